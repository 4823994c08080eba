/- Drawn regions: an operation's reads, and the steps of a walk. -/
import Derived.Test.YtngbpbncipjimaaDoorAmM
namespace Go.Proofs.YtngbpbncipjimaaDoor.AM
open Go.RowKit
set_option linter.unusedVariables false
set_option linter.unusedSimpArgs false
variable {F : Fr} {σ σ' : St} {e : Env} {a : Act} {w : World} {P : Program}

def locC : C → List Loc
  | .box β _ => [.b β]
  | .bsl β _ => [.b β]
  | .row t _ => [.r t]
  | .wp t _ _ _ => [.r t]
  | _ => []
def locCs : List C → List Loc
  | [] => []
  | c :: cs => locC c ++ locCs cs
def loc1 : D1 → List Loc
  | .c x => locC x
  | .agg cs => locCs cs
def locsD : D → List Loc
  | .one x => loc1 x
  | .tup _ => []
def AgD (d : D) (bx bx' : Nat → Option (Nat × List C)) (rw rw' : Nat → Option Row) : Prop := (∀ β, Loc.b β ∈ locsD d → bx' β = bx β) ∧ (∀ t, Loc.r t ∈ locsD d → rw' t = rw t)
section
variable {bx bx' : Nat → Option (Nat × List C)} {rw rw' : Nat → Option Row}
theorem evLoad_congr {t : TypeId} {p : D} (h : AgD p bx bx' rw rw') : evLoad P t p bx' rw' = evLoad P t p bx rw := by
  unfold evLoad
  split
  · rw [h.1 _ (by simp [locsD, loc1, locC])]
  · rfl
  · rw [h.2 _ (by simp [locsD, loc1, locC])]
  · rfl
theorem evStore_congr {t : TypeId} {p x : D} (h : AgD p bx bx' rw rw') : evStore P t p x bx' rw' = evStore P t p x bx rw := by
  unfold evStore
  split
  · split
    · split
      · split
        · rw [h.1 _ (by simp [locsD, loc1, locC])]
        · rw [h.2 _ (by simp [locsD, loc1, locC])]
        · rfl
      · rfl
    · rfl
  · rfl
theorem evIndexAddr_congr {t : TypeId} {x i : D} (h : AgD x bx bx' rw rw') : evIndexAddr P t x i rw' = evIndexAddr P t x i rw := by
  unfold evIndexAddr
  split
  · split
    · rfl
    · rw [h.2 _ (by simp [locsD, loc1, locC])]
    · rfl
  · rfl
  · rfl
theorem evLen_congr {t : TypeId} {x : D} (h : AgD x bx bx' rw rw') : evLen P t x rw' = evLen P t x rw := by
  unfold evLen
  split
  · rfl
  · rfl
  · rfl
  · rw [h.2 _ (by simp [locsD, loc1, locC])]
  · rfl
theorem srcOf_congr {m : Nat} {x : D} (h : AgD x bx bx' rw rw') : srcOf m x rw' = srcOf m x rw := by
  unfold srcOf
  split
  · rfl
  · rfl
  · rw [h.2 _ (by simp [locsD, loc1, locC])]
  · rfl
theorem evAppend_congr {dst : Option Nat} {t : TypeId} {s x : D} (hs : AgD s bx bx' rw rw') (hx : AgD x bx bx' rw rw') (hd : ∀ i, dst = some i → rw' i = rw i) : evAppend P dst t s x rw' = evAppend P dst t s x rw := by
  unfold evAppend
  simp only [srcOf_congr hx]
  split
  · split
    · split
      · split
        · rw [hs.2 _ (by simp [locsD, loc1, locC])]
        · split
          · rw [hd _ rfl]
          · rfl
        · rfl
      · rfl
    · rfl
  · rfl
theorem evBuildSlice_congr {dst : Option Nat} {t : TypeId} {n : Nat} {ps : Array (Nat × Operand)} {ρ : Operand → D} (hd : ∀ i, dst = some i → rw' i = rw i) : evBuildSlice P dst t n ps ρ rw' = evBuildSlice P dst t n ps ρ rw := by
  unfold evBuildSlice
  split
  · rw [hd _ rfl]
  · rfl
theorem evAlloc_congr {dst : Option Nat} {t : TypeId} (hd : ∀ i, dst = some i → bx' i = bx i) : evAlloc P dst t bx' = evAlloc P dst t bx := by
  unfold evAlloc
  split
  · rw [hd _ rfl]
  · rfl
theorem evBox_congr {dst : Option Nat} {t : TypeId} {x : D} (hd : ∀ i, dst = some i → bx' i = bx i) : evBox dst t x bx' = evBox dst t x bx := by
  unfold evBox
  split
  · rw [hd _ rfl]
  · rfl
theorem evSliceRow_congr {t : TypeId} {x : D} {lo hi : Option D} (h : AgD x bx bx' rw rw') : evSliceRow P t x lo hi rw' = evSliceRow P t x lo hi rw := by
  unfold evSliceRow
  split
  · rw [h.2 _ (by simp [locsD, loc1, locC])]
  · rfl
theorem evConvRow_congr {dst : Option Nat} {s d : TypeId} {x : D} (h : AgD x bx bx' rw rw') (hd : ∀ i, dst = some i → rw' i = rw i) : evConvRow P dst s d x rw' = evConvRow P dst s d x rw := by
  unfold evConvRow
  simp only [srcOf_congr h]
  split
  · rfl
  · split
    · rw [hd _ rfl]
    · rfl
  · rfl
theorem evMake_congr {dst : Option Nat} {t : TypeId} {x : D} (hd : ∀ i, dst = some i → rw' i = rw i) : evMake P dst t x rw' = evMake P dst t x rw := by
  unfold evMake
  split
  · rw [hd _ rfl]
  · rfl
theorem partsC_congr {ρ ρ' : Operand → D} : ∀ {ps : List (Nat × Operand)}, (∀ p ∈ ps, ρ' p.2 = ρ p.2) → partsC ρ' ps = partsC ρ ps
  | [], _ => rfl
  | (i, x) :: ps, h => by
    unfold partsC
    rw [h _ (List.mem_cons_self ..), partsC_congr (fun p hp => h p (List.mem_cons_of_mem _ hp))]
theorem evalA_congr {o : Oper} {ρ ρ' : Operand → D} (hρ : ∀ x ∈ o.op.operands.toList, ρ' x = ρ x) (hl : ∀ x ∈ o.op.operands.toList, AgD (ρ x) bx bx' rw rw') (hb : ∀ i, o.dst = some i → bx' i = bx i) (hr : ∀ i, o.dst = some i → rw' i = rw i) :
    evalA P o ρ' bx' rw' = evalA P o ρ bx rw := by
  unfold evalA
  generalize hop : o.op = op at hρ hl ⊢
  split <;> simp only [Op.operands, Call.operands] at hρ hl
  · rw [hρ _ (by simp)]
  · rw [hρ _ (by simp)]
  · rw [hρ _ (by simp), hρ _ (by simp), hρ _ (by simp)]
  · exact evAlloc_congr hb
  · rw [hρ _ (by simp)]; exact evBox_congr hb
  · rw [hρ _ (by simp)]; exact evLoad_congr (hl _ (by simp))
  · rw [hρ _ (by simp), hρ _ (by simp)]; exact evStore_congr (hl _ (by simp))
  · rw [hρ _ (by simp)]
  · rw [hρ _ (by simp)]
  · rw [hρ _ (by simp), hρ _ (by simp)]
  · rw [hρ _ (by simp), hρ _ (by simp)]; exact evIndexAddr_congr (bx := bx) (bx' := bx') (hl _ (by simp))
  · rw [hρ _ (by simp)]
  · unfold evBuild
    rw [partsC_congr (ρ := ρ) (ρ' := ρ') fun p hp => hρ p.2 (by simpa using ⟨p.1, Array.mem_toList_iff.1 hp⟩)]
  · rw [evBuildSlice_congr hr]
    unfold evBuildSlice
    rw [partsC_congr (ρ := ρ) (ρ' := ρ') fun p hp => hρ p.2 (by simpa using ⟨p.1, Array.mem_toList_iff.1 hp⟩)]
  · rw [hρ _ (by simp), hρ _ (by simp)]
  · rw [hρ _ (by simp)]
  · rw [hρ _ (by simp), evConvRow_congr (bx := bx) (bx' := bx') (hl _ (by simp)) hr]
  · rename_i t x lo hi
    rw [hρ x (by simp)]
    have e1 : lo.map ρ' = lo.map ρ := by cases lo <;> simp; exact hρ _ (by simp)
    have e2 : hi.map ρ' = hi.map ρ := by cases hi <;> simp; exact hρ _ (by simp)
    rw [e1, e2, evSliceRow_congr (bx := bx) (bx' := bx') (hl _ (by simp))]
  · rw [hρ _ (by simp)]
  · rw [hρ _ (by simp)]; exact evLen_congr (bx := bx) (bx' := bx') (hl _ (by simp))
  · split
    · rw [hρ _ (by simp), hρ _ (by simp)]; exact evAppend_congr (bx := bx) (bx' := bx') (hl _ (by simp)) (hl _ (by simp)) hr
    · rfl
  · rw [hρ _ (by simp), evMake_congr hr]
  · rw [hρ _ (by simp), hρ _ (by simp)]
  · rw [hρ _ (by simp), hρ _ (by simp)]
  · rfl
end
/-- the places that an operation reads -/
def opReads (σ : St) : List Operand → List Loc
  | [] => []
  | x :: xs => locsD (opnd σ x) ++ opReads σ xs
def tmpLocs : List Operand → List Loc
  | [] => []
  | .tmp t :: xs => .s t :: tmpLocs xs
  | _ :: xs => tmpLocs xs
def guardLoc (ops : Array Oper) (o : Oper) : List Loc := match o.guard with
  | some (g, _) => match (ops[g]?).bind (·.dst) with
    | some t => [.s t]
    | none => []
  | none => []
def dstLocs (o : Oper) : List Loc := match o.dst with
  | some i => [.b i, .r i]
  | none => []
def rlocs (ops : Array Oper) (σ : St) (o : Oper) : List Loc := guardLoc ops o ++ (tmpLocs o.op.operands.toList ++ (opReads σ o.op.operands.toList ++ dstLocs o))
theorem tmpLocs_mem {t : Nat} : ∀ {xs : List Operand}, Operand.tmp t ∈ xs → Loc.s t ∈ tmpLocs xs
  | x :: xs, h => by
    rcases List.mem_cons.1 h with rfl | h
    · exact List.mem_cons_self ..
    · have ih := tmpLocs_mem h
      cases x with
      | tmp t' => exact List.mem_cons_of_mem _ ih
      | const v => exact ih
      | global g => exact ih
      | func f => exact ih
theorem opReads_mem {x : Operand} {l : Loc} : ∀ {xs : List Operand}, x ∈ xs → l ∈ locsD (opnd σ x) → l ∈ opReads σ xs
  | y :: xs, h, hl => by
    rw [opReads, List.mem_append]
    rcases List.mem_cons.1 h with rfl | h
    · exact Or.inl hl
    · exact Or.inr (opReads_mem h hl)
variable {ops : Array Oper} {o : Oper} {j : Nat} {rest : List Oper} {pre : List En} {K : St → Prop}
theorem reads_opnd (h : ∀ l ∈ rlocs ops σ o, σ'.get l = σ.get l) : ∀ x ∈ o.op.operands.toList, opnd σ' x = opnd σ x := by
  intro x hx
  cases x with
  | tmp t =>
    have := h (.s t) (by unfold rlocs; simp only [List.mem_append]; exact Or.inr (Or.inl (tmpLocs_mem hx)))
    simp only [St.get, LV.s.injEq] at this
    exact this
  | _ => rfl
theorem reads_heap (h : ∀ l ∈ rlocs ops σ o, σ'.get l = σ.get l) : ∀ x ∈ o.op.operands.toList, AgD (opnd σ x) σ.box σ'.box σ.row σ'.row := by
  intro x hx
  have hm : ∀ l, l ∈ locsD (opnd σ x) → l ∈ rlocs ops σ o := fun l hl => by
    unfold rlocs; simp only [List.mem_append]; exact Or.inr (Or.inr (Or.inl (opReads_mem hx hl)))
  exact ⟨fun β hβ => by have := h _ (hm _ hβ); simpa [St.get] using this, fun t ht => by have := h _ (hm _ ht); simpa [St.get] using this⟩
theorem reads_dst (h : ∀ l ∈ rlocs ops σ o, σ'.get l = σ.get l) : (∀ i, o.dst = some i → σ'.box i = σ.box i) ∧ (∀ i, o.dst = some i → σ'.row i = σ.row i) := by
  have hm : ∀ i, o.dst = some i → Loc.b i ∈ rlocs ops σ o ∧ Loc.r i ∈ rlocs ops σ o := fun i hi => by
    unfold rlocs dstLocs; rw [hi]; simp
  exact ⟨fun i hi => by have := h _ (hm i hi).1; simpa [St.get] using this, fun i hi => by have := h _ (hm i hi).2; simpa [St.get] using this⟩
theorem reads_want (h : ∀ l ∈ rlocs ops σ o, σ'.get l = σ.get l) : wantA ops σ' o = wantA ops σ o := by
  unfold wantA
  cases hg : o.guard with
  | none => rfl
  | some p =>
    obtain ⟨g, want⟩ := p
    simp only
    cases ht : (ops[g]?).bind (·.dst) with
    | none => rfl
    | some t =>
      have := h (.s t) (by unfold rlocs guardLoc; rw [hg]; simp [ht])
      have h2 : σ'.slot t = σ.slot t := by simpa [St.get] using this
      simp only [h2]
theorem en_eval (hn : opsOk F.n ops = true) (ho : ops[j]? = some o) (hw : wantA ops σ o = some true) {res : Res} (he : evalA P o (opnd σ) σ.box σ.row = some res) (hc : res.cond) : EnOk P F ops j ⟨rlocs ops σ o, o.dst, res⟩ σ := by
  intro σ' h e a w hR Qx K hK
  have hd : ∀ k, o.dst = some k → k < F.n := fun k hk => opsOk_dst hn (by rw [ho]; exact hk)
  have he' : evalA P o (opnd σ') σ'.box σ'.row = some res := by
    rw [evalA_congr (reads_opnd h) (reads_heap h) (reads_dst h).1 (reads_dst h).2]; exact he
  obtain ⟨v, w', e', h1, h2, h3, h4⟩ := evalA_ok he' e a w hR hc
  have hR' : R F ((σ'.app res).put o.dst res.val) e' (a.put o.dst v) w' := hR.next h2 h3 rfl o.dst hd v res.val h4
  have hnext := hK _ _ e' hR'
  unfold wpOp
  simp only [ho]
  rw [wantA_ok hR ((reads_want h).trans hw) (fun g _ t ht => opsOk_dst hn ht), if_pos rfl]
  refine .inl ?_
  unfold Oper.wp
  rcases h1 with h1 | ⟨h1, rfl⟩
  · rw [h1]; exact hnext
  · rw [h1]; exact hnext
theorem en_skip (hn : opsOk F.n ops = true) (ho : ops[j]? = some o) (hw : wantA ops σ o = some false) : EnOk P F ops j ⟨rlocs ops σ o, o.dst, { cond := True, val := valD undef }⟩ σ := by
  intro σ' h e a w hR Qx K hK
  have hd : ∀ k, o.dst = some k → k < F.n := fun k hk => opsOk_dst hn (by rw [ho]; exact hk)
  have hR' : R F (σ'.put o.dst (valD undef)) e (a.put o.dst undef) w := hR.pure hd (drep_val _)
  unfold wpOp
  simp only [ho]
  rw [wantA_ok hR ((reads_want h).trans hw) (fun g _ t ht => opsOk_dst hn ht), if_neg (by decide)]
  exact hK _ _ e hR'
theorem pureC_congr {rw rw' : Nat → Option Row} {c : C} (h : ∀ t, Loc.r t ∈ locC c → rw' t = rw t) : pureC rw' c = pureC rw c := by
  unfold pureC
  split
  · rfl
  · rfl
  · rw [h _ (by simp [locC])]
  · rfl
theorem pureCs_congr {rw rw' : Nat → Option Row} : ∀ {cs : List C}, (∀ t, Loc.r t ∈ locCs cs → rw' t = rw t) → pureCs rw' cs = pureCs rw cs
  | [], _ => rfl
  | c :: cs, h => by
    unfold pureCs
    rw [pureC_congr (fun t ht => h t (by rw [locCs, List.mem_append]; exact Or.inl ht)), pureCs_congr (fun t ht => h t (by rw [locCs, List.mem_append]; exact Or.inr ht))]
theorem pureD_congr {rw rw' : Nat → Option Row} {d : D} (h : ∀ t, Loc.r t ∈ locsD d → rw' t = rw t) : pureD rw' d = pureD rw d := by
  cases d with
  | one x =>
    cases x with
    | c x => simp only [pureD, pure1, pureC_congr (c := x) h]
    | agg cs => simp only [pureD, pure1, pureCs_congr (cs := cs) h]
  | tup xs => rfl
theorem pureDs_congr {rw rw' : Nat → Option Row} : ∀ {ds : List D}, (∀ d ∈ ds, ∀ t, Loc.r t ∈ locsD d → rw' t = rw t) → pureDs rw' ds = pureDs rw ds
  | [], _ => rfl
  | d :: ds, h => by
    unfold pureDs
    rw [pureD_congr (h d (List.mem_cons_self ..)), pureDs_congr (fun d' hd' => h d' (List.mem_cons_of_mem _ hd'))]
theorem en_call (hn : opsOk F.n ops = true) (ho : ops[j]? = some o) (hw : wantA ops σ o = some true) {x : Operand} {xs : Array Operand} {ts : Array TypeId} (hop : o.op = .call { callee := .value x, args := xs, argTypes := ts })
    {f : FuncId} (hf : callee σ x = some f) (hb : hasBody P f = true) {ds : List D} (hds : pureDs σ.row (xs.toList.map (opnd σ)) = some ds) {d : D} (hc : PCalls P F.G f ds d) : EnOk P F ops j ⟨rlocs ops σ o, o.dst, { cond := True, val := d }⟩ σ := by
  intro σ' h e a w hR Qx K hK
  have hd : ∀ k, o.dst = some k → k < F.n := fun k hk => opsOk_dst hn (by rw [ho]; exact hk)
  have hops := reads_opnd h
  have hheap := reads_heap h
  rw [hop] at hops hheap
  simp only [Op.operands, Call.operands] at hops hheap
  have hx : opnd σ' x = opnd σ x := hops x (by simp)
  have hxs : xs.toList.map (opnd σ') = xs.toList.map (opnd σ) := List.map_congr_left fun y hy => hops y (by simp; exact Or.inr (by simpa using hy))
  have hds' : pureDs σ'.row (xs.toList.map (opnd σ')) = some ds := by
    rw [hxs, pureDs_congr (rw := σ.row) (rw' := σ'.row)]
    · exact hds
    · intro d' hd' t ht
      obtain ⟨y, hy, rfl⟩ := List.mem_map.1 hd'
      exact (hheap y (by simp; exact Or.inr (by simpa using hy))).2 t ht
  have hf' : callee σ' x = some f := by unfold callee at *; rw [hx]; exact hf
  unfold wpOp
  simp only [ho]
  rw [wantA_ok hR ((reads_want h).trans hw) (fun g _ t ht => opsOk_dst hn ht), if_pos rfl]
  refine .inl ?_
  unfold callee at hf'
  split at hf'
  case h_2 => cases hf'
  rename_i f' hxx
  simp only [Option.some.injEq] at hf'
  subst hf'
  have h1 := hR.opnd x
  rw [hxx] at h1
  have h2 := of_val h1
  have hrun : (execOp a.eval o).run P w = .ok (.enter f' (xs.map a.eval)) w := by
    have := run_call hb (xs.map a.eval) w
    simp [execOp, hop, Sem.run_bind, resolve, h2, Deferred.ofValue, invoke, this]
  unfold Oper.wp
  rw [hrun]
  refine (call_back hc hR.hp (vs := xs.map a.eval) (by rw [Array.toList_map]; exact pureDs_ok hR.hp hds' (opnds_ok hR _))).mono ?_
  rintro en w' ⟨v, e', rfl, h3, h4, h5⟩
  exact hK _ _ e' (hR.next h3 h4 rfl o.dst hd v d h5)

/-! the walk over a drawn region -/
def ADraw (P : Program) (F : Fr) (ops : Array Oper) (pre : List En) (rest : List Oper) (σ : St) (K : St → Prop) : Prop :=
  opsOk F.n ops = true → ops.toList.drop pre.length = rest → ∃ post, ChainOk P F ops pre.length σ post ∧ okDraw ops (pre.reverse ++ post) = true ∧ K (appAll post σ)
theorem adraw_nil (hok : okDraw ops pre.reverse = true) (h : K σ) : ADraw P F ops pre [] σ K := fun _ _ => ⟨[], trivial, by simpa using hok, h⟩
theorem adraw_en {en : En} (hen : opsOk F.n ops = true → ops[pre.length]? = some o → EnOk P F ops pre.length en σ) (h : ADraw P F ops (en :: pre) rest (en.app σ) K) : ADraw P F ops pre (o :: rest) σ K := by
  intro hn hdrop
  have ho : ops[pre.length]? = some o := by
    have : (ops.toList.drop pre.length)[0]? = some o := by rw [hdrop]; rfl
    rw [List.getElem?_drop, Nat.add_zero] at this
    simpa using this
  have hdrop' : ops.toList.drop (en :: pre).length = rest := by
    rw [List.length_cons, ← List.drop_drop, hdrop]; rfl
  obtain ⟨post, h1, h2, h3⟩ := h hn hdrop'
  exact ⟨en :: post, ⟨hen hn ho, h1⟩, by simpa using h2, h3⟩
/-- one operation: what is to be shown; K1: what stands behind it -/
def stepD (σ : St) (rl : List Loc) (dst : Option Nat) (K1 : En → St → Prop) : Option Bool → Option Res → Prop
  | some true, some res => res.cond ∧ K1 ⟨rl, dst, res⟩ ((σ.app res).put dst res.val)
  | some false, _ => K1 ⟨rl, dst, { cond := True, val := valD undef }⟩ (σ.put dst (valD undef))
  | _, _ => False
theorem adraw_step (h : ∀ K1 : En → St → Prop, (∀ en σ', ADraw P F ops (en :: pre) rest σ' K → K1 en σ') → stepD σ (rlocs ops σ o) o.dst K1 (wantA ops σ o) (evalA P o (opnd σ) σ.box σ.row)) : ADraw P F ops pre (o :: rest) σ K := by
  have h := h (fun en σ' => ADraw P F ops (en :: pre) rest σ' K) (fun _ _ h => h)
  unfold stepD at h
  split at h
  · rename_i res hw he
    exact adraw_en (fun hn ho => en_eval hn ho hw he h.1) h.2
  · rename_i hw
    refine adraw_en (en := ⟨rlocs ops σ o, o.dst, { cond := True, val := valD undef }⟩) (fun hn ho => en_skip hn ho hw) ?_
    have e1 : (⟨rlocs ops σ o, o.dst, { cond := True, val := valD undef }⟩ : En).app σ = σ.put o.dst (valD undef) := rfl
    rw [e1]; exact h
  · exact h.elim
theorem adraw_call (hw : wantA ops σ o = some true) {x : Operand} {xs : Array Operand} {ts : Array TypeId} (hop : o.op = .call { callee := .value x, args := xs, argTypes := ts })
    {f : FuncId} (hf : callee σ x = some f) (hb : hasBody P f = true) {ds : List D} (hds : pureDs σ.row (xs.toList.map (opnd σ)) = some ds) {d : D} (hc : PCalls P F.G f ds d)
    (h : ∀ K1 : En → St → Prop, (∀ en σ', ADraw P F ops (en :: pre) rest σ' K → K1 en σ') → K1 ⟨rlocs ops σ o, o.dst, { cond := True, val := d }⟩ (σ.put o.dst d)) : ADraw P F ops pre (o :: rest) σ K := by
  have h := h (fun en σ' => ADraw P F ops (en :: pre) rest σ' K) (fun _ _ h => h)
  refine adraw_en (fun hn ho => en_call hn ho hw hop hf hb hds hc) ?_
  have e1 : (⟨rlocs ops σ o, o.dst, { cond := True, val := d }⟩ : En).app σ = σ.put o.dst d := rfl
  rw [e1]; exact h
theorem acode_draw_seq {id : Nat} {l : List Oper} {y : Code} {Q : Exit → St → Prop} (hm : P.follows .mixedOrders = true) (hn : opsOk F.n l.toArray = true) (h : ADraw P F l.toArray [] l σ (fun σ' => ACode P F y σ' Q)) : ACode P F (.seq (.region id l.toArray true) y) σ Q := by
  obtain ⟨post, h1, h2, h3⟩ := h hn (by simp)
  exact acode_seq (acode_draw hm hn post h1 (by simpa using h2) h3)
theorem acode_draw_one {id : Nat} {l : List Oper} {Q : Exit → St → Prop} (hm : P.follows .mixedOrders = true) (hn : opsOk F.n l.toArray = true) (h : ADraw P F l.toArray [] l σ (Q .normal)) : ACode P F (.region id l.toArray true) σ Q := by
  obtain ⟨post, h1, h2, h3⟩ := h hn (by simp)
  exact acode_draw hm hn post h1 (by simpa using h2) h3
theorem ba_size (a : Array UInt8) : (ByteArray.mk a).size = a.size := rfl
attribute [push_cast] Option.pure_def Option.bind_eq_bind Option.bind_some Nat.zero_mul Nat.mul_zero Nat.one_mul Nat.mul_one Nat.zero_le Option.isSome_some Option.isSome_none ba_size List.size_toArray Nat.zero_add Nat.add_zero St.of List.lookup_cons List.lookup_nil Option.getD_some Option.getD_none beq_self_eq_true clD cl1 clC List.forall_mem_cons stepD rlocs guardLoc tmpLocs opReads dstLocs locsD loc1 locC locCs Op.operands Call.operands callee List.append_nil
end Go.Proofs.YtngbpbncipjimaaDoor.AM
