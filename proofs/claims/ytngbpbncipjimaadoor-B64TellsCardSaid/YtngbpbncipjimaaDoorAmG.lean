/- What the plain machine does at an operation: slices, lengths, literals, appends. -/
import Derived.Test.YtngbpbncipjimaaDoorAmF
namespace Go.Proofs.YtngbpbncipjimaaDoor.AM
open Go.RowKit
set_option linter.unusedVariables false
set_option linter.unusedSimpArgs false
variable {F : Fr} {σ : St} {e : Env} {a : Act} {w : World} {P : Program}

/-! a part of a string, or of a list -/
def bnd (d : Int) : Option D → Option Int
  | none => some d
  | some (.one (.c (.d (.v (.int _ n))))) => some n
  | some _ => none
theorem run_bnd {x : Option Operand} {d : Int} {l : Int} {y : Nat} {code : BoundsCode} (hR : R F σ e a w) (h : bnd d (x.map (opnd σ)) = some l) (h0 : 0 ≤ l) (h1 : l ≤ y) (hd : x = none → d = l) :
    ∀ v, x.map a.eval = some v → (Instr.sliceBound v y code).run P w = .ok l.toNat w := by
  intro v hv
  cases x with
  | none => cases hv
  | some x =>
    simp only [Option.map_some, Option.some.injEq] at hv h
    subst hv
    unfold bnd at h
    split at h
    · rename_i hh; cases hh
    · rename_i k n hh
      simp only [Option.some.injEq] at hh h
      subst h
      have h3 := hR.opnd x
      rw [hh] at h3
      rw [of_val h3]
      exact run_sliceBound (P := P) w k n y code h0 h1
    · cases h
theorem run_bounds {lo hi : Option Operand} {l h : Int} {isSlice : Bool} {len cap : Nat} (hR : R F σ e a w) (hl : bnd 0 (lo.map (opnd σ)) = some l) (hh : bnd len (hi.map (opnd σ)) = some h) (h0 : 0 ≤ l) (h1 : l ≤ h) (h2 : h ≤ len) (h3 : len ≤ cap) :
    (Instr.sliceBounds isSlice len cap (lo.map a.eval) (hi.map a.eval) none).run P w = .ok (l.toNat, h.toNat, cap) w := by
  have e1 := run_bnd (P := P) (y := cap) (code := if isSlice then .sliceAcap else .sliceAlen) hR hh (by omega) (by omega) (fun e => by subst e; simpa [bnd] using hh)
  have e2 := run_bnd (P := P) (y := h.toNat) (code := .sliceB) hR hl (by omega) (by omega) (fun e => by subst e; simpa [bnd] using hl)
  cases lo with
  | none =>
    have : l = 0 := by simpa [bnd] using hl.symm
    subst this
    cases hi with
    | none =>
      have : h = len := by simpa [bnd] using hh.symm
      subst this
      simp [Instr.sliceBounds]
    | some y => simp [Instr.sliceBounds, e1 _ rfl]
  | some x =>
    cases hi with
    | none =>
      have : h = len := by simpa [bnd] using hh.symm
      subst this
      have e2' := e2 _ rfl
      simp only [Int.toNat_natCast] at e2'
      simp [Instr.sliceBounds, e2']
    | some y => simp [Instr.sliceBounds, Sem.run_bind, e1 _ rfl, e2 _ rfl]
def evSlice (P : Program) (t : TypeId) (x : D) (lo hi : Option D) : Option Res := match P.underlying t, x with
  | some .string, .one (.c (.d (.v (.string s)))) => match bnd 0 lo, bnd s.size hi with
    | some l, some h => some { cond := 0 ≤ l ∧ l ≤ h ∧ h ≤ s.size, val := valD (.string (s.extract l.toNat h.toNat)) }
    | _, _ => none
  | some (.slice el), .one (.c (.d (.lst sz xs))) => match bnd 0 lo, bnd xs.length hi with
    | some l, some h => if tsz P el = some sz then some { cond := 0 ≤ l ∧ l ≤ h ∧ h ≤ xs.length, val := .one (.c (.d (.lst sz ((xs.drop l.toNat).take (h.toNat - l.toNat))))) } else none
    | _, _ => none
  | _, _ => none
theorem dat_slice {Pc : Nat → Nat → Prop} {aa : Option Addr} {n cap sz : Nat} {xs : List (List Dat)} (h : DatRep Pc w (.slice aa n cap) (.lst sz xs)) {l k : Nat} (h1 : l + k ≤ xs.length) :
    DatRep Pc w (.slice (if cap = l then aa else aa.map (·.add (l * sz))) k (cap - l)) (.lst sz ((xs.drop l).take k)) := by
  cases h with
  | lst _ _ _ _ _ b off c hn hcap hmax hsz ha hcc hr =>
    have hlen : ((xs.drop l).take k).length = k := by rw [List.length_take, List.length_drop]; omega
    refine .lst _ _ _ sz _ b (off + l * sz) (fun i j => c (l + i) j) hlen.symm (by omega) (by omega) (fun x hx => hsz x (List.mem_of_mem_drop (List.mem_of_mem_take hx))) (fun h0 => ?_) (fun i j hi hj => ?_) (fun i j hi hj => ?_)
    · rw [hlen] at h0
      rw [if_neg (by omega), ha (by omega)]
      simp [add_lit]
    · rw [hlen] at hi
      have := hcc (l + i) j (by omega) hj
      rw [show off + l * sz + i * sz + j = off + (l + i) * sz + j from by rw [Nat.add_mul]; omega]
      exact this
    · rw [hlen] at hi
      simp only [List.getElem_take, List.getElem_drop] at hj ⊢
      exact hr (l + i) j (by omega) hj
theorem ok_slice {o : Oper} {t : TypeId} {x : Operand} {lo hi : Option Operand} {res : Res} (ho : o.op = .slice t x lo hi none) (h : evSlice P t (opnd σ x) (lo.map (opnd σ)) (hi.map (opnd σ)) = some res) : OpOk P F o σ res := by
  unfold evSlice at h
  split at h
  · rename_i s hu hx
    split at h
    case h_2 => cases h
    rename_i l hh hl hhh
    simp only [Option.some.injEq] at h
    subst h
    refine OpOk.same fun e a w hR hc => ?_
    obtain ⟨c1, c2, c3⟩ := hc
    have h1 := hR.opnd x
    rw [hx] at h1
    have h2 := of_val h1
    have hb := run_bounds (P := P) (isSlice := false) (cap := s.size) hR hl hhh c1 c2 (by omega) (Nat.le_refl _)
    refine ⟨_, ?_, drep_val _⟩
    simp [execOp, ho, h2, Sem.run_bind, Instr.sliceAt, Instr.slice, run_underlying hu w, hb]
  · rename_i el sz xs hu hx
    split at h
    case h_2 => cases h
    rename_i l hh hl hhh
    split at h
    case isFalse => cases h
    rename_i hsz
    simp only [Option.some.injEq] at h
    subst h
    refine OpOk.same fun e a w hR hc => ?_
    obtain ⟨c1, c2, c3⟩ := hc
    have h1 := hR.opnd x
    rw [hx] at h1
    have h1' : DatRep e.Pc w (a.eval x) (.lst sz xs) := h1
    generalize hv : a.eval x = v at h1'
    have h1'' := h1'
    cases h1' with
    | lst aa nn cap _ _ b off c hn hcap hmax hs ha hcc hr =>
      have hb := run_bounds (P := P) (isSlice := true) (len := nn) (cap := cap) hR hl (by rw [hn]; exact hhh) c1 c2 (by omega) hcap
      refine ⟨.slice (if cap = l.toNat then aa else aa.map (·.add (l.toNat * sz))) (hh.toNat - l.toNat) (cap - l.toNat), ?_, dat_slice h1'' (by omega)⟩
      simp [execOp, ho, hv, Sem.run_bind, Instr.sliceAt, Instr.slice, run_underlying hu w, hb, run_sizeOf' hsz w]
  · cases h

/-! lengths -/
def evLen (P : Program) (t : TypeId) (x : D) (rw : Nat → Option Row) : Option Res := match P.underlying t, x with
  | some .string, .one (.c (.d (.v (.string s)))) => some { cond := True, val := valD (.int .i64 s.size) }
  | some (.slice _), .one (.c (.d (.lst _ xs))) => some { cond := True, val := valD (.int .i64 xs.length) }
  | some (.slice _), .one (.c (.d (.v (.slice none 0 0)))) => some { cond := True, val := valD (.int .i64 0) }
  | some (.slice _), .one (.c (.row tt g)) => match rw tt with
    | some r => if r.gen = g then some { cond := True, val := valD (.int .i64 r.xs.length) } else none
    | none => none
  | _, _ => none
theorem row_len (h : Hp F σ e w) {t : Nat} {r : Row} (hr : σ.row t = some r) : ∃ a c, e.rv t r.gen = .slice a r.xs.length c := by
  obtain ⟨_, cells, h1, _⟩ := h.rows t r hr
  rcases h1.2 with ⟨h4, h5⟩ | ⟨g, cap, cur, h4, _⟩
  · exact ⟨none, 0, by rw [h4, h5]⟩
  · exact ⟨_, cap, h4⟩
theorem ok_len {o : Oper} {t : TypeId} {x : Operand} {res : Res} (ho : o.op = .call { callee := .builtin .len, args := #[x], argTypes := #[t] }) (h : evLen P t (opnd σ x) σ.row = some res) : OpOk P F o σ res := by
  unfold evLen at h
  split at h
  · rename_i s hu hx
    simp only [Option.some.injEq] at h
    subst h
    refine OpOk.same fun e a w hR _ => ?_
    have h1 := hR.opnd x
    rw [hx] at h1
    exact ⟨_, by simp [execOp, ho, of_val h1, Sem.run_bind, resolve, invoke, builtin, Builtin.len_, run_underlying hu w, goInt], drep_val _⟩
  · rename_i el sz xs hu hx
    simp only [Option.some.injEq] at h
    subst h
    refine OpOk.same fun e a w hR _ => ?_
    have h1 := hR.opnd x
    rw [hx] at h1
    have h1' : DatRep e.Pc w (a.eval x) (.lst sz xs) := h1
    generalize hv : a.eval x = v at h1'
    cases h1' with
    | lst aa nn cap _ _ b off c hn hcap hmax hs ha hcc hr =>
      subst hn
      exact ⟨_, by simp [execOp, ho, hv, Sem.run_bind, resolve, invoke, builtin, Builtin.len_, run_underlying hu w, goInt], drep_val _⟩
  · rename_i el hu hx
    simp only [Option.some.injEq] at h
    subst h
    refine OpOk.same fun e a w hR _ => ?_
    have h1 := hR.opnd x
    rw [hx] at h1
    exact ⟨_, by simp [execOp, ho, of_val h1, Sem.run_bind, resolve, invoke, builtin, Builtin.len_, run_underlying hu w, goInt], drep_val _⟩
  · rename_i el tt g hu hx
    split at h
    case h_2 => cases h
    rename_i r hr
    split at h
    case isFalse => cases h
    rename_i hg
    subst hg
    simp only [Option.some.injEq] at h
    subst h
    refine OpOk.same fun e a w hR _ => ?_
    have h1 := hR.opnd x
    rw [hx] at h1
    obtain ⟨_, h5, _⟩ : (∃ r', σ.row tt = some r' ∧ r.gen ≤ r'.gen) ∧ a.eval x = e.rv tt r.gen ∧ _ := h1
    obtain ⟨aa, c, h6⟩ := row_len hR.hp hr
    exact ⟨_, by simp [execOp, ho, h5, h6, Sem.run_bind, resolve, invoke, builtin, Builtin.len_, run_underlying hu w, goInt], drep_val _⟩
  · cases h

/-! literals -/
def fillC (place : Nat → Option (Nat × Nat)) (cs : List C) : List (Nat × List C) → Option (List C)
  | [] => some cs
  | (i, xs) :: rest => match place i with
    | some (off, size) => if xs.length = size ∧ off + xs.length ≤ cs.length then fillC place (setAt cs off xs) rest else none
    | none => none
theorem set_setAt {α : Type} (l : List α) (i : Nat) (v : α) (vs : List α) (h : i < l.length) : setAt (l.set i v) (i + 1) vs = setAt l i (v :: vs) := by
  unfold setAt
  have e : l.set i v = l.take i ++ v :: l.drop (i + 1) := by rw [List.set_eq_take_append_cons_drop, if_pos h]
  have hl : (l.take i).length = i := by rw [List.length_take]; omega
  rw [e, List.take_append, List.drop_append, hl, List.take_of_length_le (l := l.take i) (by omega), List.drop_eq_nil_of_le (as := l.take i) (by omega), show i + 1 - i = 1 from by omega, show i + 1 + vs.length - i = vs.length + 1 from by omega]
  simp only [List.take_succ_cons, List.take_zero, List.drop_succ_cons, List.drop_drop, List.nil_append, List.append_assoc, List.cons_append, List.length_cons]
  rw [show i + 1 + vs.length = i + (vs.length + 1) from by omega]
theorem foldl_set (off : Nat) : ∀ (vs : List Value) (k : Nat) (cells : Array Value), off + k + vs.length ≤ cells.size →
    ((vs.zipIdx k).foldl (fun cs (p : Value × Nat) => cs.setIfInBounds (off + p.2) p.1) cells).toList = setAt cells.toList (off + k) vs
  | [], k, cells, _ => by simp [setAt]
  | v :: vs, k, cells, h => by
    simp only [List.length_cons] at h
    rw [List.zipIdx_cons, List.foldl_cons, foldl_set off vs (k + 1) _ (by simp; omega), Array.toList_setIfInBounds]
    exact set_setAt _ _ _ _ (by rw [Array.length_toList]; omega)
/-- values and plain cells, part by part -/
def PartsRep (e : Env) (σ : St) (w : World) : List (Nat × Value) → List (Nat × List C) → Prop
  | [], [] => True
  | (i, v) :: rest, (j, xs) :: rest' => i = j ∧ All2 (CRep e σ w) v.cells.toList xs ∧ (∀ u ∈ v.cells.toList, u.oneCell' = true) ∧ PartsRep e σ w rest rest'
  | _, _ => False
theorem fill_rep {place : Nat → Option (Nat × Nat)} : ∀ (ps : List (Nat × Value)) (qs : List (Nat × List C)) (vs : Array Value) (cs cs' : List C), PartsRep e σ w ps qs → All2 (CRep e σ w) vs.toList cs → (∀ u ∈ vs.toList, u.oneCell' = true) → fillC place cs qs = some cs' →
    ∃ vs' : Array Value, Instr.fill place vs ps = some vs' ∧ All2 (CRep e σ w) vs'.toList cs' ∧ (∀ u ∈ vs'.toList, u.oneCell' = true)
  | [], [], vs, cs, cs', _, h, h1, hf => by
    simp only [fillC, Option.some.injEq] at hf
    subst hf
    exact ⟨vs, rfl, h, h1⟩
  | (i, v) :: ps, (j, xs) :: qs, vs, cs, cs', ⟨hij, hv, hv1, hp⟩, h, h1, hf => by
    subst hij
    unfold fillC at hf
    split at hf
    case h_2 => cases hf
    rename_i off size hpl
    split at hf
    case isFalse => cases hf
    rename_i hle
    have hl1 := hv.length
    have hl2 := h.length
    rw [Array.length_toList] at hl1 hl2
    have e1 := foldl_set off v.cells.toList 0 vs (by rw [Array.length_toList]; omega)
    rw [Nat.add_zero] at e1
    have e2 : (v.cells.zipIdx.foldl (fun cs (c, j) => cs.setIfInBounds (off + j) c) vs).toList = setAt vs.toList off v.cells.toList := by
      rw [← e1, ← Array.foldl_toList, Array.toList_zipIdx]
    obtain ⟨vs', g1, g2, g3⟩ := fill_rep ps qs (v.cells.zipIdx.foldl (fun cs (c, j) => cs.setIfInBounds (off + j) c) vs) (setAt cs off xs) cs' hp (by rw [e2]; exact all2_setAt h hv off) (by
      rw [e2]
      intro u hu
      rcases mem_setAt hu with hu | hu
      · exact h1 u hu
      · exact hv1 u hu) hf
    refine ⟨vs', ?_, g2, g3⟩
    unfold Instr.fill
    simp only [hpl]
    rw [if_neg]
    · exact g1
    · have : ¬ (v.cells.size ≠ size || decide (off + v.cells.size > vs.size)) = true := by
        simp only [Bool.or_eq_true, decide_eq_true_eq, not_or]
        omega
      exact this
  | [], _ :: _, _, _, _, h, _, _, _ => h.elim
  | _ :: _, [], _, _, _, h, _, _, _ => h.elim

def places (P : Program) (fs : Array Field) : Option (List (Nat × Nat)) := fs.toList.mapM fun f => (P.info? f.type).map fun i => (f.offset, i.size)
def layT (P : Program) (t : TypeId) : Option (List (Nat × Nat)) := match P.underlying t with
  | some (.struct fs) => places P fs
  | _ => none
def arrT (P : Program) (t : TypeId) : Option Nat := match P.underlying t with
  | some (.array _ el) => tsz P el
  | _ => none
def builtC (P : Program) (t : TypeId) (parts : List (Nat × List C)) : Option (List C) := match tzero P t, layT P t, arrT P t with
  | some z, some pl, _ => if z.all Value.oneCell' = true then fillC (pl.toArray[·]?) (z.map valC) parts else none
  | some z, none, some n => if z.all Value.oneCell' = true then fillC (fun i => some (i * n, n)) (z.map valC) parts else none
  | _, _, _ => none
theorem built_rep {t : TypeId} {ps : List (Nat × Value)} {qs : List (Nat × List C)} {cs : List C} (hp : PartsRep e σ w ps qs) (h : builtC P t qs = some cs) :
    ∃ vs : Array Value, P.built t ps = some vs ∧ All2 (CRep e σ w) vs.toList cs := by
  unfold builtC at h
  split at h
  · rename_i z pl hz hl
    split at h
    case isFalse => cases h
    rename_i h1
    unfold layT at hl
    split at hl
    case h_2 => cases hl
    rename_i fs hu
    unfold tzero at hz
    obtain ⟨inf, hi, hz1⟩ := Option.bind_eq_some_iff.1 hz
    obtain ⟨zv, hz2, rfl⟩ := Option.map_eq_some_iff.1 hz1
    obtain ⟨vs, g1, g2, _⟩ := fill_rep ps qs zv.cells _ cs hp (all2_map valC crep_val _) (fun u hu => List.all_eq_true.1 h1 u hu) h
    refine ⟨vs, ?_, g2⟩
    unfold Program.built
    unfold places at hl
    simp only [hi, hu, hz2, hl]
    exact g1
  · rename_i z n hz hl hm
    split at h
    case isFalse => cases h
    rename_i h1
    unfold arrT at hm
    split at hm
    case h_2 => cases hm
    rename_i k el hu
    unfold tzero at hz
    obtain ⟨inf, hi, hz1⟩ := Option.bind_eq_some_iff.1 hz
    obtain ⟨zv, hz2, rfl⟩ := Option.map_eq_some_iff.1 hz1
    unfold tsz at hm
    obtain ⟨ie, hie, rfl⟩ := Option.map_eq_some_iff.1 hm
    obtain ⟨vs, g1, g2, _⟩ := fill_rep ps qs zv.cells _ cs hp (all2_map valC crep_val _) (fun u hu => List.all_eq_true.1 h1 u hu) h
    refine ⟨vs, ?_, g2⟩
    unfold Program.built
    simp only [hi, hu, hz2, hie]
    exact g1
  · cases h
/-- the parts of a literal -/
def partsC (ρ : Operand → D) : List (Nat × Operand) → Option (List (Nat × List C))
  | [] => some []
  | (i, x) :: rest => match ρ x, partsC ρ rest with
    | .one d, some r => if (cellsOf1 d).all okC = true then some ((i, cellsOf1 d) :: r) else none
    | _, _ => none
theorem parts_rep (hR : R F σ e a w) : ∀ (ps : List (Nat × Operand)) (qs : List (Nat × List C)), partsC (opnd σ) ps = some qs → PartsRep e σ w (ps.map fun (i, x) => (i, a.eval x)) qs
  | [], qs, h => by simp only [partsC, Option.some.injEq] at h; subst h; exact trivial
  | (i, x) :: ps, qs, h => by
    unfold partsC at h
    split at h
    case h_2 => cases h
    rename_i d r hd hr
    split at h
    case isFalse => cases h
    rename_i hok
    simp only [Option.some.injEq] at h
    subst h
    have h4 := hR.opnd x
    rw [hd] at h4
    obtain ⟨h5, h6⟩ := cells_of (show Rep1 e σ w (a.eval x) d from h4) hok
    exact ⟨rfl, h5, h6, parts_rep hR ps r hr⟩
def evBuild (P : Program) (t : TypeId) (ps : Array (Nat × Operand)) (ρ : Operand → D) : Option Res := match partsC ρ ps.toList with
  | some qs => match builtC P t qs with
    | some cs => some { cond := True, val := .one (.agg cs) }
    | none => none
  | none => none
theorem ok_build {o : Oper} {t : TypeId} {ps : Array (Nat × Operand)} {res : Res} (ho : o.op = .build t ps) (h : evBuild P t ps (opnd σ) = some res) : OpOk P F o σ res := by
  unfold evBuild at h
  split at h
  case h_2 => cases h
  rename_i qs hqs
  split at h
  case h_2 => cases h
  rename_i cs hcs
  simp only [Option.some.injEq] at h
  subst h
  refine OpOk.same fun e a w hR _ => ?_
  obtain ⟨vs, h1, h2⟩ := built_rep (parts_rep hR _ _ hqs) hcs
  refine ⟨.agg vs, ?_, vs, rfl, h2⟩
  have := run_build (P := P) w t (ps.map fun (i, x) => (i, a.eval x)) vs (by rw [Array.toList_map]; exact h1)
  simp [execOp, ho, this]
end Go.Proofs.YtngbpbncipjimaaDoor.AM
