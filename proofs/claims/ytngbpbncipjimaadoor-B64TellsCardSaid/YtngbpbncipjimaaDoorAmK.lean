/- All operations of the plain machine; calls; regions in the order of the text; code; whole functions. -/
import Derived.Test.YtngbpbncipjimaaDoorAmJ
import Derived.Scope
namespace Go.Proofs.YtngbpbncipjimaaDoor.AM
open Go.RowKit
set_option linter.unusedVariables false
variable {F : Fr} {σ : St} {e : Env} {a : Act} {w : World} {P : Program}

def evalA (P : Program) (o : Oper) (ρ : Operand → D) (bx : Nat → Option (Nat × List C)) (rw : Nat → Option Row) : Option Res := match o.op with
  | .move x => some { cond := True, val := ρ x }
  | .assign x => some { cond := True, val := ρ x }
  | .pick c x y => evPick (ρ c) (ρ x) (ρ y)
  | .alloc t => evAlloc P o.dst t bx
  | .box t x => evBox o.dst t (ρ x) bx
  | .load t x => evLoad P t (ρ x) bx rw
  | .store t x y => evStore P t (ρ x) (ρ y) bx rw
  | .fieldAddr t x f => evFieldAddr P t (ρ x) f
  | .field t x f => evField P t (ρ x) f
  | .index t x i => evIndex P t (ρ x) (ρ i)
  | .indexAddr t x i => evIndexAddr P t (ρ x) (ρ i) rw
  | .extract x i => evExtract (ρ x) i
  | .build t ps => evBuild P t ps ρ
  | .buildSlice t n ps => evBuildSlice P o.dst t n ps ρ rw
  | .binOp op t x y _ => evBin P op t (ρ x) (ρ y)
  | .unOp op _ x => evUn op (ρ x)
  | .convert s d x => match evConv P s d (ρ x) with
    | some r => some r
    | none => evConvRow P o.dst s d (ρ x) rw
  | .slice t x lo hi none => match evSlice P t (ρ x) (lo.map ρ) (hi.map ρ) with
    | some r => some r
    | none => evSliceRow P t (ρ x) (lo.map ρ) (hi.map ρ) rw
  | .nilCheck x => evNil (ρ x)
  | .call ⟨.builtin .len, ⟨[x]⟩, ⟨[t]⟩⟩ => evLen P t (ρ x) rw
  | .call ⟨.builtin .append, ⟨[s, x]⟩, ⟨[t, t']⟩⟩ => if t = t' then evAppend P o.dst t (ρ s) (ρ x) rw else none
  | .makeSlice t x y => bif sameOp x y then evMake P o.dst t (ρ x) rw else none
  | .call ⟨.builtin .max, ⟨[x, y]⟩, ⟨[_, _]⟩⟩ => evMM max (ρ x) (ρ y)
  | .call ⟨.builtin .min, ⟨[x, y]⟩, ⟨[_, _]⟩⟩ => evMM min (ρ x) (ρ y)
  | _ => none
theorem evalA_ok {o : Oper} {res : Res} (h : evalA P o (opnd σ) σ.box σ.row = some res) : OpOk P F o σ res := by
  unfold evalA at h
  split at h
  · rename_i ho; simp only [Option.some.injEq] at h; subst h; exact ok_move (Or.inl ho)
  · rename_i ho; simp only [Option.some.injEq] at h; subst h; exact ok_move (Or.inr ho)
  · rename_i ho; exact ok_pick ho h
  · rename_i ho; exact ok_alloc ho h
  · rename_i ho; exact ok_box ho h
  · rename_i ho; exact ok_load ho h
  · rename_i ho; exact ok_store ho h
  · rename_i ho; exact ok_fieldAddr ho h
  · rename_i ho; exact ok_field ho h
  · rename_i ho; exact ok_index ho h
  · rename_i ho; exact ok_indexAddr ho h
  · rename_i ho; exact ok_extract ho h
  · rename_i ho; exact ok_build ho h
  · rename_i ho; exact ok_buildSlice ho h
  · rename_i ho; exact ok_bin ho h
  · rename_i ho; exact ok_un ho h
  · rename_i ho
    split at h
    · rename_i r hr
      simp only [Option.some.injEq] at h; subst h
      exact ok_conv ho hr
    · exact ok_convRow ho h
  · rename_i ho
    split at h
    · rename_i r hr
      simp only [Option.some.injEq] at h; subst h
      exact ok_slice ho hr
    · exact ok_sliceRow ho h
  · rename_i ho; exact ok_nil ho h
  · rename_i ho; exact ok_len ho h
  · rename_i ho
    split at h
    case isFalse => cases h
    rename_i ht
    subst ht
    exact ok_append ho h
  · rename_i ho
    cases hs : sameOp _ _ with
    | true => rw [hs] at h; exact ok_make ho hs h
    | false => rw [hs] at h; cases h
  · rename_i ho; exact ok_max ho h
  · rename_i ho; exact ok_min ho h
  · cases h

/-! is an operation wanted? -/
def wantA (ops : Array Oper) (σ : St) (o : Oper) : Option Bool := match o.guard with
  | none => some true
  | some (g, want) => match (ops[g]?).bind (·.dst) with
    | some t => match σ.slot t with
      | .one (.c (.d (.v (.bool b)))) => some (b == want)
      | .one (.c (.d (.v (.tuple ⟨[]⟩)))) => some false
      | _ => none
    | none => none
theorem wantA_ok {ops : Array Oper} {o : Oper} {b : Bool} (hR : R F σ e a w) (h : wantA ops σ o = some b) (hn : ∀ g, o.guard = some g → ∀ t, (ops[g.1]?).bind (·.dst) = some t → t < F.n) : Region.wanted o (yielded ops a.tmps) = b := by
  unfold wantA at h
  unfold Region.wanted
  split at h
  · rename_i hg
    simp only [Option.some.injEq] at h
    rw [hg]; exact h
  · rename_i g want hg
    rw [hg]
    split at h
    case h_2 => cases h
    rename_i t ht
    have hlt := hn _ hg t ht
    have hs : a.tmps[t]? = some (a.tmps.getD t undef) := by
      have : t < a.tmps.size := by rw [hR.size]; exact hlt
      simp [Array.getD, this]
    have h1 := hR.slots t
    split at h
    · rename_i b' hb
      rw [hb] at h1
      have h2 := of_val h1
      simp only [Option.some.injEq] at h
      subst h
      simp only [yielded, ht, Option.bind_some, hs, h2]
      cases b' <;> cases want <;> rfl
    · rename_i hb
      rw [hb] at h1
      have h2 := of_val h1
      simp only [Option.some.injEq] at h
      subst h
      simp only [yielded, ht, Option.bind_some, hs, h2]
      rfl
    · cases h

/-! calls of functions whose contract is plain -/
def noSt : St := { slot := fun _ => .one (.c .bad), box := fun _ => none, row := fun _ => none }
def noEnv (Pc : Nat → Nat → Prop) : Env := { m := fun _ => 0, rv := fun _ _ => undef, Pc := Pc }
/-- called with these data the function tells that datum, and writes nothing that was there -/
def PCalls (P : Program) (G : World → Prop) (f : FuncId) (ds : List D) (d : D) : Prop :=
  ∀ (Pc : Nat → Nat → Prop) (w : World) (vs : Array Value), G w → (∀ b o, Pc b o → b < w.heap.size) → All2 (DRep (noEnv Pc) noSt w) vs.toList ds →
    Calls P f vs w fun e w' => ∃ v Pc', e = .returned v ∧ Below w.heap.size w w' ∧ (∀ b o, Pc b o → Pc' b o) ∧ (∀ b o, Pc' b o → Pc b o ∨ (w.heap.size ≤ b ∧ b < w'.heap.size)) ∧ DRep (noEnv Pc') noSt w' v d
def pureC (rw : Nat → Option Row) : C → Option C
  | .d x => some (.d x)
  | .rp cs => some (.rp cs)
  | .row t g => match rw t with
    | some r => if r.gen = g ∧ r.wr = false then some (.d (.lst r.sz r.xs)) else none
    | none => none
  | _ => none
def pureCs (rw : Nat → Option Row) : List C → Option (List C)
  | [] => some []
  | c :: cs => match pureC rw c, pureCs rw cs with
    | some x, some xs => some (x :: xs)
    | _, _ => none
def pure1 (rw : Nat → Option Row) : D1 → Option D1
  | .c x => (pureC rw x).map .c
  | .agg cs => (pureCs rw cs).map .agg
def pureD (rw : Nat → Option Row) : D → Option D
  | .one x => (pure1 rw x).map .one
  | .tup _ => none
def pureDs (rw : Nat → Option Row) : List D → Option (List D)
  | [] => some []
  | c :: cs => match pureD rw c, pureDs rw cs with
    | some x, some xs => some (x :: xs)
    | _, _ => none
theorem pureC_ok (h : Hp F σ e w) {v : Value} {c c' : C} (hc : pureC σ.row c = some c') (hv : CRep e σ w v c) : CRep (noEnv e.Pc) noSt w v c' := by
  unfold pureC at hc
  split at hc
  · simp only [Option.some.injEq] at hc; subst hc; exact hv
  · simp only [Option.some.injEq] at hc; subst hc; exact hv
  · rename_i t g
    split at hc
    case h_2 => cases hc
    rename_i r hr
    split at hc
    case isFalse => cases hc
    rename_i hg
    obtain ⟨rfl, hw⟩ := hg
    simp only [Option.some.injEq] at hc; subst hc
    obtain ⟨_, h5, _⟩ : (∃ r', σ.row t = some r' ∧ r.gen ≤ r'.gen) ∧ v = e.rv t r.gen ∧ _ := hv
    rw [h5]
    exact h.rowDat hr hw
  · cases hc
theorem pureCs_ok (h : Hp F σ e w) : ∀ {vs : List Value} {cs cs' : List C}, pureCs σ.row cs = some cs' → All2 (CRep e σ w) vs cs → All2 (CRep (noEnv e.Pc) noSt w) vs cs'
  | [], [], cs', hc, _ => by simp only [pureCs, Option.some.injEq] at hc; subst hc; trivial
  | v :: vs, c :: cs, cs', hc, hv => by
    unfold pureCs at hc
    split at hc
    case h_2 => cases hc
    rename_i x xs hx hxs
    simp only [Option.some.injEq] at hc; subst hc
    exact ⟨pureC_ok h hx hv.1, pureCs_ok h hxs hv.2⟩
  | [], _ :: _, _, _, h => h.elim
  | _ :: _, [], _, _, h => h.elim
theorem pureD_ok (h : Hp F σ e w) {v : Value} {d d' : D} (hd : pureD σ.row d = some d') (hv : DRep e σ w v d) : DRep (noEnv e.Pc) noSt w v d' := by
  cases d with
  | one x =>
    obtain ⟨y, hy, rfl⟩ := Option.map_eq_some_iff.1 hd
    cases x with
    | c x =>
      obtain ⟨z, hz, rfl⟩ := Option.map_eq_some_iff.1 hy
      exact pureC_ok h hz hv
    | agg cs =>
      obtain ⟨z, hz, rfl⟩ := Option.map_eq_some_iff.1 hy
      obtain ⟨us, h1, h2⟩ := hv
      exact ⟨us, h1, pureCs_ok h hz h2⟩
  | tup xs => cases hd
theorem pureDs_ok (h : Hp F σ e w) : ∀ {vs : List Value} {ds ds' : List D}, pureDs σ.row ds = some ds' → All2 (DRep e σ w) vs ds → All2 (DRep (noEnv e.Pc) noSt w) vs ds'
  | [], [], cs', hc, _ => by simp only [pureDs, Option.some.injEq] at hc; subst hc; trivial
  | v :: vs, c :: cs, cs', hc, hv => by
    unfold pureDs at hc
    split at hc
    case h_2 => cases hc
    rename_i x xs hx hxs
    simp only [Option.some.injEq] at hc; subst hc
    exact ⟨pureD_ok h hx hv.1, pureDs_ok h hxs hv.2⟩
  | [], _ :: _, _, _, h => h.elim
  | _ :: _, [], _, _, h => h.elim
/-- behind a call the frame stands as it stood, and the result is there -/
theorem call_back {f : FuncId} {ds : List D} {d : D} {vs : Array Value} (hc : PCalls P F.G f ds d) (h : Hp F σ e w) (hv : All2 (DRep (noEnv e.Pc) noSt w) vs.toList ds) :
    Calls P f vs w fun en w' => ∃ v e', en = .returned v ∧ Fwd e σ w e' σ w' ∧ Hp F σ e' w' ∧ DRep e' σ w' v d := by
  refine (hc e.Pc w vs (F.gst _ _ F.g0 h.below) h.pcLt hv).mono ?_
  rintro en w' ⟨v, Pc', rfl, hb, hp1, hp2, hd⟩
  obtain ⟨hf, hh⟩ := h.grow hb
  have hsz := hb.size
  obtain ⟨hf2, hh2⟩ := hh.more (fun b o => Pc' b o ∧ w.heap.size ≤ b ∧ b < w'.heap.size) (fun b o hN => ⟨Nat.le_trans h.sizeLe hN.2.1, hN.2.2⟩)
    (fun b o hN β hβ he => by have := h.boxLt hβ; omega) (fun b o hN t r hr he => by have := (h.rowLt hr he).2; omega)
  refine ⟨v, _, rfl, ⟨fun b o hp => hf2.pc b o (hf.pc b o hp), fun b o hp => hf.cell b o hp, fun β hβ => ⟨hβ, rfl⟩, fun t r g hr hg => ⟨⟨r, hr, hg, rfl⟩, rfl⟩⟩, hh2, ?_⟩
  refine DRep.fwd (e := noEnv Pc') (σ := noSt) (w := w') ⟨fun b o hp => ?_, fun _ _ _ => rfl, (fun β hβ => by cases hβ), (fun t r g hr => by cases hr)⟩ hd
  rcases hp2 b o hp with h1 | h1
  · exact Or.inl h1
  · exact Or.inr ⟨hp, h1⟩

/-! regions in the order of the text -/
def dstOk (n : Nat) (o : Oper) : Bool := match o.dst with | some d => decide (d < n) | none => true
theorem dstOk_ok {n : Nat} {o : Oper} (h : dstOk n o = true) : ∀ k, o.dst = some k → k < n := by
  intro k hk
  unfold dstOk at h
  rw [hk] at h
  exact of_decide_eq_true h
def opsOk (n : Nat) (ops : Array Oper) : Bool := ops.all (dstOk n)
def AOps (P : Program) (F : Fr) (ops : Array Oper) (l : List Oper) (σ : St) (Q : St → Prop) : Prop :=
  opsOk F.n ops = true → (∀ o ∈ l, dstOk F.n o = true) → ∀ e a w, R F σ e a w → wpList P ops (fun ex a w => ex = .normal ∧ ∃ σ' e', Q σ' ∧ R F σ' e' a w) l a w
theorem opsOk_dst {n : Nat} {ops : Array Oper} (h : opsOk n ops = true) {i : Nat} {t : Nat} (ht : (ops[i]?).bind (·.dst) = some t) : t < n := by
  obtain ⟨o, ho, hd⟩ := Option.bind_eq_some_iff.1 ht
  have := Array.all_eq_true_iff_forall_mem.1 h o (Array.mem_of_getElem? ho)
  exact dstOk_ok this t hd
variable {ops : Array Oper} {o : Oper} {rest : List Oper} {Q : St → Prop}
theorem aops_nil (h : Q σ) : AOps P F ops [] σ Q := fun _ _ e a w hR => ⟨rfl, σ, e, h, hR⟩
theorem aops_op (hw : wantA ops σ o = some true) {res : Res} (he : evalA P o (opnd σ) σ.box σ.row = some res) (hc : res.cond)
    (h : AOps P F ops rest ((σ.app res).put o.dst res.val) Q) : AOps P F ops (o :: rest) σ Q := by
  intro hn hall e a w hR
  have hd := hall o (List.mem_cons_self ..)
  have hrest : ∀ o ∈ rest, dstOk F.n o = true := fun o' ho' => hall o' (List.mem_cons_of_mem _ ho')
  obtain ⟨v, w', e', h1, h2, h3, h4⟩ := evalA_ok he e a w hR hc
  have hR' : R F ((σ.app res).put o.dst res.val) e' (a.put o.dst v) w' := hR.next h2 h3 rfl o.dst (dstOk_ok hd) v res.val h4
  have hnext := h hn hrest e' _ _ hR'
  unfold wpList
  rw [wantA_ok hR hw (fun g _ t ht => opsOk_dst hn ht), if_pos rfl]
  refine .inl ?_
  unfold Oper.wp
  rcases h1 with h1 | ⟨h1, rfl⟩
  · rw [h1]; exact hnext
  · rw [h1]; exact hnext
theorem aops_skip (hw : wantA ops σ o = some false) (h : AOps P F ops rest (σ.put o.dst (valD undef)) Q) : AOps P F ops (o :: rest) σ Q := by
  intro hn hall e a w hR
  have hd := hall o (List.mem_cons_self ..)
  have hrest : ∀ o ∈ rest, dstOk F.n o = true := fun o' ho' => hall o' (List.mem_cons_of_mem _ ho')
  have hR' : R F (σ.put o.dst (valD undef)) e (a.put o.dst undef) w := hR.pure (dstOk_ok hd) (drep_val _)
  have hnext := h hn hrest e _ _ hR'
  unfold wpList
  rw [wantA_ok hR hw (fun g _ t ht => opsOk_dst hn ht), if_neg (by decide)]
  exact hnext
/-- a function that has a body -/
def hasBody (P : Program) (f : FuncId) : Bool := match P.funcs[f]? with
  | some fn => fn.body.isSome && fn.name != "runtime.NumGoroutine"
  | none => false
theorem run_call {f : FuncId} (h : hasBody P f = true) (args : Array Value) (w : World) : (callFunc f args).run P w = .ok (.enter f args) w := by
  unfold hasBody at h
  split at h
  case h_2 => cases h
  rename_i fn hf
  simp only [Bool.and_eq_true, bne_iff_ne, ne_eq] at h
  have hp : (program).run P w = .ok P w := rfl
  have h3 : ¬ fn.body = none := by intro he; rw [he] at h; simp at h
  simp [callFunc, Sem.run_bind, hp, hf, h.2, h3]
theorem opnds_ok (hR : R F σ e a w) : ∀ xs : List Operand, All2 (DRep e σ w) (xs.map a.eval) (xs.map (opnd σ))
  | [] => trivial
  | x :: xs => ⟨hR.opnd x, opnds_ok hR xs⟩
def callee (σ : St) (x : Operand) : Option FuncId := match opnd σ x with
  | .one (.c (.d (.v (.func (.func f) ⟨[]⟩ ⟨[]⟩)))) => some f
  | _ => none
theorem aops_call (hw : wantA ops σ o = some true) {x : Operand} {xs : Array Operand} {ts : Array TypeId} (ho : o.op = .call { callee := .value x, args := xs, argTypes := ts })
    {f : FuncId} (hf : callee σ x = some f) (hb : hasBody P f = true) {ds : List D} (hds : pureDs σ.row (xs.toList.map (opnd σ)) = some ds) {d : D} (hc : PCalls P F.G f ds d)
    (h : AOps P F ops rest (σ.put o.dst d) Q) : AOps P F ops (o :: rest) σ Q := by
  intro hn hall e a w hR
  have hd := hall o (List.mem_cons_self ..)
  have hrest : ∀ o ∈ rest, dstOk F.n o = true := fun o' ho' => hall o' (List.mem_cons_of_mem _ ho')
  unfold wpList
  rw [wantA_ok hR hw (fun g _ t ht => opsOk_dst hn ht), if_pos rfl]
  refine .inl ?_
  unfold callee at hf
  split at hf
  case h_2 => cases hf
  rename_i f' hx
  simp only [Option.some.injEq] at hf
  subst hf
  have h1 := hR.opnd x
  rw [hx] at h1
  have h2 := of_val h1
  have hrun : (execOp a.eval o).run P w = .ok (.enter f' (xs.map a.eval)) w := by
    have := run_call hb (xs.map a.eval) w
    simp [execOp, ho, resolve, h2, Deferred.ofValue, invoke, this]
  unfold Oper.wp
  rw [hrun]
  refine (call_back hc hR.hp (vs := xs.map a.eval) (by rw [Array.toList_map]; exact pureDs_ok hR.hp hds (opnds_ok hR _))).mono ?_
  rintro en w' ⟨v, e', rfl, h3, h4, h5⟩
  exact h hn hrest e' _ _ (hR.next h3 h4 rfl o.dst (dstOk_ok hd) v d h5)

/-- one operation: what is to be shown; K: what stands behind it -/
def stepK (σ : St) (dst : Option Nat) (K : St → Prop) : Option Bool → Option Res → Prop
  | some true, some res => res.cond ∧ K ((σ.app res).put dst res.val)
  | some false, _ => K (σ.put dst (valD undef))
  | _, _ => False
theorem aops_step (h : ∀ K : St → Prop, (∀ σ', AOps P F ops rest σ' Q → K σ') → stepK σ o.dst K (wantA ops σ o) (evalA P o (opnd σ) σ.box σ.row)) : AOps P F ops (o :: rest) σ Q := by
  have h := h (fun σ' => AOps P F ops rest σ' Q) (fun _ h => h)
  unfold stepK at h
  split at h
  · rename_i res hw he
    exact aops_op hw he h.1 h.2
  · rename_i hw
    exact aops_skip hw h
  · exact h.elim
end Go.Proofs.YtngbpbncipjimaaDoor.AM
