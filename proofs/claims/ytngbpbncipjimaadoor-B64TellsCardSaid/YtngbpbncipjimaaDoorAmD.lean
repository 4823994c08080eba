/- What the plain machine does at an operation, and that the model does so. First: values, loads, stores, new variables, fields. -/
import Derived.Test.YtngbpbncipjimaaDoorAmC
namespace Go.Proofs.YtngbpbncipjimaaDoor.AM
open Go.RowKit
set_option linter.unusedVariables false

structure Res where
  cond : Prop
  val : D
  box : Option (Nat × (Nat × List C)) := none
  row : Option (Nat × Row) := none

def St.app (σ : St) (r : Res) : St :=
  { slot := σ.slot
    box := match r.box with | some (i, x) => upd σ.box i (some x) | none => σ.box
    row := match r.row with | some (i, x) => upd σ.row i (some x) | none => σ.row }

def valC (x : Value) : C := .d (.v x)
def valD (x : Value) : D := .one (.c (valC x))
def ofVal : Value → D
  | .agg cs => .one (.agg (cs.toList.map valC))
  | x => valD x
def opnd (σ : St) : Operand → D
  | .tmp t => σ.slot t
  | .const v => ofVal v
  | .func f => valD (.func (.func f) #[] #[])
  | .global g => .one (.c .bad)

variable {F : Fr} {σ : St} {e : Env} {a : Act} {w : World} {P : Program}

theorem all2_map {α γ : Type} {r : α → γ → Prop} (f : α → γ) (h : ∀ x, r x (f x)) : ∀ l : List α, All2 r l (l.map f)
  | [] => trivial
  | x :: xs => ⟨h x, all2_map f h xs⟩
theorem crep_val (x : Value) : CRep e σ w x (valC x) := DatRep.v x
theorem drep_val (x : Value) : DRep e σ w x (valD x) := DatRep.v x
theorem drep_ofVal (x : Value) : DRep e σ w x (ofVal x) := by
  cases x <;> first | exact drep_val _ | exact ⟨_, rfl, all2_map valC crep_val _⟩
theorem of_val {v x : Value} (h : DRep e σ w v (valD x)) : v = x := by
  have h' : DatRep e.Pc w v (.v x) := h
  cases h'; rfl
theorem of_valC {v x : Value} (h : CRep e σ w v (valC x)) : v = x := by
  have h' : DatRep e.Pc w v (.v x) := h
  cases h'; rfl
theorem R.opnd (h : R F σ e a w) (x : Operand) : DRep e σ w (a.eval x) (opnd σ x) := by
  cases x with
  | tmp t => exact h.slots t
  | const v => exact drep_ofVal v
  | func f => exact drep_val _
  | global g => trivial

theorem R.pure (h : R F σ e a w) {dst : Option Nat} (hn : ∀ k, dst = some k → k < F.n) {v : Value} {d : D} (hd : DRep e σ w v d) : R F (σ.put dst d) e (a.put dst v) w :=
  h.next (Fwd.refl _ _ _) h.hp rfl dst hn v d hd

theorem run_v {s : Sem Value} {w w' : World} {x : Value} (h : s.run P w = .ok x w') : (do pure (Next.value (← s)) : Sem Next).run P w = .ok (.value x) w' := by
  simp [h]
theorem run_u {s : Sem Unit} {w w' : World} (h : s.run P w = .ok () w') : (do s; pure Next.skip : Sem Next).run P w = .ok .skip w' := by
  simp [h]

def cellsOf1 : D1 → List C
  | .c x => [x]
  | .agg cs => cs
def okC : C → Bool
  | .d (.v x) => x.oneCell'
  | .bad => false
  | _ => true
theorem okC_one {v : Value} {c : C} (h : CRep e σ w v c) (hc : okC c = true) : v.oneCell' = true := by
  cases c with
  | d x =>
    have h' : DatRep e.Pc w v x := h
    cases h' with
    | v x => exact hc
    | lst => rfl
  | box β off => rw [h.2]; rfl
  | bsl β n => rw [h.2]; rfl
  | row t g =>
    obtain ⟨_, _, a, n, c, rfl⟩ := h; rfl
  | rp cs => obtain ⟨b, o, rfl, _⟩ := h; rfl
  | wp t g k off => obtain ⟨r, b, _, _, _, rfl⟩ := h; rfl
  | fn f caps => rw [h.2]; rfl
  | bad => cases hc

/-- the model does what the plain machine says at an operation -/
def OpOk (P : Program) (F : Fr) (o : Oper) (σ : St) (res : Res) : Prop :=
  ∀ e a w, R F σ e a w → res.cond → ∃ v w' e', ((execOp a.eval o).run P w = .ok (.value v) w' ∨ ((execOp a.eval o).run P w = .ok .skip w' ∧ v = undef)) ∧
    Fwd e σ w e' (σ.app res) w' ∧ Hp F (σ.app res) e' w' ∧ DRep e' (σ.app res) w' v res.val
theorem OpOk.same {o : Oper} {c : Prop} {d : D}
    (h : ∀ e a w, R F σ e a w → c → ∃ v, (execOp a.eval o).run P w = .ok (.value v) w ∧ DRep e σ w v d) : OpOk P F o σ { cond := c, val := d } := by
  intro e a w hR hc
  obtain ⟨v, h1, h2⟩ := h e a w hR hc
  exact ⟨v, w, e, .inl h1, Fwd.refl _ _ _, hR.hp, h2⟩

theorem ok_move {o : Oper} {x : Operand} (ho : o.op = .move x ∨ o.op = .assign x) : OpOk P F o σ { cond := True, val := opnd σ x } :=
  OpOk.same fun e a w hR _ => ⟨a.eval x, by rcases ho with ho | ho <;> simp [execOp, ho], hR.opnd x⟩

def evPick (c a b : D) : Option Res := match c with
  | .one (.c (.d (.v (.bool t)))) => some { cond := True, val := if t then a else b }
  | _ => none
theorem ok_pick {o : Oper} {c x y : Operand} {res : Res} (ho : o.op = .pick c x y) (h : evPick (opnd σ c) (opnd σ x) (opnd σ y) = some res) : OpOk P F o σ res := by
  unfold evPick at h
  split at h <;> simp only [Option.some.injEq, reduceCtorEq] at h
  rename_i t hc
  subst h
  refine OpOk.same fun e a w hR _ => ?_
  have h1 := hR.opnd c
  rw [hc] at h1
  have h2 := of_val h1
  refine ⟨if t then a.eval x else a.eval y, by simp [execOp, ho, h2, asBool], ?_⟩
  cases t
  · exact hR.opnd y
  · exact hR.opnd x

def aggD (P : Program) (t : TypeId) : Option Bool := (P.underlying t).map fun d => match d with | .struct _ | .array _ _ => true | _ => false
def tsz (P : Program) (t : TypeId) : Option Nat := (P.info? t).map (·.size)
theorem run_isAgg' {t : TypeId} {b : Bool} (h : aggD P t = some b) (w : World) : (isAgg t).run P w = .ok b w := by
  unfold aggD at h
  cases hu : P.underlying t with
  | none => simp [hu] at h
  | some d =>
    simp only [hu, Option.map_some, Option.some.injEq] at h
    unfold isAgg
    rw [Sem.run_bind, run_underlying hu w]
    cases d <;> simp_all
theorem run_sizeOf' {t : TypeId} {n : Nat} (h : tsz P t = some n) (w : World) : (sizeOf t).run P w = .ok n w := by
  unfold tsz at h
  cases hq : P.info? t with
  | none => simp [hq] at h
  | some i => simp only [hq, Option.map_some, Option.some.injEq] at h; simp [sizeOf, typeInfo, hq, h]

/-- what a variable of type t holds whose cells begin so -/
def loadC (P : Program) (t : TypeId) (cs : List C) : Option D := match aggD P t, tsz P t with
  | some true, some n => if n ≤ cs.length then some (.one (.agg (cs.take n))) else none
  | some false, _ => match cs with | c :: _ => some (.one (.c c)) | [] => none
  | _, _ => none
theorem add_lit (b o j : Nat) : (⟨b, o, none⟩ : Addr).add j = ⟨b, o + j, none⟩ := Addr.add_lit ..
theorem run_loadVar' {t : TypeId} {cs : List C} {d : D} {us : List Value} {b off : Nat} (hl : loadC P t cs = some d) (hu : All2 (CRep e σ w) us cs)
    (hc : ∀ (j : Nat) (h : j < us.length), w.cell? ⟨b, off + j, none⟩ = some us[j]) : ∃ v, (loadVar t ⟨b, off, none⟩).run P w = .ok v w ∧ DRep e σ w v d := by
  unfold loadC at hl
  split at hl
  · rename_i n ha hn
    split at hl
    · rename_i hle
      simp only [Option.some.injEq] at hl
      subst hl
      have hlen := hu.length
      have hcs : ∀ j v, (us.take n)[j]? = some v → w.cell? ((⟨b, off, none⟩ : Addr).add j) = some v := by
        intro j v hv
        rw [add_lit]
        rw [List.getElem?_take] at hv
        split at hv
        · obtain ⟨hj, rfl⟩ := List.getElem?_eq_some_iff.1 hv
          exact hc j hj
        · cases hv
      have hr := run_loadCells_list (P := P) w ⟨b, off, none⟩ (us.take n) hcs
      rw [List.length_take, show min n us.length = n from by omega] at hr
      refine ⟨.agg (us.take n).toArray, ?_, ⟨_, rfl, by simpa using hu.take n⟩⟩
      unfold loadVar
      simp only [Sem.run_bind, run_isAgg' ha w, run_sizeOf' hn w, Result.andThen_ok, hr, if_true]
      rfl
    · cases hl
  · rename_i ha
    split at hl
    · rename_i c cs'
      simp only [Option.some.injEq] at hl
      subst hl
      match us, hu with
      | u :: us', hu' =>
        have := hc 0 (by simp)
        simp only [Nat.add_zero, List.getElem_cons_zero] at this
        refine ⟨u, ?_, hu'.1⟩
        unfold loadVar
        simp only [Sem.run_bind, run_isAgg' ha w, Result.andThen_ok, Bool.false_eq_true, if_false]
        simp [load, Sem.run, this]
    · cases hl
  · cases hl

def evLoad (P : Program) (t : TypeId) (p : D) (bx : Nat → Option (Nat × List C)) (rw : Nat → Option Row) : Option Res := match p with
  | .one (.c (.box β off)) => match bx β with
    | some (_, cs) => (loadC P t (cs.drop off)).map fun d => { cond := True, val := d }
    | none => none
  | .one (.c (.rp cs)) => (loadC P t (cs.map C.d)).map fun d => { cond := True, val := d }
  | .one (.c (.wp tt g k off)) => match rw tt with
    | some r => if r.gen = g then (loadC P t (((r.xs.getD k []).drop off).map C.d)).map fun d => { cond := k < r.xs.length, val := d } else none
    | none => none
  | _ => none
theorem all2_d : ∀ {us : List Value} {ds : List Dat}, All2 (DatRep e.Pc w) us ds → All2 (CRep e σ w) us (ds.map C.d)
  | [], [], _ => trivial
  | _ :: _, _ :: _, h => ⟨h.1, all2_d h.2⟩
  | [], _ :: _, h => h.elim
  | _ :: _, [], h => h.elim

/-- the cells of an element of a list of one's own -/
theorem Hp.elt (h : Hp F σ e w) {t : Nat} {r : Row} (hr : σ.row t = some r) {k : Nat} (hk : k < r.xs.length) {b : Nat} (hb : (e.rv t r.gen).ownBlock = some b) :
    ∃ us : List Value, All2 (DatRep e.Pc w) us (r.xs[k]) ∧ (∀ u ∈ us, u.oneCell' = true) ∧ us.length = r.sz ∧ ∀ (j : Nat) (hj : j < us.length), w.cell? ⟨b, k * r.sz + j, none⟩ = some us[j] := by
  obtain ⟨hs, cells, h1, h2, h3⟩ := h.rows t r hr
  have hlen := h2.length
  have hx := hs _ (List.getElem_mem hk)
  rcases h1.2 with ⟨h4, h5⟩ | ⟨g, cap, cur, h4, h5, h6, h7, h8, h9, h10⟩
  · omega
  · rw [h4] at hb
    simp only [Value.ownBlock, Option.some.injEq] at hb
    subst hb
    have hcl : cells.length = r.xs.length * r.sz := h1.1
    have hmul := Nat.mul_le_mul_right r.sz (show k + 1 ≤ r.xs.length from hk)
    rw [Nat.add_mul, Nat.one_mul] at hmul
    have hul : ((cells.drop (k * r.sz)).take r.sz).length = r.sz := by rw [List.length_take, List.length_drop]; omega
    refine ⟨(cells.drop (k * r.sz)).take r.sz, All2.mk (by rw [hul, hx]) (fun j hj hj' => ?_), fun u hu => h3 u (List.mem_of_mem_drop (List.mem_of_mem_take hu)), hul, fun j hj => ?_⟩
    · have hj2 : j < r.sz := by omega
      have := h2.get (k * r.sz + j) (by omega) (by omega)
      have hfl : r.xs.flatten[k * r.sz + j]'(by omega) = (r.xs[k])[j] := by
        have := flatten_get r.xs hs k j hk hj2
        rw [List.getElem?_eq_getElem (by omega), List.getElem?_eq_getElem hj'] at this
        exact Option.some.inj this
      rw [hfl] at this
      simp only [List.getElem_take, List.getElem_drop]
      exact this
    · rw [cell_of_row w g _ cur _ _ h6]
      simp only [List.getElem_take, List.getElem_drop]
      have : cells[k * r.sz + j]? = some (cells[k * r.sz + j]'(by omega)) := List.getElem?_eq_getElem (by omega)
      rw [← this, ← h10, List.getElem?_take_of_lt (by omega)]
      simp

theorem ok_load {o : Oper} {t : TypeId} {x : Operand} {res : Res} (ho : o.op = .load t x) (h : evLoad P t (opnd σ x) σ.box σ.row = some res) : OpOk P F o σ res := by
  unfold evLoad at h
  split at h
  · rename_i β off hx
    split at h
    · rename_i T cs hb
      obtain ⟨d, hd, rfl⟩ := Option.map_eq_some_iff.1 h
      refine OpOk.same fun e a w hR _ => ?_
      have h1 := hR.opnd x
      rw [hx] at h1
      obtain ⟨h2, h3⟩ : (σ.box β).isSome = true ∧ a.eval x = .pointer (some ⟨e.m β, off, none⟩) := h1
      obtain ⟨_, vs, h4, h5, _⟩ := hR.hp.boxes β T cs hb
      obtain ⟨v, h6, h7⟩ := run_loadVar' (b := e.m β) (off := off) hd (h5.drop off) (fun j hj => by
        rw [cell_of_row w (e.m β) _ vs T _ h4, List.getElem_drop]
        simp)
      exact ⟨v, by simp [execOp, ho, h3, Instr.loadAt, Instr.sureAddr, h6], h7⟩
    · cases h
  · rename_i cs hx
    obtain ⟨d, hd, rfl⟩ := Option.map_eq_some_iff.1 h
    refine OpOk.same fun e a w hR _ => ?_
    have h1 := hR.opnd x
    rw [hx] at h1
    obtain ⟨b, o', h3, us, h4, h5⟩ : ∃ b o', a.eval x = .pointer (some ⟨b, o', none⟩) ∧ ∃ us : List Value, All2 (DatRep e.Pc w) us cs ∧ ∀ (j : Nat) (h : j < us.length), e.Pc b (o' + j) ∧ w.cell? ⟨b, o' + j, none⟩ = some us[j] ∧ (us[j]).oneCell' = true := h1
    obtain ⟨v, h6, h7⟩ := run_loadVar' (b := b) (off := o') hd (all2_d h4) (fun j hj => (h5 j hj).2.1)
    exact ⟨v, by simp [execOp, ho, h3, Instr.loadAt, Instr.sureAddr, h6], h7⟩
  · rename_i tt g k off hx
    split at h
    · rename_i r hr
      split at h
      · rename_i hg
        subst hg
        obtain ⟨d, hd, rfl⟩ := Option.map_eq_some_iff.1 h
        refine OpOk.same fun e a w hR hk => ?_
        have h1 := hR.opnd x
        rw [hx] at h1
        obtain ⟨r', b, h2, _, h3, h4⟩ : ∃ r' b, σ.row tt = some r' ∧ r.gen ≤ r'.gen ∧ (e.rv tt r.gen).ownBlock = some b ∧ a.eval x = .pointer (some ⟨b, k * r'.sz + off, none⟩) := h1
        rw [hr] at h2; cases h2
        obtain ⟨us, h5, _, h6, h7⟩ := hR.hp.elt hr hk h3
        have hgd : r.xs.getD k [] = r.xs[k] := by simp [List.getD, hk]
        rw [hgd] at hd
        obtain ⟨v, h8, h9⟩ := run_loadVar' (b := b) (off := k * r.sz + off) hd (all2_d (h5.drop off)) (fun j hj => by
          have := h7 (off + j) (by rw [List.length_drop] at hj; omega)
          rw [List.getElem_drop, show k * r.sz + off + j = k * r.sz + (off + j) from by omega]
          exact this)
        exact ⟨v, by simp [execOp, ho, h4, Instr.loadAt, Instr.sureAddr, h8], h9⟩
      · cases h
    · cases h
  · cases h
end Go.Proofs.YtngbpbncipjimaaDoor.AM
