/- The plain machine's code: sequences, tests, loops, returns; the contract of a whole function. -/
import Derived.Test.YtngbpbncipjimaaDoorAmK
import Derived.Deep.LoopGhost
namespace Go.Proofs.YtngbpbncipjimaaDoor.AM
open Go.RowKit
set_option linter.unusedVariables false
variable {F : Fr} {σ : St} {e : Env} {a : Act} {w : World} {P : Program}

def ACode (P : Program) (F : Fr) (c : Code) (σ : St) (Q : Exit → St → Prop) : Prop :=
  ∀ e a w, R F σ e a w → c.wp P (fun ex a' w' => ∃ σ' e', Q ex σ' ∧ R F σ' e' a' w') a w
variable {c x y : Code} {Q Q' : Exit → St → Prop}
theorem acode_mono (h : ACode P F c σ Q) (hq : ∀ ex σ', Q ex σ' → Q' ex σ') : ACode P F c σ Q' :=
  fun e a w hR => wp_mono (h e a w hR) fun ex a' w' ⟨σ', e', h1, h2⟩ => ⟨σ', e', hq _ _ h1, h2⟩
theorem acode_skip (h : Q .normal σ) : ACode P F .skip σ Q := fun e a w hR => wp_skip ⟨σ, e, h, hR⟩
theorem acode_exit {id : Nat} (h : Q (.exit id) σ) : ACode P F (.exit id) σ Q := fun e a w hR => wp_exit ⟨σ, e, h, hR⟩
theorem acode_ret (h : Q .ret σ) : ACode P F .ret σ Q := fun e a w hR => wp_ret ⟨σ, e, h, hR⟩
def andThen (next : St → Prop) (Q : Exit → St → Prop) : Exit → St → Prop
  | .normal, σ => next σ
  | ex, σ => Q ex σ
theorem acode_seq (h : ACode P F x σ (andThen (fun σ' => ACode P F y σ' Q) Q)) : ACode P F (.seq x y) σ Q := fun e a w hR => by
  refine wp_seq (wp_mono (h e a w hR) fun ex a' w' hh => ?_)
  obtain ⟨σ', e', h1, h2⟩ := hh
  cases ex with
  | normal => exact h1 e' a' w' h2
  | _ => exact ⟨σ', e', h1, h2⟩
theorem acode_seq_k (h : ∀ K : St → Prop, (∀ σ', ACode P F y σ' Q → K σ') → ACode P F x σ (andThen K Q)) : ACode P F (.seq x y) σ Q := acode_seq (h _ fun _ h => h)
def inBlock (id : Nat) (Q : Exit → St → Prop) : Exit → St → Prop
  | .exit id', σ => if id' = id then Q .normal σ else Q (.exit id') σ
  | ex, σ => Q ex σ
theorem acode_block {id : Nat} (h : ACode P F x σ (inBlock id Q)) : ACode P F (.block id x) σ Q := fun e a w hR => by
  refine wp_block (wp_mono (h e a w hR) fun ex a' w' hh => ?_)
  obtain ⟨σ', e', h1, h2⟩ := hh
  cases ex with
  | exit id' =>
    show if id' = id then _ else _
    by_cases hid : id' = id
    · rw [if_pos hid]
      have h1' : if id' = id then Q .normal σ' else Q (.exit id') σ' := h1
      rw [if_pos hid] at h1'
      exact ⟨σ', e', h1', h2⟩
    · rw [if_neg hid]
      have h1' : if id' = id then Q .normal σ' else Q (.exit id') σ' := h1
      rw [if_neg hid] at h1'
      exact ⟨σ', e', h1', h2⟩
  | _ => exact ⟨σ', e', h1, h2⟩
def boolOf : D → Option Bool
  | .one (.c (.d (.v (.bool b)))) => some b
  | _ => none
theorem acode_cond {cnd : Operand} {b : Bool} (hb : boolOf (opnd σ cnd) = some b) (ht : b = true → ACode P F x σ Q) (hf : b = false → ACode P F y σ Q) : ACode P F (.cond cnd x y) σ Q := fun e a w hR => by
  unfold boolOf at hb
  split at hb
  case h_2 => cases hb
  rename_i b' hx
  simp only [Option.some.injEq] at hb
  subst hb
  have h1 := hR.opnd cnd
  rw [hx] at h1
  cases b'
  · exact wp_cond_false (of_val h1) (hf rfl e a w hR)
  · exact wp_cond_true (of_val h1) (ht rfl e a w hR)
theorem acode_region {id : Nat} {l : List Oper} (hn : opsOk F.n l.toArray = true) (h : AOps P F l.toArray l σ (Q .normal)) : ACode P F (.region id l.toArray false) σ Q := fun e a w hR => by
  have hall : ∀ o ∈ l, dstOk F.n o = true := fun o ho => Array.all_eq_true_iff_forall_mem.1 hn o (by simpa using ho)
  refine wp_mono (wp_region_lit (h hn hall e a w hR)) fun ex a' w' hh => ?_
  obtain ⟨rfl, σ', e', h1, h2⟩ := hh
  exact ⟨σ', e', h1, h2⟩
theorem acode_scope (h : ACode P F x σ (fun ex σ' => match ex with | .goto _ => False | ex => Q ex σ')) : ACode P F (.scope x) σ Q := fun e a w hR => by
  refine wp_scope_straight (wp_mono (h e a w hR) fun ex a' w' hh => ?_)
  obtain ⟨σ', e', h1, h2⟩ := hh
  cases ex with
  | goto l => exact h1.elim
  | _ => exact ⟨σ', e', h1, h2⟩

/-! fewer slots, variables, lists -/
def clC (σ : St) : C → Prop
  | .box β _ => (σ.box β).isSome = true
  | .bsl β _ => (σ.box β).isSome = true
  | .row t g => ∃ r, σ.row t = some r ∧ g ≤ r.gen
  | .wp t g _ _ => ∃ r, σ.row t = some r ∧ g ≤ r.gen
  | .fn _ caps => ∀ β ∈ caps, (σ.box β).isSome = true
  | _ => True
def cl1 (σ : St) : D1 → Prop
  | .c x => clC σ x
  | .agg cs => ∀ c ∈ cs, clC σ c
def clD (σ : St) : D → Prop
  | .one x => cl1 σ x
  | .tup xs => ∀ x ∈ xs, cl1 σ x
structure Le (σ' σ : St) : Prop where
  slot : ∀ i, σ'.slot i = .one (.c .bad) ∨ (σ'.slot i = σ.slot i ∧ clD σ' (σ'.slot i))
  box : ∀ β T cs, σ'.box β = some (T, cs) → σ.box β = some (T, cs) ∧ ∀ c ∈ cs, clC σ' c
  row : ∀ t r, σ'.row t = some r → σ.row t = some r
variable {σ' : St}
theorem Le.crep (h : Le σ' σ) {v : Value} {c : C} (hc : clC σ' c) (hv : CRep e σ w v c) : CRep e σ' w v c := by
  cases c with
  | d x => exact hv
  | box β off => exact ⟨hc, hv.2⟩
  | bsl β n => exact ⟨hc, hv.2⟩
  | row t g => exact ⟨hc, hv.2⟩
  | rp cs => exact hv
  | wp t g k off =>
    obtain ⟨r, b, h1, h2, h3, h4⟩ := hv
    obtain ⟨r', h5, h6⟩ := hc
    have := h.row t r' h5
    rw [h1] at this; cases this
    exact ⟨r, b, h5, h6, h3, h4⟩
  | fn f caps => exact ⟨hc, hv.2⟩
  | bad => trivial
theorem all2_mem {α β : Type} {r r' : α → β → Prop} : ∀ {l : List α} {m : List β}, (∀ a b, b ∈ m → r a b → r' a b) → All2 r l m → All2 r' l m
  | [], [], _, _ => trivial
  | _ :: _, b :: _, h, hh => ⟨h _ _ (List.mem_cons_self ..) hh.1, all2_mem (fun a b' hb => h a b' (List.mem_cons_of_mem _ hb)) hh.2⟩
  | [], _ :: _, _, h => h.elim
  | _ :: _, [], _, h => h.elim
theorem Le.rep1 (h : Le σ' σ) {v : Value} {d : D1} (hc : cl1 σ' d) (hv : Rep1 e σ w v d) : Rep1 e σ' w v d := by
  cases d with
  | c x => exact h.crep hc hv
  | agg cs =>
    obtain ⟨vs, h1, h2⟩ := hv
    exact ⟨vs, h1, all2_mem (fun a b hb => h.crep (hc b hb)) h2⟩
theorem Le.drep (h : Le σ' σ) {v : Value} {d : D} (hc : clD σ' d) (hv : DRep e σ w v d) : DRep e σ' w v d := by
  cases d with
  | one x => exact h.rep1 hc hv
  | tup xs =>
    obtain ⟨vs, h1, h2⟩ := hv
    exact ⟨vs, h1, all2_mem (fun a b hb => h.rep1 (hc b hb)) h2⟩
theorem R.le (h : Le σ' σ) (hR : R F σ e a w) : R F σ' e a w := by
  have hbs : ∀ β, (σ'.box β).isSome = true → (σ.box β).isSome = true := fun β hβ => by
    obtain ⟨⟨T, cs⟩, hx⟩ := Option.isSome_iff_exists.1 hβ
    rw [(h.box β T cs hx).1]; rfl
  refine ⟨hR.defers, hR.size, fun i => ?_, ?_⟩
  · rcases h.slot i with h1 | ⟨h1, h2⟩
    · rw [h1]; trivial
    · refine h.drep h2 ?_
      rw [h1]; exact hR.slots i
  · have hp := hR.hp
    refine ⟨hp.below, hp.pc0, hp.pcNew, hp.pcLt, fun β T cs hx => ?_, fun β hβ => hp.boxPc β (hbs β hβ), fun β β' hβ hβ' => hp.boxNe β β' (hbs β hβ) (hbs β' hβ'),
      fun t r hr => hp.rows t r (h.row t r hr), fun t r b hr => hp.rowPro t r b (h.row t r hr), fun t r b hr => hp.rowPc t r b (h.row t r hr),
      fun t r b β hr hb hβ => hp.rowBox t r b β (h.row t r hr) hb (hbs β hβ), fun t t' r r' b hn hr hr' => hp.rowNe t t' r r' b hn (h.row t r hr) (h.row t' r' hr')⟩
    obtain ⟨h1, h2⟩ := h.box β T cs hx
    obtain ⟨h3, vs, h4, h5, h6⟩ := hp.boxes β T cs h1
    exact ⟨h3, vs, h4, all2_mem (fun a b hb => h.crep (h2 b hb)) h5, h6⟩
theorem acode_le (h : Le σ' σ) (hc : ACode P F c σ' Q) : ACode P F c σ Q := fun e a w hR => hc e a w (hR.le h)

/-- a state told by what is known of it -/
def St.of (slots : List (Nat × D)) (boxes : List (Nat × (Nat × List C))) (rows : List (Nat × Row)) : St :=
  { slot := fun i => (slots.lookup i).getD (.one (.c .bad)), box := fun i => boxes.lookup i, row := fun i => rows.lookup i }
theorem lookup_mem {β : Type} : ∀ {l : List (Nat × β)} {i : Nat} {x : β}, l.lookup i = some x → (i, x) ∈ l
  | (j, y) :: l, i, x, h => by
    rw [List.lookup_cons] at h
    by_cases hij : i = j
    · subst hij
      simp only [beq_self_eq_true] at h
      rw [Option.some.inj h]; exact List.mem_cons_self ..
    · have : (i == j) = false := by simpa using hij
      simp only [this] at h
      exact List.mem_cons_of_mem _ (lookup_mem h)
theorem Le.of {slots : List (Nat × D)} {boxes : List (Nat × (Nat × List C))} {rows : List (Nat × Row)}
    (h1 : ∀ p ∈ slots, p.2 = σ.slot p.1 ∧ clD (St.of slots boxes rows) p.2) (h2 : ∀ p ∈ boxes, σ.box p.1 = some p.2 ∧ ∀ c ∈ p.2.2, clC (St.of slots boxes rows) c) (h3 : ∀ p ∈ rows, σ.row p.1 = some p.2) : Le (St.of slots boxes rows) σ := by
  refine ⟨fun i => ?_, fun β T cs hx => ?_, fun t r hr => h3 _ (lookup_mem hr)⟩
  · cases hl : slots.lookup i with
    | none => left; show (slots.lookup i).getD _ = _; rw [hl]; rfl
    | some d =>
      right
      have := h1 _ (lookup_mem hl)
      have he : (St.of slots boxes rows).slot i = d := by show (slots.lookup i).getD _ = _; rw [hl]; rfl
      rw [he]; exact this
  · exact h2 _ (lookup_mem hx)
/-- a loop: Inv n σ: what holds ahead of each round; n falls -/
theorem acode_loop (Inv : Nat → St → Prop) (n : Nat) (σ0 : St) (h0 : Inv n σ0) (hle : Le σ0 σ)
    (round : ∀ n σ, Inv n σ → ACode P F c σ (andThen (fun σ' => ∃ m σ'', m < n ∧ Inv m σ'' ∧ Le σ'' σ') Q)) : ACode P F (.loop c) σ Q := fun e a w hR => by
  refine wp_loop_ghost (fun n a w => ∃ σ e, Inv n σ ∧ R F σ e a w) n ⟨σ0, e, h0, hR.le hle⟩ ?_
  rintro n a w ⟨σ1, e1, hI, hR1⟩
  refine wp_mono (round n σ1 hI e1 a w hR1) fun ex a' w' hh => ?_
  obtain ⟨σ', e', h1, h2⟩ := hh
  cases ex with
  | normal =>
    obtain ⟨m, σ'', hm, hI', hl⟩ := h1
    exact ⟨m, hm, σ'', e', hI', h2.le hl⟩
  | _ => exact ⟨σ', e', h1, h2⟩

/-! returns -/
def frz (σ : St) : St := { σ with row := fun t => (σ.row t).map fun r => { r with wr := false } }
theorem Hp.frz (h : Hp F σ e w) : ∃ e', Fwd e σ w e' (frz σ) w ∧ Hp F (AM.frz σ) e' w := by
  let N : Nat → Nat → Prop := fun b o => ∃ t r, σ.row t = some r ∧ (e.rv t r.gen).ownBlock = some b ∧ o < r.xs.length * r.sz
  have hrow : ∀ t r, (AM.frz σ).row t = some r → ∃ r0, σ.row t = some r0 ∧ r = { r0 with wr := false } := fun t r hr => by
    obtain ⟨r0, h1, h2⟩ := Option.map_eq_some_iff.1 hr
    exact ⟨r0, h1, h2.symm⟩
  have hf : Fwd e σ w { e with Pc := fun b o => e.Pc b o ∨ N b o } (AM.frz σ) w := ⟨fun _ _ h => Or.inl h, fun _ _ _ => rfl, fun _ h => ⟨h, rfl⟩, fun t r g hr hg => ⟨⟨{ r with wr := false }, by show (σ.row t).map _ = _; rw [hr]; rfl, hg, rfl⟩, rfl⟩⟩
  refine ⟨_, hf, h.below, fun b o hp => Or.inl (h.pc0 b o hp), ?_, ?_, fun β T cs hx => ?_, ?_, h.boxNe, fun t r hr => ?_, fun t r b hr _ hb o ho => ?_, fun t r b hr hb o hp => ?_, fun t r b β hr hb hβ => ?_, fun t t' r r' b hn hr hr' hb => ?_⟩
  · rintro b o (hp | ⟨t, r, h1, h2, h3⟩)
    · exact h.pcNew b o hp
    · exact Or.inr (h.rowLt h1 h2).1
  · rintro b o (hp | ⟨t, r, h1, h2, h3⟩)
    · exact h.pcLt b o hp
    · exact (h.rowLt h1 h2).2
  · obtain ⟨h0, vs, h1, h2, h3⟩ := h.boxes β T cs hx
    exact ⟨h0, vs, h1, h2.mono fun _ _ => CRep.fwd hf, h3⟩
  · rintro β hβ o (hp | ⟨t, r, h1, h2, h3⟩)
    · exact h.boxPc β hβ o hp
    · exact h.rowBox t r _ β h1 h2 hβ rfl
  · obtain ⟨r0, h1, rfl⟩ := hrow t r hr
    obtain ⟨hs, cells, k1, k2, k3⟩ := h.rows t r0 h1
    exact ⟨hs, cells, k1, k2.mono fun _ _ => DatRep.mono (fun _ _ h => Or.inl h) (fun _ _ _ => rfl), k3⟩
  · obtain ⟨r0, h1, rfl⟩ := hrow t r hr
    exact Or.inr ⟨t, r0, h1, hb, ho⟩
  · obtain ⟨r0, h1, rfl⟩ := hrow t r hr
    refine ⟨rfl, ?_⟩
    rcases hp with hp | ⟨t', r', h2, h3, h4⟩
    · exact (h.rowPc t r0 b h1 hb o hp).2
    · by_cases ht : t = t'
      · subst ht
        rw [h1] at h2; cases h2
        exact h4
      · exact absurd h3 (h.rowNe t t' r0 r' b ht h1 h2 hb)
  · obtain ⟨r0, h1, rfl⟩ := hrow t r hr
    exact h.rowBox t r0 b β h1 hb hβ
  · obtain ⟨r0, h1, rfl⟩ := hrow t r hr
    obtain ⟨r1, h2, rfl⟩ := hrow t' r' hr'
    exact h.rowNe t t' r0 r1 b hn h1 h2 hb
/-- some lists are written no more -/
def frzB (p : Nat → Bool) (σ : St) : St := { σ with row := fun t => (σ.row t).map fun r => if p t = true then { r with wr := false } else r }
theorem Hp.frzB (p : Nat → Bool) (h : Hp F σ e w) : ∃ e', Fwd e σ w e' (frzB p σ) w ∧ Hp F (AM.frzB p σ) e' w := by
  let N : Nat → Nat → Prop := fun b o => ∃ t r, p t = true ∧ σ.row t = some r ∧ (e.rv t r.gen).ownBlock = some b ∧ o < r.xs.length * r.sz
  have hrow : ∀ t r, (AM.frzB p σ).row t = some r → ∃ r0, σ.row t = some r0 ∧ ((p t = true ∧ r = { r0 with wr := false }) ∨ (p t = false ∧ r = r0)) := fun t r hr => by
    obtain ⟨r0, h1, h2⟩ := Option.map_eq_some_iff.1 hr
    cases hp : p t with
    | true => rw [hp] at h2; exact ⟨r0, h1, Or.inl ⟨rfl, h2.symm⟩⟩
    | false => rw [hp] at h2; exact ⟨r0, h1, Or.inr ⟨rfl, h2.symm⟩⟩
  have hsame : ∀ t r, (AM.frzB p σ).row t = some r → ∃ r0, σ.row t = some r0 ∧ r.gen = r0.gen ∧ r.xs = r0.xs ∧ r.sz = r0.sz ∧ r.E = r0.E := fun t r hr => by
    obtain ⟨r0, h1, ⟨_, rfl⟩ | ⟨_, rfl⟩⟩ := hrow t r hr
    · exact ⟨r0, h1, rfl, rfl, rfl, rfl⟩
    · exact ⟨r, h1, rfl, rfl, rfl, rfl⟩
  have hf : Fwd e σ w { e with Pc := fun b o => e.Pc b o ∨ N b o } (AM.frzB p σ) w := ⟨fun _ _ h => Or.inl h, fun _ _ _ => rfl, fun _ h => ⟨h, rfl⟩, fun t r g hr hg => ⟨⟨if p t = true then { r with wr := false } else r, by show (σ.row t).map _ = _; rw [hr]; rfl, by split <;> exact hg, by split <;> rfl⟩, rfl⟩⟩
  refine ⟨_, hf, h.below, fun b o hp => Or.inl (h.pc0 b o hp), ?_, ?_, fun β T cs hx => ?_, ?_, h.boxNe, fun t r hr => ?_, fun t r b hr hw hb o ho => ?_, fun t r b hr hb o hp => ?_, fun t r b β hr hb hβ => ?_, fun t t' r r' b hn hr hr' hb => ?_⟩
  · rintro b o (hp | ⟨t, r, _, h1, h2, h3⟩)
    · exact h.pcNew b o hp
    · exact Or.inr (h.rowLt h1 h2).1
  · rintro b o (hp | ⟨t, r, _, h1, h2, h3⟩)
    · exact h.pcLt b o hp
    · exact (h.rowLt h1 h2).2
  · obtain ⟨h0, vs, h1, h2, h3⟩ := h.boxes β T cs hx
    exact ⟨h0, vs, h1, h2.mono fun _ _ => CRep.fwd hf, h3⟩
  · rintro β hβ o (hp | ⟨t, r, _, h1, h2, h3⟩)
    · exact h.boxPc β hβ o hp
    · exact h.rowBox t r _ β h1 h2 hβ rfl
  · obtain ⟨r0, h1, q1, q2, q3, q4⟩ := hsame t r hr
    obtain ⟨hs, cells, k1, k2, k3⟩ := h.rows t r0 h1
    rw [q1, q2, q3, q4]
    exact ⟨hs, cells, k1, k2.mono fun _ _ => DatRep.mono (fun _ _ h => Or.inl h) (fun _ _ _ => rfl), k3⟩
  · obtain ⟨r0, h1, ⟨hp, rfl⟩ | ⟨hp, rfl⟩⟩ := hrow t r hr
    · exact Or.inr ⟨t, r0, hp, h1, hb, ho⟩
    · exact Or.inl (h.rowPro t r b h1 hw hb o ho)
  · have key : ∀ t0 r0, σ.row t0 = some r0 → t0 = t → r0.gen = r.gen → r0.xs = r.xs → r0.sz = r.sz → (r0.wr = false ∨ p t = true → r.wr = false) → r.wr = false ∧ o < r.xs.length * r.sz := by
      intro t0 r0 h1 et q1 q2 q3 q5
      subst et
      rcases hp with hp | ⟨t', r', hp', h2, h3, h4⟩
      · have := h.rowPc t0 r0 b h1 (by rw [q1]; exact hb) o hp
        rw [← q2, ← q3]
        exact ⟨q5 (Or.inl this.1), this.2⟩
      · by_cases ht : t0 = t'
        · subst ht
          rw [h1] at h2; cases h2
          rw [← q2, ← q3]
          exact ⟨q5 (Or.inr hp'), h4⟩
        · exact absurd h3 (h.rowNe t0 t' r0 r' b ht h1 h2 (by rw [q1]; exact hb))
    obtain ⟨r0, h1, ⟨hp1, rfl⟩ | ⟨hp1, rfl⟩⟩ := hrow t r hr
    · exact key t r0 h1 rfl rfl rfl rfl (fun _ => rfl)
    · exact key t r h1 rfl rfl rfl rfl (fun hh => hh.elim id (fun h2 => by rw [hp1] at h2; cases h2))
  · obtain ⟨r0, h1, q1, _⟩ := hsame t r hr
    exact h.rowBox t r0 b β h1 (by rw [← q1]; exact hb) hβ
  · obtain ⟨r0, h1, q1, _⟩ := hsame t r hr
    obtain ⟨r1, h2, q2, _⟩ := hsame t' r' hr'
    show (e.rv t' r'.gen).ownBlock ≠ some b
    rw [q2]
    exact h.rowNe t t' r0 r1 b hn h1 h2 (by rw [← q1]; exact hb)
/-- before a call: no list is written any more -/
theorem acode_frz (hc : ACode P F c (frz σ) Q) : ACode P F c σ Q := fun e a w hR => by
  obtain ⟨e', hf, hh⟩ := hR.hp.frz
  exact hc e' a w ⟨hR.defers, hR.size, fun i => (hR.slots i).fwd hf, hh⟩
theorem aops_frz {ops : Array Oper} {l : List Oper} {K : St → Prop} (hc : AOps P F ops l (frz σ) K) : AOps P F ops l σ K := fun hn hall e a w hR => by
  obtain ⟨e', hf, hh⟩ := hR.hp.frz
  exact hc hn hall e' a w ⟨hR.defers, hR.size, fun i => (hR.slots i).fwd hf, hh⟩

def resOne (P : Program) (σ : St) : ResultVar → Option D1
  | .tmp t => match σ.slot t with
    | .one x => pure1 (frz σ).row x
    | _ => none
  | .cell p ty => match σ.slot p with
    | .one (.c (.box β off)) => match σ.box β with
      | some (_, cs) => match loadC P ty (cs.drop off) with
        | some (.one x) => pure1 (frz σ).row x
        | _ => none
      | none => none
    | _ => none
def resAll (P : Program) (σ : St) : List ResultVar → Option (List D1)
  | [] => some []
  | r :: rs => match resOne P σ r, resAll P σ rs with
    | some x, some xs => some (x :: xs)
    | _, _ => none
def resD (P : Program) (rs : Array ResultVar) (σ : St) : Option D := match resAll P σ rs.toList with
  | some [x] => some (.one x)
  | some xs => some (.tup xs)
  | none => none
theorem pure1_ok (h : Hp F σ e w) {v : Value} {d d' : D1} (hd : pure1 σ.row d = some d') (hv : Rep1 e σ w v d) : Rep1 (noEnv e.Pc) noSt w v d' := by
  cases d with
  | c x =>
    obtain ⟨z, hz, rfl⟩ := Option.map_eq_some_iff.1 hd
    exact pureC_ok h hz hv
  | agg cs =>
    obtain ⟨z, hz, rfl⟩ := Option.map_eq_some_iff.1 hd
    obtain ⟨us, h1, h2⟩ := hv
    exact ⟨us, h1, pureCs_ok h hz h2⟩
def resF (a : Act) (r : ResultVar) : Sem Value := match r with
  | .tmp t => pure (a.tmps.getD t undef)
  | .cell p t => do loadVar t (← asAddr (a.tmps.getD p undef))
theorem resOne_ok (hR : R F σ e a w) {e' : Env} (hf : Fwd e σ w e' (frz σ) w) (hh : Hp F (frz σ) e' w) {r : ResultVar} {d : D1} (h : resOne P σ r = some d) :
    ∃ v, (resF a r).run P w = .ok v w ∧ Rep1 (noEnv e'.Pc) noSt w v d := by
  unfold resOne at h
  split at h
  · rename_i t
    split at h
    case h_2 => cases h
    rename_i x hx
    have h1 := hR.slots t
    rw [hx] at h1
    exact ⟨_, rfl, pure1_ok hh h (Rep1.fwd hf h1)⟩
  · rename_i p ty
    split at h
    case h_2 => cases h
    rename_i β off hx
    split at h
    case h_2 => cases h
    rename_i T cs hb
    split at h
    case h_2 => cases h
    rename_i x hl
    have h1 := hR.slots p
    rw [hx] at h1
    obtain ⟨_, h3⟩ : (σ.box β).isSome = true ∧ a.tmps.getD p undef = .pointer (some ⟨e.m β, off, none⟩) := h1
    obtain ⟨_, vs, h4, h5, _⟩ := hR.hp.boxes β T cs hb
    obtain ⟨v, h6, h7⟩ := run_loadVar' (b := e.m β) (off := off) hl (h5.drop off) (fun j hj => by
      rw [cell_of_row w (e.m β) _ vs T _ h4, List.getElem_drop]
      simp)
    refine ⟨v, ?_, pure1_ok hh h (Rep1.fwd hf h7)⟩
    simp only [resF, h3, asAddr, Sem.run_bind, Sem.run_pure, Result.andThen_ok, h6]
theorem resAll_ok (hR : R F σ e a w) {e' : Env} (hf : Fwd e σ w e' (frz σ) w) (hh : Hp F (frz σ) e' w) : ∀ {rs : List ResultVar} {ds : List D1}, resAll P σ rs = some ds →
    ∃ vs : List Value, (rs.mapM (resF a)).run P w = .ok vs w ∧ All2 (Rep1 (noEnv e'.Pc) noSt w) vs ds
  | [], ds, h => by
    simp only [resAll, Option.some.injEq] at h; subst h
    exact ⟨[], by simp, trivial⟩
  | r :: rs, ds, h => by
    unfold resAll at h
    split at h
    case h_2 => cases h
    rename_i x xs hx hxs
    simp only [Option.some.injEq] at h; subst h
    obtain ⟨v, h1, h2⟩ := resOne_ok hR hf hh hx
    obtain ⟨vs, h3, h4⟩ := resAll_ok hR hf hh hxs
    refine ⟨v :: vs, ?_, h2, h4⟩
    rw [List.mapM_cons]
    simp only [Sem.run_bind, h1, Result.andThen_ok, h3, Sem.run_pure]

/-- a function's contract, from its code -/
theorem pcalls_of {f : FuncId} {fn : Func} {ds : List D} {d : D} (hf : P.funcs[f]? = some fn) (hb : fn.body = some c) (hn : ds.length ≤ fn.ntmps) {G : World → Prop} (hst : Stab G)
    (h' : ∀ F : Fr, F.n = fn.ntmps → F.G = G → ∀ Q : Exit → St → Prop, (∀ σ, resD P fn.results σ = some d → Q .normal σ ∧ Q .ret σ) → ACode P F c { slot := fun i => ds.getD i (.one (.c .bad)), box := fun _ => none, row := fun _ => none } Q) : PCalls P G f ds d := by
  have h : ∀ F : Fr, F.n = fn.ntmps → F.G = G → ACode P F c { slot := fun i => ds.getD i (.one (.c .bad)), box := fun _ => none, row := fun _ => none } (fun ex σ => (ex = .normal ∨ ex = .ret) ∧ resD P fn.results σ = some d) := fun F hF hG => h' F hF hG _ fun σ hσ => ⟨⟨Or.inl rfl, hσ⟩, Or.inr rfl, hσ⟩
  intro Pc w vs hg hlt hv
  have hvl := hv.length
  rw [Array.length_toList] at hvl
  refine calls_of_wp hf hb ?_
  let F : Fr := { n := fn.ntmps, w0 := w, Pc := Pc, G := G, g0 := hg, gst := hst }
  have hR : R F { slot := fun i => ds.getD i (.one (.c .bad)), box := fun _ => none, row := fun _ => none } (noEnv Pc) { tmps := vs ++ Array.replicate (fn.ntmps - vs.size) undef, defers := [] } w := by
    refine ⟨rfl, by simp; show vs.size + (fn.ntmps - vs.size) = fn.ntmps; omega, fun i => ?_, ⟨Below.refl _ _, fun _ _ h => h, fun _ _ h => Or.inl h, hlt, (fun β T cs hx => by cases hx), (fun β hβ => by cases hβ), (fun β β' hβ => by cases hβ), (fun t r hr => by cases hr), (fun t r b hr => by cases hr), (fun t r b hr => by cases hr), (fun t r b β hr => by cases hr), (fun t t' r r' b hn hr => by cases hr)⟩⟩
    show DRep _ _ w _ (ds.getD i (.one (.c .bad)))
    by_cases hi : i < ds.length
    · have e1 : (vs ++ Array.replicate (fn.ntmps - vs.size) undef).getD i undef = vs[i]'(by omega) := by
        have : i < vs.size := by omega
        simp [Array.getD, Array.getElem_append_left this]
        intro hh; omega
      have e2 : ds.getD i (.one (.c .bad)) = ds[i] := by simp [List.getD, hi]
      rw [e1, e2]
      have := hv.get i (by rw [Array.length_toList]; omega) hi
      rw [Array.getElem_toList] at this
      exact this.fwd ⟨fun _ _ h => h, fun _ _ _ => rfl, (fun β hβ => by cases hβ), (fun t r g hr => by cases hr)⟩
    · have e2 : ds.getD i (.one (.c .bad)) = .one (.c .bad) := by simp [List.getD, hi]
      rw [e2]; trivial
  refine wp_mono (h F rfl rfl _ _ _ hR) fun ex a' w' hh => ?_
  obtain ⟨σ', e', ⟨hex, hres⟩, hR'⟩ := hh
  have fin : a'.defers = [] ∧ ∃ v, (results fn a'.tmps).run P w' = .ok v w' ∧ ∃ v' Pc', Ending.returned v = .returned v' ∧ Below w.heap.size w w' ∧ (∀ b o, Pc b o → Pc' b o) ∧ (∀ b o, Pc' b o → Pc b o ∨ (w.heap.size ≤ b ∧ b < w'.heap.size)) ∧ DRep (noEnv Pc') noSt w' v' d := by
    refine ⟨hR'.defers, ?_⟩
    obtain ⟨e'', hf2, hh2⟩ := hR'.hp.frz
    have hpc : (∀ b o, Pc b o → e''.Pc b o) ∧ (∀ b o, e''.Pc b o → Pc b o ∨ (w.heap.size ≤ b ∧ b < w'.heap.size)) := ⟨hh2.pc0, fun b o hp => by
      rcases hh2.pcNew b o hp with h1 | h1
      · exact Or.inl h1
      · exact Or.inr ⟨h1, hh2.pcLt b o hp⟩⟩
    unfold resD at hres
    have key : ∀ xs, resAll P σ' fn.results.toList = some xs → ∃ us : List Value, (results fn a'.tmps).run P w' = .ok (if h : us.toArray.size = 1 then us.toArray[0] else .tuple us.toArray) w' ∧ All2 (Rep1 (noEnv e''.Pc) noSt w') us xs := fun xs hxs => by
      obtain ⟨us, g1, g2⟩ := resAll_ok hR' hf2 hh2 hxs
      refine ⟨us, ?_, g2⟩
      have e1 : results fn a'.tmps = (do let vs ← fn.results.mapM (resF a'); pure (if h : vs.size = 1 then vs[0] else .tuple vs)) := rfl
      rw [e1, Array.mapM_eq_mapM_toList]
      simp only [Sem.run_bind, Sem.run_map, g1]
      rfl
    split at hres
    · rename_i x hx
      simp only [Option.some.injEq] at hres; subst hres
      obtain ⟨us, g1, g2⟩ := key _ hx
      match us, g2 with
      | [u], g2' =>
        refine ⟨u, by simpa using g1, u, e''.Pc, rfl, hR'.hp.below, hpc.1, hpc.2, g2'.1⟩
    · rename_i xs hxs hne
      simp only [Option.some.injEq] at hres; subst hres
      obtain ⟨us, g1, g2⟩ := key _ hne
      have hl : us.length ≠ 1 := fun h1 => by
        have := g2.length
        rw [h1] at this
        match xs, this with
        | [x], _ => exact hxs x rfl
      refine ⟨.tuple us.toArray, ?_, .tuple us.toArray, e''.Pc, rfl, hR'.hp.below, hpc.1, hpc.2, us.toArray, rfl, g2⟩
      rw [g1]
      simp [hl]
    · cases hres
  rcases hex with rfl | rfl
  · exact fin
  · exact fin
end Go.Proofs.YtngbpbncipjimaaDoor.AM
