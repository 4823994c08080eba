/- Typed data: code, loops by shapes, whole functions. -/
import Derived.Test.YtngbpbncipjimaaDoorT6
namespace Go.Proofs.YtngbpbncipjimaaDoor.AM
open Go.RowKit
set_option linter.unusedVariables false
set_option linter.unusedSimpArgs false
variable {P : Program} {F : Fr} {e : Env} {w : World}

@[reducible] def pOuts : List (Exit × SSt) → Type
  | [] => Empty
  | [x] => pSt x.2
  | x :: x' :: l => pSt x.2 ⊕ pOuts (x' :: l)
/-- what a loop comes to -/
structure LC where
  sh : SSt
  outs : List (Exit × SSt)
  F : pSt sh → Option (pOuts outs)
def outK {α : Type} : (l : List (Exit × SSt)) → pOuts l → (Exit → TSt → Option α) → Option α
  | [], p, _ => nomatch p
  | [x], p, k => k x.1 (rSt x.2 p)
  | x :: x' :: l, (p : pSt x.2 ⊕ pOuts (x' :: l)), k => Sum.elim (fun q => k x.1 (rSt x.2 q)) (fun q => outK (x' :: l) q k) p
def exB : Exit → Exit → Bool
  | .normal, .normal => true
  | .exit i, .exit j => Nat.beq i j
  | .ret, .ret => true
  | _, _ => false
theorem exB_eq : ∀ {x y : Exit}, exB x y = true → x = y
  | .normal, .normal, _ => rfl
  | .exit i, .exit j, h => by rw [Nat.eq_of_beq_eq_true h]
  | .ret, .ret, _ => rfl
  | .normal, .exit _, h => by cases h
  | .normal, .ret, h => by cases h
  | .normal, .goto _, h => by cases h
  | .normal, .panic _, h => by cases h
  | .normal, .outgrown, h => by cases h
  | .exit _, .normal, h => by cases h
  | .exit _, .ret, h => by cases h
  | .exit _, .goto _, h => by cases h
  | .exit _, .panic _, h => by cases h
  | .exit _, .outgrown, h => by cases h
  | .ret, .normal, h => by cases h
  | .ret, .exit _, h => by cases h
  | .ret, .goto _, h => by cases h
  | .ret, .panic _, h => by cases h
  | .ret, .outgrown, h => by cases h
  | .goto _, _, h => by cases h
  | .panic _, _, h => by cases h
  | .outgrown, _, h => by cases h
/-- read, its lists frozen where the shape wants it -/
def cStF (sh : SSt) (σ : TSt) : Option (pSt sh) := match cSt sh σ with
  | some p => some p
  | none => cSt sh (frzT σ)
def inOut : (l : List (Exit × SSt)) → Exit → TSt → Option (pOuts l)
  | [], _, _ => none
  | [x], ex, σ => bif exB x.1 ex then cStF x.2 σ else none
  | x :: x' :: l, ex, σ => bif exB x.1 ex then (match cStF x.2 σ with
      | some p => some (Sum.inl p)
      | none => (inOut (x' :: l) ex σ).map Sum.inr) else (inOut (x' :: l) ex σ).map Sum.inr
/-- a state that holds where another one holds -/
def Wk (F : Fr) (σ σ' : St) : Prop := ∀ e a w, R F σ e a w → ∃ e', R F σ' e' a w
theorem wk_coe0 {sh : SSt} {σ : TSt} {p : pSt sh} (h : cSt sh σ = some p) : Wk F (eS σ) (eS (rSt sh p)) := fun e a w hR => ⟨_, coe_ok h hR⟩
theorem wk_frz (σ : TSt) : Wk F (eS σ) (eS (frzT σ)) := fun e a w hR => by
  obtain ⟨e', hf, hh⟩ := hR.hp.frz
  rw [eS_frz]
  exact ⟨e', hR.defers, hR.size, fun i => (hR.slots i).fwd hf, hh⟩
theorem wk_coe {sh : SSt} {σ : TSt} {p : pSt sh} (h : cStF sh σ = some p) : Wk F (eS σ) (eS (rSt sh p)) := by
  unfold cStF at h
  split at h
  · rename_i q hq
    simp only [Option.some.injEq] at h; subst h
    exact wk_coe0 hq
  · intro e a w hR
    obtain ⟨e', h1⟩ := wk_frz σ e a w hR
    exact wk_coe0 h e' a w h1
theorem inOut_ok {α : Type} {k : Exit → TSt → Option α} {r : α} : ∀ {l : List (Exit × SSt)} {ex : Exit} {σ : TSt} {o : pOuts l}, inOut l ex σ = some o → outK l o k = some r → ∃ τ, k ex τ = some r ∧ Wk F (eS σ) (eS τ)
  | [], _, _, _, h, _ => by cases h
  | [x], ex, σ, o, h, hk => by
    unfold inOut at h
    cases hb : exB x.1 ex with
    | false => rw [hb] at h; cases h
    | true =>
      rw [hb] at h
      have := exB_eq hb
      subst this
      exact ⟨_, hk, wk_coe h⟩
  | x :: x' :: l, ex, σ, o, h, hk => by
    have next : (inOut (x' :: l) ex σ).map Sum.inr = some o → ∃ τ, k ex τ = some r ∧ Wk F (eS σ) (eS τ) := fun h => by
      obtain ⟨q, hq, rfl⟩ := Option.map_eq_some_iff.1 h
      exact inOut_ok hq hk
    unfold inOut at h
    cases hb : exB x.1 ex with
    | false => rw [hb] at h; exact next h
    | true =>
      rw [hb] at h
      simp only [cond_true] at h
      split at h
      · rename_i p hp
        have := exB_eq hb
        subst this
        obtain rfl : Sum.inl p = o := Option.some.inj h
        exact ⟨_, hk, wk_coe hp⟩
      · exact next h
def nl : Code → Nat
  | .seq a b => nl a + nl b
  | .cond _ a b => nl a + nl b
  | .block _ a => nl a
  | .loop a => nl a + 1
  | .scope a => nl a
  | _ => 0
def opsOkL (n : Nat) (ops : List Oper) : Bool := ops.all (dstOk n)
abbrev Hints := List (Nat × List Ht)
/-- are own lists given up ahead of a drawn region? (a mark in the hints says no) -/
def fzD (dh : Hints) (id : Nat) (ops : List Oper) : Bool := hasCall ops && (lk dh (id + 1000000)).isNone
def run (P : Program) (n : Nat) (ct : List FC) (lts : List LC) (dh : Hints) {α : Type} : Nat → Code → TSt → (Exit → TSt → Option α) → Option α
  | _, .skip, σ, k => k .normal σ
  | _, .region id ops draw, σ, k => bif opsOkL n ops.toList then (match draw with
      | false => runOps P ct ops.toList ops.toList σ (k .normal)
      | true => match lk dh id with
        | some hs => runDraw P ct (fzD dh id ops.toList) ops.toList ops.toList hs (frzIf (fzD dh id ops.toList) σ) (k .normal)
        | none => none) else none
  | i, .seq a b, σ, k => run P n ct lts dh i a σ fun ex σ' => match ex with
      | .normal => run P n ct lts dh (i + nl a) b σ' k
      | ex => k ex σ'
  | i, .cond c a b, σ, k => match topnd σ c with
      | some (.one (.c (.d .bool t))) => bif t then run P n ct lts dh i a σ k else run P n ct lts dh (i + nl a) b σ k
      | _ => none
  | i, .block id a, σ, k => run P n ct lts dh i a σ fun ex σ' => match ex with
      | .exit id' => bif Nat.beq id' id then k .normal σ' else k (.exit id') σ'
      | ex => k ex σ'
  | i, .loop _, σ, k => match nth lts i with
      | some L => match cStF L.sh σ with
        | some p => (L.F p).bind fun o => outK L.outs o k
        | none => none
      | none => none
  | _, .exit id, σ, k => k (.exit id) σ
  | _, .ret, σ, k => k .ret σ
  | i, .scope a, σ, k => run P n ct lts dh i a σ fun ex σ' => match ex with
      | .goto _ => none
      | ex => k ex σ'
  | _, _, _, _ => none
/-- the hints are right -/
def drB (dh : Hints) : Code → Bool
  | .region id ops true => match lk dh id with
    | some hs => okH hs 0 ops.toList hs []
    | none => true
  | .seq a b => drB dh a && drB dh b
  | .cond _ a b => drB dh a && drB dh b
  | .block _ a => drB dh a
  | .loop a => drB dh a
  | .scope a => drB dh a
  | _ => true
/-- a loop's datum tells what the loop does -/
def LCok (P : Program) (F : Fr) (L : LC) (body : Code) : Prop :=
  ∀ p o, L.F p = some o → ∀ {α : Type} (k : Exit → TSt → Option α) (r : α), outK L.outs o k = some r → ∀ Q : Exit → St → Prop, (∀ ex σ', k ex σ' = some r → Q ex (eS σ')) → ACode P F (.loop body) (eS (rSt L.sh p)) Q
def LOk (P : Program) (F : Fr) (lts : List LC) : Nat → Code → Prop
  | i, .seq a b => LOk P F lts i a ∧ LOk P F lts (i + nl a) b
  | i, .cond _ a b => LOk P F lts i a ∧ LOk P F lts (i + nl a) b
  | i, .block _ a => LOk P F lts i a
  | i, .scope a => LOk P F lts i a
  | i, .loop a => ∀ L, nth lts i = some L → LCok P F L a
  | _, _ => True
theorem acode_wk {c : Code} {σ σ' : St} {Q : Exit → St → Prop} (h : Wk F σ σ') (hc : ACode P F c σ' Q) : ACode P F c σ Q := fun e a w hR => by
  obtain ⟨e', hR'⟩ := h e a w hR
  exact hc e' a w hR'
theorem acode_post {c : Code} {σ : St} {Q Q' : Exit → St → Prop} (hc : ACode P F c σ Q) (h : ∀ ex σ', Q ex σ' → ∃ σ'', Q' ex σ'' ∧ Wk F σ' σ'') : ACode P F c σ Q' := fun e a w hR =>
  wp_mono (hc e a w hR) fun ex a' w' ⟨σ', e', h1, h2⟩ => by
    obtain ⟨σ'', h3, h4⟩ := h ex σ' h1
    obtain ⟨e'', h5⟩ := h4 e' a' w' h2
    exact ⟨σ'', e'', h3, h5⟩
theorem run_ok {n : Nat} {ct : List FC} {lts : List LC} {dh : Hints} (hnF : F.n = n) (hm : P.follows .mixedOrders = true) (hct : ∀ c ∈ ct, FCok P F.G c ∧ noTup c.args = true) {α : Type} {r : α} :
    ∀ {c : Code} {i : Nat} {σ : TSt} {k : Exit → TSt → Option α} {Q : Exit → St → Prop}, LOk P F lts i c → drB dh c = true → run P n ct lts dh i c σ k = some r → (∀ ex σ', k ex σ' = some r → Q ex (eS σ')) → ACode P F c (eS σ) Q := by
  intro c
  have hct' : ∀ c ∈ ct, FCok P F.G c := fun c hc => (hct c hc).1
  induction c with
  | skip => intro i σ k Q _ hdr h hq; exact acode_skip (hq _ _ h)
  | region id ops draw =>
    intro i σ k Q _ hdr h hq
    unfold run at h
    cases hb : opsOkL n ops.toList with
    | false => rw [hb] at h; cases h
    | true =>
      rw [hb] at h
      have hn : opsOk F.n ops.toList.toArray = true := by
        rw [hnF]
        unfold opsOk
        rw [List.all_toArray]
        exact hb
      have hops : ops = ops.toList.toArray := by simp
      rw [hops]
      cases draw with
      | false => exact acode_region hn (runOps_ok hct' h fun σ' hσ => hq _ _ hσ)
      | true =>
        simp only [cond_true] at h
        split at h
        case h_2 => cases h
        rename_i hs hhs
        unfold drB at hdr
        rw [hhs] at hdr
        simp only at hdr
        have hlen := (okH_ok hdr rfl rfl).1
        have key : ACode P F (.region id ops.toList.toArray true) (eS (frzIf (fzD dh id ops.toList) σ)) Q := by
          have := runDraw_ok (pre := []) (H1 := []) hct hdr rfl trivial hlen.symm h
          obtain ⟨post, h1, h2, τ, h3, h4⟩ := this hn (by simp)
          exact acode_drawS hm hn post h1 (by simpa using h2) (by rw [h4]; exact hq _ _ h3)
        cases hc : fzD dh id ops.toList with
        | false => rw [hc] at key; exact key
        | true =>
          rw [hc] at key
          have key' : ACode P F (.region id ops.toList.toArray true) (eS (frzT σ)) Q := key
          rw [eS_frz] at key'
          exact acode_frz key'
  | seq a b iha ihb =>
    intro i σ k Q hl hdr h hq
    unfold run at h
    unfold drB at hdr
    simp only [Bool.and_eq_true] at hdr
    obtain ⟨hl1, hl2⟩ := hl
    refine acode_seq (iha hl1 hdr.1 h fun ex σ' hσ => ?_)
    cases ex with
    | normal => exact ihb hl2 hdr.2 hσ hq
    | exit id => exact hq _ _ hσ
    | ret => exact hq _ _ hσ
    | goto l => exact hq _ _ hσ
    | panic ch => exact hq _ _ hσ
    | outgrown => exact hq _ _ hσ
  | cond c a b iha ihb =>
    intro i σ k Q hl hdr h hq
    unfold run at h
    unfold drB at hdr
    simp only [Bool.and_eq_true] at hdr
    obtain ⟨hl1, hl2⟩ := hl
    split at h
    case h_2 => cases h
    rename_i t ht
    have hb : boolOf (opnd (eS σ) c) = some t := by rw [topnd_ok ht]; rfl
    cases t with
    | true => exact acode_true hb (iha hl1 hdr.1 h hq)
    | false => exact acode_false hb (ihb hl2 hdr.2 h hq)
  | block id a iha =>
    intro i σ k Q hl hdr h hq
    unfold run at h
    refine acode_block (iha hl hdr h fun ex σ' hσ => ?_)
    cases ex with
    | exit id' =>
      have hσ' : (bif Nat.beq id' id then k .normal σ' else k (.exit id') σ') = some r := hσ
      show if id' = id then _ else _
      cases hb : Nat.beq id' id with
      | true =>
        rw [hb] at hσ'
        rw [if_pos (Nat.eq_of_beq_eq_true hb)]
        exact hq _ _ hσ'
      | false =>
        rw [hb] at hσ'
        rw [if_neg (fun he => by subst he; rw [Nat.beq_refl] at hb; cases hb)]
        exact hq _ _ hσ'
    | normal => exact hq _ _ hσ
    | ret => exact hq _ _ hσ
    | goto l => exact hq _ _ hσ
    | panic ch => exact hq _ _ hσ
    | outgrown => exact hq _ _ hσ
  | loop body _ =>
    intro i σ k Q hl hdr h hq
    unfold run at h
    split at h
    case h_2 => cases h
    rename_i L hL
    split at h
    case h_2 => cases h
    rename_i p hp
    obtain ⟨o, ho, h⟩ := Option.bind_eq_some_iff.1 h
    exact acode_wk (wk_coe hp) (hl L hL p o ho k r h Q hq)
  | exit id => intro i σ k Q _ hdr h hq; exact acode_exit (hq _ _ h)
  | ret => intro i σ k Q _ hdr h hq; exact acode_ret (hq _ _ h)
  | scope a iha =>
    intro i σ k Q hl hdr h hq
    unfold run at h
    refine acode_scope (iha hl hdr h fun ex σ' hσ => ?_)
    cases ex with
    | goto l => cases hσ
    | exit id => exact hq _ _ hσ
    | normal => exact hq _ _ hσ
    | ret => exact hq _ _ hσ
    | panic ch => exact hq _ _ hσ
    | outgrown => exact hq _ _ hσ
  | _ => intro i σ k Q _ hdr h hq; cases h

/-! loops -/
def iterF {A B : Type} (f : (A → Option B) → A → Option B) : Nat → A → Option B
  | 0, _ => none
  | n + 1, a => f (iterF f n) a
/-- one round -/
def round (P : Program) (n : Nat) (ct : List FC) (lts : List LC) (dh : Hints) (i : Nat) (sh : SSt) (outs : List (Exit × SSt)) (body : Code) (rec : pSt sh → Option (pOuts outs)) (p : pSt sh) : Option (pOuts outs) :=
  run P n ct lts dh i body (rSt sh p) fun ex σ' => match ex with
    | .normal => match cStF sh σ' with
      | some q => rec q
      | none => none
    | ex => inOut outs ex σ'
theorem acode_loopW {c : Code} {Q : Exit → St → Prop} {σ : St} (Inv : Nat → St → Prop) (n : Nat) (h0 : Inv n σ)
    (rnd : ∀ n σ, Inv n σ → ACode P F c σ (andThen (fun σ' => ∃ m σ'', m < n ∧ Inv m σ'' ∧ Wk F σ' σ'') Q)) : ACode P F (.loop c) σ Q := fun e a w hR => by
  refine wp_loop_ghost (fun n a w => ∃ σ e, Inv n σ ∧ R F σ e a w) n ⟨σ, e, h0, hR⟩ ?_
  rintro n a w ⟨σ1, e1, hI, hR1⟩
  refine wp_mono (rnd n σ1 hI e1 a w hR1) fun ex a' w' hh => ?_
  obtain ⟨σ', e', h1, h2⟩ := hh
  cases ex with
  | normal =>
    obtain ⟨m, σ'', hm, hI', hl⟩ := h1
    obtain ⟨e'', h3⟩ := hl e' a' w' h2
    exact ⟨m, hm, σ'', e'', hI', h3⟩
  | _ => exact ⟨σ', e', h1, h2⟩
theorem loop_ok {n : Nat} {ct : List FC} {lts : List LC} {dh : Hints} {i : Nat} (hnF : F.n = n) (hm : P.follows .mixedOrders = true) (hct : ∀ c ∈ ct, FCok P F.G c ∧ noTup c.args = true) {L : LC} {body : Code}
    {step : (pSt L.sh → Option (pOuts L.outs)) → pSt L.sh → Option (pOuts L.outs)} (hs : ∀ rec p, step rec p = round P n ct lts dh i L.sh L.outs body rec p) {fuel : Nat} (hF : ∀ p, L.F p = iterF step fuel p) (hl : LOk P F lts i body) (hdr : drB dh body = true) : LCok P F L body := by
  intro p o hpo α k r hk Q hq
  rw [hF] at hpo
  refine acode_loopW (fun m σ => ∃ p, σ = eS (rSt L.sh p) ∧ iterF step m p = some o) fuel ⟨p, rfl, hpo⟩ ?_
  rintro m σ ⟨q, rfl, hq1⟩
  cases m with
  | zero => cases hq1
  | succ m =>
    have h1 : step (iterF step m) q = some o := hq1
    rw [hs] at h1
    unfold round at h1
    let Q1 : Exit → St → Prop := fun ex σ' => match ex with
      | .normal => ∃ σ'', (∃ p, σ'' = eS (rSt L.sh p) ∧ iterF step m p = some o) ∧ Wk F σ' σ''
      | ex => ∃ σ'', Q ex σ'' ∧ Wk F σ' σ''
    refine acode_post (run_ok hnF hm hct (Q := Q1) hl hdr h1 ?_) ?_
    · intro ex σ' hσ
      cases ex with
      | normal =>
        simp only at hσ
        split at hσ
        · rename_i q' hq'
          exact ⟨_, ⟨q', rfl, hσ⟩, wk_coe hq'⟩
        · cases hσ
      | _ =>
        obtain ⟨τ, h2, h3⟩ := inOut_ok (F := F) hσ hk
        exact ⟨_, hq _ _ h2, h3⟩
    · intro ex σ' h
      cases ex with
      | normal =>
        obtain ⟨σ'', h2, h3⟩ := h
        exact ⟨σ', ⟨m, σ'', Nat.lt_succ_self m, h2, h3⟩, fun e a w hR => ⟨e, hR⟩⟩
      | _ => exact h

/-- the body of the loop of a number -/
def bodyAt : Nat → Nat → Code → Code
  | i, j, .seq a b => bif Nat.blt j (i + nl a) then bodyAt i j a else bodyAt (i + nl a) j b
  | i, j, .cond _ a b => bif Nat.blt j (i + nl a) then bodyAt i j a else bodyAt (i + nl a) j b
  | i, j, .block _ a => bodyAt i j a
  | i, j, .scope a => bodyAt i j a
  | i, j, .loop a => bif Nat.beq j i then a else bodyAt (i + 1) j a
  | _, _, _ => .skip
theorem blt_t {a b : Nat} (h : a < b) : Nat.blt a b = true := by simpa using h
theorem blt_f {a b : Nat} (h : b ≤ a) : Nat.blt a b = false := by
  cases hb : Nat.blt a b with
  | false => rfl
  | true => have : a < b := by simpa using hb
            omega
theorem lok_of {lts : List LC} : ∀ {c : Code} {i : Nat}, (∀ j L, i ≤ j → j < i + nl c → nth lts j = some L → LCok P F L (bodyAt i j c)) → LOk P F lts i c := by
  intro c
  induction c with
  | seq a b iha ihb =>
    intro i h
    refine ⟨iha fun j L h1 h2 h3 => ?_, ihb fun j L h1 h2 h3 => ?_⟩
    · have := h j L h1 (by show j < i + (nl a + nl b); omega) h3
      unfold bodyAt at this
      rwa [blt_t h2] at this
    · have := h j L (by omega) (by show j < i + (nl a + nl b); omega) h3
      unfold bodyAt at this
      rwa [blt_f h1] at this
  | cond c a b iha ihb =>
    intro i h
    refine ⟨iha fun j L h1 h2 h3 => ?_, ihb fun j L h1 h2 h3 => ?_⟩
    · have := h j L h1 (by show j < i + (nl a + nl b); omega) h3
      unfold bodyAt at this
      rwa [blt_t h2] at this
    · have := h j L (by omega) (by show j < i + (nl a + nl b); omega) h3
      unfold bodyAt at this
      rwa [blt_f h1] at this
  | block id a ih => intro i h; exact ih fun j L h1 h2 h3 => h j L h1 h2 h3
  | scope a ih => intro i h; exact ih fun j L h1 h2 h3 => h j L h1 h2 h3
  | loop a ih =>
    intro i h L hL
    have := h i L (Nat.le_refl _) (by show i < i + (nl a + 1); omega) hL
    unfold bodyAt at this
    rwa [Nat.beq_refl] at this
  | _ => intro i h; exact trivial
theorem drB_at {dh : Hints} : ∀ {c : Code} {i j : Nat}, drB dh c = true → drB dh (bodyAt i j c) = true := by
  intro c
  induction c with
  | seq a b iha ihb =>
    intro i j h
    unfold drB at h
    simp only [Bool.and_eq_true] at h
    unfold bodyAt
    cases Nat.blt j (i + nl a) with
    | true => exact iha h.1
    | false => exact ihb h.2
  | cond c a b iha ihb =>
    intro i j h
    unfold drB at h
    simp only [Bool.and_eq_true] at h
    unfold bodyAt
    cases Nat.blt j (i + nl a) with
    | true => exact iha h.1
    | false => exact ihb h.2
  | block id a ih => intro i j h; exact ih h
  | scope a ih => intro i j h; exact ih h
  | loop a ih =>
    intro i j h
    unfold bodyAt
    cases Nat.beq j i with
    | true => exact h
    | false => exact ih h
  | _ => intro i j h; rfl
def bodyOf (fn : Func) : Code := fn.body.getD .skip
/-- what is known of old memory: it holds on, and gives I -/
structure Know (I : World → Prop) (G : World → Prop) : Prop where
  st : Stab G
  im : ∀ w, G w → I w
/-- a function's contract, in each frame in which I is known -/
def FCall (I : World → Prop) (P : Program) (c : FC) : Prop := ∀ G, Know I G → FCok P G c ∧ noTup c.args = true

/-! whole functions -/
def resT1 (P : Program) (σ : TSt) : ResultVar → Option TD1
  | .tmp t => match lk σ.slots t with
    | some (.one x) => some x
    | _ => none
  | .cell p ty => match lk σ.slots p with
    | some (.one (.c (.box β off))) => match lk σ.boxes β with
      | some q => match loadT P ty (q.2.drop off) with
        | some (.one x) => some x
        | _ => none
      | none => none
    | _ => none
def resTs (P : Program) (σ : TSt) : List ResultVar → Option (List TD1)
  | [] => some []
  | r :: rs => match resT1 P σ r, resTs P σ rs with
    | some x, some xs => some (x :: xs)
    | _, _ => none
def resT (P : Program) (rs : List ResultVar) : (d : SD) → (σ : TSt) → Option (pD d)
  | .one s, σ => match resTs P (frzT σ) rs with
    | some [x] => c1 sh0 (frzT σ) s x
    | _ => none
  | .tup ss, σ => match resTs P (frzT σ) rs with
    | some xs => if xs.length = 1 then none else c1s sh0 (frzT σ) ss xs
    | none => none
def enumF : Nat → List TD → List (Nat × TD)
  | _, [] => []
  | i, x :: xs => (i, x) :: enumF (i + 1) xs
theorem lk_enumF : ∀ (xs : List TD) (i j : Nat), lk (enumF i xs) j = if i ≤ j then xs[j - i]? else none
  | [], i, j => by simp [enumF, lk]
  | x :: xs, i, j => by
    rw [enumF, lk_cons, lk_enumF xs]
    by_cases h1 : j = i
    · subst h1; simp
    · rw [if_neg h1]
      by_cases h2 : i ≤ j
      · rw [if_pos (by omega), if_pos h2]
        have : j - i = (j - (i + 1)) + 1 := by omega
        rw [this, List.getElem?_cons_succ]
      · rw [if_neg (by omega), if_neg h2]
def main (P : Program) (n : Nat) (ct : List FC) (lts : List LC) (dh : Hints) (c : Code) (rs : List ResultVar) (args : List SD) (res : SD) (a : pDs args) : Option (pD res) :=
  run P n ct lts dh 0 c ⟨enumF 0 (rDs args a), [], []⟩ fun ex σ => match ex with
    | .normal => resT P rs res σ
    | .ret => resT P rs res σ
    | _ => none
theorem resT1_ok {a : Act} {σ : TSt} (hR : R F (eS σ) e a w) {r : ResultVar} {x : TD1} (h : resT1 P σ r = some x) : ∃ v, (resF a r).run P w = .ok v w ∧ Rep1 e (eS σ) w v (e1 x) := by
  unfold resT1 at h
  split at h
  · rename_i t
    split at h
    case h_2 => cases h
    rename_i y hy
    simp only [Option.some.injEq] at h; subst h
    have h1 := hR.slots t
    have e2 : (eS σ).slot t = .one (e1 y) := by show (match lk σ.slots t with | some x => eD x | none => _) = _; rw [hy]; rfl
    rw [e2] at h1
    exact ⟨_, rfl, h1⟩
  · rename_i p ty
    split at h
    case h_2 => cases h
    rename_i β off hx
    split at h
    case h_2 => cases h
    rename_i q hb
    split at h
    case h_2 => cases h
    rename_i y hl
    simp only [Option.some.injEq] at h; subst h
    have h1 := hR.slots p
    have e2 : (eS σ).slot p = .one (.c (.box β off)) := by show (match lk σ.slots p with | some x => eD x | none => _) = _; rw [hx]; rfl
    rw [e2] at h1
    obtain ⟨_, h3⟩ : ((eS σ).box β).isSome = true ∧ a.tmps.getD p undef = .pointer (some ⟨e.m β, off, none⟩) := h1
    obtain ⟨_, vs, h4, h5, _⟩ := hR.hp.boxes β q.1 (q.2.map eC) (eS_box hb)
    have hl' := loadT_ok hl
    rw [List.map_drop] at hl'
    obtain ⟨v, h6, h7⟩ := run_loadVar' (b := e.m β) (off := off) hl' (h5.drop off) (fun j hj => by
      rw [cell_of_row w (e.m β) _ vs q.1 _ h4, List.getElem_drop]
      simp)
    refine ⟨v, ?_, h7⟩
    simp only [resF, h3, asAddr, Sem.run_bind, Sem.run_pure, Result.andThen_ok, h6]
theorem resTs_ok {a : Act} {σ : TSt} (hR : R F (eS σ) e a w) : ∀ {rs : List ResultVar} {xs : List TD1}, resTs P σ rs = some xs →
    ∃ vs : List Value, (rs.mapM (resF a)).run P w = .ok vs w ∧ All2 (Rep1 e (eS σ) w) vs (xs.map e1)
  | [], xs, h => by
    simp only [resTs, Option.some.injEq] at h; subst h
    exact ⟨[], by simp, trivial⟩
  | r :: rs, xs, h => by
    unfold resTs at h
    split at h
    case h_2 => cases h
    rename_i x ys hx hxs
    simp only [Option.some.injEq] at h; subst h
    obtain ⟨v, h1, h2⟩ := resT1_ok hR hx
    obtain ⟨vs, h3, h4⟩ := resTs_ok hR hxs
    refine ⟨v :: vs, ?_, h2, h4⟩
    rw [List.mapM_cons]
    simp only [Sem.run_bind, h1, Result.andThen_ok, h3, Sem.run_pure]
/-- a function tells what its code comes to -/
theorem main_ok {n : Nat} {ct : List FC} {lts : List LC} {dh : Hints} {c : Code} {f : Nat} {fn : Func} {args : List SD} {res : SD} {G : World → Prop} (hf : P.funcs[f]? = some fn) (hb : fn.body = some c) (hnt : fn.ntmps = n) (hn : args.length ≤ n) (hst : Stab G) (hm : P.follows .mixedOrders = true)
    {rs : List ResultVar} (hrs : fn.results.toList = rs) (hct : ∀ c ∈ ct, FCok P G c ∧ noTup c.args = true) (hl : ∀ F : Fr, F.n = n → F.G = G → LOk P F lts 0 c) (hdr : drB dh c = true) {x : pDs args} {r : pD res} (h : main P n ct lts dh c rs args res x = some r) : PCalls P G f ((rDs args x).map eD) (eD (rD res r)) := by
  intro Pc w vs hg hlt hv
  have hvl := hv.length
  rw [Array.length_toList, List.length_map] at hvl
  have hargs : (rDs args x).length = args.length := by
    have : ∀ (l : List SD) (p : pDs l), (rDs l p).length = l.length := by
      intro l
      induction l with
      | nil => intro p; rfl
      | cons d l ih =>
        intro p
        cases l with
        | nil => rfl
        | cons d' l => show (_ :: rDs (d' :: l) _).length = _; rw [List.length_cons, ih]; rfl
    exact this _ _
  refine calls_of_wp hf hb ?_
  let F : Fr := { n := n, w0 := w, Pc := Pc, G := G, g0 := hg, gst := hst }
  have hR : R F (eS ⟨enumF 0 (rDs args x), [], []⟩) (noEnv Pc) { tmps := vs ++ Array.replicate (fn.ntmps - vs.size) undef, defers := [] } w := by
    refine ⟨rfl, by simp; show vs.size + (fn.ntmps - vs.size) = n; omega, fun i => ?_, ⟨Below.refl _ _, fun _ _ h => h, fun _ _ h => Or.inl h, hlt, (fun β T cs hx => by cases hx), (fun β hβ => by cases hβ), (fun β β' hβ => by cases hβ), (fun t r hr => by cases hr), (fun t r b hr => by cases hr), (fun t r b hr => by cases hr), (fun t r b β hr => by cases hr), (fun t t' r r' b hn hr => by cases hr)⟩⟩
    show DRep _ _ w _ (match lk (enumF 0 (rDs args x)) i with | some x => eD x | none => .one (.c .bad))
    rw [lk_enumF, if_pos (Nat.zero_le _), Nat.sub_zero]
    by_cases hi : i < (rDs args x).length
    · have e1 : (vs ++ Array.replicate (fn.ntmps - vs.size) undef).getD i undef = vs[i]'(by omega) := by
        have : i < vs.size := by omega
        simp [Array.getD, Array.getElem_append_left this]
        intro hh; omega
      rw [e1, List.getElem?_eq_getElem hi]
      have := hv.get i (by rw [Array.length_toList]; omega) (by rw [List.length_map]; exact hi)
      rw [Array.getElem_toList, List.getElem_map] at this
      exact this.fwd ⟨fun _ _ h => h, fun _ _ _ => rfl, (fun β hβ => by cases hβ), (fun t r g hr => by cases hr)⟩
    · rw [List.getElem?_eq_none (by omega)]; trivial
  unfold main at h
  have hrun := run_ok (F := F) (Q := fun ex σ => (ex = .normal ∨ ex = .ret) ∧ ∃ τ, σ = eS τ ∧ resT P rs res τ = some r) rfl hm hct (hl F rfl rfl) hdr h (fun ex σ' hσ => by
    cases ex with
    | normal => exact ⟨Or.inl rfl, σ', rfl, hσ⟩
    | ret => exact ⟨Or.inr rfl, σ', rfl, hσ⟩
    | _ => cases hσ)
  refine wp_mono (hrun _ _ _ hR) fun ex a' w' hh => ?_
  obtain ⟨σ', e', ⟨hex, τ, rfl, hres⟩, hR'⟩ := hh
  have fin : a'.defers = [] ∧ ∃ v, (results fn a'.tmps).run P w' = .ok v w' ∧ ∃ v' Pc', Ending.returned v = .returned v' ∧ Below w.heap.size w w' ∧ (∀ b o, Pc b o → Pc' b o) ∧ (∀ b o, Pc' b o → Pc b o ∨ (w.heap.size ≤ b ∧ b < w'.heap.size)) ∧ DRep (noEnv Pc') noSt w' v' (eD (rD res r)) := by
    refine ⟨hR'.defers, ?_⟩
    obtain ⟨e'', hf2, hh2⟩ := hR'.hp.frz
    have hR2 : R F (eS (frzT τ)) e'' a' w' := by
      rw [eS_frz]
      exact ⟨hR'.defers, hR'.size, fun i => (hR'.slots i).fwd hf2, hh2⟩
    have hpc : (∀ b o, Pc b o → e''.Pc b o) ∧ (∀ b o, e''.Pc b o → Pc b o ∨ (w.heap.size ≤ b ∧ b < w'.heap.size)) := ⟨hh2.pc0, fun b o hp => by
      rcases hh2.pcNew b o hp with h1 | h1
      · exact Or.inl h1
      · exact Or.inr ⟨h1, hh2.pcLt b o hp⟩⟩
    unfold resT at hres
    have key : ∀ xs, resTs P (frzT τ) rs = some xs → ∃ us : List Value, (results fn a'.tmps).run P w' = .ok (if h : us.toArray.size = 1 then us.toArray[0] else .tuple us.toArray) w' ∧ All2 (Rep1 e'' (eS (frzT τ)) w') us (xs.map e1) := fun xs hxs => by
      obtain ⟨us, g1, g2⟩ := resTs_ok hR2 hxs
      refine ⟨us, ?_, g2⟩
      have e1 : results fn a'.tmps = (do let vs ← fn.results.mapM (resF a'); pure (if h : vs.size = 1 then vs[0] else .tuple vs)) := rfl
      rw [e1, Array.mapM_eq_mapM_toList, hrs]
      simp only [Sem.run_bind, Sem.run_map, g1]
      rfl
    cases res with
    | one s =>
      simp only at hres
      split at hres
      case h_2 => cases hres
      rename_i y hy
      obtain ⟨us, g1, g2⟩ := key _ hy
      match us, g2 with
      | [u], g2' =>
        refine ⟨u, by simpa using g1, u, e''.Pc, rfl, hR'.hp.below, hpc.1, hpc.2, ?_⟩
        exact c1_ok (rd_args hR2.hp) hres (src1_eS _) g2'.1
    | tup ss =>
      simp only at hres
      split at hres
      case h_2 => cases hres
      rename_i xs hxs
      split at hres
      case isTrue => cases hres
      rename_i hl1
      obtain ⟨us, g1, g2⟩ := key _ hxs
      have hl : us.length ≠ 1 := fun h1 => by
        have := g2.length
        rw [h1, List.length_map] at this
        exact hl1 this.symm
      refine ⟨.tuple us.toArray, ?_, .tuple us.toArray, e''.Pc, rfl, hR'.hp.below, hpc.1, hpc.2, us.toArray, rfl, ?_⟩
      · rw [g1]
        simp [hl]
      · exact c1s_ok (rd_args hR2.hp) hres (fun x _ => src1_eS _) g2
  rcases hex with rfl | rfl
  · exact fin
  · exact fin
end Go.Proofs.YtngbpbncipjimaaDoor.AM
