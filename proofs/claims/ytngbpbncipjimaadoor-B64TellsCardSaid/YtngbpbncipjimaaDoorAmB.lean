/- The plain machine's memory: a new variable, a store, a draw, a call, an append. -/
import Derived.Test.YtngbpbncipjimaaDoorAmA
import Derived.Laws.CopyOwn
namespace Go.Proofs.YtngbpbncipjimaaDoor.AM
open Go.RowKit
set_option linter.unusedVariables false
variable {F : Fr} {σ : St} {e : Env} {w : World}

theorem Hp.sizeLe (h : Hp F σ e w) : F.w0.heap.size ≤ w.heap.size := h.below.size
theorem heapLt {w : World} {g : Nat} {o : Obj} (h : w.heap[g]? = some o) : g < w.heap.size := (Array.getElem?_eq_some_iff.1 h).1
theorem isSome_some {α : Type} {o : Option α} {x : α} (h : o = some x) : o.isSome = true := by rw [h]; rfl
theorem Hp.boxLt (h : Hp F σ e w) {β : Nat} (hb : (σ.box β).isSome = true) : e.m β < w.heap.size := by
  obtain ⟨⟨T, cs⟩, hx⟩ := Option.isSome_iff_exists.1 hb
  obtain ⟨_, vs, h1, _⟩ := h.boxes β T cs hx
  exact heapLt h1
theorem Hp.rowLt (h : Hp F σ e w) {t b : Nat} {r : Row} (hr : σ.row t = some r) (hb : (e.rv t r.gen).ownBlock = some b) : F.w0.heap.size ≤ b ∧ b < w.heap.size := by
  obtain ⟨_, cells, h1, _⟩ := h.rows t r hr
  exact h1.lt b hb

/-- the world goes on, and no block that was there turns -/
theorem Hp.grow (h : Hp F σ e w) {w' : World} (hb : Below w.heap.size w w') : Fwd e σ w e σ w' ∧ Hp F σ e w' := by
  have hf : Fwd e σ w e σ w' := ⟨fun _ _ h => h, fun b o hp => hb.cell (p := ⟨b, o, none⟩) (h.pcLt b o hp), fun _ h => ⟨h, rfl⟩, fun t r g h hg => ⟨⟨r, h, hg, rfl⟩, rfl⟩⟩
  refine ⟨hf, h.below.trans (hb.mono h.sizeLe), h.pc0, h.pcNew, fun b o hp => Nat.lt_of_lt_of_le (h.pcLt b o hp) hb.size, fun β T cs hx => ?_, h.boxPc, h.boxNe, fun t r hr => ?_, h.rowPro, h.rowPc, h.rowBox, h.rowNe⟩
  · obtain ⟨h0, vs, h1, h2, h3⟩ := h.boxes β T cs hx
    exact ⟨h0, vs, (hb.block _ (heapLt h1)).trans h1, h2.mono fun _ _ => CRep.fwd hf, h3⟩
  · obtain ⟨hs, cells, h1, h2, h2'⟩ := h.rows t r hr
    refine ⟨hs, cells, ⟨h1.1, ?_⟩, h2.mono fun _ _ => DatRep.mono (fun _ _ h => h) (fun b o hp => hb.cell (p := ⟨b, o, none⟩) (h.pcLt b o hp)), h2'⟩
    rcases h1.2 with h3 | ⟨g, cap, cur, h3, h4, h5, h6⟩
    · exact .inl h3
    · exact .inr ⟨g, cap, cur, h3, h4, (hb.block g (heapLt h5)).trans h5, h6⟩
theorem Hp.drew (h : Hp F σ e w) : Fwd e σ w e σ w.drew ∧ Hp F σ e w.drew := h.grow (Below.refl _ _).drew

/-- more cells that nobody writes: in blocks that are neither a variable's nor a list's -/
theorem Hp.more (h : Hp F σ e w) (N : Nat → Nat → Prop) (h1 : ∀ b o, N b o → F.w0.heap.size ≤ b ∧ b < w.heap.size) (h2 : ∀ b o, N b o → ∀ β, (σ.box β).isSome = true → e.m β ≠ b) (h3 : ∀ b o, N b o → ∀ t r, σ.row t = some r → (e.rv t r.gen).ownBlock ≠ some b) :
    Fwd e σ w { e with Pc := fun b o => e.Pc b o ∨ N b o } σ w ∧ Hp F σ { e with Pc := fun b o => e.Pc b o ∨ N b o } w := by
  have hf : Fwd e σ w { e with Pc := fun b o => e.Pc b o ∨ N b o } σ w := ⟨fun _ _ h => Or.inl h, fun _ _ _ => rfl, fun _ h => ⟨h, rfl⟩, fun t r g h hg => ⟨⟨r, h, hg, rfl⟩, rfl⟩⟩
  refine ⟨hf, h.below, fun b o hp => Or.inl (h.pc0 b o hp), ?_, ?_, fun β T cs hx => ?_, ?_, h.boxNe, fun t r hr => ?_, fun t r b hr hw hb o ho => Or.inl (h.rowPro t r b hr hw hb o ho), ?_, h.rowBox, h.rowNe⟩
  · rintro b o (hp | hp)
    · exact h.pcNew b o hp
    · exact Or.inr (h1 b o hp).1
  · rintro b o (hp | hp)
    · exact h.pcLt b o hp
    · exact (h1 b o hp).2
  · obtain ⟨h0, vs, h1, h2, h3⟩ := h.boxes β T cs hx
    exact ⟨h0, vs, h1, h2.mono fun _ _ => CRep.fwd hf, h3⟩
  · rintro β hβ o (hp | hp)
    · exact h.boxPc β hβ o hp
    · exact h2 _ _ hp β hβ rfl
  · obtain ⟨hs, cells, hc, hd, h1⟩ := h.rows t r hr
    exact ⟨hs, cells, hc, hd.mono fun _ _ => DatRep.mono (fun _ _ h => Or.inl h) (fun _ _ _ => rfl), h1⟩
  · rintro t r b hr hb o (hp | hp)
    · exact h.rowPc t r b hr hb o hp
    · exact absurd hb (h3 _ _ hp t r hr)

/-- a new variable -/
theorem Hp.alloc (h : Hp F σ e w) (i T : Nat) (vs : Array Value) (cs : List C) (hi : σ.box i = none) (hv : All2 (CRep e σ w) vs.toList cs) (h1 : ∀ u ∈ vs.toList, u.oneCell' = true) :
    Fwd e σ w { e with m := upd e.m i w.heap.size } { σ with box := upd σ.box i (some (T, cs)) } (w.alloc (.cells vs T)) ∧
    Hp F { σ with box := upd σ.box i (some (T, cs)) } { e with m := upd e.m i w.heap.size } (w.alloc (.cells vs T)) := by
  have hb : Below w.heap.size w (w.alloc (.cells vs T)) := (Below.refl _ _).alloc (Nat.le_refl _) _
  have hne : ∀ β, (σ.box β).isSome = true → β ≠ i := fun β hβ e => by subst e; rw [hi] at hβ; cases hβ
  have hf : Fwd e σ w { e with m := upd e.m i w.heap.size } { σ with box := upd σ.box i (some (T, cs)) } (w.alloc (.cells vs T)) :=
    ⟨fun _ _ h => h, fun b o hp => hb.cell (p := ⟨b, o, none⟩) (h.pcLt b o hp), fun β hβ => by
      show ((upd σ.box i (some (T, cs))) β).isSome = true ∧ upd e.m i w.heap.size β = e.m β
      rw [upd_ne _ _ (hne β hβ), upd_ne _ _ (hne β hβ)]; exact ⟨hβ, rfl⟩, fun t r g h hg => ⟨⟨r, h, hg, rfl⟩, rfl⟩⟩
  have dom : ∀ β, ((upd σ.box i (some (T, cs))) β).isSome = true → β = i ∨ (β ≠ i ∧ (σ.box β).isSome = true) := fun β hβ => by
    by_cases hβi : β = i
    · exact Or.inl hβi
    · rw [upd_ne _ _ hβi] at hβ; exact Or.inr ⟨hβi, hβ⟩
  refine ⟨hf, h.below.trans (hb.mono h.sizeLe), h.pc0, h.pcNew, fun b o hp => Nat.lt_of_lt_of_le (h.pcLt b o hp) hb.size, fun β T' cs' hx => ?_, ?_, ?_, fun t r hr => ?_, h.rowPro, h.rowPc, ?_, h.rowNe⟩
  · by_cases hβi : β = i
    · subst hβi
      rw [show ({ σ with box := upd σ.box β (some (T, cs)) } : St).box β = some (T, cs) from upd_same _ _ _] at hx
      simp only [Option.some.injEq, Prod.mk.injEq] at hx
      obtain ⟨rfl, rfl⟩ := hx
      show F.w0.heap.size ≤ upd e.m β w.heap.size β ∧ ∃ vs' : Array Value, (w.alloc (.cells vs T)).heap[upd e.m β w.heap.size β]? = _ ∧ _
      rw [upd_same]
      exact ⟨h.sizeLe, vs, heap_alloc_new w _, hv.mono fun _ _ => CRep.fwd hf, h1⟩
    · rw [show ({ σ with box := upd σ.box i (some (T, cs)) } : St).box β = σ.box β from upd_ne _ _ hβi] at hx
      obtain ⟨g0, us, g1, g2, g3⟩ := h.boxes β T' cs' hx
      show F.w0.heap.size ≤ upd e.m i w.heap.size β ∧ ∃ vs' : Array Value, (w.alloc (.cells vs T)).heap[upd e.m i w.heap.size β]? = _ ∧ _
      rw [upd_ne _ _ hβi]
      exact ⟨g0, us, (hb.block _ (heapLt g1)).trans g1, g2.mono fun _ _ => CRep.fwd hf, g3⟩
  · intro β hβ o hp
    have hlt := h.pcLt _ _ hp
    rcases dom β hβ with rfl | ⟨hβi, hβ'⟩
    · rw [show ({ e with m := upd e.m β w.heap.size } : Env).m β = w.heap.size from upd_same _ _ _] at hlt; omega
    · rw [show ({ e with m := upd e.m i w.heap.size } : Env).m β = e.m β from upd_ne _ _ hβi] at hp
      exact h.boxPc β hβ' o hp
  · intro β β' hβ hβ' hn
    show upd e.m i w.heap.size β ≠ upd e.m i w.heap.size β'
    rcases dom β hβ with rfl | ⟨hβi, hβs⟩
    · rcases dom β' hβ' with rfl | ⟨hβi', hβs'⟩
      · exact absurd rfl hn
      · rw [upd_same, upd_ne _ _ hβi']; have := h.boxLt hβs'; omega
    · rcases dom β' hβ' with rfl | ⟨hβi', hβs'⟩
      · rw [upd_same, upd_ne _ _ hβi]; have := h.boxLt hβs; omega
      · rw [upd_ne _ _ hβi, upd_ne _ _ hβi']; exact h.boxNe β β' hβs hβs' hn
  · obtain ⟨hs, cells, g1, g2, g3⟩ := h.rows t r hr
    exact ⟨hs, cells, g1.alloc _, g2.mono fun _ _ => DatRep.mono (fun _ _ h => h) (fun b o hp => hb.cell (p := ⟨b, o, none⟩) (h.pcLt b o hp)), g3⟩
  · intro t r b β hr hb' hβ
    show upd e.m i w.heap.size β ≠ b
    have hlt := h.rowLt hr hb'
    rcases dom β hβ with rfl | ⟨hβi, hβs⟩
    · rw [upd_same]; omega
    · rw [upd_ne _ _ hβi]; exact h.rowBox t r b β hr hb' hβs

/-- a variable is written -/
theorem Hp.set (h : Hp F σ e w) (β T : Nat) (cs cs' : List C) (vs : Array Value) (hβ : σ.box β = some (T, cs)) (hv : All2 (CRep e σ w) vs.toList cs') (h1 : ∀ u ∈ vs.toList, u.oneCell' = true) :
    Fwd e σ w e { σ with box := upd σ.box β (some (T, cs')) } (w.setRow (e.m β) vs) ∧ Hp F { σ with box := upd σ.box β (some (T, cs')) } e (w.setRow (e.m β) vs) := by
  obtain ⟨g0, us, g1, _, _⟩ := h.boxes β T cs hβ
  have hs := isSome_some hβ
  have hcell : ∀ b o, e.Pc b o → (w.setRow (e.m β) vs).cell? ⟨b, o, none⟩ = w.cell? ⟨b, o, none⟩ := fun b o hp =>
    cell_setRow_other w (e.m β) vs ⟨b, o, none⟩ (fun he => h.boxPc β hs o (by rw [← show b = e.m β from he]; exact hp))
  have dom : ∀ γ, ((upd σ.box β (some (T, cs'))) γ).isSome = true → (σ.box γ).isSome = true := fun γ hγ => by
    by_cases hγβ : γ = β
    · subst hγβ; exact hs
    · rw [upd_ne _ _ hγβ] at hγ; exact hγ
  have hf : Fwd e σ w e { σ with box := upd σ.box β (some (T, cs')) } (w.setRow (e.m β) vs) := ⟨fun _ _ h => h, hcell, fun γ hγ => ⟨by
    show ((upd σ.box β (some (T, cs'))) γ).isSome = true
    by_cases hγβ : γ = β
    · subst hγβ; rw [upd_same]; rfl
    · rw [upd_ne _ _ hγβ]; exact hγ, rfl⟩, fun t r g h hg => ⟨⟨r, h, hg, rfl⟩, rfl⟩⟩
  refine ⟨hf, below_setRow h.below g0 vs, h.pc0, h.pcNew, fun b o hp => by rw [setRow_size]; exact h.pcLt b o hp, fun γ T' ds hx => ?_, fun γ hγ => h.boxPc γ (dom γ hγ), fun γ γ' hγ hγ' => h.boxNe γ γ' (dom γ hγ) (dom γ' hγ'), fun t r hr => ?_, h.rowPro, h.rowPc, fun t r b γ hr hb hγ => h.rowBox t r b γ hr hb (dom γ hγ), h.rowNe⟩
  · by_cases hγβ : γ = β
    · subst hγβ
      rw [show ({ σ with box := upd σ.box γ (some (T, cs')) } : St).box γ = some (T, cs') from upd_same _ _ _] at hx
      simp only [Option.some.injEq, Prod.mk.injEq] at hx
      obtain ⟨rfl, rfl⟩ := hx
      exact ⟨g0, vs, setRow_heap w _ us vs T _ g1, hv.mono fun _ _ => CRep.fwd hf, h1⟩
    · rw [show ({ σ with box := upd σ.box β (some (T, cs')) } : St).box γ = σ.box γ from upd_ne _ _ hγβ] at hx
      obtain ⟨k0, vs', k1, k2, k3⟩ := h.boxes γ T' ds hx
      exact ⟨k0, vs', (setRow_other w _ _ vs (h.boxNe γ β (isSome_some hx) hs hγβ)).trans k1, k2.mono fun _ _ => CRep.fwd hf, k3⟩
  · obtain ⟨hs', cells, k1, k2, k2'⟩ := h.rows t r hr
    refine ⟨hs', cells, ⟨k1.1, ?_⟩, k2.mono fun _ _ => DatRep.mono (fun _ _ h => h) hcell, k2'⟩
    rcases k1.2 with k3 | ⟨g, cap, cur, k3, k4, k5, k6⟩
    · exact .inl k3
    · exact .inr ⟨g, cap, cur, k3, k4, (setRow_other w _ g vs (fun he => h.rowBox t r g β hr (by rw [k3]; rfl) hs he.symm)).trans k5, k6⟩
end Go.Proofs.YtngbpbncipjimaaDoor.AM
