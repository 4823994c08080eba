/- The plain machine's memory: an append to a list of one's own; and what it says of the new one's block. -/
import Derived.Test.YtngbpbncipjimaaDoorAmB
namespace Go.Proofs.YtngbpbncipjimaaDoor.AM
open Go.RowKit
set_option linter.unusedVariables false

theorem append_more {P : Program} (w : World) (base : Nat) (t ty e : TypeId) (i : TypeInfo) (z : Value) (size bytes : Nat) (ht : P.underlying t = some (.slice e)) (hi : P.info? e = some i) (hz : i.zero = some z)
    (hsize : i.size = size) (hby : i.bytes = bytes) (hzs : z.cells.size = size) (hsz : 0 < size)
    (v : Value) (n : Nat) (xs : List Value) (hown : w.ownsRow base e size v n xs)
    (x : Value) (m : Nat) (news : List Value) (hx : (∃ a c, x = .slice (some a) m c ∧ ∀ j u, news[j]? = some u → w.cell? (a.add j) = some u) ∨ (∃ c, x = .slice none m c ∧ m = 0)) (hl : news.length = m * size) (h1 : ∀ u ∈ news, u.oneCell' = true)
    (h63 : n + m ≤ maxLen) (hbytes : (n + m) * bytes ≤ 140737488355328) (hbase : base ≤ w.heap.size) :
    ∃ v' w', (Builtin.append_ #[t, t] ty #[v, x]).run P w = .ok v' w' ∧ w'.ownsRow base e size v' (n + m) (xs ++ news) ∧ w.grownBy w' v.ownBlock ∧
      (∀ g o, v.ownBlock = some g → o < n * size → w'.cell? ⟨g, o, none⟩ = w.cell? ⟨g, o, none⟩) ∧
      (∀ b, v'.ownBlock = some b → v.ownBlock = some b ∨ w.heap.size ≤ b) := by
  subst hsize
  subst hby
  rcases hx with ⟨a, c, rfl, hnews⟩ | ⟨c, rfl, rfl⟩
  · obtain ⟨v', w', hr, h2, h3, _⟩ := run_append_own (P := P) w base t ty e i z i.size i.bytes ht hi hz rfl rfl hzs hsz v n xs hown a m c news hl hnews h1 h63 hbytes hbase
    refine ⟨v', w', hr, h2, h3, ?_⟩
    have hm63 : n + m ≤ 9223372036854775807 := by unfold maxLen at h63; omega
    rcases hown.2 with ⟨rfl, rfl⟩ | ⟨g, cap, cur, rfl, hbg, hg, hnc, hcm, hcs, htake⟩
    · refine ⟨fun g o hg => by simp [Value.ownBlock] at hg, fun b hb => Or.inr ?_⟩
      by_cases hm : m = 0
      · subst hm
        obtain ⟨_, hq⟩ := h2
        rcases hq with ⟨rfl, _⟩ | ⟨g, cap, cur, rfl, h4, h5, _⟩
        · simp [Value.ownBlock] at hb
        · have hn : news = [] := List.eq_nil_of_length_eq_zero (by simpa using hl)
          subst hn
          have : (Builtin.append_ #[t, t] ty #[.slice none 0 0, .slice (some a) 0 c]).run P w = .ok (.slice none 0 0) w := by
            simp [Builtin.append_, run_underlying ht, sizeOf, typeInfo, hi, Builtin.lenOf, Builtin.firstCells, loadCells, loadCellsFrom]
          rw [this] at hr
          simp at hr
      · have hr' := run_append_nil (P := P) w t ty e i z ht hi hz a m c news hl hnews (by omega) (by omega) (by have hb := hbytes; simp only [Nat.zero_add] at hb; omega)
        rw [hr'] at hr
        simp only [Result.ok.injEq] at hr
        obtain ⟨rfl, rfl⟩ := hr
        simp [Value.ownBlock] at hb
        omega
    · by_cases hroom : n + m ≤ cap
      · have hfit : n * i.size + news.length ≤ cur.size := by rw [hl, hcs, ← Nat.add_mul]; exact Nat.mul_le_mul_right _ hroom
        have hr' := run_append_room (P := P) w t ty e i ht hi g n cap cur hg a m c news hl hnews h1 hroom hfit
        rw [hr'] at hr
        simp only [Result.ok.injEq] at hr
        obtain ⟨rfl, rfl⟩ := hr
        refine ⟨fun g' o hg' ho => ?_, fun b hb => Or.inl hb⟩
        simp only [Value.ownBlock, Option.some.injEq] at hg'
        subst hg'
        rw [cell_setRow_same w _ o cur _ _ _ hg, cell_of_row w _ o cur _ _ hg]
        have hlen : o < (cur.toList.take (n * i.size)).length := by
          rw [List.length_take, Array.length_toList, hcs]
          have := Nat.mul_le_mul_right i.size hnc
          omega
        simp only [List.getElem?_toArray, List.append_assoc]
        rw [List.getElem?_append_left hlen, List.getElem?_take_of_lt ho]
        simp
      · have holds : ∀ j u, xs[j]? = some u → w.cell? ((⟨g, 0, none⟩ : Addr).add j) = some u := hown.cells (g := g) rfl
        have hr' := run_append_grow (P := P) w t ty e i z ht hi hz ⟨g, 0, none⟩ n cap xs hown.1 holds a m c news hl hnews (by omega) (by omega) (growslice_fits (by omega) hbytes)
        rw [hr'] at hr
        simp only [Result.ok.injEq] at hr
        obtain ⟨rfl, rfl⟩ := hr
        refine ⟨fun g' o hg' ho => ?_, fun b hb => Or.inr ?_⟩
        · simp only [Value.ownBlock, Option.some.injEq] at hg'
          subst hg'
          exact World.cell?_alloc_lt w.drew _ ⟨_, o, none⟩ (heapLt hg)
        · simp [Value.ownBlock] at hb
          omega
  · have hn : news = [] := List.eq_nil_of_length_eq_zero (by simpa using hl)
    subst hn
    refine ⟨v, w, ?_, by simpa using hown, World.grownBy.refl _ _, fun _ _ _ _ => rfl, fun b hb => Or.inl hb⟩
    rcases hown.2 with ⟨rfl, rfl⟩ | ⟨g, cap, cur, rfl, _, _, hnc, _⟩
    · simp [Builtin.append_, run_underlying ht, sizeOf, typeInfo, hi, Builtin.lenOf, Builtin.firstCells]
    · simp [Builtin.append_, run_underlying ht, sizeOf, typeInfo, hi, Builtin.lenOf, Builtin.firstCells, hnc, storeCells]

def upd2 {α : Type} (f : Nat → Nat → α) (i j : Nat) (x : α) : Nat → Nat → α := fun a b => if a = i ∧ b = j then x else f a b
theorem upd2_same {α : Type} (f : Nat → Nat → α) (i j : Nat) (x : α) : upd2 f i j x i j = x := if_pos ⟨rfl, rfl⟩
theorem upd2_ne {α : Type} (f : Nat → Nat → α) {i j a b : Nat} (x : α) (h : a ≠ i ∨ b ≠ j) : upd2 f i j x a b = f a b := if_neg (fun hh => by rcases h with h | h; exact h hh.1; exact h hh.2)
variable {F : Fr} {σ : St} {e : Env} {w : World}

/-- the cells of a list of one's own that nobody writes any more -/
def Row.pro (r : Row) (v : Value) (b o : Nat) : Prop := r.wr = false ∧ v.ownBlock = some b ∧ o < r.xs.length * r.sz

/-- a list of one's own turns: it gets more elements, or others, or may be written no more, or is new -/
theorem Hp.rowNext (h : Hp F σ e w) {w' : World} (t : Nat) (r' : Row) (v v' : Value) (cells : List Value)
    (hold : (∃ r, σ.row t = some r ∧ v = e.rv t r.gen ∧ r'.sz = r.sz ∧ (r.wr = false → r'.wr = false ∧ r.xs.length * r.sz ≤ r'.xs.length * r'.sz) ∧ ((r'.gen = r.gen ∧ v' = v) ∨ r'.gen = r.gen + 1)) ∨ (σ.row t = none ∧ v = .slice none 0 0))
    (hs : ∀ x ∈ r'.xs, x.length = r'.sz)
    (hown : ownsX w' F.w0.heap.size r'.E r'.sz v' r'.xs.length cells) (hgr : w.grownBy w' v.ownBlock)
    (hkeep : ∀ r, σ.row t = some r → r.wr = false → ∀ g o, v.ownBlock = some g → o < r.xs.length * r.sz → w'.cell? ⟨g, o, none⟩ = w.cell? ⟨g, o, none⟩)
    (hblk : ∀ b, v'.ownBlock = some b → v.ownBlock = some b ∨ w.heap.size ≤ b)
    (hd : All2 (DatRep e.Pc w) cells r'.xs.flatten) (h1 : ∀ u ∈ cells, u.oneCell' = true) :
    Fwd e σ w { e with rv := upd2 e.rv t r'.gen v', Pc := fun b o => e.Pc b o ∨ r'.pro v' b o } { σ with row := upd σ.row t (some r') } w' ∧
    Hp F { σ with row := upd σ.row t (some r') } { e with rv := upd2 e.rv t r'.gen v', Pc := fun b o => e.Pc b o ∨ r'.pro v' b o } w' := by
  have hvb : ∀ b, v.ownBlock = some b → F.w0.heap.size ≤ b ∧ b < w.heap.size := fun b hb => by
    rcases hold with ⟨r, hr, rfl, _⟩ | ⟨_, rfl⟩
    · exact h.rowLt hr hb
    · simp [Value.ownBlock] at hb
  have hvbox : ∀ b β, v.ownBlock = some b → (σ.box β).isSome = true → e.m β ≠ b := fun b β hb hβ => by
    rcases hold with ⟨r, hr, rfl, _⟩ | ⟨_, rfl⟩
    · exact h.rowBox t r b β hr hb hβ
    · simp [Value.ownBlock] at hb
  have hvrow : ∀ b t' r', t' ≠ t → σ.row t' = some r' → v.ownBlock = some b → (e.rv t' r'.gen).ownBlock ≠ some b := fun b t' r' hne hr' hb => by
    rcases hold with ⟨r, hr, rfl, _⟩ | ⟨_, rfl⟩
    · exact h.rowNe t t' r r' b (Ne.symm hne) hr hr' hb
    · simp [Value.ownBlock] at hb
  have hcell : ∀ b o, e.Pc b o → w'.cell? ⟨b, o, none⟩ = w.cell? ⟨b, o, none⟩ := fun b o hp => by
    by_cases hb : v.ownBlock = some b
    · rcases hold with ⟨r, hr, rfl, _⟩ | ⟨_, rfl⟩
      · exact hkeep r hr (h.rowPc t r b hr hb o hp).1 b o hb (h.rowPc t r b hr hb o hp).2
      · simp [Value.ownBlock] at hb
    · exact World.cell?_of_block (hgr.block b (h.pcLt b o hp) (fun hh => hb hh.symm))
  have hrv : ∀ t' r g, σ.row t' = some r → g ≤ r.gen → upd2 e.rv t r'.gen v' t' g = e.rv t' g := fun t' r g hr hg => by
    by_cases ht : t' = t
    · subst ht
      rcases hold with ⟨r0, hr0, hv, _, _, hgen⟩ | ⟨hn, _⟩
      · rw [hr0] at hr; cases hr
        rcases hgen with ⟨hg1, hg2⟩ | hg1
        · by_cases hgg : g = r'.gen
          · subst hgg; rw [upd2_same, hg2, hv, hg1]
          · exact upd2_ne _ _ (Or.inr hgg)
        · exact upd2_ne _ _ (Or.inr (by omega))
      · rw [hn] at hr; cases hr
    · exact upd2_ne _ _ (Or.inl ht)
  have hf : Fwd e σ w { e with rv := upd2 e.rv t r'.gen v', Pc := fun b o => e.Pc b o ∨ r'.pro v' b o } { σ with row := upd σ.row t (some r') } w' :=
    ⟨fun _ _ h => Or.inl h, hcell, fun _ hβ => ⟨hβ, rfl⟩, fun t' r g hr hg => ⟨by
      by_cases ht : t' = t
      · subst ht
        refine ⟨r', upd_same _ _ _, ?_⟩
        rcases hold with ⟨r0, hr0, _, hsz, _, hgen⟩ | ⟨hn, _⟩
        · rw [hr0] at hr; cases hr; exact ⟨by omega, hsz⟩
        · rw [hn] at hr; cases hr
      · exact ⟨r, (upd_ne _ _ ht).trans hr, hg, rfl⟩, hrv t' r g hr hg⟩⟩
  have rowc : ∀ t' r, upd σ.row t (some r') t' = some r → (t' = t ∧ r = r') ∨ (t' ≠ t ∧ σ.row t' = some r) := fun t' r hr => by
    by_cases ht : t' = t
    · subst ht; rw [upd_same] at hr; exact Or.inl ⟨rfl, (Option.some.inj hr).symm⟩
    · rw [upd_ne _ _ ht] at hr; exact Or.inr ⟨ht, hr⟩
  have hbase : ∀ b, v'.ownBlock = some b → F.w0.heap.size ≤ b ∧ b < w'.heap.size := fun b hb => hown.lt b hb
  refine ⟨hf, h.below.grown hgr h.sizeLe (fun k hk => (hvb k hk).1), fun b o hp => Or.inl (h.pc0 b o hp), ?_, ?_, fun β T cs hx => ?_, ?_, h.boxNe, fun t' r hr => ?_, ?_, ?_, ?_, ?_⟩
  · rintro b o (hp | hp)
    · exact h.pcNew b o hp
    · exact Or.inr (hbase b hp.2.1).1
  · rintro b o (hp | hp)
    · exact Nat.lt_of_lt_of_le (h.pcLt b o hp) hgr.size
    · exact (hbase b hp.2.1).2
  · obtain ⟨h0, vs, g1, g2, g3⟩ := h.boxes β T cs hx
    refine ⟨h0, vs, (hgr.block _ (heapLt g1) (fun hh => hvbox _ β hh.symm (isSome_some hx) rfl)).trans g1, g2.mono fun _ _ => CRep.fwd hf, g3⟩
  · rintro β hβ o (hp | hp)
    · exact h.boxPc β hβ o hp
    · rcases hblk _ hp.2.1 with hb | hb
      · exact hvbox _ β hb hβ rfl
      · have := h.boxLt hβ; exact absurd hb (by show ¬ w.heap.size ≤ e.m β; omega)
  · rcases rowc t' r hr with ⟨rfl, rfl⟩ | ⟨ht, hr'⟩
    · refine ⟨hs, cells, ?_, hd.mono fun _ _ => DatRep.mono (fun _ _ h => Or.inl h) hcell, h1⟩
      show ownsX w' F.w0.heap.size r.E r.sz (upd2 e.rv t' r.gen v' t' r.gen) r.xs.length cells
      rw [upd2_same]
      exact hown
    · obtain ⟨hs', cs, k1, k2, k2'⟩ := h.rows t' r hr'
      refine ⟨hs', cs, ?_, k2.mono fun _ _ => DatRep.mono (fun _ _ h => Or.inl h) hcell, k2'⟩
      show ownsX w' F.w0.heap.size r.E r.sz (upd2 e.rv t r'.gen v' t' r.gen) r.xs.length cs
      rw [hrv t' r r.gen hr' (Nat.le_refl _)]
      refine ⟨k1.1, ?_⟩
      rcases k1.2 with k3 | ⟨g, cap, cur, k3, k4, k5, k6⟩
      · exact .inl k3
      · exact .inr ⟨g, cap, cur, k3, k4, (hgr.block g (heapLt k5) (fun hh => hvrow g t' r ht hr' hh.symm (by rw [k3]; rfl))).trans k5, k6⟩
  · intro t' r b hr hw hb o ho
    rcases rowc t' r hr with ⟨rfl, rfl⟩ | ⟨ht, hr'⟩
    · have hb' : (upd2 e.rv t' r.gen v' t' r.gen).ownBlock = some b := hb
      rw [upd2_same] at hb'
      exact Or.inr ⟨hw, hb', ho⟩
    · have hb' : (upd2 e.rv t r'.gen v' t' r.gen).ownBlock = some b := hb
      rw [hrv t' r r.gen hr' (Nat.le_refl _)] at hb'
      exact Or.inl (h.rowPro t' r b hr' hw hb' o ho)
  · intro t' r b hr hb o hp
    rcases rowc t' r hr with ⟨rfl, rfl⟩ | ⟨ht, hr'⟩
    · have hb' : (upd2 e.rv t' r.gen v' t' r.gen).ownBlock = some b := hb
      rw [upd2_same] at hb'
      rcases hp with hp | hp
      · rcases hblk b hb' with hv | hv
        · rcases hold with ⟨r0, hr0, rfl, _, hw, _⟩ | ⟨_, rfl⟩
          · have h5 := h.rowPc t' r0 b hr0 hv o hp
            exact ⟨(hw h5.1).1, Nat.lt_of_lt_of_le h5.2 (hw h5.1).2⟩
          · simp [Value.ownBlock] at hv
        · have := h.pcLt b o hp; omega
      · exact ⟨hp.1, hp.2.2⟩
    · have hb' : (upd2 e.rv t r'.gen v' t' r.gen).ownBlock = some b := hb
      rw [hrv t' r r.gen hr' (Nat.le_refl _)] at hb'
      rcases hp with hp | hp
      · exact h.rowPc t' r b hr' hb' o hp
      · rcases hblk b hp.2.1 with hv | hv
        · exact absurd hb' (hvrow b t' r ht hr' hv)
        · have := (h.rowLt hr' hb').2; omega
  · intro t' r b β hr hb hβ
    rcases rowc t' r hr with ⟨rfl, rfl⟩ | ⟨ht, hr'⟩
    · have hb' : (upd2 e.rv t' r.gen v' t' r.gen).ownBlock = some b := hb
      rw [upd2_same] at hb'
      rcases hblk b hb' with hv | hv
      · exact hvbox b β hv hβ
      · have := h.boxLt hβ; show e.m β ≠ b; omega
    · have hb' : (upd2 e.rv t r'.gen v' t' r.gen).ownBlock = some b := hb
      rw [hrv t' r r.gen hr' (Nat.le_refl _)] at hb'
      exact h.rowBox t' r b β hr' hb' hβ
  · intro t1 t2 r1 r2 b hne hr1 hr2 hb
    have key : ∀ t' r, t' ≠ t → σ.row t' = some r → v'.ownBlock = some b → (e.rv t' r.gen).ownBlock ≠ some b := fun t' r ht hr hb' => by
      rcases hblk b hb' with hv | hv
      · exact hvrow b t' r ht hr hv
      · intro hh; have := (h.rowLt hr hh).2; omega
    have hb' : (upd2 e.rv t r'.gen v' t1 r1.gen).ownBlock = some b := hb
    show (upd2 e.rv t r'.gen v' t2 r2.gen).ownBlock ≠ some b
    rcases rowc t1 r1 hr1 with ⟨rfl, rfl⟩ | ⟨ht1, hr1'⟩
    · rw [upd2_same] at hb'
      rcases rowc t2 r2 hr2 with ⟨rfl, rfl⟩ | ⟨ht2, hr2'⟩
      · exact absurd rfl hne
      · rw [hrv t2 r2 r2.gen hr2' (Nat.le_refl _)]; exact key t2 r2 ht2 hr2' hb'
    · rw [hrv t1 r1 r1.gen hr1' (Nat.le_refl _)] at hb'
      rcases rowc t2 r2 hr2 with ⟨rfl, rfl⟩ | ⟨ht2, hr2'⟩
      · rw [upd2_same]; exact fun hh => key t1 r1 ht1 hr1' hh hb'
      · rw [hrv t2 r2 r2.gen hr2' (Nat.le_refl _)]; exact h.rowNe t1 t2 r1 r2 b hne hr1' hr2' hb'

theorem flatten_get {α : Type} {sz : Nat} : ∀ (xs : List (List α)), (∀ x ∈ xs, x.length = sz) → ∀ (k j : Nat) (hk : k < xs.length) (hj : j < sz), xs.flatten[k * sz + j]? = (xs[k])[j]?
  | [], _, k, _, hk, _ => absurd hk (by simp)
  | x :: xs, hs, 0, j, _, hj => by
    have hx := hs x (List.mem_cons_self ..)
    simp only [List.flatten_cons, Nat.zero_mul, Nat.zero_add, List.getElem_cons_zero]
    rw [List.getElem?_append_left (by omega)]
  | x :: xs, hs, k + 1, j, hk, hj => by
    have hx := hs x (List.mem_cons_self ..)
    simp only [List.flatten_cons, List.getElem_cons_succ]
    rw [List.getElem?_append_right (by rw [hx, Nat.add_mul]; omega), show (k + 1) * sz + j - x.length = k * sz + j from by rw [hx, Nat.add_mul]; omega]
    exact flatten_get xs (fun y hy => hs y (List.mem_cons_of_mem _ hy)) k j (by simpa using hk) hj
theorem flatten_len {α : Type} {sz : Nat} : ∀ (xs : List (List α)), (∀ x ∈ xs, x.length = sz) → xs.flatten.length = xs.length * sz
  | [], _ => by simp
  | x :: xs, hs => by
    rw [List.flatten_cons, List.length_append, hs x (List.mem_cons_self ..), flatten_len xs (fun y hy => hs y (List.mem_cons_of_mem _ hy)), List.length_cons, Nat.add_mul]; omega

/-- a list of one's own is written no more -/
theorem Hp.freeze (h : Hp F σ e w) {t : Nat} {r : Row} (hr : σ.row t = some r) :
    ∃ e', Fwd e σ w e' { σ with row := upd σ.row t (some { r with wr := false }) } w ∧ Hp F { σ with row := upd σ.row t (some { r with wr := false }) } e' w := by
  obtain ⟨hs, cells, h1, h2, h3⟩ := h.rows t r hr
  exact ⟨_, h.rowNext (w' := w) t { r with wr := false } (e.rv t r.gen) (e.rv t r.gen) cells (Or.inl ⟨r, hr, rfl, rfl, fun _ => ⟨rfl, Nat.le_refl _⟩, Or.inl ⟨rfl, rfl⟩⟩) hs h1 (World.grownBy.refl _ _) (fun _ _ _ _ _ _ _ => rfl) (fun _ hb => Or.inl hb) h2 h3⟩

/-- a list of one's own that nobody writes any more is data -/
theorem Hp.rowDat (h : Hp F σ e w) {t : Nat} {r : Row} (hr : σ.row t = some r) (hw : r.wr = false) : DatRep e.Pc w (e.rv t r.gen) (.lst r.sz r.xs) := by
  obtain ⟨hs, cells, h1, h2, h3⟩ := h.rows t r hr
  have hlen := h2.length
  rcases h1.2 with ⟨h4, h5⟩ | ⟨g, cap, cur, h4, h5, h6, h7, h8, h9, h10⟩
  · rw [h4]
    exact .lst none 0 0 r.sz r.xs 0 0 (fun _ _ => undef) h5.symm (Nat.le_refl _) (by unfold maxLen; omega) hs (fun h0 => by omega) (fun k j hk => by omega) (fun k j hk => by omega)
  · have hb : (e.rv t r.gen).ownBlock = some g := by rw [h4]; rfl
    have hcl : cells.length = r.xs.length * r.sz := h1.1
    rw [h4]
    refine .lst _ _ cap r.sz r.xs g 0 (fun k j => cells.getD (k * r.sz + j) undef) rfl h7 h8 hs (fun _ => rfl) (fun k j hk hj => ?_) (fun k j hk hj => ?_)
    · have hlt : k * r.sz + j < r.xs.length * r.sz := by
        have := Nat.mul_le_mul_right r.sz (show k + 1 ≤ r.xs.length from hk)
        rw [Nat.add_mul] at this; omega
      rw [Nat.zero_add]
      have hge : cells.getD (k * r.sz + j) undef = cells[k * r.sz + j]'(by omega) := by simp [List.getD, show k * r.sz + j < cells.length by omega]
      refine ⟨h.rowPro t r g hr hw hb _ hlt, ?_, by rw [hge]; exact h3 _ (List.getElem_mem _)⟩
      rw [cell_of_row w g _ cur _ _ h6, hge]
      have : cells[k * r.sz + j]? = some (cells[k * r.sz + j]'(by omega)) := List.getElem?_eq_getElem (by omega)
      rw [← this, ← h10, List.getElem?_take_of_lt (by omega)]
      simp
    · have hx := hs _ (List.getElem_mem hk)
      have hj' : j < r.sz := by omega
      have hlt : k * r.sz + j < r.xs.length * r.sz := by
        have := Nat.mul_le_mul_right r.sz (show k + 1 ≤ r.xs.length from hk)
        rw [Nat.add_mul] at this; omega
      have hge : cells.getD (k * r.sz + j) undef = cells[k * r.sz + j]'(by omega) := by simp [List.getD, show k * r.sz + j < cells.length by omega]
      have hfl : r.xs.flatten[k * r.sz + j]'(by omega) = (r.xs[k])[j] := by
        have := flatten_get r.xs hs k j hk hj'
        rw [List.getElem?_eq_getElem (by omega), List.getElem?_eq_getElem hj] at this
        exact Option.some.inj this
      have := h2.get (k * r.sz + j) (by omega) (by omega)
      rw [hfl] at this
      show DatRep e.Pc w (cells.getD (k * r.sz + j) undef) _
      rw [hge]; exact this
end Go.Proofs.YtngbpbncipjimaaDoor.AM
