/- One text of TreP6, TreP7 (mk/pack.py). -/
import Derived.Test.YtngbpbncipjimabGreatDoorTq20
/- Layer 14: modules whose files have the same names: mathematics of TreeHashes. -/
namespace Go.Proofs.YtngbpbncipjimabGreatDoor.AM
open Go.RowKit
set_option linter.unusedVariables false
set_option linter.unusedSimpArgs false
/-- a path in a directory; a directory in one -/
def J (r x : List UInt8) : List UInt8 := r ++ 47 :: x
def K (r e : List UInt8) : List UInt8 := if e = [] then r else J r e
theorem J_inj {r x y : List UInt8} (h : J r x = J r y) : x = y := by
  unfold J at h
  exact (List.cons.inj (List.append_cancel_left h)).2
theorem isMod_iff (p x : List UInt8) : isMod (p, x) = true ↔ p = pathOf (baseS p) := by
  constructor
  · intro h; exact (mod_path h).symm
  · intro h
    by_cases hb : baseS p = []
    · have e : p = gomodL := by
        rw [hb] at h
        exact h
      unfold isMod
      show decide (inDirS p (baseS p) = gomodL) = true
      rw [hb]
      unfold inDirS
      rw [if_pos rfl]
      exact decide_eq_true e
    · have h2 := path_mod hb x
      have e : baseS p ++ 47 :: gomodL = p := by
        conv => rhs; rw [h]
        unfold pathOf
        rw [if_neg hb]
      rw [e] at h2
      exact h2.1
theorem base_J {r y : List UInt8} (hy : pathS y = true) : baseS (J r y) = K r (baseS y) := by
  rcases cut_last 47 y with h | ⟨x, t, rfl, ht⟩
  · have h1 := (base_miss h).1
    unfold J K
    rw [(base_hit h).1, h1, if_pos rfl]
  · have hx : x ≠ [] := fun e => by
      subst e
      rw [List.nil_append, path_front] at hy
      cases hy
    have e : J r (x ++ 47 :: t) = (r ++ 47 :: x) ++ 47 :: t := by unfold J; simp
    rw [e, (base_hit ht).1, (base_hit ht).1]
    unfold K
    rw [if_neg hx]
    rfl
theorem isMod_J {r y : List UInt8} (hr : r ≠ []) (hy : pathS y = true) (a b : List UInt8) : isMod (J r y, a) = isMod (y, b) := by
  rw [Bool.eq_iff_iff, isMod_iff, isMod_iff, base_J hy]
  unfold K
  by_cases hb : baseS y = []
  · rw [if_pos hb, hb]
    unfold pathOf
    rw [if_neg hr, if_pos rfl]
    exact ⟨fun h => J_inj h, fun h => by unfold J; rw [h]⟩
  · rw [if_neg hb]
    have hJ : J r (baseS y) ≠ [] := by unfold J; simp
    unfold pathOf
    rw [if_neg hJ, if_neg hb]
    have e : J r (baseS y) ++ 47 :: gomodL = J r (baseS y ++ 47 :: gomodL) := by unfold J; simp
    rw [e]
    exact ⟨fun h => J_inj h, fun h => congrArg (J r) h⟩
theorem within_J {r x e : List UInt8} (hr : r ≠ []) : withinS (J r x) (K r e) = withinS x e := by
  rw [Bool.eq_iff_iff]
  unfold withinS
  simp only [Bool.or_eq_true, decide_eq_true_eq]
  unfold K
  by_cases he : e = []
  · rw [if_pos he]
    refine ⟨fun _ => .inl he, fun _ => .inr (.inr ⟨x, by unfold J; simp⟩)⟩
  · rw [if_neg he]
    have h1 : J r e ≠ [] := by unfold J; simp
    have h2 : J r e ++ [47] = (r ++ [47]) ++ (e ++ [47]) := by unfold J; simp
    have h3 : J r x = (r ++ [47]) ++ x := by unfold J; simp
    constructor
    · rintro (h | h | h)
      · exact absurd h h1
      · exact .inr (.inl (J_inj h))
      · rw [h2, h3] at h
        exact .inr (.inr ((List.prefix_append_right_inj _).1 h))
    · rintro (h | h | h)
      · exact absurd h he
      · exact .inr (.inl (by rw [h]))
      · refine .inr (.inr ?_)
        rw [h2, h3]
        exact (List.prefix_append_right_inj _).2 h
theorem within_apart {a b : List UInt8} (h : withinS a b = true) : b = [] ∨ a.head? = b.head? := by
  unfold withinS at h
  simp only [Bool.or_eq_true, decide_eq_true_eq] at h
  rcases h with h | h | h
  · exact .inl h
  · exact .inr (by rw [h])
  · obtain ⟨t, ht⟩ := h
    cases b with
    | nil => exact .inl rfl
    | cons c b => refine .inr ?_; rw [← ht]; rfl
theorem J_head {r x : List UInt8} (hr : r ≠ []) : (J r x).head? = r.head? := by
  cases r with
  | nil => exact absurd rfl hr
  | cons c r => rfl
theorem K_head {r e : List UInt8} (hr : r ≠ []) : (K r e).head? = r.head? := by
  unfold K
  split
  · rfl
  · exact J_head hr
theorem K_ne {r e : List UInt8} (hr : r ≠ []) : K r e ≠ [] := by
  unfold K
  split
  · exact hr
  · unfold J; simp
theorem inDir_J {r x : List UInt8} (hr : r ≠ []) : inDirS (J r x) r = x := by
  unfold inDirS trimP
  have h3 : J r x = (r ++ [47]) ++ x := by unfold J; simp
  rw [if_neg hr, h3, if_pos (List.prefix_append _ _), List.drop_left]
/-- who owns a path -/
theorem own_iff {D : List (List UInt8)} {p d : List UInt8} (h1 : p ≠ ledgerL) (h2 : p ≠ intentL) : ownS D p = (d, true) ↔ (d ∈ D ∧ withinS p d = true ∧ ∀ e ∈ D, withinS p e = true → e.length ≤ d.length) := by
  refine ⟨own_true, fun ⟨g1, g2, g3⟩ => ?_⟩
  unfold ownS
  rw [if_neg h1, if_neg h2]
  rcases ownL_spec p D [] false with ⟨q1, q2, q3, _⟩ | ⟨_, _, _, q4⟩
  · rcases q2 with ⟨h, _⟩ | ⟨q5, q6⟩
    · cases h
    · obtain ⟨⟨R, b⟩, hR⟩ : ∃ x, ownL p D [] false = x := ⟨_, rfl⟩
      rw [hR] at q1 q3 q5 q6 ⊢
      have hb : b = true := q1
      subst hb
      have l1 := q3 d g1 g2
      have l2 := g3 R q5 q6
      have hle : R.length = d.length := Nat.le_antisymm l2 l1
      have hl := within_lat g2 q6 l2
      unfold withinS at hl
      simp only [Bool.or_eq_true, decide_eq_true_eq] at hl
      rcases hl with h | h | h
      · have h5 : R = [] := h
        have : d = [] := List.eq_nil_of_length_eq_zero (by rw [← hle, h5]; rfl)
        rw [h5, this]
      · rw [h]
      · have := h.length_le
        rw [List.length_append] at this
        simp at this
        have hle' : R.length = d.length := hle
        omega
  · rw [q4 d g1] at g2; cases g2
/-! the files of both modules -/
def mp (r : List UInt8) (M : List FD) : List FD := M.map fun f => (J r f.1, f.2)
theorem lt_J (r a b : List UInt8) : ltS (J r a) (J r b) = ltS a b := by
  unfold ltS J
  rw [Go.Proofs.bytesLess_eq, Go.Proofs.bytesLess_eq]
  refine decide_eq_decide.2 ?_
  induction r with
  | nil => 
    rw [List.nil_append, List.nil_append, List.cons_lt_cons_iff]
    simp
  | cons c r ih =>
    rw [List.cons_append, List.cons_append, List.cons_lt_cons_iff]
    simp [ih]
theorem mp_without (r x : List UInt8) (M : List FD) : withoutS (mp r M) (J r x) = mp r (withoutS M x) := by
  unfold withoutS mp
  rw [List.filter_map]
  congr 1
  refine List.filter_congr fun f _ => ?_
  show (!decide (J r f.1 = J r x)) = !decide (f.1 = x)
  congr 1
  exact decide_eq_decide.2 ⟨J_inj, fun h => by rw [h]⟩
theorem mp_ins (r : List UInt8) (f : FD) : ∀ M : List FD, insS (J r f.1, f.2) (mp r M) = mp r (insS f M)
  | [] => rfl
  | x :: t => by
    have ih := mp_ins r f t
    show insS (J r f.1, f.2) ((J r x.1, x.2) :: mp r t) = _
    rw [ins_cons, ins_cons]
    show (if ltS (J r f.1) (J r x.1) = true then _ else _) = _
    rw [lt_J]
    split
    · rfl
    · rw [ih]; rfl
theorem ins_left (f : FD) (Y : List FD) (hY : ∀ y ∈ Y, ltS f.1 y.1 = true) : ∀ X : List FD, insS f (X ++ Y) = insS f X ++ Y
  | [] => by
    cases Y with
    | nil => rfl
    | cons y t => rw [List.nil_append, ins_cons, if_pos (hY y (List.mem_cons_self ..))]; rfl
  | x :: t => by
    rw [List.cons_append, ins_cons, ins_cons]
    split
    · rfl
    · rw [ins_left f Y hY t]; rfl
theorem ins_right (f : FD) (Y : List FD) : ∀ X : List FD, (∀ x ∈ X, ltS f.1 x.1 = false) → insS f (X ++ Y) = X ++ insS f Y
  | [], _ => rfl
  | x :: t, h => by
    rw [List.cons_append, ins_cons, h x (List.mem_cons_self ..), if_neg (by decide), ins_right f Y t (fun y hy => h y (List.mem_cons_of_mem _ hy))]
    rfl
theorem without_app (A B : List FD) (p : List UInt8) : withoutS (A ++ B) p = withoutS A p ++ withoutS B p := by unfold withoutS; rw [List.filter_append]
theorem without_none {A : List FD} {p : List UInt8} (h : NoP p A) : withoutS A p = A := without_nop h
def pL : List UInt8 := [112]
def qL : List UInt8 := [113, 47, 114]
theorem lt_pq (a b : List UInt8) : ltS (J pL a) (J qL b) = true := by
  unfold ltS J pL qL
  rw [Go.Proofs.bytesLess_eq]
  refine decide_eq_true ?_
  rw [List.cons_append, List.cons_append, List.cons_lt_cons_iff]
  exact .inl (by decide)
theorem pq_ne (a b : List UInt8) : J pL a ≠ J qL b := fun h => by
  have := lt_pq a b
  rw [h, lt_irr] at this
  cases this
theorem nop_pq (x : List UInt8) (M : List FD) : NoP (J pL x) (mp qL M) := fun f hf e => by
  obtain ⟨g, _, rfl⟩ := List.mem_map.1 hf
  exact pq_ne x g.1 e.symm
theorem nop_qp (x : List UInt8) (M : List FD) : NoP (J qL x) (mp pL M) := fun f hf e => by
  obtain ⟨g, _, rfl⟩ := List.mem_map.1 hf
  exact pq_ne g.1 x e
theorem step_p (M N : List FD) (f : FD) : insS (J pL f.1, f.2) (withoutS (mp pL M ++ mp qL N) (J pL f.1)) = mp pL (insS f (withoutS M f.1)) ++ mp qL N := by
  rw [without_app, mp_without, without_none (nop_pq f.1 N), ins_left _ _ (fun y hy => by
    obtain ⟨g, _, rfl⟩ := List.mem_map.1 hy
    exact lt_pq f.1 g.1), mp_ins]
theorem step_q (M N : List FD) (f : FD) : insS (J qL f.1, f.2) (withoutS (mp pL M ++ mp qL N) (J qL f.1)) = mp pL M ++ mp qL (insS f (withoutS N f.1)) := by
  rw [without_app, mp_without, without_none (nop_qp f.1 M), ins_right _ _ _ (fun y hy => by
    obtain ⟨g, _, rfl⟩ := List.mem_map.1 hy
    exact lt_asym (lt_pq g.1 f.1)), mp_ins]
def opsOf (xs : List FD) : List OD := xs.flatMap fun f => [(false, (J pL f.1, f.2)), (false, (J qL f.1, f.2))]
theorem both_app : ∀ (xs M : List FD) (k : List FD), appL (mp pL M ++ mp qL M) (opsOf xs) = (k, 0) → (∃ f ∈ M, f.1 = gomodL) → ∃ M', k = mp pL M' ++ mp qL M' ∧ ∃ f ∈ M', f.1 = gomodL
  | [], M, k, h, hg => ⟨M, (Prod.mk.inj h).1.symm, hg⟩
  | f :: t, M, k, h, hg => by
    have e : opsOf (f :: t) = (false, (J pL f.1, f.2)) :: (false, (J qL f.1, f.2)) :: opsOf t := rfl
    rw [e] at h
    unfold appL at h
    by_cases h1 : (stepS (mp pL M ++ mp qL M) (false, (J pL f.1, f.2))).2 = 0
    · rw [if_pos h1, (step_ok h1).2, step_p] at h
      unfold appL at h
      by_cases h2 : (stepS (mp pL (insS f (withoutS M f.1)) ++ mp qL M) (false, (J qL f.1, f.2))).2 = 0
      · rw [if_pos h2, (step_ok h2).2, step_q] at h
        refine both_app t (insS f (withoutS M f.1)) k h ?_
        obtain ⟨g, hg1, hg2⟩ := hg
        by_cases e : f.1 = gomodL
        · exact ⟨f, (mem_ins _ _ _).2 (.inl rfl), e⟩
        · exact ⟨g, (mem_ins _ _ _).2 (.inr (List.mem_filter.2 ⟨hg1, by simp [hg2]; exact fun h => e h.symm⟩)), hg2⟩
      · rw [if_neg h2] at h
        exact absurd (Prod.mk.inj h).2 h2
    · rw [if_neg h1] at h
      exact absurd (Prod.mk.inj h).2 h1
/-! what both come to -/
theorem path_J {r y : List UInt8} (h : pathS (J r y) = true) : pathS y = true := (path_of h).2
theorem not_lead {r x : List UInt8} (h : r.head? = some 112 ∨ r.head? = some 113) (hr : r ≠ []) : J r x ≠ ledgerL ∧ J r x ≠ intentL := by
  have h1 := J_head (x := x) hr
  refine ⟨fun e => ?_, fun e => ?_⟩
  · rw [e] at h1
    rcases h with h | h
    · rw [h] at h1; cases h1
    · rw [h] at h1; cases h1
  · rw [e] at h1
    rcases h with h | h
    · rw [h] at h1; cases h1
    · rw [h] at h1; cases h1
structure Two (M k : List FD) : Prop where
  eq : k = mp pL M ++ mp qL M
  may : mayS k = true
  go : ∃ f ∈ M, f.1 = gomodL
theorem two_path {M k : List FD} (h : Two M k) {f : FD} (hf : f ∈ M) : pathS f.1 = true := by
  have h1 : (J pL f.1, f.2) ∈ k := by rw [h.eq]; exact List.mem_append_left _ (List.mem_map.2 ⟨f, hf, rfl⟩)
  exact path_J (okF_parts (((may_iff k).1 h.may).2.1 _ h1)).1
theorem pL_ne : pL ≠ [] := by decide
theorem qL_ne : qL ≠ [] := by decide
theorem two_dirs {M k : List FD} (h : Two M k) (d : List UInt8) : d ∈ dirsS k ↔ ∃ f ∈ M, isMod f = true ∧ (d = K pL (baseS f.1) ∨ d = K qL (baseS f.1)) := by
  rw [dirsS_mem]
  constructor
  · rintro ⟨_, h1⟩
    obtain ⟨g, hg, h2, h3⟩ := dirsL_mem h1
    rw [h.eq] at hg
    rcases List.mem_append.1 hg with hg | hg
    · obtain ⟨f, hf, rfl⟩ := List.mem_map.1 hg
      refine ⟨f, hf, ?_, .inl ?_⟩
      · rw [isMod_J pL_ne (two_path h hf) f.2 f.2] at h2; exact h2
      · rw [← h3]; exact base_J (two_path h hf)
    · obtain ⟨f, hf, rfl⟩ := List.mem_map.1 hg
      refine ⟨f, hf, ?_, .inr ?_⟩
      · rw [isMod_J qL_ne (two_path h hf) f.2 f.2] at h2; exact h2
      · rw [← h3]; exact base_J (two_path h hf)
  · rintro ⟨f, hf, h1, h2⟩
    refine ⟨h.may, ?_⟩
    unfold dirsL
    rcases h2 with rfl | rfl
    · refine List.mem_map.2 ⟨(J pL f.1, f.2), List.mem_filter.2 ⟨?_, ?_⟩, base_J (two_path h hf)⟩
      · rw [h.eq]; exact List.mem_append_left _ (List.mem_map.2 ⟨f, hf, rfl⟩)
      · rw [isMod_J pL_ne (two_path h hf) f.2 f.2]; exact h1
    · refine List.mem_map.2 ⟨(J qL f.1, f.2), List.mem_filter.2 ⟨?_, ?_⟩, base_J (two_path h hf)⟩
      · rw [h.eq]; exact List.mem_append_right _ (List.mem_map.2 ⟨f, hf, rfl⟩)
      · rw [isMod_J qL_ne (two_path h hf) f.2 f.2]; exact h1
theorem gomod_mod {f : FD} (h : f.1 = gomodL) : isMod f = true ∧ baseS f.1 = [] := by
  have hb : baseS f.1 = [] := by rw [h]; decide
  refine ⟨?_, hb⟩
  have := (isMod_iff f.1 f.2).2 (by rw [hb, h]; rfl)
  exact this
theorem two_in {M k : List FD} (h : Two M k) : pL ∈ dirsS k ∧ qL ∈ dirsS k := by
  obtain ⟨f, hf, hg⟩ := h.go
  obtain ⟨h1, h2⟩ := gomod_mod hg
  exact ⟨(two_dirs h pL).2 ⟨f, hf, h1, .inl (by rw [h2]; rfl)⟩, (two_dirs h qL).2 ⟨f, hf, h1, .inr (by rw [h2]; rfl)⟩⟩
/-- a name is its module's own: no directory of another one -/
def own1 (M : List FD) (x : List UInt8) : Prop := ∀ f ∈ M, isMod f = true → withinS x (baseS f.1) = true → baseS f.1 = []
theorem within_self {r x : List UInt8} (hr : r ≠ []) : withinS (J r x) r = true := by
  have := within_J (x := x) (e := []) hr
  unfold K at this
  rw [if_pos rfl] at this
  rw [this]
  unfold withinS
  simp
theorem own_p {M k : List FD} (h : Two M k) (x : List UInt8) : ownS (dirsS k) (J pL x) = (pL, true) ↔ own1 M x := by
  obtain ⟨n1, n2⟩ := not_lead (r := pL) (x := x) (.inl rfl) pL_ne
  rw [own_iff n1 n2]
  constructor
  · rintro ⟨_, _, g3⟩ f hf hm hw
    have h1 := g3 (K pL (baseS f.1)) ((two_dirs h _).2 ⟨f, hf, hm, .inl rfl⟩) (by rw [within_J pL_ne]; exact hw)
    cases hb : baseS f.1 with
    | nil => rfl
    | cons c t =>
      rw [hb] at h1
      unfold K J at h1
      rw [if_neg (by simp)] at h1
      simp at h1
      exfalso
      omega
  · intro ho
    refine ⟨(two_in h).1, within_self pL_ne, fun e he hw => ?_⟩
    obtain ⟨f, hf, hm, rfl | rfl⟩ := (two_dirs h e).1 he
    · rw [within_J pL_ne] at hw
      rw [ho f hf hm hw]
      exact Nat.le_refl _
    · rcases within_apart hw with h1 | h1
      · exact absurd h1 (K_ne qL_ne)
      · rw [J_head pL_ne, K_head qL_ne] at h1
        cases h1
theorem own_q {M k : List FD} (h : Two M k) (x : List UInt8) : ownS (dirsS k) (J qL x) = (qL, true) ↔ own1 M x := by
  obtain ⟨n1, n2⟩ := not_lead (r := qL) (x := x) (.inr rfl) qL_ne
  rw [own_iff n1 n2]
  constructor
  · rintro ⟨_, _, g3⟩ f hf hm hw
    have h1 := g3 (K qL (baseS f.1)) ((two_dirs h _).2 ⟨f, hf, hm, .inr rfl⟩) (by rw [within_J qL_ne]; exact hw)
    cases hb : baseS f.1 with
    | nil => rfl
    | cons c t =>
      rw [hb] at h1
      unfold K J at h1
      rw [if_neg (by simp)] at h1
      simp at h1
      exfalso
      omega
  · intro ho
    refine ⟨(two_in h).2, within_self qL_ne, fun e he hw => ?_⟩
    obtain ⟨f, hf, hm, rfl | rfl⟩ := (two_dirs h e).1 he
    · rcases within_apart hw with h1 | h1
      · exact absurd h1 (K_ne pL_ne)
      · rw [J_head qL_ne, K_head pL_ne] at h1
        cases h1
    · rw [within_J qL_ne] at hw
      rw [ho f hf hm hw]
      exact Nat.le_refl _
theorem own_bool (D : List (List UInt8)) (p d : List UInt8) : ((ownS D p).2 && decide ((ownS D p).1 = d)) = true ↔ ownS D p = (d, true) := by
  obtain ⟨⟨a, b⟩, h⟩ : ∃ x, ownS D p = x := ⟨_, rfl⟩
  rw [h]
  simp only [Bool.and_eq_true, decide_eq_true_eq, Prod.mk.injEq]
  exact And.comm
theorem own_head {D : List (List UInt8)} {p d : List UInt8} (h : ownS D p = (d, true)) (hd : d ≠ []) : p.head? = d.head? := by
  obtain ⟨_, h2, _⟩ := own_true h
  rcases within_apart h2 with h3 | h3
  · exact absurd h3 hd
  · exact h3
theorem owned_p {M k : List FD} (h : Two M k) : ownedS k pL = mp pL (M.filter fun f => (ownS (dirsS k) (J pL f.1)).2 && decide ((ownS (dirsS k) (J pL f.1)).1 = pL)) := by
  unfold ownedS ownedD
  have e2 : (mp qL M).filter (fun f => (ownS (dirsS k) f.1).2 && decide ((ownS (dirsS k) f.1).1 = pL)) = [] := by
    rw [List.filter_eq_nil_iff]
    intro f hf hc
    obtain ⟨g, _, rfl⟩ := List.mem_map.1 hf
    have h1 := own_head ((own_bool _ _ _).1 hc) pL_ne
    rw [J_head qL_ne] at h1
    cases h1
  conv => lhs; arg 2; rw [h.eq]
  rw [List.filter_append, e2, List.append_nil]
  unfold mp
  rw [List.filter_map]
  rfl
theorem owned_q {M k : List FD} (h : Two M k) : ownedS k qL = mp qL (M.filter fun f => (ownS (dirsS k) (J qL f.1)).2 && decide ((ownS (dirsS k) (J qL f.1)).1 = qL)) := by
  unfold ownedS ownedD
  have e2 : (mp pL M).filter (fun f => (ownS (dirsS k) f.1).2 && decide ((ownS (dirsS k) f.1).1 = qL)) = [] := by
    rw [List.filter_eq_nil_iff]
    intro f hf hc
    obtain ⟨g, _, rfl⟩ := List.mem_map.1 hf
    have h1 := own_head ((own_bool _ _ _).1 hc) qL_ne
    rw [J_head pL_ne] at h1
    cases h1
  conv => lhs; arg 2; rw [h.eq]
  rw [List.filter_append, e2, List.nil_append]
  unfold mp
  rw [List.filter_map]
  rfl
theorem lines_mp {r : List UInt8} (hr : r ≠ []) : ∀ A : List FD, linesS (mp r A) r = A.flatMap fun f => ((Dg.hexS (Dg.ofS f.2) ++ [32, 32]) ++ f.1) ++ [10]
  | [] => rfl
  | f :: t => by
    have ih := lines_mp hr t
    unfold linesS at ih ⊢
    show lineS r (J r f.1, f.2) ++ (mp r t).flatMap (lineS r) = _
    rw [ih, List.flatMap_cons]
    unfold lineS
    rw [inDir_J hr]
theorem same_hash {M k : List FD} (h : Two M k) : hashS k pL = hashS k qL ∧ (hashS k pL).2 = true := by
  have hf : (M.filter fun f => (ownS (dirsS k) (J pL f.1)).2 && decide ((ownS (dirsS k) (J pL f.1)).1 = pL)) = M.filter fun f => (ownS (dirsS k) (J qL f.1)).2 && decide ((ownS (dirsS k) (J qL f.1)).1 = qL) := by
    refine List.filter_congr fun f _ => ?_
    rw [Bool.eq_iff_iff, own_bool, own_bool, own_p h, own_q h]
  have hl : linesS (ownedS k pL) pL = linesS (ownedS k qL) qL := by
    rw [owned_p h, owned_q h, lines_mp pL_ne, lines_mp qL_ne, hf]
  obtain ⟨i1, i2⟩ := two_in h
  refine ⟨?_, ?_⟩
  · unfold hashS
    rw [if_pos i1, if_pos i2, hl]
  · unfold hashS
    rw [if_pos i1]
/-! files of nobody -/
theorem free_hash {k n : List FD} {p x d : List UInt8} (hk : mayS k = true) (hn : mayS n = true) (he : n = insS (p, x) (withoutS k p)) (hm : ∀ y, isMod (p, y) = false) (ho : ¬ ((ownS (dirsS k) p).2 = true ∧ (ownS (dirsS k) p).1 = d)) : hashS n d = hashS k d := by
  have hL : dirsL n = dirsL k := by
    unfold dirsL
    rw [he, filter_ins _ _ _ (hm x), filter_without _ p k (fun f hf => by
      have := hm f.2
      rw [← hf] at this
      exact this)]
  have hD : dirsS n = dirsS k := by unfold dirsS; rw [if_pos hk, if_pos hn, hL]
  have hO : ownedS n d = ownedS k d := by
    unfold ownedS
    rw [hD]
    exact owned_same he ho
  unfold hashS
  rw [hD, hO]
end Go.Proofs.YtngbpbncipjimabGreatDoor.AM

/- Layer 14: the law TreeHashes. -/
namespace Go.Proofs.YtngbpbncipjimabGreatDoor.AM
open Go.RowKit
set_option linter.unusedVariables false
set_option linter.unusedSimpArgs false
abbrev M0 : List FD := [(gomodL, [109])]
abbrev L0 : List FD := [([112, 47, 103, 111, 46, 109, 111, 100], [109]), ([113, 47, 114, 47, 103, 111, 46, 109, 111, 100], [109])]
theorem L0_eq : L0 = mp pL M0 ++ mp qL M0 := rfl
theorem L0_may : mayS L0 = true := by decide +kernel
theorem app40' {ops : List OD} (h : ops.length ≤ 1000000) (r : OD) : appO 40 ops [r] = some (ops ++ [r]) := if_pos (by simp; omega)
theorem hashes_loop (n : Nat) (names datas : List (List UInt8)) (x : List UInt8) (l : List FD) (hn : 100 ≤ n) (h4 : names.length ≤ 4) (hd : names.length ≤ datas.length) : ∀ (m j : Nat) (acc : List OD), j ≤ names.length → names.length - j < m → acc.length ≤ 2 * j →
    lTHashes_loop0 n m names datas x (j : Int) l acc = some (Sum.inl ((true, ()), ((), ()))) ∨
    ∃ xs : List FD, xs.length ≤ names.length - j ∧ (∀ f ∈ xs, f.1.length ≤ 40) ∧ lTHashes_loop0 n m names datas x (j : Int) l acc = some (Sum.inr (((x, ((), ((), ()))), ((), (l, (acc ++ opsOf xs, ()))))))
  | 0, j, acc, _, h, _ => absurd h (Nat.not_lt_zero _)
  | m + 1, j, acc, hj, h, ha => by
    rw [lTHashes_loop0_succ]
    unfold lTHashes_l0
    by_cases c : j < names.length
    · have c2 : j < datas.length := by omega
      rw [decide_eq_true (by omega), cond_true, idx_lt c, Option.bind_some]
      by_cases e1 : 40 < (names[j]).length
      · left
        rw [decide_eq_true (by omega), cond_true, live14 n hn, Option.bind_some]
      rw [decide_eq_false (by omega), cond_false, idx_lt c2, Option.bind_some]
      by_cases e2 : 300 < (datas[j]).length
      · left
        rw [decide_eq_true (by omega), cond_true, live14 n hn, Option.bind_some]
      have k1 : catO [112, 47] names[j] = some (J pL names[j]) := by rw [cat_ok (by rw [show ([112, 47] : List UInt8).length = 2 from rfl]; omega)]; rfl
      have k2 : catO [113, 47, 114, 47] names[j] = some (J qL names[j]) := by rw [cat_ok (by rw [show ([113, 47, 114, 47] : List UInt8).length = 4 from rfl]; omega)]; rfl
      have ih := hashes_loop n names datas x l hn h4 hd m (j + 1) (acc ++ [(false, (J pL names[j], datas[j]))] ++ [(false, (J qL names[j], datas[j]))]) (by omega) (by omega) (by simp; omega)
      rw [decide_eq_false (by omega), cond_false, Option.bind_some, k1, Option.bind_some, Option.bind_some, app40' (by omega), Option.bind_some, Option.bind_some, k2, Option.bind_some, Option.bind_some, app40' (by simp; omega), Option.bind_some, wrap_succ (by omega), letO_some]
      rcases ih with ih | ⟨xs, q1, q2, q3⟩
      · exact .inl ih
      · refine .inr ⟨(names[j], datas[j]) :: xs, by simp; omega, fun f hf => ?_, ?_⟩
        · rcases List.mem_cons.1 hf with rfl | hf
          · show (names[j]).length ≤ 40; omega
          · exact q2 f hf
        · refine Eq.trans q3 ?_
          have e : acc ++ [(false, (J pL names[j], datas[j]))] ++ [(false, (J qL names[j], datas[j]))] ++ opsOf xs = acc ++ opsOf ((names[j], datas[j]) :: xs) := by
            rw [List.append_assoc, List.append_assoc]; rfl
          rw [e]
    · obtain rfl : j = names.length := by omega
      refine .inr ⟨[], Nat.zero_le _, (fun f hf => by cases hf), ?_⟩
      rw [decide_eq_false (by omega), cond_false]
      show _ = some (Sum.inr (((x, ((), ((), ()))), ((), (l, (acc ++ [], ()))))))
      rw [List.append_nil]
theorem ops_path {xs : List FD} (h : ∀ f ∈ xs, f.1.length ≤ 40) : ∀ o ∈ opsOf xs, o.2.1.length ≤ 1000 := fun o ho => by
  unfold opsOf at ho
  obtain ⟨f, hf, ho⟩ := List.mem_flatMap.1 ho
  have h1 := h f hf
  rcases List.mem_cons.1 ho with rfl | ho
  · show (J pL f.1).length ≤ 1000
    unfold J pL
    simp
    omega
  · obtain rfl : o = (false, (J qL f.1, f.2)) := by simpa using ho
    show (J qL f.1).length ≤ 1000
    unfold J qL
    simp
    omega
theorem ops_len (xs : List FD) : (opsOf xs).length = 2 * xs.length := by
  unfold opsOf
  induction xs with
  | nil => rfl
  | cons f t ih => rw [List.flatMap_cons, List.length_append, ih]; simp only [List.length_cons, List.length_nil]; omega
theorem app_res {l : List FD} {ops : List OD} (hl : mayS l = true) : (appS l ops).1.length ≤ 40 ∧ ∀ f ∈ (appS l ops).1, f.1.length ≤ 60 := by
  unfold appS
  rw [if_pos hl]
  by_cases h : (appL l ops).2 = 0
  · have hm := app_may ops hl h
    obtain ⟨h1, h2, _⟩ := (may_iff _).1 hm
    exact ⟨h1, fun f hf => (path_parts (okF_parts (h2 f hf)).1).1⟩
  · rw [appL_nil ops l h]
    exact ⟨Nat.zero_le _, fun f hf => by cases hf⟩
theorem led_mod : (∀ y, isMod (ledgerL, y) = false) ∧ ∀ y, isMod ([122], y) = false := by
  refine ⟨fun y => ?_, fun y => ?_⟩
  · show decide (inDirS ledgerL (baseS ledgerL) = gomodL) = false
    decide +kernel
  · show decide (inDirS [122] (baseS [122]) = gomodL) = false
    decide +kernel
theorem two_free {k n : List FD} {x : List UInt8} (hk : mayS k = true) (h : appS k [(false, (ledgerL, x)), (false, ([122], x))] = (n, 0)) : hashS n pL = hashS k pL := by
  unfold appS at h
  rw [if_pos hk] at h
  unfold appL at h
  by_cases h1 : (stepS k (false, (ledgerL, x))).2 = 0
  · rw [if_pos h1] at h
    have hm1 := step_may hk h1
    have e1 := (step_ok h1).2
    unfold appL at h
    by_cases h2 : (stepS (stepS k (false, (ledgerL, x))).1 (false, ([122], x))).2 = 0
    · rw [if_pos h2] at h
      have hm2 := step_may hm1 h2
      have e2 := (step_ok h2).2
      have hn : (stepS (stepS k (false, (ledgerL, x))).1 (false, ([122], x))).1 = n := (Prod.mk.inj h).1
      have a1 := free_hash (d := pL) hk hm1 e1 led_mod.1 (fun hc => by
        have : ownS (dirsS k) ledgerL = ([], false) := by unfold ownS; rw [if_pos rfl]
        rw [this] at hc
        cases hc.1)
      have a2 := free_hash (d := pL) hm1 hm2 e2 led_mod.2 (fun hc => by
        have h3 := (own_bool (dirsS (stepS k (false, (ledgerL, x))).1) [122] pL).1 (by rw [hc.1, hc.2]; rfl)
        have h4 := own_head h3 pL_ne
        cases h4)
      rw [← hn, a2, a1]
    · rw [if_neg h2] at h
      exact absurd (Prod.mk.inj h).2 h2
  · rw [if_neg h1] at h
    exact absurd (Prod.mk.inj h).2 h1
theorem lTHashes_P (n : Nat) (hn : 9223372036854775807 < n) (names datas : List (List UInt8)) (x : List UInt8) : lTHashes_t n names datas x = some true := by
  unfold lTHashes_t
  rw [live14 n (by omega)]
  by_cases c1 : 4 < names.length
  · rw [decide_eq_true (by omega), cond_true]; rfl
  by_cases c2 : datas.length < names.length
  · rw [decide_eq_false (by omega), cond_false, decide_eq_true (by omega), cond_true]; rfl
  by_cases c3 : 300 < x.length
  · rw [decide_eq_false (by omega), cond_false, decide_eq_false (by omega), cond_false, decide_eq_true (by omega), cond_true]; rfl
  rw [decide_eq_false (by omega), cond_false, decide_eq_false (by omega), cond_false, decide_eq_false (by omega), cond_false]
  rcases hashes_loop n names datas x L0 (by omega) (by omega) (by omega) n 0 [] (Nat.zero_le _) (by omega) (Nat.zero_le _) with h | ⟨xs, q1, q2, h⟩
  · rw [show ((0 : Nat) : Int) = (0 : Int) from rfl] at h
    rw [h, Option.bind_some]
    rfl
  rw [show ((0 : Nat) : Int) = (0 : Int) from rfl, List.nil_append] at h
  rw [h, Option.bind_some, Sum.elim_inr]
  have hol := ops_len xs
  have hop := ops_path q2
  have ha : r5Apply_t n L0 (opsOf xs) = some (appS L0 (opsOf xs)) := r5Apply_spec n L0 (opsOf xs) (by omega) (by decide) (fun f hf => by
    have : ∀ f ∈ L0, f.1.length ≤ 100 := by decide
    have := this f hf
    omega) (fun o ho => by have := hop o ho; omega) (by omega) (by omega)
  obtain ⟨r1, r2⟩ := app_res (ops := opsOf xs) L0_may
  obtain ⟨⟨k, e⟩, hke⟩ : ∃ z, appS L0 (opsOf xs) = z := ⟨_, rfl⟩
  rw [hke] at ha r1 r2
  have hb : r5Apply_t n k [(false, (ledgerL, x)), (false, ([122], x))] = some (appS k [(false, (ledgerL, x)), (false, ([122], x))]) := r5Apply_spec n k _ (by show 2 ≤ 10000; decide) (by have : k.length ≤ 40 := r1; omega) (fun f hf => by have := r2 f hf; omega) (fun o ho => by
    rcases List.mem_cons.1 ho with rfl | ho
    · show ledgerL.length ≤ 1000000; decide
    · obtain rfl : o = (false, ([122], x)) := by simpa using ho
      show 1 ≤ 1000000; decide) (by omega) (by omega)
  show ((r5Apply_t n L0 (opsOf xs)).bind fun (r20 : (List (List UInt8 × (List UInt8))) × (Int)) => (r5Apply_t n r20.1 ([(false, (ledgerL, x)), (false, (([122] : List UInt8), x))] : List ((Bool) × (List UInt8 × (List UInt8))))).bind fun (r21 : (List (List UInt8 × (List UInt8))) × (Int)) => (bif !decide (r20.2 = (0 : Int)) then (some true).bind fun (r22 : Bool) => some r22 else (bif !decide (r21.2 = (0 : Int)) then (some true).bind fun (r23 : Bool) => some r23 else (tHash_t r20.1 pL).bind fun (r24 : (List UInt8) × (Bool)) => (tHash_t r20.1 qL).bind fun (r25 : (List UInt8) × (Bool)) => (tHash_t r21.1 pL).bind fun (r26 : (List UInt8) × (Bool)) => (bif r24.2 then (bif r25.2 then (bif r26.2 then (bif decide (r24.1 = r25.1) then (bif decide (r24.1 = r26.1) then (tIsHash_t n r24.1).bind fun (r27 : Bool) => (bif r27 then (some true).bind fun (r28 : Bool) => some r28 else some false) else some false) else some false) else some false) else some false) else some false)))) = some true
  rw [ha, Option.bind_some]
  show ((r5Apply_t n k ([(false, (ledgerL, x)), (false, (([122] : List UInt8), x))] : List ((Bool) × (List UInt8 × (List UInt8))))).bind fun (r21 : (List (List UInt8 × (List UInt8))) × (Int)) => (bif !decide (e = (0 : Int)) then (some true).bind fun (r22 : Bool) => some r22 else (bif !decide (r21.2 = (0 : Int)) then (some true).bind fun (r23 : Bool) => some r23 else (tHash_t k pL).bind fun (r24 : (List UInt8) × (Bool)) => (tHash_t k qL).bind fun (r25 : (List UInt8) × (Bool)) => (tHash_t r21.1 pL).bind fun (r26 : (List UInt8) × (Bool)) => (bif r24.2 then (bif r25.2 then (bif r26.2 then (bif decide (r24.1 = r25.1) then (bif decide (r24.1 = r26.1) then (tIsHash_t n r24.1).bind fun (r27 : Bool) => (bif r27 then (some true).bind fun (r28 : Bool) => some r28 else some false) else some false) else some false) else some false) else some false) else some false)))) = some true
  rw [hb, Option.bind_some]
  by_cases he : e = 0
  · rw [decide_eq_true he, Bool.not_true, cond_false]
    obtain ⟨⟨w, g⟩, hwg⟩ : ∃ z, appS k [(false, (ledgerL, x)), (false, ([122], x))] = z := ⟨_, rfl⟩
    rw [hwg]
    show (bif !decide (g = (0 : Int)) then (some true).bind fun (r23 : Bool) => some r23 else (tHash_t k pL).bind fun (r24 : (List UInt8) × (Bool)) => (tHash_t k qL).bind fun (r25 : (List UInt8) × (Bool)) => (tHash_t w pL).bind fun (r26 : (List UInt8) × (Bool)) => (bif r24.2 then (bif r25.2 then (bif r26.2 then (bif decide (r24.1 = r25.1) then (bif decide (r24.1 = r26.1) then (tIsHash_t n r24.1).bind fun (r27 : Bool) => (bif r27 then (some true).bind fun (r28 : Bool) => some r28 else some false) else some false) else some false) else some false) else some false) else some false)) = some true
    by_cases hg : g = 0
    · subst he; subst hg
      have hk0 : appL L0 (opsOf xs) = (k, 0) := by
        unfold appS at hke
        rw [if_pos L0_may] at hke
        exact hke
      have hkm : mayS k = true := by
        have := app_may (opsOf xs) L0_may (by rw [hk0])
        rw [hk0] at this
        exact this
      rw [L0_eq] at hk0
      obtain ⟨M, hM1, hM2⟩ := both_app xs M0 k hk0 ⟨(gomodL, [109]), List.mem_cons_self .., rfl⟩
      have hT : Two M k := ⟨hM1, hkm, hM2⟩
      obtain ⟨s1, s2⟩ := same_hash hT
      have s3 := two_free hkm hwg
      have hw40 := (app_res (ops := [(false, (ledgerL, x)), (false, ([122], x))]) hkm).1
      rw [hwg] at hw40
      have hw40' : w.length ≤ 40 := hw40
      have hk40 : k.length ≤ 40 := r1
      obtain ⟨i1, i2⟩ := isHash_hash s2
      have t1 : tHash_t k pL = some (hashS k pL) := tHash_some (by omega) (by decide)
      have t2 : tHash_t k qL = some (hashS k pL) := by rw [tHash_some (by omega) (by decide), s1]
      have t3 : tHash_t w pL = some (hashS k pL) := by rw [tHash_some (by omega) (by decide), s3]
      have t4 : tIsHash_t n (hashS k pL).1 = some true := by rw [tIsHash_spec n _ (by omega), i1]
      rw [decide_eq_true rfl, Bool.not_true, cond_false, t1, Option.bind_some, t2, Option.bind_some, t3, Option.bind_some, s2, cond_true, cond_true, cond_true, decide_eq_true rfl, cond_true, cond_true, t4, Option.bind_some, cond_true]
      rfl
    · rw [decide_eq_false hg, Bool.not_false, cond_true]
      rfl
  · rw [decide_eq_false he, Bool.not_false, cond_true]
    rfl
theorem lTHashes_true (names datas : den (.lst .str)) (x : List UInt8) (h1 : okDen (.lst .str) names) (h2 : okDen (.lst .str) datas) (hx : x.length ≤ maxLen) : lTHashes_t fuel14 names datas x = some true := lTHashes_P fuel14 (by decide) names datas x
end Go.Proofs.YtngbpbncipjimabGreatDoor.AM
