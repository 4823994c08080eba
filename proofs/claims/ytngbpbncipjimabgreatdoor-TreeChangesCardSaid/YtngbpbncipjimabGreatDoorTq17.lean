/- One text of TreM, TreP3, TreP4 (mk/pack.py). -/
import Derived.Test.YtngbpbncipjimabGreatDoorTq15
import Derived.Test.YtngbpbncipjimabGreatDoorTq16
/- Layer 14: directories, owners: mathematics. -/
namespace Go.Proofs.YtngbpbncipjimabGreatDoor.AM
open Go.RowKit
set_option linter.unusedVariables false
set_option linter.unusedSimpArgs false
theorem le_ltS (x y : List UInt8) : decide (x ≤ y) = !ltS y x := by
  unfold ltS
  rw [Go.Proofs.bytesLess_eq]
  show decide (¬ y < x) = !decide (y < x)
  by_cases h : y < x
  · rw [decide_eq_true h, decide_eq_false (fun k => k h)]; rfl
  · rw [decide_eq_false h, decide_eq_true h]; rfl
theorem leS_trans (a b c : List UInt8) (h1 : decide (a ≤ b) = true) (h2 : decide (b ≤ c) = true) : decide (a ≤ c) = true := by
  rw [le_ltS] at h1 h2 ⊢
  have g1 : ltS b a = false := by simpa using h1
  have g2 : ltS c b = false := by simpa using h2
  cases h : ltS c a with
  | false => rfl
  | true =>
    exfalso
    by_cases e : c = b
    · subst e; rw [g1] at h; cases h
    · have h3 := lt_tot g2 e
      rw [lt_trans' h3 h] at g1; cases g1
theorem leS_total (a b : List UInt8) : (decide (a ≤ b) || decide (b ≤ a)) = true := by
  rw [le_ltS, le_ltS]
  cases h : ltS b a with
  | false => rfl
  | true => rw [lt_asym h]; rfl
/-- a module's manifest -/
def pathOf (d : List UInt8) : List UInt8 := if d = [] then gomodL else d ++ 47 :: gomodL
theorem mod_path {f : FD} (h : isMod f = true) : pathOf (baseS f.1) = f.1 := by
  have h1 : inDirS f.1 (baseS f.1) = gomodL := of_decide_eq_true h
  unfold pathOf
  by_cases hb : baseS f.1 = []
  · rw [if_pos hb]
    unfold inDirS at h1
    rw [if_pos hb] at h1
    exact h1.symm
  · rw [if_neg hb]
    unfold inDirS at h1
    rw [if_neg hb] at h1
    unfold trimP at h1
    split at h1
    · rename_i hp
      obtain ⟨r, hr⟩ := hp
      have h2 : f.1.drop (baseS f.1 ++ [47]).length = r := by
        generalize baseS f.1 = b at *
        rw [← hr, List.drop_left]
      rw [h2] at h1
      subst h1
      generalize baseS f.1 = b at *
      rw [← hr]
      simp
    · exfalso
      rw [h1] at hb
      exact hb (by decide)
theorem path_mod {d : List UInt8} (hd : d ≠ []) (x : List UInt8) : isMod (d ++ 47 :: gomodL, x) = true ∧ baseS (d ++ 47 :: gomodL) = d := by
  have hb : baseS (d ++ 47 :: gomodL) = d := (base_hit (by decide)).1
  refine ⟨?_, hb⟩
  unfold isMod
  show decide (inDirS (d ++ 47 :: gomodL) (baseS (d ++ 47 :: gomodL)) = gomodL) = true
  rw [hb]
  unfold inDirS trimP
  have hp : d ++ [47] <+: d ++ 47 :: gomodL := ⟨gomodL, by simp⟩
  rw [if_neg hd, if_pos hp]
  refine decide_eq_true ?_
  have e : d ++ 47 :: gomodL = (d ++ [47]) ++ gomodL := by simp
  rw [e, List.drop_left]
theorem dirsL_ne {l : List FD} (hr : Rise l) : (dirsL l).Pairwise (· ≠ ·) := by
  unfold dirsL
  rw [List.pairwise_map]
  have h1 : (l.filter isMod).Pairwise fun x y => ltS x.1 y.1 = true := List.Pairwise.filter _ hr
  refine List.Pairwise.imp_of_mem ?_ h1
  intro a b ha hb hlt e
  have h2 := mod_path (List.mem_filter.1 ha).2
  have h3 := mod_path (List.mem_filter.1 hb).2
  rw [e, h3] at h2
  exact lt_ne hlt h2.symm
theorem dirs_nodup (l : List FD) : (dirsS l).Pairwise (· ≠ ·) := by
  unfold dirsS
  split
  · rename_i hm
    have h1 := dirsL_ne ((may_iff l).1 hm).2.2
    exact ((List.mergeSort_perm (dirsL l) _).pairwise_iff (fun h => Ne.symm h)).2 h1
  · exact List.Pairwise.nil
theorem dirs_rise (l : List FD) : (dirsS l).Pairwise fun x y => ltS x y = true := by
  have h2 := dirs_nodup l
  have h1 : (dirsS l).Pairwise fun x y => decide (x ≤ y) = true := by
    unfold dirsS
    split
    · exact List.pairwise_mergeSort leS_trans leS_total _
    · exact List.Pairwise.nil
  refine List.Pairwise.imp₂ ?_ h1 h2
  intro a b hab hne
  rw [le_ltS] at hab
  have g : ltS b a = false := by simpa using hab
  exact lt_tot g (Ne.symm hne)
/-! owners -/
theorem ownL_spec (p : List UInt8) : ∀ (dirs : List (List UInt8)) (L : List UInt8) (f : Bool),
    ((ownL p dirs L f).2 = true ∧ ((f = true ∧ (ownL p dirs L f).1 = L) ∨ ((ownL p dirs L f).1 ∈ dirs ∧ withinS p (ownL p dirs L f).1 = true)) ∧ (∀ e ∈ dirs, withinS p e = true → e.length ≤ (ownL p dirs L f).1.length) ∧ (f = true → L.length ≤ (ownL p dirs L f).1.length)) ∨
    ((ownL p dirs L f).2 = false ∧ f = false ∧ (ownL p dirs L f).1 = L ∧ ∀ e ∈ dirs, withinS p e = false)
  | [], L, f => by
    cases f with
    | true => exact .inl ⟨rfl, .inl ⟨rfl, rfl⟩, (fun e he => by cases he), fun _ => Nat.le_refl _⟩
    | false => exact .inr ⟨rfl, rfl, rfl, fun e he => by cases he⟩
  | d :: t, L, f => by
    unfold ownL
    split
    · rename_i hc
      have hw : withinS p d = true := (Bool.and_eq_true _ _ ▸ hc).1
      have hlen : f = true → L.length ≤ d.length := fun hf => by
        subst hf
        have := (Bool.and_eq_true _ _ ▸ hc).2
        simp at this
        omega
      rcases ownL_spec p t d true with ⟨h1, h2, h3, h4⟩ | ⟨_, h2, _⟩
      · refine .inl ⟨h1, ?_, ?_, fun hf => Nat.le_trans (hlen hf) (h4 rfl)⟩
        · rcases h2 with ⟨_, h5⟩ | ⟨h5, h6⟩
          · exact .inr ⟨by rw [h5]; exact List.mem_cons_self .., by rw [h5]; exact hw⟩
          · exact .inr ⟨List.mem_cons_of_mem _ h5, h6⟩
        · intro e he hwe
          rcases List.mem_cons.1 he with rfl | he
          · exact h4 rfl
          · exact h3 e he hwe
      · cases h2
    · rename_i hc
      rcases ownL_spec p t L f with ⟨h1, h2, h3, h4⟩ | ⟨h1, h2, h3, h4⟩
      · refine .inl ⟨h1, ?_, ?_, h4⟩
        · rcases h2 with h5 | ⟨h5, h6⟩
          · exact .inl h5
          · exact .inr ⟨List.mem_cons_of_mem _ h5, h6⟩
        · intro e he hwe
          rcases List.mem_cons.1 he with rfl | he
          · rw [hwe, Bool.true_and] at hc
            cases f with
            | false => exact absurd rfl hc
            | true =>
              have h5 := h4 rfl
              have h6 : ¬ L.length < e.length := by simpa using hc
              omega
          · exact h3 e he hwe
      · refine .inr ⟨h1, h2, h3, fun e he => ?_⟩
        rcases List.mem_cons.1 he with rfl | he
        · subst h2
          cases hwe : withinS p e with
          | false => rfl
          | true => rw [hwe] at hc; exact absurd rfl hc
        · exact h4 e he
theorem own_true {D : List (List UInt8)} {p d : List UInt8} (h : ownS D p = (d, true)) : d ∈ D ∧ withinS p d = true ∧ ∀ e ∈ D, withinS p e = true → e.length ≤ d.length := by
  unfold ownS at h
  split at h
  · cases h
  split at h
  · cases h
  rcases ownL_spec p D [] false with ⟨h1, h2, h3, _⟩ | ⟨h1, _⟩
  · rw [h] at h2 h3
    rcases h2 with ⟨h4, _⟩ | ⟨h4, h5⟩
    · cases h4
    · exact ⟨h4, h5, h3⟩
  · rw [h] at h1; cases h1
theorem own_mem {D : List (List UInt8)} {p : List UInt8} (h : (ownS D p).2 = true) : (ownS D p).1 ∈ D := by
  obtain ⟨⟨d, b⟩, hd⟩ : ∃ x, ownS D p = x := ⟨_, rfl⟩
  rw [hd] at h ⊢
  cases b with
  | true => exact (own_true hd).1
  | false => cases h
theorem within_lat {p d e : List UInt8} (hd : withinS p d = true) (he : withinS p e = true) (hl : e.length ≤ d.length) : withinS d e = true := by
  unfold withinS at hd he ⊢
  simp only [Bool.or_eq_true, decide_eq_true_eq] at hd he ⊢
  rcases he with rfl | rfl | he
  · exact .inl rfl
  · -- p = e
    rcases hd with rfl | rfl | hd
    · have : p = [] := List.eq_nil_of_length_eq_zero (by simpa using hl)
      exact .inl this
    · exact .inr (.inl rfl)
    · have := hd.length_le
      rw [List.length_append] at this
      simp at this
      omega
  · rcases hd with rfl | rfl | hd
    · exact .inl (List.eq_nil_of_length_eq_zero (by simpa using hl))
    · exact .inr (.inr he)
    · by_cases hq : e.length = d.length
      · have h1 : e <+: p := (List.prefix_append e [47]).trans he
        have h2 : d <+: p := (List.prefix_append d [47]).trans hd
        have h3 := List.prefix_of_prefix_length_le h1 h2 hl
        exact .inr (.inl (h3.eq_of_length hq).symm)
      · have h2 : d <+: p := (List.prefix_append d [47]).trans hd
        exact .inr (.inr (List.prefix_of_prefix_length_le he h2 (by rw [List.length_append]; simp; omega)))
/-! how many are owned -/
theorem sum_add (a b : List UInt8 → Nat) : ∀ D : List (List UInt8), (D.map fun d => a d + b d).sum = (D.map a).sum + (D.map b).sum
  | [] => rfl
  | d :: t => by
    have := sum_add a b t
    simp only [List.map_cons, List.sum_cons, this]
    omega
theorem sum_ind (x : List UInt8) : ∀ D : List (List UInt8), D.Pairwise (· ≠ ·) → (D.map fun d => if x = d then 1 else 0).sum = if x ∈ D then 1 else 0
  | [], _ => by simp
  | d :: t, h => by
    obtain ⟨h1, h2⟩ := List.pairwise_cons.1 h
    have ih := sum_ind x t h2
    rw [List.map_cons, List.sum_cons, ih]
    by_cases e : x = d
    · subst e
      have : x ∉ t := fun hx => h1 x hx rfl
      simp [this]
    · simp [e]
theorem sum_zero : ∀ D : List (List UInt8), (D.map fun _ => 0).sum = 0
  | [] => rfl
  | _ :: t => by rw [List.map_cons, List.sum_cons, sum_zero t]
theorem owned_count (D : List (List UInt8)) (hD : D.Pairwise (· ≠ ·)) : ∀ l : List FD, (D.map fun d => (ownedD D l d).length).sum + (l.filter fun f => !(ownS D f.1).2).length = l.length
  | [] => by
    have : (D.map fun d => (ownedD D [] d).length) = D.map fun _ => 0 := List.map_congr_left fun d _ => rfl
    rw [this, sum_zero]; rfl
  | f :: t => by
    have ih := owned_count D hD t
    have e : (D.map fun d => (ownedD D (f :: t) d).length) = D.map fun d => (if (ownS D f.1).2 = true ∧ (ownS D f.1).1 = d then 1 else 0) + (ownedD D t d).length := by
      refine List.map_congr_left fun d _ => ?_
      unfold ownedD
      rw [List.filter_cons]
      cases h2 : (ownS D f.1).2 with
      | false => simp
      | true =>
        by_cases h1 : (ownS D f.1).1 = d
        · simp [h1]; omega
        · simp [h1]
    rw [e, sum_add, List.filter_cons, List.length_cons]
    cases h2 : (ownS D f.1).2 with
    | false =>
      have : (D.map fun d => if false = true ∧ (ownS D f.1).1 = d then 1 else 0) = D.map fun _ => 0 := List.map_congr_left fun d _ => by simp
      rw [this, sum_zero]
      simp
      omega
    | true =>
      have h3 := own_mem h2
      have : (D.map fun d => if true = true ∧ (ownS D f.1).1 = d then 1 else 0) = D.map fun d => if (ownS D f.1).1 = d then 1 else 0 := List.map_congr_left fun d _ => by simp
      rw [this, sum_ind _ D hD, if_pos h3]
      simp
      omega
/-! one file more, or another one -/
theorem filter_ins (q : FD → Bool) (f : FD) : ∀ l : List FD, q f = false → (insS f l).filter q = l.filter q
  | [], h => by rw [ins_nil]; simp [h]
  | x :: t, h => by
    rw [ins_cons]
    split
    · simp [h]
    · rw [List.filter_cons, List.filter_cons, filter_ins q f t h]
theorem count_ins (q : FD → Bool) (f : FD) : ∀ l : List FD, ((insS f l).filter q).length = (l.filter q).length + (if q f then 1 else 0)
  | [] => by rw [ins_nil]; cases h : q f <;> simp [h]
  | x :: t => by
    rw [ins_cons]
    split
    · rw [List.filter_cons]
      cases h : q f
      · simp
      · simp
    · have ih := count_ins q f t
      rw [List.filter_cons, List.filter_cons]
      cases h : q x
      · simpa using ih
      · simp [ih]; omega
theorem filter_without (q : FD → Bool) (p : List UInt8) (l : List FD) (h : ∀ f, f.1 = p → q f = false) : (withoutS l p).filter q = l.filter q := by
  unfold withoutS
  rw [List.filter_filter]
  refine List.filter_congr fun f _ => ?_
  by_cases e : f.1 = p
  · rw [h f e]; rfl
  · simp [e]
theorem step_ok {l : List FD} {p x : List UInt8} (h : (stepS l (false, (p, x))).2 = 0) : pathS p = true ∧ (stepS l (false, (p, x))).1 = insS (p, x) (withoutS l p) := by
  unfold stepS at h ⊢
  by_cases hp : pathS p = true
  · refine ⟨hp, ?_⟩
    rw [if_pos hp] at h ⊢
    simp only [Bool.false_eq_true, if_false] at h ⊢
    split at h
    · cases h
    · rename_i h1
      rw [if_neg h1]
      split at h
      · cases h
      · rename_i h2
        rw [if_neg h2]
  · rw [if_neg hp] at h
    cases h
theorem app_two {l : List FD} {o : OD} {k : List FD} (h : appS l [o] = (k, 0)) : mayS l = true ∧ (stepS l o).2 = 0 ∧ (stepS l o).1 = k ∧ mayS k = true := by
  unfold appS at h
  split at h
  · rename_i hm
    unfold appL at h
    split at h
    · rename_i h0
      unfold appL at h
      have e := (Prod.mk.inj h).1
      exact ⟨hm, h0, e, e ▸ step_may hm h0⟩
    · rename_i h0
      exact absurd (Prod.mk.inj h).2 h0
  · cases h
theorem owned_same {D : List (List UInt8)} {l k : List FD} {p x d : List UInt8} (hk : k = insS (p, x) (withoutS l p)) (hno : ¬ ((ownS D p).2 = true ∧ (ownS D p).1 = d)) : ownedD D k d = ownedD D l d := by
  have hq : ∀ f : FD, f.1 = p → ((ownS D f.1).2 && decide ((ownS D f.1).1 = d)) = false := fun f hf => by
    rw [hf]
    cases h2 : (ownS D p).2 with
    | false => rfl
    | true =>
      rw [h2] at hno
      have : ¬ (ownS D p).1 = d := fun e => hno ⟨rfl, e⟩
      simp [this]
  unfold ownedD
  rw [hk, filter_ins _ _ _ (hq (p, x) rfl), filter_without _ p l hq]
end Go.Proofs.YtngbpbncipjimabGreatDoor.AM

/- Layer 14: the answers that the laws begin with; the document's small functions. -/
namespace Go.Proofs.YtngbpbncipjimabGreatDoor.AM
open Go.RowKit
set_option linter.unusedVariables false
set_option linter.unusedSimpArgs false
abbrev L4 : List FD := [([97, 47, 98, 47, 103, 111, 46, 109, 111, 100], [49]), ([97, 47, 98, 47, 120, 46, 103, 111], [50]), ([97, 47, 103, 111, 46, 109, 111, 100], [51]), ([108, 101, 100, 103, 101, 114, 46, 116, 120, 116], [52])]
theorem dirsL_4 : mayS L4 = true ∧ dirsL L4 = [[97, 47, 98], [97]] := by decide +kernel
theorem sort_two {x y : List UInt8} (h : ltS y x = true) : [x, y].mergeSort (fun x y => decide (x ≤ y)) = [y, x] := by
  have h1 : ([x, y].mergeSort (fun x y => decide (x ≤ y))).Pairwise fun a b => decide (a ≤ b) = true := List.pairwise_mergeSort leS_trans leS_total _
  have h2 := List.mergeSort_perm [x, y] (fun x y => decide (x ≤ y))
  have hl : ([x, y].mergeSort (fun x y => decide (x ≤ y))).length = 2 := List.length_mergeSort _
  generalize [x, y].mergeSort (fun x y => decide (x ≤ y)) = Z at *
  match Z, hl with
  | [a, b], _ =>
    have ha : a ∈ [x, y] := h2.mem_iff.1 (by simp)
    have hab : decide (a ≤ b) = true := (List.pairwise_cons.1 h1).1 b (by simp)
    rw [le_ltS] at hab
    have g : ltS b a = false := by simpa using hab
    have h3 : [a, b].Perm [x, y] := h2
    rcases List.mem_cons.1 ha with rfl | ha
    · have h4 := (List.perm_cons _).1 h3
      have h5 : b = y := by
        have : b ∈ [y] := h4.mem_iff.1 (by simp)
        simpa using this
      subst h5
      rw [h] at g; cases g
    · have e : a = y := by simpa using ha
      subst e
      have h4 : [a, b].Perm [a, x] := h3.trans (List.Perm.swap ..)
      have h5 := (List.perm_cons _).1 h4
      have h6 : b = x := by
        have : b ∈ [x] := h5.mem_iff.1 (by simp)
        simpa using this
      rw [h6]
theorem dirsS_4 : dirsS L4 = [[97], [97, 47, 98]] := by
  unfold dirsS
  rw [if_pos dirsL_4.1, dirsL_4.2]
  exact sort_two (by decide +kernel)
theorem isHash_hash {l : List FD} {d : List UInt8} (h : (hashS l d).2 = true) : isHashS (hashS l d).1 = true ∧ (hashS l d).1.length = 47 := by
  unfold hashS at h ⊢
  split at h
  · rename_i hm
    rw [if_pos hm]
    have e : (h1L ++ Bs.encS (Dg.ofS (linesS (ownedS l d) d))).drop 3 = Bs.encS (Dg.ofS (linesS (ownedS l d) d)) := rfl
    have hd : Bs.decS (Bs.encS (Dg.ofS (linesS (ownedS l d) d))) = (Dg.ofS (linesS (ownedS l d) d), true) := Bs.dec_yes rfl
    have ho := Dg.ofS_length (linesS (ownedS l d) d)
    refine ⟨?_, ?_⟩
    · unfold isHashS
      rw [e, hd, decide_eq_true (List.prefix_append _ _)]
      show (true && (true && decide ((Dg.ofS (linesS (ownedS l d) d)).length = 32))) = true
      rw [ho]; rfl
    · rw [List.length_append, Bs.enc_len, ho]; rfl
  · cases h
theorem own_4 : ownS [[97], [97, 47, 98]] [97, 47, 98, 47, 99, 47, 100] = ([97, 47, 98], true) ∧ ownS [[97], [97, 47, 98]] [97, 47, 98, 99] = ([97], true) ∧ ownS [[97], [97, 47, 98]] [108, 101, 100, 103, 101, 114, 46, 116, 120, 116] = ([], false) ∧ (ownedD [[97], [97, 47, 98]] L4 [97, 47, 98]).length = 2 := by decide +kernel
theorem r3Same_loop (n : Nat) (l k : List (List UInt8)) (hk : l.length = k.length) (hL : l.length ≤ 1000000) : ∀ m j : Nat, j ≤ l.length → l.length - j < m → r3Same_loop0 n m l k (j : Int) = some (if l.drop j = k.drop j then Sum.inr ((), ((), ())) else Sum.inl ((false, ()), ((), ())))
  | 0, j, _, h => absurd h (Nat.not_lt_zero _)
  | m + 1, j, hj, h => by
    rw [r3Same_loop0_succ]
    unfold r3Same_l0
    by_cases c : j < l.length
    · have c2 : j < k.length := by omega
      have ih := r3Same_loop n l k hk hL m (j + 1) (by omega) (by omega)
      rw [decide_eq_true (by omega), cond_true, idx_lt c, Option.bind_some, idx_lt c2, Option.bind_some, List.drop_eq_getElem_cons c, List.drop_eq_getElem_cons c2]
      by_cases e : l[j] = k[j]
      · rw [decide_eq_true e, Bool.not_true, cond_false, wrap_succ (by omega), letO_some]
        refine Eq.trans ih ?_
        by_cases e2 : l.drop (j + 1) = k.drop (j + 1)
        · rw [if_pos e2, if_pos (by rw [e, e2])]
        · rw [if_neg e2, if_neg (fun h => e2 (List.cons.inj h).2)]
      · rw [decide_eq_false e, Bool.not_false, cond_true, if_neg (fun h => e (List.cons.inj h).1)]
    · obtain rfl : j = l.length := by omega
      rw [decide_eq_false (by omega), cond_false, List.drop_length, hk, List.drop_length, if_pos rfl]
theorem r3Same_spec (n : Nat) (l k : List (List UInt8)) (hL : l.length ≤ 1000000) (hn : l.length < n) : r3Same_t n l k = some (decide (l = k)) := by
  unfold r3Same_t
  by_cases hk : l.length = k.length
  · have h := r3Same_loop n l k hk hL n 0 (Nat.zero_le _) (by omega)
    rw [show ((0 : Nat) : Int) = (0 : Int) from rfl, List.drop_zero, List.drop_zero] at h
    rw [decide_eq_true (by omega), Bool.not_true, cond_false, h, Option.bind_some]
    by_cases e : l = k
    · rw [if_pos e, decide_eq_true e]; rfl
    · rw [if_neg e, decide_eq_false e]; rfl
  · rw [decide_eq_false (by omega), Bool.not_false, cond_true, decide_eq_false (fun e => hk (by rw [e]))]
theorem has_loop (n : Nat) (l : List (List UInt8)) (x : List UInt8) (hL : l.length ≤ 1000000) : ∀ m j : Nat, j ≤ l.length → l.length - j < m → r14Has_loop0 n m l x (j : Int) = some (if x ∈ l.drop j then Sum.inl ((true, ()), ((), ())) else Sum.inr ((), ((), ())))
  | 0, j, _, h => absurd h (Nat.not_lt_zero _)
  | m + 1, j, hj, h => by
    rw [r14Has_loop0_succ]
    unfold r14Has_l0
    by_cases c : j < l.length
    · have ih := has_loop n l x hL m (j + 1) (by omega) (by omega)
      rw [decide_eq_true (by omega), cond_true, idx_lt c, Option.bind_some, List.drop_eq_getElem_cons c]
      by_cases e : l[j] = x
      · rw [decide_eq_true e, cond_true, if_pos (by rw [e]; exact List.mem_cons_self ..)]
      · rw [decide_eq_false e, cond_false, wrap_succ (by omega), letO_some]
        refine Eq.trans ih ?_
        by_cases e2 : x ∈ l.drop (j + 1)
        · rw [if_pos e2, if_pos (List.mem_cons_of_mem _ e2)]
        · rw [if_neg e2, if_neg (fun h => (List.mem_cons.1 h).elim (fun h => e h.symm) e2)]
    · obtain rfl : j = l.length := by omega
      rw [decide_eq_false (by omega), cond_false, List.drop_length, if_neg (by simp)]
theorem r14Has_spec (n : Nat) (l : List (List UInt8)) (x : List UInt8) (hL : l.length ≤ 1000000) (hn : l.length < n) : r14Has_t n l x = some (decide (x ∈ l)) := by
  unfold r14Has_t
  have h := has_loop n l x hL n 0 (Nat.zero_le _) (by omega)
  rw [show ((0 : Nat) : Int) = (0 : Int) from rfl, List.drop_zero] at h
  rw [h, Option.bind_some]
  by_cases e : x ∈ l
  · rw [if_pos e, decide_eq_true e]; rfl
  · rw [if_neg e, decide_eq_false e]; rfl
theorem r8Within_spec (n : Nat) (p d : List UInt8) : r8Within_t n p d = some (withinS p d) := by
  unfold r8Within_t withinS
  by_cases h1 : d = []
  · rw [decide_eq_true h1, cond_true, Bool.true_or]
  by_cases h2 : p = d
  · rw [decide_eq_false h1, cond_false, decide_eq_true h2, cond_true, Bool.true_or, Bool.or_true]
  rw [decide_eq_false h1, cond_false, decide_eq_false h2, cond_false, Bool.false_or, Bool.false_or]
  by_cases h3 : d.length < p.length
  · rw [decide_eq_true (by omega), cond_true, sub_zero (by omega), Option.bind_some]
    have key : (d ++ [47] <+: p) ↔ p.take d.length = d ∧ p[d.length] = 47 := by
      rw [List.prefix_iff_eq_take, List.length_append]
      show d ++ [47] = p.take (d.length + 1) ↔ _
      rw [List.take_succ_eq_append_getElem h3]
      constructor
      · intro e
        have h5 := List.append_inj e (by rw [List.length_take]; omega)
        exact ⟨h5.1.symm, (List.cons.inj h5.2).1.symm⟩
      · rintro ⟨e1, e2⟩
        rw [e1, e2]
    by_cases h4 : p.take d.length = d
    · rw [decide_eq_true h4, cond_true, sAt_lt h3, Option.bind_some]
      congr 1
      refine decide_eq_decide.2 ?_
      rw [key]
      constructor
      · intro e; exact ⟨h4, UInt8.toNat.inj (by show p[d.length].toNat = 47; omega)⟩
      · rintro ⟨_, e⟩; rw [e]; rfl
    · rw [decide_eq_false h4, cond_false, decide_eq_false (fun e => h4 (key.1 e).1)]
  · rw [decide_eq_false (by omega), cond_false, decide_eq_false]
    intro e
    have := e.length_le
    rw [List.length_append] at this
    simp at this
    omega
def smallB (l : List FD) : Bool := (l.all fun f => decide (f.1.length ≤ 200) && decide (f.2.length ≤ 300)) && decide (l.length ≤ 12)
theorem small_loop (n : Nat) (l : List FD) (hL : l.length ≤ 9223372036854775807) : ∀ m j : Nat, j ≤ l.length → l.length - j < m → l14small_loop0 n m l (j : Int) = some (if ((l.drop j).all fun f => decide (f.1.length ≤ 200) && decide (f.2.length ≤ 300)) = true then Sum.inr (((l, ()), ((), ()))) else Sum.inl ((false, ()), ((), ())))
  | 0, j, _, h => absurd h (Nat.not_lt_zero _)
  | m + 1, j, hj, h => by
    rw [l14small_loop0_succ]
    unfold l14small_l0
    by_cases c : j < l.length
    · have ih := small_loop n l hL m (j + 1) (by omega) (by omega)
      have w : IntKind.wrap .i64 ((j : Int) + (1 : Int)) = ((j + 1 : Nat) : Int) := wrap_succM (by omega)
      rw [decide_eq_true (by omega), cond_true, idx_lt c, Option.bind_some, List.drop_eq_getElem_cons c, List.all_cons]
      by_cases e1 : (l[j]).1.length ≤ 200
      · rw [decide_eq_false (by omega), cond_false, Option.bind_some, decide_eq_true e1, Bool.true_and]
        by_cases e2 : (l[j]).2.length ≤ 300
        · rw [decide_eq_false (by omega), cond_false, w, letO_some, decide_eq_true e2, Bool.true_and]
          exact ih
        · rw [decide_eq_true (by omega), cond_true, decide_eq_false e2, Bool.false_and, if_neg (by decide)]
      · rw [decide_eq_true (by omega), cond_true, decide_eq_false e1, Bool.false_and, Bool.false_and, if_neg (by decide)]
    · obtain rfl : j = l.length := by omega
      rw [decide_eq_false (by omega), cond_false, List.drop_length]
      rfl
theorem small_spec (n : Nat) (l : List FD) (hL : l.length ≤ 9223372036854775807) (hn : l.length < n) : l14small_t n l = some (smallB l) := by
  unfold l14small_t smallB
  have h := small_loop n l hL n 0 (Nat.zero_le _) (by omega)
  rw [show ((0 : Nat) : Int) = (0 : Int) from rfl, List.drop_zero] at h
  rw [h, Option.bind_some]
  by_cases e : (l.all fun f => decide (f.1.length ≤ 200) && decide (f.2.length ≤ 300)) = true
  · rw [if_pos e, e, Bool.true_and]
    show some (decide (((l.length : Nat) : Int) ≤ 12)) = _
    congr 1
    exact decide_eq_decide.2 ⟨fun h => by omega, fun h => by omega⟩
  · rw [if_neg e]
    have e' : (l.all fun f => decide (f.1.length ≤ 200) && decide (f.2.length ≤ 300)) = false := by simpa using e
    rw [e']
    rfl
theorem small_of {l : List FD} (h : smallB l = true) : l.length ≤ 12 ∧ ∀ f ∈ l, f.1.length ≤ 200 ∧ f.2.length ≤ 300 := by
  unfold smallB at h
  simp only [Bool.and_eq_true, decide_eq_true_eq, List.all_eq_true] at h
  exact ⟨h.2, h.1⟩
theorem live14 (n : Nat) (hn : 100 ≤ n) : l14live_t n = some true := by
  unfold l14live_t
  have hl : L4.length = 4 := rfl
  obtain ⟨o1, o2, o3, o4⟩ := own_4
  have a1 : tOwner_t n L4 [97, 47, 98, 47, 99, 47, 100] = some ([97, 47, 98], true) := by rw [tOwner_spec n L4 _ (by rw [hl]; decide) (by decide) (by rw [hl]; omega), dirsS_4, o1]
  have a2 : tOwner_t n L4 [97, 47, 98, 99] = some ([97], true) := by rw [tOwner_spec n L4 _ (by rw [hl]; decide) (by decide) (by rw [hl]; omega), dirsS_4, o2]
  have a3 : tOwner_t n L4 [108, 101, 100, 103, 101, 114, 46, 116, 120, 116] = some ([], false) := by rw [tOwner_spec n L4 _ (by rw [hl]; decide) (by decide) (by rw [hl]; omega), dirsS_4, o3]
  have h1 : (hashS L4 [97, 47, 98]).2 = true := by unfold hashS; rw [dirsS_4, if_pos (by decide)]
  have h2 : hashS L4 [] = ([], false) := by unfold hashS; rw [dirsS_4, if_neg (by decide)]
  obtain ⟨g1, g2⟩ := isHash_hash h1
  obtain ⟨⟨H, b⟩, hH⟩ : ∃ x, hashS L4 [97, 47, 98] = x := ⟨_, rfl⟩
  rw [hH] at h1 g1 g2
  have hb : b = true := h1
  subst hb
  have a4 : tHash_t L4 [97, 47, 98] = some (H, true) := by rw [tHash_some (by rw [hl]; decide) (by decide), hH]
  have a5 : tHash_t L4 [] = some ([], false) := by rw [tHash_some (by rw [hl]; decide) (by decide), h2]
  have a6 : tOwned_t n L4 [97, 47, 98] = some (ownedS L4 [97, 47, 98]) := tOwned_spec n L4 _ (by rw [hl]; decide) (fun f hf => by
    have : ∀ f ∈ L4, f.1.length ≤ 100 := by decide
    have := this f hf
    omega) (by rw [hl]; omega)
  have g6 : (ownedS L4 [97, 47, 98]).length = 2 := by unfold ownedS; rw [dirsS_4]; exact o4
  have a7 : tDirs_t L4 = some [[97], [97, 47, 98]] := by rw [tDirs_some (by rw [hl]; decide), dirsS_4]
  have a8 : r3Same_t n [[97], [97, 47, 98]] [[97], [97, 47, 98]] = some true := by rw [r3Same_spec n _ _ (by decide) (by show 2 < n; omega)]; rfl
  have a9 : tIsHash_t n H = some true := by rw [tIsHash_spec n H (by have : H.length = 47 := g2; omega)]; exact congrArg some g1
  have b1 : tIsHash_t n [104, 49, 58] = some false := by rw [tIsHash_spec n _ (by decide)]; exact congrArg some (by decide +kernel)
  have b2 : tDirs_t [([97, 47, 103, 111, 46, 109, 111, 100], [51]), ([97, 47, 98, 47, 103, 111, 46, 109, 111, 100], [49])] = some [] := by
    rw [tDirs_some (by decide)]
    unfold dirsS
    rw [if_neg (by decide +kernel)]
  have g7 : ((ownedS L4 [97, 47, 98]).length : Int) = 2 := by rw [g6]; rfl
  have g8 : (H.length : Int) = 47 := by have : H.length = 47 := g2; omega
  rw [a1, Option.bind_some, a2, Option.bind_some, a3, Option.bind_some, a4, Option.bind_some, a5, Option.bind_some, a6, Option.bind_some, a7, Option.bind_some, a8, Option.bind_some, cond_true, decide_eq_true rfl, cond_true, cond_true, decide_eq_true rfl, cond_true, cond_true, Bool.not_false, cond_true, decide_eq_true g7, cond_true, cond_true, decide_eq_true g8, cond_true, a9, Option.bind_some, cond_true, cond_true, b1, Option.bind_some, Bool.not_false, cond_true]
  show ((tDirs_t [([97, 47, 103, 111, 46, 109, 111, 100], [51]), ([97, 47, 98, 47, 103, 111, 46, 109, 111, 100], [49])]).bind fun (r15 : List (List UInt8)) => some (decide (((List.length r15 : Nat) : Int) = (0 : Int)))) = some true
  rw [b2]
  rfl
end Go.Proofs.YtngbpbncipjimabGreatDoor.AM

/- Layer 14: the laws TreeChanges, TreeDirs. -/
namespace Go.Proofs.YtngbpbncipjimabGreatDoor.AM
open Go.RowKit
set_option linter.unusedVariables false
set_option linter.unusedSimpArgs false
abbrev fuel14 : Nat := 9223372036854775808
theorem apply_long (n : Nat) (l : List FD) (p x : List UInt8) (hm : mayS l = true) (hl : l.length ≤ 12) (hlp : ∀ f ∈ l, f.1.length ≤ 200) (hn : 100000 < n) (hp : 60 < p.length) : r5Apply_t n l [(false, (p, x))] = some ([], 6) := by
  unfold r5Apply_t
  have ha : appO 32 ([] : List FD) l = some l := by unfold appO; rw [if_pos (by simp; omega)]; rfl
  rw [r5May_spec n l (by omega) (fun f hf => by have := hlp f hf; omega) (by omega) (by omega), hm, Option.bind_some, Bool.not_true, cond_false, ha, Option.bind_some]
  obtain ⟨m, rfl⟩ : ∃ m, n = m + 1 := ⟨n - 1, by omega⟩
  have hg : r5Get_t (m + 1) l p = some (getS l p) := r5Get_spec _ l p (by omega) (by omega)
  have hpa : rPath5_t (m + 1) p = some false := by unfold rPath5_t; rw [decide_eq_true (by omega), cond_true]
  have h0 : r5Apply_loop0 (m + 1) (m + 1) [(false, (p, x))] l (0 : Int) = some (Sum.inl (((), ((6 : Int), ())), ((), ()))) := by
    rw [r5Apply_loop0_succ]
    unfold r5Apply_l0
    have hi : idxL [(false, (p, x))] (0 : Int) = some (false, (p, x)) := rfl
    rw [decide_eq_true (p := (0 : Int) < ((List.length ([(false, (p, x))] : List OD) : Nat) : Int)) (show (0 : Int) < ((1 : Nat) : Int) by decide), cond_true, hi, Option.bind_some]
    show ((r5Get_t (m + 1) l p).bind fun _ => (rPath5_t (m + 1) p).bind fun (r5 : Bool) => _) = _
    rw [hg, Option.bind_some, hpa, Option.bind_some, Bool.not_false, cond_true]
  rw [h0, Option.bind_some]
  rfl
theorem apply_one (n : Nat) (l : List FD) (p x : List UInt8) (hm : mayS l = true) (hl : l.length ≤ 12) (hlp : ∀ f ∈ l, f.1.length ≤ 200) (hn : 100000 < n) : ∃ k e, r5Apply_t n l [(false, (p, x))] = some (k, e) ∧ (e = 0 → appS l [(false, (p, x))] = (k, 0)) := by
  by_cases hp : 60 < p.length
  · exact ⟨[], 6, apply_long n l p x hm hl hlp hn hp, fun h => by cases h⟩
  · have h := r5Apply_spec n l [(false, (p, x))] (by show 1 ≤ 10000; decide) (by omega) (fun f hf => by have := hlp f hf; omega) (fun o ho => by
      obtain rfl : o = (false, (p, x)) := by simpa using ho
      show p.length ≤ 1000000
      omega) (by omega) (by omega)
    exact ⟨(appS l [(false, (p, x))]).1, (appS l [(false, (p, x))]).2, h, fun e => by rw [← e]⟩
theorem changes_loop (n : Nat) (l k : List FD) (D : List (List UInt8)) (R : List UInt8) (b : Bool) (hl : l.length ≤ 1000000) (hk : k.length ≤ 1000000) (hD : D.length ≤ 1000000) (hd : ∀ d ∈ D, d.length ≤ 100000)
    (h1 : ∀ d ∈ D, (hashS l d).2 = true ∧ (hashS k d).2 = true ∧ ((hashS l d).1 ≠ (hashS k d).1 → b = true ∧ d = R)) : ∀ m j : Nat, j ≤ D.length → D.length - j < m →
    lTChanges_loop0 n m l k R b D (j : Int) = some (Sum.inr (((), ((), ()))))
  | 0, j, _, h => absurd h (Nat.not_lt_zero _)
  | m + 1, j, hj, h => by
    rw [lTChanges_loop0_succ]
    unfold lTChanges_l0
    by_cases c : j < D.length
    · have ih := changes_loop n l k D R b hl hk hD hd h1 m (j + 1) (by omega) (by omega)
      obtain ⟨g1, g2, g3⟩ := h1 _ (List.getElem_mem c)
      have hdl := hd _ (List.getElem_mem c)
      rw [decide_eq_true (by omega), cond_true, idx_lt c, Option.bind_some, tHash_some hl hdl, Option.bind_some, Option.bind_some, tHash_some hk hdl, Option.bind_some, g1, Bool.not_true, cond_false, g2, Bool.not_true, cond_false]
      by_cases e : (hashS l D[j]).1 = (hashS k D[j]).1
      · rw [decide_eq_true e, Bool.not_true, cond_false, wrap_succ (by omega), letO_some]
        exact ih
      · obtain ⟨e1, e2⟩ := g3 e
        rw [decide_eq_false e, Bool.not_false, cond_true, e1, Bool.not_true, cond_false, Option.bind_some, decide_eq_true e2, Bool.not_true, cond_false, wrap_succ (by omega), letO_some]
        rw [e1] at ih
        exact ih
    · obtain rfl : j = D.length := by omega
      rw [decide_eq_false (by omega), cond_false]
theorem lTChanges_P (n : Nat) (hn : 9223372036854775807 < n) (l : List FD) (p x : List UInt8) (hl : l.length ≤ maxLen) : lTChanges_t n l p x = some true := by
  unfold maxLen at hl
  unfold lTChanges_t
  rw [live14 n (by omega), small_spec n l (by omega) (by omega), Option.bind_some]
  cases hs : smallB l with
  | false => rfl
  | true =>
    obtain ⟨s1, s2⟩ := small_of hs
    rw [Bool.not_true, cond_false, r5May_spec n l (by omega) (fun f hf => by have := (s2 f hf).1; omega) (by omega) (by omega), Option.bind_some]
    cases hm : mayS l with
    | false => rfl
    | true =>
      rw [Bool.not_true, cond_false]
      by_cases c1 : 300 < x.length
      · rw [decide_eq_true (by omega), cond_true]; rfl
      by_cases c2 : 11 < l.length
      · rw [decide_eq_false (by omega), cond_false, decide_eq_true (by omega), cond_true]; rfl
      obtain ⟨k, e, ha, hk⟩ := apply_one n l p x hm s1 (fun f hf => (s2 f hf).1) (by omega)
      rw [decide_eq_false (by omega), cond_false, decide_eq_false (by omega), cond_false, ha, Option.bind_some]
      by_cases he : e = 0
      · obtain ⟨_, q1, q2, q3⟩ := app_two (hk he)
        obtain ⟨q4, q5⟩ := step_ok q1
        rw [q2] at q5
        have hp60 := (path_parts q4).1
        have hk40 := ((may_iff k).1 q3).1
        have hdl := dirsS_len l
        have ho : tOwner_t n k p = some (ownS (dirsS k) p) := tOwner_spec n k p (by omega) (by omega) (by omega)
        rw [decide_eq_true he, Bool.not_true, cond_false, ho, Option.bind_some, tDirs_some (by omega), Option.bind_some]
        show ((tDirs_t k).bind fun (r11 : List (List UInt8)) => (r3Same_t n (dirsS l) r11).bind fun (r12 : Bool) => (bif !r12 then (some true).bind fun (r13 : Bool) => some r13 else (lTChanges_loop0 n n l k (ownS (dirsS k) p).1 (ownS (dirsS k) p).2 (dirsS l) (0 : Int)).bind fun (o21 : ((Bool × (Unit)) × (Unit) × (Unit)) ⊕ ((Unit) × (Unit) × (Unit))) => Sum.elim (fun (q22 : (Bool × (Unit)) × (Unit) × (Unit)) => some q22.1.1) (fun (q23 : (Unit) × (Unit) × (Unit)) => (some true).bind fun (r24 : Bool) => some r24) o21)) = some true
        rw [tDirs_some (by omega), Option.bind_some, r3Same_spec n _ _ (by omega) (by omega), Option.bind_some]
        by_cases hD : dirsS l = dirsS k
        · have hloop := changes_loop n l k (dirsS l) (ownS (dirsS k) p).1 (ownS (dirsS k) p).2 (by omega) (by omega) (by omega) (fun d hd => by have := dirs_short hd; omega) (fun d hd => by
            have hd2 : d ∈ dirsS k := hD ▸ hd
            refine ⟨by unfold hashS; rw [if_pos hd], by unfold hashS; rw [if_pos hd2], fun hne => ?_⟩
            by_cases hx : (ownS (dirsS k) p).2 = true ∧ (ownS (dirsS k) p).1 = d
            · exact ⟨hx.1, hx.2.symm⟩
            · exfalso
              apply hne
              have hos : ownedS k d = ownedS l d := by
                unfold ownedS
                rw [hD]
                exact owned_same q5 hx
              unfold hashS
              rw [if_pos hd, if_pos hd2, hos]) n 0 (Nat.zero_le _) (by omega)
          rw [show ((0 : Nat) : Int) = (0 : Int) from rfl] at hloop
          rw [decide_eq_true hD, Bool.not_true, cond_false, hloop, Option.bind_some]
          rfl
        · rw [decide_eq_false hD, Bool.not_false, cond_true]
          rfl
      · rw [decide_eq_false he, Bool.not_false, cond_true]
        rfl
theorem lTChanges_true (l : den (.lst FT)) (p x : List UInt8) (hl : okDen (.lst FT) l) (hp : p.length ≤ maxLen) (hx : x.length ≤ maxLen) : lTChanges_t fuel14 l p x = some true := lTChanges_P fuel14 (by decide) l p x hl.1
/-! TreeDirs -/
theorem dir_get {l : List FD} {d : List UInt8} (h : d ∈ dirsS l) : (getS l (pathOf d)).2 = true := by
  obtain ⟨hm, hd⟩ := dirsS_mem.1 h
  obtain ⟨f, hf, h1, h2⟩ := dirsL_mem hd
  have h3 := mod_path h1
  rw [h2] at h3
  cases hg : (getS l (pathOf d)).2 with
  | true => rfl
  | false => exact absurd h3.symm (nop_get hg f hf)
theorem dirs_loop (n : Nat) (l : List FD) (d : List UInt8) (hl : l.length ≤ 1000000) (hn : l.length < n) : ∀ m j : Nat, j ≤ (dirsS l).length → (dirsS l).length - j < m →
    lTDirs_loop0 n m l d (dirsS l) (j : Int) = some (Sum.inr (((l, (d, (dirsS l, ()))), ((), ()))))
  | 0, j, _, h => absurd h (Nat.not_lt_zero _)
  | m + 1, j, hj, h => by
    rw [lTDirs_loop0_succ]
    unfold lTDirs_l0
    have hDl := dirsS_len l
    by_cases c : j < (dirsS l).length
    · have ih := dirs_loop n l d hl hn m (j + 1) (by omega) (by omega)
      have hmem := List.getElem_mem c
      have hsh := dirs_short hmem
      have hg := dir_get hmem
      have tail : ∀ (X : Option (((Bool × (Unit)) × (Unit) × (Unit)) ⊕ (((List (List UInt8 × (List UInt8))) × ((List UInt8) × ((List (List UInt8)) × (Unit)))) × (Unit) × (Unit)))),
          (bif decide ((0 : Int) < (j : Int)) then letO (IntKind.wrap .i64 ((j : Int) - (1 : Int))) fun (n12 : Int) => (idxL (dirsS l) n12).bind fun (x13 : List UInt8) => (idxL (dirsS l) (j : Int)).bind fun (x14 : List UInt8) => (bif !ltS (x13) (x14) then X else letO (IntKind.wrap .i64 ((j : Int) + (1 : Int))) fun (n15 : Int) => lTDirs_loop0 n m l d (dirsS l) n15) else letO (IntKind.wrap .i64 ((j : Int) + (1 : Int))) fun (n16 : Int) => lTDirs_loop0 n m l d (dirsS l) n16) = some (Sum.inr (((l, (d, (dirsS l, ()))), ((), ())))) := by
        intro X
        by_cases h0 : 0 < j
        · have w : IntKind.wrap .i64 ((j : Int) - (1 : Int)) = ((j - 1 : Nat) : Int) := by rw [wrap64 (by omega) (by omega)]; omega
          have c1 : j - 1 < (dirsS l).length := by omega
          have hlt := (List.pairwise_iff_getElem.1 (dirs_rise l)) (j - 1) j c1 c (by omega)
          rw [decide_eq_true (by omega), cond_true, w, letO_some, idx_lt c1, Option.bind_some, idx_lt c, Option.bind_some, hlt, Bool.not_true, cond_false, wrap_succ (by omega), letO_some]
          exact ih
        · rw [decide_eq_false (by omega), cond_false, wrap_succ (by omega), letO_some]
          exact ih
      rw [decide_eq_true (by omega), cond_true, idx_lt c, Option.bind_some, cat_ok (by rw [show ([47, 103, 111, 46, 109, 111, 100] : List UInt8).length = 7 from rfl]; omega), Option.bind_some, Option.bind_some]
      by_cases e : (dirsS l)[j] = []
      · have hp : pathOf (dirsS l)[j] = [103, 111, 46, 109, 111, 100] := by unfold pathOf; rw [if_pos e]; rfl
        rw [hp] at hg
        rw [decide_eq_true e, cond_true, r5Get_spec n l _ hl hn, Option.bind_some, hg, Bool.not_true, cond_false]
        have := tail (some (Sum.inl ((false, ()), ((), ()))))
        rw [idx_lt c] at this
        exact this
      · have hp : pathOf (dirsS l)[j] = (dirsS l)[j] ++ [47, 103, 111, 46, 109, 111, 100] := by unfold pathOf; rw [if_neg e]; rfl
        rw [hp] at hg
        rw [decide_eq_false e, cond_false, r5Get_spec n l _ hl hn, Option.bind_some, hg, Bool.not_true, cond_false]
        have := tail (some (Sum.inl ((false, ()), ((), ()))))
        rw [idx_lt c] at this
        exact this
    · obtain rfl : j = (dirsS l).length := by omega
      rw [decide_eq_false (by omega), cond_false]
theorem more_count {l k : List FD} {d x : List UInt8} (hl : mayS l = true) (hk : mayS k = true) (hd : d ≠ []) (he : k = insS (d ++ 47 :: gomodL, x) (withoutS l (d ++ 47 :: gomodL))) :
    (dirsS k).length = (dirsS l).length + (if d ∈ dirsS l then 0 else 1) ∧ d ∈ dirsS k := by
  obtain ⟨hmod, hbase⟩ := path_mod hd x
  have hr := ((may_iff l).1 hl).2.2
  have hlenk : (dirsS k).length = (k.filter isMod).length := by unfold dirsS; rw [if_pos hk, List.length_mergeSort]; unfold dirsL; rw [List.length_map]
  have hlenl : (dirsS l).length = (l.filter isMod).length := by unfold dirsS; rw [if_pos hl, List.length_mergeSort]; unfold dirsL; rw [List.length_map]
  have hin : d ∈ dirsS k := by
    refine dirsS_mem.2 ⟨hk, ?_⟩
    unfold dirsL
    refine List.mem_map.2 ⟨(d ++ 47 :: gomodL, x), List.mem_filter.2 ⟨?_, hmod⟩, hbase⟩
    rw [he]
    exact (mem_ins _ _ _).2 (.inl rfl)
  refine ⟨?_, hin⟩
  rw [hlenk, hlenl, he, count_ins, if_pos hmod]
  by_cases hD : d ∈ dirsS l
  · rw [if_pos hD]
    obtain ⟨f, hf, h1, h2⟩ := dirsL_mem (dirsS_mem.1 hD).2
    have h3 : f.1 = d ++ 47 :: gomodL := by
      have := mod_path h1
      rw [h2] at this
      unfold pathOf at this
      rw [if_neg hd] at this
      exact this.symm
    obtain ⟨P, a, hPa⟩ := List.append_of_mem hf
    subst hPa
    obtain ⟨r1, r2, r3⟩ := rise_app.1 hr
    have hw := without_mid (P := P) (a := a) h3 (fun y hy => by rw [← h3]; exact lt_ne (r3 y hy f (List.mem_cons_self ..))) (fun y hy => by rw [← h3]; exact (lt_ne ((List.pairwise_cons.1 r2).1 y hy)).symm)
    rw [hw, List.filter_append, List.filter_append, List.filter_cons, if_pos h1]
    simp only [List.length_append, List.length_cons]
    omega
  · rw [if_neg hD]
    have hno : NoP (d ++ 47 :: gomodL) l := fun f hf e => by
      apply hD
      refine dirsS_mem.2 ⟨hl, ?_⟩
      unfold dirsL
      have hm2 := path_mod hd f.2
      rw [← e] at hm2
      exact List.mem_map.2 ⟨f, List.mem_filter.2 ⟨hf, hm2.1⟩, hm2.2⟩
    rw [without_nop hno]
theorem lTDirs_P (n : Nat) (hn : 9223372036854775807 < n) (l : List FD) (d : List UInt8) (hl : l.length ≤ maxLen) : lTDirs_t n l d = some true := by
  unfold maxLen at hl
  unfold lTDirs_t
  rw [live14 n (by omega), small_spec n l (by omega) (by omega), Option.bind_some]
  cases hs : smallB l with
  | false => rfl
  | true =>
    obtain ⟨s1, s2⟩ := small_of hs
    rw [Bool.not_true, cond_false, r5May_spec n l (by omega) (fun f hf => by have := (s2 f hf).1; omega) (by omega) (by omega), Option.bind_some]
    cases hm : mayS l with
    | false => rfl
    | true =>
      rw [Bool.not_true, cond_false]
      by_cases c1 : 11 < l.length
      · rw [decide_eq_true (by omega), cond_true]; rfl
      by_cases c2 : 200 < d.length
      · rw [decide_eq_false (by omega), cond_false, decide_eq_true (by omega), cond_true]; rfl
      have hDl := dirsS_len l
      have hloop := dirs_loop n l d (by omega) (by omega) n 0 (Nat.zero_le _) (by omega)
      rw [show ((0 : Nat) : Int) = (0 : Int) from rfl] at hloop
      obtain ⟨k, e, ha, hk⟩ := apply_one n l (d ++ [47, 103, 111, 46, 109, 111, 100]) [] hm s1 (fun f hf => (s2 f hf).1) (by omega)
      rw [decide_eq_false (by omega), cond_false, decide_eq_false (by omega), cond_false, tDirs_some (by omega), Option.bind_some, hloop, Option.bind_some, Sum.elim_inr]
      show ((catO d [47, 103, 111, 46, 109, 111, 100]).bind fun (s26 : List UInt8) => (r5Apply_t n l ([(false, (s26, ([] : List UInt8)))] : List ((Bool) × (List UInt8 × (List UInt8))))).bind fun (r27 : (List (List UInt8 × (List UInt8))) × (Int)) => (bif !decide (r27.2 = (0 : Int)) then (some true).bind fun (r28 : Bool) => some r28 else (tDirs_t r27.1).bind fun (r29 : List (List UInt8)) => (r14Has_t n (dirsS l) d).bind fun (r30 : Bool) => (bif !r30 then letO (IntKind.wrap .i64 ((((dirsS l).length : Nat) : Int) + (1 : Int))) fun (n31 : Int) => (bif decide (((List.length r29 : Nat) : Int) = n31) then (r14Has_t n r29 d).bind fun (r32 : Bool) => (bif r32 then (some true).bind fun (r33 : Bool) => some r33 else some false) else some false) else (bif decide (((List.length r29 : Nat) : Int) = (((dirsS l).length : Nat) : Int)) then (r14Has_t n r29 d).bind fun (r34 : Bool) => (bif r34 then (some true).bind fun (r35 : Bool) => some r35 else some false) else some false)))) = some true
      rw [cat_ok (by rw [show ([47, 103, 111, 46, 109, 111, 100] : List UInt8).length = 7 from rfl]; omega), Option.bind_some, ha, Option.bind_some]
      by_cases he : e = 0
      · obtain ⟨_, q1, q2, q3⟩ := app_two (hk he)
        obtain ⟨q4, q5⟩ := step_ok q1
        rw [q2] at q5
        have hk40 := ((may_iff k).1 q3).1
        have hkl := dirsS_len k
        have hd0 : d ≠ [] := fun e => by
          subst e
          rw [List.nil_append, path_front] at q4
          cases q4
        obtain ⟨m1, m2⟩ := more_count (x := []) hm q3 hd0 q5
        rw [decide_eq_true he, Bool.not_true, cond_false]
        show ((tDirs_t k).bind fun (r29 : List (List UInt8)) => (r14Has_t n (dirsS l) d).bind fun (r30 : Bool) => (bif !r30 then letO (IntKind.wrap .i64 ((((dirsS l).length : Nat) : Int) + (1 : Int))) fun (n31 : Int) => (bif decide (((List.length r29 : Nat) : Int) = n31) then (r14Has_t n r29 d).bind fun (r32 : Bool) => (bif r32 then (some true).bind fun (r33 : Bool) => some r33 else some false) else some false) else (bif decide (((List.length r29 : Nat) : Int) = (((dirsS l).length : Nat) : Int)) then (r14Has_t n r29 d).bind fun (r34 : Bool) => (bif r34 then (some true).bind fun (r35 : Bool) => some r35 else some false) else some false))) = some true
        rw [tDirs_some (by omega), Option.bind_some, r14Has_spec n _ d (by omega) (by omega), Option.bind_some]
        by_cases hD : d ∈ dirsS l
        · rw [if_pos hD] at m1
          rw [decide_eq_true hD, Bool.not_true, cond_false, decide_eq_true (by omega), cond_true, r14Has_spec n _ d (by omega) (by omega), Option.bind_some, decide_eq_true m2, cond_true]
          rfl
        · rw [if_neg hD] at m1
          rw [decide_eq_false hD, Bool.not_false, cond_true, wrap_succ (by omega), letO_some, decide_eq_true (by omega), cond_true, r14Has_spec n _ d (by omega) (by omega), Option.bind_some, decide_eq_true m2, cond_true]
          rfl
      · rw [decide_eq_false he, Bool.not_false, cond_true]
        rfl
theorem lTDirs_true (l : den (.lst FT)) (d : List UInt8) (hl : okDen (.lst FT) l) (hd : d.length ≤ maxLen) : lTDirs_t fuel14 l d = some true := lTDirs_P fuel14 (by decide) l d hl.1
end Go.Proofs.YtngbpbncipjimabGreatDoor.AM
