/- One text of GraP2, MpL, MpP4, GraP3, GraL, GraV, GraP6, VerI (mk/pack.py). -/
import Derived.Test.YtgdlfnlakfahcaaDoorGp11
import Derived.Test.YtgdlfnlakfahcaaDoorGp7
import Derived.Test.YtgdlfnlakfahcaaDoorRows
import Derived.Test.YtgdlfnlakfahcaaDoorGp8
import Derived.LaidLaws
/- Layer 16: what the program's functions come to: haveAll, next, places, climb, Cyclic, Order, Up. -/
namespace Go.Proofs.YtgdlfnlakfahcaaDoor.AM
open Go.RowKit Gr
set_option linter.unusedVariables false
set_option linter.unusedSimpArgs false

/-! those of a list of numbers of whom something holds -/
def IsF (n : Nat) (P : Nat → Prop) (L : List Nat) : Prop := ∃ p : Nat → Bool, L = (List.range n).filter p ∧ ∀ k, k < n → (p k = true ↔ P k)
theorem IsF.eq {n : Nat} {P Q : Nat → Prop} {L L' : List Nat} (h : IsF n P L) (h' : IsF n Q L') (hPQ : ∀ k, k < n → (P k ↔ Q k)) : L = L' := by
  obtain ⟨p, rfl, hp⟩ := h
  obtain ⟨q, rfl, hq⟩ := h'
  apply List.filter_congr
  intro k hk
  have hk' := List.mem_range.1 hk
  have := ((hp k hk').trans (hPQ k hk')).trans (hq k hk').symm
  cases hpk : p k <;> cases hqk : q k <;> simp_all
theorem IsF.lt {n : Nat} {P : Nat → Prop} {L : List Nat} (h : IsF n P L) : L.length ≤ n := by
  obtain ⟨p, rfl, hp⟩ := h
  have := List.length_filter_le p (List.range n)
  rwa [List.length_range] at this
theorem range_more {f : Nat → Bool} {n : Nat} : ∀ d : Nat, (∀ k, n ≤ k → f k = false) → (List.range (n + d)).filter f = (List.range n).filter f
  | 0, _ => rfl
  | d + 1, h => by
    rw [← Nat.add_assoc, List.range_succ, List.filter_append, range_more d h, List.filter_cons, h _ (by omega)]
    simp
theorem hs_out {M : List Bool} {k : Nat} (h : M.length ≤ k) : hs M k = false := by
  unfold hs; rw [List.getD_eq_getElem?_getD, List.getElem?_eq_none h]; rfl

/-! haveAll, places -/
theorem gIdxI_loop (n : Nat) (L : List Nat) (M : List Bool) (hM : M.length = 12) (hL : ∀ x ∈ L, x < 12) (hl : L.length ≤ 1000) : ∀ m j : Nat, j ≤ L.length → L.length - j < m →
    ∃ k : Nat, ap12 (gIdxI_loop0 n m (iL L) ((L.length : Nat) : Int) (j : Int)) M = some (bif (L.drop j).any (fun x => !(hs M x)) then Sum.inl (((k : Int), ()), (((), ((P12 M, ()))), ())) else Sum.inr ((), (((), (P12 M, ())), ())))
  | 0, j, _, h => absurd h (Nat.not_lt_zero _)
  | m + 1, j, hj, h => by
    unfold ap12
    rw [gIdxI_loop0_succ]
    unfold gIdxI_l0
    by_cases c : j < L.length
    · have hx := hL _ (List.getElem_mem c)
      have hi : idxL (iL L) (j : Int) = some ((L[j] : Nat) : Int) := by
        rw [idx_lt (by rw [iL_len]; exact c)]; simp [iL]
      rw [decide_eq_true (by omega), cond_true, hi, Option.bind_some]
      unfold gHav1_t
      rw [inA_nat hx, cond_true, lit12 hM, Int.toNat_natCast, nth_hs (by omega), Option.bind_some, Option.bind_some, List.drop_eq_getElem_cons c, List.any_cons]
      cases hs M L[j] with
      | false => exact ⟨j, rfl⟩
      | true =>
        obtain ⟨k, hk⟩ := gIdxI_loop n L M hM hL hl m (j + 1) (by omega) (by omega)
        refine ⟨k, ?_⟩
        rw [Bool.not_true, cond_false, Bool.false_or, letO_eq, wrap_succ (by omega)]
        exact hk
    · obtain rfl : j = L.length := by omega
      refine ⟨0, ?_⟩
      rw [decide_eq_false (by omega), cond_false, List.drop_length]; rfl
theorem not_any {L : List Nat} {f : Nat → Bool} : (!L.any (fun x => !(f x))) = L.all f := by
  induction L with
  | nil => rfl
  | cons x L ih => rw [List.any_cons, List.all_cons, ← ih]; cases f x <;> simp
theorem gHave_spec (n : Nat) (L : List Nat) (M : List Bool) (hM : M.length = 12) (hL : ∀ x ∈ L, x < 12) (hl : L.length ≤ 1000) (hn : 1000 < n) : ap12 (gHave_t n () (iL L)) M = some (L.all (hs M), ((P12 M, ()), ())) := by
  obtain ⟨k, hk⟩ := gIdxI_loop n L M hM hL hl n 0 (Nat.zero_le _) (by omega)
  rw [List.drop_zero] at hk
  rw [← not_any]
  unfold ap12 at hk
  unfold ap12 gHave_t gCtI_t gIdxI_t
  rw [iL_len]
  have hk' := hk
  rw [show ((0 : Nat) : Int) = (0 : Int) from rfl] at hk'
  rw [hk']
  cases L.any (fun x => !(hs M x)) with
  | true =>
    simp only [cond_true, Option.bind_some, Sum.elim_inl]
    rw [decide_eq_true (by omega)]
  | false => rfl
theorem gPlaces_loop (n : Nat) (M : List Bool) (hM : M.length = 12) : ∀ m j : Nat, ∀ acc : List Int, acc.length ≤ j → j ≤ 12 → 12 - j < m →
    ap12 (gPlaces_loop0 n m (j : Int)) M acc = some (((), ()), ((P12 M, ()), (acc ++ iL ((List.range' j (12 - j)).filter (hs M)), ())))
  | 0, j, _, _, _, h => absurd h (Nat.not_lt_zero _)
  | m + 1, j, acc, ha, hj, h => by
    unfold ap12
    rw [gPlaces_loop0_succ]
    unfold gPlaces_l0
    by_cases c : j < 12
    · obtain ⟨k, hk⟩ : ∃ k, 12 - j = k + 1 := ⟨12 - j - 1, by omega⟩
      have hk' : 12 - (j + 1) = k := by omega
      rw [decide_eq_true (by omega), cond_true, inA_nat c, cond_true, lit12 hM, Int.toNat_natCast, nth_hs (by omega), Option.bind_some, hk, List.range'_succ, List.filter_cons]
      cases hs M j with
      | true =>
        rw [cond_true, if_pos rfl, app_le (by simp; omega), Option.bind_some, letO_eq, wrap_succ (by omega)]
        refine (gPlaces_loop n M hM m (j + 1) _ (by simp; omega) (by omega) (by omega)).trans ?_
        rw [hk']
        simp [iL]
      | false =>
        rw [cond_false, if_neg (by decide), letO_eq, wrap_succ (by omega)]
        refine (gPlaces_loop n M hM m (j + 1) _ (by omega) (by omega) (by omega)).trans ?_
        rw [hk']
    · obtain rfl : j = 12 := by omega
      rw [decide_eq_false (by omega), cond_false, Nat.sub_self]
      simp [iL, P12]
theorem gPlaces_spec (n : Nat) (M : List Bool) (hM : M.length = 12) (hn : 1000 < n) {k : Nat} (hk : k ≤ 12) (hh : ∀ q, hs M q = true → q < k) : ap12 (gPlaces_t n ()) M = some (iL ((List.range k).filter (hs M)), ((P12 M, ()), ())) := by
  have := gPlaces_loop n M hM n 0 [] (Nat.le_refl _) (Nat.zero_le _) (by omega)
  unfold ap12 at this
  unfold ap12 gPlaces_t
  rw [show (0 : Int) = ((0 : Nat) : Int) from rfl, this, Option.bind_some, List.nil_append, Nat.sub_zero, ← List.range_eq_range']
  have h2 := range_more (f := hs M) (n := k) (12 - k) (fun q hq => by
    cases hs' : hs M q with
    | false => rfl
    | true => exact absurd (hh q hs') (by omega))
  rw [show k + (12 - k) = 12 by omega] at h2
  rw [h2]

/-! next, Order -/
def Rep (M : List Bool) (O : List Nat) : Prop := M.length = 12 ∧ ∀ k, hs M k = O.contains k
theorem Rep.snoc {M : List Bool} {O : List Nat} {i : Nat} (h : Rep M O) (hi : i < 12) : Rep (M.set i true) (O ++ [i]) := by
  refine ⟨by rw [List.length_set]; exact h.1, fun k => ?_⟩
  have h1 := hs_set (M := M) (j := i) (k := k) (by rw [h.1]; exact hi)
  have h2 := h.2 k
  have h3 : (O ++ [i]).contains k = true ↔ (k = i ∨ O.contains k = true) := by
    rw [List.contains_iff_mem, List.mem_append, List.mem_singleton, List.contains_iff_mem]
    exact Or.comm
  rw [h2] at h1
  cases ha : hs (M.set i true) k <;> cases hb : (O ++ [i]).contains k <;> simp_all
theorem gNext_loop (n : Nat) (l : List MD) (O : List Nat) (M : List Bool) (hR : Rep M O) (hl : SmL l) (hl12 : l.length ≤ 12) (hn : 100000 < n) : ∀ m j : Nat, j ≤ l.length → l.length - j < m →
    ap12 (gNext_loop0 n m l ((l.length : Nat) : Int) (j : Int)) M = some (match (List.range' j (l.length - j)).find? (ready l.length (adj l) O) with
      | some i => Sum.inl (((i : Int), (true, ())), ((P12 M, ()), ()))
      | none => Sum.inr ((), ((P12 M, ()), ())))
  | 0, j, _, h => absurd h (Nat.not_lt_zero _)
  | m + 1, j, hj, h => by
    unfold ap12
    rw [gNext_loop0_succ]
    unfold gNext_l0
    by_cases c : j < l.length
    · obtain ⟨k, hk⟩ : ∃ k, l.length - j = k + 1 := ⟨l.length - j - 1, by omega⟩
      have hk' : l.length - (j + 1) = k := by omega
      have ih := gNext_loop n l O M hR hl hl12 hn m (j + 1) (by omega) (by omega)
      rw [hk'] at ih
      have hrd : ready l.length (adj l) O j = (!(hs M j) && (edgesS l.length (adj l) j).all (hs M)) := by
        unfold ready
        rw [hR.2 j]
        congr 1
        exact List.all_congr rfl fun x => (hR.2 x).symm
      rw [decide_eq_true (by omega), cond_true, inA_nat (by omega), cond_true, lit12 hR.1, Int.toNat_natCast, nth_hs (by rw [hR.1]; omega), Option.bind_some, hk, List.range'_succ, List.find?_cons, hrd]
      cases hs M j with
      | true =>
        rw [Bool.not_true, cond_false, Bool.false_and, letO_eq, wrap_succ (by omega)]
        exact ih
      | false =>
        have hh := gHave_spec n (edgesS l.length (adj l) j) M hR.1 (fun x hx => by have := (mem_edges.1 hx).1; omega) (by have := List.length_filter_le (adj l j) (List.range l.length); rw [List.length_range] at this; unfold edgesS; omega) (by omega)
        unfold ap12 at hh
        rw [Bool.not_false, cond_true, gedges_spec n l j c hl hn, Option.bind_some, hh, Option.bind_some, Bool.true_and]
        cases (edgesS l.length (adj l) j).all (hs M) with
        | true => rfl
        | false =>
          rw [cond_false, letO_eq, wrap_succ (by omega)]
          exact ih
    · obtain rfl : j = l.length := by omega
      rw [decide_eq_false (by omega), cond_false, Nat.sub_self]
      rfl
theorem gNext_spec (n : Nat) (l : List MD) (O : List Nat) (M : List Bool) (hR : Rep M O) (hl : SmL l) (hl12 : l.length ≤ 12) (hn : 100000 < n) :
    ap12 (gNext_t n l ()) M = some (match nxt l.length (adj l) O with
      | some i => (((i : Int), true), ((P12 M, ()), ()))
      | none => (((0 : Int), false), ((P12 M, ()), ()))) := by
  have := gNext_loop n l O M hR hl hl12 hn n 0 (Nat.zero_le _) (by omega)
  unfold ap12 at this
  unfold ap12 gNext_t nxt
  rw [show (0 : Int) = ((0 : Nat) : Int) from rfl, this, Option.bind_some, List.range_eq_range', Nat.sub_zero]
  cases (List.range' 0 l.length).find? (ready l.length (adj l) O) <;> rfl
theorem gOrder_loop (n : Nat) (l : List MD) (hl : SmL l) (hl12 : l.length ≤ 12) (hn : 100000 < n) : ∀ m f : Nat, ∀ O M, Rep M O → Ord l.length (adj l) O → l.length < O.length + f → f ≤ m →
    ap12 (gOrder_loop0 n m l) M (iL O) = some ((l, ((), ())), ((), (iL (ordS l.length (adj l) f O), ())))
  | 0, f, O, M, hR, hO, hf, hm => by
    have := nodup_le hO.nd hO.lt
    omega
  | m + 1, f, O, M, hR, hO, hf, hm => by
    unfold ap12
    rw [gOrder_loop0_succ]
    unfold gOrder_l0
    have hx := gNext_spec n l O M hR hl hl12 hn
    unfold ap12 at hx
    rw [hx, Option.bind_some]
    cases f with
    | zero =>
      have := nodup_le hO.nd hO.lt
      omega
    | succ f =>
      unfold ordS
      cases hN : nxt l.length (adj l) O with
      | none => rfl
      | some i =>
        obtain ⟨h1, h2, h3⟩ := nxt_some hN
        have hOl := nodup_le hO.nd hO.lt
        show (bif !true then _ else (bif inA ((i : Nat) : Int) 12 then (bif inA ((i : Nat) : Int) 12 then (appO 8 (iL O) ([((i : Nat) : Int)] : List Int)).bind _ else none) else none)) = _
        rw [Bool.not_true, cond_false, inA_nat (by omega), cond_true, cond_true, app_le (by rw [iL_len]; simp; omega), Option.bind_some]
        have hap : iL O ++ [((i : Nat) : Int)] = iL (O ++ [i]) := by rw [iL_app]; rfl
        rw [hap]
        refine (upd_ap true hR.1 (fun b1 b2 b3 b4 b5 b6 b7 b8 b9 b10 b11 b12 => gOrder_loop0 n m l b1 b2 b3 b4 b5 b6 b7 b8 b9 b10 b11 b12 (iL (O ++ [i])))).trans ?_
        exact gOrder_loop n l hl hl12 hn m f (O ++ [i]) (M.set i true) (hR.snoc (by omega)) (hO.snoc hN) (by rw [List.length_append, List.length_singleton]; omega) (by omega)
def ordL (l : List MD) : List Nat := ordS l.length (adj l) 13 []
def orderS (l : List MD) : List Int × Int := if chkS l = 0 then (if (ordL l).length < l.length then ([], 12) else (iL (ordL l), 0)) else ([], chkS l)
theorem rep_nil : Rep [false, false, false, false, false, false, false, false, false, false, false, false] [] := ⟨rfl, fun k => by
  by_cases h : k < 12
  · match k, h with
    | 0, _ | 1, _ | 2, _ | 3, _ | 4, _ | 5, _ | 6, _ | 7, _ | 8, _ | 9, _ | 10, _ | 11, _ => rfl
  · rw [hs_out (by simp; omega)]; rfl⟩
theorem gOrder_spec (n : Nat) (l : List MD) (hl : SmL l) (hn : 100000 < n) : gOrder_t n l = some (orderS l) := by
  unfold gOrder_t orderS
  rw [gCheck_spec n l hl hn, Option.bind_some]
  by_cases c : chkS l = 0
  · have h12 := chk_len c
    rw [decide_eq_true c, Bool.not_true, cond_false, if_pos c]
    have := gOrder_loop n l hl h12 hn n 13 [] _ rep_nil Ord.nil (by simp; omega) (by omega)
    have h' : gOrder_loop0 n n l false false false false false false false false false false false false [] = some ((l, ((), ())), ((), (iL (ordL l), ()))) := this
    rw [h', Option.bind_some]
    show (bif decide (((iL (ordL l)).length : Int) < ((l.length : Nat) : Int)) then _ else _) = _
    rw [iL_len]
    by_cases hlt : (ordL l).length < l.length
    · rw [decide_eq_true (by omega), cond_true, if_pos hlt]
    · rw [decide_eq_false (by omega), cond_false, if_neg hlt]
  · rw [decide_eq_false c, Bool.not_false, cond_true, if_neg c]

/-! climb -/
theorem climb_spec (n : Nat) (l : List MD) (hl : SmL l) (hl12 : l.length ≤ 12) (hn : 100000 < n) : ∀ (d i : Nat) (M : List Bool), M.length = 12 → cnt M < d → i < l.length →
    ∃ R, ap12 (gClimbD n d l (i : Int) ()) M = some ((), ((P12 R, ()), ())) ∧ Climb l.length (adj l) i M R
  | 0, i, M, _, h, _ => absurd h (Nat.not_lt_zero _)
  | d + 1, i, M0, hM0, hd, hi => by
    have h20 := hl.1
    have loop : ∀ m j R0, j ≤ l.length → l.length - j < m → Climb0 l.length (adj l) i j M0 R0 →
        ∃ R, ap12 (gClimb_loop0 (gClimbD n d) n m l (i : Int) l ((l.length : Nat) : Int) (j : Int)) R0 = some ((), ((P12 R, ()), ())) ∧ Climb0 l.length (adj l) i l.length M0 R := by
      intro m
      induction m with
      | zero => intro j R0 _ h _; exact absurd h (Nat.not_lt_zero _)
      | succ m ih =>
        intro j R0 hj h hc
        have hR0 : R0.length = 12 := hc.len.trans hM0
        unfold ap12
        rw [gClimb_loop0_succ]
        unfold gClimb_l0
        by_cases c : j < l.length
        · have hr := (hl.2 _ (List.getElem_mem c)).2
          rw [decide_eq_true (by omega), cond_true, idx_lt c, Option.bind_some, inA_nat (by omega), cond_true, lit12 hR0, Int.toNat_natCast, nth_hs (by omega), Option.bind_some]
          cases hsj : hs R0 j with
          | true =>
            rw [Bool.not_true, cond_false, letO_eq, wrap_succ (by omega)]
            exact ih (j + 1) R0 (by omega) (by omega) (hc.skip (Or.inl hsj))
          | false =>
            rw [Bool.not_false, cond_true, idx_lt hi, Option.bind_some, gReq_spec n _ _ (by omega) (by omega), Option.bind_some, ← adj_lt c hi]
            cases ha : adj l j i with
            | false =>
              rw [cond_false, letO_eq, wrap_succ (by omega)]
              exact ih (j + 1) R0 (by omega) (by omega) (hc.skip (Or.inr ha))
            | true =>
              have hcnt := cnt_set (M := R0) (j := j) (by omega) hsj
              have hle := cnt_le hc.len hc.sub
              obtain ⟨R', h1, h2⟩ := climb_spec n l hl hl12 hn d j (R0.set j true) (by rw [List.length_set]; exact hR0) (by omega) c
              obtain ⟨R, h3, h4⟩ := ih (j + 1) R' (by omega) (by omega) (hc.step c hi (by omega) ha h2)
              refine ⟨R, ?_, h4⟩
              rw [cond_true, cond_true, cond_true]
              have h5 := (upd_ap true hR0 (gClimbD n d l (j : Int) ())).trans h1
              rw [h5, Option.bind_some, letO_eq, wrap_succ (by omega)]
              exact h3
        · obtain rfl : j = l.length := by omega
          refine ⟨R0, ?_, hc⟩
          rw [decide_eq_false (by omega), cond_false]
          rfl
    obtain ⟨R, h1, h2⟩ := loop n 0 M0 (Nat.zero_le _) (by omega) (Climb0.start _ _ _ _)
    refine ⟨R, ?_, h2.done⟩
    unfold ap12 at h1 ⊢
    show gClimb_t (gClimbD n d) n l (i : Int) () _ _ _ _ _ _ _ _ _ _ _ _ = _
    unfold gClimb_t
    rw [show (0 : Int) = ((0 : Nat) : Int) from rfl, h1, Option.bind_some]

/-! Cyclic -/
def M0 : List Bool := [false, false, false, false, false, false, false, false, false, false, false, false]
theorem hs_M0 (k : Nat) : hs M0 k = false := by
  have := rep_nil.2 k
  exact this
theorem hs_setB {M : List Bool} {j k : Nat} {y : Bool} (hj : j < M.length) : hs (M.set j y) k = if k = j then y else hs M k := by
  unfold hs
  rw [List.getD_eq_getElem?_getD, List.getD_eq_getElem?_getD, List.getElem?_set]
  by_cases h : j = k
  · subst h; simp [hj]
  · rw [if_neg h, if_neg (fun e => h e.symm)]
theorem gCyclic_loop (n : Nat) (l : List MD) (hl : SmL l) (hl12 : l.length ≤ 12) (hn : 100000 < n) : ∀ m j C, j ≤ l.length → l.length - j < m → C.length = 12 → (∀ k, hs C k = true ↔ k < j ∧ Dep l.length (adj l) k k) →
    ∃ C', ap12 (gCyclic_loop0 n m l ((l.length : Nat) : Int) (j : Int)) C = some (((), ()), ((P12 C', ()), ())) ∧ C'.length = 12 ∧ ∀ k, hs C' k = true ↔ k < l.length ∧ Dep l.length (adj l) k k
  | 0, j, _, _, h, _, _ => absurd h (Nat.not_lt_zero _)
  | m + 1, j, C, hj, h, hC, hk => by
    unfold ap12
    rw [gCyclic_loop0_succ]
    unfold gCyclic_l0
    by_cases c : j < l.length
    · obtain ⟨R, h1, h2⟩ := climb_spec n l hl hl12 hn n j M0 rfl (by have : cnt M0 = 12 := rfl; omega) c
      have h1' : gClimbD n n l (j : Int) () false false false false false false false false false false false false = some ((), ((P12 R, ()), ())) := h1
      have hR : R.length = 12 := h2.len
      have hR' := climb_none h2 hs_M0
      rw [decide_eq_true (by omega), cond_true, h1', Option.bind_some, inA_nat (by omega), cond_true]
      have hl12' : ([(P12 R).1, (P12 R).2.1, (P12 R).2.2.1, (P12 R).2.2.2.1, (P12 R).2.2.2.2.1, (P12 R).2.2.2.2.2.1, (P12 R).2.2.2.2.2.2.1, (P12 R).2.2.2.2.2.2.2.1, (P12 R).2.2.2.2.2.2.2.2.1, (P12 R).2.2.2.2.2.2.2.2.2.1, (P12 R).2.2.2.2.2.2.2.2.2.2.1, (P12 R).2.2.2.2.2.2.2.2.2.2.2] : List Bool) = R := lit12 hR
      rw [hl12', Int.toNat_natCast, nth_hs (by omega), Option.bind_some, cond_true, cond_true, letO_eq, wrap_succ (by omega)]
      have ih := gCyclic_loop n l hl hl12 hn m (j + 1) (C.set j (hs R j)) (by omega) (by omega) (by rw [List.length_set]; exact hC) (fun k => by
        rw [hs_setB (by omega)]
        by_cases e : k = j
        · subst e
          rw [if_pos rfl, hR']
          exact ⟨fun h => ⟨by omega, h⟩, fun h => h.2⟩
        · rw [if_neg e, hk]
          exact ⟨fun h => ⟨by omega, h.2⟩, fun h => ⟨by omega, h.2⟩⟩)
      obtain ⟨C', h3, h4⟩ := ih
      exact ⟨C', (upd_ap (hs R j) hC (gCyclic_loop0 n m l ((l.length : Nat) : Int) ((j + 1 : Nat) : Int))).trans h3, h4⟩
    · obtain rfl : j = l.length := by omega
      refine ⟨C, ?_, hC, hk⟩
      rw [decide_eq_false (by omega), cond_false]
      rfl
theorem gCyclic_spec (n : Nat) (l : List MD) (hl : SmL l) (hn : 100000 < n) : ∃ L, gCyclic_t n l = some (iL L) ∧ (chkS l ≠ 0 → L = []) ∧ (chkS l = 0 → IsF l.length (fun k => Dep l.length (adj l) k k) L) := by
  unfold gCyclic_t
  rw [gCheck_spec n l hl hn, Option.bind_some]
  by_cases c : chkS l = 0
  · have h12 := chk_len c
    obtain ⟨C, h1, h2, h3⟩ := gCyclic_loop n l hl h12 hn n 0 M0 (Nat.zero_le _) (by omega) rfl (fun k => by rw [hs_M0]; simp)
    have h1' : gCyclic_loop0 n n l ((l.length : Nat) : Int) (0 : Int) false false false false false false false false false false false false = some (((), ()), ((P12 C, ()), ())) := h1
    have hp := gPlaces_spec n C h2 (by omega) h12 (fun q hq => ((h3 q).1 hq).1)
    refine ⟨_, ?_, fun h => absurd c h, fun _ => ⟨hs C, rfl, fun k hk => by rw [h3]; exact ⟨fun h => h.2, fun h => ⟨hk, h⟩⟩⟩⟩
    rw [decide_eq_true c, Bool.not_true, cond_false, h1', Option.bind_some]
    show (ap12 (gPlaces_t n ()) C).bind _ = _
    rw [hp, Option.bind_some]
  · exact ⟨[], by rw [decide_eq_false c, Bool.not_false, cond_true]; rfl, fun _ => rfl, fun h => absurd h c⟩

/-! Up -/
/-- those that are among some, or depend on one of them -/
def UpP (l : List MD) (from_ : List Int) (k : Nat) : Prop := ∃ i : Nat, (i : Int) ∈ from_ ∧ i < l.length ∧ (k = i ∨ Dep l.length (adj l) k i)
theorem UpP.snoc {l : List MD} {f : List Int} {x : Int} {k : Nat} : UpP l (f ++ [x]) k ↔ UpP l f k ∨ ∃ i : Nat, x = (i : Int) ∧ i < l.length ∧ (k = i ∨ Dep l.length (adj l) k i) := by
  constructor
  · rintro ⟨i, h1, h2, h3⟩
    rcases List.mem_append.1 h1 with h1 | h1
    · exact Or.inl ⟨i, h1, h2, h3⟩
    · exact Or.inr ⟨i, (List.mem_singleton.1 h1).symm, h2, h3⟩
  · rintro (⟨i, h1, h2, h3⟩ | ⟨i, rfl, h2, h3⟩)
    · exact ⟨i, List.mem_append.2 (Or.inl h1), h2, h3⟩
    · exact ⟨i, List.mem_append.2 (Or.inr (List.mem_singleton.2 rfl)), h2, h3⟩
theorem UpP.lt {l : List MD} {f : List Int} {k : Nat} (h : UpP l f k) : k < l.length := by
  obtain ⟨i, _, h2, rfl | h3⟩ := h
  · exact h2
  · exact h3.lt.1
theorem gUp_loop (n : Nat) (l : List MD) (f : List Int) (hl : SmL l) (hl12 : l.length ≤ 12) (hf : f.length ≤ 1000) (hn : 100000 < n) : ∀ m j M, j ≤ f.length → f.length - j < m → M.length = 12 → Closed l.length (adj l) M → (∀ k, hs M k = true ↔ UpP l (f.take j) k) →
    ∃ M', ap12 (gUp_loop0 n m l f ((f.length : Nat) : Int) (j : Int)) M = some (((), ()), ((P12 M', ()), ())) ∧ M'.length = 12 ∧ ∀ k, hs M' k = true ↔ UpP l f k
  | 0, j, _, _, h, _, _, _ => absurd h (Nat.not_lt_zero _)
  | m + 1, j, M, hj, h, hM, hcl, hk => by
    unfold ap12
    rw [gUp_loop0_succ]
    unfold gUp_l0
    by_cases c : j < f.length
    · have htk : f.take (j + 1) = f.take j ++ [f[j]] := List.take_succ_eq_append_getElem c
      rw [decide_eq_true (by omega), cond_true, idx_lt c, Option.bind_some]
      have skip : ∀ (hno : ∀ k, (∃ i : Nat, f[j] = (i : Int) ∧ i < l.length ∧ (k = i ∨ Dep l.length (adj l) k i)) → hs M k = true), ∀ k, hs M k = true ↔ UpP l (f.take (j + 1)) k := fun hno k => by
        rw [htk, UpP.snoc, ← hk]
        exact ⟨fun h => Or.inl h, fun h => h.elim id (hno k)⟩
      unfold gIsPl_t
      by_cases h0 : 0 ≤ f[j]
      · rw [decide_eq_true h0, cond_true, Option.bind_some]
        by_cases h1 : f[j] < (l.length : Int)
        · obtain ⟨i, hi⟩ := Int.eq_ofNat_of_zero_le h0
          have hil : i < l.length := by omega
          rw [decide_eq_true h1, cond_true, hi, inA_nat (by omega), cond_true, lit12 hM, Int.toNat_natCast, nth_hs (by omega), Option.bind_some]
          cases hsi : hs M i with
          | true =>
            rw [Bool.not_true, cond_false, letO_eq, wrap_succ (by omega)]
            refine gUp_loop n l f hl hl12 hf hn m (j + 1) M (by omega) (by omega) hM hcl (skip fun k => ?_)
            rintro ⟨i', e1, e2, e3⟩
            obtain rfl : i' = i := by omega
            rcases e3 with rfl | e3
            · exact hsi
            · exact closed_has hcl hsi e3
          | false =>
            have hlt := cnt_lt (M.set i true)
            rw [List.length_set] at hlt
            obtain ⟨R, h2, h3⟩ := climb_spec n l hl hl12 hn n i (M.set i true) (by rw [List.length_set]; exact hM) (by omega) hil
            obtain ⟨h4, h5⟩ := climb_closed hcl (by omega) h3
            have hR : R.length = 12 := by rw [h3.len, List.length_set]; exact hM
            obtain ⟨M', h6, h7⟩ := gUp_loop n l f hl hl12 hf hn m (j + 1) R (by omega) (by omega) hR h4 (fun k => by
              rw [htk, UpP.snoc, ← hk, h5]
              constructor
              · rintro (e | e)
                · exact Or.inl e
                · exact Or.inr ⟨i, hi, hil, e⟩
              · rintro (e | ⟨i', e1, e2, e3⟩)
                · exact Or.inl e
                · obtain rfl : i' = i := by omega
                  exact Or.inr e3)
            refine ⟨M', ?_, h7⟩
            rw [Bool.not_false, cond_true, cond_true, cond_true]
            have h8 := (upd_ap true hM (gClimbD n n l (i : Int) ())).trans h2
            rw [h8, Option.bind_some, letO_eq, wrap_succ (by omega)]
            exact h6
        · rw [decide_eq_false h1, cond_false, letO_eq, wrap_succ (by omega)]
          refine gUp_loop n l f hl hl12 hf hn m (j + 1) M (by omega) (by omega) hM hcl (skip fun k => ?_)
          rintro ⟨i', e1, e2, e3⟩
          omega
      · rw [decide_eq_false h0, cond_false, Option.bind_some, cond_false, letO_eq, wrap_succ (by omega)]
        refine gUp_loop n l f hl hl12 hf hn m (j + 1) M (by omega) (by omega) hM hcl (skip fun k => ?_)
        rintro ⟨i', e1, e2, e3⟩
        omega
    · obtain rfl : j = f.length := by omega
      rw [List.take_length] at hk
      refine ⟨M, ?_, hM, hk⟩
      rw [decide_eq_false (by omega), cond_false]
      rfl
theorem gUp_spec (n : Nat) (l : List MD) (f : List Int) (hl : SmL l) (hf : f.length ≤ 1000) (hn : 100000 < n) : ∃ L, gUp_t n l f = some (iL L) ∧ (chkS l ≠ 0 → L = []) ∧ (chkS l = 0 → IsF l.length (UpP l f) L) := by
  unfold gUp_t
  rw [gCheck_spec n l hl hn, Option.bind_some]
  by_cases c : chkS l = 0
  · have h12 := chk_len c
    obtain ⟨C, h1, h2, h3⟩ := gUp_loop n l f hl h12 hf hn n 0 M0 (Nat.zero_le _) (by omega) rfl (fun k hk => by rw [hs_M0] at hk; cases hk) (fun k => by
      rw [hs_M0, List.take_zero]
      exact ⟨fun h => (by cases h), fun ⟨i, h1, _⟩ => (by cases h1)⟩)
    have h1' : gUp_loop0 n n l f ((f.length : Nat) : Int) (0 : Int) false false false false false false false false false false false false = some (((), ()), ((P12 C, ()), ())) := h1
    have hp := gPlaces_spec n C h2 (by omega) h12 (fun q hq => ((h3 q).1 hq).lt)
    refine ⟨_, ?_, fun h => absurd c h, fun _ => ⟨hs C, rfl, fun k hk => h3 k⟩⟩
    rw [decide_eq_true c, Bool.not_true, cond_false, h1', Option.bind_some]
    show (ap12 (gPlaces_t n ()) C).bind _ = _
    rw [hp, Option.bind_some]
  · exact ⟨[], by rw [decide_eq_false c, Bool.not_false, cond_true]; rfl, fun _ => rfl, fun h => absurd h c⟩
end Go.Proofs.YtgdlfnlakfahcaaDoor.AM

/- Layer 8: the answers that the laws begin with. -/
namespace Go.Proofs.YtgdlfnlakfahcaaDoor.AM
open Go.RowKit
set_option linter.unusedVariables false
set_option linter.unusedSimpArgs false
end Go.Proofs.YtgdlfnlakfahcaaDoor.AM

/- Layer 8: the document's answer: majors, and whether a version fits. -/
namespace Go.Proofs.YtgdlfnlakfahcaaDoor.AM
open Go.RowKit
set_option linter.unusedVariables false
set_option linter.unusedSimpArgs false
/-! digits that begin with no zero -/
/-! the document's functions -/
end Go.Proofs.YtgdlfnlakfahcaaDoor.AM

/- Layer 16: what the document's functions come to. -/
namespace Go.Proofs.YtgdlfnlakfahcaaDoor.AM
open Go.RowKit Gr
set_option linter.unusedVariables false
set_option linter.unusedSimpArgs false

/-! Check -/
/-! requires, Edges -/
/-! In, all, Same -/
theorem r16Same_loop (n : Nat) (a b : List Int) (hab : a.length = b.length) (ha : a.length ≤ 100000) : ∀ m j : Nat, j ≤ a.length → a.length - j < m →
    r16Same_loop0 n m a b (j : Int) = some (if a.drop j = b.drop j then Sum.inr ((), ((), ())) else Sum.inl ((false, ()), ((), ())))
  | 0, j, _, h => absurd h (Nat.not_lt_zero _)
  | m + 1, j, hj, h => by
    rw [r16Same_loop0_succ]
    unfold r16Same_l0
    by_cases c : j < a.length
    · have c' : j < b.length := by omega
      rw [decide_eq_true (by omega), cond_true, idx_lt c, Option.bind_some, idx_lt c', Option.bind_some, List.drop_eq_getElem_cons c, List.drop_eq_getElem_cons c']
      by_cases e : a[j] = b[j]
      · rw [decide_eq_true e, Bool.not_true, cond_false, letO_eq, wrap_succ (by omega), e]
        refine (r16Same_loop n a b hab ha m (j + 1) (by omega) (by omega)).trans ?_
        by_cases hd : a.drop (j + 1) = b.drop (j + 1)
        · rw [if_pos hd, if_pos (by rw [hd])]
        · rw [if_neg hd, if_neg (fun h => hd (List.cons.inj h).2)]
      · rw [decide_eq_false e, Bool.not_false, cond_true, if_neg (fun h => e (List.cons.inj h).1)]
    · obtain rfl : j = a.length := by omega
      rw [decide_eq_false (by omega), cond_false, List.drop_length, hab, List.drop_length, if_pos rfl]
theorem r16Same_spec (n : Nat) (a b : List Int) (ha : a.length ≤ 100000) (hb : b.length ≤ 100000) (hn : 100000 < n) : r16Same_t n a b = some (decide (a = b)) := by
  unfold r16Same_t
  by_cases hab : a.length = b.length
  · have h : r16Same_loop0 n n a b (0 : Int) = some (if a = b then Sum.inr ((), ((), ())) else Sum.inl ((false, ()), ((), ()))) := r16Same_loop n a b hab ha n 0 (Nat.zero_le _) (by omega)
    rw [decide_eq_true (by omega), Bool.not_true, cond_false, h, Option.bind_some]
    by_cases e : a = b
    · rw [if_pos e, decide_eq_true e]; rfl
    · rw [if_neg e, decide_eq_false e]; rfl
  · rw [decide_eq_false (by omega), Bool.not_false, cond_true, decide_eq_false (fun e => hab (congrArg List.length e))]

/-! Down, Cyclic, Up -/
/-! Order -/
/-! Small -/
def Sml (l : List MD) : Prop := l.length ≤ 20 ∧ ∀ m ∈ l, m.2.1.length ≤ 200 ∧ m.1.length ≤ 200 ∧ m.2.2.length ≤ 30 ∧ ∀ r ∈ m.2.2, r.1.length ≤ 200 ∧ r.2.2.2.2.1.length ≤ 200 ∧ r.2.2.2.2.2.length ≤ 200
theorem r16Small_loopI (n : Nat) (l : List MD) (i : Nat) (hi : i < l.length) (h30 : l[i].2.2.length ≤ 30) (a4 : List MD) (a5 : Int) (a6 : List UInt8) (a7 : Int) (a8 : Bool) (a9 : List MD) (a10 : Int) (a11 : List RD) (a12 : Int) (a13 : Bool) : ∀ m j : Nat, j ≤ l[i].2.2.length → l[i].2.2.length - j < m →
    (r16Small_loop1 n m l (i : Int) (j : Int) a4 a5 a6 a7 a8 a9 a10 a11 a12 a13 = some (Sum.inl ((false, ()), ((), ())))) ∨
    (r16Small_loop1 n m l (i : Int) (j : Int) a4 a5 a6 a7 a8 a9 a10 a11 a12 a13 = some (Sum.inr ((l, ((i : Int), (a4, (a5, (a6, (a7, (a8, (a9, (a10, (a11, (a12, (a13, ())))))))))))), ((), ()))) ∧ ∀ r ∈ l[i].2.2.drop j, r.1.length ≤ 200 ∧ r.2.2.2.2.1.length ≤ 200 ∧ r.2.2.2.2.2.length ≤ 200)
  | 0, j, _, h => absurd h (Nat.not_lt_zero _)
  | m + 1, j, hj, h => by
    rw [r16Small_loop1_succ]
    unfold r16Small_l1
    rw [idx_lt hi, Option.bind_some]
    by_cases c : j < l[i].2.2.length
    · rw [decide_eq_true (by omega), cond_true, Option.bind_some, idx_lt c, Option.bind_some]
      by_cases h1 : 200 < l[i].2.2[j].1.length
      · rw [decide_eq_true (by omega), cond_true]; exact Or.inl rfl
      · rw [decide_eq_false (by omega), cond_false]
        by_cases h2 : 200 < l[i].2.2[j].2.2.2.2.1.length
        · rw [decide_eq_true (by omega), cond_true]; exact Or.inl rfl
        · rw [decide_eq_false (by omega), cond_false]
          by_cases h3 : 200 < l[i].2.2[j].2.2.2.2.2.length
          · rw [decide_eq_true (by omega), cond_true]; exact Or.inl rfl
          · rw [decide_eq_false (by omega), cond_false, letO_eq, wrap_succ (by omega)]
            rcases r16Small_loopI n l i hi h30 a4 a5 a6 a7 a8 a9 a10 a11 a12 a13 m (j + 1) (by omega) (by omega) with h4 | ⟨h4, h5⟩
            · exact Or.inl h4
            · refine Or.inr ⟨h4, fun r hr => ?_⟩
              rw [List.drop_eq_getElem_cons c] at hr
              rcases List.mem_cons.1 hr with rfl | hr
              · exact ⟨by omega, by omega, by omega⟩
              · exact h5 r hr
    · obtain rfl : j = l[i].2.2.length := by omega
      rw [decide_eq_false (by omega), cond_false]
      exact Or.inr ⟨rfl, fun r hr => by rw [List.drop_length] at hr; cases hr⟩
theorem wrap_big {i : Nat} (h : i + 1 ≤ 9223372036854775807) : IntKind.wrap .i64 ((i : Int) + 1) = ((i + 1 : Nat) : Int) := by rw [wrap64 (by omega) (by omega)]; rfl
theorem r16Small_loop (n : Nat) (l : List MD) (hl : l.length ≤ 9223372036854775807) (hn : 100000 < n) : ∀ m j : Nat, j ≤ l.length → l.length - j < m →
    (r16Small_loop0 n m l (j : Int) = some (Sum.inl ((false, ()), ((), ())))) ∨
    (r16Small_loop0 n m l (j : Int) = some (Sum.inr ((l, ()), ((), ()))) ∧ ∀ x ∈ l.drop j, x.2.1.length ≤ 200 ∧ x.1.length ≤ 200 ∧ x.2.2.length ≤ 30 ∧ ∀ r ∈ x.2.2, r.1.length ≤ 200 ∧ r.2.2.2.2.1.length ≤ 200 ∧ r.2.2.2.2.2.length ≤ 200)
  | 0, j, _, h => absurd h (Nat.not_lt_zero _)
  | m + 1, j, hj, h => by
    rw [r16Small_loop0_succ]
    unfold r16Small_l0
    by_cases c : j < l.length
    · rw [decide_eq_true (by omega), cond_true, idx_lt c, Option.bind_some]
      by_cases h1 : 200 < l[j].2.1.length
      · rw [decide_eq_true (by omega), cond_true]; exact Or.inl rfl
      · rw [decide_eq_false (by omega), cond_false, Option.bind_some]
        by_cases h2 : 200 < l[j].1.length
        · rw [decide_eq_true (by omega), cond_true]; exact Or.inl rfl
        · rw [decide_eq_false (by omega), cond_false, Option.bind_some]
          by_cases h3 : 30 < l[j].2.2.length
          · rw [decide_eq_true (by omega), cond_true]; exact Or.inl rfl
          · rw [decide_eq_false (by omega), cond_false]
            rcases r16Small_loopI n l j c (by omega) l (j : Int) l[j].1 ((l[j].1.length : Nat) : Int) false l (j : Int) l[j].2.2 ((l[j].2.2.length : Nat) : Int) false n 0 (Nat.zero_le _) (by omega) with h4 | ⟨h4, h5⟩
            · rw [show (0 : Int) = ((0 : Nat) : Int) from rfl, h4, Option.bind_some]; exact Or.inl rfl
            · rw [show (0 : Int) = ((0 : Nat) : Int) from rfl, h4, Option.bind_some]
              show (letO (IntKind.wrap .i64 ((j : Int) + 1)) (fun n11 => r16Small_loop0 n m l n11) = _) ∨ (letO (IntKind.wrap .i64 ((j : Int) + 1)) (fun n11 => r16Small_loop0 n m l n11) = _ ∧ _)
              rw [letO_eq, wrap_big (by omega)]
              rcases r16Small_loop n l hl hn m (j + 1) (by omega) (by omega) with h6 | ⟨h6, h7⟩
              · exact Or.inl h6
              · refine Or.inr ⟨h6, fun x hx => ?_⟩
                rw [List.drop_eq_getElem_cons c] at hx
                rcases List.mem_cons.1 hx with rfl | hx
                · exact ⟨by omega, by omega, by omega, h5⟩
                · exact h7 x hx
    · obtain rfl : j = l.length := by omega
      rw [decide_eq_false (by omega), cond_false]
      exact Or.inr ⟨rfl, fun r hr => by rw [List.drop_length] at hr; cases hr⟩
theorem r16Small_spec (n : Nat) (l : List MD) (hl : l.length ≤ 9223372036854775807) (hn : 9223372036854775807 < n) : ∃ b, r16Small_t n l = some b ∧ (b = true → Sml l) := by
  unfold r16Small_t
  rcases r16Small_loop n l hl (by omega) n 0 (Nat.zero_le _) (by omega) with h | ⟨h, h2⟩
  · rw [show (0 : Int) = ((0 : Nat) : Int) from rfl, h, Option.bind_some]
    exact ⟨false, rfl, fun h => by cases h⟩
  · rw [show (0 : Int) = ((0 : Nat) : Int) from rfl, h, Option.bind_some]
    exact ⟨_, rfl, fun h3 => ⟨by
      have h4 : ((l.length : Nat) : Int) ≤ 20 := of_decide_eq_true h3
      omega, fun m hm => h2 m (by rw [List.drop_zero]; exact hm)⟩⟩
theorem Sml.sm {l : List MD} (h : Sml l) : SmL l := ⟨h.1, fun m hm => ⟨(h.2 m hm).1, by have := (h.2 m hm).2.2.1; omega⟩⟩
end Go.Proofs.YtgdlfnlakfahcaaDoor.AM

/- Layer 16, the laws: what functions come to, as plain functions of data: written by program (shal.py); the kernel checks it. -/
namespace Go.Proofs.YtgdlfnlakfahcaaDoor.AM
open Go.RowKit
set_option linter.unusedVariables false
set_option maxRecDepth 20000
/-! armada/armadalaw16.live -/
def l16live_lts (n : Nat) : List LC := []
def l16live_t (n : Nat)  : Option (Bool) :=
  (gOrder_t n ([(([] : List UInt8), (([101, 120, 47, 99] : List UInt8), ([(([101, 120, 47, 98] : List UInt8), ((0 : Int), ((0 : Int), ((0 : Int), (([] : List UInt8), ([] : List UInt8))))))] : List (List UInt8 × ((Int) × ((Int) × ((Int) × (List UInt8 × (List UInt8))))))))), (([] : List UInt8), (([101, 120, 47, 98] : List UInt8), ([(([101, 120, 47, 97] : List UInt8), ((0 : Int), ((0 : Int), ((0 : Int), (([] : List UInt8), ([] : List UInt8)))))), (([111, 116, 104, 101, 114] : List UInt8), ((0 : Int), ((0 : Int), ((0 : Int), (([] : List UInt8), ([] : List UInt8))))))] : List (List UInt8 × ((Int) × ((Int) × ((Int) × (List UInt8 × (List UInt8))))))))), (([] : List UInt8), (([101, 120, 47, 97] : List UInt8), []))] : List (List UInt8 × (List UInt8 × (List (List UInt8 × ((Int) × ((Int) × ((Int) × (List UInt8 × (List UInt8))))))))))).bind fun (r1 : (List (Int)) × (Int)) => (gOrder_t n ([(([] : List UInt8), (([101, 120, 47, 97] : List UInt8), [])), (([] : List UInt8), (([101, 120, 47, 100] : List UInt8), ([(([101, 120, 47, 100] : List UInt8), ((0 : Int), ((0 : Int), ((0 : Int), (([] : List UInt8), ([] : List UInt8))))))] : List (List UInt8 × ((Int) × ((Int) × ((Int) × (List UInt8 × (List UInt8)))))))))] : List (List UInt8 × (List UInt8 × (List (List UInt8 × ((Int) × ((Int) × ((Int) × (List UInt8 × (List UInt8))))))))))).bind fun (r2 : (List (Int)) × (Int)) => (gOrder_t n ([(([] : List UInt8), (([101, 120, 47, 97] : List UInt8), [])), (([] : List UInt8), (([101, 120, 47, 97] : List UInt8), []))] : List (List UInt8 × (List UInt8 × (List (List UInt8 × ((Int) × ((Int) × ((Int) × (List UInt8 × (List UInt8))))))))))).bind fun (r3 : (List (Int)) × (Int)) => (bif decide (r1.2 = (0 : Int)) then (r16Same_t n r1.1 ([(2 : Int), (1 : Int), (0 : Int)] : List (Int))).bind fun (r4 : Bool) => (bif r4 then (bif decide (r2.2 = (12 : Int)) then (bif decide (r3.2 = (11 : Int)) then ((gEdges_fc n).F (([(([] : List UInt8), (([101, 120, 47, 99] : List UInt8), ([(([101, 120, 47, 98] : List UInt8), ((0 : Int), ((0 : Int), ((0 : Int), (([] : List UInt8), ([] : List UInt8))))))] : List (List UInt8 × ((Int) × ((Int) × ((Int) × (List UInt8 × (List UInt8))))))))), (([] : List UInt8), (([101, 120, 47, 98] : List UInt8), ([(([101, 120, 47, 97] : List UInt8), ((0 : Int), ((0 : Int), ((0 : Int), (([] : List UInt8), ([] : List UInt8)))))), (([111, 116, 104, 101, 114] : List UInt8), ((0 : Int), ((0 : Int), ((0 : Int), (([] : List UInt8), ([] : List UInt8))))))] : List (List UInt8 × ((Int) × ((Int) × ((Int) × (List UInt8 × (List UInt8))))))))), (([] : List UInt8), (([101, 120, 47, 97] : List UInt8), []))] : List (List UInt8 × (List UInt8 × (List (List UInt8 × ((Int) × ((Int) × ((Int) × (List UInt8 × (List UInt8)))))))))), (0 : Int))).bind fun (r5 : List (Int)) => (r16Same_t n r5 ([(1 : Int)] : List (Int))).bind fun (r6 : Bool) => (bif r6 then (gUp_t n ([(([] : List UInt8), (([101, 120, 47, 99] : List UInt8), ([(([101, 120, 47, 98] : List UInt8), ((0 : Int), ((0 : Int), ((0 : Int), (([] : List UInt8), ([] : List UInt8))))))] : List (List UInt8 × ((Int) × ((Int) × ((Int) × (List UInt8 × (List UInt8))))))))), (([] : List UInt8), (([101, 120, 47, 98] : List UInt8), ([(([101, 120, 47, 97] : List UInt8), ((0 : Int), ((0 : Int), ((0 : Int), (([] : List UInt8), ([] : List UInt8)))))), (([111, 116, 104, 101, 114] : List UInt8), ((0 : Int), ((0 : Int), ((0 : Int), (([] : List UInt8), ([] : List UInt8))))))] : List (List UInt8 × ((Int) × ((Int) × ((Int) × (List UInt8 × (List UInt8))))))))), (([] : List UInt8), (([101, 120, 47, 97] : List UInt8), []))] : List (List UInt8 × (List UInt8 × (List (List UInt8 × ((Int) × ((Int) × ((Int) × (List UInt8 × (List UInt8)))))))))) ([(2 : Int), (7 : Int)] : List (Int))).bind fun (r7 : List (Int)) => (r16Same_t n r7 ([(0 : Int), (1 : Int), (2 : Int)] : List (Int))).bind fun (r8 : Bool) => (bif r8 then (gUp_t n ([(([] : List UInt8), (([101, 120, 47, 99] : List UInt8), ([(([101, 120, 47, 98] : List UInt8), ((0 : Int), ((0 : Int), ((0 : Int), (([] : List UInt8), ([] : List UInt8))))))] : List (List UInt8 × ((Int) × ((Int) × ((Int) × (List UInt8 × (List UInt8))))))))), (([] : List UInt8), (([101, 120, 47, 98] : List UInt8), ([(([101, 120, 47, 97] : List UInt8), ((0 : Int), ((0 : Int), ((0 : Int), (([] : List UInt8), ([] : List UInt8)))))), (([111, 116, 104, 101, 114] : List UInt8), ((0 : Int), ((0 : Int), ((0 : Int), (([] : List UInt8), ([] : List UInt8))))))] : List (List UInt8 × ((Int) × ((Int) × ((Int) × (List UInt8 × (List UInt8))))))))), (([] : List UInt8), (([101, 120, 47, 97] : List UInt8), []))] : List (List UInt8 × (List UInt8 × (List (List UInt8 × ((Int) × ((Int) × ((Int) × (List UInt8 × (List UInt8)))))))))) ([(0 : Int)] : List (Int))).bind fun (r9 : List (Int)) => (r16Same_t n r9 ([(0 : Int)] : List (Int))).bind fun (r10 : Bool) => (bif r10 then (gCyclic_t n ([(([] : List UInt8), (([101, 120, 47, 97] : List UInt8), [])), (([] : List UInt8), (([101, 120, 47, 100] : List UInt8), ([(([101, 120, 47, 100] : List UInt8), ((0 : Int), ((0 : Int), ((0 : Int), (([] : List UInt8), ([] : List UInt8))))))] : List (List UInt8 × ((Int) × ((Int) × ((Int) × (List UInt8 × (List UInt8)))))))))] : List (List UInt8 × (List UInt8 × (List (List UInt8 × ((Int) × ((Int) × ((Int) × (List UInt8 × (List UInt8))))))))))).bind fun (r11 : List (Int)) => (r16Same_t n r11 ([(1 : Int)] : List (Int))).bind fun (r12 : Bool) => (bif r12 then (gCheck_t n ([(([] : List UInt8), (([101, 120, 47, 99] : List UInt8), ([(([101, 120, 47, 98] : List UInt8), ((0 : Int), ((0 : Int), ((0 : Int), (([] : List UInt8), ([] : List UInt8))))))] : List (List UInt8 × ((Int) × ((Int) × ((Int) × (List UInt8 × (List UInt8))))))))), (([] : List UInt8), (([101, 120, 47, 98] : List UInt8), ([(([101, 120, 47, 97] : List UInt8), ((0 : Int), ((0 : Int), ((0 : Int), (([] : List UInt8), ([] : List UInt8)))))), (([111, 116, 104, 101, 114] : List UInt8), ((0 : Int), ((0 : Int), ((0 : Int), (([] : List UInt8), ([] : List UInt8))))))] : List (List UInt8 × ((Int) × ((Int) × ((Int) × (List UInt8 × (List UInt8))))))))), (([] : List UInt8), (([101, 120, 47, 97] : List UInt8), []))] : List (List UInt8 × (List UInt8 × (List (List UInt8 × ((Int) × ((Int) × ((Int) × (List UInt8 × (List UInt8))))))))))).bind fun (r13 : Int) => (bif decide (r13 = (0 : Int)) then (gCheck_t n ([(([] : List UInt8), (([] : List UInt8), []))] : List (List UInt8 × (List UInt8 × (List (List UInt8 × ((Int) × ((Int) × ((Int) × (List UInt8 × (List UInt8))))))))))).bind fun (r14 : Int) => some (decide (r14 = (6 : Int))) else some false) else some false) else some false) else some false) else some false) else some false) else some false) else some false) else some false)
def l16live_fc (n : Nat) : FC := { f := 5, args := [], res := .one (.c (.d .bool)), F := fun p => l16live_t n  }
def l16live_ct (n : Nat) : List FC := [gOrder_fc n, r16Same_fc n, gEdges_fc n, gUp_fc n, gCyclic_fc n, gCheck_fc n]
theorem l16live_ctok (n : Nat) {G : World → Prop} (hG : Know Inv G) : ∀ c ∈ l16live_ct n, FCok Tryd.prog G c ∧ noTup c.args = true := List.forall_mem_cons.2 ⟨gOrder_ok n G hG, List.forall_mem_cons.2 ⟨r16Same_ok n G hG, List.forall_mem_cons.2 ⟨gEdges_ok n G hG, List.forall_mem_cons.2 ⟨gUp_ok n G hG, List.forall_mem_cons.2 ⟨gCyclic_ok n G hG, List.forall_mem_cons.2 ⟨gCheck_ok n G hG, (fun _ h => by cases h)⟩⟩⟩⟩⟩⟩
def l16live_dh : Hints := [(2000005, [⟨0, 2392064, 0⟩])]
theorem l16live_dr : drB l16live_dh (bodyOf Tryd.f5) = true := by kernel_rfl
theorem l16live_eq (n : Nat) : ∀ a, (l16live_fc n).F a = main Tryd.prog 100 (l16live_ct n) (l16live_lts n) l16live_dh (bodyOf Tryd.f5) [.tmp 0] (l16live_fc n).args (l16live_fc n).res a := by intro a; kernel_rfl
theorem l16live_ok (n : Nat) : FCall Inv Tryd.prog (l16live_fc n) := fun G hG => ⟨⟨by kernel_rfl, fun a r h => main_ok (c := bodyOf Tryd.f5) Tryd.func5 (by kernel_rfl) (by kernel_rfl) (Nat.le_of_ble_eq_true (by kernel_rfl)) hG.st (by kernel_rfl) (rs := [.tmp 0]) (by kernel_rfl) (l16live_ctok n hG) (lts := l16live_lts n) (fun F hF hFG => have hK : Know Inv F.G := hFG ▸ hG; (lok_of fun j L h1 h2 h3 => absurd h2 (Nat.not_lt.2 (Nat.le_trans (by decide +kernel) h1)))) l16live_dr ((l16live_eq n a).symm.trans h)⟩, rfl⟩
/-! armada/armadalaw16.GraphNames -/
@[reducible] def l16Names_sh1 : SSt := ⟨[(0, .one (.c (.d (.lst (.prod .str (.prod .str (.lst (.prod .str (.prod (.int .i64) (.prod (.int .i64) (.prod (.int .i64) (.prod .str .str)))))))))))), (2, .one (.c (.d (.lst (.int .i64))))), (4, .one (.c (.box 4 0))), (7, .one (.c (.row 82))), (8, .one (.c (.d (.int .i64)))), (9, .one (.c (.box 9 0))), (10, .one (.c (.d (.int .i64))))], [(4, (24, [.d (.int .i64), .d (.int .i64), .d (.int .i64), .d .str, .d .str])), (9, (30, [.d .str, .d .str, .row 71]))], [(71, ⟨32, true, (.prod .str (.prod (.int .i64) (.prod (.int .i64) (.prod (.int .i64) (.prod .str .str)))))⟩), (82, ⟨30, true, (.prod .str (.prod .str (.lst (.prod .str (.prod (.int .i64) (.prod (.int .i64) (.prod (.int .i64) (.prod .str .str))))))))⟩)]⟩
@[reducible] def l16Names_outs1 : List (Exit × SSt) := [(.exit 2, ⟨[(0, .one (.c (.d (.lst (.prod .str (.prod .str (.lst (.prod .str (.prod (.int .i64) (.prod (.int .i64) (.prod (.int .i64) (.prod .str .str)))))))))))), (2, .one (.c (.d (.lst (.int .i64))))), (4, .one (.c (.box 4 0))), (7, .one (.c (.row 82))), (8, .one (.c (.d (.int .i64)))), (9, .one (.c (.box 9 0)))], [(4, (24, [.d (.int .i64), .d (.int .i64), .d (.int .i64), .d .str, .d .str])), (9, (30, [.d .str, .d .str, .row 71]))], [(71, ⟨32, true, (.prod .str (.prod (.int .i64) (.prod (.int .i64) (.prod (.int .i64) (.prod .str .str)))))⟩), (82, ⟨30, true, (.prod .str (.prod .str (.lst (.prod .str (.prod (.int .i64) (.prod (.int .i64) (.prod (.int .i64) (.prod .str .str))))))))⟩)]⟩)]
def l16Names_l1 (n : Nat) (rec : (List (List UInt8 × (List UInt8 × (List (List UInt8 × ((Int) × ((Int) × ((Int) × (List UInt8 × (List UInt8)))))))))) → (List (Int)) → Int → Int → Int → Int → Int → (List UInt8) → (List UInt8) → (List UInt8) → (List UInt8) → (List (List UInt8 × ((Int) × ((Int) × ((Int) × (List UInt8 × (List UInt8))))))) → (List (List UInt8 × (List UInt8 × (List (List UInt8 × ((Int) × ((Int) × ((Int) × (List UInt8 × (List UInt8)))))))))) → Option (((List (List UInt8 × (List UInt8 × (List (List UInt8 × ((Int) × ((Int) × ((Int) × (List UInt8 × (List UInt8)))))))))) × ((List (Int)) × (Unit × (Unit × (Int × (Unit × (Unit))))))) × ((Int × (Int × (Int × ((List UInt8) × (List UInt8))))) × (((List UInt8) × ((List UInt8) × (Unit))) × (Unit))) × ((List (List UInt8 × ((Int) × ((Int) × ((Int) × (List UInt8 × (List UInt8))))))) × ((List (List UInt8 × (List UInt8 × (List (List UInt8 × ((Int) × ((Int) × ((Int) × (List UInt8 × (List UInt8)))))))))) × (Unit))))) (a1 : List (List UInt8 × (List UInt8 × (List (List UInt8 × ((Int) × ((Int) × ((Int) × (List UInt8 × (List UInt8)))))))))) (a2 : List (Int)) (a3 : Int) (a4 : Int) (a5 : Int) (a6 : Int) (a7 : Int) (a8 : List UInt8) (a9 : List UInt8) (a10 : List UInt8) (a11 : List UInt8) (a12 : List (List UInt8 × ((Int) × ((Int) × ((Int) × (List UInt8 × (List UInt8))))))) (a13 : List (List UInt8 × (List UInt8 × (List (List UInt8 × ((Int) × ((Int) × ((Int) × (List UInt8 × (List UInt8)))))))))) : Option (((List (List UInt8 × (List UInt8 × (List (List UInt8 × ((Int) × ((Int) × ((Int) × (List UInt8 × (List UInt8)))))))))) × ((List (Int)) × (Unit × (Unit × (Int × (Unit × (Unit))))))) × ((Int × (Int × (Int × ((List UInt8) × (List UInt8))))) × (((List UInt8) × ((List UInt8) × (Unit))) × (Unit))) × ((List (List UInt8 × ((Int) × ((Int) × ((Int) × (List UInt8 × (List UInt8))))))) × ((List (List UInt8 × (List UInt8 × (List (List UInt8 × ((Int) × ((Int) × ((Int) × (List UInt8 × (List UInt8)))))))))) × (Unit)))) :=
  (idxL a1 a3).bind fun (x7 : List UInt8 × (List UInt8 × (List (List UInt8 × ((Int) × ((Int) × ((Int) × (List UInt8 × (List UInt8))))))))) => (bif decide (a4 < ((List.length x7.2.2 : Nat) : Int)) then (idxL a1 a3).bind fun (x8 : List UInt8 × (List UInt8 × (List (List UInt8 × ((Int) × ((Int) × ((Int) × (List UInt8 × (List UInt8))))))))) => (idxL x8.2.2 a4).bind fun (x9 : List UInt8 × ((Int) × ((Int) × ((Int) × (List UInt8 × (List UInt8)))))) => (appO 72 a12 ([(x9.1, (a5, (a6, (a7, (a8, a9)))))] : List (List UInt8 × ((Int) × ((Int) × ((Int) × (List UInt8 × (List UInt8)))))))).bind fun (l10 : List (List UInt8 × ((Int) × ((Int) × ((Int) × (List UInt8 × (List UInt8))))))) => letO (IntKind.wrap .i64 (a4 + (1 : Int))) fun (n11 : Int) => rec a1 a2 a3 n11 a5 a6 a7 a8 a9 a10 a11 l10 a13 else some (((a1, (a2, ((), ((), (a3, ((), ())))))), (((a5, (a6, (a7, (a8, a9)))), ((a10, (a11, ())), ())), (a12, (a13, ()))))))
def l16Names_F1 (n : Nat) (rec : pSt l16Names_sh1 → Option (pOuts l16Names_outs1)) (p : pSt l16Names_sh1) : Option (pOuts l16Names_outs1) := l16Names_l1 n (fun a1 a2 a3 a4 a5 a6 a7 a8 a9 a10 a11 a12 a13 => rec ((a1, (a2, ((), ((), (a3, ((), (a4, ()))))))), (((a5, (a6, (a7, (a8, a9)))), ((a10, (a11, ())), ())), (a12, (a13, ()))))) p.1.1 p.1.2.1 p.1.2.2.2.2.1 p.1.2.2.2.2.2.2.1 p.2.1.1.1 p.2.1.1.2.1 p.2.1.1.2.2.1 p.2.1.1.2.2.2.1 p.2.1.1.2.2.2.2 p.2.1.2.1.1 p.2.1.2.1.2.1 p.2.2.1 p.2.2.2.1
def l16Names_loop1 (n m : Nat) (a1 : List (List UInt8 × (List UInt8 × (List (List UInt8 × ((Int) × ((Int) × ((Int) × (List UInt8 × (List UInt8)))))))))) (a2 : List (Int)) (a3 : Int) (a4 : Int) (a5 : Int) (a6 : Int) (a7 : Int) (a8 : List UInt8) (a9 : List UInt8) (a10 : List UInt8) (a11 : List UInt8) (a12 : List (List UInt8 × ((Int) × ((Int) × ((Int) × (List UInt8 × (List UInt8))))))) (a13 : List (List UInt8 × (List UInt8 × (List (List UInt8 × ((Int) × ((Int) × ((Int) × (List UInt8 × (List UInt8)))))))))) : Option (((List (List UInt8 × (List UInt8 × (List (List UInt8 × ((Int) × ((Int) × ((Int) × (List UInt8 × (List UInt8)))))))))) × ((List (Int)) × (Unit × (Unit × (Int × (Unit × (Unit))))))) × ((Int × (Int × (Int × ((List UInt8) × (List UInt8))))) × (((List UInt8) × ((List UInt8) × (Unit))) × (Unit))) × ((List (List UInt8 × ((Int) × ((Int) × ((Int) × (List UInt8 × (List UInt8))))))) × ((List (List UInt8 × (List UInt8 × (List (List UInt8 × ((Int) × ((Int) × ((Int) × (List UInt8 × (List UInt8)))))))))) × (Unit)))) := iterF (l16Names_F1 n) m ((a1, (a2, ((), ((), (a3, ((), (a4, ()))))))), (((a5, (a6, (a7, (a8, a9)))), ((a10, (a11, ())), ())), (a12, (a13, ()))))
theorem l16Names_loop1_succ (n m : Nat) (a1 : List (List UInt8 × (List UInt8 × (List (List UInt8 × ((Int) × ((Int) × ((Int) × (List UInt8 × (List UInt8)))))))))) (a2 : List (Int)) (a3 : Int) (a4 : Int) (a5 : Int) (a6 : Int) (a7 : Int) (a8 : List UInt8) (a9 : List UInt8) (a10 : List UInt8) (a11 : List UInt8) (a12 : List (List UInt8 × ((Int) × ((Int) × ((Int) × (List UInt8 × (List UInt8))))))) (a13 : List (List UInt8 × (List UInt8 × (List (List UInt8 × ((Int) × ((Int) × ((Int) × (List UInt8 × (List UInt8)))))))))) : l16Names_loop1 n (m + 1) a1 a2 a3 a4 a5 a6 a7 a8 a9 a10 a11 a12 a13 = l16Names_l1 n (fun a1 a2 a3 a4 a5 a6 a7 a8 a9 a10 a11 a12 a13 => l16Names_loop1 n m a1 a2 a3 a4 a5 a6 a7 a8 a9 a10 a11 a12 a13) a1 a2 a3 a4 a5 a6 a7 a8 a9 a10 a11 a12 a13 := rfl
def l16Names_L1 (n : Nat) : LC := { sh := l16Names_sh1, outs := l16Names_outs1, F := iterF (l16Names_F1 n) n }
@[reducible] def l16Names_sh0 : SSt := ⟨[(0, .one (.c (.d (.lst (.prod .str (.prod .str (.lst (.prod .str (.prod (.int .i64) (.prod (.int .i64) (.prod (.int .i64) (.prod .str .str)))))))))))), (2, .one (.c (.d (.lst (.int .i64))))), (4, .one (.c (.box 4 0))), (7, .one (.c (.row 82))), (8, .one (.c (.d (.int .i64))))], [(4, (24, [.d (.int .i64), .d (.int .i64), .d (.int .i64), .d .str, .d .str]))], [(82, ⟨30, true, (.prod .str (.prod .str (.lst (.prod .str (.prod (.int .i64) (.prod (.int .i64) (.prod (.int .i64) (.prod .str .str))))))))⟩)]⟩
@[reducible] def l16Names_outs0 : List (Exit × SSt) := [(.exit 0, ⟨[(0, .one (.c (.d (.lst (.prod .str (.prod .str (.lst (.prod .str (.prod (.int .i64) (.prod (.int .i64) (.prod (.int .i64) (.prod .str .str)))))))))))), (2, .one (.c (.d (.lst (.int .i64))))), (7, .one (.c (.row 82)))], [], [(82, ⟨30, true, (.prod .str (.prod .str (.lst (.prod .str (.prod (.int .i64) (.prod (.int .i64) (.prod (.int .i64) (.prod .str .str))))))))⟩)]⟩)]
def l16Names_l0 (n : Nat) (rec : (List (List UInt8 × (List UInt8 × (List (List UInt8 × ((Int) × ((Int) × ((Int) × (List UInt8 × (List UInt8)))))))))) → (List (Int)) → Int → Int → Int → Int → (List UInt8) → (List UInt8) → (List (List UInt8 × (List UInt8 × (List (List UInt8 × ((Int) × ((Int) × ((Int) × (List UInt8 × (List UInt8)))))))))) → Option (((List (List UInt8 × (List UInt8 × (List (List UInt8 × ((Int) × ((Int) × ((Int) × (List UInt8 × (List UInt8)))))))))) × ((List (Int)) × (Unit × (Unit)))) × (Unit) × ((List (List UInt8 × (List UInt8 × (List (List UInt8 × ((Int) × ((Int) × ((Int) × (List UInt8 × (List UInt8)))))))))) × (Unit)))) (a1 : List (List UInt8 × (List UInt8 × (List (List UInt8 × ((Int) × ((Int) × ((Int) × (List UInt8 × (List UInt8)))))))))) (a2 : List (Int)) (a3 : Int) (a4 : Int) (a5 : Int) (a6 : Int) (a7 : List UInt8) (a8 : List UInt8) (a9 : List (List UInt8 × (List UInt8 × (List (List UInt8 × ((Int) × ((Int) × ((Int) × (List UInt8 × (List UInt8)))))))))) : Option (((List (List UInt8 × (List UInt8 × (List (List UInt8 × ((Int) × ((Int) × ((Int) × (List UInt8 × (List UInt8)))))))))) × ((List (Int)) × (Unit × (Unit)))) × (Unit) × ((List (List UInt8 × (List UInt8 × (List (List UInt8 × ((Int) × ((Int) × ((Int) × (List UInt8 × (List UInt8)))))))))) × (Unit))) :=
  (bif decide (a3 < ((List.length a1 : Nat) : Int)) then (idxL a1 a3).bind fun (x6 : List UInt8 × (List UInt8 × (List (List UInt8 × ((Int) × ((Int) × ((Int) × (List UInt8 × (List UInt8))))))))) => (l16Names_loop1 n n a1 a2 a3 (0 : Int) a4 a5 a6 a7 a8 ([111, 116, 104, 101, 114] : List UInt8) x6.2.1 [] a9).bind fun (o12 : ((List (List UInt8 × (List UInt8 × (List (List UInt8 × ((Int) × ((Int) × ((Int) × (List UInt8 × (List UInt8)))))))))) × ((List (Int)) × (Unit × (Unit × (Int × (Unit × (Unit))))))) × ((Int × (Int × (Int × ((List UInt8) × (List UInt8))))) × (((List UInt8) × ((List UInt8) × (Unit))) × (Unit))) × ((List (List UInt8 × ((Int) × ((Int) × ((Int) × (List UInt8 × (List UInt8))))))) × ((List (List UInt8 × (List UInt8 × (List (List UInt8 × ((Int) × ((Int) × ((Int) × (List UInt8 × (List UInt8)))))))))) × (Unit)))) => (appO 72 o12.2.2.1 ([(([47, 47, 110, 111, 98, 111, 100, 121] : List UInt8), ((0 : Int), ((0 : Int), ((0 : Int), (([] : List UInt8), ([] : List UInt8))))))] : List (List UInt8 × ((Int) × ((Int) × ((Int) × (List UInt8 × (List UInt8)))))))).bind fun (l13 : List (List UInt8 × ((Int) × ((Int) × ((Int) × (List UInt8 × (List UInt8))))))) => (appO 56 o12.2.2.2.1 ([(o12.2.1.2.1.1, (o12.2.1.2.1.2.1, l13))] : List (List UInt8 × (List UInt8 × (List (List UInt8 × ((Int) × ((Int) × ((Int) × (List UInt8 × (List UInt8))))))))))).bind fun (l14 : List (List UInt8 × (List UInt8 × (List (List UInt8 × ((Int) × ((Int) × ((Int) × (List UInt8 × (List UInt8)))))))))) => letO (IntKind.wrap .i64 (o12.1.2.2.2.2.1 + (1 : Int))) fun (n15 : Int) => rec o12.1.1 o12.1.2.1 n15 o12.2.1.1.1 o12.2.1.1.2.1 o12.2.1.1.2.2.1 o12.2.1.1.2.2.2.1 o12.2.1.1.2.2.2.2 l14 else some (((a1, (a2, ((), ()))), ((), (a9, ())))))
def l16Names_F0 (n : Nat) (rec : pSt l16Names_sh0 → Option (pOuts l16Names_outs0)) (p : pSt l16Names_sh0) : Option (pOuts l16Names_outs0) := l16Names_l0 n (fun a1 a2 a3 a4 a5 a6 a7 a8 a9 => rec ((a1, (a2, ((), ((), (a3, ()))))), (((a4, (a5, (a6, (a7, a8)))), ()), (a9, ())))) p.1.1 p.1.2.1 p.1.2.2.2.2.1 p.2.1.1.1 p.2.1.1.2.1 p.2.1.1.2.2.1 p.2.1.1.2.2.2.1 p.2.1.1.2.2.2.2 p.2.2.1
def l16Names_loop0 (n m : Nat) (a1 : List (List UInt8 × (List UInt8 × (List (List UInt8 × ((Int) × ((Int) × ((Int) × (List UInt8 × (List UInt8)))))))))) (a2 : List (Int)) (a3 : Int) (a4 : Int) (a5 : Int) (a6 : Int) (a7 : List UInt8) (a8 : List UInt8) (a9 : List (List UInt8 × (List UInt8 × (List (List UInt8 × ((Int) × ((Int) × ((Int) × (List UInt8 × (List UInt8)))))))))) : Option (((List (List UInt8 × (List UInt8 × (List (List UInt8 × ((Int) × ((Int) × ((Int) × (List UInt8 × (List UInt8)))))))))) × ((List (Int)) × (Unit × (Unit)))) × (Unit) × ((List (List UInt8 × (List UInt8 × (List (List UInt8 × ((Int) × ((Int) × ((Int) × (List UInt8 × (List UInt8)))))))))) × (Unit))) := iterF (l16Names_F0 n) m ((a1, (a2, ((), ((), (a3, ()))))), (((a4, (a5, (a6, (a7, a8)))), ()), (a9, ())))
theorem l16Names_loop0_succ (n m : Nat) (a1 : List (List UInt8 × (List UInt8 × (List (List UInt8 × ((Int) × ((Int) × ((Int) × (List UInt8 × (List UInt8)))))))))) (a2 : List (Int)) (a3 : Int) (a4 : Int) (a5 : Int) (a6 : Int) (a7 : List UInt8) (a8 : List UInt8) (a9 : List (List UInt8 × (List UInt8 × (List (List UInt8 × ((Int) × ((Int) × ((Int) × (List UInt8 × (List UInt8)))))))))) : l16Names_loop0 n (m + 1) a1 a2 a3 a4 a5 a6 a7 a8 a9 = l16Names_l0 n (fun a1 a2 a3 a4 a5 a6 a7 a8 a9 => l16Names_loop0 n m a1 a2 a3 a4 a5 a6 a7 a8 a9) a1 a2 a3 a4 a5 a6 a7 a8 a9 := rfl
def l16Names_L0 (n : Nat) : LC := { sh := l16Names_sh0, outs := l16Names_outs0, F := iterF (l16Names_F0 n) n }
def l16Names_lts (n : Nat) : List LC := [l16Names_L0 n, l16Names_L1 n]
def l16Names_t (n : Nat) (a1 : List (List UInt8 × (List UInt8 × (List (List UInt8 × ((Int) × ((Int) × ((Int) × (List UInt8 × (List UInt8)))))))))) (a2 : Int × (Int × (Int × ((List UInt8) × (List UInt8))))) (a3 : List (Int)) : Option (Bool) :=
  (r16Small_t n a1).bind fun (r1 : Bool) => (bif !r1 then (l16live_t n ).bind fun (r2 : Bool) => some r2 else (bif decide ((30 : Int) < ((List.length a3 : Nat) : Int)) then (l16live_t n ).bind fun (r3 : Bool) => some r3 else letO (IntKind.wrap .i64 (((List.length a2.2.2.2.1 : Nat) : Int) + ((List.length a2.2.2.2.2 : Nat) : Int))) fun (n4 : Int) => (bif decide ((200 : Int) < n4) then (l16live_t n ).bind fun (r5 : Bool) => some r5 else (l16Names_loop0 n n a1 a3 (0 : Int) a2.1 a2.2.1 a2.2.2.1 a2.2.2.2.1 a2.2.2.2.2 []).bind fun (o16 : ((List (List UInt8 × (List UInt8 × (List (List UInt8 × ((Int) × ((Int) × ((Int) × (List UInt8 × (List UInt8)))))))))) × ((List (Int)) × (Unit × (Unit)))) × (Unit) × ((List (List UInt8 × (List UInt8 × (List (List UInt8 × ((Int) × ((Int) × ((Int) × (List UInt8 × (List UInt8)))))))))) × (Unit))) => (gOrder_t n o16.1.1).bind fun (r17 : (List (Int)) × (Int)) => (gOrder_t n o16.2.2.1).bind fun (r18 : (List (Int)) × (Int)) => (r16Same_t n r17.1 r18.1).bind fun (r19 : Bool) => (bif r19 then (bif decide (r17.2 = r18.2) then (gUp_t n o16.1.1 o16.1.2.1).bind fun (r20 : List (Int)) => (gUp_t n o16.2.2.1 o16.1.2.1).bind fun (r21 : List (Int)) => (r16Same_t n r20 r21).bind fun (r22 : Bool) => (bif r22 then (gCyclic_t n o16.1.1).bind fun (r23 : List (Int)) => (gCyclic_t n o16.2.2.1).bind fun (r24 : List (Int)) => (r16Same_t n r23 r24).bind fun (r25 : Bool) => (bif r25 then (l16live_t n ).bind fun (r26 : Bool) => some r26 else some false) else some false) else some false) else some false))))
def l16Names_fc (n : Nat) : FC := { f := 3, args := [.one (.c (.d (.lst (.prod .str (.prod .str (.lst (.prod .str (.prod (.int .i64) (.prod (.int .i64) (.prod (.int .i64) (.prod .str .str))))))))))), .one (.agg [.d (.int .i64), .d (.int .i64), .d (.int .i64), .d .str, .d .str]), .one (.c (.d (.lst (.int .i64))))], res := .one (.c (.d .bool)), F := fun p => l16Names_t n p.1 p.2.1 p.2.2 }
def l16Names_ct (n : Nat) : List FC := [r16Small_fc n, l16live_fc n, gOrder_fc n, r16Same_fc n, gUp_fc n, gCyclic_fc n]
theorem l16Names_ctok (n : Nat) {G : World → Prop} (hG : Know Inv G) : ∀ c ∈ l16Names_ct n, FCok Tryd.prog G c ∧ noTup c.args = true := List.forall_mem_cons.2 ⟨r16Small_ok n G hG, List.forall_mem_cons.2 ⟨l16live_ok n G hG, List.forall_mem_cons.2 ⟨gOrder_ok n G hG, List.forall_mem_cons.2 ⟨r16Same_ok n G hG, List.forall_mem_cons.2 ⟨gUp_ok n G hG, List.forall_mem_cons.2 ⟨gCyclic_ok n G hG, (fun _ h => by cases h)⟩⟩⟩⟩⟩⟩
def l16Names_dh : Hints := [(2000015, [⟨0, 2361183241434822606848, 0⟩])]
theorem l16Names_dr : drB l16Names_dh (bodyOf Tryd.f3) = true := by kernel_rfl
theorem l16Names_eq1 (n : Nat) : ∀ rec p, l16Names_F1 n rec p = round Tryd.prog 120 (l16Names_ct n) (l16Names_lts n) l16Names_dh 2 l16Names_sh1 l16Names_outs1 (bodyAt 0 1 (bodyOf Tryd.f3)) rec p := by intro rec p; kernel_rfl
theorem l16Names_eq0 (n : Nat) : ∀ rec p, l16Names_F0 n rec p = round Tryd.prog 120 (l16Names_ct n) (l16Names_lts n) l16Names_dh 1 l16Names_sh0 l16Names_outs0 (bodyAt 0 0 (bodyOf Tryd.f3)) rec p := by intro rec p; kernel_rfl
theorem l16Names_lok1 (n : Nat) {F : Fr} (hF : F.n = 120) (hK : Know Inv F.G) : LCok Tryd.prog F (l16Names_L1 n) (bodyAt 0 1 (bodyOf Tryd.f3)) :=
  loop_ok hF (by kernel_rfl) (l16Names_ctok n hK) (l16Names_eq1 n) (fuel := n) (fun _ => rfl) (lok_of fun j L h1 h2 h3 => absurd h2 (Nat.not_lt.2 (Nat.le_trans (by decide +kernel) h1))) (drB_at l16Names_dr)
theorem l16Names_lok0 (n : Nat) {F : Fr} (hF : F.n = 120) (hK : Know Inv F.G) : LCok Tryd.prog F (l16Names_L0 n) (bodyAt 0 0 (bodyOf Tryd.f3)) :=
  loop_ok hF (by kernel_rfl) (l16Names_ctok n hK) (l16Names_eq0 n) (fuel := n) (fun _ => rfl) (lok_of (c := (bodyAt 0 0 (bodyOf Tryd.f3))) (fun j L h1 h2 h3 => by
    have h2' : j < 2 := Nat.lt_of_lt_of_le h2 (by decide +kernel)
    match j, h1, h2', h3 with
    | 0, h1, _, _ => exact absurd h1 (by decide)
    | 1, _, _, h3 => obtain rfl := Option.some.inj h3; exact (show bodyAt 0 1 (bodyOf Tryd.f3) = bodyAt 1 1 (bodyAt 0 0 (bodyOf Tryd.f3)) by kernel_rfl) ▸ l16Names_lok1 n hF hK
    | j + 2, _, h2', _ => exact absurd h2' (by omega))) (drB_at l16Names_dr)
theorem l16Names_eq (n : Nat) : ∀ a, (l16Names_fc n).F a = main Tryd.prog 120 (l16Names_ct n) (l16Names_lts n) l16Names_dh (bodyOf Tryd.f3) [.tmp 6] (l16Names_fc n).args (l16Names_fc n).res a := by intro a; kernel_rfl
theorem l16Names_ok (n : Nat) : FCall Inv Tryd.prog (l16Names_fc n) := fun G hG => ⟨⟨by kernel_rfl, fun a r h => main_ok (c := bodyOf Tryd.f3) Tryd.func3 (by kernel_rfl) (by kernel_rfl) (Nat.le_of_ble_eq_true (by kernel_rfl)) hG.st (by kernel_rfl) (rs := [.tmp 6]) (by kernel_rfl) (l16Names_ctok n hG) (lts := l16Names_lts n) (fun F hF hFG => have hK : Know Inv F.G := hFG ▸ hG; (lok_of (c := (bodyOf Tryd.f3)) (fun j L h1 h2 h3 => by
    have h2' : j < 2 := Nat.lt_of_lt_of_le h2 (by decide +kernel)
    match j, h1, h2', h3 with
    | 0, _, _, h3 => obtain rfl := Option.some.inj h3; exact (show bodyAt 0 0 (bodyOf Tryd.f3) = bodyAt 0 0 (bodyOf Tryd.f3) by kernel_rfl) ▸ l16Names_lok0 n hF hK
    | 1, _, _, h3 => obtain rfl := Option.some.inj h3; exact (show bodyAt 0 1 (bodyOf Tryd.f3) = bodyAt 0 1 (bodyOf Tryd.f3) by kernel_rfl) ▸ l16Names_lok1 n hF hK
    | j + 2, _, h2', _ => exact absurd h2' (by omega)))) l16Names_dr ((l16Names_eq n a).symm.trans h)⟩, rfl⟩
end Go.Proofs.YtgdlfnlakfahcaaDoor.AM

/- Layer 16: some answers that the document gives. -/
namespace Go.Proofs.YtgdlfnlakfahcaaDoor.AM
open Go.RowKit
set_option linter.unusedVariables false
abbrev fuel16 : Nat := 9223372036854775808
theorem live16 : l16live_t fuel16 = some true := by decide +kernel
end Go.Proofs.YtgdlfnlakfahcaaDoor.AM

/- Layer 16: the law GraphNames. -/
namespace Go.Proofs.YtgdlfnlakfahcaaDoor.AM
open Go.RowKit Gr
set_option linter.unusedVariables false
set_option linter.unusedSimpArgs false
def nobS : List UInt8 := [47, 47, 110, 111, 98, 111, 100, 121]
def othS : List UInt8 := [111, 116, 104, 101, 114]
abbrev VD0 : Type := Int × (Int × (Int × (List UInt8 × List UInt8)))
def reN (v : VD0) (rs : List RD) : List RD := rs.map fun r => (r.1, v)
def modN (v : VD0) (m : MD) : MD := (othS, (m.2.1, reN v m.2.2 ++ [(nobS, ((0 : Int), ((0 : Int), ((0 : Int), (([] : List UInt8), ([] : List UInt8))))))]))
theorem l16Names_loopI (n : Nat) (l : List MD) (f : List Int) (i : Nat) (hi : i < l.length) (hr : l[i].2.2.length ≤ 31) (v1 v2 v3 : Int) (v4 v5 p q : List UInt8) (acc : List MD) : ∀ m j : Nat, j ≤ l[i].2.2.length → l[i].2.2.length - j < m →
    l16Names_loop1 n m l f (i : Int) (j : Int) v1 v2 v3 v4 v5 p q (reN (v1, (v2, (v3, (v4, v5)))) (l[i].2.2.take j)) acc = some ((l, (f, ((), ((), ((i : Int), ((), ())))))), (((v1, (v2, (v3, (v4, v5)))), ((p, (q, ())), ())), (reN (v1, (v2, (v3, (v4, v5)))) l[i].2.2, (acc, ()))))
  | 0, j, _, h => absurd h (Nat.not_lt_zero _)
  | m + 1, j, hj, h => by
    rw [l16Names_loop1_succ]
    unfold l16Names_l1
    rw [idx_lt hi, Option.bind_some]
    by_cases c : j < l[i].2.2.length
    · have ih := l16Names_loopI n l f i hi hr v1 v2 v3 v4 v5 p q acc m (j + 1) (by omega) (by omega)
      rw [List.take_succ_eq_append_getElem c] at ih
      have hle : (reN (v1, (v2, (v3, (v4, v5)))) (l[i].2.2.take j)).length ≤ 31 := by unfold reN; rw [List.length_map, List.length_take]; omega
      rw [decide_eq_true (by omega), cond_true, Option.bind_some, idx_lt c, Option.bind_some, app_le (by rw [List.length_singleton]; omega), Option.bind_some, letO_eq, wrap_succ (by omega)]
      have e : reN (v1, (v2, (v3, (v4, v5)))) (l[i].2.2.take j) ++ [(l[i].2.2[j].1, (v1, (v2, (v3, (v4, v5)))))] = reN (v1, (v2, (v3, (v4, v5)))) (l[i].2.2.take j ++ [l[i].2.2[j]]) := by unfold reN; rw [List.map_append]; rfl
      rw [e]
      exact ih
    · obtain rfl : j = l[i].2.2.length := by omega
      rw [decide_eq_false (by omega), cond_false, List.take_length]
theorem l16Names_loop (n : Nat) (l : List MD) (f : List Int) (hl : l.length ≤ 20) (hr : ∀ m ∈ l, m.2.2.length ≤ 31) (hn : 100000 < n) (v1 v2 v3 : Int) (v4 v5 : List UInt8) : ∀ m j : Nat, j ≤ l.length → l.length - j < m →
    l16Names_loop0 n m l f (j : Int) v1 v2 v3 v4 v5 ((l.take j).map (modN (v1, (v2, (v3, (v4, v5)))))) = some ((l, (f, ((), ()))), ((), (l.map (modN (v1, (v2, (v3, (v4, v5))))), ())))
  | 0, j, _, h => absurd h (Nat.not_lt_zero _)
  | m + 1, j, hj, h => by
    rw [l16Names_loop0_succ]
    unfold l16Names_l0
    by_cases c : j < l.length
    · have ih := l16Names_loop n l f hl hr hn v1 v2 v3 v4 v5 m (j + 1) (by omega) (by omega)
      rw [List.take_succ_eq_append_getElem c, List.map_append] at ih
      have hrj := hr _ (List.getElem_mem c)
      have hI := l16Names_loopI n l f j c hrj v1 v2 v3 v4 v5 othS l[j].2.1 ((l.take j).map (modN (v1, (v2, (v3, (v4, v5)))))) n 0 (Nat.zero_le _) (by omega)
      have hI' : l16Names_loop1 n n l f (j : Int) (0 : Int) v1 v2 v3 v4 v5 ([111, 116, 104, 101, 114] : List UInt8) l[j].2.1 [] ((l.take j).map (modN (v1, (v2, (v3, (v4, v5)))))) = _ := hI
      have hle : (reN (v1, (v2, (v3, (v4, v5)))) l[j].2.2).length ≤ 31 := by unfold reN; rw [List.length_map]; exact hrj
      have hle2 : ((l.take j).map (modN (v1, (v2, (v3, (v4, v5)))))).length ≤ 20 := by rw [List.length_map, List.length_take]; omega
      rw [decide_eq_true (by omega), cond_true, idx_lt c, Option.bind_some, hI', Option.bind_some]
      show (appO 72 (reN (v1, (v2, (v3, (v4, v5)))) l[j].2.2) _).bind (fun l13 => (appO 56 ((l.take j).map (modN (v1, (v2, (v3, (v4, v5)))))) ([(othS, (l[j].2.1, l13))] : List MD)).bind fun l14 => letO (IntKind.wrap .i64 ((j : Int) + 1)) fun n15 => l16Names_loop0 n m l f n15 v1 v2 v3 v4 v5 l14) = _
      rw [app_le (by rw [List.length_singleton]; omega), Option.bind_some, app_le (by rw [List.length_singleton]; omega), Option.bind_some, letO_eq, wrap_succ (by omega)]
      exact ih
    · obtain rfl : j = l.length := by omega
      rw [decide_eq_false (by omega), cond_false, List.take_length]
theorem nob_no : okS nobS = false := by decide +kernel
theorem names_path (l : List MD) (v : VD0) : pthS (l.map (modN v)) = pthS l := by
  unfold pthS; rw [List.map_map]; rfl
theorem names_chk (l : List MD) (v : VD0) : chkS (l.map (modN v)) = chkS l := by unfold chkS; rw [names_path]
theorem names_adj {l : List MD} (hc : chkS l = 0) (v : VD0) : adj (l.map (modN v)) = adj l := by
  funext i j
  unfold adj
  rw [List.getElem?_map, List.getElem?_map]
  cases hi : l[i]? with
  | none => rfl
  | some a =>
    cases hj : l[j]? with
    | none => rfl
    | some b =>
      show reqS (modN v a) b.2.1 = reqS a b.2.1
      have hb := chk_ok hc b (List.mem_of_getElem? hj)
      have hne : decide (nobS = b.2.1) = false := decide_eq_false fun e => by rw [← e, nob_no] at hb; cases hb
      unfold reqS modN reN
      rw [List.any_append, List.any_map, List.any_cons, hne, List.any_nil, Bool.or_false, Bool.or_false]
      rfl
theorem l16Names_P (n : Nat) (hn : 9223372036854775807 < n) (hv : l16live_t n = some true) (l : List MD) (v : VD0) (f : List Int) (hl : l.length ≤ 9223372036854775807) : l16Names_t n l v f = some true := by
  obtain ⟨b, h1, h2⟩ := r16Small_spec n l hl hn
  unfold l16Names_t
  rw [h1, hv, Option.bind_some]
  cases b with
  | false => rfl
  | true =>
    have hs := (h2 rfl).sm
    have hsm := h2 rfl
    have h20 := hs.1
    by_cases hf : 30 < f.length
    · rw [Bool.not_true, cond_false, decide_eq_true (by omega)]; rfl
    rw [Bool.not_true, cond_false, decide_eq_false (by omega), cond_false, letO_eq]
    by_cases hw : (200 : Int) < IntKind.wrap .i64 (((v.2.2.2.1.length : Nat) : Int) + ((v.2.2.2.2.length : Nat) : Int))
    · rw [decide_eq_true hw]; rfl
    rw [decide_eq_false hw, cond_false]
    clear hw
    obtain ⟨v1, v2, v3, v4, v5⟩ := v
    have hL := l16Names_loop n l f h20 (fun m hm => (hs.2 m hm).2) (by omega) v1 v2 v3 v4 v5 n 0 (Nat.zero_le _) (by omega)
    have hL' : l16Names_loop0 n n l f (0 : Int) v1 v2 v3 v4 v5 [] = some ((l, (f, ((), ()))), ((), (l.map (modN (v1, (v2, (v3, (v4, v5))))), ()))) := hL
    show (l16Names_loop0 n n l f (0 : Int) v1 v2 v3 v4 v5 []).bind _ = _
    rw [hL', Option.bind_some]
    have hck := names_chk l (v1, (v2, (v3, (v4, v5))))
    have hlen : (l.map (modN (v1, (v2, (v3, (v4, v5)))))).length = l.length := List.length_map ..
    have hadj : chkS l = 0 → adj (l.map (modN (v1, (v2, (v3, (v4, v5)))))) = adj l := fun c => names_adj c _
    have sk : SmL (l.map (modN (v1, (v2, (v3, (v4, v5)))))) := ⟨by rw [hlen]; exact h20, fun m hm => by
      obtain ⟨x, hx, rfl⟩ := List.mem_map.1 hm
      refine ⟨(hs.2 x hx).1, ?_⟩
      have := (hsm.2 x hx).2.2.1
      show (reN _ x.2.2 ++ [_]).length ≤ 31
      rw [List.length_append, List.length_singleton]
      unfold reN
      rw [List.length_map]; omega⟩
    generalize l.map (modN (v1, (v2, (v3, (v4, v5))))) = k at hck hlen hadj sk
    obtain ⟨A, a1, a0, a2⟩ := gUp_spec n l f hs (by omega) (by omega)
    obtain ⟨B, b1, b0, b2⟩ := gUp_spec n k f sk (by omega) (by omega)
    obtain ⟨C, c1, c0, c2⟩ := gCyclic_spec n l hs (by omega)
    obtain ⟨D, d1, d0, d2⟩ := gCyclic_spec n k sk (by omega)
    have hord : orderS k = orderS l := by
      unfold orderS
      rw [hck]
      by_cases c : chkS l = 0
      · unfold ordL
        rw [if_pos c, if_pos c, hadj c, hlen]
      · rw [if_neg c, if_neg c]
    have hAB : A = B ∧ C = D ∧ A.length ≤ 20 ∧ C.length ≤ 20 := by
      by_cases c : chkS l = 0
      · have b2 := b2 (hck.trans c)
        have d2 := d2 (hck.trans c)
        have hU : ∀ q, UpP k f q ↔ UpP l f q := fun q => by unfold UpP; rw [hlen, hadj c]
        rw [hlen] at b2 d2
        rw [hadj c] at d2
        have e1 := (a2 c).eq b2 fun q _ => (hU q).symm
        have e2 := (c2 c).eq d2 fun q _ => Iff.rfl
        have e3 := (a2 c).lt
        have e4 := (c2 c).lt
        exact ⟨e1, e2, by omega, by omega⟩
      · have ck : chkS k ≠ 0 := by rw [hck]; exact c
        rw [a0 c, b0 ck, c0 c, d0 ck]
        exact ⟨rfl, rfl, Nat.zero_le _, Nat.zero_le _⟩
    obtain ⟨rfl, rfl, hAl, hCl⟩ := hAB
    have hol : (orderS l).1.length ≤ 20 := by
      have h3 : (ordL l).length ≤ l.length := nodup_le (ordS_ord 13 Ord.nil).nd (ordS_ord 13 Ord.nil).lt
      unfold orderS
      split
      · split
        · exact Nat.zero_le _
        · rw [iL_len]; omega
      · exact Nat.zero_le _
    have hsame : ∀ a : List Int, a.length ≤ 100000 → r16Same_t n a a = some true := fun a ha => by rw [r16Same_spec n a a ha ha (by omega), decide_eq_true rfl]
    show (gOrder_t n l).bind (fun r17 => (gOrder_t n k).bind fun r18 => (r16Same_t n r17.1 r18.1).bind fun r19 => bif r19 then (bif decide (r17.2 = r18.2) then (gUp_t n l f).bind fun r20 => (gUp_t n k f).bind fun r21 => (r16Same_t n r20 r21).bind fun r22 => bif r22 then (gCyclic_t n l).bind fun r23 => (gCyclic_t n k).bind fun r24 => (r16Same_t n r23 r24).bind _ else _ else _) else _) = _
    rw [gOrder_spec n l hs (by omega), Option.bind_some, gOrder_spec n k sk (by omega), Option.bind_some, hord, hsame _ (by omega), Option.bind_some, cond_true, decide_eq_true rfl, cond_true, a1, Option.bind_some, b1, Option.bind_some, hsame _ (by rw [iL_len]; omega), Option.bind_some, cond_true, c1, Option.bind_some, d1, Option.bind_some, hsame _ (by rw [iL_len]; omega), Option.bind_some, cond_true]
    rfl
abbrev LTy : Ty := .lst (.prod .str (.prod .str (.lst (.prod .str (.prod (.int .i64) (.prod (.int .i64) (.prod (.int .i64) (.prod .str .str))))))))
theorem l16Names_true (l : den LTy) (v : den (.prod (.int .i64) (.prod (.int .i64) (.prod (.int .i64) (.prod .str .str))))) (f : den (.lst (.int .i64))) (hl : okDen LTy l) (_ : okDen (.prod (.int .i64) (.prod (.int .i64) (.prod (.int .i64) (.prod .str .str)))) v) (_ : okDen (.lst (.int .i64)) f) : l16Names_t fuel16 l v f = some true :=
  l16Names_P fuel16 (by decide) live16 l v f (Nat.le_trans hl.1 (by unfold maxLen; omega))
end Go.Proofs.YtgdlfnlakfahcaaDoor.AM

/- From a row's cell 'laid' to what is known of the library's variables. -/
namespace Go.Proofs.YtgdlfnlakfahcaaDoor.AM
open Go.RowKit
set_option linter.unusedVariables false
set_option linter.unusedSimpArgs false
theorem star_err : "*" ++ "errors.errorString" = "*errors.errorString" := by decide
theorem row_err (u : TypeId) (h : Tryd.prog.typeName? 3 u = some "*errors.errorString") : u = 122 :=
  typeName_ptr_named (nm := "errors.errorString") (by rw [star_err]; kernel_rfl) (by kernel_rfl) (by decide) u (by rw [star_err]; exact h)
theorem tab_eq : (Rows.laid_internal_strconv_uint64pow10 : DataW Unit) = Lib.tabData .u64 Lib.pow10Tab := by rfl
theorem gTab3 : Tryd.prog.globalNamed "internal/strconv.uint64pow10" = some ((Tryd.prog.globalNamed "internal/strconv.uint64pow10").getD 0) ∧ (Tryd.prog.globals[(Tryd.prog.globalNamed "internal/strconv.uint64pow10").getD 0]?).map (·.type) = some 126 := ⟨by kernel_rfl, by kernel_rfl⟩
theorem gSyn3 : Tryd.prog.globalNamed "strconv.ErrSyntax" = some (Tryd.laysAtoi_ren.g 15) ∧ (Tryd.prog.globals[Tryd.laysAtoi_ren.g 15]?).map (·.type) = some 74 := ⟨by kernel_rfl, by kernel_rfl⟩
theorem gRng3 : Tryd.prog.globalNamed "strconv.ErrRange" = some (Tryd.laysAtoi_ren.g 16) ∧ (Tryd.prog.globals[Tryd.laysAtoi_ren.g 16]?).map (·.type) = some 74 := ⟨by kernel_rfl, by kernel_rfl⟩
theorem cells_err : Tryd.prog.cellsOf 124 = 1 := by kernel_rfl
theorem cells_str : Tryd.prog.cellsOf 9 = 1 := by kernel_rfl
theorem inv_of {w : World} (hsh : w.ShapedOpen Tryd.prog)
    (hL : laidMet Tryd.prog [("math/bits.deBruijn32tab", Rows.laid_math_bits_deBruijn32tab), ("math/bits.deBruijn64tab", Rows.laid_math_bits_deBruijn64tab), ("internal/strconv.uint64pow10", Rows.laid_internal_strconv_uint64pow10), ("unicode/utf8.acceptRanges", Rows.laid_unicode_utf8_acceptRanges), ("strconv.ErrRange", Rows.laid_strconv_ErrRange), ("strconv.ErrSyntax", Rows.laid_strconv_ErrSyntax), ("unicode/utf8.first", Rows.laid_unicode_utf8_first)] w) : Inv w := by
  obtain ⟨m, hm⟩ := Tryd.laysIndex.s1_3 w hsh
  have h3 := hL.tail.tail
  rw [tab_eq] at h3
  have h5 := hL.tail.tail.tail.tail
  unfold Rows.laid_strconv_ErrRange at h5
  have h6 := hL.tail.tail.tail.tail.tail
  unfold Rows.laid_strconv_ErrSyntax at h6
  obtain ⟨a0, s0, hv0, -, -, -⟩ := laid_sentinel h5 gRng3.1 gRng3.2 Tryd.underlying74 row_err Tryd.underlying122 Tryd.underlying124 rfl rfl Tryd.underlying9 cells_err cells_str
  obtain ⟨a1, s1, hv1, -, -, -⟩ := laid_sentinel h6 gSyn3.1 gSyn3.2 Tryd.underlying74 row_err Tryd.underlying122 Tryd.underlying124 rfl rfl Tryd.underlying9 cells_err cells_str
  have c0 : w.cell? ⟨Tryd.laysAtoi_ren.g 16, 0, none⟩ = some (.iface 122 (.pointer (some a0))) := by have h0 := World.var?_cell gRng3.1 hv0 0; simpa using h0
  have c1 : w.cell? ⟨Tryd.laysAtoi_ren.g 15, 0, none⟩ = some (.iface 122 (.pointer (some a1))) := by have h0 := World.var?_cell gSyn3.1 hv1 0; simpa using h0
  exact ⟨⟨m, hm⟩, Lib.tabIs_of_head gTab3.1 gTab3.2 (n := 20) (e := 102) (by kernel_rfl) (by kernel_rfl) (by kernel_rfl) (by kernel_rfl) h3, ⟨_, _, c1⟩, ⟨_, _, c0⟩⟩
end Go.Proofs.YtgdlfnlakfahcaaDoor.AM
