/- One text of GraP4, GraP5, GraT, VerI (mk/pack.py). -/
import Derived.Test.YtgdlfnlakfahcaaGreatDoorGp13
import Derived.Test.YtgdlfnlakfahcaaGreatDoorGp14
import Derived.Test.YtgdlfnlakfahcaaGreatDoorGp7
import Derived.Test.YtgdlfnlakfahcaaGreatDoorRows
import Derived.Test.YtgdlfnlakfahcaaGreatDoorGp8
import Derived.LaidLaws
/- Layer 16: the laws GraphTells, GraphOrder, GraphUp, GraphMore. -/
namespace Go.Proofs.YtgdlfnlakfahcaaGreatDoor.AM
open Go.RowKit Gr
set_option linter.unusedVariables false
set_option linter.unusedSimpArgs false
theorem cyc_both (n : Nat) (l : List MD) (hl : SmL l) (hn : 100000 < n) : ∃ L, gCyclic_t n l = some (iL L) ∧ r16Cyc_t n l = some (iL L) ∧ L.length ≤ 20 := by
  obtain ⟨L, h1, h2, h3⟩ := gCyclic_spec n l hl hn
  obtain ⟨K, k1, k2, k3⟩ := r16Cyc_spec n l hl hn
  by_cases c : chkS l = 0
  · have := (h3 c).eq (k3 c) fun _ _ => Iff.rfl
    subst this
    have := (h3 c).lt
    have := chk_len c
    exact ⟨L, h1, k1, by omega⟩
  · have e1 := h2 c
    have e2 := k2 c
    subst e1 e2
    exact ⟨[], h1, k1, Nat.zero_le _⟩
theorem up_both (n : Nat) (l : List MD) (f : List Int) (hl : SmL l) (hf : f.length ≤ 1000) (hn : 100000 < n) : ∃ L, gUp_t n l f = some (iL L) ∧ r16Up_t n l f = some (iL L) ∧ L.length ≤ 20 := by
  obtain ⟨L, h1, h2, h3⟩ := gUp_spec n l f hl hf hn
  obtain ⟨K, k1, k2, k3⟩ := r16Up_spec n l f hl (by omega) hn
  by_cases c : chkS l = 0
  · have := (h3 c).eq (k3 c) fun _ _ => Iff.rfl
    subst this
    have := (h3 c).lt
    have := chk_len c
    exact ⟨L, h1, k1, by omega⟩
  · have e1 := h2 c
    have e2 := k2 c
    subst e1 e2
    exact ⟨[], h1, k1, Nat.zero_le _⟩
theorem ord_ok (l : List MD) : Ord l.length (adj l) (ordL l) := ordS_ord 13 Ord.nil
theorem ord_len (l : List MD) : (ordL l).length ≤ l.length := nodup_le (ord_ok l).nd (ord_ok l).lt
theorem order_len {l : List MD} (hl : SmL l) : (orderS l).1.length ≤ 20 := by
  have h1 := ord_len l
  have h2 := hl.1
  unfold orderS
  split
  · split
    · exact Nat.zero_le _
    · rw [iL_len]; omega
  · exact Nat.zero_le _
theorem same_t (n : Nat) (a : List Int) (ha : a.length ≤ 100000) (hn : 100000 < n) : r16Same_t n a a = some true := by rw [r16Same_spec n a a ha ha hn, decide_eq_true rfl]
theorem l16Tells_P (n : Nat) (hn : 9223372036854775807 < n) (hv : l16live_t n = some true) (l : List MD) (i : Int) (f : List Int) (hl : l.length ≤ 9223372036854775807) : l16Tells_t n l i f = some true := by
  obtain ⟨b, h1, h2⟩ := r16Small_spec n l hl hn
  unfold l16Tells_t
  rw [h1, hv, Option.bind_some]
  cases b with
  | false => rfl
  | true =>
    have hs := (h2 rfl).sm
    have h20 := hs.1
    have hE := edgS_len l i
    by_cases hf : 30 < f.length
    · rw [Bool.not_true, cond_false, decide_eq_true (by omega)]; rfl
    · obtain ⟨C, c1, c2, c3⟩ := cyc_both n l hs (by omega)
      obtain ⟨U, u1, u2, u3⟩ := up_both n l f hs (by omega) (by omega)
      rw [Bool.not_true, cond_false, decide_eq_false (by omega), cond_false, gOrder_spec n l hs (by omega), Option.bind_some, r16Order_spec n l hs (by omega), Option.bind_some, gCheck_spec n l hs (by omega), Option.bind_some, r16Check_spec n l hs (by omega), Option.bind_some, decide_eq_true rfl, cond_true, gEdges_spec n l i hs (by omega), Option.bind_some, r16Edges_spec n l i hs (by omega), Option.bind_some, same_t n _ (by rw [iL_len]; omega) (by omega), Option.bind_some, cond_true, c1, Option.bind_some, c2, Option.bind_some, same_t n _ (by rw [iL_len]; omega) (by omega), Option.bind_some, cond_true, same_t n _ (by have := order_len hs; omega) (by omega), Option.bind_some, cond_true, decide_eq_true rfl, cond_true, u1, Option.bind_some, u2, Option.bind_some, same_t n _ (by rw [iL_len]; omega) (by omega), Option.bind_some, cond_true]
      rfl

/-! GraphOrder -/
theorem l16Order_loopI (n : Nat) (l : List MD) (O : List Nat) (i : Nat) (E : List Nat) (hi : i ≤ O.length) (hO : O.length ≤ 20) (hE : E.length ≤ 100) (hp : ∀ x ∈ E, x ∈ O.take i) (hn : 100000 < n) (a6 : List Int) (a7 a8 : Int) (a9 : List MD) (a10 : Int) (a11 : Bool) (a12 : List Int) (a13 : Int) (a14 a15 : List Int) (a16 a17 : Int) (a18 : Bool) : ∀ m j : Nat, j ≤ E.length → E.length - j < m →
    l16Order_loop1 n m l (iL O) (i : Int) (iL E) (j : Int) a6 a7 a8 a9 a10 a11 a12 a13 a14 a15 a16 a17 a18 = some (Sum.inr ((l, (iL O, ((i : Int), (a6, (a7, (a8, (a9, (a10, (a11, (a12, (a13, (a14, (a15, (a16, (a17, (a18, ())))))))))))))))), ((), ())))
  | 0, j, _, h => absurd h (Nat.not_lt_zero _)
  | m + 1, j, hj, h => by
    rw [l16Order_loop1_succ]
    unfold l16Order_l1
    rw [iL_len]
    by_cases c : j < E.length
    · have hx : idxL (iL E) (j : Int) = some ((E[j] : Nat) : Int) := by rw [idx_lt (by rw [iL_len]; exact c)]; simp [iL]
      have ht : (iL O).take i = iL (O.take i) := by unfold iL; rw [List.map_take]
      rw [decide_eq_true (by omega), cond_true, sub_zero (by rw [iL_len]; exact hi), Option.bind_some, hx, Option.bind_some, ht, r16In_spec n _ _ (by rw [iL_len, List.length_take]; omega) hn, Option.bind_some, decide_eq_true (mem_iL.2 (hp _ (List.getElem_mem c))), Bool.not_true, cond_false, letO_eq, wrap_succ (by omega)]
      exact l16Order_loopI n l O i E hi hO hE hp hn a6 a7 a8 a9 a10 a11 a12 a13 a14 a15 a16 a17 a18 m (j + 1) (by omega) (by omega)
    · obtain rfl : j = E.length := by omega
      rw [decide_eq_false (by omega), cond_false]
theorem l16Order_loop (n : Nat) (l : List MD) (hl : SmL l) (hc : chkS l = 0) (hn : 100000 < n) : ∀ m j : Nat, j ≤ (ordL l).length → (ordL l).length - j < m →
    l16Order_loop0 n m l (iL (ordL l)) (j : Int) = some (Sum.inr ((), ((), ())))
  | 0, j, _, h => absurd h (Nat.not_lt_zero _)
  | m + 1, j, hj, h => by
    have h20 := hl.1
    have hol := ord_len l
    have ho := ord_ok l
    rw [l16Order_loop0_succ]
    unfold l16Order_l0
    rw [iL_len]
    by_cases c : j < (ordL l).length
    · have hx : idxL (iL (ordL l)) (j : Int) = some (((ordL l)[j] : Nat) : Int) := by rw [idx_lt (by rw [iL_len]; exact c)]; simp [iL]
      have hlt := ho.lt _ (List.getElem_mem c)
      have ht : (iL (ordL l)).take j = iL ((ordL l).take j) := by unfold iL; rw [List.map_take]
      have hsplit : ordL l = (ordL l).take j ++ (ordL l)[j] :: (ordL l).drop (j + 1) := by
        conv => lhs; rw [← List.take_append_drop j (ordL l), List.drop_eq_getElem_cons c]
      have hni : (ordL l)[j] ∉ (ordL l).take j := fun hmem => by
        have h2 := ho.nd
        rw [hsplit] at h2
        exact (List.nodup_append.1 h2).2.2 _ hmem _ (List.mem_cons_self ..) rfl
      have hE := edgS_len l (((ordL l)[j] : Nat) : Int)
      rw [decide_eq_true (by omega), cond_true, hx, Option.bind_some, decide_eq_false (by omega), cond_false, Option.bind_some, decide_eq_false (by omega), cond_false, sub_zero (by rw [iL_len]; omega), Option.bind_some, Option.bind_some, ht, r16In_spec n _ _ (by rw [iL_len, List.length_take]; omega) hn, Option.bind_some, decide_eq_false (fun h => hni (mem_iL.1 h)), cond_false, Option.bind_some, gEdges_spec n l _ hl hn, Option.bind_some]
      have h3 := l16Order_loopI n l (ordL l) j (edgS l (((ordL l)[j] : Nat) : Int)) (by omega) (by omega) (by omega) (fun x hx => by
        rw [edgS_nat hc hlt] at hx
        obtain ⟨x1, x2⟩ := mem_edges.1 hx
        exact ho.pre _ _ _ hsplit x x1 x2) hn (iL (ordL l)) (j : Int) (((ordL l)[j] : Nat) : Int) l ((l.length : Nat) : Int) false (iL (ordL l)) (j : Int) (iL ((ordL l).take j)) (iL (ordL l)) (j : Int) (((ordL l)[j] : Nat) : Int) false n 0 (Nat.zero_le _) (by omega)
      rw [show (0 : Int) = ((0 : Nat) : Int) from rfl, h3, Option.bind_some, Sum.elim_inr]
      show letO (IntKind.wrap .i64 ((j : Int) + 1)) (fun n20 => l16Order_loop0 n m l (iL (ordL l)) n20) = _
      rw [letO_eq, wrap_succ (by omega)]
      exact l16Order_loop n l hl hc hn m (j + 1) (by omega) (by omega)
    · obtain rfl : j = (ordL l).length := by omega
      rw [decide_eq_false (by omega), cond_false]
theorem l16Order_P (n : Nat) (hn : 9223372036854775807 < n) (hv : l16live_t n = some true) (l : List MD) (hl : l.length ≤ 9223372036854775807) : l16Order_t n l = some true := by
  obtain ⟨b, h1, h2⟩ := r16Small_spec n l hl hn
  unfold l16Order_t
  rw [h1, hv, Option.bind_some]
  cases b with
  | false => rfl
  | true =>
    have hs := (h2 rfl).sm
    have h20 := hs.1
    rw [Bool.not_true, cond_false, gCheck_spec n l hs (by omega), Option.bind_some]
    by_cases c : chkS l = 0
    · obtain ⟨L, c1, _, c2⟩ := gCyclic_spec n l hs (by omega)
      have c2 := c2 c
      have hcl := c2.lt
      have h12 := chk_len c
      have hfull : (ordL l).length = l.length ↔ ∀ i, ¬ Dep l.length (adj l) i i := ordS_full 13 (by omega)
      have hol := ord_len l
      rw [decide_eq_true c, Bool.not_true, cond_false, gOrder_spec n l hs (by omega), Option.bind_some, c1, Option.bind_some, iL_len]
      unfold orderS
      rw [if_pos c]
      by_cases hlt : (ordL l).length < l.length
      · rw [if_pos hlt]
        have hL : 0 < L.length := by
          apply Classical.byContradiction
          intro h0
          have : L = [] := List.eq_nil_of_length_eq_zero (by omega)
          subst this
          have : (ordL l).length = l.length := hfull.2 fun i hd => by
            have := (c2.mem i).2 ⟨hd.lt.1, hd⟩
            cases this
          omega
        show (bif !decide ((12 : Int) = 0) then (bif decide ((12 : Int) = 12) then (bif decide (((0 : Nat) : Int) = 0) then (bif decide ((0 : Int) < ((L.length : Nat) : Int)) then _ else _) else _) else _) else _) = _
        rw [decide_eq_true (p := (0 : Int) < ((L.length : Nat) : Int)) (by omega)]
        rfl
      · rw [if_neg hlt]
        have hac := hfull.1 (by omega)
        have hL : L.length = 0 := by
          apply Classical.byContradiction
          intro h0
          obtain ⟨x, hx⟩ := List.exists_mem_of_length_pos (Nat.pos_of_ne_zero h0)
          exact hac x ((c2.mem x).1 hx).2
        have h3 := l16Order_loop n l hs c (by omega) n 0 (Nat.zero_le _) (by omega)
        have h3' : l16Order_loop0 n n l (iL (ordL l)) (0 : Int) = some (Sum.inr ((), ((), ()))) := h3
        show (bif !decide ((0 : Int) = 0) then _ else (bif !decide (((L.length : Nat) : Int) = 0) then some false else (bif !decide ((((iL (ordL l)).length : Nat) : Int) = ((l.length : Nat) : Int)) then some false else (l16Order_loop0 n n l (iL (ordL l)) (0 : Int)).bind _))) = _
        rw [iL_len, decide_eq_true (p := (0 : Int) = 0) rfl, Bool.not_true, cond_false, decide_eq_true (by omega), Bool.not_true, cond_false, decide_eq_true (by omega), Bool.not_true, cond_false, h3', Option.bind_some]
        rfl
    · rw [decide_eq_false c]; rfl

/-! GraphUp -/
theorem l16Up_loopA (n : Nat) (l : List MD) (f : List Int) (more : Int) (u : List Int) (i : Int) (b : Bool) (E : List Nat) (hE : E.length ≤ 100) (hu : u.length ≤ 100000) (hn : 100000 < n) : ∀ m j : Nat, ∀ a : Bool, j ≤ E.length → E.length - j < m →
    l16Up_loop1 n m l f more u i b (iL E) a (j : Int) = some ((l, (f, (more, (u, (i, (b, (a || (E.drop j).any (fun x => decide (((x : Nat) : Int) ∈ u)), ()))))))), ((), ()))
  | 0, j, _, _, h => absurd h (Nat.not_lt_zero _)
  | m + 1, j, a, hj, h => by
    rw [l16Up_loop1_succ]
    unfold l16Up_l1
    rw [iL_len]
    by_cases c : j < E.length
    · have hx : idxL (iL E) (j : Int) = some ((E[j] : Nat) : Int) := by rw [idx_lt (by rw [iL_len]; exact c)]; simp [iL]
      rw [decide_eq_true (by omega), cond_true, List.drop_eq_getElem_cons c, List.any_cons]
      cases a with
      | true =>
        rw [cond_true, letO_eq, wrap_succ (by omega)]
        refine (l16Up_loopA n l f more u i b E hE hu hn m (j + 1) true (by omega) (by omega)).trans ?_
        rw [Bool.true_or, Bool.true_or]
      | false =>
        rw [cond_false, hx, Option.bind_some, r16In_spec n u _ hu hn, Option.bind_some, letO_eq, wrap_succ (by omega), Bool.false_or]
        exact l16Up_loopA n l f more u i b E hE hu hn m (j + 1) _ (by omega) (by omega)
    · obtain rfl : j = E.length := by omega
      rw [decide_eq_false (by omega), cond_false, List.drop_length, List.any_nil, Bool.or_false]
theorem l16Up_loopB (n : Nat) (l : List MD) (f : List Int) (more : Int) (U : List Nat) (hl : SmL l) (hc : chkS l = 0) (hf : f.length ≤ 1000) (hU : IsF l.length (UpP l f) U) (hn : 100000 < n) : ∀ m j : Nat, j ≤ l.length → l.length - j < m →
    l16Up_loop0 n m l f more (iL U) (j : Int) = some (Sum.inr ((l, (f, (more, (iL U, ())))), ((), ())))
  | 0, j, _, h => absurd h (Nat.not_lt_zero _)
  | m + 1, j, hj, h => by
    have h20 := hl.1
    have hUl := hU.lt
    rw [l16Up_loop0_succ]
    unfold l16Up_l0
    by_cases c : j < l.length
    · have hE := edgS_len l (j : Int)
      have key : decide (((j : Nat) : Int) ∈ iL U) = (decide (((j : Nat) : Int) ∈ f) || ((edgS l (j : Int)).drop 0).any (fun x => decide (((x : Nat) : Int) ∈ iL U))) := by
        rw [Bool.eq_iff_iff, decide_eq_true_iff, mem_iL, hU.mem, Bool.or_eq_true, decide_eq_true_iff, List.drop_zero, List.any_eq_true, edgS_nat hc c]
        constructor
        · rintro ⟨_, i, e1, e2, rfl | e3⟩
          · exact Or.inl e1
          · obtain ⟨k, k1, k2, k3, k4⟩ := e3.first
            refine Or.inr ⟨k, mem_edges.2 ⟨k2, k3⟩, ?_⟩
            rw [decide_eq_true_iff, mem_iL, hU.mem]
            refine ⟨k2, i, e1, e2, ?_⟩
            rcases k4 with k4 | k4
            · exact Or.inl k4
            · exact Or.inr k4
        · rintro (e | ⟨k, k1, k2⟩)
          · exact ⟨c, j, e, c, Or.inl rfl⟩
          · rw [decide_eq_true_iff, mem_iL, hU.mem] at k2
            obtain ⟨k3, i, e1, e2, e3⟩ := k2
            obtain ⟨x1, x2⟩ := mem_edges.1 k1
            refine ⟨c, i, e1, e2, Or.inr ?_⟩
            rcases e3 with rfl | e3
            · exact .one c x1 x2
            · exact .more c x1 x2 e3
      have h3 := l16Up_loopA n l f more (iL U) (j : Int) (decide (((j : Nat) : Int) ∈ f)) (edgS l (j : Int)) (by omega) (by rw [iL_len]; omega) hn n 0 false (Nat.zero_le _) (by omega)
      rw [decide_eq_true (by omega), cond_true, r16In_spec n f _ (by omega) hn, Option.bind_some, gEdges_spec n l _ hl hn, Option.bind_some, show (0 : Int) = ((0 : Nat) : Int) from rfl, h3, Option.bind_some, Bool.false_or]
      show (r16In_t n (iL U) (j : Int)).bind (fun r14 => bif decide (((j : Nat) : Int) ∈ f) then (bif !decide (r14 = true) then _ else letO (IntKind.wrap .i64 ((j : Int) + 1)) fun n15 => l16Up_loop0 n m l f more (iL U) n15) else (bif !decide (r14 = ((edgS l (j : Int)).drop 0).any (fun x => decide (((x : Nat) : Int) ∈ iL U))) then _ else letO (IntKind.wrap .i64 ((j : Int) + 1)) fun n16 => l16Up_loop0 n m l f more (iL U) n16)) = _
      rw [r16In_spec n _ _ (by rw [iL_len]; omega) hn, Option.bind_some, key, letO_eq, wrap_succ (by omega)]
      have ih := l16Up_loopB n l f more U hl hc hf hU hn m (j + 1) (by omega) (by omega)
      cases decide (((j : Nat) : Int) ∈ f) with
      | true => exact ih
      | false =>
        rw [cond_false, Bool.false_or, decide_eq_true rfl, Bool.not_true, cond_false]
        exact ih
    · obtain rfl : j = l.length := by omega
      rw [decide_eq_false (by omega), cond_false]
theorem l16Up_loopC (n : Nat) (l : List MD) (U V : List Nat) (hU : U.length ≤ 20) (hV : V.length ≤ 20) (hl : l.length ≤ 20) (hlt : ∀ x ∈ U, x < l.length) (hsub : ∀ x ∈ U, x ∈ V) (hn : 100000 < n) : ∀ m j : Nat, j ≤ U.length → U.length - j < m →
    l16Up_loop2 n m l (iL U) (iL V) (j : Int) = some (Sum.inr ((l, (iL U, ())), ((), ())))
  | 0, j, _, h => absurd h (Nat.not_lt_zero _)
  | m + 1, j, hj, h => by
    rw [l16Up_loop2_succ]
    unfold l16Up_l2
    rw [iL_len]
    by_cases c : j < U.length
    · have hx : idxL (iL U) (j : Int) = some ((U[j] : Nat) : Int) := by rw [idx_lt (by rw [iL_len]; exact c)]; simp [iL]
      have h1 := hlt _ (List.getElem_mem c)
      rw [decide_eq_true (by omega), cond_true, hx, Option.bind_some, r16In_spec n _ _ (by rw [iL_len]; omega) hn, Option.bind_some, decide_eq_true (mem_iL.2 (hsub _ (List.getElem_mem c))), Bool.not_true, cond_false, Option.bind_some, decide_eq_false (by omega), cond_false, Option.bind_some, decide_eq_false (by omega), cond_false, letO_eq, wrap_succ (by omega)]
      exact l16Up_loopC n l U V hU hV hl hlt hsub hn m (j + 1) (by omega) (by omega)
    · obtain rfl : j = U.length := by omega
      rw [decide_eq_false (by omega), cond_false]
theorem up_again {l : List MD} {f : List Int} {U : List Nat} (hU : IsF l.length (UpP l f) U) (k : Nat) : UpP l (iL U) k ↔ UpP l f k := by
  constructor
  · rintro ⟨i, h1, h2, h3⟩
    obtain ⟨_, j, e1, e2, e3⟩ := (hU.mem i).1 (mem_iL.1 h1)
    refine ⟨j, e1, e2, ?_⟩
    rcases h3 with rfl | h3
    · exact e3
    · rcases e3 with rfl | e3
      · exact Or.inr h3
      · exact Or.inr (h3.trans e3)
  · intro h
    exact ⟨k, mem_iL.2 ((hU.mem k).2 ⟨h.lt, h⟩), h.lt, Or.inl rfl⟩
theorem l16Up_P (n : Nat) (hn : 9223372036854775807 < n) (hv : l16live_t n = some true) (l : List MD) (f : List Int) (more : Int) (hl : l.length ≤ 9223372036854775807) : l16Up_t n l f more = some true := by
  obtain ⟨b, h1, h2⟩ := r16Small_spec n l hl hn
  unfold l16Up_t
  rw [h1, hv, Option.bind_some]
  cases b with
  | false => rfl
  | true =>
    have hs := (h2 rfl).sm
    have h20 := hs.1
    by_cases hf : 30 < f.length
    · rw [Bool.not_true, cond_false, decide_eq_true (by omega)]; rfl
    · rw [Bool.not_true, cond_false, decide_eq_false (by omega), cond_false, gCheck_spec n l hs (by omega), Option.bind_some]
      by_cases c : chkS l = 0
      · obtain ⟨U, u1, _, u2⟩ := gUp_spec n l f hs (by omega) (by omega)
        obtain ⟨V, v1, _, v2⟩ := gUp_spec n l (f ++ [more]) hs (by rw [List.length_append, List.length_singleton]; omega) (by omega)
        have u2 := u2 c
        have v2 := v2 c
        have hUl := u2.lt
        have hVl := v2.lt
        obtain ⟨W, w1, _, w2⟩ := gUp_spec n l (iL U) hs (by rw [iL_len]; omega) (by omega)
        have hW : W = U := (w2 c).eq u2 fun k _ => up_again u2 k
        subst hW
        have hB := l16Up_loopB n l f more W hs c (by omega) u2 (by omega) n 0 (Nat.zero_le _) (by omega)
        have hB' : l16Up_loop0 n n l f more (iL W) (0 : Int) = some (Sum.inr ((l, (f, (more, (iL W, ())))), ((), ()))) := hB
        have hC := l16Up_loopC n l W V (by omega) (by omega) h20 (fun x hx => ((u2.mem x).1 hx).1) (fun x hx => by
          obtain ⟨k1, i, e1, e2, e3⟩ := (u2.mem x).1 hx
          exact (v2.mem x).2 ⟨k1, i, List.mem_append.2 (Or.inl e1), e2, e3⟩) (by omega) n 0 (Nat.zero_le _) (by omega)
        have hC' : l16Up_loop2 n n l (iL W) (iL V) (0 : Int) = some (Sum.inr ((l, (iL W, ())), ((), ()))) := hC
        rw [decide_eq_true c, Bool.not_true, cond_false, u1, Option.bind_some, hB', Option.bind_some, Sum.elim_inr]
        show (appO 8 ([] : List Int) f).bind (fun l20 => (appO 8 l20 ([more] : List Int)).bind fun l21 => (gUp_t n l l21).bind fun r22 => (l16Up_loop2 n n l (iL W) r22 (0 : Int)).bind _) = _
        rw [app_le (by simp; omega), Option.bind_some, List.nil_append, app_le (by simp; omega), Option.bind_some, v1, Option.bind_some, hC', Option.bind_some, Sum.elim_inr]
        show (gUp_t n l (iL W)).bind (fun r31 => (r16Same_t n r31 (iL W)).bind _) = _
        rw [w1, Option.bind_some, same_t n _ (by rw [iL_len]; omega) (by omega), Option.bind_some, cond_true]
        rfl
      · rw [decide_eq_false c]; rfl
end Go.Proofs.YtgdlfnlakfahcaaGreatDoor.AM

/- Layer 16: the law GraphMore. -/
namespace Go.Proofs.YtgdlfnlakfahcaaGreatDoor.AM
open Go.RowKit Gr
set_option linter.unusedVariables false
set_option linter.unusedSimpArgs false
def moreM (l : List MD) (i j : Nat) (hi : i < l.length) (hj : j < l.length) : MD := (l[i].1, (l[i].2.1, l[i].2.2 ++ [(l[j].2.1, ((0 : Int), ((0 : Int), ((0 : Int), (([] : List UInt8), ([] : List UInt8))))))]))
theorem l16More_loopA (n : Nat) (l : List MD) (f : List Int) (i j : Nat) (hi : i < l.length) (hj : j < l.length) (hl : l.length ≤ 20) (hr : l[i].2.2.length ≤ 30) : ∀ m k : Nat, k ≤ l.length → l.length - k < m →
    l16More_loop0 n m l f (k : Int) (i : Int) (j : Int) ((l.set i (moreM l i j hi hj)).take k) = some ((l, (f, ((), ((), ())))), ((((i : Int), (j : Int)), ()), (l.set i (moreM l i j hi hj), ())))
  | 0, k, _, h => absurd h (Nat.not_lt_zero _)
  | m + 1, k, hk, h => by
    rw [l16More_loop0_succ]
    unfold l16More_l0
    by_cases c : k < l.length
    · have ih := l16More_loopA n l f i j hi hj hl hr m (k + 1) (by omega) (by omega)
      have c' : k < (l.set i (moreM l i j hi hj)).length := by rw [List.length_set]; exact c
      rw [List.take_succ_eq_append_getElem c', List.getElem_set] at ih
      have htl : ((l.set i (moreM l i j hi hj)).take k).length ≤ 20 := by rw [List.length_take, List.length_set]; omega
      rw [decide_eq_true (by omega), cond_true, idx_lt c, Option.bind_some]
      by_cases e : i = k
      · subst e
        rw [if_pos rfl] at ih
        rw [decide_eq_true rfl, cond_true, app_le (by simp; omega), Option.bind_some, idx_lt hj, Option.bind_some, app_le (by simp; omega), Option.bind_some, app_le (by rw [List.length_singleton]; omega), Option.bind_some, letO_eq, wrap_succ (by omega), List.nil_append]
        exact ih
      · rw [if_neg e] at ih
        rw [decide_eq_false (by omega), cond_false, app_le (by rw [List.length_singleton]; omega), Option.bind_some, letO_eq, wrap_succ (by omega)]
        exact ih
    · obtain rfl : k = l.length := by omega
      rw [decide_eq_false (by omega), cond_false, List.take_of_length_le (by rw [List.length_set]; exact Nat.le_refl _)]
theorem more_path {l : List MD} {i j : Nat} {hi : i < l.length} {hj : j < l.length} {k : Nat} (hk : k < l.length) : ((l.set i (moreM l i j hi hj))[k]'(by rw [List.length_set]; exact hk)).2.1 = l[k].2.1 := by
  rw [List.getElem_set]
  by_cases e : i = k
  · subst e; rw [if_pos rfl]; rfl
  · rw [if_neg e]
theorem more_adj {l : List MD} {i j : Nat} {hi : i < l.length} {hj : j < l.length} {a b : Nat} (ha : a < l.length) (hb : b < l.length) (h : adj l a b = true) : adj (l.set i (moreM l i j hi hj)) a b = true := by
  rw [adj_lt ha hb] at h
  rw [adj_lt (by rw [List.length_set]; exact ha) (by rw [List.length_set]; exact hb), more_path hb, List.getElem_set]
  by_cases e : i = a
  · subst e
    rw [if_pos rfl]
    unfold reqS moreM at *
    rw [List.any_append, h, Bool.true_or]
  · rw [if_neg e]; exact h
theorem more_new {l : List MD} {i j : Nat} {hi : i < l.length} {hj : j < l.length} : adj (l.set i (moreM l i j hi hj)) i j = true := by
  rw [adj_lt (by rw [List.length_set]; exact hi) (by rw [List.length_set]; exact hj), more_path hj, List.getElem_set, if_pos rfl]
  unfold reqS moreM
  rw [List.any_append]
  simp
theorem more_chk {l : List MD} {i j : Nat} {hi : i < l.length} {hj : j < l.length} : chkS (l.set i (moreM l i j hi hj)) = chkS l := by
  unfold chkS
  congr 1
  unfold pthS
  apply List.ext_getElem
  · simp
  · intro k h1 h2
    simp only [List.length_map] at h2
    rw [List.getElem_map, List.getElem_map, more_path h2]
theorem more_sm {l : List MD} {i j : Nat} {hi : i < l.length} {hj : j < l.length} (h : SmL l) (h30 : l[i].2.2.length ≤ 30) : SmL (l.set i (moreM l i j hi hj)) := by
  refine ⟨by rw [List.length_set]; exact h.1, fun m hm => ?_⟩
  rcases List.mem_or_eq_of_mem_set hm with hm | rfl
  · exact h.2 m hm
  · refine ⟨(h.2 _ (List.getElem_mem hi)).1, ?_⟩
    show (l[i].2.2 ++ [_]).length ≤ 31
    rw [List.length_append, List.length_singleton]; omega
theorem l16More_loopB (n : Nat) (l k : List MD) (A B C D : List Nat) (e0 e1 : Int) (hA : A.length ≤ 20) (hB : B.length ≤ 20) (hs : ∀ x ∈ A, x ∈ B) (hn : 100000 < n) : ∀ m j : Nat, j ≤ A.length → A.length - j < m →
    l16More_loop1 n m l (iL A) (iL B) (iL C) (iL D) (j : Int) e0 e1 k = some (Sum.inr ((l, ((), ((), (iL C, (iL D, ()))))), (((e0, e1), ()), (k, ()))))
  | 0, j, _, h => absurd h (Nat.not_lt_zero _)
  | m + 1, j, hj, h => by
    rw [l16More_loop1_succ]
    unfold l16More_l1
    rw [iL_len]
    by_cases c : j < A.length
    · have hx : idxL (iL A) (j : Int) = some ((A[j] : Nat) : Int) := by rw [idx_lt (by rw [iL_len]; exact c)]; simp [iL]
      rw [decide_eq_true (by omega), cond_true, hx, Option.bind_some, r16In_spec n _ _ (by rw [iL_len]; omega) hn, Option.bind_some, decide_eq_true (mem_iL.2 (hs _ (List.getElem_mem c))), Bool.not_true, cond_false, letO_eq, wrap_succ (by omega)]
      exact l16More_loopB n l k A B C D e0 e1 hA hB hs hn m (j + 1) (by omega) (by omega)
    · obtain rfl : j = A.length := by omega
      rw [decide_eq_false (by omega), cond_false]
theorem l16More_loopC (n : Nat) (l k : List MD) (A B : List Nat) (e0 e1 : Int) (hA : A.length ≤ 20) (hB : B.length ≤ 20) (hs : ∀ x ∈ A, x ∈ B) (hn : 100000 < n) : ∀ m j : Nat, j ≤ A.length → A.length - j < m →
    l16More_loop2 n m l (iL A) (iL B) (j : Int) e0 e1 k = some (Sum.inr ((l, ((), ((), ()))), (((e0, e1), ()), (k, ()))))
  | 0, j, _, h => absurd h (Nat.not_lt_zero _)
  | m + 1, j, hj, h => by
    rw [l16More_loop2_succ]
    unfold l16More_l2
    rw [iL_len]
    by_cases c : j < A.length
    · have hx : idxL (iL A) (j : Int) = some ((A[j] : Nat) : Int) := by rw [idx_lt (by rw [iL_len]; exact c)]; simp [iL]
      rw [decide_eq_true (by omega), cond_true, hx, Option.bind_some, r16In_spec n _ _ (by rw [iL_len]; omega) hn, Option.bind_some, decide_eq_true (mem_iL.2 (hs _ (List.getElem_mem c))), Bool.not_true, cond_false, letO_eq, wrap_succ (by omega)]
      exact l16More_loopC n l k A B e0 e1 hA hB hs hn m (j + 1) (by omega) (by omega)
    · obtain rfl : j = A.length := by omega
      rw [decide_eq_false (by omega), cond_false]
theorem l16More_P (n : Nat) (hn : 9223372036854775807 < n) (hv : l16live_t n = some true) (l : List MD) (e : Int × Int) (f : List Int) (hl : l.length ≤ 9223372036854775807) : l16More_t n l e f = some true := by
  obtain ⟨e0, e1⟩ := e
  obtain ⟨b, h1, h2⟩ := r16Small_spec n l hl hn
  unfold l16More_t
  rw [h1, hv, Option.bind_some]
  cases b with
  | false => rfl
  | true =>
    have hs := (h2 rfl).sm
    have hsm := h2 rfl
    have h20 := hs.1
    by_cases hf : 30 < f.length
    · rw [Bool.not_true, cond_false, decide_eq_true (by omega)]; rfl
    rw [Bool.not_true, cond_false, decide_eq_false (by omega), cond_false, gCheck_spec n l hs (by omega), Option.bind_some]
    by_cases c : chkS l = 0
    case neg => rw [decide_eq_false c]; rfl
    rw [decide_eq_true c, Bool.not_true, cond_false]
    show (bif decide (e0 < 0) then _ else (bif decide (((l.length : Nat) : Int) ≤ e0) then _ else (bif decide (e1 < 0) then _ else (bif decide (((l.length : Nat) : Int) ≤ e1) then _ else (idxL l e0).bind _)))) = _
    by_cases g0 : e0 < 0
    · rw [decide_eq_true g0]; rfl
    rw [decide_eq_false g0, cond_false]
    by_cases g1 : ((l.length : Nat) : Int) ≤ e0
    · rw [decide_eq_true g1]; rfl
    rw [decide_eq_false g1, cond_false]
    by_cases g2 : e1 < 0
    · rw [decide_eq_true g2]; rfl
    rw [decide_eq_false g2, cond_false]
    by_cases g3 : ((l.length : Nat) : Int) ≤ e1
    · rw [decide_eq_true g3]; rfl
    rw [decide_eq_false g3, cond_false]
    obtain ⟨i, rfl⟩ := Int.eq_ofNat_of_zero_le (by omega : 0 ≤ e0)
    obtain ⟨j, rfl⟩ := Int.eq_ofNat_of_zero_le (by omega : 0 ≤ e1)
    have hi : i < l.length := by omega
    have hj : j < l.length := by omega
    rw [idx_lt hi, Option.bind_some]
    by_cases g4 : 29 < l[i].2.2.length
    · rw [decide_eq_true (by omega)]; rfl
    rw [decide_eq_false (by omega), cond_false]
    have hA := l16More_loopA n l f i j hi hj h20 (by omega) n 0 (Nat.zero_le _) (by omega)
    have hA' : l16More_loop0 n n l f (0 : Int) (i : Int) (j : Int) [] = some ((l, (f, ((), ((), ())))), ((((i : Int), (j : Int)), ()), (l.set i (moreM l i j hi hj), ()))) := hA
    have ck : chkS (l.set i (moreM l i j hi hj)) = 0 := more_chk.trans c
    have sk : SmL (l.set i (moreM l i j hi hj)) := more_sm hs (by omega)
    have lk : (l.set i (moreM l i j hi hj)).length = l.length := List.length_set ..
    have mono : ∀ a b : Nat, a < l.length → b < l.length → adj l a b = true → adj (l.set i (moreM l i j hi hj)) a b = true := fun a b ha hb h => more_adj ha hb h
    have new := more_new (l := l) (i := i) (j := j) (hi := hi) (hj := hj)
    rw [hA', Option.bind_some]
    generalize l.set i (moreM l i j hi hj) = k at ck sk lk mono new
    obtain ⟨A, a1, _, a2⟩ := gUp_spec n l f hs (by omega) (by omega)
    obtain ⟨B, b1, _, b2⟩ := gUp_spec n k f sk (by omega) (by omega)
    obtain ⟨C, c1, _, c2⟩ := gCyclic_spec n l hs (by omega)
    obtain ⟨D, d1, _, d2⟩ := gCyclic_spec n k sk (by omega)
    have a2 := a2 c
    have b2 := b2 ck
    have c2 := c2 c
    have d2 := d2 ck
    have a3 := a2.lt
    have b3 := b2.lt
    have c3 := c2.lt
    have d3 := d2.lt
    have dm : ∀ a b : Nat, Dep l.length (adj l) a b → Dep k.length (adj k) a b := fun a b h => by rw [lk]; exact h.mono mono
    have hB := l16More_loopB n l k A B C D (i : Int) (j : Int) (by omega) (by omega) (fun x hx => by
      obtain ⟨x1, q, x2, x3, x4⟩ := (a2.mem x).1 hx
      refine (b2.mem x).2 ⟨by omega, q, x2, by omega, ?_⟩
      rcases x4 with x4 | x4
      · exact Or.inl x4
      · exact Or.inr (dm _ _ x4)) (by omega) n 0 (Nat.zero_le _) (by omega)
    have hB' : l16More_loop1 n n l (iL A) (iL B) (iL C) (iL D) (0 : Int) (i : Int) (j : Int) k = some (Sum.inr ((l, ((), ((), (iL C, (iL D, ()))))), ((((i : Int), (j : Int)), ()), (k, ())))) := hB
    have hC := l16More_loopC n l k C D (i : Int) (j : Int) (by omega) (by omega) (fun x hx => by
      obtain ⟨x1, x2⟩ := (c2.mem x).1 hx
      exact (d2.mem x).2 ⟨by omega, dm _ _ x2⟩) (by omega) n 0 (Nat.zero_le _) (by omega)
    have hC' : l16More_loop2 n n l (iL C) (iL D) (0 : Int) (i : Int) (j : Int) k = some (Sum.inr ((l, ((), ((), ()))), ((((i : Int), (j : Int)), ()), (k, ())))) := hC
    show (gUp_t n l f).bind (fun r21 => (gUp_t n k f).bind fun r22 => (gCyclic_t n l).bind fun r23 => (gCyclic_t n k).bind fun r24 => (l16More_loop1 n n l r21 r22 r23 r24 (0 : Int) (i : Int) (j : Int) k).bind _) = _
    rw [a1, Option.bind_some, b1, Option.bind_some, c1, Option.bind_some, d1, Option.bind_some, hB', Option.bind_some, Sum.elim_inr]
    show (l16More_loop2 n n l (iL C) (iL D) (0 : Int) (i : Int) (j : Int) k).bind _ = _
    rw [hC', Option.bind_some, Sum.elim_inr]
    have e1 := edgS_nat ck (i := i) (by omega)
    have e2 := edgS_nat c hi
    have hEl := edgS_len k (i : Int)
    show (gEdges_t n k (i : Int)).bind (fun r37 => (r16In_t n r37 (j : Int)).bind fun r38 => bif r38 then (gEdges_t n k (i : Int)).bind (fun r39 => (gEdges_t n l (i : Int)).bind fun r40 => bif decide (((List.length r40 : Nat) : Int) ≤ ((List.length r39 : Nat) : Int)) then _ else _) else _) = _
    have hle : (edgS l (i : Int)).length ≤ (edgS k (i : Int)).length := by
      rw [e1, e2]
      refine sub_len (List.nodup_range.filter _) fun x hx => ?_
      obtain ⟨x1, x2⟩ := mem_edges.1 hx
      exact mem_edges.2 ⟨by omega, mono _ _ hi x1 x2⟩
    have hin : j ∈ edgS k (i : Int) := by
      rw [e1]
      exact mem_edges.2 ⟨by omega, new⟩
    rw [gEdges_spec n k _ sk (by omega), Option.bind_some, r16In_spec n _ _ (by rw [iL_len]; omega) (by omega), Option.bind_some, decide_eq_true (mem_iL.2 hin), cond_true, Option.bind_some, gEdges_spec n l _ hs (by omega), Option.bind_some, iL_len, iL_len, decide_eq_true (by omega), cond_true]
    rfl
end Go.Proofs.YtgdlfnlakfahcaaGreatDoor.AM

/- Layer 16: the laws, by the arguments' ranges. -/
namespace Go.Proofs.YtgdlfnlakfahcaaGreatDoor.AM
open Go.RowKit
set_option linter.unusedVariables false
abbrev LTy : Ty := .lst (.prod .str (.prod .str (.lst (.prod .str (.prod (.int .i64) (.prod (.int .i64) (.prod (.int .i64) (.prod .str .str))))))))
theorem len_ok {l : den LTy} (h : okDen LTy l) : l.length ≤ 9223372036854775807 := Nat.le_trans h.1 (by unfold maxLen; omega)
theorem l16Tells_true (l : den LTy) (i : Int) (f : den (.lst (.int .i64))) (hl : okDen LTy l) (_ : (Lit.int .i64 i).wf = true) (_ : okDen (.lst (.int .i64)) f) : l16Tells_t fuel16 l i f = some true := l16Tells_P fuel16 (by decide) live16 l i f (len_ok hl)
theorem l16Order_true (l : den LTy) (hl : okDen LTy l) : l16Order_t fuel16 l = some true := l16Order_P fuel16 (by decide) live16 l (len_ok hl)
theorem l16Up_true (l : den LTy) (f : den (.lst (.int .i64))) (i : Int) (hl : okDen LTy l) (_ : okDen (.lst (.int .i64)) f) (_ : (Lit.int .i64 i).wf = true) : l16Up_t fuel16 l f i = some true := l16Up_P fuel16 (by decide) live16 l f i (len_ok hl)
theorem l16More_true (l : den LTy) (e : den (.prod (.int .i64) (.int .i64))) (f : den (.lst (.int .i64))) (hl : okDen LTy l) (_ : okDen (.prod (.int .i64) (.int .i64)) e) (_ : okDen (.lst (.int .i64)) f) : l16More_t fuel16 l e f = some true := l16More_P fuel16 (by decide) live16 l e f (len_ok hl)
end Go.Proofs.YtgdlfnlakfahcaaGreatDoor.AM

/- From a row's cell 'laid' to what is known of the library's variables. -/
namespace Go.Proofs.YtgdlfnlakfahcaaGreatDoor.AM
open Go.RowKit
set_option linter.unusedVariables false
set_option linter.unusedSimpArgs false
theorem star_err : "*" ++ "errors.errorString" = "*errors.errorString" := by decide
theorem row_err (u : TypeId) (h : Tryz.prog.typeName? 3 u = some "*errors.errorString") : u = 129 :=
  typeName_ptr_named (nm := "errors.errorString") (by rw [star_err]; kernel_rfl) (by kernel_rfl) (by decide) u (by rw [star_err]; exact h)
theorem tab_eq : (Rows.laid_internal_strconv_uint64pow10 : DataW Unit) = Lib.tabData .u64 Lib.pow10Tab := by rfl
theorem gTab3 : Tryz.prog.globalNamed "internal/strconv.uint64pow10" = some ((Tryz.prog.globalNamed "internal/strconv.uint64pow10").getD 0) ∧ (Tryz.prog.globals[(Tryz.prog.globalNamed "internal/strconv.uint64pow10").getD 0]?).map (·.type) = some 133 := ⟨by kernel_rfl, by kernel_rfl⟩
theorem gSyn3 : Tryz.prog.globalNamed "strconv.ErrSyntax" = some (Tryz.laysAtoi_ren.g 15) ∧ (Tryz.prog.globals[Tryz.laysAtoi_ren.g 15]?).map (·.type) = some 80 := ⟨by kernel_rfl, by kernel_rfl⟩
theorem gRng3 : Tryz.prog.globalNamed "strconv.ErrRange" = some (Tryz.laysAtoi_ren.g 16) ∧ (Tryz.prog.globals[Tryz.laysAtoi_ren.g 16]?).map (·.type) = some 80 := ⟨by kernel_rfl, by kernel_rfl⟩
theorem cells_err : Tryz.prog.cellsOf 131 = 1 := by kernel_rfl
theorem cells_str : Tryz.prog.cellsOf 9 = 1 := by kernel_rfl
theorem inv_of {w : World} (hsh : w.ShapedOpen Tryz.prog)
    (hL : laidMet Tryz.prog [("math/bits.deBruijn32tab", Rows.laid_math_bits_deBruijn32tab), ("math/bits.deBruijn64tab", Rows.laid_math_bits_deBruijn64tab), ("internal/strconv.uint64pow10", Rows.laid_internal_strconv_uint64pow10), ("unicode/utf8.acceptRanges", Rows.laid_unicode_utf8_acceptRanges), ("strconv.ErrRange", Rows.laid_strconv_ErrRange), ("strconv.ErrSyntax", Rows.laid_strconv_ErrSyntax), ("unicode/utf8.first", Rows.laid_unicode_utf8_first)] w) : Inv w := by
  obtain ⟨m, hm⟩ := Tryz.laysIndex.s1_3 w hsh
  have h3 := hL.tail.tail
  rw [tab_eq] at h3
  have h5 := hL.tail.tail.tail.tail
  unfold Rows.laid_strconv_ErrRange at h5
  have h6 := hL.tail.tail.tail.tail.tail
  unfold Rows.laid_strconv_ErrSyntax at h6
  obtain ⟨a0, s0, hv0, -, -, -⟩ := laid_sentinel h5 gRng3.1 gRng3.2 Tryz.underlying80 row_err Tryz.underlying129 Tryz.underlying131 rfl rfl Tryz.underlying9 cells_err cells_str
  obtain ⟨a1, s1, hv1, -, -, -⟩ := laid_sentinel h6 gSyn3.1 gSyn3.2 Tryz.underlying80 row_err Tryz.underlying129 Tryz.underlying131 rfl rfl Tryz.underlying9 cells_err cells_str
  have c0 : w.cell? ⟨Tryz.laysAtoi_ren.g 16, 0, none⟩ = some (.iface 129 (.pointer (some a0))) := by have h0 := World.var?_cell gRng3.1 hv0 0; simpa using h0
  have c1 : w.cell? ⟨Tryz.laysAtoi_ren.g 15, 0, none⟩ = some (.iface 129 (.pointer (some a1))) := by have h0 := World.var?_cell gSyn3.1 hv1 0; simpa using h0
  exact ⟨⟨m, hm⟩, Lib.tabIs_of_head gTab3.1 gTab3.2 (n := 20) (e := 109) (by kernel_rfl) (by kernel_rfl) (by kernel_rfl) (by kernel_rfl) h3, ⟨_, _, c1⟩, ⟨_, _, c0⟩⟩
end Go.Proofs.YtgdlfnlakfahcaaGreatDoor.AM
