/- Layer 14: the law TreeOwned. -/
import Derived.Test.YtngbpbncipjimabGreatDoorTq17
namespace Go.Proofs.YtngbpbncipjimabGreatDoor.AM
open Go.RowKit
set_option linter.unusedVariables false
set_option linter.unusedSimpArgs false
theorem owned2 (n : Nat) (l w : List FD) (D : List (List UInt8)) (a3 a4 : Int) (i : Nat) (f : FD) (d : List UInt8) (hi : idxL w (i : Int) = some f) (hD : D.length ≤ 1000000) (hw : ∀ e ∈ D, withinS f.1 e = true → withinS d e = true)
    (b1 : List UInt8) (b2 : List (List UInt8)) (b3 : Int) (b4 : List UInt8) (b5 : Bool) (b6 : List FD) (b7 : Int) (b8 b9 : List UInt8) (b10 b11 : Bool) : ∀ m j : Nat, j ≤ D.length → D.length - j < m →
    lTOwned_loop2 n m l D a3 a4 w (i : Int) d (j : Int) b1 b2 b3 b4 b5 b6 b7 b8 b9 b10 b11 = some (Sum.inr (((l, (D, (a3, (a4, (w, ((i : Int), (b1, (b2, (b3, (b4, (b5, (b6, (b7, (b8, (b9, (b10, (b11, ()))))))))))))))))), ((), ()))))
  | 0, j, _, h => absurd h (Nat.not_lt_zero _)
  | m + 1, j, hj, h => by
    rw [lTOwned_loop2_succ]
    unfold lTOwned_l2
    by_cases c : j < D.length
    · have ih := owned2 n l w D a3 a4 i f d hi hD hw b1 b2 b3 b4 b5 b6 b7 b8 b9 b10 b11 m (j + 1) (by omega) (by omega)
      rw [decide_eq_true (by omega), cond_true, hi, Option.bind_some, idx_lt c, Option.bind_some, r8Within_spec, Option.bind_some]
      cases h1 : withinS f.1 D[j] with
      | false =>
        rw [cond_false, wrap_succ (by omega), letO_some]
        exact ih
      | true =>
        have h2 := hw _ (List.getElem_mem c) h1
        rw [cond_true, Option.bind_some, r8Within_spec, Option.bind_some, h2, Bool.not_true, cond_false, wrap_succ (by omega), letO_some]
        exact ih
    · obtain rfl : j = D.length := by omega
      rw [decide_eq_false (by omega), cond_false]
theorem owned1 (n : Nat) (l w : List FD) (D : List (List UInt8)) (a3 : Int) (q : Nat) (d : List UInt8) (hn : D.length < n) (hq : idxL D (q : Int) = some d) (hD : D.length ≤ 1000000) (hW : w.length ≤ 1000000)
    (ho : ∀ f ∈ w, tOwner_t n l f.1 = some (d, true) ∧ withinS f.1 d = true ∧ ∀ e ∈ D, withinS f.1 e = true → withinS d e = true) : ∀ m j : Nat, j ≤ w.length → w.length - j < m →
    lTOwned_loop1 n m l D a3 (q : Int) w (j : Int) = some (Sum.inr (((l, (D, (a3, ((q : Int), ())))), ((), ()))))
  | 0, j, _, h => absurd h (Nat.not_lt_zero _)
  | m + 1, j, hj, h => by
    rw [lTOwned_loop1_succ]
    unfold lTOwned_l1
    by_cases c : j < w.length
    · have ih := owned1 n l w D a3 q d hn hq hD hW ho m (j + 1) (by omega) (by omega)
      obtain ⟨g1, g2, g3⟩ := ho _ (List.getElem_mem c)
      have h2 := owned2 n l w D a3 (q : Int) j w[j] d (idx_lt c) hD g3 d D (q : Int) d false w (j : Int) (w[j]).1 d true false n 0 (Nat.zero_le _) (by omega)
      rw [show ((0 : Nat) : Int) = (0 : Int) from rfl] at h2
      rw [decide_eq_true (by omega), cond_true, idx_lt c, Option.bind_some, g1, Option.bind_some]
      show (bif !true then _ else (idxL D (q : Int)).bind fun (x11 : List UInt8) => _) = _
      rw [Bool.not_true, cond_false, hq, Option.bind_some]
      show (bif !decide (d = d) then _ else _) = _
      rw [decide_eq_true rfl, Bool.not_true, cond_false, Option.bind_some]
      show ((r8Within_t n (w[j]).1 d).bind fun (r13 : Bool) => _) = _
      rw [r8Within_spec, Option.bind_some, g2, Bool.not_true, cond_false]
      show ((lTOwned_loop2 n n l D a3 (q : Int) w (j : Int) d (0 : Int) d D (q : Int) d false w (j : Int) (w[j]).1 d true false).bind fun _ => _) = _
      rw [h2, Option.bind_some, Sum.elim_inr]
      show (letO (IntKind.wrap .i64 ((j : Int) + (1 : Int))) fun (n24 : Int) => lTOwned_loop1 n m l D a3 (q : Int) w n24) = _
      rw [wrap_succ (by omega), letO_some]
      exact ih
    · obtain rfl : j = w.length := by omega
      rw [decide_eq_false (by omega), cond_false]
theorem owned0 (n : Nat) (l : List FD) (hl : l.length ≤ 12) (hp : ∀ f ∈ l, f.1.length ≤ 200) (hn : 1000 < n) : ∀ (m j many : Nat), j ≤ (dirsS l).length → (dirsS l).length - j < m → many ≤ 12 * j →
    lTOwned_loop0 n m l (dirsS l) (many : Int) (j : Int) = some (Sum.inr (((l, ((((many + (((dirsS l).drop j).map fun d => (ownedS l d).length).sum : Nat) : Int), ()))), ((), ()))))
  | 0, j, many, _, h, _ => absurd h (Nat.not_lt_zero _)
  | m + 1, j, many, hj, h, hmany => by
    rw [lTOwned_loop0_succ]
    unfold lTOwned_l0
    have hDl := dirsS_len l
    by_cases c : j < (dirsS l).length
    · have hol := ownedS_len l (dirsS l)[j]
      have ih := owned0 n l hl hp hn m (j + 1) (many + (ownedS l (dirsS l)[j]).length) (by omega) (by omega) (by omega)
      have h1 := owned1 n l (ownedS l (dirsS l)[j]) (dirsS l) ((many + (ownedS l (dirsS l)[j]).length : Nat) : Int) j (dirsS l)[j] (by omega) (idx_lt c) (by omega) (by omega) (fun f hf => by
        have hm := List.mem_filter.1 hf
        have hown : ownS (dirsS l) f.1 = ((dirsS l)[j], true) := by
          have h2 := hm.2
          simp only [Bool.and_eq_true, decide_eq_true_eq] at h2
          obtain ⟨e1, e2⟩ := h2
          obtain ⟨⟨a, b⟩, hab⟩ : ∃ x, ownS (dirsS l) f.1 = x := ⟨_, rfl⟩
          rw [hab] at e1 e2 ⊢
          have e1' : b = true := e1
          have e2' : a = (dirsS l)[j] := e2
          rw [e1', e2']
        obtain ⟨q1, q2, q3⟩ := own_true hown
        have hfl := hp f (ownedS_mem hf)
        refine ⟨by rw [tOwner_spec n l f.1 (by omega) (by omega) (by omega), hown], q2, fun e he hwe => within_lat q2 hwe (q3 e he hwe)⟩) n 0 (Nat.zero_le _) (by omega)
      rw [show ((0 : Nat) : Int) = (0 : Int) from rfl] at h1
      have hos : tOwned_t n l (dirsS l)[j] = some (ownedS l (dirsS l)[j]) := tOwned_spec n l _ (by omega) (fun f hf => by have := hp f hf; omega) (by omega)
      rw [decide_eq_true (by omega), cond_true, idx_lt c, Option.bind_some, hos, Option.bind_some, wrap_add (by omega) (by omega), letO_some, h1, Option.bind_some, Sum.elim_inr]
      show (letO (IntKind.wrap .i64 ((j : Int) + (1 : Int))) fun (n28 : Int) => lTOwned_loop0 n m l (dirsS l) ((many + (ownedS l (dirsS l)[j]).length : Nat) : Int) n28) = _
      rw [wrap_succ (by omega), letO_some, ih, List.drop_eq_getElem_cons c, List.map_cons, List.sum_cons, Nat.add_assoc]
    · obtain rfl : j = (dirsS l).length := by omega
      rw [decide_eq_false (by omega), cond_false, List.drop_length]
      rfl
theorem owned3 (n : Nat) (l : List FD) (a2 : Int) (hl : l.length ≤ 12) (hp : ∀ f ∈ l, f.1.length ≤ 200) (hn : 1000 < n) : ∀ (m j free : Nat), j ≤ l.length → l.length - j < m → free ≤ j →
    lTOwned_loop3 n m l a2 (free : Int) (j : Int) = some (((l, (a2, ((((free + ((l.drop j).filter fun f => !(ownS (dirsS l) f.1).2).length : Nat) : Int), ())))), ((), ())))
  | 0, j, free, _, h, _ => absurd h (Nat.not_lt_zero _)
  | m + 1, j, free, hj, h, hf => by
    rw [lTOwned_loop3_succ]
    unfold lTOwned_l3
    by_cases c : j < l.length
    · have hpl := hp _ (List.getElem_mem c)
      rw [decide_eq_true (by omega), cond_true, idx_lt c, Option.bind_some, tOwner_spec n l _ (by omega) (by omega) (by omega), Option.bind_some, List.drop_eq_getElem_cons c, List.filter_cons]
      cases h2 : (ownS (dirsS l) (l[j]).1).2 with
      | false =>
        have ih := owned3 n l a2 hl hp hn m (j + 1) (free + 1) (by omega) (by omega) (by omega)
        rw [Bool.not_false, cond_true, wrap_succ (by omega), letO_some, wrap_succ (by omega), letO_some, if_pos rfl, List.length_cons]
        rw [show free + 1 + ((l.drop (j + 1)).filter fun f => !(ownS (dirsS l) f.1).2).length = free + (((l.drop (j + 1)).filter fun f => !(ownS (dirsS l) f.1).2).length + 1) from by omega] at ih
        exact ih
      | true =>
        have ih := owned3 n l a2 hl hp hn m (j + 1) free (by omega) (by omega) (by omega)
        rw [Bool.not_true, cond_false, wrap_succ (by omega), letO_some, if_neg (by decide)]
        exact ih
    · obtain rfl : j = l.length := by omega
      rw [decide_eq_false (by omega), cond_false, List.drop_length]
      rfl
theorem lTOwned_P (n : Nat) (hn : 9223372036854775807 < n) (l : List FD) (hl : l.length ≤ maxLen) : lTOwned_t n l = some true := by
  unfold maxLen at hl
  unfold lTOwned_t
  rw [live14 n (by omega), small_spec n l (by omega) (by omega), Option.bind_some]
  cases hs : smallB l with
  | false => rfl
  | true =>
    obtain ⟨s1, s2⟩ := small_of hs
    rw [Bool.not_true, cond_false, r5May_spec n l (by omega) (fun f hf => by have := (s2 f hf).1; omega) (by omega) (by omega), Option.bind_some]
    cases hm : mayS l with
    | false => rfl
    | true =>
      have hDl := dirsS_len l
      have hp : ∀ f ∈ l, f.1.length ≤ 200 := fun f hf => (s2 f hf).1
      have h0 := owned0 n l s1 hp (by omega) n 0 0 (Nat.zero_le _) (by omega) (Nat.zero_le _)
      have hc := owned_count (dirsS l) (dirs_nodup l) l
      obtain ⟨S, hS⟩ : ∃ S, ((dirsS l).map fun d => (ownedS l d).length).sum = S := ⟨_, rfl⟩
      obtain ⟨F, hF⟩ : ∃ F, (l.filter fun f => !(ownS (dirsS l) f.1).2).length = F := ⟨_, rfl⟩
      rw [show ((0 : Nat) : Int) = (0 : Int) from rfl, List.drop_zero, Nat.zero_add, hS] at h0
      have h3 := owned3 n l (S : Int) s1 hp (by omega) n 0 0 (Nat.zero_le _) (by omega) (Nat.le_refl _)
      rw [show ((0 : Nat) : Int) = (0 : Int) from rfl, List.drop_zero, Nat.zero_add, hF] at h3
      have hsum : S + F = l.length := by rw [← hS, ← hF]; exact hc
      rw [Bool.not_true, cond_false, tDirs_some (by omega), Option.bind_some, h0, Option.bind_some, Sum.elim_inr]
      show ((lTOwned_loop3 n n l (S : Int) (0 : Int) (0 : Int)).bind fun (o37 : ((List (List UInt8 × (List UInt8))) × (Int × (Int × (Unit)))) × (Unit) × (Unit)) => letO (IntKind.wrap .i64 (o37.1.2.1 + o37.1.2.2.1)) fun (n38 : Int) => (bif decide (n38 = ((List.length o37.1.1 : Nat) : Int)) then (some true).bind fun (r39 : Bool) => some r39 else some false)) = some true
      rw [h3, Option.bind_some]
      show (letO (IntKind.wrap .i64 ((S : Int) + (F : Int))) fun (n38 : Int) => (bif decide (n38 = ((List.length l : Nat) : Int)) then (some true).bind fun (r39 : Bool) => some r39 else some false)) = some true
      rw [wrap_add (by omega) (by omega), letO_some, decide_eq_true (by rw [hsum]), cond_true]
      rfl
theorem lTOwned_true (l : den (.lst FT)) (hl : okDen (.lst FT) l) : lTOwned_t fuel14 l = some true := lTOwned_P fuel14 (by decide) l hl.1
end Go.Proofs.YtngbpbncipjimabGreatDoor.AM
