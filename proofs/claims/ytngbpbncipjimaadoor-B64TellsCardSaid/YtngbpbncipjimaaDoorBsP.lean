/- Layer 13: the laws B64Back, B64Cut, B64Apart. -/
import Derived.Test.YtngbpbncipjimaaDoorBsG
namespace Go.Proofs
open Go.RowKit
set_option linter.unusedVariables false
set_option linter.unusedSimpArgs false
namespace YtngbpbncipjimaaDoor.AM
theorem inv_of {w : World} {p : Prop} (_h : p) : Inv w := trivial
theorem live13 (n : Nat) : lB13live_t n = some true := by
  have e : lB13live_t n = lB13live_t 0 := rfl
  rw [e]
  decide +kernel
theorem Size_spec (n x : Nat) (h : x ≤ 1099511627776) : fSize13_t n (x : Int) = some (((x + 2) / 3 * 4 : Nat) : Int) := by
  unfold fSize13_t
  rw [decide_eq_false (by omega), cond_false, decide_eq_false (by omega), cond_false, size_spec n x h]
  rfl
theorem cat_le {a b : List UInt8} (h : a.length + b.length ≤ 1000000) : catO a b = some (a ++ b) := by
  unfold catO
  rw [if_pos (by omega)]
theorem rem_nat {x k : Nat} (hk : k ≠ 0) : remO (x : Int) (k : Int) = some ((x % k : Nat) : Int) := by
  unfold remO
  rw [if_pos (by omega)]
  rfl
theorem decS_len (t : List UInt8) (h : t.length ≤ 100000) : (decS t).1.length ≤ 100000 := by
  obtain ⟨⟨x, b⟩, hd⟩ : ∃ p, decS t = p := ⟨_, rfl⟩
  rw [hd]
  cases b with
  | true =>
    have := congrArg List.length (dec_of hd)
    rw [enc_len] at this
    show x.length ≤ _
    omega
  | false => rw [(dec_not hd).1]; exact Nat.zero_le _
theorem lBBack_n (s t : List UInt8) (n : Nat) : lBBack_t n s t = some true := by
  unfold lBBack_t
  rw [live13]
  by_cases c1 : 4000 < s.length
  · rw [decide_eq_true (by omega), cond_true]; rfl
  by_cases c2 : 4000 < t.length
  · rw [decide_eq_false (by omega), cond_false, decide_eq_true (by omega), cond_true]; rfl
  have hl := enc_len s
  have hd : decS (encS s) = (s, true) := dec_yes rfl
  rw [decide_eq_false (by omega), cond_false, decide_eq_false (by omega), cond_false, fEnc13_some (by omega), Option.bind_some, fDec13_some (by omega), Option.bind_some, hd]
  rw [Bool.not_true, cond_false, decide_eq_true rfl, Bool.not_true, cond_false, Size_spec n s.length (by omega), Option.bind_some, decide_eq_true (by rw [hl]), Bool.not_true, cond_false, fDec13_some (by omega), Option.bind_some]
  have hr : remO ((s.length : Nat) : Int) (3 : Int) = some ((s.length % 3 : Nat) : Int) := rem_nat (k := 3) (by decide)
  rw [hr]
  have tail : ((some ((s.length % 3 : Nat) : Int)).bind fun (n8 : Int) => (bif !decide (n8 = (0 : Int)) then (some true).bind fun (r9 : Bool) => some r9 else (catO s t).bind fun (s10 : List UInt8) => (fEnc13_t s10).bind fun (r11 : List UInt8) => (fEnc13_t t).bind fun (r12 : List UInt8) => (catO (encS s) r12).bind fun (s13 : List UInt8) => (bif decide (r11 = s13) then (some true).bind fun (r14 : Bool) => some r14 else some false))) = some true := by
    rw [Option.bind_some]
    by_cases c : s.length % 3 = 0
    · have hl2 := enc_len t
      rw [c, decide_eq_true (show ((0 : Nat) : Int) = 0 from rfl), Bool.not_true, cond_false, cat_le (by omega), Option.bind_some, fEnc13_some (by rw [List.length_append]; omega), Option.bind_some, fEnc13_some (by omega), Option.bind_some, cat_le (by omega), Option.bind_some, decide_eq_true (enc_app s t c), cond_true]
      rfl
    · rw [decide_eq_false (by omega), Bool.not_false, cond_true]
      rfl
  obtain ⟨⟨x, b⟩, hdt⟩ : ∃ p, decS t = p := ⟨_, rfl⟩
  have hx := decS_len t (by omega)
  rw [hdt] at hx ⊢
  cases b with
  | true =>
    rw [cond_true, fEnc13_some (by have h : x.length ≤ 100000 := hx; exact Nat.le_trans h (by decide)), Option.bind_some, decide_eq_true (dec_of hdt), Bool.not_true, cond_false]
    exact tail
  | false =>
    rw [cond_false]
    exact tail
theorem lBCut_n (a : List UInt8) (g : Int) (n : Nat) : lBCut_t n a g = some true := by
  unfold lBCut_t
  rw [live13]
  by_cases c1 : 2000 < a.length
  · rw [decide_eq_true (by omega), cond_true]; rfl
  by_cases c2 : g < 0
  · rw [decide_eq_false (by omega), cond_false, decide_eq_true c2, cond_true]; rfl
  obtain ⟨k, rfl⟩ : ∃ k : Nat, g = (k : Int) := ⟨g.toNat, by omega⟩
  have e3 : quoO .i64 ((a.length : Nat) : Int) (3 : Int) = some ((a.length / 3 : Nat) : Int) := by
    unfold quoO
    rw [if_pos (by decide), show ((a.length : Nat) : Int).tdiv 3 = ((a.length / 3 : Nat) : Int) from rfl, wrap_nat (by omega)]
  rw [decide_eq_false (by omega), cond_false, decide_eq_false c2, cond_false, e3, Option.bind_some]
  by_cases c3 : a.length / 3 < k
  · rw [decide_eq_true (by omega), cond_true]; rfl
  have hl := enc_len a
  have e4 : IntKind.wrap .i64 ((4 : Int) * (k : Int)) = ((4 * k : Nat) : Int) := by rw [wrap64 (by omega) (by omega)]; rfl
  have e5 : IntKind.wrap .i64 ((3 : Int) * (k : Int)) = ((3 * k : Nat) : Int) := by rw [wrap64 (by omega) (by omega)]; rfl
  have hta : (a.take (3 * k)).length = 3 * k := by rw [List.length_take]; omega
  have hea : encS a = encS (a.take (3 * k)) ++ encS (a.drop (3 * k)) := by
    rw [← enc_app _ _ (by rw [hta]; omega), List.take_append_drop]
  have htl : (encS (a.take (3 * k))).length = 4 * k := by rw [enc_len, hta]; omega
  have s1 : subO (encS a) (0 : Int) ((4 * k : Nat) : Int) = some (encS (a.take (3 * k))) := by
    rw [sub_zero (by omega), hea, ← htl, List.take_left]
  have s2 : subO (encS a) ((4 * k : Nat) : Int) (((encS a).length : Nat) : Int) = some (encS (a.drop (3 * k))) := by
    rw [sub_le (by omega) (by omega), List.take_of_length_le (by rw [List.length_drop]; omega), hea, ← htl, List.drop_left]
  have hl2 := enc_len (a.drop (3 * k))
  have hdl : (a.drop (3 * k)).length ≤ 2000 := by rw [List.length_drop]; omega
  rw [decide_eq_false (by omega), cond_false, fEnc13_some (by omega), Option.bind_some, e4, letO_some, decide_eq_false (by omega), cond_false, letO_some, s1, Option.bind_some, fDec13_some (by omega), Option.bind_some, letO_some, s2, Option.bind_some, fDec13_some (by omega), Option.bind_some, dec_yes (s := a.take (3 * k)) rfl, dec_yes (s := a.drop (3 * k)) rfl, cond_true, cond_true]
  rw [cat_le (by show (a.take (3 * k)).length + (a.drop (3 * k)).length ≤ 1000000; omega), Option.bind_some, decide_eq_true (List.take_append_drop _ _), cond_true, e5, letO_some, decide_eq_true (by show (((a.take (3 * k)).length : Nat) : Int) = _; rw [hta]), cond_true]
  rfl
/-! unlike bytes have unlike signs; what signs are -/
def letB (c : Int) : Bool := (decide (65 ≤ c) && decide (c ≤ 90)) || (decide (97 ≤ c) && decide (c ≤ 122)) || (decide (48 ≤ c) && decide (c ≤ 57)) || decide (c = 43) || decide (c = 47)
theorem sg_let : ∀ k : Fin 64, letB (((sg k.val).toNat : Nat) : Int) = true := by decide +kernel
theorem sg_no61 {k : Nat} (h : k < 64) : ¬ (((sg k).toNat : Nat) : Int) = 61 := fun e => sg_pad h (UInt8.toNat.inj (by show (sg k).toNat = 61; omega))
def padN (l : Nat) : Nat := (3 - l % 3) % 3
theorem enc_shape : ∀ a : List UInt8, ∃ L : List UInt8, encS a = L ++ List.replicate (padN a.length) 61 ∧ ∀ c ∈ L, ∃ k, k < 64 ∧ c = sg k
  | a :: b :: c :: r => by
    obtain ⟨L, h1, h2⟩ := enc_shape r
    have ha := UInt8.toNat_lt a; have hb := UInt8.toNat_lt b; have hc := UInt8.toNat_lt c
    refine ⟨sg (a.toNat / 4) :: sg (a.toNat % 4 * 16 + b.toNat / 16) :: sg (b.toNat % 16 * 4 + c.toNat / 64) :: sg (c.toNat % 64) :: L, ?_, ?_⟩
    · have e : padN (a :: b :: c :: r).length = padN r.length := by unfold padN; simp only [List.length_cons]; omega
      rw [e]
      show _ :: _ :: _ :: _ :: encS r = _
      rw [h1]; rfl
    · intro x hx
      rcases List.mem_cons.1 hx with rfl | hx
      · exact ⟨_, by omega, rfl⟩
      rcases List.mem_cons.1 hx with rfl | hx
      · exact ⟨_, by omega, rfl⟩
      rcases List.mem_cons.1 hx with rfl | hx
      · exact ⟨_, by omega, rfl⟩
      rcases List.mem_cons.1 hx with rfl | hx
      · exact ⟨_, by omega, rfl⟩
      exact h2 x hx
  | [a, b] => by
    have ha := UInt8.toNat_lt a; have hb := UInt8.toNat_lt b
    refine ⟨[sg (a.toNat / 4), sg (a.toNat % 4 * 16 + b.toNat / 16), sg (b.toNat % 16 * 4)], rfl, fun x hx => ?_⟩
    rcases List.mem_cons.1 hx with rfl | hx
    · exact ⟨_, by omega, rfl⟩
    rcases List.mem_cons.1 hx with rfl | hx
    · exact ⟨_, by omega, rfl⟩
    rcases List.mem_cons.1 hx with rfl | hx
    · exact ⟨_, by omega, rfl⟩
    cases hx
  | [a] => by
    have ha := UInt8.toNat_lt a
    refine ⟨[sg (a.toNat / 4), sg (a.toNat % 4 * 16)], rfl, fun x hx => ?_⟩
    rcases List.mem_cons.1 hx with rfl | hx
    · exact ⟨_, by omega, rfl⟩
    rcases List.mem_cons.1 hx with rfl | hx
    · exact ⟨_, by omega, rfl⟩
    cases hx
  | [] => ⟨[], rfl, fun x hx => by cases hx⟩
set_option maxHeartbeats 4000000 in
theorem apart_body (n : Nat) (rec : (List UInt8) → (List UInt8) → Int → Int → Option (((Bool × (Unit)) × (Unit) × (Unit)) ⊕ (((List UInt8) × (Int × (Unit))) × (Unit) × (Unit)))) (a x : List UInt8) (p : Int) (i : Nat) (hi : i < x.length) :
    lBApart_l0 n rec a x p (i : Int) = bif decide (((x[i].toNat : Nat) : Int) = 61) then letO (IntKind.wrap .i64 (p + (1 : Int))) fun n7 => letO (IntKind.wrap .i64 ((i : Int) + (1 : Int))) fun n8 => rec a x n7 n8
      else bif letB ((x[i].toNat : Nat) : Int) then (bif decide ((0 : Int) < p) then some (Sum.inl ((false, ()), ((), ()))) else letO (IntKind.wrap .i64 ((i : Int) + (1 : Int))) fun (n9 : Int) => rec a x p n9) else some (Sum.inl ((false, ()), ((), ()))) := by
  unfold lBApart_l0
  rw [decide_eq_true (by omega), cond_true, sAt_lt hi, Option.bind_some]
  unfold letB
  generalize ((x[i].toNat : Nat) : Int) = c
  generalize (bif decide ((0 : Int) < p) then some (Sum.inl ((false, ()), ((), ()))) else letO (IntKind.wrap .i64 ((i : Int) + (1 : Int))) fun (n9 : Int) => rec a x p n9 : Option (((Bool × (Unit)) × (Unit) × (Unit)) ⊕ (((List UInt8) × (Int × (Unit))) × (Unit) × (Unit)))) = X
  generalize decide (65 ≤ c) = b1
  generalize decide (c ≤ 90) = b2
  generalize decide (97 ≤ c) = b3
  generalize decide (c ≤ 122) = b4
  generalize decide (48 ≤ c) = b5
  generalize decide (c ≤ 57) = b6
  generalize decide (c = 43) = b7
  generalize decide (c = 47) = b8
  generalize decide (c = 61) = b9
  cases b1 <;> cases b2 <;> cases b3 <;> cases b4 <;> cases b5 <;> cases b6 <;> cases b7 <;> cases b8 <;> cases b9 <;> rfl
theorem apart_pads (n : Nat) (a x : List UInt8) (hx : x.length ≤ 100000) : ∀ (m i p : Nat), x.length - i < m → i ≤ x.length → p ≤ i → (∀ j (h : j < x.length), i ≤ j → x[j] = 61) →
    lBApart_loop0 n m a x (p : Int) (i : Int) = some (Sum.inr ((a, (((p + (x.length - i) : Nat) : Int), ())), ((), ())))
  | 0, i, p, h, _, _, _ => by omega
  | m + 1, i, p, h, hi, hp, hall => by
    rw [lBApart_loop0_succ]
    by_cases c : i < x.length
    · rw [apart_body n _ a x p i c, hall i c (Nat.le_refl _), decide_eq_true (show (((61 : UInt8).toNat : Nat) : Int) = 61 from rfl), cond_true, wrap_succ (by omega), letO_some, wrap_succ (by omega), letO_some]
      have ih := apart_pads n a x hx m (i + 1) (p + 1) (by omega) (by omega) (by omega) (fun j h hj => hall j h (by omega))
      rw [show p + 1 + (x.length - (i + 1)) = p + (x.length - i) from by omega] at ih
      exact ih
    · obtain rfl : i = x.length := by omega
      unfold lBApart_l0
      rw [decide_eq_false (by omega), cond_false, Nat.sub_self, Nat.add_zero]
theorem apart_loop (n : Nat) (a x L : List UInt8) (q : Nat) (hx : x.length ≤ 100000) (hxe : x = L ++ List.replicate q 61) (hL : ∀ c ∈ L, ∃ k, k < 64 ∧ c = sg k) : ∀ (m i : Nat), x.length - i < m → i ≤ L.length →
    lBApart_loop0 n m a x (0 : Int) (i : Int) = some (Sum.inr ((a, (((q : Nat) : Int), ())), ((), ())))
  | 0, i, h, _ => by omega
  | m + 1, i, h, hi => by
    have hxl : x.length = L.length + q := by rw [hxe]; simp
    by_cases c : i < L.length
    · rw [lBApart_loop0_succ]
      have hi' : i < x.length := by omega
      have e : x[i] = L[i] := by subst hxe; exact List.getElem_append_left c
      obtain ⟨k, hk, hk2⟩ := hL _ (List.getElem_mem c)
      rw [apart_body n _ a x 0 i hi', e, hk2, decide_eq_false (sg_no61 hk), cond_false, sg_let ⟨k, hk⟩, cond_true, decide_eq_false (by decide), cond_false, wrap_succ (by omega), letO_some]
      exact apart_loop n a x L q hx hxe hL m (i + 1) (by omega) (by omega)
    · obtain rfl : i = L.length := by omega
      have h2 := apart_pads n a x hx (m + 1) L.length 0 h (by omega) (Nat.zero_le _) (fun j hj h3 => by
        subst hxe
        rw [List.getElem_append_right h3, List.getElem_replicate])
      rw [show 0 + (x.length - L.length) = q from by omega] at h2
      exact h2
theorem lBApart_n (a b : List UInt8) (n : Nat) (hn : 5000 ≤ n) : lBApart_t n a b = some true := by
  unfold lBApart_t
  rw [live13]
  by_cases c1 : 2000 < a.length
  · rw [decide_eq_true (by omega), cond_true]; rfl
  by_cases c2 : 2000 < b.length
  · rw [decide_eq_false (by omega), cond_false, decide_eq_true (by omega), cond_true]; rfl
  have hl := enc_len a
  have h1 : decide (decide (encS a = encS b) = decide (a = b)) = true := decide_eq_true (decide_eq_decide.2 ⟨enc_inj, fun e => by rw [e]⟩)
  have h2 : remO (((encS a).length : Nat) : Int) (4 : Int) = some (0 : Int) := by
    have := rem_nat (x := (encS a).length) (k := 4) (by decide)
    rw [show (encS a).length % 4 = 0 from by omega] at this
    exact this
  obtain ⟨L, e1, e2⟩ := enc_shape a
  have h3 := apart_loop n a (encS a) L (padN a.length) (by omega) e1 e2 n 0 (by omega) (Nat.zero_le _)
  have h4 : remO ((a.length : Nat) : Int) (3 : Int) = some ((a.length % 3 : Nat) : Int) := rem_nat (k := 3) (by decide)
  have h5 : IntKind.wrap .i64 ((3 : Int) - ((a.length % 3 : Nat) : Int)) = ((3 - a.length % 3 : Nat) : Int) := by rw [wrap64 (by omega) (by omega)]; omega
  have h6 : remO ((3 - a.length % 3 : Nat) : Int) (3 : Int) = some ((padN a.length : Nat) : Int) := rem_nat (k := 3) (by decide)
  rw [decide_eq_false (by omega), cond_false, decide_eq_false (by omega), cond_false, fEnc13_some (by omega), Option.bind_some, fEnc13_some (by omega), Option.bind_some, h1, Bool.not_true, cond_false, h2, Option.bind_some, decide_eq_true rfl, Bool.not_true, cond_false]
  rw [show ((0 : Nat) : Int) = (0 : Int) from rfl] at h3
  rw [h3, Option.bind_some, Sum.elim_inr]
  show ((remO ((a.length : Nat) : Int) (3 : Int)).bind fun (n35 : Int) => letO (IntKind.wrap .i64 ((3 : Int) - n35)) fun (n36 : Int) => (remO n36 (3 : Int)).bind fun (n37 : Int) => (bif decide (((padN a.length : Nat) : Int) = n37) then (some true).bind fun (r38 : Bool) => some r38 else some false)) = some true
  rw [h4, Option.bind_some, h5, letO_some, h6, Option.bind_some, decide_eq_true rfl, cond_true]
  rfl
theorem lBBack_true (s t : List UInt8) : lBBack_t 20000 s t = some true := lBBack_n s t 20000
theorem lBCut_true (a : List UInt8) (g : Int) : lBCut_t 20000 a g = some true := lBCut_n a g 20000
theorem lBApart_true (a b : List UInt8) : lBApart_t 20000 a b = some true := lBApart_n a b 20000 (by decide)
end YtngbpbncipjimaaDoor.AM
end Go.Proofs
