/- Layer 7: the texts as the document tells them. -/
import Derived.Test.YtgihkohggalefaaDoorVerL
import Derived.Test.YtgihkohggalefaaDoorVerR
namespace Go.Proofs.YtgihkohggalefaaDoor.AM
open Go.RowKit
set_option linter.unusedVariables false
set_option linter.unusedSimpArgs false
theorem itoa_rec {a : Int} (h0 : 0 ≤ a) : Lib.itoa a = if a < 10 then [UInt8.ofNat (48 + a.toNat)] else Lib.itoa (a / 10) ++ [UInt8.ofNat (48 + (a % 10).toNat)] := by
  rw [itoa_dec h0, Lib.decDigits]
  by_cases h : a < 10
  · rw [if_pos h, dif_pos (by omega)]
  · rw [if_neg h, dif_neg (by omega), itoa_dec (by omega)]
    rw [show (a / 10).toNat = a.toNat / 10 from by omega, show (a % 10).toNat = a.toNat % 10 from by omega]
theorem rNumber_spec : ∀ (k : Nat) (a : Int), 0 ≤ a → a < 10 ^ (k + 1) → k ≤ 15 → rNumber_r (k + 1) a = some (Lib.itoa a) := by
  intro k
  induction k with
  | zero =>
    intro a h0 h1 _
    have h1' : a < 10 := by simpa using h1
    unfold rNumber_r
    have e1 : remO a 10 = some (a % 10) := by unfold remO; rw [if_pos (by decide), Int.tmod_eq_emod_of_nonneg h0]
    have w1 : IntKind.wrap .i64 (48 + a % 10) = 48 + a % 10 := wrap64 (by omega) (by omega)
    have w2 : IntKind.wrap .u8 (48 + a % 10) = 48 + a % 10 := wrap8 (by omega) (by omega)
    have c1 : ¬ (10 : Int) ≤ a := by omega
    simp only [e1, Option.bind_some, letO, w1, w2, c1, decide_false, cond_false]
    rw [itoa_rec h0, if_pos h1']
    simp only [List.map_cons, List.map_nil]
    rw [show (48 + a % 10).toNat = 48 + a.toNat from by omega]
  | succ k ih =>
    intro a h0 h1 hk
    unfold rNumber_r
    have e1 : remO a 10 = some (a % 10) := by unfold remO; rw [if_pos (by decide), Int.tmod_eq_emod_of_nonneg h0]
    have w1 : IntKind.wrap .i64 (48 + a % 10) = 48 + a % 10 := wrap64 (by omega) (by omega)
    have w2 : IntKind.wrap .u8 (48 + a % 10) = 48 + a % 10 := wrap8 (by omega) (by omega)
    have hp : (10 : Int) ^ (k + 1 + 1) = 10 * 10 ^ (k + 1) := by rw [Int.pow_succ]; omega
    have hb : (10 : Int) ^ (k + 1) ≤ 10 ^ 16 := by
      have := Nat.pow_le_pow_right (n := 10) (by decide) (show k + 1 ≤ 16 by omega)
      have e2 : ((10 ^ (k + 1) : Nat) : Int) = (10 : Int) ^ (k + 1) := by simp
      have e3 : ((10 ^ 16 : Nat) : Int) = (10 : Int) ^ 16 := by simp
      rw [← e2, ← e3]; omega
    have e9 : (10 : Int) ^ 16 = 10000000000000000 := by decide
    rw [hp] at h1
    rw [e9] at hb
    simp only [e1, Option.bind_some, letO, w1, w2]
    rw [itoa_rec h0]
    by_cases c1 : (10 : Int) ≤ a
    · have q1 : quoO .i64 a 10 = some (a / 10) := by
        unfold quoO; rw [if_pos (by decide), Int.tdiv_eq_ediv_of_nonneg h0, wrap64 (by omega) (by omega)]
      have i1 := ih (a / 10) (by omega) (by omega) (by omega)
      have c2 : ¬ a < 10 := by omega
      have hlen : (Lib.itoa (a / 10)).length ≤ 20 := by
        rw [itoa_dec (by omega)]
        have := dec_len 19 (a / 10).toNat (by omega)
        omega
      simp only [c1, decide_true, cond_true, q1, Option.bind_some, i1, c2, if_false, List.map_cons, List.map_nil]
      rw [cat_ok (by simp; omega)]
      rw [show (48 + a % 10).toNat = 48 + (a % 10).toNat from by omega]
      rfl
    · have c2 : a < 10 := by omega
      simp only [c1, c2, decide_false, cond_false, if_true, List.map_cons, List.map_nil]
      rw [show (48 + a % 10).toNat = 48 + a.toNat from by omega]
theorem rNumber_ok' (n : Nat) {a : Int} (h : 0 ≤ a ∧ a ≤ 999999999) (hn : 10 ≤ n) : ∀ k, n = k + 10 → rNumber_r n a = some (Lib.itoa a) := by
  -- more levels tell the same
  have more : ∀ (k : Nat) (a : Int) (r : List UInt8), rNumber_r k a = some r → rNumber_r (k + 1) a = some r := by
    intro k
    induction k with
    | zero => intro a r hr; cases hr
    | succ k ih =>
      intro a r hr
      rw [rNumber_r] at hr ⊢
      cases e1 : remO a 10 with
      | none => rw [e1] at hr; cases hr
      | some n1 =>
        rw [e1] at hr
        simp only [Option.bind_some, letO] at hr ⊢
        by_cases c1 : (10 : Int) ≤ a
        · simp only [c1, decide_true, cond_true] at hr ⊢
          cases e2 : quoO .i64 a 10 with
          | none => rw [e2] at hr; cases hr
          | some n4 =>
            rw [e2] at hr
            simp only [Option.bind_some] at hr ⊢
            cases e3 : rNumber_r k n4 with
            | none => rw [e3] at hr; cases hr
            | some r5 =>
              rw [e3] at hr
              rw [ih n4 r5 e3]
              exact hr
        · simp only [c1, decide_false, cond_false] at hr ⊢
          exact hr
  intro k
  induction k generalizing n with
  | zero =>
    rintro rfl
    exact rNumber_spec 9 a h.1 (by have : (10 : Int) ^ (9 + 1) = 10000000000 := by decide
                                   rw [this]; omega) (by decide)
  | succ k ih =>
    rintro rfl
    exact more _ _ _ (ih (k + 10) (by omega) rfl)
theorem rNumber_all (n : Nat) {a : Int} (h : 0 ≤ a ∧ a ≤ 999999999) (hn : 10 ≤ n) : rNumber_r n a = some (Lib.itoa a) := rNumber_ok' n h hn (n - 10) (by omega)
theorem rText_spec (n : Nat) (v : VD) (hn : 100 ≤ n) : rText_t n v = some (textS v) := by
  unfold rText_t textS
  rw [rCheck_spec n v hn]
  cases hc : checkS v with
  | false => rfl
  | true =>
    obtain ⟨h1, h2, h3, h4, h5⟩ := checkS_some hc
    have l1 := itoa_len h1
    have l2 := itoa_len h2
    have l3 := itoa_len h3
    have t1 := tail_len h4
    have t2 := tail_len h5
    simp only [Option.bind_some, Bool.not_true, cond_false, rNumber_all n h1 (by omega), rNumber_all n h2 (by omega), rNumber_all n h3 (by omega), if_true]
    unfold rawT tailT
    generalize Lib.itoa v.1 = A at l1
    generalize Lib.itoa v.2.1 = B at l2
    generalize Lib.itoa v.2.2.1 = C at l3
    generalize v.2.2.2.1 = p at t1
    generalize v.2.2.2.2 = q at t2
    rw [cat_ok (by simp; omega)]; simp only [Option.bind_some]
    rw [cat_ok (by simp; omega)]; simp only [Option.bind_some]
    rw [cat_ok (by simp; omega)]; simp only [Option.bind_some]
    rw [cat_ok (by simp; omega)]; simp only [Option.bind_some]
    rw [cat_ok (by simp; omega)]; simp only [Option.bind_some]
    by_cases hp : p = []
    · by_cases hq : q = []
      · simp [hp, hq]
      · simp only [hp, hq, decide_true, decide_false, Bool.not_true, Bool.not_false, cond_true, cond_false]
        rw [cat_ok (by simp; omega)]; simp only [Option.bind_some]
        rw [cat_ok (by simp; omega)]
        simp
    · by_cases hq : q = []
      · simp only [hp, hq, decide_true, decide_false, Bool.not_true, Bool.not_false, cond_true, cond_false]
        rw [cat_ok (by simp; omega)]; simp only [Option.bind_some]
        rw [cat_ok (by simp; omega)]
        simp
      · simp only [hp, hq, decide_true, decide_false, Bool.not_true, Bool.not_false, cond_true, cond_false]
        rw [cat_ok (by simp; omega)]; simp only [Option.bind_some]
        rw [cat_ok (by simp; omega)]; simp only [Option.bind_some]
        rw [cat_ok (by simp; omega)]; simp only [Option.bind_some]
        rw [cat_ok (by simp; omega)]
        simp
theorem rFind_loopP (n : Nat) (s : List UInt8) (c : UInt8) (hs : s.length ≤ 1000000) : ∀ m j : Nat, j ≤ s.length → s.length - j < m → rFind_loop0 n m s ((c.toNat : Nat) : Int) (j : Int) = some (if Lib.index (s.drop j) [c] = -1 then Sum.inr ((), ((), ())) else Sum.inl (((j : Int) + Lib.index (s.drop j) [c], ()), ((), ())))
  | 0, j, _, h => absurd h (Nat.not_lt_zero _)
  | m + 1, j, hj, h => by
    rw [rFind_loop0_succ]
    unfold rFind_l0
    by_cases c0 : j < s.length
    · have c0' : ((j : Nat) : Int) < ((s.length : Nat) : Int) := by omega
      have ih := rFind_loopP n s c hs m (j + 1) (by omega) (by omega)
      have hd : s.drop j = s[j] :: s.drop (j + 1) := (List.drop_eq_getElem_cons c0)
      have hc : decide (((s[j].toNat : Nat) : Int) = ((c.toNat : Nat) : Int)) = decide (s[j] = c) := by
        apply decide_eq_decide.2
        constructor
        · intro hh; exact UInt8.toNat_inj.1 (by omega)
        · intro hh; rw [hh]
      simp only [c0', decide_true, cond_true, sAt_lt c0, Option.bind_some, letO, wrap_succ (show j < 4611686018427387904 by omega), hc, hd]
      by_cases h1 : s[j] = c
      · have := index_self c (s.drop (j + 1))
        rw [h1, this]
        simp
      · rw [index_ne h1]
        simp only [h1, decide_false, cond_false, ih]
        have hge := Lib.index_ge (s.drop (j + 1)) [c]
        by_cases h2 : Lib.index (s.drop (j + 1)) [c] = -1
        · simp [h2]
        · have h3 : ¬ (Lib.index (s.drop (j + 1)) [c] == -1) = true := fun e => h2 (beq_iff_eq.1 e)
          have h4 : ¬ Lib.index (s.drop (j + 1)) [c] + 1 = -1 := by omega
          rw [if_neg h3, if_neg h4, if_neg h2]
          congr 4
          omega
    · have c0' : ¬ ((j : Nat) : Int) < ((s.length : Nat) : Int) := by omega
      have hd : s.drop j = [] := List.drop_eq_nil_of_le (by omega)
      have : Lib.index ([] : List UInt8) [c] = -1 := index_miss c [] (by simp)
      simp only [c0', decide_false, cond_false, hd, this, if_true]
theorem rFind_spec (n : Nat) (s : List UInt8) (c : UInt8) (hs : s.length ≤ 1000000) (hn : s.length < n) : rFind_t n s ((c.toNat : Nat) : Int) = some (Lib.index s [c]) := by
  unfold rFind_t
  have h := rFind_loopP n s c hs n 0 (Nat.zero_le _) (by omega)
  rw [show ((0 : Nat) : Int) = (0 : Int) from rfl, List.drop_zero] at h
  rw [h]
  by_cases h1 : Lib.index s [c] = -1
  · simp [h1]
  · simp [h1]
theorem rRead_loopP (n : Nat) (s : List UInt8) (hs : s.length ≤ 9) (hd : s.all isDig = true) : ∀ (m j : Nat) (a : Int), j ≤ s.length → s.length - j < m → 0 ≤ a → a < 10 ^ j → rRead_loop0 n m s a (j : Int) = some ((valS a (s.drop j), ()), ((), ()))
  | 0, j, _, _, h, _, _ => absurd h (Nat.not_lt_zero _)
  | m + 1, j, a, hj, h, ha, hb => by
    rw [rRead_loop0_succ]
    unfold rRead_l0
    by_cases c0 : j < s.length
    · have c0' : ((j : Nat) : Int) < ((s.length : Nat) : Int) := by omega
      have hdr : s.drop j = s[j] :: s.drop (j + 1) := (List.drop_eq_getElem_cons c0)
      have hdg := List.all_eq_true.1 hd s[j] (List.getElem_mem c0)
      unfold isDig at hdg
      simp only [Bool.and_eq_true, decide_eq_true_eq] at hdg
      have hp : (10 : Int) ^ (j + 1) = 10 * 10 ^ j := by rw [Int.pow_succ]; omega
      have hbb : (10 : Int) ^ j ≤ 10 ^ 9 := by
        have := Nat.pow_le_pow_right (n := 10) (by decide) (show j ≤ 9 by omega)
        have e2 : ((10 ^ j : Nat) : Int) = (10 : Int) ^ j := by simp
        have e3 : ((10 ^ 9 : Nat) : Int) = (10 : Int) ^ 9 := by simp
        rw [← e2, ← e3]; omega
      have e9 : (10 : Int) ^ 9 = 1000000000 := by decide
      rw [e9] at hbb
      have ih := rRead_loopP n s hs hd m (j + 1) (10 * a + s[j].toNat - 48) (by omega) (by omega) (by omega) (by rw [hp]; omega)
      have w1 : IntKind.wrap .i64 (10 * a) = 10 * a := wrap64 (by omega) (by omega)
      have w2 : IntKind.wrap .i64 ((s[j].toNat : Nat) : Int) = ((s[j].toNat : Nat) : Int) := wrap64 (by omega) (by omega)
      have w3 : IntKind.wrap .i64 (10 * a + ((s[j].toNat : Nat) : Int)) = 10 * a + ((s[j].toNat : Nat) : Int) := wrap64 (by omega) (by omega)
      have w4 : IntKind.wrap .i64 (10 * a + ((s[j].toNat : Nat) : Int) - 48) = 10 * a + ((s[j].toNat : Nat) : Int) - 48 := wrap64 (by omega) (by omega)
      simp only [c0', decide_true, cond_true, sAt_lt c0, Option.bind_some, letO, wrap_succ (show j < 4611686018427387904 by omega), w1, w2, w3, w4, ih]
      rw [hdr, valS]
    · have c0' : ¬ ((j : Nat) : Int) < ((s.length : Nat) : Int) := by omega
      have hdr : s.drop j = [] := List.drop_eq_nil_of_le (by omega)
      simp only [c0', decide_false, cond_false, hdr, valS]
theorem rRead_spec (n : Nat) (s : List UInt8) (hs : s.length ≤ 1000000) (hn : s.length < n ∧ 10 ≤ n) : rRead_t n s = some (readS s) := by
  unfold rRead_t readS
  rw [rDigits_spec n s hs hn.1]
  cases hd : isNumS s with
  | false => rfl
  | true =>
    by_cases h9 : s.length ≤ 9
    · have c1 : ¬ (9 : Int) < ((s.length : Nat) : Int) := by omega
      have ha : s.all isDig = true := by unfold isNumS at hd; simp only [Bool.and_eq_true] at hd; exact hd.1
      have h := rRead_loopP n s h9 ha n 0 0 (Nat.zero_le _) (by omega) (by decide) (by decide)
      rw [show ((0 : Nat) : Int) = (0 : Int) from rfl, List.drop_zero] at h
      simp only [Option.bind_some, Bool.not_true, cond_false, c1, decide_false, h, h9, decide_true, Bool.and_self, if_true]
    · have c1 : (9 : Int) < ((s.length : Nat) : Int) := by omega
      simp only [Option.bind_some, Bool.not_true, cond_false, c1, decide_true, cond_true, h9, decide_false, Bool.and_false, Bool.false_eq_true, if_false]
/-- what stands behind the cuts -/
def restS (s : List UInt8) (l : List (List UInt8)) (p b : List UInt8) : VD × Bool := match l with
  | [x, y, z] => if textS (readS x, (readS y, (readS z, (p, b)))) = s then ((readS x, (readS y, (readS z, (p, b)))), true) else (v0, false)
  | _ => (v0, false)
theorem rest_spec (n : Nat) (s r p b : List UInt8) (hr : r.length ≤ 1000) (hn : 2000 ≤ n) :
    ((rSplit5_t n r (46 : Int)).bind fun (r11 : List (List UInt8)) => (bif !decide (((List.length r11 : Nat) : Int) = (3 : Int)) then some (((0 : Int), ((0 : Int), ((0 : Int), (([] : List UInt8), ([] : List UInt8))))), false) else (idxL r11 (0 : Int)).bind fun (x12 : List UInt8) => (rRead_t n x12).bind fun (r13 : Int) => (idxL r11 (1 : Int)).bind fun (x14 : List UInt8) => (rRead_t n x14).bind fun (r15 : Int) => (idxL r11 (2 : Int)).bind fun (x16 : List UInt8) => (rRead_t n x16).bind fun (r17 : Int) => (rText_t n (r13, (r15, (r17, (p, b))))).bind fun (r18 : List UInt8) => (bif !decide (r18 = s) then some (((0 : Int), ((0 : Int), ((0 : Int), (([] : List UInt8), ([] : List UInt8))))), false) else some ((r13, (r15, (r17, (p, b)))), true)))) = some (restS s (spl 46 [] r) p b) := by
  have e1 : rSplit5_t n r (46 : Int) = some (spl 46 [] r) := rSplit5_P n r 46 (by omega) (by omega)
  have hm : ∀ w ∈ spl 46 [] r, w.length ≤ 1000 := fun w hw => by have := spl_mem 46 r [] w hw; simp at this; omega
  rw [e1]
  simp only [Option.bind_some]
  generalize spl 46 [] r = l at hm
  unfold restS
  match l, hm with
  | [], _ => simp
  | [_], _ => simp
  | [_, _], _ => simp
  | [x, y, z], hm =>
    have hx := hm x (by simp)
    have hy := hm y (by simp)
    have hz := hm z (by simp)
    have i0 : idxL [x, y, z] (0 : Int) = some x := rfl
    have i1 : idxL [x, y, z] (1 : Int) = some y := rfl
    have i2 : idxL [x, y, z] (2 : Int) = some z := rfl
    have c3 : ((List.length [x, y, z] : Nat) : Int) = 3 := by simp
    simp only [c3, decide_true, Bool.not_true, cond_false, i0, i1, i2, Option.bind_some, rRead_spec n x (by omega) ⟨by omega, by omega⟩, rRead_spec n y (by omega) ⟨by omega, by omega⟩, rRead_spec n z (by omega) ⟨by omega, by omega⟩, rText_spec n _ (show 100 ≤ n by omega)]
    by_cases h : textS (readS x, (readS y, (readS z, (p, b)))) = s
    · simp only [h, decide_true, Bool.not_true, cond_false, if_true]
    · simp only [h, decide_false, Bool.not_false, cond_true, if_false]
  | _ :: _ :: _ :: _ :: t, _ =>
    have : ¬ ((((t.length + 1 + 1 + 1 + 1 : Nat)) : Int) = 3) := by omega
    simp only [List.length_cons, this, decide_false, Bool.not_false, cond_true]
theorem rParse_spec (n : Nat) (s : List UInt8) (hs : s.length ≤ 200) (hn : 2000 ≤ n) : rParse_t n s = some (parseS s) := by
  have goal : rParse_t n s = some (if s.length ≤ 100 ∧ s.head? = some 118 then restS s (spl 46 [] (cut1 45 (cut1 43 (s.drop 1)))) (cut2 45 (cut1 43 (s.drop 1))) (cut2 43 (s.drop 1)) else (v0, false)) := by
    unfold rParse_t
    by_cases c1 : (100 : Int) < ((s.length : Nat) : Int)
    · have : ¬ s.length ≤ 100 := by omega
      simp [c1, this]
    · have c1' : s.length ≤ 100 := by omega
      cases s with
      | nil => simp
      | cons c r =>
        have c2 : ¬ (((c :: r).length : Nat) : Int) = 0 := by simp; omega
        have i0 : sAt (c :: r) (0 : Int) = some ((c.toNat : Nat) : Int) := sAt_lt (s := c :: r) (j := 0) (by simp)
        have h1 : decide (((c.toNat : Nat) : Int) = (118 : Int)) = decide (c = 118) := decide_eq_decide.2 (by
          constructor
          · intro h; exact UInt8.toNat_inj.1 (by have e : (118 : UInt8).toNat = 118 := rfl; rw [e]; omega)
          · rintro rfl; rfl)
        have s1 : subO (c :: r) (1 : Int) (((c :: r).length : Nat) : Int) = some r := by
          have := sub_le (l := c :: r) (a := 1) (b := (c :: r).length) (by simp) (Nat.le_refl _)
          rw [show (1 : Int) = ((1 : Nat) : Int) from rfl, this]; simp
        simp only [c1, c2, decide_false, cond_false, i0, Option.bind_some, h1, c1', true_and, List.head?_cons, Option.some.injEq, List.drop_succ_cons, List.drop_zero]
        by_cases h118 : c = 118
        · subst h118
          have hr : r.length ≤ 200 := by simp at c1'; omega
          have f43 : rFind_t n r (43 : Int) = some (Lib.index r [43]) := rFind_spec n r 43 (by omega) (by omega)
          simp only [decide_true, Bool.not_true, cond_false, s1, Option.bind_some, f43, if_true]
          -- the two cuts
          have cut45 : ∀ (q b : List UInt8), q.length ≤ 200 →
              ((rFind_t n q (45 : Int)).bind fun (r7 : Int) => (bif decide ((0 : Int) ≤ r7) then letO (IntKind.wrap .i64 (r7 + (1 : Int))) fun (n8 : Int) => (subO q n8 ((List.length q : Nat) : Int)).bind fun (s9 : List UInt8) => (subO q (0 : Int) r7).bind fun (s10 : List UInt8) => (rSplit5_t n s10 (46 : Int)).bind fun (r11 : List (List UInt8)) => (bif !decide (((List.length r11 : Nat) : Int) = (3 : Int)) then some (((0 : Int), ((0 : Int), ((0 : Int), (([] : List UInt8), ([] : List UInt8))))), false) else (idxL r11 (0 : Int)).bind fun (x12 : List UInt8) => (rRead_t n x12).bind fun (r13 : Int) => (idxL r11 (1 : Int)).bind fun (x14 : List UInt8) => (rRead_t n x14).bind fun (r15 : Int) => (idxL r11 (2 : Int)).bind fun (x16 : List UInt8) => (rRead_t n x16).bind fun (r17 : Int) => (rText_t n (r13, (r15, (r17, (s9, b))))).bind fun (r18 : List UInt8) => (bif !decide (r18 = 118 :: r) then some (((0 : Int), ((0 : Int), ((0 : Int), (([] : List UInt8), ([] : List UInt8))))), false) else some ((r13, (r15, (r17, (s9, b)))), true)))
                else (rSplit5_t n q (46 : Int)).bind fun (r19 : List (List UInt8)) => (bif !decide (((List.length r19 : Nat) : Int) = (3 : Int)) then some (((0 : Int), ((0 : Int), ((0 : Int), (([] : List UInt8), ([] : List UInt8))))), false) else (idxL r19 (0 : Int)).bind fun (x20 : List UInt8) => (rRead_t n x20).bind fun (r21 : Int) => (idxL r19 (1 : Int)).bind fun (x22 : List UInt8) => (rRead_t n x22).bind fun (r23 : Int) => (idxL r19 (2 : Int)).bind fun (x24 : List UInt8) => (rRead_t n x24).bind fun (r25 : Int) => (rText_t n (r21, (r23, (r25, (([] : List UInt8), b))))).bind fun (r26 : List UInt8) => (bif !decide (r26 = 118 :: r) then some (((0 : Int), ((0 : Int), ((0 : Int), (([] : List UInt8), ([] : List UInt8))))), false) else some ((r21, (r23, (r25, (([] : List UInt8), b)))), true))))) = some (restS (118 :: r) (spl 46 [] (cut1 45 q)) (cut2 45 q) b) := by
            intro q b hq
            have f45 : rFind_t n q (45 : Int) = some (Lib.index q [45]) := rFind_spec n q 45 (by omega) (by omega)
            rw [f45]
            simp only [Option.bind_some]
            have hge := Lib.index_ge q [45]
            unfold cut1 cut2
            by_cases k1 : Lib.index q [45] = -1
            · have k2 : ¬ (0 : Int) ≤ -1 := by decide
              simp only [k1, k2, decide_false, cond_false, if_true]
              exact rest_spec n (118 :: r) q [] b (by omega) hn
            · obtain ⟨i, hi⟩ : ∃ i : Nat, Lib.index q [45] = (i : Int) := ⟨(Lib.index q [45]).toNat, by omega⟩
              have hlt := index_lt 45 q i hi
              have n1 : ¬ ((i : Nat) : Int) = -1 := by omega
              have n2 : (0 : Int) ≤ ((i : Nat) : Int) := by omega
              rw [hi]
              have e6 : (q.drop (i + 1)).take (q.length - (i + 1)) = q.drop (i + 1) := List.take_of_length_le (by rw [List.length_drop]; exact Nat.le_refl _)
              simp only [n1, n2, decide_true, cond_true, if_false, letO, wrap_succ (show i < 4611686018427387904 by omega), sub_le (show i + 1 ≤ q.length by omega) (Nat.le_refl _), sub_zero (show i ≤ q.length by omega), Option.bind_some, Int.toNat_natCast, e6]
              exact rest_spec n (118 :: r) (q.take i) (q.drop (i + 1)) b (by rw [List.length_take]; omega) hn
          have hge := Lib.index_ge r [43]
          by_cases k1 : Lib.index r [43] = -1
          · have k2 : ¬ (0 : Int) ≤ -1 := by decide
            have u1 : cut1 43 r = r := by unfold cut1; rw [if_pos k1]
            have u2 : cut2 43 r = [] := by unfold cut2; rw [if_pos k1]
            simp only [k1, k2, decide_false, cond_false, u1, u2]
            exact cut45 r [] hr
          · obtain ⟨i, hi⟩ : ∃ i : Nat, Lib.index r [43] = (i : Int) := ⟨(Lib.index r [43]).toNat, by omega⟩
            have hlt := index_lt 43 r i hi
            have n1 : ¬ ((i : Nat) : Int) = -1 := by omega
            have n2 : (0 : Int) ≤ ((i : Nat) : Int) := by omega
            have u1 : cut1 43 r = r.take i := by unfold cut1; rw [if_neg k1, hi, Int.toNat_natCast]
            have u2 : cut2 43 r = r.drop (i + 1) := by unfold cut2; rw [if_neg k1, hi, Int.toNat_natCast]
            rw [hi]
            have e6 : (r.drop (i + 1)).take (r.length - (i + 1)) = r.drop (i + 1) := List.take_of_length_le (by rw [List.length_drop]; exact Nat.le_refl _)
            simp only [n2, decide_true, cond_true, letO, wrap_succ (show i < 4611686018427387904 by omega), sub_le (show i + 1 ≤ r.length by omega) (Nat.le_refl _), sub_zero (show i ≤ r.length by omega), Option.bind_some, u1, u2, e6]
            exact cut45 (r.take i) (r.drop (i + 1)) (by rw [List.length_take]; omega)
        · simp [h118]
  rw [goal]
  congr 1
  by_cases ex : ∃ v, checkS v = true ∧ textS v = s
  · obtain ⟨v, hc, ht⟩ := ex
    rw [parse_of hc ht]
    have e1 : s = rawT v := by rw [← ht]; unfold textS; rw [if_pos hc]
    have hl := raw_len hc
    have hcand := candR_raw hc
    rw [← e1] at hl hcand
    rw [if_pos ⟨by omega, by rw [e1]; rfl⟩]
    unfold candR at hcand
    unfold restS
    split at hcand
    · rename_i x y z hsp
      rw [hsp]
      have hv := Option.some.inj hcand
      simp only [hv]
      rw [if_pos ht]
    · cases hcand
  · have hno : ∀ v, checkS v = true → textS v ≠ s := fun v h1 h2 => ex ⟨v, h1, h2⟩
    rw [parse_none hno]
    by_cases c : s.length ≤ 100 ∧ s.head? = some 118
    · rw [if_pos c]
      unfold restS
      split
      · rename_i x y z hsp
        rw [if_neg]
        intro ht
        have hne : s ≠ [] := fun e => by rw [e] at c; simp at c
        refine hno _ ?_ ht
        unfold textS at ht
        split at ht
        · assumption
        · exact absurd ht.symm hne
      · rfl
    · rw [if_neg c]
theorem vtells_true (v : VD) (s : List UInt8) : vtells_t 2000 v s = some true := by
  have hl := vlive_true 2000 (by decide)
  unfold vtells_t
  generalize decide ((200 : Int) < ((v.2.2.2.1.length : Nat) : Int)) = g1
  generalize decide ((200 : Int) < ((v.2.2.2.2.length : Nat) : Int)) = g2
  cases g1 with
  | true => simp only [cond_true, hl, Option.bind_some]
  | false => cases g2 with
    | true => simp only [cond_true, cond_false, hl, Option.bind_some]
    | false =>
      by_cases c : (200 : Int) < ((s.length : Nat) : Int)
      · simp only [c, decide_true, cond_true, cond_false, hl, Option.bind_some]
      · simp only [c, decide_false, cond_false, vParse_spec 2000 s (by omega) (by decide), rParse_spec 2000 s (by omega) (by decide), vCheck_spec 2000 v (by decide), rCheck_spec 2000 v (by decide), vText_spec 2000 v (by decide), rText_spec 2000 v (by decide), Option.bind_some, decide_true, cond_true, Bool.and_self, hl]
end Go.Proofs.YtgihkohggalefaaDoor.AM
