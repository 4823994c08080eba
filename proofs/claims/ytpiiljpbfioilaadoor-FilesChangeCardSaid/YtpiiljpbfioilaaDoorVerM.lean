/- Layer 7: what a version is, its text, its order, what it is bumped to: mathematics, no program. -/
import Derived.Test.YtpiiljpbfioilaaDoorOrd
import Derived.Test.YtpiiljpbfioilaaDoorSpl
import Derived.Lib.ItoaNum
import Derived.Lib.AtoiAll
namespace Go.Proofs.YtpiiljpbfioilaaDoor.AM
open Go.RowKit
set_option linter.unusedVariables false
set_option linter.unusedSimpArgs false
abbrev VD := Int × (Int × (Int × (List UInt8 × List UInt8)))
abbrev v0 : VD := (0, (0, (0, ([], []))))
def isDig (c : UInt8) : Bool := decide (48 ≤ c.toNat) && decide (c.toNat ≤ 57)
def isSg (c : UInt8) : Bool := (decide (97 ≤ c.toNat) && decide (c.toNat ≤ 122)) || (decide (65 ≤ c.toNat) && decide (c.toNat ≤ 90)) || isDig c || decide (c.toNat = 45)
def isNumS (s : List UInt8) : Bool := s.all isDig && !decide (s = [])
def isPartS (s : List UInt8) : Bool := s.all isSg && !decide (s = [])
def isPreS (s : List UInt8) : Bool := isPartS s && (decide (s = [48]) || !decide (s.head? = some 48) || !isNumS s)
def tailS (p : List UInt8 → Bool) (s : List UInt8) : Bool := decide (s = []) || (decide (s.length ≤ 30) && (spl 46 [] s).all p)
def numS (n : Int) : Bool := decide (0 ≤ n) && decide (n ≤ 999999999)
def checkS (v : VD) : Bool := numS v.1 && numS v.2.1 && numS v.2.2.1 && tailS isPreS v.2.2.2.1 && tailS isPartS v.2.2.2.2
def tailT (c : UInt8) (s : List UInt8) : List UInt8 := if s = [] then [] else c :: s
def rawT (v : VD) : List UInt8 := 118 :: (Lib.itoa v.1 ++ 46 :: (Lib.itoa v.2.1 ++ 46 :: (Lib.itoa v.2.2.1 ++ (tailT 45 v.2.2.2.1 ++ tailT 43 v.2.2.2.2))))
def textS (v : VD) : List UInt8 := if checkS v then rawT v else []
/-! the order -/
def wkey (w : List UInt8) : Int × (Int × List UInt8) := if isNumS w then (0, (w.length, w)) else (1, (0, w))
def cmpW (x y : List UInt8) : Int := cmpP cmpI (cmpP cmpI (cmpL cmpB)) (wkey x) (wkey y)
def pkey (p : List UInt8) : Int × List (List UInt8) := (if p = [] then 1 else 0, spl 46 [] p)
def cmpPre (a b : List UInt8) : Int := cmpP cmpI (cmpL cmpW) (pkey a) (pkey b)
def core (v : VD) : Int × (Int × (Int × List UInt8)) := (v.1, (v.2.1, (v.2.2.1, v.2.2.2.1)))
def cmpC (x y : Int × (Int × (Int × List UInt8))) : Int := cmpP cmpI (cmpP cmpI (cmpP cmpI cmpPre)) x y
def cmpV (v w : VD) : Int := if checkS v && checkS w then cmpC (core v) (core w) else 0
theorem wkey_inj (x y : List UInt8) (h : wkey x = wkey y) : x = y := by
  unfold wkey at h
  split at h <;> split at h <;> simp at h <;> first | exact h.2 | exact h
theorem cmpW_cmp : Cmp cmpW := (cmpP_cmp cmpI_cmp (cmpP_cmp cmpI_cmp (cmpL_cmp cmpB_cmp))).key wkey wkey_inj
def unspl (c : UInt8) : List (List UInt8) → List UInt8
  | [] => []
  | [x] => x
  | x :: y :: t => x ++ c :: unspl c (y :: t)
theorem spl_ne (c : UInt8) (l cur : List UInt8) : spl c cur l ≠ [] := fun h => by have := (spl_len c l cur).1; rw [h] at this; simp at this
theorem unspl_spl (c : UInt8) : ∀ (l cur : List UInt8), unspl c (spl c cur l) = cur ++ l
  | [], cur => by simp [spl, unspl]
  | b :: l, cur => by
    rw [spl]
    split
    · rename_i h; subst h
      have ih := unspl_spl b l []
      cases hs : spl b [] l with
      | nil => exact absurd hs (spl_ne b l [])
      | cons y t => rw [hs] at ih; rw [unspl, ih]; simp
    · rw [unspl_spl c l]; simp
theorem spl_inj (c : UInt8) (x y : List UInt8) (h : spl c [] x = spl c [] y) : x = y := by
  have h1 := unspl_spl c x []
  have h2 := unspl_spl c y []
  rw [h] at h1
  simpa using h1.symm.trans h2
theorem pkey_inj (x y : List UInt8) (h : pkey x = pkey y) : x = y := spl_inj 46 x y (congrArg Prod.snd h)
theorem cmpPre_cmp : Cmp cmpPre := (cmpP_cmp cmpI_cmp (cmpL_cmp cmpW_cmp)).key pkey pkey_inj
theorem cmpC_cmp : Cmp cmpC := cmpP_cmp cmpI_cmp (cmpP_cmp cmpI_cmp (cmpP_cmp cmpI_cmp cmpPre_cmp))
theorem spl_all (c : UInt8) (p : UInt8 → Bool) : ∀ (l cur : List UInt8), (spl c cur l).all (fun w => w.all p) = true ↔ (cur.all p = true ∧ ∀ b ∈ l, b = c ∨ p b = true)
  | [], cur => by simp [spl]
  | b :: l, cur => by
    rw [spl]
    split
    · rename_i h; subst h
      rw [List.all_cons, Bool.and_eq_true, spl_all b p l []]
      simp
    · rename_i h
      rw [spl_all c p l]
      simp only [List.all_append, List.all_cons, List.all_nil, Bool.and_true, Bool.and_eq_true, List.mem_cons, forall_eq_or_imp, h, false_or, and_assoc]
/-! numerals -/
theorem digit_ofNat {d : Nat} (h : d < 10) : isDig (UInt8.ofNat (48 + d)) = true := by
  unfold isDig
  have : (UInt8.ofNat (48 + d)).toNat = 48 + d := by rw [UInt8.toNat_ofNat']; omega
  rw [this]; simp; omega
theorem dec_dig (n : Nat) : (Lib.decDigits n).all isDig = true ∧ Lib.decDigits n ≠ [] := by
  induction n using Nat.strongRecOn with
  | _ n ih =>
    rw [Lib.decDigits]
    split
    · rename_i h; exact ⟨by rw [List.all_cons, digit_ofNat h]; rfl, by simp⟩
    · rename_i h
      have := ih (n / 10) (by omega)
      exact ⟨by rw [List.all_append, this.1, List.all_cons, digit_ofNat (show n % 10 < 10 by omega)]; rfl, by simp⟩
theorem dec_len : ∀ (k n : Nat), n < 10 ^ (k + 1) → (Lib.decDigits n).length ≤ k + 1
  | 0, n, h => by rw [Lib.decDigits, dif_pos (by omega)]; simp
  | k + 1, n, h => by
    rw [Lib.decDigits]
    split
    · simp
    · have := dec_len k (n / 10) (by rw [Nat.pow_succ] at h; omega)
      simp; omega
theorem parse_app : ∀ (l r : List UInt8) (a : Nat) (u : Nat), Lib.parseUint10 a l = .ok u → Lib.parseUint10 a (l ++ r) = Lib.parseUint10 u r
  | [], r, a, u, h => by simp only [Lib.parseUint10] at h; injection h with h; subst h; rfl
  | c :: l, r, a, u, h => by
    rw [List.cons_append]
    conv => lhs; unfold Lib.parseUint10
    unfold Lib.parseUint10 at h
    split at h
    · rename_i h1
      rw [if_pos h1]
      split at h
      · cases h
      · rename_i h2
        rw [if_neg h2]
        split at h
        · cases h
        · rename_i h3
          rw [if_neg h3]
          exact parse_app l r _ u h
    · cases h
theorem parse_dec (n : Nat) (h : n < 1000000000000000000) : Lib.parseUint10 0 (Lib.decDigits n) = .ok n := by
  induction n using Nat.strongRecOn with
  | _ n ih =>
    have t1 : ∀ d, d < 10 → (UInt8.ofNat (48 + d)).toNat = 48 + d := fun d hd => by rw [UInt8.toNat_ofNat']; omega
    rw [Lib.decDigits]
    split
    · rename_i h1
      unfold Lib.parseUint10 Lib.parseUint10
      rw [t1 n h1, if_pos (by omega), if_neg (by omega), if_neg (by omega)]
      congr 1; omega
    · rename_i h1
      have h2 := ih (n / 10) (by omega) (by omega)
      rw [parse_app _ _ _ _ h2]
      unfold Lib.parseUint10 Lib.parseUint10
      rw [t1 _ (show n % 10 < 10 by omega), if_pos (by omega), if_neg (by omega), if_neg (by omega)]
      congr 1; omega
theorem itoa_dec {n : Int} (h : 0 ≤ n) : Lib.itoa n = Lib.decDigits n.toNat := by unfold Lib.itoa; rw [if_neg (by omega)]
theorem atoi_itoa {n : Int} (h0 : 0 ≤ n) (h1 : n ≤ 999999999) : Lib.atoiAll (Lib.itoa n) = .ok n := by
  rw [itoa_dec h0]
  have hd := dec_dig n.toNat
  have hp := parse_dec n.toNat (by omega)
  generalize Lib.decDigits n.toNat = l at hd hp
  cases l with
  | nil => exact absurd rfl hd.2
  | cons c r =>
    have hc : isDig c = true := by have := hd.1; simp at this; exact this.1
    unfold isDig at hc
    simp at hc
    unfold Lib.atoiAll
    have c43 : ¬ c.toNat = 43 := by omega
    have c45 : ¬ c.toNat = 45 := by omega
    simp only [c43, or_self, if_false, c45, not_false_eq_true, true_and, false_and]
    unfold Lib.parseMag
    rw [if_neg (by simp), hp]
    simp only
    rw [if_neg (by omega)]
    congr 1; omega
/-- digits, read on -/
def valS (a : Int) : List UInt8 → Int
  | [] => a
  | c :: l => valS (10 * a + c.toNat - 48) l
theorem valS_app : ∀ (l r : List UInt8) (a : Int), valS a (l ++ r) = valS (valS a l) r
  | [], r, a => rfl
  | c :: l, r, a => by rw [List.cons_append, valS, valS, valS_app l]
theorem valS_dec (n : Nat) : valS 0 (Lib.decDigits n) = n := by
  induction n using Nat.strongRecOn with
  | _ n ih =>
    have t1 : ∀ d, d < 10 → (UInt8.ofNat (48 + d)).toNat = 48 + d := fun d hd => by rw [UInt8.toNat_ofNat']; omega
    rw [Lib.decDigits]
    split
    · rename_i h1
      unfold valS valS
      rw [t1 n h1]; omega
    · rename_i h1
      rw [valS_app, ih (n / 10) (by omega)]
      unfold valS valS
      rw [t1 _ (show n % 10 < 10 by omega)]; omega
theorem valS_bound : ∀ (l : List UInt8) (a : Int), 0 ≤ a → l.all isDig = true → 0 ≤ valS a l ∧ valS a l < (a + 1) * 10 ^ l.length
  | [], a, h, _ => by simp [valS]; omega
  | c :: l, a, h, hd => by
    simp at hd
    have hc := hd.1
    unfold isDig at hc
    simp at hc
    have ih := valS_bound l (10 * a + c.toNat - 48) (by omega) (by simp; exact hd.2)
    rw [valS]
    refine ⟨ih.1, Int.lt_of_lt_of_le ih.2 ?_⟩
    have e1 : (10 : Int) ^ (c :: l).length = 10 * 10 ^ l.length := by rw [List.length_cons, Int.pow_succ]; omega
    rw [e1, ← Int.mul_assoc]
    have hp : (0 : Int) ≤ 10 ^ l.length := Int.le_of_lt (Int.pow_pos (by decide))
    exact Int.mul_le_mul_of_nonneg_right (by omega) hp
/-! a text is cut at a byte -/
theorem index_miss (c : UInt8) : ∀ l : List UInt8, c ∉ l → Lib.index l [c] = -1
  | [], _ => by simp [Lib.index]
  | b :: l, h => by
    have h1 : b ≠ c := fun e => h (by simp [e])
    have ih := index_miss c l (fun e => h (by simp [e]))
    rw [index_ne h1, ih]; rfl
theorem index_hit (c : UInt8) : ∀ (l r : List UInt8), c ∉ l → Lib.index (l ++ c :: r) [c] = ((l.length : Nat) : Int)
  | [], r, _ => index_self c r
  | b :: l, r, h => by
    have h1 : b ≠ c := fun e => h (by simp [e])
    have ih := index_hit c l r (fun e => h (by simp [e]))
    rw [List.cons_append, index_ne h1, ih]
    have : ((((l.length : Nat) : Int) == -1) = true) = False := by simp
    simp only [this, if_false, List.length_cons]; omega
def cut1 (c : UInt8) (s : List UInt8) : List UInt8 := if Lib.index s [c] = -1 then s else s.take (Lib.index s [c]).toNat
def cut2 (c : UInt8) (s : List UInt8) : List UInt8 := if Lib.index s [c] = -1 then [] else s.drop ((Lib.index s [c]).toNat + 1)
theorem cut_tail (c : UInt8) (x t : List UInt8) (h : c ∉ x) : cut1 c (x ++ tailT c t) = x ∧ cut2 c (x ++ tailT c t) = t := by
  unfold tailT cut1 cut2
  split
  · rename_i e; subst e
    rw [List.append_nil, index_miss c x h]; exact ⟨rfl, rfl⟩
  · rw [index_hit c x t h]
    have n1 : ¬ ((x.length : Nat) : Int) = -1 := by omega
    simp only [n1, if_false, Int.toNat_natCast]
    simp
theorem cut_hit (c : UInt8) (x t : List UInt8) (h : c ∉ x) : cut1 c (x ++ c :: t) = x ∧ cut2 c (x ++ c :: t) = t := by
  unfold cut1 cut2
  rw [index_hit c x t h]
  have n1 : ¬ ((x.length : Nat) : Int) = -1 := by omega
  simp only [n1, if_false, Int.toNat_natCast]
  simp
theorem spl_hit' (c : UInt8) (x t : List UInt8) (h : c ∉ x) : spl c [] (x ++ c :: t) = x :: spl c [] t := by
  rw [spl_none c x [] _ h, List.nil_append, spl, if_pos rfl]
theorem spl_miss' (c : UInt8) (x : List UInt8) (h : c ∉ x) : spl c [] x = [x] := by
  have := spl_none c x [] [] h
  simpa [spl] using this
theorem tail_mem {p : List UInt8 → Bool} (hp : ∀ w, p w = true → w.all isSg = true) {s : List UInt8} (h : tailS p s = true) : ∀ b ∈ s, b = 46 ∨ isSg b = true := by
  unfold tailS at h
  simp only [Bool.or_eq_true, Bool.and_eq_true, decide_eq_true_eq] at h
  rcases h with rfl | ⟨_, h⟩
  · intro b hb; cases hb
  · exact ((spl_all 46 isSg s []).1 (List.all_eq_true.2 fun w hw => hp w (List.all_eq_true.1 h w hw))).2
theorem isPart_all (w : List UInt8) (h : isPartS w = true) : w.all isSg = true := by unfold isPartS at h; simp only [Bool.and_eq_true] at h; exact h.1
theorem isPre_all (w : List UInt8) (h : isPreS w = true) : w.all isSg = true := by unfold isPreS at h; simp only [Bool.and_eq_true] at h; exact isPart_all w h.1
theorem dig_mem {c : UInt8} (hc : isDig c = false) (n : Nat) : c ∉ Lib.decDigits n := fun h => by
  have := List.all_eq_true.1 (dec_dig n).1 c h
  rw [hc] at this; cases this
theorem sg43 : isSg 43 = false := by decide
theorem checkS_some {v : VD} (h : checkS v = true) : (0 ≤ v.1 ∧ v.1 ≤ 999999999) ∧ (0 ≤ v.2.1 ∧ v.2.1 ≤ 999999999) ∧ (0 ≤ v.2.2.1 ∧ v.2.2.1 ≤ 999999999) ∧ tailS isPreS v.2.2.2.1 = true ∧ tailS isPartS v.2.2.2.2 = true := by
  unfold checkS numS at h
  simp only [Bool.and_eq_true, decide_eq_true_eq] at h
  exact ⟨h.1.1.1.1, h.1.1.1.2, h.1.1.2, h.1.2, h.2⟩
theorem tail_len {p : List UInt8 → Bool} {s : List UInt8} (h : tailS p s = true) : s.length ≤ 30 := by
  unfold tailS at h
  simp only [Bool.or_eq_true, Bool.and_eq_true, decide_eq_true_eq] at h
  rcases h with rfl | h
  · simp
  · exact h.1
def atoiV (s : List UInt8) : Int := match Lib.atoiAll s with
  | .ok v => v
  | _ => -1
def trimV (s : List UInt8) : List UInt8 := if s.head? = some 118 then s.drop 1 else s
/-- what the program reads of a text -/
def candP (s : List UInt8) : VD := (atoiV (cut1 46 (trimV (cut1 45 (cut1 43 s)))), (atoiV (cut1 46 (cut2 46 (trimV (cut1 45 (cut1 43 s))))), (atoiV (cut2 46 (cut2 46 (trimV (cut1 45 (cut1 43 s))))), (cut2 45 (cut1 43 s), cut2 43 s))))
def readS (s : List UInt8) : Int := if isNumS s && decide (s.length ≤ 9) then valS 0 s else -1
/-- what the document reads of a text behind its first byte -/
def candR (r : List UInt8) : Option VD := match spl 46 [] (cut1 45 (cut1 43 r)) with
  | [a, b, c] => some (readS a, (readS b, (readS c, (cut2 45 (cut1 43 r), cut2 43 r))))
  | _ => none
theorem raw_cut {v : VD} (h : checkS v = true) : ∀ pf : List UInt8, 43 ∉ pf → 45 ∉ pf →
    cut1 43 (pf ++ (Lib.itoa v.1 ++ 46 :: (Lib.itoa v.2.1 ++ 46 :: (Lib.itoa v.2.2.1 ++ (tailT 45 v.2.2.2.1 ++ tailT 43 v.2.2.2.2))))) = pf ++ (Lib.itoa v.1 ++ 46 :: (Lib.itoa v.2.1 ++ 46 :: (Lib.itoa v.2.2.1 ++ tailT 45 v.2.2.2.1))) ∧
    cut2 43 (pf ++ (Lib.itoa v.1 ++ 46 :: (Lib.itoa v.2.1 ++ 46 :: (Lib.itoa v.2.2.1 ++ (tailT 45 v.2.2.2.1 ++ tailT 43 v.2.2.2.2))))) = v.2.2.2.2 ∧
    cut1 45 (pf ++ (Lib.itoa v.1 ++ 46 :: (Lib.itoa v.2.1 ++ 46 :: (Lib.itoa v.2.2.1 ++ tailT 45 v.2.2.2.1)))) = pf ++ (Lib.itoa v.1 ++ 46 :: (Lib.itoa v.2.1 ++ 46 :: Lib.itoa v.2.2.1)) ∧
    cut2 45 (pf ++ (Lib.itoa v.1 ++ 46 :: (Lib.itoa v.2.1 ++ 46 :: (Lib.itoa v.2.2.1 ++ tailT 45 v.2.2.2.1)))) = v.2.2.2.1 := by
  intro pf p1 p2
  obtain ⟨h1, h2, h3, h4, h5⟩ := checkS_some h
  have d43 : isDig 43 = false := by decide
  have d45 : isDig 45 = false := by decide
  have t43 : (43 : UInt8) ∉ tailT 45 v.2.2.2.1 := by
    unfold tailT
    split
    · simp
    · intro hm
      rcases List.mem_cons.1 hm with hm | hm
      · cases hm
      · rcases tail_mem isPre_all h4 _ hm with hm | hm
        · cases hm
        · rw [sg43] at hm; cases hm
  rw [itoa_dec h1.1, itoa_dec h2.1, itoa_dec h3.1]
  have m43 := fun n => dig_mem d43 n
  have m45 := fun n => dig_mem d45 n
  have a1 := cut_tail 43 (pf ++ (Lib.decDigits v.1.toNat ++ 46 :: (Lib.decDigits v.2.1.toNat ++ 46 :: (Lib.decDigits v.2.2.1.toNat ++ tailT 45 v.2.2.2.1)))) v.2.2.2.2 (by simp [m43, t43, p1])
  have a2 := cut_tail 45 (pf ++ (Lib.decDigits v.1.toNat ++ 46 :: (Lib.decDigits v.2.1.toNat ++ 46 :: Lib.decDigits v.2.2.1.toNat))) v.2.2.2.1 (by simp [m45, p2])
  simp only [List.append_assoc, List.cons_append] at a1 a2
  exact ⟨a1.1, a1.2, a2.1, a2.2⟩
theorem candP_raw {v : VD} (h : checkS v = true) : candP (rawT v) = v := by
  obtain ⟨h1, h2, h3, h4, h5⟩ := checkS_some h
  have d46 : isDig 46 = false := by decide
  have m46 := fun n => dig_mem d46 n
  have e0 : rawT v = [118] ++ (Lib.itoa v.1 ++ 46 :: (Lib.itoa v.2.1 ++ 46 :: (Lib.itoa v.2.2.1 ++ (tailT 45 v.2.2.2.1 ++ tailT 43 v.2.2.2.2)))) := rfl
  obtain ⟨k1, k2, k3, k4⟩ := raw_cut h [118] (by decide) (by decide)
  unfold candP
  rw [e0, k1, k2, k3, k4]
  have e1 : trimV ([118] ++ (Lib.itoa v.1 ++ 46 :: (Lib.itoa v.2.1 ++ 46 :: Lib.itoa v.2.2.1))) = Lib.itoa v.1 ++ 46 :: (Lib.itoa v.2.1 ++ 46 :: Lib.itoa v.2.2.1) := rfl
  rw [e1]
  have c1 := cut_hit 46 (Lib.itoa v.1) (Lib.itoa v.2.1 ++ 46 :: Lib.itoa v.2.2.1) (by rw [itoa_dec h1.1]; exact m46 _)
  have c2 := cut_hit 46 (Lib.itoa v.2.1) (Lib.itoa v.2.2.1) (by rw [itoa_dec h2.1]; exact m46 _)
  rw [c1.1, c1.2, c2.1, c2.2]
  unfold atoiV
  rw [atoi_itoa h1.1 h1.2, atoi_itoa h2.1 h2.2, atoi_itoa h3.1 h3.2]
theorem read_itoa {n : Int} (h0 : 0 ≤ n) (h1 : n ≤ 999999999) : readS (Lib.itoa n) = n := by
  rw [itoa_dec h0]
  have hd := dec_dig n.toNat
  have hl := dec_len 8 n.toNat (by omega)
  unfold readS isNumS
  rw [if_pos (by simp [hd.1, hd.2, hl]), valS_dec]; omega
theorem candR_raw {v : VD} (h : checkS v = true) : candR ((rawT v).drop 1) = some v := by
  obtain ⟨h1, h2, h3, h4, h5⟩ := checkS_some h
  have d46 : isDig 46 = false := by decide
  have m46 := fun n => dig_mem d46 n
  obtain ⟨k1, k2, k3, k4⟩ := raw_cut h [] (by simp) (by simp)
  simp only [List.nil_append] at k1 k2 k3 k4
  have e0 : (rawT v).drop 1 = Lib.itoa v.1 ++ 46 :: (Lib.itoa v.2.1 ++ 46 :: (Lib.itoa v.2.2.1 ++ (tailT 45 v.2.2.2.1 ++ tailT 43 v.2.2.2.2))) := rfl
  unfold candR
  rw [e0, k1, k2, k3, k4]
  rw [spl_hit' 46 (Lib.itoa v.1) _ (by rw [itoa_dec h1.1]; exact m46 _), spl_hit' 46 (Lib.itoa v.2.1) _ (by rw [itoa_dec h2.1]; exact m46 _), spl_miss' 46 (Lib.itoa v.2.2.1) (by rw [itoa_dec h3.1]; exact m46 _)]
  simp only [read_itoa h1.1 h1.2, read_itoa h2.1 h2.2, read_itoa h3.1 h3.2]
theorem raw_len {v : VD} (h : checkS v = true) : (rawT v).length ≤ 92 := by
  obtain ⟨h1, h2, h3, h4, h5⟩ := checkS_some h
  have l1 := dec_len 8 v.1.toNat (by omega)
  have l2 := dec_len 8 v.2.1.toNat (by omega)
  have l3 := dec_len 8 v.2.2.1.toNat (by omega)
  have t1 := tail_len h4
  have t2 := tail_len h5
  have tt : ∀ (c : UInt8) (s : List UInt8), (tailT c s).length ≤ s.length + 1 := fun c s => by unfold tailT; split <;> simp
  have u1 := tt 45 v.2.2.2.1
  have u2 := tt 43 v.2.2.2.2
  unfold rawT
  rw [itoa_dec h1.1, itoa_dec h2.1, itoa_dec h3.1]
  simp only [List.length_cons, List.length_append]
  omega
/-- what a text tells -/
def parseS (s : List UInt8) : VD × Bool := if checkS (candP s) && decide (textS (candP s) = s) then (candP s, true) else (v0, false)
theorem parse_of {s : List UInt8} {v : VD} (h : checkS v = true) (ht : textS v = s) : parseS s = (v, true) := by
  have e1 : s = rawT v := by rw [← ht]; unfold textS; rw [if_pos h]
  subst e1
  unfold parseS
  rw [candP_raw h, if_pos (by simp [h, ht])]
theorem parse_some {s : List UInt8} (h : (parseS s).2 = true) : checkS (parseS s).1 = true ∧ textS (parseS s).1 = s := by
  unfold parseS at *
  split at h
  · rename_i h1
    rw [if_pos h1]
    simp only [Bool.and_eq_true, decide_eq_true_eq] at h1
    exact h1
  · cases h
theorem parse_none {s : List UInt8} (h : ∀ v, checkS v = true → textS v ≠ s) : parseS s = (v0, false) := by
  unfold parseS
  rw [if_neg]
  simp only [Bool.and_eq_true, decide_eq_true_eq]
  exact fun h1 => h _ h1.1 h1.2
/-! bumps -/
def bumpS (v : VD) (l : Int) : VD × Int :=
  if checkS v = true ∧ 1 ≤ l ∧ l ≤ 3 then
    if v.2.2.2.1 ≠ [] ∧ (2 ≤ l → v.2.2.1 = 0) ∧ (l = 3 → v.2.1 = 0) then ((v.1, (v.2.1, (v.2.2.1, ([], [])))), 0)
    else if l = 1 ∧ v.2.2.1 < 999999999 then ((v.1, (v.2.1, (v.2.2.1 + 1, ([], [])))), 0)
    else if l ≤ 2 ∧ v.2.1 < 999999999 then ((v.1, (v.2.1 + 1, (0, ([], [])))), 0)
    else if v.1 < 999999999 then ((v.1 + 1, (0, (0, ([], [])))), 0)
    else (v0, 15)
  else (v0, 1)
def maxS : Option VD → List VD → Option VD
  | b, [] => b
  | none, v :: l => maxS (if checkS v then some v else none) l
  | some b, v :: l => maxS (if checkS v && decide (0 < cmpV v b) then some v else some b) l
end Go.Proofs.YtpiiljpbfioilaaDoor.AM
