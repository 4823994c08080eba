/- One text of FilR, FilM, FilM2 (mk/pack.py). -/
import Derived.Test.YtaglhmoldbndkaaDoorSp10
import Derived.Test.YtaglhmoldbndkaaDoorSp9
import Derived.Test.YtaglhmoldbndkaaDoorSp8
/- Layer 5: the document's paths (as in layers 7 and 8; there is one text for each of the two, for what is generated bears the same names). -/
namespace Go.Proofs.YtaglhmoldbndkaaDoor.AM
open Go.RowKit
set_option linter.unusedVariables false
set_option linter.unusedSimpArgs false
theorem rSplit5_loop (n : Nat) (s : List UInt8) (c : UInt8) (hs : s.length ≤ 1000000) : ∀ (m i fr : Nat) (out : List (List UInt8)), i ≤ s.length → s.length - i + 1 < m → fr ≤ i → out.length ≤ i →
    rSplit5_loop0 n m s ((c.toNat : Nat) : Int) (fr : Int) (i : Int) out = some (((), ()), ((), (out ++ spl c ((s.drop fr).take (i - fr)) (s.drop i), ())))
  | 0, i, fr, _, _, h, _, _ => absurd h (Nat.not_lt_zero _)
  | m + 1, i, fr, out, hi, h, hf, ho => by
    rw [rSplit5_loop0_succ]
    unfold rSplit5_l0
    have c0 : ((i : Nat) : Int) ≤ ((s.length : Nat) : Int) := by omega
    have w1 := wrap_succ (show i < 4611686018427387904 by omega)
    have s1 : subO s ((fr : Nat) : Int) ((i : Nat) : Int) = some ((s.drop fr).take (i - fr)) := sub_le hf hi
    have a1 : appO 16 out [(s.drop fr).take (i - fr)] = some (out ++ [(s.drop fr).take (i - fr)]) := app_le (by simp; omega)
    by_cases c1 : i = s.length
    · have c1' : ((i : Nat) : Int) = ((s.length : Nat) : Int) := by omega
      have hd : s.drop i = [] := List.drop_eq_nil_of_le (by omega)
      simp only [c0, c1', decide_true, cond_true]
      rw [← c1', s1, Option.bind_some, a1, Option.bind_some, hd]
      simp only [letO, w1]
      cases m with
      | zero => omega
      | succ m =>
        rw [rSplit5_loop0_succ]
        unfold rSplit5_l0
        have c2 : ¬ ((i + 1 : Nat) : Int) ≤ ((s.length : Nat) : Int) := by omega
        simp only [c2, Int.le_refl, decide_true, decide_false, cond_true, cond_false]
        rfl
    · have c1' : ¬ ((i : Nat) : Int) = ((s.length : Nat) : Int) := by omega
      have hi' : i < s.length := by omega
      have hd : s.drop i = s[i] :: s.drop (i + 1) := List.drop_eq_getElem_cons hi'
      simp only [c0, c1', decide_true, decide_false, cond_true, cond_false, sAt_lt hi', Option.bind_some, letO, w1, s1, a1]
      have hc : decide (((s[i].toNat : Nat) : Int) = ((c.toNat : Nat) : Int)) = decide (s[i] = c) := by
        apply decide_eq_decide.2
        constructor
        · intro hh; exact UInt8.toNat_inj.1 (by omega)
        · intro hh; rw [hh]
      rw [hc, hd, spl]
      by_cases c2 : s[i] = c
      · simp only [c2, decide_true, cond_true, if_true]
        rw [rSplit5_loop n s c hs m (i + 1) (i + 1) (out ++ [(s.drop fr).take (i - fr)]) (by omega) (by omega) (Nat.le_refl _) (by simp; omega)]
        simp
      · simp only [c2, decide_false, cond_false, if_false]
        rw [rSplit5_loop n s c hs m (i + 1) fr out (by omega) (by omega) (by omega) (by omega)]
        have e1 : (s.drop fr).take (i + 1 - fr) = (s.drop fr).take (i - fr) ++ [s[i]] := by
          rw [show i + 1 - fr = (i - fr) + 1 from by omega, List.take_add_one, List.getElem?_drop, show fr + (i - fr) = i from by omega, List.getElem?_eq_getElem hi']
          rfl
        rw [e1]
theorem rSplit5_P (n : Nat) (s : List UInt8) (c : UInt8) (hs : s.length ≤ 1000000) (hn : s.length + 1 < n) : rSplit5_t n s ((c.toNat : Nat) : Int) = some (spl c [] s) := by
  unfold rSplit5_t
  have h := rSplit5_loop n s c hs n 0 0 [] (Nat.zero_le _) (by omega) (Nat.le_refl _) (Nat.zero_le _)
  rw [show ((0 : Nat) : Int) = (0 : Int) from rfl] at h
  rw [h]
  simp
theorem sg_bools (c : UInt8) : isSg c = ((decide ((97 : Int) ≤ ((c.toNat : Nat) : Int)) && decide (((c.toNat : Nat) : Int) ≤ (122 : Int))) || (decide ((65 : Int) ≤ ((c.toNat : Nat) : Int)) && decide (((c.toNat : Nat) : Int) ≤ (90 : Int))) || (decide ((48 : Int) ≤ ((c.toNat : Nat) : Int)) && decide (((c.toNat : Nat) : Int) ≤ (57 : Int))) || decide (((c.toNat : Nat) : Int) = (45 : Int))) := by
  unfold isSg isDig
  have h1 : decide ((97 : Int) ≤ ((c.toNat : Nat) : Int)) = decide (97 ≤ c.toNat) := decide_eq_decide.2 (by omega)
  have h2 : decide (((c.toNat : Nat) : Int) ≤ (122 : Int)) = decide (c.toNat ≤ 122) := decide_eq_decide.2 (by omega)
  have h3 : decide ((65 : Int) ≤ ((c.toNat : Nat) : Int)) = decide (65 ≤ c.toNat) := decide_eq_decide.2 (by omega)
  have h4 : decide (((c.toNat : Nat) : Int) ≤ (90 : Int)) = decide (c.toNat ≤ 90) := decide_eq_decide.2 (by omega)
  have h5 : decide (((c.toNat : Nat) : Int) = (45 : Int)) = decide (c.toNat = 45) := decide_eq_decide.2 (by omega)
  have h6 : decide ((48 : Int) ≤ ((c.toNat : Nat) : Int)) = decide (48 ≤ c.toNat) := decide_eq_decide.2 (by omega)
  have h7 : decide (((c.toNat : Nat) : Int) ≤ (57 : Int)) = decide (c.toNat ≤ 57) := decide_eq_decide.2 (by omega)
  rw [h1, h2, h3, h4, h5, h6, h7]
theorem pSign_bools (c : UInt8) : pSign c = ((decide ((97 : Int) ≤ ((c.toNat : Nat) : Int)) && decide (((c.toNat : Nat) : Int) ≤ (122 : Int))) || (decide ((65 : Int) ≤ ((c.toNat : Nat) : Int)) && decide (((c.toNat : Nat) : Int) ≤ (90 : Int))) || (decide ((48 : Int) ≤ ((c.toNat : Nat) : Int)) && decide (((c.toNat : Nat) : Int) ≤ (57 : Int))) || decide (((c.toNat : Nat) : Int) = (45 : Int)) || decide (((c.toNat : Nat) : Int) = (95 : Int)) || decide (((c.toNat : Nat) : Int) = (46 : Int))) := by
  unfold pSign
  have h6 : decide (((c.toNat : Nat) : Int) = (95 : Int)) = decide (c.toNat = 95) := decide_eq_decide.2 (by omega)
  have h7 : decide (((c.toNat : Nat) : Int) = (46 : Int)) = decide (c.toNat = 46) := decide_eq_decide.2 (by omega)
  rw [h6, h7, ← sg_bools]
theorem rPart5_loop (n : Nat) (s : List UInt8) (hL : s.length ≤ 1000000) : ∀ m j : Nat, j ≤ s.length → s.length - j < m → rPart5_loop0 n m s (j : Int) = some (if (s.drop j).all pSign = true then Sum.inr ((s, ()), ((), ())) else Sum.inl ((false, ()), ((), ())))
  | 0, j, _, h => absurd h (Nat.not_lt_zero _)
  | m + 1, j, hj, h => by
    rw [rPart5_loop0_succ]
    unfold rPart5_l0
    by_cases c0 : j < s.length
    · have c0' : ((j : Nat) : Int) < ((s.length : Nat) : Int) := by omega
      have ih := rPart5_loop n s hL m (j + 1) (by omega) (by omega)
      have hd : s.drop j = s[j] :: s.drop (j + 1) := (List.drop_eq_getElem_cons c0)
      simp only [c0', decide_true, cond_true, sAt_lt c0, Option.bind_some, letO, wrap_succ (show j < 4611686018427387904 by omega), ih, hd, List.all_cons]
      rw [pSign_bools]
      generalize (List.drop (j + 1) s).all pSign = B
      generalize decide ((97 : Int) ≤ ((s[j].toNat : Nat) : Int)) = b1
      generalize decide (((s[j].toNat : Nat) : Int) ≤ (122 : Int)) = b2
      generalize decide ((65 : Int) ≤ ((s[j].toNat : Nat) : Int)) = b3
      generalize decide (((s[j].toNat : Nat) : Int) ≤ (90 : Int)) = b4
      generalize decide ((48 : Int) ≤ ((s[j].toNat : Nat) : Int)) = b5
      generalize decide (((s[j].toNat : Nat) : Int) ≤ (57 : Int)) = b6
      generalize decide (((s[j].toNat : Nat) : Int) = (45 : Int)) = b7
      generalize decide (((s[j].toNat : Nat) : Int) = (95 : Int)) = b8
      generalize decide (((s[j].toNat : Nat) : Int) = (46 : Int)) = b9
      cases b1 <;> cases b2 <;> cases b3 <;> cases b4 <;> cases b5 <;> cases b6 <;> cases b7 <;> cases b8 <;> cases b9 <;> rfl
    · have c0' : ¬ ((j : Nat) : Int) < ((s.length : Nat) : Int) := by omega
      have : s.drop j = [] := List.drop_eq_nil_of_le (by omega)
      simp [c0', this]
theorem rPart5_spec (n : Nat) (s : List UInt8) (hL : s.length ≤ 1000000) (hn : s.length < n) : rPart5_t n s = some (partS s) := by
  unfold rPart5_t partS
  have := rPart5_loop n s hL n 0 (Nat.zero_le _) (by omega)
  rw [show ((0 : Nat) : Int) = (0 : Int) from rfl] at this
  rw [this, List.drop_zero]
  cases s.all pSign with
  | true =>
    simp only [if_true, Option.bind_some, Sum.elim_inr]
    cases decide (s = []) <;> cases decide (s = [46]) <;> cases decide (s = [46, 46]) <;> rfl
  | false =>
    simp only [Bool.false_eq_true, if_false, Option.bind_some, Sum.elim_inl]
    cases decide (s = []) <;> cases decide (s = [46]) <;> cases decide (s = [46, 46]) <;> rfl
theorem rPath5_loop (n : Nat) (l : List (List UInt8)) (hl : l.length ≤ 1000000) (hw : ∀ w ∈ l, w.length ≤ 1000000 ∧ w.length < n) : ∀ m j : Nat, j ≤ l.length → l.length - j < m → rPath5_loop0 n m l (j : Int) = some (if (l.drop j).all partS = true then Sum.inr ((), ((), ())) else Sum.inl ((false, ()), ((), ())))
  | 0, j, _, h => absurd h (Nat.not_lt_zero _)
  | m + 1, j, hj, h => by
    rw [rPath5_loop0_succ]
    unfold rPath5_l0
    by_cases c0 : j < l.length
    · have c0' : ((j : Nat) : Int) < ((l.length : Nat) : Int) := by omega
      have ih := rPath5_loop n l hl hw m (j + 1) (by omega) (by omega)
      have hd : l.drop j = l[j] :: l.drop (j + 1) := (List.drop_eq_getElem_cons c0)
      have hm := hw l[j] (List.getElem_mem c0)
      simp only [c0', decide_true, cond_true, idx_lt c0, Option.bind_some, rPart5_spec n l[j] hm.1 hm.2, letO, wrap_succ (show j < 4611686018427387904 by omega), ih, hd, List.all_cons]
      cases partS l[j] <;> simp
    · have c0' : ¬ ((j : Nat) : Int) < ((l.length : Nat) : Int) := by omega
      have : l.drop j = [] := List.drop_eq_nil_of_le (by omega)
      simp [c0', this]
theorem rPath5_spec (n : Nat) (s : List UInt8) (hL : s.length ≤ 1000000) (hn : 100 ≤ n) : rPath5_t n s = some (pathS s) := by
  unfold rPath5_t pathS
  by_cases h : s.length ≤ 60
  · have h' : ¬ (60 : Int) < ((s.length : Nat) : Int) := by omega
    have hlen := spl_len 47 s []
    have hw : ∀ w ∈ spl 47 [] s, w.length ≤ s.length := fun w hm => by have := spl_mem 47 s [] w hm; simpa using this
    have := rPath5_loop n (spl 47 [] s) (by omega) (fun w hm => ⟨by have := hw w hm; omega, by have := hw w hm; omega⟩) n 0 (Nat.zero_le _) (by omega)
    rw [show ((0 : Nat) : Int) = (0 : Int) from rfl] at this
    simp only [h', decide_false, cond_false]
    rw [show (47 : Int) = (((47 : UInt8).toNat : Nat) : Int) from rfl, rSplit5_P n s 47 hL (by omega)]
    simp only [Option.bind_some]
    rw [this, List.drop_zero]
    cases (spl 47 [] s).all partS <;> simp [h]
  · have h' : (60 : Int) < ((s.length : Nat) : Int) := by omega
    simp [h, h']
end Go.Proofs.YtaglhmoldbndkaaDoor.AM

/- Layer 5: files and ops as lists: mathematics, no program. -/
namespace Go.Proofs.YtaglhmoldbndkaaDoor.AM
open Go.RowKit
set_option linter.unusedVariables false
set_option linter.unusedSimpArgs false
abbrev FD := List UInt8 × List UInt8
abbrev OD := Bool × (List UInt8 × List UInt8)
def okF (f : FD) : Bool := pathS f.1 && decide (f.2.length ≤ 4096)
def riseS : List FD → Bool
  | x :: y :: t => ltS x.1 y.1 && riseS (y :: t)
  | _ => true
def mayS (l : List FD) : Bool := decide (l.length ≤ 40) && (l.all okF && riseS l)
def getS : List FD → List UInt8 → List UInt8 × Bool
  | [], _ => ([], false)
  | f :: t, p => if f.1 = p then (f.2, true) else getS t p
theorem getS_none : ∀ {l : List FD} {p : List UInt8}, (getS l p).2 = false → getS l p = ([], false)
  | [], p, _ => rfl
  | f :: t, p, h => by
    rw [getS] at h ⊢
    split at h
    · cases h
    · rename_i hc; rw [if_neg hc]; exact getS_none h
def chkS (o : OD) : Int := if pathS o.2.1 then (if o.1 && !decide (o.2.2 = []) then 1 else if 4096 < o.2.2.length then 2 else 0) else 6
def b8 (x : Int) : UInt8 := UInt8.ofNat (IntKind.wrap .u8 x).toNat
def layS (o : OD) : List UInt8 := (if o.1 then 1 else 0) :: b8 o.2.1.length :: (o.2.1 ++ (if o.1 then [] else b8 ((o.2.2.length / 256 : Nat) : Int) :: b8 ((o.2.2.length % 256 : Nat) : Int) :: o.2.2))
def encL : List OD → List UInt8 × Int
  | [] => ([], 0)
  | o :: t => if chkS o = 0 then (if (encL t).2 = 0 then (layS o ++ (encL t).1, 0) else ([], (encL t).2)) else ([], chkS o)
def encS (ops : List OD) : List UInt8 × Int := if (encL ops).2 = 0 then (if 4096 < (encL ops).1.length then ([], 2) else ((encL ops).1, 0)) else ([], (encL ops).2)
def smallF (l : List FD) : Bool := (l.all fun f => decide (f.1.length ≤ 200) && decide (f.2.length ≤ 5000)) && decide (l.length ≤ 60)
def fewO (l : List OD) : Bool := (l.all fun o => decide (o.2.1.length ≤ 200) && decide (o.2.2.length ≤ 5000)) && decide (l.length ≤ 100)
end Go.Proofs.YtaglhmoldbndkaaDoor.AM

/- Layer 5: the op that stands first in some bytes: mathematics. -/
namespace Go.Proofs.YtaglhmoldbndkaaDoor.AM
open Go.RowKit
set_option linter.unusedVariables false
set_option linter.unusedSimpArgs false
def oneS : List UInt8 → Option (OD × Nat)
  | k :: c :: r => if k = 0 ∨ k = 1 then (if r.length < c.toNat then none else if k = 1 then some ((true, (r.take c.toNat, [])), 2 + c.toNat) else
      match r.drop c.toNat with
      | x :: y :: t => if t.length < 256 * x.toNat + y.toNat then none else some ((false, (r.take c.toNat, t.take (256 * x.toNat + y.toNat))), 4 + c.toNat + (256 * x.toNat + y.toNat))
      | _ => none) else none
  | _ => none
theorem b8_nat (k : Nat) : b8 ((k : Nat) : Int) = UInt8.ofNat k := by
  unfold b8
  rw [IntKind.wrap_u8]
  apply UInt8.toNat_inj.1
  rw [UInt8.toNat_ofNat', UInt8.toNat_ofNat']
  omega
theorem b8_toNat (c : UInt8) : b8 ((c.toNat : Nat) : Int) = c := by rw [b8_nat]; simp
/-- what is read is what is laid -/
theorem one_lay {s : List UInt8} {o : OD} {k : Nat} (h : oneS s = some (o, k)) : layS o ++ s.drop k = s ∧ 2 ≤ k ∧ k ≤ s.length := by
  match s, h with
  | kk :: c :: r, h =>
    rw [oneS] at h
    split at h
    case isFalse => cases h
    rename_i hk
    split at h
    case isTrue => cases h
    rename_i hc
    have hl : (r.take c.toNat).length = c.toNat := by rw [List.length_take]; omega
    split at h
    · rename_i h1
      simp only [Option.some.injEq, Prod.mk.injEq] at h
      obtain ⟨rfl, rfl⟩ := h
      refine ⟨?_, by omega, by simp; omega⟩
      unfold layS
      simp only [hl, b8_toNat, h1, if_true, List.append_nil]
      rw [show 2 + c.toNat = c.toNat + 1 + 1 from by omega]
      simp
    · rename_i h1
      split at h
      case h_2 => cases h
      rename_i x y t hd
      split at h
      case isTrue => cases h
      rename_i ht
      simp only [Option.some.injEq, Prod.mk.injEq] at h
      obtain ⟨rfl, rfl⟩ := h
      have hk0 : kk = 0 := by rcases hk with h | h
                              · exact h
                              · exact absurd h h1
      have hx := x.toNat_lt
      have hy := y.toNat_lt
      have hlt : (t.take (256 * x.toNat + y.toNat)).length = 256 * x.toNat + y.toNat := by rw [List.length_take]; omega
      have hr : r = r.take c.toNat ++ x :: y :: t := by rw [← hd, List.take_append_drop]
      have hrl : r.length = c.toNat + (t.length + 2) := by have := congrArg List.length hr; rw [List.length_append, hl] at this; simpa using this
      refine ⟨?_, by omega, by simp only [List.length_cons]; omega⟩
      unfold layS
      simp only [hl, hlt, b8_toNat, hk0, Bool.false_eq_true, if_false]
      have q1 : (256 * x.toNat + y.toNat) / 256 = x.toNat := by omega
      have q2 : (256 * x.toNat + y.toNat) % 256 = y.toNat := by omega
      rw [q1, q2, b8_toNat, b8_toNat, show 4 + c.toNat + (256 * x.toNat + y.toNat) = (c.toNat + (2 + (256 * x.toNat + y.toNat))) + 1 + 1 from by omega]
      have hdr : r.drop (c.toNat + (2 + (256 * x.toNat + y.toNat))) = t.drop (256 * x.toNat + y.toNat) := by
        rw [← List.drop_drop, hd, show 2 + (256 * x.toNat + y.toNat) = (256 * x.toNat + y.toNat) + 1 + 1 from by omega]; simp
      simp only [List.drop_succ_cons, hdr]
      conv => rhs; rw [hr]
      simp
def parseO : Nat → List UInt8 → Option (List OD)
  | 0, _ => none
  | m + 1, s => if s = [] then some [] else match oneS s with
    | some (o, k) => (parseO m (s.drop k)).map (o :: ·)
    | none => none
def decS (s : List UInt8) : List OD × Int := match parseO (s.length + 1) s with
  | some out => if (encS out).2 = 0 ∧ (encS out).1 = s then (out, 0) else ([], 1)
  | none => ([], 1)
theorem parse_more : ∀ (m k : Nat) (s : List UInt8), s.length < m → s.length < k → parseO m s = parseO k s
  | 0, _, _, h, _ => absurd h (Nat.not_lt_zero _)
  | _, 0, _, _, h => absurd h (Nat.not_lt_zero _)
  | m + 1, k + 1, s, h1, h2 => by
    rw [parseO, parseO]
    by_cases hs : s = []
    · rw [if_pos hs, if_pos hs]
    · rw [if_neg hs, if_neg hs]
      cases ho : oneS s with
      | none => rfl
      | some p =>
        obtain ⟨o, j⟩ := p
        obtain ⟨_, h3, h4⟩ := one_lay ho
        simp only
        rw [parse_more m k (s.drop j) (by rw [List.length_drop]; omega) (by rw [List.length_drop]; omega)]
theorem parse_lay : ∀ (m : Nat) (s : List UInt8) (out : List OD), parseO m s = some out → (out.map layS).flatten = s
  | 0, _, _, h => by cases h
  | m + 1, s, out, h => by
    rw [parseO] at h
    split at h
    · rename_i hs; cases h; rw [hs]; rfl
    · split at h
      case h_2 => cases h
      rename_i o k ho
      cases hp : parseO m (s.drop k) with
      | none => rw [hp] at h; cases h
      | some out' =>
        rw [hp] at h
        have : out = o :: out' := by simpa using h.symm
        subst this
        rw [List.map_cons, List.flatten_cons, parse_lay m _ _ hp]
        exact (one_lay ho).1
theorem encL_lay : ∀ (l : List OD), (∀ o ∈ l, chkS o = 0) → encL l = ((l.map layS).flatten, 0)
  | [], _ => rfl
  | o :: l, h => by
    have ih := encL_lay l (fun o ho => h o (List.mem_cons_of_mem _ ho))
    rw [encL, if_pos (h o (List.mem_cons_self ..)), ih]; rfl
theorem encL_bad : ∀ (l : List OD), (∃ o ∈ l, chkS o ≠ 0) → (encL l).2 ≠ 0
  | [], h => by obtain ⟨o, h, _⟩ := h; cases h
  | o :: l, h => by
    rw [encL]
    by_cases h0 : chkS o = 0
    · rw [if_pos h0]
      obtain ⟨o', ho', hb⟩ := h
      have : ∃ o ∈ l, chkS o ≠ 0 := by
        rcases List.mem_cons.1 ho' with rfl | hm
        · exact absurd h0 hb
        · exact ⟨o', hm, hb⟩
      have ih := encL_bad l this
      rw [if_neg ih]; exact ih
    · rw [if_neg h0]; exact h0
/-- as the program goes through them -/
def decP : Nat → List UInt8 → List OD → List OD × Int
  | 0, _, _ => ([], 1)
  | m + 1, s, acc => if s = [] then (acc, 0) else match oneS s with
    | some (o, k) => if chkS o = 0 then decP m (s.drop k) (acc ++ [o]) else ([], 1)
    | none => ([], 1)
theorem decP_eq : ∀ (m : Nat) (s : List UInt8) (acc : List OD), s.length < m → decP m s acc = (match parseO m s with
    | some out => if (∀ o ∈ out, chkS o = 0) then (acc ++ out, 0) else ([], 1)
    | none => ([], 1))
  | 0, _, _, h => absurd h (Nat.not_lt_zero _)
  | m + 1, s, acc, h => by
    rw [decP, parseO]
    by_cases hs : s = []
    · rw [if_pos hs, if_pos hs]; simp
    · rw [if_neg hs, if_neg hs]
      cases ho : oneS s with
      | none => rfl
      | some p =>
        obtain ⟨o, j⟩ := p
        obtain ⟨_, h3, h4⟩ := one_lay ho
        simp only
        have ih := decP_eq m (s.drop j) (acc ++ [o]) (by rw [List.length_drop]; omega)
        rw [ih]
        cases hp : parseO m (s.drop j) with
        | none => simp
        | some out =>
          simp only [Option.map_some]
          by_cases hc : chkS o = 0
          · rw [if_pos hc]
            by_cases ha : ∀ o ∈ out, chkS o = 0
            · rw [if_pos ha, if_pos]
              · simp
              · intro o' ho'
                rcases List.mem_cons.1 ho' with rfl | hm
                · exact hc
                · exact ha _ hm
            · rw [if_neg ha, if_neg]
              exact fun hx => ha fun o ho => hx o (List.mem_cons_of_mem _ ho)
          · rw [if_neg hc, if_neg]
            exact fun hx => hc (hx o (List.mem_cons_self ..))
theorem dec_same (s : List UInt8) : decS s = if 4096 < s.length then ([], 1) else decP (s.length + 1) s [] := by
  unfold decS
  rw [decP_eq _ _ _ (Nat.lt_succ_self _)]
  cases hp : parseO (s.length + 1) s with
  | none => simp
  | some out =>
    have hl := parse_lay _ _ _ hp
    simp only
    by_cases ha : ∀ o ∈ out, chkS o = 0
    · have he := encL_lay out ha
      rw [hl] at he
      unfold encS
      rw [he, if_pos ha]
      by_cases hs : 4096 < s.length
      · simp [hs]
      · simp [hs]
    · have hb : ∃ o ∈ out, chkS o ≠ 0 := by
        refine Classical.byContradiction fun hx => ha fun o ho => Classical.byContradiction fun hc => hx ⟨o, ho, hc⟩
      have h2 := encL_bad out hb
      unfold encS
      rw [if_neg h2, if_neg ha]
      simp [h2]
end Go.Proofs.YtaglhmoldbndkaaDoor.AM
