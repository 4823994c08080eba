/- Layer 12: roots, in plain numbers. -/
import Derived.Test.YtbcdlkapapajoaaDoorDigK
namespace Go.Proofs
open Go.RowKit Go.Shelf Go.Lib
set_option linter.unusedVariables false
set_option linter.unusedSimpArgs false
namespace YtbcdlkapapajoaaDoor.AM
def intsN (l : List Nat) : List Int := l.map fun (x : Nat) => (x : Int)
theorem intsN_length (l : List Nat) : (intsN l).length = l.length := by simp [intsN]
theorem intsN_idx {l : List Nat} {j : Nat} (h : j < l.length) : idxL (intsN l) (j : Int) = some ((l.getD j 0 : Nat) : Int) := by
  have h' : j < (intsN l).length := by rw [intsN_length]; exact h
  rw [idx_lt h']
  congr 1
  have e : (intsN l)[j]'h' = ((l[j]'h : Nat) : Int) := by simp [intsN]
  rw [e, List.getD_eq_getElem?_getD, List.getElem?_eq_getElem h]; rfl
theorem intsN_nth {l : List Nat} {j : Nat} (h : j < l.length) : nth (intsN l) j = some ((l.getD j 0 : Nat) : Int) := by
  have := intsN_idx h
  unfold idxL at this
  rw [if_pos (by omega), Int.toNat_natCast] at this
  exact this
theorem intsN_set (l : List Nat) (j x : Nat) : (intsN l).set j (x : Int) = intsN (l.set j x) := by
  unfold intsN; rw [List.map_set]
/-- digits of 16 bits -/
def D16 (l : List Nat) : Prop := ∀ x ∈ l, x < 65536
theorem D16.at {l : List Nat} (h : D16 l) (j : Nat) : l.getD j 0 < 65536 := by
  rw [List.getD_eq_getElem?_getD]
  by_cases c : j < l.length
  · rw [List.getElem?_eq_getElem c]; exact h _ (List.getElem_mem c)
  · rw [List.getElem?_eq_none (by omega)]; decide
theorem D16.set {l : List Nat} (h : D16 l) (j : Nat) {x : Nat} (hx : x < 65536) : D16 (l.set j x) := by
  intro y hy
  rcases List.mem_or_eq_of_mem_set hy with hy | rfl
  · exact h y hy
  · exact hx
def inN (a b : List Nat) (i : Nat) : Nat → Nat → Nat → List Nat → List Nat × Nat
  | 0, c, _, o => (o, c)
  | m + 1, c, k, o => inN a b i m ((o.getD (i + k) 0 + a.getD i 0 * b.getD k 0 + c) / 65536) (k + 1) (o.set (i + k) ((o.getD (i + k) 0 + a.getD i 0 * b.getD k 0 + c) % 65536))
theorem inN_ok (a b : List Nat) (i : Nat) (ha : D16 a) (hb : D16 b) : ∀ (m c k : Nat) (o : List Nat), c < 65536 → D16 o → D16 (inN a b i m c k o).1 ∧ (inN a b i m c k o).2 < 65536 ∧ (inN a b i m c k o).1.length = o.length
  | 0, c, k, o, hc, ho => ⟨ho, hc, rfl⟩
  | m + 1, c, k, o, hc, ho => by
    have h1 := ho.at (i + k); have h2 := ha.at i; have h3 := hb.at k
    have h4 : a.getD i 0 * b.getD k 0 ≤ 65535 * 65535 := Nat.mul_le_mul (by omega) (by omega)
    have h := inN_ok a b i ha hb m ((o.getD (i + k) 0 + a.getD i 0 * b.getD k 0 + c) / 65536) (k + 1) (o.set (i + k) ((o.getD (i + k) 0 + a.getD i 0 * b.getD k 0 + c) % 65536)) (by omega) (ho.set _ (by omega))
    rw [List.length_set] at h
    exact h
theorem in_loop (n : Nat) (a b : List Nat) (i : Nat) (ha : D16 a) (hb : D16 b) (hi : i < a.length) (hl : a.length ≤ 100 ∧ b.length ≤ 100) : ∀ (m c k : Nat) (o : List Nat), b.length - k < m → k ≤ b.length → c < 65536 → D16 o → i + b.length < o.length + 1 →
    r12times_loop1 n m (intsN a) (intsN b) (i : Int) (c : Int) (k : Int) (intsN o) = some ((intsN a, (intsN b, ((), ((i : Int), ((((inN a b i (b.length - k) c k o).2 : Nat) : Int), ()))))), ((), (intsN (inN a b i (b.length - k) c k o).1, ())))
  | 0, c, k, o, h1, _, _, _, _ => by omega
  | m + 1, c, k, o, h1, h2, hc, ho, hlen => by
    rw [r12times_loop1_succ]
    unfold r12times_l1
    by_cases cc : k < b.length
    · have cc' : (k : Int) < (((intsN b).length : Nat) : Int) := by rw [intsN_length]; omega
      have w1 : IntKind.wrap .i64 ((i : Int) + (k : Int)) = ((i + k : Nat) : Int) := wrap_add (by omega) (by omega)
      have q1 : i + k < o.length := by omega
      have d1 := ho.at (i + k); have d2 := ha.at i; have d3 := hb.at k
      have d4 : a.getD i 0 * b.getD k 0 ≤ 65535 * 65535 := Nat.mul_le_mul (by omega) (by omega)
      have w2 : IntKind.wrap .i64 (((a.getD i 0 : Nat) : Int) * ((b.getD k 0 : Nat) : Int)) = ((a.getD i 0 * b.getD k 0 : Nat) : Int) := by rw [← Int.natCast_mul, wrap_nat (by omega)]
      have w3 : IntKind.wrap .i64 (((o.getD (i + k) 0 : Nat) : Int) + ((a.getD i 0 * b.getD k 0 : Nat) : Int)) = ((o.getD (i + k) 0 + a.getD i 0 * b.getD k 0 : Nat) : Int) := wrap_add (by omega) (by omega)
      have w4 : IntKind.wrap .i64 (((o.getD (i + k) 0 + a.getD i 0 * b.getD k 0 : Nat) : Int) + (c : Int)) = ((o.getD (i + k) 0 + a.getD i 0 * b.getD k 0 + c : Nat) : Int) := wrap_add (by omega) (by omega)
      have a1 : andI .i64 ((o.getD (i + k) 0 + a.getD i 0 * b.getD k 0 + c : Nat) : Int) (65535 : Int) = (((o.getD (i + k) 0 + a.getD i 0 * b.getD k 0 + c) % 65536 : Nat) : Int) := by
        have := and64 (a := o.getD (i + k) 0 + a.getD i 0 * b.getD k 0 + c) (b := 65535) (by omega) (by decide)
        rw [show (65535 : Nat) = 2 ^ 16 - 1 from rfl, Nat.and_two_pow_sub_one_eq_mod] at this
        exact this
      have s1 : shrO .i64 ((o.getD (i + k) 0 + a.getD i 0 * b.getD k 0 + c : Nat) : Int) (16 : Int) = some (((o.getD (i + k) 0 + a.getD i 0 * b.getD k 0 + c) / 65536 : Nat) : Int) := shr_nat (k := 16) (by omega)
      have ih := in_loop n a b i ha hb hi hl m ((o.getD (i + k) 0 + a.getD i 0 * b.getD k 0 + c) / 65536) (k + 1) (o.set (i + k) ((o.getD (i + k) 0 + a.getD i 0 * b.getD k 0 + c) % 65536)) (by omega) (by omega) (by omega) (ho.set _ (by omega)) (by rw [List.length_set]; exact hlen)
      rw [decide_eq_true cc', cond_true, w1, letO_some, intsN_idx q1, Option.bind_some, Int.toNat_natCast, intsN_nth q1, Option.bind_some, intsN_idx hi, Option.bind_some, intsN_idx cc, Option.bind_some, letO_some, w2, letO_some, w3, letO_some, w4, letO_some, letO_some, a1, intsN_idx q1, Option.bind_some, Int.toNat_natCast, intsN_nth q1, Option.bind_some, s1, Option.bind_some, wrap_succ (by omega), letO_some, intsN_set]
      rw [show b.length - k = (b.length - (k + 1)) + 1 from by omega]
      exact ih
    · have cc' : ¬ (k : Int) < (((intsN b).length : Nat) : Int) := by rw [intsN_length]; omega
      have e : b.length - k = 0 := by omega
      rw [decide_eq_false cc', cond_false, e]
      rfl
def outN (a b : List Nat) : Nat → Nat → List Nat → List Nat
  | 0, _, o => o
  | m + 1, i, o => outN a b m (i + 1) ((inN a b i b.length 0 0 o).1.set (i + b.length) (inN a b i b.length 0 0 o).2)
theorem outN_ok (a b : List Nat) (ha : D16 a) (hb : D16 b) : ∀ (m i : Nat) (o : List Nat), D16 o → D16 (outN a b m i o) ∧ (outN a b m i o).length = o.length
  | 0, i, o, ho => ⟨ho, rfl⟩
  | m + 1, i, o, ho => by
    obtain ⟨h1, h2, h3⟩ := inN_ok a b i ha hb b.length 0 0 o (by decide) ho
    have h := outN_ok a b ha hb m (i + 1) _ (h1.set (i + b.length) h2)
    rw [List.length_set, h3] at h
    exact h
theorem out_loop (n : Nat) (hn : 400 ≤ n) (a b : List Nat) (ha : D16 a) (hb : D16 b) (hl : a.length ≤ 100 ∧ b.length ≤ 100) : ∀ (m i : Nat) (o : List Nat), a.length - i < m → i ≤ a.length → D16 o → o.length = a.length + b.length →
    r12times_loop0 n m (intsN a) (intsN b) (i : Int) (intsN o) = some (((), ()), ((), (intsN (outN a b (a.length - i) i o), ())))
  | 0, i, o, h1, _, _, _ => by omega
  | m + 1, i, o, h1, h2, ho, hlen => by
    rw [r12times_loop0_succ]
    unfold r12times_l0
    by_cases cc : i < a.length
    · have cc' : (i : Int) < (((intsN a).length : Nat) : Int) := by rw [intsN_length]; omega
      obtain ⟨p1, p2, p3⟩ := inN_ok a b i ha hb b.length 0 0 o (by decide) ho
      have il : r12times_loop1 n n (intsN a) (intsN b) (i : Int) (0 : Int) (0 : Int) (intsN o) = _ := in_loop n a b i ha hb cc hl n 0 0 o (by omega) (by omega) (by decide) ho (by omega)
      rw [Nat.sub_zero] at il
      have q : i + b.length < (inN a b i b.length 0 0 o).1.length := by omega
      have w1 : IntKind.wrap .i64 ((i : Int) + (((intsN b).length : Nat) : Int)) = ((i + b.length : Nat) : Int) := by rw [intsN_length]; exact wrap_add (by omega) (by omega)
      have ih := out_loop n hn a b ha hb hl m (i + 1) _ (by omega) (by omega) (p1.set (i + b.length) p2) (by rw [List.length_set, p3, hlen])
      rw [decide_eq_true cc', cond_true, il, Option.bind_some]
      simp only
      rw [w1, letO_some, intsN_idx q, Option.bind_some, Int.toNat_natCast, intsN_nth q, Option.bind_some, wrap_succ (by omega), letO_some, intsN_set]
      rw [show a.length - i = (a.length - (i + 1)) + 1 from by omega]
      exact ih
    · have cc' : ¬ (i : Int) < (((intsN a).length : Nat) : Int) := by rw [intsN_length]; omega
      have e : a.length - i = 0 := by omega
      rw [decide_eq_false cc', cond_false, e]
      rfl
def timesN (a b : List Nat) : List Nat := outN a b a.length 0 (List.replicate (a.length + b.length) 0)
theorem rep16 (n : Nat) : D16 (List.replicate n 0) := by intro x hx; rw [List.eq_of_mem_replicate hx]; decide
theorem times_spec (n : Nat) (hn : 400 ≤ n) (a b : List Nat) (ha : D16 a) (hb : D16 b) (hl : a.length ≤ 100 ∧ b.length ≤ 100) : r12times_t n (intsN a) (intsN b) = some (intsN (timesN a b)) ∧ D16 (timesN a b) ∧ (timesN a b).length = a.length + b.length := by
  have o := outN_ok a b ha hb a.length 0 _ (rep16 (a.length + b.length))
  refine ⟨?_, o.1, by rw [timesN, o.2, List.length_replicate]⟩
  unfold r12times_t
  have w1 : IntKind.wrap .i64 ((((intsN a).length : Nat) : Int) + (((intsN b).length : Nat) : Int)) = ((a.length + b.length : Nat) : Int) := by rw [intsN_length, intsN_length]; exact wrap_add (by omega) (by omega)
  have m1 : makO 8 0 ((a.length + b.length : Nat) : Int) = some (intsN (List.replicate (a.length + b.length) 0)) := by
    unfold makO
    rw [if_pos ⟨by omega, by omega, by omega⟩, Int.toNat_natCast]
    unfold intsN; rw [List.map_replicate]; rfl
  have l : r12times_loop0 n n (intsN a) (intsN b) (0 : Int) (intsN (List.replicate (a.length + b.length) 0)) = _ := out_loop n hn a b ha hb hl n 0 _ (by omega) (by omega) (rep16 _) (by rw [List.length_replicate])
  rw [w1, letO_some, m1, Option.bind_some, l, Option.bind_some]
  rfl
def digN (x : Nat) : List Nat := [x % 65536, x / 65536 % 65536, x / 4294967296 % 65536, x / 281474976710656 % 65536]
theorem digN_16 (x : Nat) : D16 (digN x) := by
  intro y hy
  unfold digN at hy
  simp only [List.mem_cons, List.not_mem_nil, or_false] at hy
  rcases hy with rfl | rfl | rfl | rfl <;> exact Nat.mod_lt _ (by decide)
theorem dig_step (n m : Nat) (x j : Nat) (hx : x < 4611686018427387904) (hj : j < 4) (l : List Int) (hl : l.length ≤ 10) : r12digits_loop0 n (m + 1) (x : Int) (j : Int) l = r12digits_loop0 n m (x : Int) ((j + 1 : Nat) : Int) (l ++ [((x / 2 ^ (16 * j) % 65536 : Nat) : Int)]) := by
  rw [r12digits_loop0_succ]
  unfold r12digits_l0
  have c : (j : Int) < 4 := by omega
  have w1 : IntKind.wrap .i64 ((16 : Int) * (j : Int)) = ((16 * j : Nat) : Int) := by rw [wrap64 (by omega) (by omega)]; rfl
  have a64 : andI .i64 ((x / 2 ^ (16 * j) : Nat) : Int) (65535 : Int) = ((x / 2 ^ (16 * j) % 65536 : Nat) : Int) := by
    have hd : x / 2 ^ (16 * j) < 18446744073709551616 := Nat.lt_of_le_of_lt (Nat.div_le_self _ _) (by omega)
    unfold andI
    show IntKind.wrap .i64 (((BitVec.ofInt 64 ((x / 2 ^ (16 * j) : Nat) : Int) &&& BitVec.ofInt 64 (65535 : Int)).toNat : Nat) : Int) = _
    have h2 : (BitVec.ofInt 64 (65535 : Int)).toNat = 2 ^ 16 - 1 := by decide +kernel
    rw [BitVec.toNat_and, h2, ofInt_nat hd, Nat.and_two_pow_sub_one_eq_mod, wrap_nat (by omega)]
  rw [decide_eq_true c, cond_true, w1, letO_some, shr_nat (x := x) (k := 16 * j) (by omega), Option.bind_some, a64, letO_some, app_le (by simp; omega), Option.bind_some, wrap_succ (by omega), letO_some]
theorem dig_spec (n : Nat) (hn : 10 ≤ n) (x : Nat) (hx : x < 4611686018427387904) : r12digits_t n (x : Int) = some (intsN (digN x)) := by
  obtain ⟨m, rfl⟩ : ∃ m, n = m + 5 := ⟨n - 5, by omega⟩
  unfold r12digits_t
  have s0 : r12digits_loop0 (m + 5) (m + 5) (x : Int) (0 : Int) [] = _ := dig_step (m + 5) (m + 4) x 0 hx (by decide) [] (by decide)
  rw [s0, dig_step (m + 5) (m + 3) x 1 hx (by decide) _ (by simp), dig_step (m + 5) (m + 2) x 2 hx (by decide) _ (by simp), dig_step (m + 5) (m + 1) x 3 hx (by decide) _ (by simp), r12digits_loop0_succ]
  unfold r12digits_l0
  rw [decide_eq_false (by decide), cond_false, Option.bind_some]
  simp only [intsN, digN, List.nil_append, List.cons_append, List.map_cons, List.map_nil, Nat.mul_zero, Nat.pow_zero, Nat.div_one]
theorem atMost_some (n : Nat) (l : List Int) (p many : Int) (hl : l.length ≤ 100) : ∀ (m j : Nat) (i : Int), i = (j : Int) - 1 → j ≤ l.length → j < m → (r12atMost_loop0 n m l p many i).isSome = true
  | 0, j, i, _, _, h => by omega
  | m + 1, j, i, hi, hj, hm => by
    rw [r12atMost_loop0_succ]
    unfold r12atMost_l0
    by_cases c : j = 0
    · rw [decide_eq_false (by omega), cond_false]; rfl
    · obtain ⟨q, rfl⟩ : ∃ q, j = q + 1 := ⟨j - 1, by omega⟩
      obtain rfl : i = (q : Int) := by omega
      have ih := atMost_some n l p many hl m q ((q : Int) - 1) rfl (by omega) (by omega)
      have w : IntKind.wrap .i64 ((q : Int) - (1 : Int)) = (q : Int) - 1 := by rw [wrap64 (by omega) (by omega)]
      rw [decide_eq_true (by omega), cond_true, letO_some, idx_lt (show q < l.length by omega)]
      simp only [Option.bind_some, letO_some, w]
      cases decide ((q : Int) = IntKind.wrap .i64 ((2 : Int) * many)) <;> simp only [cond_true, cond_false]
      · cases (!decide (l[q] = (0 : Int))) <;> simp only [cond_true, cond_false]
        · exact ih
        · rfl
      · cases (!decide (l[q] = p)) <;> simp only [cond_true, cond_false]
        · exact ih
        · rfl
def atB (l : List Nat) (p : Int) (many : Int) : Bool := (r12atMost_t 400 (intsN l) p many).getD false
theorem at_spec (l : List Nat) (p many : Int) (hl : l.length ≤ 100) : r12atMost_t 400 (intsN l) p many = some (atB l p many) := by
  unfold atB
  refine some_getD ?_
  unfold r12atMost_t
  have w : IntKind.wrap .i64 ((((intsN l).length : Nat) : Int) - (1 : Int)) = (l.length : Int) - 1 := by rw [intsN_length, wrap64 (by omega) (by omega)]
  rw [w, letO_some]
  have h := atMost_some 400 (intsN l) p many (by rw [intsN_length]; exact hl) 400 l.length ((l.length : Int) - 1) rfl (by rw [intsN_length]; omega) (by omega)
  obtain ⟨x, hx⟩ := Option.isSome_iff_exists.1 h
  rw [hx, Option.bind_some]
  cases x <;> rfl
def cubB (x : Nat) (p : Int) : Bool := atB (timesN (timesN (digN x) (digN x)) (digN x)) p 3
def sqB (x : Nat) (p : Int) : Bool := atB (timesN (digN x) (digN x)) p 2
theorem cube_spec (x : Nat) (hx : x < 4611686018427387904) (p : Int) : r12cube_t 400 (x : Int) p = some (cubB x p) := by
  have d := digN_16 x
  obtain ⟨t1, t2, t3⟩ := times_spec 400 (by omega) (digN x) (digN x) d d ⟨by show 4 ≤ 100; omega, by show 4 ≤ 100; omega⟩
  have t4 : (timesN (digN x) (digN x)).length = 8 := t3
  obtain ⟨u1, u2, u3⟩ := times_spec 400 (by omega) (timesN (digN x) (digN x)) (digN x) t2 d ⟨by omega, by show 4 ≤ 100; omega⟩
  have u4 : (timesN (timesN (digN x) (digN x)) (digN x)).length = 12 := by rw [u3, t4]; rfl
  have f : (r12atMost_fc 400).F (intsN (timesN (timesN (digN x) (digN x)) (digN x)), (p, (3 : Int))) = some (cubB x p) := by
    have q := at_spec (timesN (timesN (digN x) (digN x)) (digN x)) p 3 (by omega)
    unfold cubB
    generalize timesN (timesN (digN x) (digN x)) (digN x) = T at q ⊢
    exact q
  unfold r12cube_t
  rw [dig_spec 400 (by omega) x hx, Option.bind_some, t1, Option.bind_some, u1, Option.bind_some, f]
  rfl
theorem square_spec (x : Nat) (hx : x < 4611686018427387904) (p : Int) : r12square_t 400 (x : Int) p = some (sqB x p) := by
  have d := digN_16 x
  obtain ⟨t1, t2, t3⟩ := times_spec 400 (by omega) (digN x) (digN x) d d ⟨by show 4 ≤ 100; omega, by show 4 ≤ 100; omega⟩
  have t4 : (timesN (digN x) (digN x)).length = 8 := t3
  have f : (r12atMost_fc 400).F (intsN (timesN (digN x) (digN x)), (p, (2 : Int))) = some (sqB x p) := by
    have q := at_spec (timesN (digN x) (digN x)) p 2 (by omega)
    unfold sqB
    generalize timesN (digN x) (digN x) = T at q ⊢
    exact q
  unfold r12square_t
  rw [dig_spec 400 (by omega) x hx, Option.bind_some, t1, Option.bind_some, f]
  rfl
end YtbcdlkapapajoaaDoor.AM
end Go.Proofs
