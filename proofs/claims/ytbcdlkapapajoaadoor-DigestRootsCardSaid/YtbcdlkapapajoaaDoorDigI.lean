/- Layer 12: DigestRoots: what the law comes to. -/
import Derived.Test.YtbcdlkapapajoaaDoorDigI0
namespace Go.Proofs
open Go.RowKit Go.Shelf Go.Lib
set_option linter.unusedVariables false
set_option linter.unusedSimpArgs false
namespace YtbcdlkapapajoaaDoor.AM
theorem root3_loop (p : Int) : ∀ (m b x : Nat) (i : Int), i = (b : Int) - 1 → b < m → b ≤ 37 → x + 2 ^ b ≤ 2 ^ 37 → r12root_loop0 400 m p 3 (x : Int) i = some ((((rootN (fun y => cubB y p) b x : Nat) : Int), ()), ((), ()))
  | 0, b, x, i, _, h, _, _ => by omega
  | m + 1, b, x, i, hi, hm, hb, hx => by
    rw [r12root_loop0_succ]
    unfold r12root_l0
    cases b with
    | zero => rw [decide_eq_false (by omega), cond_false]; rfl
    | succ q =>
      obtain rfl : i = (q : Int) := by omega
      have hp : 2 ^ (q + 1) = 2 ^ q + 2 ^ q := by rw [Nat.pow_succ]; omega
      have hq : 2 ^ q ≤ 2 ^ 37 := Nat.pow_le_pow_right (by decide) (by omega)
      have s1 : shlO .i64 (1 : Int) (q : Int) = some ((1 * 2 ^ q : Nat) : Int) := shl_nat (x := 1) (k := q) (by omega) (by omega)
      rw [Nat.one_mul] at s1
      rw [hp] at hx
      unfold rootN
      obtain ⟨Q, hQ⟩ : ∃ Q, 2 ^ q = Q := ⟨_, rfl⟩
      rw [hQ] at hq s1 hx ⊢
      have w1 : IntKind.wrap .i64 ((x : Int) + ((Q : Nat) : Int)) = ((x + Q : Nat) : Int) := wrap_add (by omega) (by omega)
      have w2 : IntKind.wrap .i64 ((q : Int) - (1 : Int)) = (q : Int) - 1 := by rw [wrap64 (by omega) (by omega)]
      rw [decide_eq_true (by omega), cond_true, s1, Option.bind_some, w1, letO_some, decide_eq_false (by decide), cond_false, decide_eq_true rfl, cond_true, cube_spec (x + Q) (by omega), Option.bind_some, w2]
      cases cubB (x + Q) p
      · exact root3_loop p m q x _ rfl (by omega) (by omega) (by rw [hQ]; omega)
      · exact root3_loop p m q (x + Q) _ rfl (by omega) (by omega) (by rw [hQ]; omega)
theorem root2_loop (p : Int) : ∀ (m b x : Nat) (i : Int), i = (b : Int) - 1 → b < m → b ≤ 37 → x + 2 ^ b ≤ 2 ^ 37 → r12root_loop0 400 m p 2 (x : Int) i = some ((((rootN (fun y => sqB y p) b x : Nat) : Int), ()), ((), ()))
  | 0, b, x, i, _, h, _, _ => by omega
  | m + 1, b, x, i, hi, hm, hb, hx => by
    rw [r12root_loop0_succ]
    unfold r12root_l0
    cases b with
    | zero => rw [decide_eq_false (by omega), cond_false]; rfl
    | succ q =>
      obtain rfl : i = (q : Int) := by omega
      have hp : 2 ^ (q + 1) = 2 ^ q + 2 ^ q := by rw [Nat.pow_succ]; omega
      have hq : 2 ^ q ≤ 2 ^ 37 := Nat.pow_le_pow_right (by decide) (by omega)
      have s1 : shlO .i64 (1 : Int) (q : Int) = some ((1 * 2 ^ q : Nat) : Int) := shl_nat (x := 1) (k := q) (by omega) (by omega)
      rw [Nat.one_mul] at s1
      rw [hp] at hx
      unfold rootN
      obtain ⟨Q, hQ⟩ : ∃ Q, 2 ^ q = Q := ⟨_, rfl⟩
      rw [hQ] at hq s1 hx ⊢
      have w1 : IntKind.wrap .i64 ((x : Int) + ((Q : Nat) : Int)) = ((x + Q : Nat) : Int) := wrap_add (by omega) (by omega)
      have w2 : IntKind.wrap .i64 ((q : Int) - (1 : Int)) = (q : Int) - 1 := by rw [wrap64 (by omega) (by omega)]
      rw [decide_eq_true (by omega), cond_true, s1, Option.bind_some, w1, letO_some, decide_eq_true rfl, cond_true, square_spec (x + Q) (by omega), Option.bind_some, w2]
      cases sqB (x + Q) p
      · have d : decide ((2 : Int) = 3) = false := by decide
        rw [d]
        exact root2_loop p m q x _ rfl (by omega) (by omega) (by rw [hQ]; omega)
      · exact root2_loop p m q (x + Q) _ rfl (by omega) (by omega) (by rw [hQ]; omega)
theorem rootN_lt (t : Nat → Bool) : ∀ b x, rootN t b x < x + 2 ^ b
  | 0, x => by unfold rootN; simp
  | b + 1, x => by
    unfold rootN
    have h1 := rootN_lt t b x; have h2 := rootN_lt t b (x + 2 ^ b)
    have hp : 2 ^ (b + 1) = 2 ^ b + 2 ^ b := by rw [Nat.pow_succ]; omega
    rw [hp]
    generalize 2 ^ b = Q at h1 h2 ⊢
    cases t (x + Q) <;> simp only [cond_true, cond_false] <;> omega
theorem root3_spec (p : Int) : r12root_t 400 p 3 = some (((rootN (fun y => cubB y p) 37 0 % 4294967296 : Nat)) : Int) := by
  unfold r12root_t
  have l : r12root_loop0 400 400 p 3 (0 : Int) (36 : Int) = _ := root3_loop p 400 37 0 36 (by decide) (by decide) (by decide) (by decide)
  have b := rootN_lt (fun y => cubB y p) 37 0
  rw [l, Option.bind_some]
  simp only
  rw [qMask_some (by omega) (by omega)]; rfl
theorem root2_spec (p : Int) : r12root_t 400 p 2 = some (((rootN (fun y => sqB y p) 37 0 % 4294967296 : Nat)) : Int) := by
  unfold r12root_t
  have l : r12root_loop0 400 400 p 2 (0 : Int) (36 : Int) = _ := root2_loop p 400 37 0 36 (by decide) (by decide) (by decide) (by decide)
  have b := rootN_lt (fun y => sqB y p) 37 0
  rw [l, Option.bind_some]
  simp only
  rw [qMask_some (by omega) (by omega)]; rfl
theorem Root_spec (i : Nat) (hi : i < 64) (power : Int) : r12Root_t 400 (i : Int) power = r12root_t 400 (P64.getD i 0) power := by
  unfold r12Root_t
  have h := primes_at ⟨i, hi⟩
  simp only at h
  obtain ⟨l, h1, h2⟩ := Option.bind_eq_some_iff.1 h
  have w : IntKind.wrap .i64 ((i : Int) + (1 : Int)) = (i : Int) + 1 := by rw [wrap64 (by omega) (by omega)]
  rw [w, letO_some, h1, Option.bind_some, h2, Option.bind_some]
  cases r12root_t 400 (P64.getD i 0) power <;> rfl
theorem lDRoots_true (z : Int) (hw : (Lit.int .i64 z).wf = true) : lDRoots_t 400 z = some true := by
  unfold lDRoots_t
  rw [live12]
  by_cases c0 : z < 0
  · rw [decide_eq_true c0, cond_true]; rfl
  by_cases c1 : (63 : Int) < z
  · rw [decide_eq_false c0, cond_false, decide_eq_true c1, cond_true]; rfl
  obtain ⟨i, rfl⟩ : ∃ i : Nat, z = (i : Int) := ⟨z.toNat, by omega⟩
  have hi : i < 64 := by omega
  have hH : r12H_t 400 = some H8 := rfl
  have hK : r12K_t 400 = some K64 := rfl
  have hm : makO 1 0 (64 : Int) = some (List.replicate 64 0) := by decide +kernel
  have hb : r12Bytes_t 400 H8 = some (textS H8) := bytes_spec 400 H8 H8_W (by decide) (by decide)
  have hl : (textS H8).length = 32 := by rw [textS_length]; rfl
  have hz : (List.map (fun n : Int => UInt8.ofNat n.toNat) (List.replicate 64 0)).length = 64 := by simp
  have iK : idxL K64 (i : Int) = some (K64.getD i 0) := by rw [idx_lt (by exact hi), getD_get (by exact hi)]
  have i8 : i % 8 < 8 := Nat.mod_lt _ (by decide)
  have iH : idxL H8 ((i % 8 : Nat) : Int) = some (H8.getD (i % 8) 0) := by rw [idx_lt (by exact i8), getD_get (by exact i8)]
  have r8 : remO (i : Int) (8 : Int) = some ((i % 8 : Nat) : Int) := by unfold remO; rw [if_pos (by decide)]; rfl
  have c3 : (r12Root_fc 400).F ((i : Int), (3 : Int)) = some (K64.getD i 0) := by
    show r12Root_t 400 (i : Int) 3 = _
    rw [Root_spec i hi, root3_spec]
    exact congrArg some (cubes_at i hi)
  have c2 : (r12Root_fc 400).F (((i % 8 : Nat) : Int), (2 : Int)) = some (H8.getD (i % 8) 0) := by
    show r12Root_t 400 ((i % 8 : Nat) : Int) 2 = _
    rw [Root_spec (i % 8) (by omega), root2_spec]
    exact congrArg some (squares_at ⟨i % 8, i8⟩)
  obtain ⟨Z, hZ⟩ : ∃ Z, Z = List.map (fun n : Int => UInt8.ofNat n.toNat) (List.replicate 64 0) := ⟨_, rfl⟩
  rw [← hZ] at hz
  rw [decide_eq_false c0, cond_false, decide_eq_false c1, cond_false, hm, Option.bind_some, ← hZ, hH, Option.bind_some, hb, Option.bind_some, fBlock_some (by omega) (by omega), Option.bind_some, Option.bind_some, hb, Option.bind_some, block_spec 400 (by omega), Option.bind_some, hK, Option.bind_some, iK, Option.bind_some, c3]
  have eB : (blockS (textS H8) Z).2 = true := by unfold blockS; rw [if_pos ⟨hl, hz⟩]
  show (bif decide (K64.getD i 0 = K64.getD i 0) then (some H8).bind fun (r13 : List (Int)) => (remO (i : Int) (8 : Int)).bind fun (n14 : Int) => (idxL r13 n14).bind fun (x15 : Int) => (remO (i : Int) (8 : Int)).bind fun (n16 : Int) => ((r12Root_fc 400).F (n16, (2 : Int))).bind fun (r17 : Int) => (bif decide (x15 = r17) then (bif (blockS (textS H8) Z).2 then (bif (blockS (textS H8) Z).2 then (bif decide ((blockS (textS H8) Z).1 = (blockS (textS H8) Z).1) then (some true).bind fun (r18 : Bool) => some r18 else some false) else some false) else some false) else some false) else some false) = some true
  rw [decide_eq_true (show K64.getD i 0 = K64.getD i 0 from rfl), cond_true, Option.bind_some, r8, Option.bind_some, iH, Option.bind_some, Option.bind_some, c2]
  show (bif decide (H8.getD (i % 8) 0 = H8.getD (i % 8) 0) then (bif (blockS (textS H8) Z).2 then (bif (blockS (textS H8) Z).2 then (bif decide ((blockS (textS H8) Z).1 = (blockS (textS H8) Z).1) then (some true).bind fun (r18 : Bool) => some r18 else some false) else some false) else some false) else some false) = some true
  rw [decide_eq_true (show H8.getD (i % 8) 0 = H8.getD (i % 8) 0 from rfl), cond_true, eB, cond_true, cond_true, decide_eq_true rfl, cond_true]
  rfl
end YtbcdlkapapajoaaDoor.AM
end Go.Proofs
