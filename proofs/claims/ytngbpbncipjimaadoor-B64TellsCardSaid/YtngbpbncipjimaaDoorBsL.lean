/- Layer 13: a group's signs. -/
import Derived.Test.YtngbpbncipjimaaDoorBsG0
namespace Go.Proofs
open Go.RowKit
set_option linter.unusedVariables false
set_option linter.unusedSimpArgs false
namespace YtngbpbncipjimaaDoor.AM
theorem sAt_sg {k : Nat} (h : k < 64) : sAt sgT (k : Int) = some (((sg k).toNat : Nat) : Int) := by
  have h' : k < sgT.length := h
  rw [sAt_lt h']
  unfold sg
  rw [List.getD_eq_getElem?_getD, List.getElem?_eq_getElem h']; rfl
theorem sign_spec (n x : Nat) : fsign13_t n (x : Int) = some (((sg (x % 64)).toNat : Nat) : Int) := by
  unfold fsign13_t
  have e : remO (x : Int) (64 : Int) = some ((x % 64 : Nat) : Int) := by unfold remO; rw [if_pos (by decide)]; rfl
  have h := sAt_sg (Nat.mod_lt x (show 64 > 0 by decide))
  unfold sgT at h
  rw [e, Option.bind_some, h]
  rfl
theorem lay_round (n m : Nat) (s : List UInt8) (x k : Nat) (hk : k < 3) (hx : x < 65536) (hs : s.length ≤ 3) (a4 a5 a6 a7 : Int) :
    flay13_loop0 n (m + 1) s (x : Int) (k : Int) a4 a5 a6 a7 = flay13_loop0 n m s ((x * 256 + (s.getD k 0).toNat : Nat) : Int) ((k + 1 : Nat) : Int) a4 a5 a6 a7 := by
  rw [flay13_loop0_succ]
  unfold flay13_l0
  have h1 : decide ((k : Int) < 3) = true := decide_eq_true (by omega)
  have h2 : shlO .u32 (x : Int) (8 : Int) = some ((x * 2 ^ 8 : Nat) : Int) := shl32 (j := 8) (by decide) (by omega)
  have h5 : IntKind.wrap .i64 ((k : Int) + 1) = ((k + 1 : Nat) : Int) := wrap_succ (by omega)
  rw [h1, cond_true, h2, Option.bind_some]
  by_cases c : k < s.length
  · have hc := UInt8.toNat_lt s[k]
    have e : s.getD k 0 = s[k] := by rw [List.getD_eq_getElem?_getD, List.getElem?_eq_getElem c]; rfl
    have h3 : IntKind.wrap .u32 ((s[k].toNat : Nat) : Int) = ((s[k].toNat : Nat) : Int) := by rw [wrap_u32]; omega
    rw [decide_eq_true (by omega), cond_true, sAt_lt c, Option.bind_some, letO_some, h3, letO_some, or32 (by omega) (by omega), letO_some, h5, e]
  · have e : s.getD k 0 = 0 := by rw [List.getD_eq_getElem?_getD, List.getElem?_eq_none (by omega)]; rfl
    have z : (0 : UInt8).toNat = 0 := rfl
    rw [decide_eq_false (by omega), cond_false, letO_some, h5, e, z, Nat.add_zero (x * 256), show (2 ^ 8 : Nat) = 256 from rfl]
theorem lay_loop (n m : Nat) (s : List UInt8) (hs : s.length ≤ 3) (a4 a5 a6 a7 : Int) :
    flay13_loop0 n (m + 4) s 0 0 a4 a5 a6 a7 = some ((s, ((), (((((s.getD 0 0).toNat * 256 + (s.getD 1 0).toNat) * 256 + (s.getD 2 0).toNat : Nat) : Int), ()))), (((a4, (a5, (a6, a7))), ()), ())) := by
  have h0 := UInt8.toNat_lt (s.getD 0 0); have h1 := UInt8.toNat_lt (s.getD 1 0)
  have e0 := lay_round n (m + 3) s 0 0 (by decide) (by decide) hs a4 a5 a6 a7
  have e1 := lay_round n (m + 2) s (0 * 256 + (s.getD 0 0).toNat) 1 (by decide) (by omega) hs a4 a5 a6 a7
  have e2 := lay_round n (m + 1) s ((0 * 256 + (s.getD 0 0).toNat) * 256 + (s.getD 1 0).toNat) 2 (by decide) (by omega) hs a4 a5 a6 a7
  have e3 : flay13_loop0 n (m + 4) s 0 0 a4 a5 a6 a7 = flay13_loop0 n (m + 3 + 1) s ((0 : Nat) : Int) ((0 : Nat) : Int) a4 a5 a6 a7 := rfl
  rw [e3, e0, e1, e2, flay13_loop0_succ]
  unfold flay13_l0
  rw [decide_eq_false (by decide), cond_false, Nat.zero_mul, Nat.zero_add]
set_option maxRecDepth 20000 in
theorem lay_spec (m : Nat) (s : List UInt8) (h1 : s ≠ []) (h3 : s.length ≤ 3) : ∃ p q r t : UInt8, encS s = [p, q, r, t] ∧ flay13_t (m + 4) s = some (((p.toNat : Nat) : Int), (((q.toNat : Nat) : Int), (((r.toNat : Nat) : Int), ((t.toNat : Nat) : Int)))) := by
  obtain ⟨x, hx, hl⟩ : ∃ x : Nat, x = ((s.getD 0 0).toNat * 256 + (s.getD 1 0).toNat) * 256 + (s.getD 2 0).toNat ∧
    flay13_loop0 (m + 4) (m + 4) s 0 0 0 0 0 0 = some ((s, ((), (((x : Nat) : Int), ()))), ((((0 : Int), ((0 : Int), ((0 : Int), (0 : Int)))), ()), ())) := ⟨_, rfl, lay_loop (m + 4) m s h3 0 0 0 0⟩
  have hp : sAt ([61] : List UInt8) (0 : Int) = some (((61 : UInt8).toNat : Nat) : Int) := rfl
  have f1 : shrO .u32 (x : Int) (6 : Int) = some ((x / 2 ^ 6 : Nat) : Int) := shr32 (j := 6) (by decide)
  have f2 : shrO .u32 (x : Int) (12 : Int) = some ((x / 2 ^ 12 : Nat) : Int) := shr32 (j := 12) (by decide)
  have f3 : shrO .u32 (x : Int) (18 : Int) = some ((x / 2 ^ 18 : Nat) : Int) := shr32 (j := 18) (by decide)
  unfold flay13_t
  rw [hl, Option.bind_some, hp, Option.bind_some, Option.bind_some, Option.bind_some, Option.bind_some]
  have z : (0 : UInt8).toNat = 0 := rfl
  match s, h1, h3, hx with
  | [a], _, _, hx =>
    have ha := UInt8.toNat_lt a
    have hx' : x = a.toNat * 65536 := by
      rw [hx]; show (a.toNat * 256 + (0 : UInt8).toNat) * 256 + (0 : UInt8).toNat = _; rw [z]; omega
    clear hx hl
    refine ⟨_, _, _, _, rfl, ?_⟩
    rw [decide_eq_false (p := ((([a] : List UInt8).length : Nat) : Int) = 3) (show ¬ ((1 : Nat) : Int) = 3 by decide), cond_false, decide_eq_false (p := ((([a] : List UInt8).length : Nat) : Int) = 2) (show ¬ ((1 : Nat) : Int) = 2 by decide), cond_false, decide_eq_true (p := ((([a] : List UInt8).length : Nat) : Int) = 1) (show ((1 : Nat) : Int) = 1 by decide), cond_true, f2, Option.bind_some, sign_spec, Option.bind_some, f3, Option.bind_some, sign_spec, Option.bind_some]
    rw [show x / 2 ^ 12 % 64 = a.toNat % 4 * 16 from by omega, show x / 2 ^ 18 % 64 = a.toNat / 4 from by omega]
  | [a, b], _, _, hx =>
    have ha := UInt8.toNat_lt a; have hb := UInt8.toNat_lt b
    have hx' : x = a.toNat * 65536 + b.toNat * 256 := by
      rw [hx]; show (a.toNat * 256 + b.toNat) * 256 + (0 : UInt8).toNat = _; rw [z]; omega
    clear hx hl
    refine ⟨_, _, _, _, rfl, ?_⟩
    rw [decide_eq_false (p := ((([a, b] : List UInt8).length : Nat) : Int) = 3) (show ¬ ((2 : Nat) : Int) = 3 by decide), cond_false, decide_eq_true (p := ((([a, b] : List UInt8).length : Nat) : Int) = 2) (show ((2 : Nat) : Int) = 2 by decide), cond_true, f1, Option.bind_some, sign_spec, Option.bind_some, f2, Option.bind_some, sign_spec, Option.bind_some, f3, Option.bind_some, sign_spec, Option.bind_some]
    rw [show x / 2 ^ 6 % 64 = b.toNat % 16 * 4 from by omega, show x / 2 ^ 12 % 64 = a.toNat % 4 * 16 + b.toNat / 16 from by omega, show x / 2 ^ 18 % 64 = a.toNat / 4 from by omega]
  | [a, b, c], _, _, hx =>
    have ha := UInt8.toNat_lt a; have hb := UInt8.toNat_lt b; have hc := UInt8.toNat_lt c
    have hx' : x = (a.toNat * 256 + b.toNat) * 256 + c.toNat := hx
    clear hx hl
    refine ⟨_, _, _, _, rfl, ?_⟩
    rw [decide_eq_true (p := ((([a, b, c] : List UInt8).length : Nat) : Int) = 3) (show ((3 : Nat) : Int) = 3 by decide), cond_true, sign_spec, Option.bind_some, f1, Option.bind_some, sign_spec, Option.bind_some, f2, Option.bind_some, sign_spec, Option.bind_some, f3, Option.bind_some, sign_spec, Option.bind_some]
    rw [show x % 64 = c.toNat % 64 from by omega, show x / 2 ^ 6 % 64 = b.toNat % 16 * 4 + c.toNat / 64 from by omega, show x / 2 ^ 12 % 64 = a.toNat % 4 * 16 + b.toNat / 16 from by omega, show x / 2 ^ 18 % 64 = a.toNat / 4 from by omega]
/-- the group's signs, as a call -/
theorem lay_c (s : List UInt8) (h1 : s ≠ []) (h3 : s.length ≤ 3) (w : World) : ∃ p q r t : UInt8, encS s = [p, q, r, t] ∧
    Calls Tryd.prog 20 #[.string (ba s)] w fun e w' => e = .returned (.agg #[.int .u8 (p.toNat : Int), .int .u8 (q.toNat : Int), .int .u8 (r.toNat : Int), .int .u8 (t.toNat : Int)]) ∧ Below w.heap.size w w' := by
  obtain ⟨p, q, r, t, he, hl⟩ := lay_spec 5 s h1 h3
  refine ⟨p, q, r, t, he, ?_⟩
  have h := (flay13_ok 9 AM.Inv AM.know_inv).1.2 s _ hl
  refine (h (AM.Old w) w #[.string (ba s)] trivial (fun b o h => h) ⟨drep_val (σ := noSt) (.string (ba s)), trivial⟩).mono ?_
  rintro e w' ⟨v, Pc, rfl, hb, _, _, hv⟩
  obtain ⟨vs, rfl, hv⟩ := hv
  obtain ⟨l⟩ := vs
  match l, hv with
  | [x, y, z, u], ⟨h1, h2, h3, h4, _⟩ =>
    rw [of_val (σ := noSt) h1, of_val (σ := noSt) h2, of_val (σ := noSt) h3, of_val (σ := noSt) h4]
    exact ⟨rfl, hb⟩
end YtngbpbncipjimaaDoor.AM
end Go.Proofs
