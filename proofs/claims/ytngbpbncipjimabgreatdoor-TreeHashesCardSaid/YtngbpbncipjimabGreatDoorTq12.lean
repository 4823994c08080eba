/- Layer 13: four signs are read. -/
import Derived.Test.YtngbpbncipjimabGreatDoorTq11
import Derived.BigRegion
import Derived.Deep.MidRow
namespace Go.Proofs
open Go.RowKit Go.Shelf Go.Lib
attribute [local go_sem] Oper.semAt_some
set_option linter.unusedVariables false
set_option linter.unusedSimpArgs false
namespace YtngbpbncipjimabGreatDoor.AM.Bs
def nuT (T : List UInt8) (i : Nat) : Option Nat := match T[i]? with
  | some c => nu c
  | none => some 0
def xN (T : List UInt8) : Nat → Nat
  | 0 => 0
  | i + 1 => xN T i * 64 + (nuT T i).getD 0
theorem nuT_lt (T : List UInt8) (i : Nat) : (nuT T i).getD 0 < 64 := by
  unfold nuT
  split
  · rename_i c _
    cases h : nu c with
    | none => decide
    | some k => exact nu_small h
  · decide
theorem xN_lt (T : List UInt8) : ∀ i, xN T i < 64 ^ i
  | 0 => Nat.lt_add_one 0
  | i + 1 => by
    have h1 := xN_lt T i; have h2 := nuT_lt T i
    unfold xN
    rw [Nat.pow_succ]
    generalize 64 ^ i = y at *
    omega
theorem xN_four (T : List UInt8) {a b c d : Nat} (ha : nuT T 0 = some a) (hb : nuT T 1 = some b) (hc : nuT T 2 = some c) (hd : nuT T 3 = some d) : xN T 4 = ((a * 64 + b) * 64 + c) * 64 + d := by
  simp only [xN, ha, hb, hc, hd, Option.getD_some]
  omega
theorem idx_sg : ∀ c : UInt8, Lib.indexByte sgT c = match nu c with | some k => (k : Int) | none => -1 := by
  have h : ∀ c : Fin 256, Lib.indexByte sgT (UInt8.ofNat c.val) = match nu (UInt8.ofNat c.val) with | some k => (k : Int) | none => -1 := by decide +kernel
  intro c
  have := h ⟨c.toNat, UInt8.toNat_lt c⟩
  simpa using this
/-- what four signs tell -/
def grp (T : List UInt8) : List UInt8 := [UInt8.ofNat (xN T 4 / 65536 % 256), UInt8.ofNat (xN T 4 / 256 % 256), UInt8.ofNat (xN T 4 % 256)]
theorem sg_beq {k : Nat} (h : k < 64) : (sg k == 61) = false := beq_eq_false_iff_ne.2 (sg_pad h)
theorem rd_told {t g : List UInt8} (h : rdS t g) : ∃ T, Lib.trimRightB t 61 = T ∧ T.length = g.length + 1 ∧ (∀ i, (nuT T i).isSome = true) ∧ (grp T).take (T.length * 6 / 8) = g := by
  obtain ⟨h1, h2, rfl⟩ := h
  match g, h1, h2 with
  | [a], _, _ =>
    have ha := UInt8.toNat_lt a
    have k0 : a.toNat / 4 < 64 := by omega
    have k1 : a.toNat % 4 * 16 < 64 := by omega
    have v0 : nuT [sg (a.toNat / 4), sg (a.toNat % 4 * 16)] 0 = some (a.toNat / 4) := nu_of k0
    have v1 : nuT [sg (a.toNat / 4), sg (a.toNat % 4 * 16)] 1 = some (a.toNat % 4 * 16) := nu_of k1
    have v2 : nuT [sg (a.toNat / 4), sg (a.toNat % 4 * 16)] 2 = some 0 := rfl
    have v3 : nuT [sg (a.toNat / 4), sg (a.toNat % 4 * 16)] 3 = some 0 := rfl
    refine ⟨[sg (a.toNat / 4), sg (a.toNat % 4 * 16)], ?_, rfl, fun i => ?_, ?_⟩
    · unfold encS Lib.trimRightB; simp only [List.reverse_cons, List.reverse_nil, List.nil_append, List.cons_append, List.dropWhile, sg_beq k1, show ((61 : UInt8) == 61) = true from rfl]
    · match i with
      | 0 => rw [v0]; rfl
      | 1 => rw [v1]; rfl
      | i + 2 => rfl
    · have e := xN_four _ v0 v1 v2 v3
      unfold grp
      rw [e, show ([sg (a.toNat / 4), sg (a.toNat % 4 * 16)] : List UInt8).length = 2 from rfl]
      show [UInt8.ofNat ((((((a.toNat / 4)) * 64 + (a.toNat % 4 * 16)) * 64 + 0) * 64 + 0) / 65536 % 256)] = [a]
      rw [ofNat_eq (a := a) (by omega)]
  | [a, b], _, _ =>
    have ha := UInt8.toNat_lt a; have hb := UInt8.toNat_lt b
    have k0 : a.toNat / 4 < 64 := by omega
    have k1 : a.toNat % 4 * 16 + b.toNat / 16 < 64 := by omega
    have k2 : b.toNat % 16 * 4 < 64 := by omega
    have v0 : nuT [sg (a.toNat / 4), sg (a.toNat % 4 * 16 + b.toNat / 16), sg (b.toNat % 16 * 4)] 0 = some (a.toNat / 4) := nu_of k0
    have v1 : nuT [sg (a.toNat / 4), sg (a.toNat % 4 * 16 + b.toNat / 16), sg (b.toNat % 16 * 4)] 1 = some (a.toNat % 4 * 16 + b.toNat / 16) := nu_of k1
    have v2 : nuT [sg (a.toNat / 4), sg (a.toNat % 4 * 16 + b.toNat / 16), sg (b.toNat % 16 * 4)] 2 = some (b.toNat % 16 * 4) := nu_of k2
    have v3 : nuT [sg (a.toNat / 4), sg (a.toNat % 4 * 16 + b.toNat / 16), sg (b.toNat % 16 * 4)] 3 = some 0 := rfl
    refine ⟨[sg (a.toNat / 4), sg (a.toNat % 4 * 16 + b.toNat / 16), sg (b.toNat % 16 * 4)], ?_, rfl, fun i => ?_, ?_⟩
    · unfold encS Lib.trimRightB; simp only [List.reverse_cons, List.reverse_nil, List.nil_append, List.cons_append, List.dropWhile, sg_beq k2, show ((61 : UInt8) == 61) = true from rfl]
    · match i with
      | 0 => rw [v0]; rfl
      | 1 => rw [v1]; rfl
      | 2 => rw [v2]; rfl
      | i + 3 => rfl
    · have e := xN_four _ v0 v1 v2 v3
      unfold grp
      rw [e, show ([sg (a.toNat / 4), sg (a.toNat % 4 * 16 + b.toNat / 16), sg (b.toNat % 16 * 4)] : List UInt8).length = 3 from rfl]
      show [UInt8.ofNat ((((((a.toNat / 4)) * 64 + (a.toNat % 4 * 16 + b.toNat / 16)) * 64 + (b.toNat % 16 * 4)) * 64 + 0) / 65536 % 256), UInt8.ofNat ((((((a.toNat / 4)) * 64 + (a.toNat % 4 * 16 + b.toNat / 16)) * 64 + (b.toNat % 16 * 4)) * 64 + 0) / 256 % 256)] = [a, b]
      rw [ofNat_eq (a := a) (by omega), ofNat_eq (a := b) (by omega)]
  | [a, b, c], _, _ =>
    have ha := UInt8.toNat_lt a; have hb := UInt8.toNat_lt b; have hc := UInt8.toNat_lt c
    have k0 : a.toNat / 4 < 64 := by omega
    have k1 : a.toNat % 4 * 16 + b.toNat / 16 < 64 := by omega
    have k2 : b.toNat % 16 * 4 + c.toNat / 64 < 64 := by omega
    have k3 : c.toNat % 64 < 64 := by omega
    have v0 : nuT [sg (a.toNat / 4), sg (a.toNat % 4 * 16 + b.toNat / 16), sg (b.toNat % 16 * 4 + c.toNat / 64), sg (c.toNat % 64)] 0 = some (a.toNat / 4) := nu_of k0
    have v1 : nuT [sg (a.toNat / 4), sg (a.toNat % 4 * 16 + b.toNat / 16), sg (b.toNat % 16 * 4 + c.toNat / 64), sg (c.toNat % 64)] 1 = some (a.toNat % 4 * 16 + b.toNat / 16) := nu_of k1
    have v2 : nuT [sg (a.toNat / 4), sg (a.toNat % 4 * 16 + b.toNat / 16), sg (b.toNat % 16 * 4 + c.toNat / 64), sg (c.toNat % 64)] 2 = some (b.toNat % 16 * 4 + c.toNat / 64) := nu_of k2
    have v3 : nuT [sg (a.toNat / 4), sg (a.toNat % 4 * 16 + b.toNat / 16), sg (b.toNat % 16 * 4 + c.toNat / 64), sg (c.toNat % 64)] 3 = some (c.toNat % 64) := nu_of k3
    refine ⟨[sg (a.toNat / 4), sg (a.toNat % 4 * 16 + b.toNat / 16), sg (b.toNat % 16 * 4 + c.toNat / 64), sg (c.toNat % 64)], ?_, rfl, fun i => ?_, ?_⟩
    · unfold encS Lib.trimRightB; simp only [List.reverse_cons, List.reverse_nil, List.nil_append, List.cons_append, List.dropWhile, sg_beq k3, encS]
    · match i with
      | 0 => rw [v0]; rfl
      | 1 => rw [v1]; rfl
      | 2 => rw [v2]; rfl
      | 3 => rw [v3]; rfl
      | i + 4 => rfl
    · have e := xN_four _ v0 v1 v2 v3
      unfold grp
      rw [e, show ([sg (a.toNat / 4), sg (a.toNat % 4 * 16 + b.toNat / 16), sg (b.toNat % 16 * 4 + c.toNat / 64), sg (c.toNat % 64)] : List UInt8).length = 4 from rfl]
      show [UInt8.ofNat ((((((a.toNat / 4)) * 64 + (a.toNat % 4 * 16 + b.toNat / 16)) * 64 + (b.toNat % 16 * 4 + c.toNat / 64)) * 64 + (c.toNat % 64)) / 65536 % 256), UInt8.ofNat ((((((a.toNat / 4)) * 64 + (a.toNat % 4 * 16 + b.toNat / 16)) * 64 + (b.toNat % 16 * 4 + c.toNat / 64)) * 64 + (c.toNat % 64)) / 256 % 256), UInt8.ofNat ((((((a.toNat / 4)) * 64 + (a.toNat % 4 * 16 + b.toNat / 16)) * 64 + (b.toNat % 16 * 4 + c.toNat / 64)) * 64 + (c.toNat % 64)) % 256)] = [a, b, c]
      rw [ofNat_eq (a := a) (by omega), ofNat_eq (a := b) (by omega), ofNat_eq (a := c) (by omega)]
theorem trim_len (t : List UInt8) (c : UInt8) : (Lib.trimRightB t c).length ≤ t.length := by
  unfold Lib.trimRightB
  rw [List.length_reverse]
  have := (List.dropWhile_suffix (l := t.reverse) (p := (· == c))).length_le
  rwa [List.length_reverse] at this
theorem results_row_tt {P : Program} {fn : Func} {p u v : Tmp} {ty : TypeId} (h : fn.results = #[.cell p ty, .tmp u, .tmp v]) (tmps : Array Value) (w : World) (g : Nat) (t : TypeId) (cs : Array Value) (fr : Nat × Nat) (d : TypeDesc)
    (hp : tmps.getD p undef = .pointer (some ⟨g, 0, none⟩)) (hg : w.heap[g]? = some (.cells cs t fr))
    (hu : P.underlying ty = some d) (hd : (match d with | .struct _ | .array _ _ => true | _ => false) = true) (hi : (P.info? ty).map (·.size) = some cs.size) :
    (results fn tmps).run P w = .ok (.tuple #[.agg cs, tmps.getD u undef, tmps.getD v undef]) w := by
  have hp' : tmps[p]?.getD undef = .pointer (some ⟨g, 0, none⟩) := by simpa using hp
  simp only [results, h]
  simp [Sem.run_bind, Result.andThen, hp', asAddr, run_loadVar_row w g t ty cs fr d hg hu hd hi]
theorem results_ctt {P : Program} {fn : Func} {p u v : Tmp} {ty : TypeId} (h : fn.results = #[.cell p ty, .tmp u, .tmp v]) (tmps : Array Value) (w : World) (a : Addr) (x : Value)
    (hp : tmps.getD p undef = .pointer (some a)) (hv : (loadVar ty a).run P w = .ok x w) :
    (results fn tmps).run P w = .ok (.tuple #[x, tmps.getD u undef, tmps.getD v undef]) w := by
  have hp' : tmps[p]?.getD undef = .pointer (some a) := by simpa using hp
  simp only [results, h]
  simp [Sem.run_bind, Result.andThen, hp', asAddr, hv]
def RdOk (t : List UInt8) (a b c : UInt8) (n : Nat) (ok : Bool) : Prop := (ok = true ∧ 1 ≤ n ∧ n ≤ 3 ∧ rdS t ([a, b, c].take n)) ∨ (ok = false ∧ ∀ g, ¬ rdS t g)
set_option maxHeartbeats 4000000 in
set_option maxRecDepth 1000000 in
theorem read_c (t : List UInt8) (ht : t.length = 4) (w : World) (hI : Inv w) : Calls Tryz.prog 55 #[.string (ba t)] w fun e w' => (∃ (a b c : UInt8) (n : Nat) (ok : Bool), e = .returned (.tuple #[.agg #[.int .u8 (a.toNat : Int), .int .u8 (b.toNat : Int), .int .u8 (c.toNat : Int)], .int .i64 (n : Int), .bool ok]) ∧ RdOk t a b c n ok) ∧ Below w.heap.size w w' := by
  have hdat : (ba t).data.toList = t := by simp [ba]
  have htr : ∀ W, Calls Tryz.prog 81 #[.string (ba t), .string ⟨#[61]⟩] W fun e w' => e = .returned (.string (ba (Lib.trimRightB t 61))) ∧ w' = W := fun W => by
    have := Tryz.strings_TrimRight_one (ba t) 61 (by decide) W (by rw [ba_len]; omega)
    rw [hdat] at this
    exact this
  have htl := trim_len t 61
  have hrd : ∀ g, rdS t g → (Lib.trimRightB t 61).length = g.length + 1 ∧ (∀ i, (nuT (Lib.trimRightB t 61) i).isSome = true) ∧ (grp (Lib.trimRightB t 61)).take ((Lib.trimRightB t 61).length * 6 / 8) = g := fun g hg => by
    obtain ⟨T, h1, h2, h3, h4⟩ := rd_told hg
    rw [h1]
    exact ⟨h2, h3, h4⟩
  generalize Lib.trimRightB t 61 = T at *
  rw [ht] at htl
  have hTl : (ba T).size = T.length := ba_len T
  have HRD := hid hrd
  clear hrd hdat
  go_enter Tryz.func55, Tryz.ntmps55
  go_wp2_with fail
  refine (htr _).mono ?_
  rintro e W0 ⟨rfl, rfl⟩
  clear htr
  by_cases c2 : T.length < 2
  · have c2' : (T.length : Int) < 2 := by omega
    go_wp2_with fail
    try simp only [Exit.inBlock, Exit.then]
    refine bodyPost_ret (results_row_tt rfl _ _ w.heap.size 79 #[.int .u8 0, .int .u8 0, .int .u8 0] (0, 0) _ rfl (heap_alloc_new w _) Tryz.underlying79 rfl (by kernel_rfl)) rfl ?_
    refine ⟨⟨0, 0, 0, 0, false, rfl, .inr ⟨rfl, fun g hg => ?_⟩⟩, (Below.refl _ _).alloc (Nat.le_refl _) _⟩
    have h1 := (HRD.out g hg).1
    have h2 : g ≠ [] := hg.1
    have h3 : g.length ≠ 0 := fun h => h2 (List.eq_nil_of_length_eq_zero h)
    omega
  · have c2' : ¬ (T.length : Int) < 2 := by omega
    have HC2 := hid c2
    go_wp2_with fail
    go_loopw [6, 18] (fun x i wr => ∃ k : Nat, k ≤ 4 ∧ x = .int .u32 ((xN T k : Nat) : Int) ∧ i = .int .i64 (k : Int) ∧ (∀ j, j < k → (nuT T j).isSome = true) ∧ wr = w.alloc (.cells #[.int .u8 0, .int .u8 0, .int .u8 0] 79 (0, 0))) (fun _ i _ => 4 - (RowKit.intOf i).toNat)
    case atStart => exact ⟨0, by omega, rfl, rfl, (fun j hj => absurd hj (Nat.not_lt_zero j)), rfl⟩
    case round =>
      obtain ⟨k, hk, rfl, rfl, hsome, rfl⟩ := hrel
      have HS := hid hsome
      clear hsome
      have hxl := xN_lt T k
      have hstep : xN T (k + 1) = xN T k * 64 + (nuT T k).getD 0 := rfl
      have hnlt := nuT_lt T k
      by_cases ck : k < 4
      · have hx18 : xN T k < 262144 := Nat.lt_of_lt_of_le hxl (by have : (64 : Nat) ^ k ≤ 64 ^ 3 := Nat.pow_le_pow_right (by decide) (by omega); omega)
        generalize xN T k = X at *
        have HX := hid hstep
        clear hstep hxl
        have ck' : (k : Int) < 4 := by omega
        by_cases cT : k < T.length
        · have cT' : (k : Int) < (T.length : Int) := by omega
          have hgk : (ba T)[k]'(by rw [hTl]; exact cT) = T[k] := rfl
          have hnk : nuT T k = nu T[k] := by unfold nuT; rw [List.getElem?_eq_getElem cT]
          have hix : ∀ W, Calls Tryz.prog 82 #[.string (ba sgT), .int .u8 ((T[k].toNat : Nat) : Int)] W fun e w' => e = .returned (.int .i64 (match nu T[k] with | some k => (k : Int) | none => -1)) ∧ w' = W := fun W => by
            have := Tryz.strings_IndexByte (ba sgT) ((T[k].toNat : Nat) : Int) W
            rw [show (ba sgT).data.toList = sgT from by simp [ba], show (((T[k].toNat : Nat) : Int)).toNat.toUInt8 = T[k] from by simp, idx_sg] at this
            exact this
          have HNK := hid hnk
          clear hnk
          cases hq : nu T[k] with
          | none =>
            rw [hq] at hix
            go_wp2_with fail
            refine (hix _).mono ?_
            rintro e W1 ⟨rfl, rfl⟩
            clear hix
            go_wp2_with fail
            try simp only [Exit.inBlock, Exit.then]
            refine bodyPost_ret (results_row_tt rfl _ _ w.heap.size 79 #[.int .u8 0, .int .u8 0, .int .u8 0] (0, 0) _ rfl (heap_alloc_new w _) Tryz.underlying79 rfl (by kernel_rfl)) rfl ?_
            refine ⟨⟨0, 0, 0, 0, false, rfl, .inr ⟨rfl, fun g hg => ?_⟩⟩, (Below.refl _ _).alloc (Nat.le_refl _) _⟩
            have h1 := (HRD.out g hg).2.1 k
            rw [HNK.out, hq] at h1
            cases h1
          | some q =>
            rw [hq] at hix
            have hq64 := nu_small hq
            have hor : bits BinOp.or IntKind.u32 ((X : Int) * 64) (q : Int) = ((X * 64 + q : Nat) : Int) := by
              have h3 := or32 (x := X) (c := q) (j := 6) (by omega) (by omega)
              have h4 : ((X * 2 ^ 6 : Nat) : Int) = (X : Int) * 64 := by omega
              have h5 : ((X * 2 ^ 6 + q : Nat) : Int) = ((X * 64 + q : Nat) : Int) := by omega
              rw [h4, h5] at h3
              exact h3
            go_wp2_with fail
            refine (hix _).mono ?_
            rintro e W1 ⟨rfl, rfl⟩
            clear hix
            go_wp2_with fail
            refine ⟨⟨k + 1, by omega, ?_, by go_num, ?_, trivial⟩, ?_⟩
            · rw [HX.out, HNK.out, hq]; go_num
            · intro j hj
              by_cases c : j = k
              · subst c; rw [HNK.out, hq]; rfl
              · exact HS.out j (by omega)
            · simp [RowKit.intOf]; omega
        · have cT' : ¬ (k : Int) < (T.length : Int) := by omega
          have hnk : nuT T k = some 0 := by unfold nuT; rw [List.getElem?_eq_none (by omega)]
          have HNK := hid hnk
          clear hnk
          go_wp2_with fail
          refine ⟨⟨k + 1, by omega, ?_, by go_num, ?_, trivial⟩, ?_⟩
          · rw [HX.out, HNK.out]; go_num
          · intro j hj
            by_cases c : j = k
            · subst c; rw [HNK.out]; rfl
            · exact HS.out j (by omega)
          · simp [RowKit.intOf]; omega
      · have ck' : ¬ (k : Int) < 4 := by omega
        obtain rfl : k = 4 := by omega
        clear hxl hstep hnlt
        obtain ⟨A, hA⟩ : ∃ A, A = UInt8.ofNat (xN T 4 / 65536 % 256) := ⟨_, rfl⟩
        obtain ⟨B, hB⟩ : ∃ B, B = UInt8.ofNat (xN T 4 / 256 % 256) := ⟨_, rfl⟩
        obtain ⟨C, hC⟩ : ∃ C, C = UInt8.ofNat (xN T 4 % 256) := ⟨_, rfl⟩
        have hg : grp T = [A, B, C] := by rw [hA, hB, hC]; rfl
        have hA' : ((xN T 4 : Nat) : Int) / 65536 % 256 = ((A.toNat : Nat) : Int) := by rw [hA, UInt8.toNat_ofNat']; omega
        have hB' : ((xN T 4 : Nat) : Int) / 256 % 256 = ((B.toNat : Nat) : Int) := by rw [hB, UInt8.toNat_ofNat']; omega
        have hC' : ((xN T 4 : Nat) : Int) % 256 = ((C.toNat : Nat) : Int) := by rw [hC, UInt8.toNat_ofNat']; omega
        have HG := hid hg
        clear hg hA hB hC
        have hX4 : xN T 4 < 16777216 := xN_lt T 4
        generalize xN T 4 = X at *
        obtain ⟨n, hn⟩ : ∃ n : Nat, n = T.length * 6 / 8 := ⟨_, rfl⟩
        have hc2 := HC2.out
        have hn1 : 1 ≤ n := by omega
        have hn3 : n ≤ 3 := by omega
        have hn8 : (T.length : Int) * 6 / 8 = (n : Int) := by omega
        have hn3' : (n : Int) ≤ 3 := by omega
        have hn0' : (0 : Int) ≤ (n : Int) := by omega
        have HN := hid hn
        have HX4 := hid hX4
        clear hn hc2 hX4
        obtain ⟨D, hD⟩ : ∃ D, D = [A, B, C].take n := ⟨_, rfl⟩
        have hDl : D.length = n := by rw [hD, List.length_take]; simp; omega
        have hcv : ∀ W : World, W.heap[w.heap.size + 1]? = some (.cells #[.int .u8 (A.toNat : Int), .int .u8 (B.toNat : Int), .int .u8 (C.toNat : Int)] 79 (0, 0)) →
            (convert 51 9 (.slice (some ⟨w.heap.size + 1, 0, none⟩) n 3)).run Tryz.prog W = .ok (.string (ba D)) W := fun W hW => by
          have h3 := run_convert_bytes_back (P := Tryz.prog) W 51 9 5 ⟨w.heap.size + 1, 0, none⟩ 3 D Tryz.underlying51 Tryz.underlying5 Tryz.underlying9 (fun j hj => by
            have h5 : (⟨w.heap.size + 1, 0, none⟩ : Addr).add j = ⟨w.heap.size + 1, j, none⟩ := by unfold Addr.add; split <;> simp_all
            rw [h5, Lib.cell_of_heap hW j]
            have h6 : j < 3 := by omega
            have h7 : D[j] = ([A, B, C] : List UInt8)[j]'h6 := by subst hD; rw [List.getElem_take]
            rw [h7]
            match j, h6 with
            | 0, _ => rfl
            | 1, _ => rfl
            | 2, _ => rfl)
          rw [hDl] at h3
          exact h3
        have hw1 := heap_alloc2_new w (.cells #[.int .u8 0, .int .u8 0, .int .u8 0] 79 (0, 0)) (.cells #[.int .u8 (A.toNat : Int), .int .u8 (B.toNat : Int), .int .u8 (C.toNat : Int)] 79 (0, 0))
        have hcv1 := hcv _ hw1
        have HD := hid hD
        clear hD
        obtain ⟨p, q, r, z, hpq, hlay⟩ := lay_c D (fun e => by rw [e] at hDl; exact absurd hDl (by show ¬ (0 = n); omega)) (by omega) ((w.alloc (.cells #[.int .u8 0, .int .u8 0, .int .u8 0] 79 (0, 0))).alloc (.cells #[.int .u8 (A.toNat : Int), .int .u8 (B.toNat : Int), .int .u8 (C.toNat : Int)] 79 (0, 0))) (hI.below (((Below.refl _ _).alloc (Nat.le_refl _) _).alloc (Nat.le_of_lt (heapLt (heap_alloc_new w _))) _))
        have HPQ := hid hpq
        clear hpq
        have hw0 : ((w.alloc (.cells #[.int .u8 0, .int .u8 0, .int .u8 0] 79 (0, 0))).alloc (.cells #[.int .u8 (A.toNat : Int), .int .u8 (B.toNat : Int), .int .u8 (C.toNat : Int)] 79 (0, 0))).heap[w.heap.size]? = some (.cells #[.int .u8 0, .int .u8 0, .int .u8 0] 79 (0, 0)) := (heap_alloc_old (w := _) (o := _) (h := heapLt (heap_alloc_new w _))).trans (heap_alloc_new w _)
        have hbb : Below w.heap.size w ((w.alloc (.cells #[.int .u8 0, .int .u8 0, .int .u8 0] 79 (0, 0))).alloc (.cells #[.int .u8 (A.toNat : Int), .int .u8 (B.toNat : Int), .int .u8 (C.toNat : Int)] 79 (0, 0))) := ((Below.refl _ _).alloc (Nat.le_refl _) _).alloc (Nat.le_of_lt (heapLt (heap_alloc_new w _))) _
        go_wp2_with fail
        refine hlay.mono ?_
        rintro e W1 ⟨rfl, hb1⟩
        clear hlay hcv1
        have f1 := (hb1.block _ (heapLt hw1)).trans hw1
        have f0 := (hb1.block _ (heapLt hw0)).trans hw0
        have hb2 := hbb.trans (hb1.mono hbb.size)
        clear hw1 hw0 hb1 hbb
        obtain ⟨O, hO⟩ : ∃ O : Obj, O = .cells #[.int .u8 (p.toNat : Int), .int .u8 (q.toNat : Int), .int .u8 (r.toNat : Int), .int .u8 (z.toNat : Int)] 75 (0, 0) := ⟨_, rfl⟩
        have g0 := (heap_alloc_old (w := W1) (o := O) (h := heapLt f0)).trans f0
        have g1 := (heap_alloc_old (w := W1) (o := O) (h := heapLt f1)).trans f1
        have g4 := heap_alloc_new W1 O
        have hb3 := hb2.alloc hb2.size O
        have n4 : W1.heap.size ≠ w.heap.size := by have := heapLt f0; omega
        rw [hO] at g0 g1 g4 hb3
        clear f0 f1 hb2 hO
        obtain ⟨WB, hWB⟩ : ∃ WB, W1.alloc (.cells #[.int .u8 (p.toNat : Int), .int .u8 (q.toNat : Int), .int .u8 (r.toNat : Int), .int .u8 (z.toNat : Int)] 75 (0, 0)) = WB := ⟨_, rfl⟩
        obtain ⟨g, hg⟩ : ∃ g, W1.heap.size = g := ⟨_, rfl⟩
        obtain ⟨b, hb⟩ : ∃ b, w.heap.size = b := ⟨_, rfl⟩
        have G0 := hid g0; have G1 := hid g1; have G4 := hid g4; have B3 := hid hb3; have HWB := hid hWB; have HGG := hid hg; have HBB := hid hb
        clear hb3
        go_wp2_with fail
        rw [hWB, hb] at g0 g1
        rw [hWB, hg] at g4
        rw [hg, hb] at n4
        have k0 := Lib.cell_of_heap g1 0
        have k1 := Lib.cell_of_heap g1 1
        have k2 := Lib.cell_of_heap g1 2
        have m0 := Lib.cell_of_heap g4 0
        have m1 := Lib.cell_of_heap g4 1
        have m2 := Lib.cell_of_heap g4 2
        have m3 := Lib.cell_of_heap g4 3
        have r0 := Lib.cell_of_heap g0 0
        have r1 := Lib.cell_of_heap g0 1
        have r2 := Lib.cell_of_heap g0 2
        have f0 := Lib.frozen_of_heap g0 0
        have f1 := Lib.frozen_of_heap g0 1
        have f2 := Lib.frozen_of_heap g0 2
        have hcv4 : ∀ W : World, W.cell? ⟨g, 0, none⟩ = some (.int .u8 (p.toNat : Int)) → W.cell? ⟨g, 1, none⟩ = some (.int .u8 (q.toNat : Int)) → W.cell? ⟨g, 2, none⟩ = some (.int .u8 (r.toNat : Int)) → W.cell? ⟨g, 3, none⟩ = some (.int .u8 (z.toNat : Int)) →
            (convert 51 9 (.slice (some ⟨g, 0, none⟩) 4 4)).run Tryz.prog W = .ok (.string (ba [p, q, r, z])) W := fun W e0 e1 e2 e3 => by
          exact run_convert_bytes_back (P := Tryz.prog) W 51 9 5 ⟨g, 0, none⟩ 4 [p, q, r, z] Tryz.underlying51 Tryz.underlying5 Tryz.underlying9 (fun j hj => by
            have h5 : (⟨g, 0, none⟩ : Addr).add j = ⟨g, j, none⟩ := by unfold Addr.add; split <;> simp_all
            rw [h5]
            match j, hj with
            | 0, _ => exact e0
            | 1, _ => exact e1
            | 2, _ => exact e2
            | 3, _ => exact e3)
        clear hWB hg hb g0 g1 g4
        go_region
        go_wp2_with fail
        have hm : World.rangeAt (((WB.setCell ⟨b, 0, none⟩ (.int .u8 (A.toNat : Int))).setCell ⟨b, 1, none⟩ (.int .u8 (B.toNat : Int))).setCell ⟨b, 2, none⟩ (.int .u8 (C.toNat : Int))).drew b 0 [.int .u8 (A.toNat : Int), .int .u8 (B.toNat : Int), .int .u8 (C.toNat : Int)] := by
          intro j v hj
          match j, hj with
          | 0, hj => rw [← hj]; go_simp
          | 1, hj => rw [← hj]; go_simp
          | 2, hj => rw [← hj]; go_simp
        try simp only [Exit.inBlock, Exit.then]
        refine bodyPost_ret (results_ctt rfl _ _ ⟨b, 0, none⟩ _ rfl (run_loadVar_mid _ b 0 79 _ _ hm Tryz.underlying79 rfl (by kernel_rfl))) rfl ?_
        refine ⟨⟨A, B, C, n, _, rfl, ?_⟩, ?_⟩
        · have hDD := HD.out
          have e1 : ((ba [p, q, r, z]).toList == (ba t).toList) = decide (encS D = t) := by
            rw [ByteArray.toList_eq, ByteArray.toList_eq, HPQ.out, show (ba [p, q, r, z]).data.toList = [p, q, r, z] from by simp [ba], show (ba t).data.toList = t from by simp [ba]]
            exact Bool.beq_eq_decide_eq _ _
          show RdOk t A B C n ((ba [p, q, r, z]).toList == (ba t).toList)
          rw [e1]
          by_cases c : encS D = t
          · rw [decide_eq_true c]
            refine .inl ⟨rfl, hn1, hn3, ?_⟩
            rw [← hDD]
            exact ⟨fun e => by rw [e] at hDl; exact absurd hDl (by show ¬ (0 = n); omega), by omega, c⟩
          · rw [decide_eq_false c]
            refine .inr ⟨rfl, fun g hg => c ?_⟩
            have h1 := (HRD.out g hg).2.2
            rw [HG.out, ← HN.out, ← hDD] at h1
            rw [h1]
            exact hg.2.2
        · have hb3 := B3.out
          rw [HWB.out] at hb3
          have hle : w.heap.size ≤ b := Nat.le_of_eq HBB.out
          exact (((hb3.setCell (p := ⟨b, 0, none⟩) hle _).setCell (p := ⟨b, 1, none⟩) hle _).setCell (p := ⟨b, 2, none⟩) hle _).drew
end YtngbpbncipjimabGreatDoor.AM.Bs
end Go.Proofs
