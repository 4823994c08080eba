/- One text of DigM, DigL0, DigU, DigL, DigV, DigW, DigY (mk/merge.py). -/
import Derived.Test.YtbcdlkapapajoaaDoorDigPAll
/- Layer 12: mathematics: digits; what stands behind bytes; blocks one behind the other. -/
namespace Go.Proofs
open Go.RowKit Go.Shelf Go.Lib
set_option linter.unusedVariables false
set_option linter.unusedSimpArgs false
namespace YtbcdlkapapajoaaDoor.AM
/-! digits -/
theorem hexS_append (a b : List UInt8) : hexS (a ++ b) = hexS a ++ hexS b := by unfold hexS; rw [List.flatMap_append]
theorem hexS_cons (c : UInt8) (s : List UInt8) : hexS (c :: s) = digT.getD (c.toNat / 16) 0 :: digT.getD (c.toNat % 16) 0 :: hexS s := rfl
theorem dig_two : ∀ a b : Fin 16, (digT.getD a.val 0 < digT.getD b.val 0 ↔ a.val < b.val) ∧ (digT.getD a.val 0 = digT.getD b.val 0 ↔ a.val = b.val) := by decide +kernel
theorem hex_eq : ∀ a b : List UInt8, (hexS a = hexS b ↔ a = b)
  | [], [] => by simp [hexS]
  | [], c :: b => by rw [hexS_cons]; simp [hexS]
  | c :: a, [] => by rw [hexS_cons]; simp [hexS]
  | c :: a, d :: b => by
    rw [hexS_cons, hexS_cons, List.cons.injEq, List.cons.injEq, List.cons.injEq, hex_eq a b]
    have hc := c.toNat_lt; have hd := d.toNat_lt
    have h1 := (dig_two ⟨c.toNat / 16, by omega⟩ ⟨d.toNat / 16, by omega⟩).2
    have h2 := (dig_two ⟨c.toNat % 16, by omega⟩ ⟨d.toNat % 16, by omega⟩).2
    simp only at h1 h2
    rw [h1, h2, ← UInt8.toNat_inj]
    constructor
    · rintro ⟨a1, a2, a3⟩; exact ⟨by omega, a3⟩
    · rintro ⟨a1, a2⟩; exact ⟨by omega, by omega, a2⟩
theorem hex_lt : ∀ a b : List UInt8, ltS (hexS a) (hexS b) = ltS a b
  | [], [] => rfl
  | [], c :: b => rfl
  | c :: a, [] => rfl
  | c :: a, d :: b => by
    rw [hexS_cons, hexS_cons]
    have ih := hex_lt a b
    unfold ltS at ih ⊢
    have un (p q : UInt8) (x y : List UInt8) : Op.bytesLess (p :: x) (q :: y) = (decide (p < q) || (p == q && Op.bytesLess x y)) := rfl
    rw [un, un, un, ih]
    have hc := c.toNat_lt; have hd := d.toNat_lt
    obtain ⟨h1, h2⟩ := dig_two ⟨c.toNat / 16, by omega⟩ ⟨d.toNat / 16, by omega⟩
    obtain ⟨h3, h4⟩ := dig_two ⟨c.toNat % 16, by omega⟩ ⟨d.toNat % 16, by omega⟩
    simp only at h1 h2 h3 h4
    have e : (c < d ↔ c.toNat < d.toNat) := UInt8.lt_iff_toNat_lt
    have e2 : (c = d ↔ c.toNat = d.toNat) := UInt8.toNat_inj.symm
    rw [Bool.eq_iff_iff]
    simp only [Bool.or_eq_true, Bool.and_eq_true, decide_eq_true_eq, beq_iff_eq, h1, h2, h3, h4, e, e2]
    constructor
    · rintro (p | ⟨p, (q | ⟨q, r⟩)⟩)
      · left; omega
      · left; omega
      · right; exact ⟨by omega, r⟩
    · rintro (p | ⟨p, q⟩)
      · by_cases k : c.toNat / 16 < d.toNat / 16
        · left; exact k
        · right; exact ⟨by omega, Or.inl (by omega)⟩
      · right; exact ⟨by omega, Or.inr ⟨by omega, q⟩⟩
/-! what stands behind bytes -/
theorem layV_eq (v : Nat) : layV (v : Int) = [UInt8.ofNat (v / 16777216), UInt8.ofNat (v / 65536), UInt8.ofNat (v / 256), UInt8.ofNat v] := by
  have e : layV (v : Int) = [UInt8.ofNat (IntKind.wrap .u8 ((v : Int).fdiv (2 ^ 24))).toNat, UInt8.ofNat (IntKind.wrap .u8 ((v : Int).fdiv (2 ^ 16))).toNat, UInt8.ofNat (IntKind.wrap .u8 ((v : Int).fdiv (2 ^ 8))).toNat, UInt8.ofNat (IntKind.wrap .u8 (v : Int)).toNat] := rfl
  have w (x : Nat) : UInt8.ofNat (IntKind.wrap .u8 (x : Int)).toNat = UInt8.ofNat x := by
    have h : (IntKind.wrap .u8 (x : Int)).toNat = x % 256 := by
      have : IntKind.wrap .u8 (x : Int) = (x : Int) % 256 := rfl
      rw [this]; omega
    rw [h]
    apply UInt8.toNat_inj.1
    rw [UInt8.toNat_ofNat', UInt8.toNat_ofNat']
    omega
  have f (x y : Nat) : ((x : Int).fdiv (y : Int)) = ((x / y : Nat) : Int) := by rw [Int.fdiv_eq_ediv_of_nonneg _ (by omega)]; rfl
  rw [e, show ((2 : Int) ^ 24) = ((16777216 : Nat) : Int) from by decide, show ((2 : Int) ^ 16) = ((65536 : Nat) : Int) from by decide, show ((2 : Int) ^ 8) = ((256 : Nat) : Int) from by decide, f, f, f, w, w, w, w]
theorem padI_pos {n : Nat} (h : n ≤ 1099511627776) : padI (n : Int) = padS n := by unfold padI; rw [if_neg (by omega)]; rfl
theorem padS_eq (n : Nat) : padS n = (128 : UInt8) :: (List.replicate (zerosN n) 0 ++ [UInt8.ofNat (8 * n / 4294967296 / 16777216), UInt8.ofNat (8 * n / 4294967296 / 65536), UInt8.ofNat (8 * n / 4294967296 / 256), UInt8.ofNat (8 * n / 4294967296), UInt8.ofNat (8 * n % 4294967296 / 16777216), UInt8.ofNat (8 * n % 4294967296 / 65536), UInt8.ofNat (8 * n % 4294967296 / 256), UInt8.ofNat (8 * n % 4294967296)]) := by
  unfold padS; rw [layV_eq, layV_eq]; simp
theorem zeros_mod (n : Nat) : (n + (9 + zerosN n)) % 64 = 0 ∧ zerosN n < 64 := by unfold zerosN; omega
/-! blocks, one behind the other -/
theorem getD_app {α : Type} {a b : List α} {i : Nat} {d : α} (h : i < a.length) : (a ++ b).getD i d = a.getD i d := by
  rw [List.getD_eq_getElem?_getD, List.getD_eq_getElem?_getD, List.getElem?_append_left h]
theorem getD_app2 {α : Type} {a b : List α} {i : Nat} {d : α} (h : a.length ≤ i) : (a ++ b).getD i d = b.getD (i - a.length) d := by
  rw [List.getD_eq_getElem?_getD, List.getD_eq_getElem?_getD, List.getElem?_append_right h]
theorem wordsS_app {a b : List UInt8} {k : Nat} (h : 4 * k ≤ a.length) : wordsS (a ++ b) k = wordsS a k := by
  unfold wordsS
  apply List.map_congr_left
  intro i hi
  have hi := List.mem_range.1 hi
  unfold wordV
  rw [getD_app (by omega), getD_app (by omega), getD_app (by omega), getD_app (by omega)]
theorem stepS_app {l : List Int} {a b : List UInt8} (h : 64 ≤ a.length) : stepS l (a ++ b) = stepS l a := by
  unfold stepS stretchS; rw [wordsS_app (by omega)]
theorem stepS_take {l : List Int} {s : List UInt8} (h : 64 ≤ s.length) : stepS l (s.take 64) = stepS l s := by
  have e := stepS_app (l := l) (a := s.take 64) (b := s.drop 64) (by rw [List.length_take]; omega)
  rw [List.take_append_drop] at e
  exact e.symm
theorem thrS_append : ∀ (k : Nat) {l : List Int} {a b : List UInt8}, a.length = 64 * k → thrS (thrS l a) b = thrS l (a ++ b)
  | 0, l, a, b, h => by
    obtain rfl : a = [] := List.length_eq_zero_iff.1 (by omega)
    rw [thrS_end (l := l) (s := []) (by simp), List.nil_append]
  | k + 1, l, a, b, h => by
    rw [thrS_step (l := l) (s := a) (by omega), thrS_append k (by rw [List.length_drop]; omega), thrS_step (l := l) (s := a ++ b) (by rw [List.length_append]; omega), stepS_app (by omega), List.drop_append_of_le_length (by omega)]
theorem ofS_eq (s : List UInt8) : ofS s = textS (thrS H8 (s ++ padS s.length)) := by
  unfold ofS
  rw [thrS_append (s.length / 64) (by rw [List.length_take]; omega), ← List.append_assoc, List.take_append_drop]
/-- words that are four bytes -/
def W32 (l : List Int) : Prop := ∀ x ∈ l, 0 ≤ x ∧ x < 4294967296
theorem add32_32 (a b : Int) : 0 ≤ add32 a b ∧ add32 a b < 4294967296 := by
  have : add32 a b = (a + b) % 4294967296 := rfl
  rw [this]; omega
theorem plusS_W (l m : List Int) : W32 (plusS l m) := by
  intro x hx
  unfold plusS at hx
  rw [List.mem_iff_getElem] at hx
  obtain ⟨i, hi, rfl⟩ := hx
  rw [List.getElem_zipWith]
  exact add32_32 _ _
theorem stepS_W (l : List Int) (s : List UInt8) : W32 (stepS l s) := plusS_W _ _
theorem thrN_W : ∀ (k : Nat) {l : List Int} (s : List UInt8), W32 l → W32 (thrN k l s)
  | 0, _, _, h => h
  | k + 1, l, s, h => thrN_W k _ (stepS_W l s)
theorem thrS_W {l : List Int} (s : List UInt8) (h : W32 l) : W32 (thrS l s) := thrN_W _ _ h
theorem H8_W : W32 H8 := by unfold W32 H8; decide +kernel
theorem word_of_lay (x : Int) (h : 0 ≤ x ∧ x < 4294967296) (a b : List UInt8) (i : Nat) (ha : a.length = 4 * i) : wordV (a ++ (layV x ++ b)) i = x := by
  obtain ⟨v, rfl⟩ : ∃ v : Nat, x = (v : Int) := ⟨x.toNat, by omega⟩
  have hv : v < 4294967296 := by omega
  rw [layV_eq]
  have g (j : Nat) (l : List UInt8) : (a ++ l).getD (4 * i + j) 0 = l.getD j 0 := by
    rw [getD_app2 (by omega)]; congr 1; omega
  unfold wordV
  have g0 := g 0 ([UInt8.ofNat (v / 16777216), UInt8.ofNat (v / 65536), UInt8.ofNat (v / 256), UInt8.ofNat v] ++ b)
  rw [Nat.add_zero] at g0
  rw [g0, g, g, g]
  show ((wordN (UInt8.ofNat (v / 16777216)) (UInt8.ofNat (v / 65536)) (UInt8.ofNat (v / 256)) (UInt8.ofNat v) : Nat) : Int) = (v : Int)
  unfold wordN
  simp only [UInt8.toNat_ofNat']
  omega
theorem words_text {l : List Int} (h : l.length = 8) (hw : W32 l) : wordsS (textS l) 8 = l := by
  obtain ⟨a, b, c, d, e, f, g, z, rfl⟩ := list8 h
  have e0 : textS [a, b, c, d, e, f, g, z] = layV a ++ (layV b ++ (layV c ++ (layV d ++ (layV e ++ (layV f ++ (layV g ++ (layV z ++ []))))))) := by simp [textS]
  have r : List.range 8 = [0, 1, 2, 3, 4, 5, 6, 7] := rfl
  have L := layV_length
  have w (x : Int) (hx : x ∈ [a, b, c, d, e, f, g, z]) := hw x hx
  unfold wordsS
  rw [r]
  simp only [List.map_cons, List.map_nil]
  have q0 := word_of_lay a (w a (by simp)) [] (layV b ++ (layV c ++ (layV d ++ (layV e ++ (layV f ++ (layV g ++ (layV z ++ []))))))) 0 rfl
  have q1 := word_of_lay b (w b (by simp)) (layV a) (layV c ++ (layV d ++ (layV e ++ (layV f ++ (layV g ++ (layV z ++ [])))))) 1 (by simp [L])
  have q2 := word_of_lay c (w c (by simp)) (layV a ++ layV b) (layV d ++ (layV e ++ (layV f ++ (layV g ++ (layV z ++ []))))) 2 (by simp [L])
  have q3 := word_of_lay d (w d (by simp)) (layV a ++ layV b ++ layV c) (layV e ++ (layV f ++ (layV g ++ (layV z ++ [])))) 3 (by simp [L])
  have q4 := word_of_lay e (w e (by simp)) (layV a ++ layV b ++ layV c ++ layV d) (layV f ++ (layV g ++ (layV z ++ []))) 4 (by simp [L])
  have q5 := word_of_lay f (w f (by simp)) (layV a ++ layV b ++ layV c ++ layV d ++ layV e) (layV g ++ (layV z ++ [])) 5 (by simp [L])
  have q6 := word_of_lay g (w g (by simp)) (layV a ++ layV b ++ layV c ++ layV d ++ layV e ++ layV f) (layV z ++ []) 6 (by simp [L])
  have q7 := word_of_lay z (w z (by simp)) (layV a ++ layV b ++ layV c ++ layV d ++ layV e ++ layV f ++ layV g) [] 7 (by simp [L])
  simp only [List.append_assoc] at q1 q2 q3 q4 q5 q6 q7
  rw [List.nil_append] at q0
  rw [e0, q0, q1, q2, q3, q4, q5, q6, q7]
theorem block_step {l : List Int} (h : l.length = 8) (hw : W32 l) {s : List UInt8} (hs : s.length = 64) : blockS (textS l) s = (textS (stepS l s), true) := by
  unfold blockS
  rw [if_pos ⟨by rw [textS_length, h], hs⟩, words_text h hw, thrS_step (by omega), thrS_end (by rw [List.length_drop]; omega)]
end YtbcdlkapapajoaaDoor.AM
end Go.Proofs

/- Layer 12: small functions: what functions come to, as plain functions of data: written by program (shal.py); the kernel checks it. -/
namespace Go.Proofs.YtbcdlkapapajoaaDoor.AM
open Go.RowKit
set_option linter.unusedVariables false
set_option maxRecDepth 20000
/-! armada/armadaref12.mask -/
def r12mask_lts (n : Nat) : List LC := []
def r12mask_t (n : Nat) (a1 : Int) : Option (Int) :=
  letO (andI .i64 a1 (4294967295 : Int)) fun (n1 : Int) => some n1
def r12mask_fc (n : Nat) : FC := { f := 38, args := [.one (.c (.d (.int .i64)))], res := .one (.c (.d (.int .i64))), F := fun p => r12mask_t n p }
def r12mask_ct (n : Nat) : List FC := []
theorem r12mask_ctok (n : Nat) {G : World → Prop} (hG : Know Inv G) : ∀ c ∈ r12mask_ct n, FCok Tryd.prog G c ∧ noTup c.args = true := (fun _ h => by cases h)
def r12mask_dh : Hints := []
theorem r12mask_dr : drB r12mask_dh (bodyOf Tryd.f38) = true := by kernel_rfl
theorem r12mask_eq (n : Nat) : ∀ a, (r12mask_fc n).F a = main Tryd.prog 5 (r12mask_ct n) (r12mask_lts n) r12mask_dh (bodyOf Tryd.f38) [.tmp 2] (r12mask_fc n).args (r12mask_fc n).res a := by intro a; kernel_rfl
theorem r12mask_ok (n : Nat) : FCall Inv Tryd.prog (r12mask_fc n) := fun G hG => ⟨⟨by kernel_rfl, fun a r h => main_ok (c := bodyOf Tryd.f38) Tryd.func38 (by kernel_rfl) (by kernel_rfl) (Nat.le_of_ble_eq_true (by kernel_rfl)) hG.st (by kernel_rfl) (rs := [.tmp 2]) (by kernel_rfl) (r12mask_ctok n hG) (lts := r12mask_lts n) (fun F hF hFG => have hK : Know Inv F.G := hFG ▸ hG; (lok_of fun j L h1 h2 h3 => absurd h2 (Nat.not_lt.2 (Nat.le_trans (by decide +kernel) h1)))) r12mask_dr ((r12mask_eq n a).symm.trans h)⟩, rfl⟩
/-! armada/armadaref12.turn -/
def r12turn_lts (n : Nat) : List LC := []
def r12turn_t (n : Nat) (a1 : Int) (a2 : Int) : Option (Int) :=
  (shrO .i64 a1 a2).bind fun (n1 : Int) => letO (IntKind.wrap .i64 ((32 : Int) - a2)) fun (n2 : Int) => (shlO .i64 a1 n2).bind fun (n3 : Int) => (r12mask_t n n3).bind fun (r4 : Int) => letO (orI .i64 n1 r4) fun (n5 : Int) => some n5
def r12turn_fc (n : Nat) : FC := { f := 37, args := [.one (.c (.d (.int .i64))), .one (.c (.d (.int .i64)))], res := .one (.c (.d (.int .i64))), F := fun p => r12turn_t n p.1 p.2 }
def r12turn_ct (n : Nat) : List FC := [r12mask_fc n]
theorem r12turn_ctok (n : Nat) {G : World → Prop} (hG : Know Inv G) : ∀ c ∈ r12turn_ct n, FCok Tryd.prog G c ∧ noTup c.args = true := List.forall_mem_cons.2 ⟨r12mask_ok n G hG, (fun _ h => by cases h)⟩
def r12turn_dh : Hints := [(1, [⟨196609, 32768, 0⟩, ⟨1572872, 262144, 0⟩, ⟨12877824, 2097152, 3⟩, ⟨100663297, 16777216, 0⟩, ⟨805306376, 134217728, 0⟩, ⟨6576668672, 1073741824, 16⟩, ⟨52630126592, 8589934592, 56⟩, ⟨420906795008, 68719476736, 120⟩, ⟨3367256457216, 549755813888, 255⟩, ⟨549755838464, 4096, 511⟩]), (1000001, [])]
theorem r12turn_dr : drB r12turn_dh (bodyOf Tryd.f37) = true := by kernel_rfl
theorem r12turn_eq (n : Nat) : ∀ a, (r12turn_fc n).F a = main Tryd.prog 14 (r12turn_ct n) (r12turn_lts n) r12turn_dh (bodyOf Tryd.f37) [.tmp 4] (r12turn_fc n).args (r12turn_fc n).res a := by intro a; kernel_rfl
theorem r12turn_ok (n : Nat) : FCall Inv Tryd.prog (r12turn_fc n) := fun G hG => ⟨⟨by kernel_rfl, fun a r h => main_ok (c := bodyOf Tryd.f37) Tryd.func37 (by kernel_rfl) (by kernel_rfl) (Nat.le_of_ble_eq_true (by kernel_rfl)) hG.st (by kernel_rfl) (rs := [.tmp 4]) (by kernel_rfl) (r12turn_ctok n hG) (lts := r12turn_lts n) (fun F hF hFG => have hK : Know Inv F.G := hFG ▸ hG; (lok_of fun j L h1 h2 h3 => absurd h2 (Nat.not_lt.2 (Nat.le_trans (by decide +kernel) h1)))) r12turn_dr ((r12turn_eq n a).symm.trans h)⟩, rfl⟩
end Go.Proofs.YtbcdlkapapajoaaDoor.AM

/- Layer 12: the document's mask and turn, told by what they come to. -/
namespace Go.Proofs
open Go.RowKit Go.Shelf Go.Lib
set_option linter.unusedVariables false
set_option linter.unusedSimpArgs false
namespace YtbcdlkapapajoaaDoor.AM
theorem ofInt_nat {w n : Nat} (h : n < 2 ^ w) : (BitVec.ofInt w (n : Int)).toNat = n := by rw [BitVec.ofInt_natCast, BitVec.toNat_ofNat, Nat.mod_eq_of_lt h]
theorem wr32 {n : Nat} (h : n < 2 ^ 32) : IntKind.wrap .u32 (n : Int) = (n : Int) := by rw [wrap_u32]; omega
theorem or32 {a b : Nat} (ha : a < 2 ^ 32) (hb : b < 2 ^ 32) : orI .u32 (a : Int) (b : Int) = ((a ||| b : Nat) : Int) := by
  unfold orI
  show IntKind.wrap .u32 (((BitVec.ofInt 32 (a : Int) ||| BitVec.ofInt 32 (b : Int)).toNat : Nat) : Int) = _
  rw [BitVec.toNat_or, ofInt_nat ha, ofInt_nat hb, wr32 (Nat.or_lt_two_pow ha hb)]
theorem or64 {a b : Nat} (ha : a < 2 ^ 32) (hb : b < 2 ^ 32) : orI .i64 (a : Int) (b : Int) = ((a ||| b : Nat) : Int) := by
  unfold orI
  have h := Nat.or_lt_two_pow ha hb
  show IntKind.wrap .i64 (((BitVec.ofInt 64 (a : Int) ||| BitVec.ofInt 64 (b : Int)).toNat : Nat) : Int) = _
  rw [BitVec.toNat_or, ofInt_nat (by omega), ofInt_nat (by omega), wrap_nat (by omega)]
theorem xor32 {a b : Nat} (ha : a < 2 ^ 32) (hb : b < 2 ^ 32) : xorI .u32 (a : Int) (b : Int) = ((a ^^^ b : Nat) : Int) := by
  unfold xorI
  show IntKind.wrap .u32 (((BitVec.ofInt 32 (a : Int) ^^^ BitVec.ofInt 32 (b : Int)).toNat : Nat) : Int) = _
  rw [BitVec.toNat_xor, ofInt_nat ha, ofInt_nat hb, wr32 (Nat.xor_lt_two_pow ha hb)]
theorem xor64 {a b : Nat} (ha : a < 2 ^ 32) (hb : b < 2 ^ 32) : xorI .i64 (a : Int) (b : Int) = ((a ^^^ b : Nat) : Int) := by
  unfold xorI
  have h := Nat.xor_lt_two_pow ha hb
  show IntKind.wrap .i64 (((BitVec.ofInt 64 (a : Int) ^^^ BitVec.ofInt 64 (b : Int)).toNat : Nat) : Int) = _
  rw [BitVec.toNat_xor, ofInt_nat (by omega), ofInt_nat (by omega), wrap_nat (by omega)]
theorem and32 {a b : Nat} (ha : a < 2 ^ 32) (hb : b < 2 ^ 32) : andI .u32 (a : Int) (b : Int) = ((a &&& b : Nat) : Int) := by
  unfold andI
  show IntKind.wrap .u32 (((BitVec.ofInt 32 (a : Int) &&& BitVec.ofInt 32 (b : Int)).toNat : Nat) : Int) = _
  rw [BitVec.toNat_and, ofInt_nat ha, ofInt_nat hb, wr32 (Nat.and_lt_two_pow _ hb)]
theorem and64 {a b : Nat} (ha : a < 2 ^ 32) (hb : b < 2 ^ 32) : andI .i64 (a : Int) (b : Int) = ((a &&& b : Nat) : Int) := by
  unfold andI
  have h := Nat.and_lt_two_pow a hb
  show IntKind.wrap .i64 (((BitVec.ofInt 64 (a : Int) &&& BitVec.ofInt 64 (b : Int)).toNat : Nat) : Int) = _
  rw [BitVec.toNat_and, ofInt_nat (by omega), ofInt_nat (by omega), wrap_nat (by omega)]
/-- a number below 2^32 -/
def N32 (x : Int) : Prop := 0 ≤ x ∧ x < 4294967296
theorem N32.nat {x : Int} (h : N32 x) : ∃ a : Nat, x = (a : Int) ∧ a < 2 ^ 32 := ⟨x.toNat, by have := h.1; omega, by have := h.1; have := h.2; omega⟩
theorem n32 {a : Nat} (h : a < 2 ^ 32) : N32 (a : Int) := ⟨by omega, by omega⟩
theorem xor_same {x y : Int} (hx : N32 x) (hy : N32 y) : xorI .i64 x y = xorI .u32 x y ∧ N32 (xorI .u32 x y) := by
  obtain ⟨a, rfl, ha⟩ := hx.nat; obtain ⟨b, rfl, hb⟩ := hy.nat
  rw [xor64 ha hb, xor32 ha hb]
  exact ⟨rfl, n32 (Nat.xor_lt_two_pow ha hb)⟩
theorem and_same {x y : Int} (hx : N32 x) (hy : N32 y) : andI .i64 x y = andI .u32 x y ∧ N32 (andI .u32 x y) := by
  obtain ⟨a, rfl, ha⟩ := hx.nat; obtain ⟨b, rfl, hb⟩ := hy.nat
  rw [and64 ha hb, and32 ha hb]
  exact ⟨rfl, n32 (Nat.and_lt_two_pow _ hb)⟩
theorem max_eq : IntKind.u32.max = ((4294967295 : Nat) : Int) := by decide +kernel
theorem not_same {x : Int} (hx : N32 x) : (4294967295 : Int) - x = not32 x ∧ N32 (not32 x) := by
  obtain ⟨a, rfl, ha⟩ := hx.nat
  unfold not32
  rw [max_eq, xor32 (by decide) ha]
  have e : (4294967295 : Nat) ^^^ a = 4294967295 - a := by
    have h : (BitVec.allOnes 32 ^^^ BitVec.ofNat 32 a) = ~~~ (BitVec.ofNat 32 a) := BitVec.allOnes_xor
    have h2 := congrArg BitVec.toNat h
    rw [BitVec.toNat_xor, BitVec.toNat_not, BitVec.toNat_allOnes, BitVec.toNat_ofNat, Nat.mod_eq_of_lt ha] at h2
    exact h2
  rw [e]
  exact ⟨by omega, n32 (by omega)⟩
theorem mask_any (n : Nat) (x : Int) : r12mask_t n x = some (x % 4294967296) := by
  unfold r12mask_t letO andI
  congr 1
  show IntKind.wrap .i64 (((BitVec.ofInt 64 x &&& BitVec.ofInt 64 (4294967295 : Int)).toNat : Nat) : Int) = _
  have h2 : (BitVec.ofInt 64 (4294967295 : Int)).toNat = 2 ^ 32 - 1 := by decide +kernel
  rw [BitVec.toNat_and, h2, Nat.and_two_pow_sub_one_eq_mod]
  have h1 : ((BitVec.ofInt 64 x).toNat : Int) = x % 18446744073709551616 := by
    rw [BitVec.toNat_ofInt]
    have : (0 : Int) ≤ x % ((2 ^ 64 : Nat) : Int) := Int.emod_nonneg _ (by decide)
    rw [Int.toNat_of_nonneg this]; rfl
  rw [wrap_nat (by omega)]
  rw [show ((2 : Nat) ^ 32) = 4294967296 from rfl]
  omega
/-- x, turned by k bits -/
def rotN (x k : Nat) : Nat := (x % 2 ^ k) * 2 ^ (32 - k) + x / 2 ^ k
theorem rot_or {x k : Nat} (hx : x < 2 ^ 32) (h1 : 1 ≤ k) (h2 : k ≤ 31) : (x % 2 ^ k) * 2 ^ (32 - k) ||| x / 2 ^ k = rotN x k ∧ (x % 2 ^ k) * 2 ^ (32 - k) < 2 ^ 32 ∧ x / 2 ^ k < 2 ^ 32 ∧ (x * 2 ^ (32 - k)) % 2 ^ 32 = (x % 2 ^ k) * 2 ^ (32 - k) ∧ x / 2 ^ k < 2 ^ (32 - k) := by
  have e : 2 ^ k * 2 ^ (32 - k) = 2 ^ 32 := by rw [← Nat.pow_add]; congr 1; omega
  have hp : 0 < 2 ^ k := Nat.pos_of_ne_zero (by simp)
  have hq : 0 < 2 ^ (32 - k) := Nat.pos_of_ne_zero (by simp)
  have hd : x / 2 ^ k < 2 ^ (32 - k) := by rw [Nat.div_lt_iff_lt_mul hp, Nat.mul_comm, e]; exact hx
  have hm : (x % 2 ^ k) * 2 ^ (32 - k) < 2 ^ 32 := by
    rw [← e]; exact Nat.mul_lt_mul_of_pos_right (Nat.mod_lt _ hp) hq
  refine ⟨?_, hm, Nat.lt_of_le_of_lt (Nat.div_le_self _ _) hx, ?_, hd⟩
  · have h := Nat.shiftLeft_add_eq_or_of_lt (a := x % 2 ^ k) hd
    rw [Nat.shiftLeft_eq] at h
    exact h.symm
  · rw [← e, Nat.mul_mod_mul_right]
theorem fdiv_nat (x y : Nat) : ((x : Int).fdiv (y : Int)) = ((x / y : Nat) : Int) := by rw [Int.fdiv_eq_ediv_of_nonneg _ (by omega)]; rfl
theorem pow_nat (k : Nat) : ((2 : Int) ^ k) = ((2 ^ k : Nat) : Int) := by rw [Int.natCast_pow]; rfl
theorem turnV_eq {x k : Nat} (hx : x < 2 ^ 32) (h1 : 1 ≤ k) (h2 : k ≤ 31) : turnV (x : Int) (k : Int) = ((rotN x k : Nat) : Int) := by
  obtain ⟨e1, e2, e3, e4, e5⟩ := rot_or hx h1 h2
  have key : fTurn_t 0 (x : Int) (k : Int) = some ((rotN x k : Nat) : Int) := by
    unfold fTurn_t fRotl_t
    simp only [letO_some]
    have a1 : andI .u64 (IntKind.wrap .u64 (IntKind.wrap .i64 (0 - (k : Int)))) (31 : Int) = ((32 - k : Nat) : Int) := by
      have : ∀ j : Fin 32, 1 ≤ j.val → andI .u64 (IntKind.wrap .u64 (IntKind.wrap .i64 (0 - (j.val : Int)))) (31 : Int) = ((32 - j.val : Nat) : Int) := by decide +kernel
      exact this ⟨k, by omega⟩ h1
    have a2 : IntKind.wrap .u64 ((32 : Int) - ((32 - k : Nat) : Int)) = (k : Int) := by rw [wrap_u64]; omega
    rw [a1, a2]
    unfold shlO shrO
    rw [if_pos (by omega), if_pos (by omega), Option.bind_some, Option.bind_some, Option.bind_some]
    have b1 : min (((32 - k : Nat) : Int).toNat) (IntKind.bits .u32) = 32 - k := by show min _ 32 = _; omega
    have b2 : min ((k : Int).toNat) (IntKind.bits .u32) = k := by show min _ 32 = _; omega
    rw [b1, b2, pow_nat, pow_nat, fdiv_nat, ← Int.natCast_mul]
    have c1 : IntKind.wrap .u32 (((x * 2 ^ (32 - k) : Nat) : Int)) = (((x % 2 ^ k) * 2 ^ (32 - k) : Nat) : Int) := by
      rw [wrap_u32, ← e4]; rfl
    rw [c1, or32 e2 e3, e1]
  unfold turnV
  rw [key]; rfl
theorem turn_same (n : Nat) {x : Int} (hx : N32 x) {k : Nat} (h1 : 1 ≤ k) (h2 : k ≤ 31) : r12turn_t n x (k : Int) = some (turnV x (k : Int)) ∧ N32 (turnV x (k : Int)) := by
  obtain ⟨x, rfl, hy⟩ := hx.nat
  clear hx
  have hx := hy
  obtain ⟨e1, e2, e3, e4, e5⟩ := rot_or hx h1 h2
  rw [turnV_eq hx h1 h2]
  constructor
  · unfold r12turn_t
    simp only [letO_some, mask_any, Option.bind_some]
    unfold shlO shrO
    have a2 : IntKind.wrap .i64 ((32 : Int) - (k : Int)) = ((32 - k : Nat) : Int) := by rw [wrap64 (by omega) (by omega)]; omega
    rw [a2, if_pos (by omega), if_pos (by omega), Option.bind_some, Option.bind_some]
    have b1 : min (((32 - k : Nat) : Int).toNat) (IntKind.bits .i64) = 32 - k := by show min _ 64 = _; omega
    have b2 : min ((k : Int).toNat) (IntKind.bits .i64) = k := by show min _ 64 = _; omega
    have big : x * 2 ^ (32 - k) < 4611686018427387904 * 2 := by
      have : 2 ^ (32 - k) ≤ 2 ^ 31 := Nat.pow_le_pow_right (by omega) (by omega)
      calc x * 2 ^ (32 - k) < 2 ^ 32 * 2 ^ 31 := Nat.mul_lt_mul_of_lt_of_le hx this (by decide)
        _ = _ := by decide
    rw [b1, b2, pow_nat, pow_nat, fdiv_nat, ← Int.natCast_mul, wrap64 (by omega) (by omega)]
    have c1 : ((x * 2 ^ (32 - k) : Nat) : Int) % 4294967296 = (((x % 2 ^ k) * 2 ^ (32 - k) : Nat) : Int) := by
      rw [← e4]; rfl
    rw [c1, or64 e3 e2, Nat.or_comm, e1]
  · refine n32 ?_
    rw [← e1]; exact Nat.or_lt_two_pow e2 e3
/-! contracts that tell no more than that -/
theorem FCall.less {c : FC} {F : pDs c.args → Option (pD c.res)} (h : FCall Inv Tryd.prog c) (hF : ∀ a r, F a = some r → c.F a = some r) : FCall Inv Tryd.prog { c with F := F } := fun G hG => ⟨⟨(h G hG).1.1, fun a r e => (h G hG).1.2 a r (hF a r e)⟩, (h G hG).2⟩
def qMask_t (x : Int) : Option Int := if -9223372036854775808 ≤ x ∧ x ≤ 9223372036854775807 then some (x % 4294967296) else none
def qMask_fc : FC := { f := 38, args := [intA], res := intA, F := fun p => qMask_t p }
theorem qMask_ok : FCall Inv Tryd.prog qMask_fc := FCall.less (c := r12mask_fc 0) (r12mask_ok 0) fun (a : Int) r h => by
  have h' : qMask_t a = some r := h
  unfold qMask_t at h'
  split at h'
  · exact (mask_any 0 a).trans h'
  · cases h'
def qTurn_t (x k : Int) : Option Int := if (0 ≤ x ∧ x < 4294967296) ∧ 1 ≤ k ∧ k ≤ 31 then some (turnV x k) else none
def qTurn_fc : FC := { f := 37, args := [intA, intA], res := intA, F := fun p => qTurn_t p.1 p.2 }
theorem qTurn_ok : FCall Inv Tryd.prog qTurn_fc := FCall.less (c := r12turn_fc 0) (r12turn_ok 0) fun (a : Int × Int) r h => by
  obtain ⟨x, k⟩ := a
  have h' : qTurn_t x k = some r := h
  unfold qTurn_t at h'
  split at h'
  · rename_i hc
    obtain ⟨j, rfl⟩ : ∃ j : Nat, k = (j : Int) := ⟨k.toNat, by omega⟩
    exact (turn_same 0 hc.1 (by omega) (by omega)).1.trans h'
  · cases h'
end YtbcdlkapapajoaaDoor.AM
end Go.Proofs

/- Layer 12: the laws: what functions come to, as plain functions of data: written by program (shal.py); the kernel checks it. -/
namespace Go.Proofs.YtbcdlkapapajoaaDoor.AM
open Go.RowKit
set_option linter.unusedVariables false
set_option maxRecDepth 20000
/-! armada/armadaref12.H -/
def r12H_lts (n : Nat) : List LC := []
def r12H_t (n : Nat)  : Option (List (Int)) :=
  some ([(1779033703 : Int), (3144134277 : Int), (1013904242 : Int), (2773480762 : Int), (1359893119 : Int), (2600822924 : Int), (528734635 : Int), (1541459225 : Int)] : List (Int))
def r12H_fc (n : Nat) : FC := { f := 18, args := [], res := .one (.c (.d (.lst (.int .i64)))), F := fun p => r12H_t n  }
def r12H_ct (n : Nat) : List FC := []
theorem r12H_ctok (n : Nat) {G : World → Prop} (hG : Know Inv G) : ∀ c ∈ r12H_ct n, FCok Tryd.prog G c ∧ noTup c.args = true := (fun _ h => by cases h)
def r12H_dh : Hints := []
theorem r12H_dr : drB r12H_dh (bodyOf Tryd.f18) = true := by kernel_rfl
theorem r12H_eq (n : Nat) : ∀ a, (r12H_fc n).F a = main Tryd.prog 2 (r12H_ct n) (r12H_lts n) r12H_dh (bodyOf Tryd.f18) [.tmp 0] (r12H_fc n).args (r12H_fc n).res a := by intro a; kernel_rfl
theorem r12H_ok (n : Nat) : FCall Inv Tryd.prog (r12H_fc n) := fun G hG => ⟨⟨by kernel_rfl, fun a r h => main_ok (c := bodyOf Tryd.f18) Tryd.func18 (by kernel_rfl) (by kernel_rfl) (Nat.le_of_ble_eq_true (by kernel_rfl)) hG.st (by kernel_rfl) (rs := [.tmp 0]) (by kernel_rfl) (r12H_ctok n hG) (lts := r12H_lts n) (fun F hF hFG => have hK : Know Inv F.G := hFG ▸ hG; (lok_of fun j L h1 h2 h3 => absurd h2 (Nat.not_lt.2 (Nat.le_trans (by decide +kernel) h1)))) r12H_dr ((r12H_eq n a).symm.trans h)⟩, rfl⟩
/-! armada/armadaref12.K -/
def r12K_lts (n : Nat) : List LC := []
def r12K_t (n : Nat)  : Option (List (Int)) :=
  some ([(1116352408 : Int), (1899447441 : Int), (3049323471 : Int), (3921009573 : Int), (961987163 : Int), (1508970993 : Int), (2453635748 : Int), (2870763221 : Int), (3624381080 : Int), (310598401 : Int), (607225278 : Int), (1426881987 : Int), (1925078388 : Int), (2162078206 : Int), (2614888103 : Int), (3248222580 : Int), (3835390401 : Int), (4022224774 : Int), (264347078 : Int), (604807628 : Int), (770255983 : Int), (1249150122 : Int), (1555081692 : Int), (1996064986 : Int), (2554220882 : Int), (2821834349 : Int), (2952996808 : Int), (3210313671 : Int), (3336571891 : Int), (3584528711 : Int), (113926993 : Int), (338241895 : Int), (666307205 : Int), (773529912 : Int), (1294757372 : Int), (1396182291 : Int), (1695183700 : Int), (1986661051 : Int), (2177026350 : Int), (2456956037 : Int), (2730485921 : Int), (2820302411 : Int), (3259730800 : Int), (3345764771 : Int), (3516065817 : Int), (3600352804 : Int), (4094571909 : Int), (275423344 : Int), (430227734 : Int), (506948616 : Int), (659060556 : Int), (883997877 : Int), (958139571 : Int), (1322822218 : Int), (1537002063 : Int), (1747873779 : Int), (1955562222 : Int), (2024104815 : Int), (2227730452 : Int), (2361852424 : Int), (2428436474 : Int), (2756734187 : Int), (3204031479 : Int), (3329325298 : Int)] : List (Int))
def r12K_fc (n : Nat) : FC := { f := 19, args := [], res := .one (.c (.d (.lst (.int .i64)))), F := fun p => r12K_t n  }
def r12K_ct (n : Nat) : List FC := []
theorem r12K_ctok (n : Nat) {G : World → Prop} (hG : Know Inv G) : ∀ c ∈ r12K_ct n, FCok Tryd.prog G c ∧ noTup c.args = true := (fun _ h => by cases h)
def r12K_dh : Hints := []
theorem r12K_dr : drB r12K_dh (bodyOf Tryd.f19) = true := by kernel_rfl
theorem r12K_eq (n : Nat) : ∀ a, (r12K_fc n).F a = main Tryd.prog 2 (r12K_ct n) (r12K_lts n) r12K_dh (bodyOf Tryd.f19) [.tmp 0] (r12K_fc n).args (r12K_fc n).res a := by intro a; kernel_rfl
theorem r12K_ok (n : Nat) : FCall Inv Tryd.prog (r12K_fc n) := fun G hG => ⟨⟨by kernel_rfl, fun a r h => main_ok (c := bodyOf Tryd.f19) Tryd.func19 (by kernel_rfl) (by kernel_rfl) (Nat.le_of_ble_eq_true (by kernel_rfl)) hG.st (by kernel_rfl) (rs := [.tmp 0]) (by kernel_rfl) (r12K_ctok n hG) (lts := r12K_lts n) (fun F hF hFG => have hK : Know Inv F.G := hFG ▸ hG; (lok_of fun j L h1 h2 h3 => absurd h2 (Nat.not_lt.2 (Nat.le_trans (by decide +kernel) h1)))) r12K_dr ((r12K_eq n a).symm.trans h)⟩, rfl⟩
/-! armada/armadaref12.Words -/
@[reducible] def r12Words_sh0 : SSt := ⟨[(0, .one (.c (.d .str))), (3, .one (.c (.row 39))), (4, .one (.c (.d (.int .i64))))], [], [(39, ⟨3, true, (.int .i64)⟩)]⟩
@[reducible] def r12Words_outs0 : List (Exit × SSt) := [(.exit 0, ⟨[(3, .one (.c (.row 39)))], [], [(39, ⟨3, true, (.int .i64)⟩)]⟩)]
def r12Words_l0 (n : Nat) (rec : (List UInt8) → Int → (List (Int)) → Option ((Unit × (Unit)) × (Unit) × ((List (Int)) × (Unit)))) (a1 : List UInt8) (a2 : Int) (a3 : List (Int)) : Option ((Unit × (Unit)) × (Unit) × ((List (Int)) × (Unit))) :=
  letO (IntKind.wrap .i64 (a2 + (3 : Int))) fun (n1 : Int) => (bif decide (n1 < ((List.length a1 : Nat) : Int)) then (sAt a1 a2).bind fun (c2 : Int) => letO (IntKind.wrap .i64 c2) fun (n3 : Int) => (shlO .i64 n3 (24 : Int)).bind fun (n4 : Int) => letO (IntKind.wrap .i64 (a2 + (1 : Int))) fun (n5 : Int) => (sAt a1 n5).bind fun (c6 : Int) => letO (IntKind.wrap .i64 c6) fun (n7 : Int) => (shlO .i64 n7 (16 : Int)).bind fun (n8 : Int) => letO (IntKind.wrap .i64 (n4 + n8)) fun (n9 : Int) => letO (IntKind.wrap .i64 (a2 + (2 : Int))) fun (n10 : Int) => (sAt a1 n10).bind fun (c11 : Int) => letO (IntKind.wrap .i64 c11) fun (n12 : Int) => (shlO .i64 n12 (8 : Int)).bind fun (n13 : Int) => letO (IntKind.wrap .i64 (n9 + n13)) fun (n14 : Int) => letO (IntKind.wrap .i64 (a2 + (3 : Int))) fun (n15 : Int) => (sAt a1 n15).bind fun (c16 : Int) => letO (IntKind.wrap .i64 c16) fun (n17 : Int) => letO (IntKind.wrap .i64 (n14 + n17)) fun (n18 : Int) => (appO 8 a3 ([n18] : List (Int))).bind fun (l19 : List (Int)) => letO (IntKind.wrap .i64 (a2 + (4 : Int))) fun (n20 : Int) => rec a1 n20 l19 else some ((((), ()), ((), (a3, ())))))
def r12Words_F0 (n : Nat) (rec : pSt r12Words_sh0 → Option (pOuts r12Words_outs0)) (p : pSt r12Words_sh0) : Option (pOuts r12Words_outs0) := r12Words_l0 n (fun a1 a2 a3 => rec ((a1, ((), (a2, ()))), ((), (a3, ())))) p.1.1 p.1.2.2.1 p.2.2.1
def r12Words_loop0 (n m : Nat) (a1 : List UInt8) (a2 : Int) (a3 : List (Int)) : Option ((Unit × (Unit)) × (Unit) × ((List (Int)) × (Unit))) := iterF (r12Words_F0 n) m ((a1, ((), (a2, ()))), ((), (a3, ())))
theorem r12Words_loop0_succ (n m : Nat) (a1 : List UInt8) (a2 : Int) (a3 : List (Int)) : r12Words_loop0 n (m + 1) a1 a2 a3 = r12Words_l0 n (fun a1 a2 a3 => r12Words_loop0 n m a1 a2 a3) a1 a2 a3 := rfl
def r12Words_L0 (n : Nat) : LC := { sh := r12Words_sh0, outs := r12Words_outs0, F := iterF (r12Words_F0 n) n }
def r12Words_lts (n : Nat) : List LC := [r12Words_L0 n]
def r12Words_t (n : Nat) (a1 : List UInt8) : Option (List (Int)) :=
  (r12Words_loop0 n n a1 (0 : Int) []).bind fun (o21 : (Unit × (Unit)) × (Unit) × ((List (Int)) × (Unit))) => some o21.2.2.1
def r12Words_fc (n : Nat) : FC := { f := 25, args := [.one (.c (.d .str))], res := .one (.c (.d (.lst (.int .i64)))), F := fun p => r12Words_t n p }
def r12Words_ct (n : Nat) : List FC := []
theorem r12Words_ctok (n : Nat) {G : World → Prop} (hG : Know Inv G) : ∀ c ∈ r12Words_ct n, FCok Tryd.prog G c ∧ noTup c.args = true := (fun _ h => by cases h)
def r12Words_dh : Hints := [(5, [⟨664613997892457936451903942457033216, 68719476736, 0⟩, ⟨3298534883329, 549755813888, 0⟩, ⟨26388279070720, 4398046511104, 0⟩, ⟨216054034857984, 35184372088832, 6⟩, ⟨1724034232352768, 281474976710656, 14⟩, ⟨13792273858822144, 2251799813685248, 30⟩, ⟨108086391056891905, 18014398509481984, 0⟩, ⟨864691128455139328, 144115188075855872, 0⟩, ⟨7061644215716937728, 1152921504606846976, 128⟩, ⟨56511168124244983808, 9223372036854775808, 448⟩, ⟨451945229805884014592, 73786976294838206464, 960⟩, ⟨3615561838447072116736, 590295810358705651712, 1984⟩, ⟨28924496959376390619136, 4722366482869645213696, 4094⟩, ⟨226673591177742970257409, 37778931862957161709568, 0⟩, ⟨1813388729421943762063360, 302231454903657293676544, 0⟩, ⟨14809341290279207390150656, 2417851639229258349412352, 16384⟩, ⟨118512509254096616282914816, 19342813113834066795298816, 57344⟩, ⟨947797842577869272969641984, 154742504910672534362390528, 122880⟩, ⟨7582382740622954183757135872, 1237940039285380274899124224, 253952⟩, ⟨60659066647350116339702300672, 9903520314283042199192993792, 524286⟩, ⟨475368975085586025561263702017, 79228162514264337593543950336, 0⟩, ⟨3802951800684688204490109620224, 633825300114114700748351602688, 0⟩, ⟨31057439705591620336669228531712, 5070602400912917605986812821504, 2097152⟩, ⟨248538745807247227030947372204032, 40564819207303340847894502572032, 7340032⟩, ⟨1987676141157863701546830626029568, 324518553658426726783156020576256, 15728640⟩, ⟨15901419032783223895416844201230336, 2596148429267413814265248164610048, 33554430⟩, ⟨127211273034103276898997160065892352, 103845937170696552570609926584401920, 67108862⟩, ⟨1100766934009383457248465290514137088, 830767497365572420564879412675215360, 134217727⟩, ⟨830767497365572420564879412675218432, 512, 268435455⟩])]
theorem r12Words_dr : drB r12Words_dh (bodyOf Tryd.f25) = true := by kernel_rfl
theorem r12Words_eq0 (n : Nat) : ∀ rec p, r12Words_F0 n rec p = round Tryd.prog 41 (r12Words_ct n) (r12Words_lts n) r12Words_dh 1 r12Words_sh0 r12Words_outs0 (bodyAt 0 0 (bodyOf Tryd.f25)) rec p := by intro rec p; kernel_rfl
theorem r12Words_lok0 (n : Nat) {F : Fr} (hF : F.n = 41) (hK : Know Inv F.G) : LCok Tryd.prog F (r12Words_L0 n) (bodyAt 0 0 (bodyOf Tryd.f25)) :=
  loop_ok hF (by kernel_rfl) (r12Words_ctok n hK) (r12Words_eq0 n) (fuel := n) (fun _ => rfl) (lok_of fun j L h1 h2 h3 => absurd h2 (Nat.not_lt.2 (Nat.le_trans (by decide +kernel) h1))) (drB_at r12Words_dr)
theorem r12Words_eq (n : Nat) : ∀ a, (r12Words_fc n).F a = main Tryd.prog 41 (r12Words_ct n) (r12Words_lts n) r12Words_dh (bodyOf Tryd.f25) [.tmp 2] (r12Words_fc n).args (r12Words_fc n).res a := by intro a; kernel_rfl
theorem r12Words_ok (n : Nat) : FCall Inv Tryd.prog (r12Words_fc n) := fun G hG => ⟨⟨by kernel_rfl, fun a r h => main_ok (c := bodyOf Tryd.f25) Tryd.func25 (by kernel_rfl) (by kernel_rfl) (Nat.le_of_ble_eq_true (by kernel_rfl)) hG.st (by kernel_rfl) (rs := [.tmp 2]) (by kernel_rfl) (r12Words_ctok n hG) (lts := r12Words_lts n) (fun F hF hFG => have hK : Know Inv F.G := hFG ▸ hG; (lok_of (c := (bodyOf Tryd.f25)) (fun j L h1 h2 h3 => by
    have h2' : j < 1 := Nat.lt_of_lt_of_le h2 (by decide +kernel)
    match j, h1, h2', h3 with
    | 0, _, _, h3 => obtain rfl := Option.some.inj h3; exact (show bodyAt 0 0 (bodyOf Tryd.f25) = bodyAt 0 0 (bodyOf Tryd.f25) by kernel_rfl) ▸ r12Words_lok0 n hF hK
    | j + 1, _, h2', _ => exact absurd h2' (by omega)))) r12Words_dr ((r12Words_eq n a).symm.trans h)⟩, rfl⟩
/-! armada/armadaref12.Bytes -/
@[reducible] def r12Bytes_sh0 : SSt := ⟨[(0, .one (.c (.d (.lst (.int .i64))))), (3, .one (.c (.row 39))), (4, .one (.c (.d (.int .i64))))], [], [(39, ⟨5, true, (.int .u8)⟩)]⟩
@[reducible] def r12Bytes_outs0 : List (Exit × SSt) := [(.exit 0, ⟨[(3, .one (.c (.row 39)))], [], [(39, ⟨5, true, (.int .u8)⟩)]⟩)]
def r12Bytes_l0 (n : Nat) (rec : (List (Int)) → Int → (List (Int)) → Option ((Unit × (Unit)) × (Unit) × ((List (Int)) × (Unit)))) (a1 : List (Int)) (a2 : Int) (a3 : List (Int)) : Option ((Unit × (Unit)) × (Unit) × ((List (Int)) × (Unit))) :=
  (bif decide (a2 < ((List.length a1 : Nat) : Int)) then (idxL a1 a2).bind fun (x1 : Int) => (shrO .i64 x1 (24 : Int)).bind fun (n2 : Int) => letO (IntKind.wrap .u8 n2) fun (n3 : Int) => (idxL a1 a2).bind fun (x4 : Int) => (shrO .i64 x4 (16 : Int)).bind fun (n5 : Int) => letO (andI .i64 n5 (255 : Int)) fun (n6 : Int) => letO (IntKind.wrap .u8 n6) fun (n7 : Int) => (idxL a1 a2).bind fun (x8 : Int) => (shrO .i64 x8 (8 : Int)).bind fun (n9 : Int) => letO (andI .i64 n9 (255 : Int)) fun (n10 : Int) => letO (IntKind.wrap .u8 n10) fun (n11 : Int) => (idxL a1 a2).bind fun (x12 : Int) => letO (andI .i64 x12 (255 : Int)) fun (n13 : Int) => letO (IntKind.wrap .u8 n13) fun (n14 : Int) => (appO 1 a3 ([n3, n7, n11, n14] : List (Int))).bind fun (l15 : List (Int)) => letO (IntKind.wrap .i64 (a2 + (1 : Int))) fun (n16 : Int) => rec a1 n16 l15 else some ((((), ()), ((), (a3, ())))))
def r12Bytes_F0 (n : Nat) (rec : pSt r12Bytes_sh0 → Option (pOuts r12Bytes_outs0)) (p : pSt r12Bytes_sh0) : Option (pOuts r12Bytes_outs0) := r12Bytes_l0 n (fun a1 a2 a3 => rec ((a1, ((), (a2, ()))), ((), (a3, ())))) p.1.1 p.1.2.2.1 p.2.2.1
def r12Bytes_loop0 (n m : Nat) (a1 : List (Int)) (a2 : Int) (a3 : List (Int)) : Option ((Unit × (Unit)) × (Unit) × ((List (Int)) × (Unit))) := iterF (r12Bytes_F0 n) m ((a1, ((), (a2, ()))), ((), (a3, ())))
theorem r12Bytes_loop0_succ (n m : Nat) (a1 : List (Int)) (a2 : Int) (a3 : List (Int)) : r12Bytes_loop0 n (m + 1) a1 a2 a3 = r12Bytes_l0 n (fun a1 a2 a3 => r12Bytes_loop0 n m a1 a2 a3) a1 a2 a3 := rfl
def r12Bytes_L0 (n : Nat) : LC := { sh := r12Bytes_sh0, outs := r12Bytes_outs0, F := iterF (r12Bytes_F0 n) n }
def r12Bytes_lts (n : Nat) : List LC := [r12Bytes_L0 n]
def r12Bytes_t (n : Nat) (a1 : List (Int)) : Option (List UInt8) :=
  (r12Bytes_loop0 n n a1 (0 : Int) []).bind fun (o17 : (Unit × (Unit)) × (Unit) × ((List (Int)) × (Unit))) => some (List.map (fun n : Int => UInt8.ofNat n.toNat) o17.2.2.1)
def r12Bytes_fc (n : Nat) : FC := { f := 17, args := [.one (.c (.d (.lst (.int .i64))))], res := .one (.c (.d .str)), F := fun p => r12Bytes_t n p }
def r12Bytes_ct (n : Nat) : List FC := []
theorem r12Bytes_ctok (n : Nat) {G : World → Prop} (hG : Know Inv G) : ∀ c ∈ r12Bytes_ct n, FCok Tryd.prog G c ∧ noTup c.args = true := (fun _ h => by cases h)
def r12Bytes_dh : Hints := [(5, [⟨664613997892457936451903581679780352, 8589934592, 0⟩, ⟨412316860417, 68719476736, 0⟩, ⟨3298534887424, 549755813888, 0⟩, ⟨27006754357248, 4398046511104, 6⟩, ⟨215504279044096, 35184372088832, 14⟩, ⟨1724034232352768, 281474976710656, 30⟩, ⟨13792273858822144, 2251799813685248, 62⟩, ⟨108086391056891905, 18014398509481984, 0⟩, ⟨864691128455139328, 144115188075855872, 0⟩, ⟨7079658614226419712, 1152921504606846976, 384⟩, ⟨56493153725735501824, 9223372036854775808, 896⟩, ⟨451945229805884014592, 73786976294838206464, 1920⟩, ⟨3615561838447072116736, 590295810358705651712, 3968⟩, ⟨28924494707576576933888, 4722366482869645213696, 8064⟩, ⟨226673591177742970257409, 37778931862957161709568, 0⟩, ⟨1813388729421943762063360, 302231454903657293676544, 0⟩, ⟨14847120222142164551860224, 2417851639229258349412352, 49152⟩, ⟨118474730322233659121205248, 19342813113834066795298816, 114688⟩, ⟨947797842577869272969641984, 154742504910672534362390528, 245760⟩, ⟨7582382740622954183757135872, 1237940039285380274899124224, 507904⟩, ⟨60659061924983633470057086976, 9903520314283042199192993792, 1032192⟩, ⟨475368975085586025561263702017, 79228162514264337593543950336, 0⟩, ⟨3802951800684688204490109620224, 633825300114114700748351602688, 0⟩, ⟨31136667868105884674262772482048, 5070602400912917605986812821504, 6291456⟩, ⟨248459517644732962693353828253696, 40564819207303340847894502572032, 14680064⟩, ⟨1987676141157863701546830626029568, 324518553658426726783156020576256, 31457280⟩, ⟨15901409129262909612374645008236544, 2596148429267413814265248164610048, 65011712⟩, ⟨127211282937628313550774028717785088, 103845937170696552570609926584401920, 134217726⟩, ⟨1100766934009383457248465230384594944, 830767497365572420564879412675215360, 268435455⟩, ⟨830767497365572420564879412675218432, 512, 536870911⟩])]
theorem r12Bytes_dr : drB r12Bytes_dh (bodyOf Tryd.f17) = true := by kernel_rfl
theorem r12Bytes_eq0 (n : Nat) : ∀ rec p, r12Bytes_F0 n rec p = round Tryd.prog 42 (r12Bytes_ct n) (r12Bytes_lts n) r12Bytes_dh 1 r12Bytes_sh0 r12Bytes_outs0 (bodyAt 0 0 (bodyOf Tryd.f17)) rec p := by intro rec p; kernel_rfl
theorem r12Bytes_lok0 (n : Nat) {F : Fr} (hF : F.n = 42) (hK : Know Inv F.G) : LCok Tryd.prog F (r12Bytes_L0 n) (bodyAt 0 0 (bodyOf Tryd.f17)) :=
  loop_ok hF (by kernel_rfl) (r12Bytes_ctok n hK) (r12Bytes_eq0 n) (fuel := n) (fun _ => rfl) (lok_of fun j L h1 h2 h3 => absurd h2 (Nat.not_lt.2 (Nat.le_trans (by decide +kernel) h1))) (drB_at r12Bytes_dr)
theorem r12Bytes_eq (n : Nat) : ∀ a, (r12Bytes_fc n).F a = main Tryd.prog 42 (r12Bytes_ct n) (r12Bytes_lts n) r12Bytes_dh (bodyOf Tryd.f17) [.tmp 2] (r12Bytes_fc n).args (r12Bytes_fc n).res a := by intro a; kernel_rfl
theorem r12Bytes_ok (n : Nat) : FCall Inv Tryd.prog (r12Bytes_fc n) := fun G hG => ⟨⟨by kernel_rfl, fun a r h => main_ok (c := bodyOf Tryd.f17) Tryd.func17 (by kernel_rfl) (by kernel_rfl) (Nat.le_of_ble_eq_true (by kernel_rfl)) hG.st (by kernel_rfl) (rs := [.tmp 2]) (by kernel_rfl) (r12Bytes_ctok n hG) (lts := r12Bytes_lts n) (fun F hF hFG => have hK : Know Inv F.G := hFG ▸ hG; (lok_of (c := (bodyOf Tryd.f17)) (fun j L h1 h2 h3 => by
    have h2' : j < 1 := Nat.lt_of_lt_of_le h2 (by decide +kernel)
    match j, h1, h2', h3 with
    | 0, _, _, h3 => obtain rfl := Option.some.inj h3; exact (show bodyAt 0 0 (bodyOf Tryd.f17) = bodyAt 0 0 (bodyOf Tryd.f17) by kernel_rfl) ▸ r12Bytes_lok0 n hF hK
    | j + 1, _, h2', _ => exact absurd h2' (by omega)))) r12Bytes_dr ((r12Bytes_eq n a).symm.trans h)⟩, rfl⟩
/-! armada/armadaref12.rolled -/
@[reducible] def r12rolled_sh2 : SSt := ⟨[(0, .one (.c (.d (.lst (.int .i64))))), (13, .one (.c (.d (.lst (.int .i64))))), (19, .one (.c (.row 196))), (20, .one (.c (.d (.int .i64))))], [], [(196, ⟨3, true, (.int .i64)⟩)]⟩
@[reducible] def r12rolled_outs2 : List (Exit × SSt) := [(.exit 4, ⟨[(19, .one (.c (.row 196)))], [], [(196, ⟨3, true, (.int .i64)⟩)]⟩)]
def r12rolled_l2 (n : Nat) (rec : (List (Int)) → (List (Int)) → Int → (List (Int)) → Option ((Unit × (Unit)) × (Unit) × ((List (Int)) × (Unit)))) (a1 : List (Int)) (a2 : List (Int)) (a3 : Int) (a4 : List (Int)) : Option ((Unit × (Unit)) × (Unit) × ((List (Int)) × (Unit))) :=
  (bif decide (a3 < (8 : Int)) then (idxL a1 a3).bind fun (x83 : Int) => (idxL a2 a3).bind fun (x84 : Int) => letO (IntKind.wrap .i64 (x83 + x84)) fun (n85 : Int) => (qMask_t n85).bind fun (r86 : Int) => (appO 8 a4 ([r86] : List (Int))).bind fun (l87 : List (Int)) => letO (IntKind.wrap .i64 (a3 + (1 : Int))) fun (n88 : Int) => rec a1 a2 n88 l87 else some ((((), ()), ((), (a4, ())))))
def r12rolled_F2 (n : Nat) (rec : pSt r12rolled_sh2 → Option (pOuts r12rolled_outs2)) (p : pSt r12rolled_sh2) : Option (pOuts r12rolled_outs2) := r12rolled_l2 n (fun a1 a2 a3 a4 => rec ((a1, (a2, ((), (a3, ())))), ((), (a4, ())))) p.1.1 p.1.2.1 p.1.2.2.2.1 p.2.2.1
def r12rolled_loop2 (n m : Nat) (a1 : List (Int)) (a2 : List (Int)) (a3 : Int) (a4 : List (Int)) : Option ((Unit × (Unit)) × (Unit) × ((List (Int)) × (Unit))) := iterF (r12rolled_F2 n) m ((a1, (a2, ((), (a3, ())))), ((), (a4, ())))
theorem r12rolled_loop2_succ (n m : Nat) (a1 : List (Int)) (a2 : List (Int)) (a3 : Int) (a4 : List (Int)) : r12rolled_loop2 n (m + 1) a1 a2 a3 a4 = r12rolled_l2 n (fun a1 a2 a3 a4 => r12rolled_loop2 n m a1 a2 a3 a4) a1 a2 a3 a4 := rfl
def r12rolled_L2 (n : Nat) : LC := { sh := r12rolled_sh2, outs := r12rolled_outs2, F := iterF (r12rolled_F2 n) n }
@[reducible] def r12rolled_sh1 : SSt := ⟨[(0, .one (.c (.d (.lst (.int .i64))))), (2, .one (.c (.d (.lst (.int .i64))))), (7, .one (.c (.row 21))), (13, .one (.c (.d (.lst (.int .i64))))), (14, .one (.c (.d (.int .i64))))], [], [(21, ⟨3, false, (.int .i64)⟩)]⟩
@[reducible] def r12rolled_outs1 : List (Exit × SSt) := [(.exit 2, ⟨[(0, .one (.c (.d (.lst (.int .i64))))), (13, .one (.c (.d (.lst (.int .i64)))))], [], []⟩)]
def r12rolled_l1 (n : Nat) (rec : (List (Int)) → (List (Int)) → (List (Int)) → Int → (List (Int)) → Option (((List (Int)) × ((List (Int)) × (Unit))) × (Unit) × (Unit))) (a1 : List (Int)) (a2 : List (Int)) (a3 : List (Int)) (a4 : Int) (a5 : List (Int)) : Option (((List (Int)) × ((List (Int)) × (Unit))) × (Unit) × (Unit)) :=
  (bif decide (a4 < (64 : Int)) then (idxL a3 (4 : Int)).bind fun (x32 : Int) => (idxL a3 (0 : Int)).bind fun (x33 : Int) => (idxL a3 (7 : Int)).bind fun (x34 : Int) => (qTurn_t x32 (6 : Int)).bind fun (r35 : Int) => (qTurn_t x32 (11 : Int)).bind fun (r36 : Int) => letO (xorI .i64 r35 r36) fun (n37 : Int) => (qTurn_t x32 (25 : Int)).bind fun (r38 : Int) => letO (xorI .i64 n37 r38) fun (n39 : Int) => letO (IntKind.wrap .i64 (x34 + n39)) fun (n40 : Int) => (idxL a3 (5 : Int)).bind fun (x41 : Int) => letO (andI .i64 x32 x41) fun (n42 : Int) => letO (IntKind.wrap .i64 ((4294967295 : Int) - x32)) fun (n43 : Int) => (idxL a3 (6 : Int)).bind fun (x44 : Int) => letO (andI .i64 n43 x44) fun (n45 : Int) => letO (xorI .i64 n42 n45) fun (n46 : Int) => letO (IntKind.wrap .i64 (n40 + n46)) fun (n47 : Int) => (idxL a2 a4).bind fun (x48 : Int) => letO (IntKind.wrap .i64 (n47 + x48)) fun (n49 : Int) => (idxL a5 a4).bind fun (_x50 : Int) => (nth a5 (Int.toNat a4)).bind fun (x51 : Int) => letO (IntKind.wrap .i64 (n49 + x51)) fun (n52 : Int) => (qMask_t n52).bind fun (r53 : Int) => (qTurn_t x33 (2 : Int)).bind fun (r54 : Int) => (qTurn_t x33 (13 : Int)).bind fun (r55 : Int) => letO (xorI .i64 r54 r55) fun (n56 : Int) => (qTurn_t x33 (22 : Int)).bind fun (r57 : Int) => letO (xorI .i64 n56 r57) fun (n58 : Int) => (idxL a3 (1 : Int)).bind fun (x59 : Int) => letO (andI .i64 x33 x59) fun (n60 : Int) => (idxL a3 (2 : Int)).bind fun (x61 : Int) => letO (andI .i64 x33 x61) fun (n62 : Int) => letO (xorI .i64 n60 n62) fun (n63 : Int) => (idxL a3 (1 : Int)).bind fun (x64 : Int) => (idxL a3 (2 : Int)).bind fun (x65 : Int) => letO (andI .i64 x64 x65) fun (n66 : Int) => letO (xorI .i64 n63 n66) fun (n67 : Int) => letO (IntKind.wrap .i64 (n58 + n67)) fun (n68 : Int) => (qMask_t n68).bind fun (r69 : Int) => letO (IntKind.wrap .i64 (r53 + r69)) fun (n70 : Int) => (qMask_t n70).bind fun (r71 : Int) => (idxL a3 (0 : Int)).bind fun (x72 : Int) => (idxL a3 (1 : Int)).bind fun (x73 : Int) => (idxL a3 (2 : Int)).bind fun (x74 : Int) => (idxL a3 (3 : Int)).bind fun (x75 : Int) => letO (IntKind.wrap .i64 (x75 + r53)) fun (n76 : Int) => (qMask_t n76).bind fun (r77 : Int) => (idxL a3 (4 : Int)).bind fun (x78 : Int) => (idxL a3 (5 : Int)).bind fun (x79 : Int) => (idxL a3 (6 : Int)).bind fun (x80 : Int) => letO (IntKind.wrap .i64 (a4 + (1 : Int))) fun (n81 : Int) => rec a1 a2 ([r71, x72, x73, x74, r77, x78, x79, x80] : List (Int)) n81 a5 else some (((a1, (a3, ())), ((), ()))))
def r12rolled_F1 (n : Nat) (rec : pSt r12rolled_sh1 → Option (pOuts r12rolled_outs1)) (p : pSt r12rolled_sh1) : Option (pOuts r12rolled_outs1) := r12rolled_l1 n (fun a1 a2 a3 a4 a5 => rec ((a1, (a2, ((), (a3, (a4, ()))))), ((), (a5, ())))) p.1.1 p.1.2.1 p.1.2.2.2.1 p.1.2.2.2.2.1 p.2.2.1
def r12rolled_loop1 (n m : Nat) (a1 : List (Int)) (a2 : List (Int)) (a3 : List (Int)) (a4 : Int) (a5 : List (Int)) : Option (((List (Int)) × ((List (Int)) × (Unit))) × (Unit) × (Unit)) := iterF (r12rolled_F1 n) m ((a1, (a2, ((), (a3, (a4, ()))))), ((), (a5, ())))
theorem r12rolled_loop1_succ (n m : Nat) (a1 : List (Int)) (a2 : List (Int)) (a3 : List (Int)) (a4 : Int) (a5 : List (Int)) : r12rolled_loop1 n (m + 1) a1 a2 a3 a4 a5 = r12rolled_l1 n (fun a1 a2 a3 a4 a5 => r12rolled_loop1 n m a1 a2 a3 a4 a5) a1 a2 a3 a4 a5 := rfl
def r12rolled_L1 (n : Nat) : LC := { sh := r12rolled_sh1, outs := r12rolled_outs1, F := iterF (r12rolled_F1 n) n }
@[reducible] def r12rolled_sh0 : SSt := ⟨[(0, .one (.c (.d (.lst (.int .i64))))), (2, .one (.c (.d (.lst (.int .i64))))), (7, .one (.c (.row 21))), (8, .one (.c (.d (.int .i64))))], [], [(21, ⟨3, true, (.int .i64)⟩)]⟩
@[reducible] def r12rolled_outs0 : List (Exit × SSt) := [(.exit 0, ⟨[(0, .one (.c (.d (.lst (.int .i64))))), (2, .one (.c (.d (.lst (.int .i64))))), (7, .one (.c (.row 21)))], [], [(21, ⟨3, true, (.int .i64)⟩)]⟩)]
def r12rolled_l0 (n : Nat) (rec : (List (Int)) → (List (Int)) → Int → (List (Int)) → Option (((List (Int)) × ((List (Int)) × (Unit × (Unit)))) × (Unit) × ((List (Int)) × (Unit)))) (a1 : List (Int)) (a2 : List (Int)) (a3 : Int) (a4 : List (Int)) : Option (((List (Int)) × ((List (Int)) × (Unit × (Unit)))) × (Unit) × ((List (Int)) × (Unit))) :=
  (bif decide (a3 < (64 : Int)) then letO (IntKind.wrap .i64 (a3 - (15 : Int))) fun (n2 : Int) => (idxL a4 n2).bind fun (_x3 : Int) => (nth a4 (Int.toNat n2)).bind fun (x4 : Int) => letO (IntKind.wrap .i64 (a3 - (2 : Int))) fun (n5 : Int) => (idxL a4 n5).bind fun (_x6 : Int) => (nth a4 (Int.toNat n5)).bind fun (x7 : Int) => (qTurn_t x4 (7 : Int)).bind fun (r8 : Int) => (qTurn_t x4 (18 : Int)).bind fun (r9 : Int) => letO (xorI .i64 r8 r9) fun (n10 : Int) => letO (Int.fdiv x4 (2 ^ (min (Int.toNat (3 : Int)) 64))) fun (n11 : Int) => letO (xorI .i64 n10 n11) fun (n12 : Int) => (qTurn_t x7 (17 : Int)).bind fun (r13 : Int) => (qTurn_t x7 (19 : Int)).bind fun (r14 : Int) => letO (xorI .i64 r13 r14) fun (n15 : Int) => letO (Int.fdiv x7 (2 ^ (min (Int.toNat (10 : Int)) 64))) fun (n16 : Int) => letO (xorI .i64 n15 n16) fun (n17 : Int) => letO (IntKind.wrap .i64 (a3 - (7 : Int))) fun (n18 : Int) => (idxL a4 n18).bind fun (_x19 : Int) => (nth a4 (Int.toNat n18)).bind fun (x20 : Int) => letO (IntKind.wrap .i64 (n17 + x20)) fun (n21 : Int) => letO (IntKind.wrap .i64 (n21 + n12)) fun (n22 : Int) => letO (IntKind.wrap .i64 (a3 - (16 : Int))) fun (n23 : Int) => (idxL a4 n23).bind fun (_x24 : Int) => (nth a4 (Int.toNat n23)).bind fun (x25 : Int) => letO (IntKind.wrap .i64 (n22 + x25)) fun (n26 : Int) => (qMask_t n26).bind fun (r27 : Int) => (appO 8 a4 ([r27] : List (Int))).bind fun (l28 : List (Int)) => letO (IntKind.wrap .i64 (a3 + (1 : Int))) fun (n29 : Int) => rec a1 a2 n29 l28 else some (((a1, (a2, ((), ()))), ((), (a4, ())))))
def r12rolled_F0 (n : Nat) (rec : pSt r12rolled_sh0 → Option (pOuts r12rolled_outs0)) (p : pSt r12rolled_sh0) : Option (pOuts r12rolled_outs0) := r12rolled_l0 n (fun a1 a2 a3 a4 => rec ((a1, (a2, ((), (a3, ())))), ((), (a4, ())))) p.1.1 p.1.2.1 p.1.2.2.2.1 p.2.2.1
def r12rolled_loop0 (n m : Nat) (a1 : List (Int)) (a2 : List (Int)) (a3 : Int) (a4 : List (Int)) : Option (((List (Int)) × ((List (Int)) × (Unit × (Unit)))) × (Unit) × ((List (Int)) × (Unit))) := iterF (r12rolled_F0 n) m ((a1, (a2, ((), (a3, ())))), ((), (a4, ())))
theorem r12rolled_loop0_succ (n m : Nat) (a1 : List (Int)) (a2 : List (Int)) (a3 : Int) (a4 : List (Int)) : r12rolled_loop0 n (m + 1) a1 a2 a3 a4 = r12rolled_l0 n (fun a1 a2 a3 a4 => r12rolled_loop0 n m a1 a2 a3 a4) a1 a2 a3 a4 := rfl
def r12rolled_L0 (n : Nat) : LC := { sh := r12rolled_sh0, outs := r12rolled_outs0, F := iterF (r12rolled_F0 n) n }
def r12rolled_lts (n : Nat) : List LC := [r12rolled_L0 n, r12rolled_L1 n, r12rolled_L2 n]
def r12rolled_t (n : Nat) (a1 : List (Int)) (a2 : List (Int)) (a3 : List (Int)) : Option (List (Int)) :=
  (appO 8 ([] : List (Int)) a2).bind fun (l1 : List (Int)) => (r12rolled_loop0 n n a1 a3 (16 : Int) l1).bind fun (o30 : ((List (Int)) × ((List (Int)) × (Unit × (Unit)))) × (Unit) × ((List (Int)) × (Unit))) => (appO 8 ([] : List (Int)) o30.1.1).bind fun (l31 : List (Int)) => (r12rolled_loop1 n n o30.1.1 o30.1.2.1 l31 (0 : Int) o30.2.2.1).bind fun (o82 : ((List (Int)) × ((List (Int)) × (Unit))) × (Unit) × (Unit)) => (r12rolled_loop2 n n o82.1.1 o82.1.2.1 (0 : Int) []).bind fun (o89 : (Unit × (Unit)) × (Unit) × ((List (Int)) × (Unit))) => some o89.2.2.1
def r12rolled_fc (n : Nat) : FC := { f := 24, args := [.one (.c (.d (.lst (.int .i64)))), .one (.c (.d (.lst (.int .i64)))), .one (.c (.d (.lst (.int .i64))))], res := .one (.c (.d (.lst (.int .i64)))), F := fun p => r12rolled_t n p.1 p.2.1 p.2.2 }
def r12rolled_ct (n : Nat) : List FC := [qTurn_fc, qMask_fc]
theorem r12rolled_ctok (n : Nat) {G : World → Prop} (hG : Know Inv G) : ∀ c ∈ r12rolled_ct n, FCok Tryd.prog G c ∧ noTup c.args = true := List.forall_mem_cons.2 ⟨qTurn_ok G hG, List.forall_mem_cons.2 ⟨qMask_ok G hG, (fun _ h => by cases h)⟩⟩
def r12rolled_dh : Hints := [(9, [⟨35076039295941670036888435985227685959889802231808, 5846006549323611672814739330865132078623730171904, 0⟩, ⟨280608314367533360295107487881526339774007767728128, 46768052394588893382517914646921056628989841375232, 0⟩, ⟨2244866514940266882360859903052247611679659807211520, 374144419156711147060143317175368453031918731001856, 0⟩, ⟨17958932119522135058886879224417685745532099104866304, 2993155353253689176481146537402947624255349848014848, 0⟩, ⟨146664612309430769647576180332744433588512142552727552, 23945242826029513411849172299223580994042798784118784, 8⟩, ⟨1173691042894602868327669585979130874054617206571925504, 191561942608236107294793378393788647952342390272950272, 28⟩, ⟨9386535187803569257444875541295643786558265270793666560, 1532495540865888858358347027150309183618739122183602176, 60⟩, ⟨75092328270480948648452386848279796918374845976837881856, 12259964326927110866866776217202473468949912977468817408, 126⟩, ⟨588478287692501321609605258425718726509595822927093170176, 98079714615416886934934209737619787751599303819750539264, 0⟩, ⟨4818165980482354570678643053360572073297315800145245241344, 784637716923335095479473677900958302012794430558004314112, 510⟩, ⟨37662610412320084583014736539245998496651026154931628277760, 6277101735386680763835789423207666416102355444464034512896, 0⟩, ⟨301300883298560676664117892313967987972913061334273673396224, 50216813883093446110686315385661331328818843555712276103168, 0⟩, ⟨2460623880271578859423629453897405235112123334229901529055232, 401734511064747568885490523085290650630550748445698208825344, 2048⟩, ⟨19691268143908017556152871420602449547313125922771823686057984, 3213876088517980551083924184682325205044405987565585670602752, 7168⟩, ⟨157479928337381047003112285049433935047175930284201845278638080, 25711008708143844408671393477458601640355247900524685364822016, 15360⟩, ⟨1259840211336765299359993759869149381335709159920140140880592896, 205688069665150755269371147819668813122841983204197482918576128, 32766⟩, ⟨10078715413592387008199186243163771843019257177005676663010230272, 1645504557321206042154969182557350504982735865633579863348609024, 65534⟩, ⟨80629723308739096065593489945310174744154057416045413304081842176, 65820182292848241686198767302294020199309434625343194533944360960, 131070⟩, ⟨697693932304191367719713482727928286927419337930663428830959501312, 105312291668557186697918027683670432318895095437442599401730080768, 262143⟩, ⟨105312291668557186697918027683670432318895095437442599401742663680, 2097152, 524287⟩]), (1000009, []), (16, [⟨2779010141698958683499097470182843165364357085809578179999799587750602818453504, 463168356949264781694283940034751631413079938662562256157830336031652518559744, 0⟩, ⟨22695249490517344296353306891677163316126794448299755194786504037111111360708608, 3705346855594118253554271520278013051304639509300498049262642688253220148477952, 1⟩, ⟨181561995924115164417492698323596972890813213409558609056922309295967925226700800, 29642774844752946028434172162224104410437116074403984394101141506025761187823616, 3⟩, ⟨1422853192548141409364840263786757011700981571571391250916854792289271721387622400, 237142198758023568227473377297792835283496928595231875152809132048206089502588928, 0⟩, ⟨11619967739143154843146195487591848928891349501166361882487647470362098385626857472, 1897137590064188545819787018382342682267975428761855001222473056385648716020711424, 8⟩, ⟨91062604323081050199349776882352448748862820580569040058678706706511173553366237184, 15177100720513508366558296147058741458143803430094840009779784451085189728165691392, 0⟩, ⟨743677935305161909961356511205878331449046368074647160479209438103174296680118878208, 121416805764108066932466369176469931665150427440758720078238275608681517825325531136, 56⟩, ⟨5951320620031359468236671876665408994274638920025939138834897977881780022156971737088, 971334446112864535459730953411759453321203419526069760625906204869452142602604249088, 120⟩, ⟨46624053413417497702067085763764453759417764137251348510043497833733702880109376045056, 7770675568902916283677847627294075626569627356208558085007249638955617140820833992704, 0⟩, ⟨380763102876242897900214533737409705701911740454219346165355232308825239900220865642496, 62165404551223330269422781018352605012557018849668464680057997111644937126566671941632, 376⟩, ⟨3047076157456056047737176000852689405068615127053280839083467764675471371344369529389056, 497323236409786642155382248146820840100456150797347717440463976893159497012533375533056, 1016⟩, ⟨24368838613722320310366676187628393327146455799507154228986719261865956859639896588943360, 3978585891278293137243057985174566720803649206378781739523711815145275976100267004264448, 2047⟩, ⟨190972122781358070587666783288379202598575161906181523497138167126973246852848000576782336, 31828687130226345097944463881396533766429193651030253916189694521162207808802136034115584, 0⟩, ⟨1527776982250864564701337636300367014618575628626338065430939541658838792394063217344643072, 254629497041810760783555711051172270131433549208242031329517556169297662470417088272924672, 0⟩, ⟨12476845355048727278394233211500774630270218244580745412600194456938638278621997463324590080, 2037035976334486086268445688409378161051468393665936250636140449354381299763336706183397376, 8192⟩, ⟨99814762840389818227153842102052863285351925623007762158624716223007736505975058740937752576, 16296287810675888690147565507275025288411747149327490005089123594835050398106693649467179008, 24576⟩, ⟨798549931410248772162328654320357635665942039510698040503283245841438631715036790959925886976, 130370302485407109521180524058200202307293977194619920040712988758680403184853549195737432064, 61440⟩, ⟨6257774519299541257016665154793609710750110905341756161954223460416659352872970396579768827904, 1042962419883256876169444192465601618458351817556959360325703910069443225478828393565899456512, 0⟩, ⟨51105158574279586932302765430814479304459239060291008655959491593402718048462591284729073369088, 8343699359066055009355553539724812947666814540455674882605631280555545803830627148527195652096, 131072⟩, ⟨400497569235170640449066569910161014821400927916205771250947755300870841636687674689993098395648, 66749594872528440074844428317798503581334516323645399060845050244444366430645017188217565216768, 0⟩, ⟨3270730148753893563667376987575496668818785129832957930867284915811978598154423413782798646902784, 533996758980227520598755426542388028650676130589163192486760401955554931445160137505740521734144, 524288⟩, ⟨26165841190031148509339015900580383397216524228843329808737137149656396283865664309341423516254208, 4271974071841820164790043412339104229205409044713305539894083215644439451561281100045924173873152, 1572864⟩, ⟨209335073219608254129721482758155832044012710005492427129692683197858088672306604529398811715436544, 34175792574734561318320347298712833833643272357706444319152665725155515612490248800367393390985216, 4063232⟩, ⟨1674613966532295990004806538817452916048722652821592966258400661245609023692425376071551471895707648, 273406340597876490546562778389702670669146178861651554553221325801244124899921990402939147127881728, 8384512⟩, ⟨13396910689299926622672854434232673920773337330941729822314223746000485831911322805720118476270469120, 2187250724783011924372502227117621365353169430893212436425770606409952999199375923223513177023053824, 16777215⟩, ⟨104988034789584572369880106901645825536952132682874196948436989107677743961570044314728632497106583616, 17498005798264095394980017816940970922825355447145699491406164851279623993595007385788105416184430592, 0⟩, ⟨839904278316676578959040855213166604295617061462993575587495912861421951692560354517829064374899179520, 139984046386112763159840142535527767382602843577165595931249318810236991948760059086304843329475444736, 0⟩, ⟨6876716278717789490227147002057801572670364690728259900122622786552892229482837902614725428560481222656, 1119872371088902105278721140284222139060822748617324767449994550481895935590080472690438746635803557888, 100663296⟩, ⟨54873746183356203158657335873926884813980314682248913605049732973612900843913943161831498585154374336512, 8958978968711216842229769122273777112486581988938598139599956403855167484720643781523509973086428463104, 234881024⟩, ⟨438992156717574408281183059493642196133207870627422202052834289559509616704310744670575212194412017745920, 71671831749689734737838152978190216899892655911508785116799651230841339877765150252188079784691427704832, 536870911⟩, ⟨3440247923985107267416231342953130411194847483752421685606383259080384314132727212105064723153335951032320, 573374653997517877902705223825521735199141247292070280934397209846730719022121202017504638277531421638656, 0⟩, ⟨27521983391880858139329850743625043289558779870019373484851066072643074513061817696840222637325906285166592, 4586997231980143023221641790604173881593129978336562247475177678773845752176969616140037106220251373109248, 0⟩, ⟨225336239021024526015763152963430041933262510185783620407218103469765172575693632392879359736557996123095040, 36695977855841144185773134324833391052745039826692497979801421430190766017415756929120296849762010984873984, 3221225472⟩, ⟨1798102914936216065102883581916836161584506951507932401010269650079347534853372089526894582531826685677928448, 293567822846729153486185074598667128421960318613539983838411371441526128139326055432962374798096087878991872, 7516192768⟩, ⟨14384894991321478210557806493487667482892955504719370716867274000286011120166854481365408553186492997498306560, 2348542582773833227889480596789337027375682548908319870707290971532209025114608443463698998384768703031934976, 17179869183⟩, ⟨115078586555917828166584549242677514341408444896507673664657257605078242230615813729721250920853666448564813824, 18788340662190665823115844774314696219005460391266558965658327772257672200916867547709591987078149624255479808, 34359738367⟩, ⟨18788340662190665823115844774314696219005460391266558965658327772257672200916867547709591987091660423137591296, 2251799813685248, 68719476735⟩]), (1000016, []), (17, [⟨901840351785151959509560549167105418512262098780794830351599733068368265644009642290060415379751463439239741440, 150306725297525326584926758194517569752043683130132471725266622178061377607334940381676735896625196994043838464, 0⟩, ⟨7365029539578741002661411151531360917850140473376491114538064486725007502759412078702160058934634652708148084736, 1202453802380202612679414065556140558016349465041059773802132977424491020858679523053413887173001575952350707712, 1⟩, ⟨57717782514249725408611875146694746784784774321970869142502382916375569001216617106563866584304075927187810680832, 9619630419041620901435312524449124464130795720328478190417063819395928166869436184427311097384012607618805661696, 0⟩, ⟨471361890533039424170330313698007098742408990296095431330436127150400480176602373036938243771816617773321477423104, 76957043352332967211482500195592995713046365762627825523336510555167425334955489475418488779072100860950445293568, 7⟩, ⟨3772097578066695595975321923649612930497288271833804510417291150180628332433677663818559364061705943762524170092544, 615656346818663737691860001564743965704370926101022604186692084441339402679643915803347910232576806887603562348544, 15⟩, ⟨29551504647295859409209280075107710353809804452849085000961220053184291328622907958560699691163686730886445969440768, 4925250774549309901534880012517951725634967408808180833493536675530715221437151326426783281860614455100828498788352, 0⟩, ⟨241337287952916185175209120613379634556113403031600860841183297101005045850420414994912380811170108299940596440629248, 39402006196394479212279040100143613805079739270465446667948293404245721771497210611414266254884915640806627990306816, 47⟩, ⟨1931313959970148145139364824908601820414611595178907909333653068892481706206042963875102394399593443206412375087382528, 315216049571155833698232320801148910440637914163723573343586347233965774171977684891314130039079325126453023922454528, 127⟩, ⟨15130370379415480017515151398455147701150619879858731520492144667230357160254928874783078241875807606070026623254528000, 2521728396569246669585858566409191283525103313309788586748690777871726193375821479130513040312634601011624191379636224, 0⟩, ⟨121042963035323840140121211187641181609204959038869855533930490731672831615416316875718460139649513666129521873929633792, 20173827172553973356686868531273530268200826506478308693989526222973809547006571833044104322501076808092993531037089792, 0⟩, ⟨988517531455144694477656558032402983141840498817437129375480118319546642136698905696614946007195816414128243158768680960, 161390617380431786853494948250188242145606612051826469551916209783790476376052574664352834580008614464743948248296718336, 512⟩, ⟨7908140251641157555821252464259223865134723990539497011413887612799563316759953044430742728625065161590025024304490479616, 1291124939043454294827959586001505937164852896414611756415329678270323811008420597314822676640068915717951585986373746688, 1536⟩, ⟨63267643741525829693239605572640200112361317027629285852937902926023738465605985089905441668403689504780639337523693223936, 10328999512347634358623676688012047497318823171316894051322637426162590488067364778518581413120551325743612687890989973504, 3840⟩, ⟨495791976592686449213936481024578279871303512223210914463486596455804343427233509368891907829786463635693409300242495438848, 82631996098781074868989413504096379978550585370535152410581099409300723904538918228148651304964410605948901503127919788032, 0⟩, ⟨3966335812741491593711491848196626238970428097785687315711262764979828577392201451837012716472496352138364843710827856920576, 661055968790248598951915308032771039828404682964281219284648795274405791236311345825189210439715284847591212025023358304256, 0⟩, ⟨32391742470722181348643850093605780951591829465249779744951160961779277600553589322320148765380253600584786960786282508189696, 5288447750321988791615322464262168318627237463714249754277190362195246329890490766601513683517722278780729696200186866434048, 16384⟩, ⟨259133939765777450789150800748846247612734635721998237959585697740900463994608380940360047946202596303308572685369294406549504, 42307582002575910332922579714097346549017899709713998034217522897561970639123926132812109468141778230245837569601494931472384, 49152⟩, ⟨2073154150122318387388075395404274077281855636361356438829069203079945862040976919426021512590252097692651989811976379561934848, 338460656020607282663380637712778772392143197677711984273740183180495765112991409062496875745134225841966700556811959451779072, 122880⟩, ⟨16584582474009269198140009871602847859262514005031058546307320298481718653127067111427125430092990186807694070896473904127148032, 2707685248164858261307045101702230179137145581421695874189921465443966120903931272499975005961073806735733604454495675614232576, 261888⟩, ⟨129968891911913196542738164881707048598582987908241401961116233711303707197218675413375686163585376927958265831387353117190258688, 21661481985318866090456360813617841433097164651373566993519371723551728967231450179999800047688590453885868835635965404913860608, 0⟩, ⟨1061412617280624438432361679867274230221761067917304782682449217824028052788171033153367088214194766445050625763733864978730450944, 173291855882550928723650886508942731464777317210988535948154973788413831737851601439998400381508723631086950685087723239310884864, 524288⟩, ⟨8491300938244995507458893438938193841774088543338438261459593719002271088548558444893298504571381292127903636386869998864184639488, 1386334847060407429789207092071541851718218537687908287585239790307310653902812811519987203052069789048695605480701785914487078912, 1572864⟩, ⟨66544072658899556629881940419434008882474489809019597804091509938120904720728844927292762632376803708542032115891257284583086882816, 11090678776483259438313656736572334813745748301503266300681918322458485231222502492159897624416558312389564843845614287315896631296, 0⟩, ⟨543443260047679712477369180092044405873541666773660048733413997803835769663296452090168360482288811141293320401252671638616886214656, 88725430211866075506509253892578678509965986412026130405455346579667881849780019937279180995332466499116518750764914298527173050368, 4194304⟩, ⟨4347546080381437699818953440736355246988333334189280389867311982407096203972614806901013245657168312290914061840298372187969430749184, 709803441694928604052074031140629428079727891296209043243642772637343054798240159498233447962659731992932150006119314388217384402944, 12582912⟩, ⟨34781754977898562005981416732982913517758384892051931027226081099020116995767670628224958937373378937442724045905327106808566322823168, 5678427533559428832416592249125035424637823130369672345949142181098744438385921275985867583701277855943457200048954515105739075223552, 33030144⟩, ⟨278242951852097260953271281514171837509483512525259526373203841063759942924876263427238784101337620902303209538132375694676890300186624, 45427420268475430659332737993000283397102585042957378767593137448789955507087370207886940669610222847547657600391636120845912601788416, 67108608⟩, ⟨2225943593155296102622520211228169720156258987906060470052701649154431393190867487420425866982878604421149352458269495047902741410086912, 363419362147803445274661903944002267176820680343659030140745099590319644056698961663095525356881782780381260803133088966767300814307328, 134217727⟩, ⟨17807548745242368818458433293256111091664213336839292476896509879925662558778249121491680742487207356238681779353521359371597739901059072, 2907354897182427562197295231552018137414565442749272241125960796722557152453591693304764202855054262243050086425064711734138406514458624, 268435455⟩, ⟨2907354897182427562197295231552018137414565442749272241125960796722557152453591693304764202855054262243050086425064711842224797571350528, 18014398509481984, 536870911⟩]), (1000017, []), (18, [⟨139553035064756522985470171114496870595899141251965067574046118242682743317772401278628681737042604587666404148403106163240895312507699200, 23258839177459420497578361852416145099316523541994177929007686373780457219628733546438113622840434097944400691400517693873107252115668992, 0⟩, ⟨1116424280518052183883761368915974964767193130015720540592368945941461946542179210229029453896340836701331233187224849305927162500061593600, 186070713419675363980626894819329160794532188335953423432061490990243657757029868371504908982723472783555205531204141550984858016925351936, 0⟩, ⟨9140723796741552255548296207999545024031393752003711926100020744895719687314092283750178653776290600492149471720403453692131150081457913856, 1488565707357402911845015158554633286356257506687627387456491927921949262056238946972039271861787782268441644249633132407878864135402815488, 3⟩, ⟨72939719660512742680405742769177031031456617827693741985368104468175513840755708401629924321227601331153640568232023487986064342634737958912, 11908525658859223294760121268437066290850060053501019099651935423375594096449911575776314174894302258147533153997065059263030913083222523904, 7⟩, ⟨571609231625242718148485820884979181960802882568048916783292900322028516632965748970656910369259885276959045226063765897443055388682388242432, 95268205270873786358080970147496530326800480428008152797215483387004752771599292606210513399154418065180265231976520474104247304665780191232, 0⟩, ⟨4668142058272815531545967537227329986013223540972399487063558685963232885811735331037708986532899862079710450201054146283925689488761180651520, 762145642166990290864647761179972242614403843424065222377723867096038022172794340849684107193235344521442121855812163792833978437326241529856, 16⟩, ⟨37345136466182524252367740297818639888105788327779195896508469487705863086470292694967915082442865258436541424769000668901682514989123786244096, 6097165137335922326917182089439777940915230747392521779021790936768304177382354726797472857545882756171536974846497310342671827498609932238848, 48⟩, ⟨292663926592124271692024740293109341163931075874841045393045964964878600514356396879612090992176705673119652246466075539501065291493964454559744, 48777321098687378615337456715518223527321845979140174232174327494146433419058837814379782860367062049372295798771978482741374619988879457910784, 0⟩, ⟨2390088733835681552151535379060392952838770452977868537376542047213175237533886422897942753987960373796128371593661150297380173951015231388909568, 390218568789499028922699653724145788218574767833121393857394619953171467352470702515038262882936496394978366390175827861930996959911035663286272, 128⟩, ⟨19120709870685452417212283032483143622710163623822948299012336377705401900271067793230208275093862656730825830572449769877671668607200885452308480, 3121748550315992231381597229793166305748598142664971150859156959625371738819765620120306103063491971159826931121406622895447975679288285306290176, 384⟩, ⟨149843930415167627106316667030071982675932710847918615241239534062017843463348753135768026340877588949048578571281352103624555650177398382409023488, 24973988402527937851052777838345330445988785141319769206873255677002973910558124960962448824507935769278615448971252983163583805434306282450321408, 0⟩, ⟨1223725431723868954701586114078921191853450471924668691136789528173145721617348126457153325794718827028029042877045230379658659283852567978017030144, 199791907220223502808422222706762643567910281130558153654986045416023791284464999687699590596063486154228923591770023865308670443474450259602571264, 1024⟩, ⟨9789803453790951637612688912631369534827603775397349529094316225385165772938784988067273272600940795890594141874185003604767904547819622858477273088, 1598335257761788022467377781654101148543282249044465229239888363328190330275719997501596724768507889233831388734160190922469363547795602076820570112, 3072⟩, ⟨76720092372565825078434133519396855130077547954134331003514641439753135853234559883446636122282208657557283545117142998483172503111760460375094460416, 12786682062094304179739022253232809188346257992355721833919106906625522642205759980012773798148063113870651109873281527379754908382364816614564560896, 0⟩, ⟨626547421042620904807212090408407650228966641625430369862036238424650609468082239023995909442648922553995281269668248675812633563553447574251614765056, 102293456496754433437912178025862473506770063938845774671352855253004181137646079840102190385184504910965208878986252219038039267058918532916516487168, 8192⟩, ⟨5012379368340967238457696723267261201831733133003442958896289907397204875744657912168377322207434570611628611956203812567068567138704579673047259152384, 818347651974035467503297424206899788054160511510766197370822842024033449101168638720817523081476039287721671031890017752304314136471348263332131897344, 24576⟩, ⟨39280687294753702440158276361931189826599704552516777473799496417153605556856094658599241107910849885810640209530720852110607078550624718891742144757760, 6546781215792283740026379393655198304433284092086129578966582736192267592809349109766540184651808314301773368255120142018434513091770786106657055178752, 0⟩, ⟨321610627225795938728795887713311616705285081023731115566733376915445145496759275017281286571020083440074616715532776976655595455633239867489527835656192, 52374249726338269920211035149241586435466272736689036631732661889538140742474792878132321477214466514414186946040961136147476104734166288853256441430016, 122880⟩, ⟨2566338236590575226090340722312837735337847364097762794954900432587368896381264851028483752383508859206295160356007095671226329131974148153809565630070784, 418993997810706159361688281193932691483730181893512293053861295116305125939798343025058571817715732115313495568327689089179808837873330310826051531440128, 253967⟩, ⟨20111711894913895649361037497308769191219048730888590066585342165582646045110320465202814817243688535365022120656614953734465028860972672491211161216221184, 3351951982485649274893506249551461531869841455148098344430890360930441007518386744200468574541725856922507964546621512713438470702986642486608412251521024, 0⟩, ⟨164245647141796814469781806228021615061622231302256818877113627685591609368400950465822963522537900383032864596161340000412319269089398299415372338275811328, 26815615859885194199148049996411692254958731641184786755447122887443528060147093953603748596333806855380063716372972101707507765623893139892867298012168192, 524288⟩, ⟨1313965177134374515758254449824172920492977850418054551016909021484732874947207603726583684590349869307453096435652518861121714720213816672322057740547522560, 214524926879081553593184399971293538039669853129478294043576983099548224481176751628829988770670454843040509730983776813660062124991145119142938384097345536, 1572864⟩, ⟨10297196490195914572472851198622089825904152950214958114091695188778314775096484078183839464362175165859774441420598172933136816204218018536432603124379680768, 1716199415032652428745475199770348304317358825035826352348615864796385795849414013030639910165363638744324077847870214509280496999929160953143507072778764288, 0⟩, ⟨84093771336599969008528284788747066911550582426755491265082177375022903996621286638501355601472811631865709788879017396832198187201171939521603406704110731264, 13729595320261219429963801598162786434538870600286610818788926918371086366795312104245119281322909109954592622782961716074243975999433287625148056582230114304, 4194304⟩, ⟨672750170692799752068226278309976535292404659414043930120657419000183231972970293108010844788192539721168868490698500973515408658176874146449826332667226882048, 109836762562089755439710412785302291476310964802292886550311415346968690934362496833960954250583272879636740982263693728593951807995466301001184452657840914432, 12582912⟩, ⟨5272164602980308261106099813694509990862926310510058554414947936654497164849399848030125804031367091555957397122990675858387140617987025500874425288264070987776, 878694100496718043517683302282418331810487718418343092402491322775749527474899974671687634004666183037093927858109549828751614463963730408009475621262727315456, 0⟩, ⟨43056010924339184132366481811838498258713898202498811527722074816011726846270098758912694066232012962150996295021701318494706562568427433045281877002011589738496, 7029552803973744348141466418259346654483901747346744739219930582205996219799199797373501072037329464296751422864876398630012915711709843264075804970101818523648, 33554432⟩, ⟨344448087394713473058931854494707986069711185619990492221776598528093814770160790071301552529832513743874213550353276909756510323707986962992532015095127058939904, 56236422431789954785131731346074773235871213978773957913759444657647969758393598378988008576298635714374011382919011189040103325693678746112606439760814548189184, 100663296⟩, ⟨2755694750864192352582269684683546923646227353183332606070622704208588295062392020871690047359173002120780890402939020558443509449638227595050624519799061612593152, 2249456897271598191405269253842990929434848559150958316550377786305918790335743935159520343051945428574960455316760447561604133027747149844504257590432581927567360, 268435455⟩, ⟨2249456897271598191405269253842990929434848559150958316550377786305918790335743935159520343051945428574960455316760447561604133027747149844504257590435880462450688, 549755813888, 536870911⟩]), (1000018, []), (23, [⟨4052261297823796930379028179829060997027504575805120126255519433566095471307424928024529903708174644230919626008101591975716292336920184901372138532515076278413783283595395203072, 14742040721959145907193572581985425355144223517251720423344555860334469384344331453461432520225229560708860839963921269139728846210643721220943102544658968920505450496, 0⟩, ⟨707617954654039003545291483935300417046922728828082580320538681296054530448527909766148760970811018914025320318268220918706984618110898618605268922143630508184261623809, 117936325775673167257548580655883402841153788138013763386756446882675755074754651627691460161801836485670886719711370153117830769685149769767544820357271751364043603968, 0⟩, ⟨5660943637232312028362331871482403336375381830624660642564309450368436243588223278129190087766488151312202562546145767349655876944887188948842151377150196986978699837440, 943490606205385338060388645247067222729230305104110107094051575061406040598037213021531681294414691885367093757690961224942646157481198158140358562858174010912348831744, 0⟩, ⟨46348976029839554732216592197762177316573438738239409010995283624891571744378578089682743843588121738868658480846568470175307492486263859518645114400407798286069136359424, 7547924849643082704483109161976537781833842440832880856752412600491248324784297704172253450355317535082936750061527689799541169259849585265122868502865392087298790653952, 6⟩, ⟨369848317632511052519672348936850351309858279600811161980868217424071167914430587504440419067410559219063900753014856800177517293732629677991020556640404212277640742043648, 60383398797144661635864873295812302254670739526663046854019300803929986598274381633378027602842540280663494000492221518396329354078796682120982948022923136698390325231616, 14⟩, ⟨2898403142262943758521513918198990508224195497279826248992926438588639356717170318402145324936441933471847712023626632883023808995782240741807181505100310561523285366931456, 483067190377157293086918986366498418037365916213304374832154406431439892786195053067024220822740322245307952003937772147170634832630373456967863584183385093587122601852928, 0⟩, ⟨23187225138103550068172111345591924065793563978238609991943411508709114853737362547217162599491535467774781696189013063064190471966257925934457452040802485645103389495787520, 3864537523017258344695351890931987344298927329706434998657235251451519142289560424536193766581922577962463616031502177177365078661042987655742908673467080748696980814823424, 0⟩, ⟨189845405818222816183159161642033878288684805071828619309036681727555877864974655855340518783336946642406025137547544453838059489223736768588370388584070341779739182528200704, 30916300184138066757562815127455898754391418637651479989257882011612153138316483396289550132655380623699708928252017417418920629288343901245943269387736645989575846518587392, 96⟩, ⟨1514898709022765271120577941245339038965179513244922519473636218568995503777507686418187956500113650561285737484348853453527110835128851161051220199999095653489216479410782208, 247330401473104534060502521019647190035131349101211839914063056092897225106531867170316401061243044989597671426016139339351365034306751209967546155101893167916606772148699136, 224⟩, ⟨12119250055580919313626259394836008124023690776698906818835943767852767960206659765727137030028512047030566563368791319849735283010384888085091882582940788151050430225611489280, 1978643211784836272484020168157177520281050792809694719312504448743177800852254937362531208489944359916781371408129114714810920274454009679740369240815145343332854177189593088, 510⟩, ⟨96953517377456977351716988239701698493771488847675041246312717988415712241760491930764029216007273635922287198998326621025735093448246474307278092799942121823309854682290061312, 15829145694278690179872161345257420162248406342477557754500035589945422406818039498900249667919554879334250971265032917718487362195632077437922953926521162746662833417516744704, 1022⟩, ⟨775628139019655818813735905917613587950171910781400329970501743907325697934083935446112233728058189087378297591986612968205880747585971794458224742399536974586478837458320490496, 633165827771147607194886453810296806489936253699102310180001423597816896272721579956009986716782195173370038850601316708739494487825283097516918157060846509866513336700669788160, 2046⟩, ⟨6711557774388906676987755556296339721375309714565628711425266810560203656351183216918050190651352701357947641377082817952602562840087729679889976186065916107129700337947605204992, 5065326622169180857559091630482374451919490029592818481440011388782535170181772639648079893734257561386960310804810533669915955902602264780135345256486772078932106693605358305280, 4095⟩, ⟨5065326622169180857559091630482374451919490029592818481440011388782535170181772639648079893734257561386960310804810533669915955902602264780135345256486772078932971384733813440512, 144115188075855872, 8191⟩]), (1000023, [])]
theorem r12rolled_dr : drB r12rolled_dh (bodyOf Tryd.f24) = true := by kernel_rfl
theorem r12rolled_eq2 (n : Nat) : ∀ rec p, r12rolled_F2 n rec p = round Tryd.prog 198 (r12rolled_ct n) (r12rolled_lts n) r12rolled_dh 3 r12rolled_sh2 r12rolled_outs2 (bodyAt 0 2 (bodyOf Tryd.f24)) rec p := by intro rec p; kernel_rfl
theorem r12rolled_eq1 (n : Nat) : ∀ rec p, r12rolled_F1 n rec p = round Tryd.prog 198 (r12rolled_ct n) (r12rolled_lts n) r12rolled_dh 2 r12rolled_sh1 r12rolled_outs1 (bodyAt 0 1 (bodyOf Tryd.f24)) rec p := by intro rec p; kernel_rfl
theorem r12rolled_eq0 (n : Nat) : ∀ rec p, r12rolled_F0 n rec p = round Tryd.prog 198 (r12rolled_ct n) (r12rolled_lts n) r12rolled_dh 1 r12rolled_sh0 r12rolled_outs0 (bodyAt 0 0 (bodyOf Tryd.f24)) rec p := by intro rec p; kernel_rfl
theorem r12rolled_lok2 (n : Nat) {F : Fr} (hF : F.n = 198) (hK : Know Inv F.G) : LCok Tryd.prog F (r12rolled_L2 n) (bodyAt 0 2 (bodyOf Tryd.f24)) :=
  loop_ok hF (by kernel_rfl) (r12rolled_ctok n hK) (r12rolled_eq2 n) (fuel := n) (fun _ => rfl) (lok_of fun j L h1 h2 h3 => absurd h2 (Nat.not_lt.2 (Nat.le_trans (by decide +kernel) h1))) (drB_at r12rolled_dr)
theorem r12rolled_lok1 (n : Nat) {F : Fr} (hF : F.n = 198) (hK : Know Inv F.G) : LCok Tryd.prog F (r12rolled_L1 n) (bodyAt 0 1 (bodyOf Tryd.f24)) :=
  loop_ok hF (by kernel_rfl) (r12rolled_ctok n hK) (r12rolled_eq1 n) (fuel := n) (fun _ => rfl) (lok_of fun j L h1 h2 h3 => absurd h2 (Nat.not_lt.2 (Nat.le_trans (by decide +kernel) h1))) (drB_at r12rolled_dr)
theorem r12rolled_lok0 (n : Nat) {F : Fr} (hF : F.n = 198) (hK : Know Inv F.G) : LCok Tryd.prog F (r12rolled_L0 n) (bodyAt 0 0 (bodyOf Tryd.f24)) :=
  loop_ok hF (by kernel_rfl) (r12rolled_ctok n hK) (r12rolled_eq0 n) (fuel := n) (fun _ => rfl) (lok_of fun j L h1 h2 h3 => absurd h2 (Nat.not_lt.2 (Nat.le_trans (by decide +kernel) h1))) (drB_at r12rolled_dr)
theorem r12rolled_eq (n : Nat) : ∀ a, (r12rolled_fc n).F a = main Tryd.prog 198 (r12rolled_ct n) (r12rolled_lts n) r12rolled_dh (bodyOf Tryd.f24) [.tmp 6] (r12rolled_fc n).args (r12rolled_fc n).res a := by intro a; kernel_rfl
theorem r12rolled_ok (n : Nat) : FCall Inv Tryd.prog (r12rolled_fc n) := fun G hG => ⟨⟨by kernel_rfl, fun a r h => main_ok (c := bodyOf Tryd.f24) Tryd.func24 (by kernel_rfl) (by kernel_rfl) (Nat.le_of_ble_eq_true (by kernel_rfl)) hG.st (by kernel_rfl) (rs := [.tmp 6]) (by kernel_rfl) (r12rolled_ctok n hG) (lts := r12rolled_lts n) (fun F hF hFG => have hK : Know Inv F.G := hFG ▸ hG; (lok_of (c := (bodyOf Tryd.f24)) (fun j L h1 h2 h3 => by
    have h2' : j < 3 := Nat.lt_of_lt_of_le h2 (by decide +kernel)
    match j, h1, h2', h3 with
    | 0, _, _, h3 => obtain rfl := Option.some.inj h3; exact (show bodyAt 0 0 (bodyOf Tryd.f24) = bodyAt 0 0 (bodyOf Tryd.f24) by kernel_rfl) ▸ r12rolled_lok0 n hF hK
    | 1, _, _, h3 => obtain rfl := Option.some.inj h3; exact (show bodyAt 0 1 (bodyOf Tryd.f24) = bodyAt 0 1 (bodyOf Tryd.f24) by kernel_rfl) ▸ r12rolled_lok1 n hF hK
    | 2, _, _, h3 => obtain rfl := Option.some.inj h3; exact (show bodyAt 0 2 (bodyOf Tryd.f24) = bodyAt 0 2 (bodyOf Tryd.f24) by kernel_rfl) ▸ r12rolled_lok2 n hF hK
    | j + 3, _, h2', _ => exact absurd h2' (by omega)))) r12rolled_dr ((r12rolled_eq n a).symm.trans h)⟩, rfl⟩
/-! armada/armadaref12.Block -/
def r12Block_lts (n : Nat) : List LC := []
def r12Block_t (n : Nat) (a1 : List UInt8) (a2 : List UInt8) : Option ((List UInt8) × (Bool)) :=
  (bif !decide (((List.length a1 : Nat) : Int) = (32 : Int)) then some (([] : List UInt8), false) else (bif !decide (((List.length a2 : Nat) : Int) = (64 : Int)) then some (([] : List UInt8), false) else (r12Words_t n a1).bind fun (r1 : List (Int)) => (r12Words_t n a2).bind fun (r2 : List (Int)) => (r12K_t n ).bind fun (r3 : List (Int)) => (r12rolled_t n r1 r2 r3).bind fun (r4 : List (Int)) => (r12Bytes_t n r4).bind fun (r5 : List UInt8) => some (r5, true)))
def r12Block_fc (n : Nat) : FC := { f := 10, args := [.one (.c (.d .str)), .one (.c (.d .str))], res := .tup [.c (.d .str), .c (.d .bool)], F := fun p => r12Block_t n p.1 p.2 }
def r12Block_ct (n : Nat) : List FC := [r12Words_fc n, r12K_fc n, r12rolled_fc n, r12Bytes_fc n]
theorem r12Block_ctok (n : Nat) {G : World → Prop} (hG : Know Inv G) : ∀ c ∈ r12Block_ct n, FCok Tryd.prog G c ∧ noTup c.args = true := List.forall_mem_cons.2 ⟨r12Words_ok n G hG, List.forall_mem_cons.2 ⟨r12K_ok n G hG, List.forall_mem_cons.2 ⟨r12rolled_ok n G hG, List.forall_mem_cons.2 ⟨r12Bytes_ok n G hG, (fun _ h => by cases h)⟩⟩⟩⟩
def r12Block_dh : Hints := []
theorem r12Block_dr : drB r12Block_dh (bodyOf Tryd.f10) = true := by kernel_rfl
theorem r12Block_eq (n : Nat) : ∀ a, (r12Block_fc n).F a = main Tryd.prog 21 (r12Block_ct n) (r12Block_lts n) r12Block_dh (bodyOf Tryd.f10) [.tmp 4, .tmp 5] (r12Block_fc n).args (r12Block_fc n).res a := by intro a; kernel_rfl
theorem r12Block_ok (n : Nat) : FCall Inv Tryd.prog (r12Block_fc n) := fun G hG => ⟨⟨by kernel_rfl, fun a r h => main_ok (c := bodyOf Tryd.f10) Tryd.func10 (by kernel_rfl) (by kernel_rfl) (Nat.le_of_ble_eq_true (by kernel_rfl)) hG.st (by kernel_rfl) (rs := [.tmp 4, .tmp 5]) (by kernel_rfl) (r12Block_ctok n hG) (lts := r12Block_lts n) (fun F hF hFG => have hK : Know Inv F.G := hFG ▸ hG; (lok_of fun j L h1 h2 h3 => absurd h2 (Nat.not_lt.2 (Nat.le_trans (by decide +kernel) h1)))) r12Block_dr ((r12Block_eq n a).symm.trans h)⟩, rfl⟩
/-! armada/armadaref12.Pad -/
@[reducible] def r12Pad_sh1 : SSt := ⟨[(0, .one (.c (.d (.int .i64)))), (3, .one (.c (.row 11))), (4, .one (.c (.d (.int .i64))))], [], [(11, ⟨5, true, (.int .u8)⟩)]⟩
@[reducible] def r12Pad_outs1 : List (Exit × SSt) := [(.exit 2, ⟨[(3, .one (.c (.row 11)))], [], [(11, ⟨5, true, (.int .u8)⟩)]⟩)]
def r12Pad_l1 (n : Nat) (rec : Int → Int → (List (Int)) → Option ((Unit × (Unit)) × (Unit) × ((List (Int)) × (Unit)))) (a1 : Int) (a2 : Int) (a3 : List (Int)) : Option ((Unit × (Unit)) × (Unit) × ((List (Int)) × (Unit))) :=
  (bif decide ((0 : Int) ≤ a2) then letO (IntKind.wrap .i64 ((8 : Int) * a1)) fun (n6 : Int) => letO (IntKind.wrap .i64 ((8 : Int) * a2)) fun (n7 : Int) => (shrO .i64 n6 n7).bind fun (n8 : Int) => letO (andI .i64 n8 (255 : Int)) fun (n9 : Int) => letO (IntKind.wrap .u8 n9) fun (n10 : Int) => (appO 1 a3 ([n10] : List (Int))).bind fun (l11 : List (Int)) => letO (IntKind.wrap .i64 (a2 - (1 : Int))) fun (n12 : Int) => rec a1 n12 l11 else some ((((), ()), ((), (a3, ())))))
def r12Pad_F1 (n : Nat) (rec : pSt r12Pad_sh1 → Option (pOuts r12Pad_outs1)) (p : pSt r12Pad_sh1) : Option (pOuts r12Pad_outs1) := r12Pad_l1 n (fun a1 a2 a3 => rec ((a1, ((), (a2, ()))), ((), (a3, ())))) p.1.1 p.1.2.2.1 p.2.2.1
def r12Pad_loop1 (n m : Nat) (a1 : Int) (a2 : Int) (a3 : List (Int)) : Option ((Unit × (Unit)) × (Unit) × ((List (Int)) × (Unit))) := iterF (r12Pad_F1 n) m ((a1, ((), (a2, ()))), ((), (a3, ())))
theorem r12Pad_loop1_succ (n m : Nat) (a1 : Int) (a2 : Int) (a3 : List (Int)) : r12Pad_loop1 n (m + 1) a1 a2 a3 = r12Pad_l1 n (fun a1 a2 a3 => r12Pad_loop1 n m a1 a2 a3) a1 a2 a3 := rfl
def r12Pad_L1 (n : Nat) : LC := { sh := r12Pad_sh1, outs := r12Pad_outs1, F := iterF (r12Pad_F1 n) n }
@[reducible] def r12Pad_sh0 : SSt := ⟨[(0, .one (.c (.d (.int .i64)))), (3, .one (.c (.row 11)))], [], [(11, ⟨5, true, (.int .u8)⟩)]⟩
@[reducible] def r12Pad_outs0 : List (Exit × SSt) := [(.exit 0, ⟨[(0, .one (.c (.d (.int .i64)))), (3, .one (.c (.row 11)))], [], [(11, ⟨5, true, (.int .u8)⟩)]⟩)]
def r12Pad_l0 (n : Nat) (rec : Int → (List (Int)) → Option ((Int × (Unit × (Unit))) × (Unit) × ((List (Int)) × (Unit)))) (a1 : Int) (a2 : List (Int)) : Option ((Int × (Unit × (Unit))) × (Unit) × ((List (Int)) × (Unit))) :=
  letO (IntKind.wrap .i64 (a1 + ((List.length a2 : Nat) : Int))) fun (n1 : Int) => letO (IntKind.wrap .i64 (n1 + (8 : Int))) fun (n2 : Int) => (remO n2 (64 : Int)).bind fun (n3 : Int) => (bif !decide (n3 = (0 : Int)) then (appO 1 a2 ([(0 : Int)] : List (Int))).bind fun (l4 : List (Int)) => rec a1 l4 else some (((a1, ((), ())), ((), (a2, ())))))
def r12Pad_F0 (n : Nat) (rec : pSt r12Pad_sh0 → Option (pOuts r12Pad_outs0)) (p : pSt r12Pad_sh0) : Option (pOuts r12Pad_outs0) := r12Pad_l0 n (fun a1 a2 => rec ((a1, ((), ())), ((), (a2, ())))) p.1.1 p.2.2.1
def r12Pad_loop0 (n m : Nat) (a1 : Int) (a2 : List (Int)) : Option ((Int × (Unit × (Unit))) × (Unit) × ((List (Int)) × (Unit))) := iterF (r12Pad_F0 n) m ((a1, ((), ())), ((), (a2, ())))
theorem r12Pad_loop0_succ (n m : Nat) (a1 : Int) (a2 : List (Int)) : r12Pad_loop0 n (m + 1) a1 a2 = r12Pad_l0 n (fun a1 a2 => r12Pad_loop0 n m a1 a2) a1 a2 := rfl
def r12Pad_L0 (n : Nat) : LC := { sh := r12Pad_sh0, outs := r12Pad_outs0, F := iterF (r12Pad_F0 n) n }
def r12Pad_lts (n : Nat) : List LC := [r12Pad_L0 n, r12Pad_L1 n]
def r12Pad_t (n : Nat) (a1 : Int) : Option (List UInt8) :=
  (bif decide (a1 < (0 : Int)) then some ([] : List UInt8) else (bif decide ((1099511627776 : Int) < a1) then some ([] : List UInt8) else (r12Pad_loop0 n n a1 ([(128 : Int)] : List (Int))).bind fun (o5 : (Int × (Unit × (Unit))) × (Unit) × ((List (Int)) × (Unit))) => (r12Pad_loop1 n n o5.1.1 (7 : Int) o5.2.2.1).bind fun (o13 : (Unit × (Unit)) × (Unit) × ((List (Int)) × (Unit))) => some (List.map (fun n : Int => UInt8.ofNat n.toNat) o13.2.2.1)))
def r12Pad_fc (n : Nat) : FC := { f := 16, args := [.one (.c (.d (.int .i64)))], res := .one (.c (.d .str)), F := fun p => r12Pad_t n p }
def r12Pad_ct (n : Nat) : List FC := []
theorem r12Pad_ctok (n : Nat) {G : World → Prop} (hG : Know Inv G) : ∀ c ∈ r12Pad_ct n, FCok Tryd.prog G c ∧ noTup c.args = true := (fun _ h => by cases h)
def r12Pad_dh : Hints := []
theorem r12Pad_dr : drB r12Pad_dh (bodyOf Tryd.f16) = true := by kernel_rfl
theorem r12Pad_eq1 (n : Nat) : ∀ rec p, r12Pad_F1 n rec p = round Tryd.prog 38 (r12Pad_ct n) (r12Pad_lts n) r12Pad_dh 2 r12Pad_sh1 r12Pad_outs1 (bodyAt 0 1 (bodyOf Tryd.f16)) rec p := by intro rec p; kernel_rfl
theorem r12Pad_eq0 (n : Nat) : ∀ rec p, r12Pad_F0 n rec p = round Tryd.prog 38 (r12Pad_ct n) (r12Pad_lts n) r12Pad_dh 1 r12Pad_sh0 r12Pad_outs0 (bodyAt 0 0 (bodyOf Tryd.f16)) rec p := by intro rec p; kernel_rfl
theorem r12Pad_lok1 (n : Nat) {F : Fr} (hF : F.n = 38) (hK : Know Inv F.G) : LCok Tryd.prog F (r12Pad_L1 n) (bodyAt 0 1 (bodyOf Tryd.f16)) :=
  loop_ok hF (by kernel_rfl) (r12Pad_ctok n hK) (r12Pad_eq1 n) (fuel := n) (fun _ => rfl) (lok_of fun j L h1 h2 h3 => absurd h2 (Nat.not_lt.2 (Nat.le_trans (by decide +kernel) h1))) (drB_at r12Pad_dr)
theorem r12Pad_lok0 (n : Nat) {F : Fr} (hF : F.n = 38) (hK : Know Inv F.G) : LCok Tryd.prog F (r12Pad_L0 n) (bodyAt 0 0 (bodyOf Tryd.f16)) :=
  loop_ok hF (by kernel_rfl) (r12Pad_ctok n hK) (r12Pad_eq0 n) (fuel := n) (fun _ => rfl) (lok_of fun j L h1 h2 h3 => absurd h2 (Nat.not_lt.2 (Nat.le_trans (by decide +kernel) h1))) (drB_at r12Pad_dr)
theorem r12Pad_eq (n : Nat) : ∀ a, (r12Pad_fc n).F a = main Tryd.prog 38 (r12Pad_ct n) (r12Pad_lts n) r12Pad_dh (bodyOf Tryd.f16) [.tmp 2] (r12Pad_fc n).args (r12Pad_fc n).res a := by intro a; kernel_rfl
theorem r12Pad_ok (n : Nat) : FCall Inv Tryd.prog (r12Pad_fc n) := fun G hG => ⟨⟨by kernel_rfl, fun a r h => main_ok (c := bodyOf Tryd.f16) Tryd.func16 (by kernel_rfl) (by kernel_rfl) (Nat.le_of_ble_eq_true (by kernel_rfl)) hG.st (by kernel_rfl) (rs := [.tmp 2]) (by kernel_rfl) (r12Pad_ctok n hG) (lts := r12Pad_lts n) (fun F hF hFG => have hK : Know Inv F.G := hFG ▸ hG; (lok_of (c := (bodyOf Tryd.f16)) (fun j L h1 h2 h3 => by
    have h2' : j < 2 := Nat.lt_of_lt_of_le h2 (by decide +kernel)
    match j, h1, h2', h3 with
    | 0, _, _, h3 => obtain rfl := Option.some.inj h3; exact (show bodyAt 0 0 (bodyOf Tryd.f16) = bodyAt 0 0 (bodyOf Tryd.f16) by kernel_rfl) ▸ r12Pad_lok0 n hF hK
    | 1, _, _, h3 => obtain rfl := Option.some.inj h3; exact (show bodyAt 0 1 (bodyOf Tryd.f16) = bodyAt 0 1 (bodyOf Tryd.f16) by kernel_rfl) ▸ r12Pad_lok1 n hF hK
    | j + 2, _, h2', _ => exact absurd h2' (by omega)))) r12Pad_dr ((r12Pad_eq n a).symm.trans h)⟩, rfl⟩
/-! armada/armadaref12.Of -/
@[reducible] def r12Of_sh0 : SSt := ⟨[(3, .one (.c (.d (.lst (.int .i64))))), (4, .one (.c (.d (.lst (.int .i64))))), (5, .one (.c (.d .str))), (6, .one (.c (.d (.int .i64))))], [], []⟩
@[reducible] def r12Of_outs0 : List (Exit × SSt) := [(.exit 0, ⟨[(3, .one (.c (.d (.lst (.int .i64)))))], [], []⟩)]
def r12Of_l0 (n : Nat) (rec : (List (Int)) → (List (Int)) → (List UInt8) → Int → Option (((List (Int)) × (Unit)) × (Unit) × (Unit))) (a1 : List (Int)) (a2 : List (Int)) (a3 : List UInt8) (a4 : Int) : Option (((List (Int)) × (Unit)) × (Unit) × (Unit)) :=
  (bif decide (a4 < ((List.length a3 : Nat) : Int)) then letO (IntKind.wrap .i64 (a4 + (64 : Int))) fun (n5 : Int) => (subO a3 a4 n5).bind fun (s6 : List UInt8) => (r12Words_t n s6).bind fun (r7 : List (Int)) => (r12rolled_t n a1 r7 a2).bind fun (r8 : List (Int)) => letO (IntKind.wrap .i64 (a4 + (64 : Int))) fun (n9 : Int) => rec r8 a2 a3 n9 else some (((a1, ()), ((), ()))))
def r12Of_F0 (n : Nat) (rec : pSt r12Of_sh0 → Option (pOuts r12Of_outs0)) (p : pSt r12Of_sh0) : Option (pOuts r12Of_outs0) := r12Of_l0 n (fun a1 a2 a3 a4 => rec ((a1, (a2, (a3, (a4, ())))), ((), ()))) p.1.1 p.1.2.1 p.1.2.2.1 p.1.2.2.2.1
def r12Of_loop0 (n m : Nat) (a1 : List (Int)) (a2 : List (Int)) (a3 : List UInt8) (a4 : Int) : Option (((List (Int)) × (Unit)) × (Unit) × (Unit)) := iterF (r12Of_F0 n) m ((a1, (a2, (a3, (a4, ())))), ((), ()))
theorem r12Of_loop0_succ (n m : Nat) (a1 : List (Int)) (a2 : List (Int)) (a3 : List UInt8) (a4 : Int) : r12Of_loop0 n (m + 1) a1 a2 a3 a4 = r12Of_l0 n (fun a1 a2 a3 a4 => r12Of_loop0 n m a1 a2 a3 a4) a1 a2 a3 a4 := rfl
def r12Of_L0 (n : Nat) : LC := { sh := r12Of_sh0, outs := r12Of_outs0, F := iterF (r12Of_F0 n) n }
def r12Of_lts (n : Nat) : List LC := [r12Of_L0 n]
def r12Of_t (n : Nat) (a1 : List UInt8) : Option (List UInt8) :=
  (r12H_t n ).bind fun (r1 : List (Int)) => (r12K_t n ).bind fun (r2 : List (Int)) => (r12Pad_t n ((List.length a1 : Nat) : Int)).bind fun (r3 : List UInt8) => (catO a1 r3).bind fun (s4 : List UInt8) => (r12Of_loop0 n n r1 r2 s4 (0 : Int)).bind fun (o10 : ((List (Int)) × (Unit)) × (Unit) × (Unit)) => (r12Bytes_t n o10.1.1).bind fun (r11 : List UInt8) => some r11
def r12Of_fc (n : Nat) : FC := { f := 12, args := [.one (.c (.d .str))], res := .one (.c (.d .str)), F := fun p => r12Of_t n p }
def r12Of_ct (n : Nat) : List FC := [r12H_fc n, r12K_fc n, r12Pad_fc n, r12Words_fc n, r12rolled_fc n, r12Bytes_fc n]
theorem r12Of_ctok (n : Nat) {G : World → Prop} (hG : Know Inv G) : ∀ c ∈ r12Of_ct n, FCok Tryd.prog G c ∧ noTup c.args = true := List.forall_mem_cons.2 ⟨r12H_ok n G hG, List.forall_mem_cons.2 ⟨r12K_ok n G hG, List.forall_mem_cons.2 ⟨r12Pad_ok n G hG, List.forall_mem_cons.2 ⟨r12Words_ok n G hG, List.forall_mem_cons.2 ⟨r12rolled_ok n G hG, List.forall_mem_cons.2 ⟨r12Bytes_ok n G hG, (fun _ h => by cases h)⟩⟩⟩⟩⟩⟩
def r12Of_dh : Hints := []
theorem r12Of_dr : drB r12Of_dh (bodyOf Tryd.f12) = true := by kernel_rfl
theorem r12Of_eq0 (n : Nat) : ∀ rec p, r12Of_F0 n rec p = round Tryd.prog 31 (r12Of_ct n) (r12Of_lts n) r12Of_dh 1 r12Of_sh0 r12Of_outs0 (bodyAt 0 0 (bodyOf Tryd.f12)) rec p := by intro rec p; kernel_rfl
theorem r12Of_lok0 (n : Nat) {F : Fr} (hF : F.n = 31) (hK : Know Inv F.G) : LCok Tryd.prog F (r12Of_L0 n) (bodyAt 0 0 (bodyOf Tryd.f12)) :=
  loop_ok hF (by kernel_rfl) (r12Of_ctok n hK) (r12Of_eq0 n) (fuel := n) (fun _ => rfl) (lok_of fun j L h1 h2 h3 => absurd h2 (Nat.not_lt.2 (Nat.le_trans (by decide +kernel) h1))) (drB_at r12Of_dr)
theorem r12Of_eq (n : Nat) : ∀ a, (r12Of_fc n).F a = main Tryd.prog 31 (r12Of_ct n) (r12Of_lts n) r12Of_dh (bodyOf Tryd.f12) [.tmp 2] (r12Of_fc n).args (r12Of_fc n).res a := by intro a; kernel_rfl
theorem r12Of_ok (n : Nat) : FCall Inv Tryd.prog (r12Of_fc n) := fun G hG => ⟨⟨by kernel_rfl, fun a r h => main_ok (c := bodyOf Tryd.f12) Tryd.func12 (by kernel_rfl) (by kernel_rfl) (Nat.le_of_ble_eq_true (by kernel_rfl)) hG.st (by kernel_rfl) (rs := [.tmp 2]) (by kernel_rfl) (r12Of_ctok n hG) (lts := r12Of_lts n) (fun F hF hFG => have hK : Know Inv F.G := hFG ▸ hG; (lok_of (c := (bodyOf Tryd.f12)) (fun j L h1 h2 h3 => by
    have h2' : j < 1 := Nat.lt_of_lt_of_le h2 (by decide +kernel)
    match j, h1, h2', h3 with
    | 0, _, _, h3 => obtain rfl := Option.some.inj h3; exact (show bodyAt 0 0 (bodyOf Tryd.f12) = bodyAt 0 0 (bodyOf Tryd.f12) by kernel_rfl) ▸ r12Of_lok0 n hF hK
    | j + 1, _, h2', _ => exact absurd h2' (by omega)))) r12Of_dr ((r12Of_eq n a).symm.trans h)⟩, rfl⟩
/-! armada/armadaref12.Hex -/
@[reducible] def r12Hex_sh0 : SSt := ⟨[(0, .one (.c (.d .str))), (3, .one (.c (.d .str))), (4, .one (.c (.row 26))), (5, .one (.c (.d (.int .i64))))], [], [(26, ⟨5, true, (.int .u8)⟩)]⟩
@[reducible] def r12Hex_outs0 : List (Exit × SSt) := [(.exit 0, ⟨[(4, .one (.c (.row 26)))], [], [(26, ⟨5, true, (.int .u8)⟩)]⟩)]
def r12Hex_l0 (n : Nat) (rec : (List UInt8) → (List UInt8) → Int → (List (Int)) → Option ((Unit × (Unit)) × (Unit) × ((List (Int)) × (Unit)))) (a1 : List UInt8) (a2 : List UInt8) (a3 : Int) (a4 : List (Int)) : Option ((Unit × (Unit)) × (Unit) × ((List (Int)) × (Unit))) :=
  (bif decide (a3 < ((List.length a1 : Nat) : Int)) then (sAt a1 a3).bind fun (c1 : Int) => (quoO .u8 c1 (16 : Int)).bind fun (n2 : Int) => (sAt a2 n2).bind fun (c3 : Int) => (sAt a1 a3).bind fun (c4 : Int) => (remO c4 (16 : Int)).bind fun (n5 : Int) => (sAt a2 n5).bind fun (c6 : Int) => (appO 1 a4 ([c3, c6] : List (Int))).bind fun (l7 : List (Int)) => letO (IntKind.wrap .i64 (a3 + (1 : Int))) fun (n8 : Int) => rec a1 a2 n8 l7 else some ((((), ()), ((), (a4, ())))))
def r12Hex_F0 (n : Nat) (rec : pSt r12Hex_sh0 → Option (pOuts r12Hex_outs0)) (p : pSt r12Hex_sh0) : Option (pOuts r12Hex_outs0) := r12Hex_l0 n (fun a1 a2 a3 a4 => rec ((a1, (a2, ((), (a3, ())))), ((), (a4, ())))) p.1.1 p.1.2.1 p.1.2.2.2.1 p.2.2.1
def r12Hex_loop0 (n m : Nat) (a1 : List UInt8) (a2 : List UInt8) (a3 : Int) (a4 : List (Int)) : Option ((Unit × (Unit)) × (Unit) × ((List (Int)) × (Unit))) := iterF (r12Hex_F0 n) m ((a1, (a2, ((), (a3, ())))), ((), (a4, ())))
theorem r12Hex_loop0_succ (n m : Nat) (a1 : List UInt8) (a2 : List UInt8) (a3 : Int) (a4 : List (Int)) : r12Hex_loop0 n (m + 1) a1 a2 a3 a4 = r12Hex_l0 n (fun a1 a2 a3 a4 => r12Hex_loop0 n m a1 a2 a3 a4) a1 a2 a3 a4 := rfl
def r12Hex_L0 (n : Nat) : LC := { sh := r12Hex_sh0, outs := r12Hex_outs0, F := iterF (r12Hex_F0 n) n }
def r12Hex_lts (n : Nat) : List LC := [r12Hex_L0 n]
def r12Hex_t (n : Nat) (a1 : List UInt8) : Option (List UInt8) :=
  (r12Hex_loop0 n n a1 ([48, 49, 50, 51, 52, 53, 54, 55, 56, 57, 97, 98, 99, 100, 101, 102] : List UInt8) (0 : Int) []).bind fun (o9 : (Unit × (Unit)) × (Unit) × ((List (Int)) × (Unit))) => some (List.map (fun n : Int => UInt8.ofNat n.toNat) o9.2.2.1)
def r12Hex_fc (n : Nat) : FC := { f := 14, args := [.one (.c (.d .str))], res := .one (.c (.d .str)), F := fun p => r12Hex_t n p }
def r12Hex_ct (n : Nat) : List FC := []
theorem r12Hex_ctok (n : Nat) {G : World → Prop} (hG : Know Inv G) : ∀ c ∈ r12Hex_ct n, FCok Tryd.prog G c ∧ noTup c.args = true := (fun _ h => by cases h)
def r12Hex_dh : Hints := [(6, [⟨1208925819615041491570688, 68719476736, 0⟩, ⟨3298534883840, 549755813888, 0⟩, ⟨26388279066625, 4398046511104, 0⟩, ⟨211106232565760, 35184372088832, 0⟩, ⟨1728432278863872, 281474976710656, 12⟩, ⟨13792273858822144, 2251799813685248, 28⟩, ⟨110338740626391040, 18014398509481984, 62⟩, ⟨864691128455135744, 144115188075855872, 0⟩, ⟨6917529027641081857, 1152921504606846976, 0⟩, ⟨55340232221128687616, 9223372036854775808, 0⟩, ⟨453098151310490861568, 73786976294838206464, 768⟩, ⟨3615561838447072116736, 590295810358705651712, 1792⟩, ⟨28924638822764652789760, 4722366482869645213696, 3968⟩, ⟨231395975675011124953088, 188894659314785808547840, 8190⟩, ⟨2002283388736798290083840, 1511157274518286468382720, 16383⟩, ⟨1511157274518286468407296, 4096, 32767⟩])]
theorem r12Hex_dr : drB r12Hex_dh (bodyOf Tryd.f14) = true := by kernel_rfl
theorem r12Hex_eq0 (n : Nat) : ∀ rec p, r12Hex_F0 n rec p = round Tryd.prog 29 (r12Hex_ct n) (r12Hex_lts n) r12Hex_dh 1 r12Hex_sh0 r12Hex_outs0 (bodyAt 0 0 (bodyOf Tryd.f14)) rec p := by intro rec p; kernel_rfl
theorem r12Hex_lok0 (n : Nat) {F : Fr} (hF : F.n = 29) (hK : Know Inv F.G) : LCok Tryd.prog F (r12Hex_L0 n) (bodyAt 0 0 (bodyOf Tryd.f14)) :=
  loop_ok hF (by kernel_rfl) (r12Hex_ctok n hK) (r12Hex_eq0 n) (fuel := n) (fun _ => rfl) (lok_of fun j L h1 h2 h3 => absurd h2 (Nat.not_lt.2 (Nat.le_trans (by decide +kernel) h1))) (drB_at r12Hex_dr)
theorem r12Hex_eq (n : Nat) : ∀ a, (r12Hex_fc n).F a = main Tryd.prog 29 (r12Hex_ct n) (r12Hex_lts n) r12Hex_dh (bodyOf Tryd.f14) [.tmp 2] (r12Hex_fc n).args (r12Hex_fc n).res a := by intro a; kernel_rfl
theorem r12Hex_ok (n : Nat) : FCall Inv Tryd.prog (r12Hex_fc n) := fun G hG => ⟨⟨by kernel_rfl, fun a r h => main_ok (c := bodyOf Tryd.f14) Tryd.func14 (by kernel_rfl) (by kernel_rfl) (Nat.le_of_ble_eq_true (by kernel_rfl)) hG.st (by kernel_rfl) (rs := [.tmp 2]) (by kernel_rfl) (r12Hex_ctok n hG) (lts := r12Hex_lts n) (fun F hF hFG => have hK : Know Inv F.G := hFG ▸ hG; (lok_of (c := (bodyOf Tryd.f14)) (fun j L h1 h2 h3 => by
    have h2' : j < 1 := Nat.lt_of_lt_of_le h2 (by decide +kernel)
    match j, h1, h2', h3 with
    | 0, _, _, h3 => obtain rfl := Option.some.inj h3; exact (show bodyAt 0 0 (bodyOf Tryd.f14) = bodyAt 0 0 (bodyOf Tryd.f14) by kernel_rfl) ▸ r12Hex_lok0 n hF hK
    | j + 1, _, h2', _ => exact absurd h2' (by omega)))) r12Hex_dr ((r12Hex_eq n a).symm.trans h)⟩, rfl⟩
/-! armada/armadalaw12.live -/
def lD12live_lts (n : Nat) : List LC := []
def lD12live_t (n : Nat)  : Option (Bool) :=
  (fBlock_t ([] : List UInt8) ([] : List UInt8)).bind fun (r1 : (List UInt8) × (Bool)) => (fOf_t ([] : List UInt8)).bind fun (r2 : List UInt8) => (fHex_t r2).bind fun (r3 : List UInt8) => (bif decide (r3 = ([101, 51, 98, 48, 99, 52, 52, 50, 57, 56, 102, 99, 49, 99, 49, 52, 57, 97, 102, 98, 102, 52, 99, 56, 57, 57, 54, 102, 98, 57, 50, 52, 50, 55, 97, 101, 52, 49, 101, 52, 54, 52, 57, 98, 57, 51, 52, 99, 97, 52, 57, 53, 57, 57, 49, 98, 55, 56, 53, 50, 98, 56, 53, 53] : List UInt8)) then (fOf_t ([97, 98, 99] : List UInt8)).bind fun (r4 : List UInt8) => (fHex_t r4).bind fun (r5 : List UInt8) => (bif decide (r5 = ([98, 97, 55, 56, 49, 54, 98, 102, 56, 102, 48, 49, 99, 102, 101, 97, 52, 49, 52, 49, 52, 48, 100, 101, 53, 100, 97, 101, 50, 50, 50, 51, 98, 48, 48, 51, 54, 49, 97, 51, 57, 54, 49, 55, 55, 97, 57, 99, 98, 52, 49, 48, 102, 102, 54, 49, 102, 50, 48, 48, 49, 53, 97, 100] : List UInt8)) then (bif !r1.2 then (fPad_t (0 : Int)).bind fun (r6 : List UInt8) => (bif decide (((List.length r6 : Nat) : Int) = (64 : Int)) then (fPad_t (55 : Int)).bind fun (r7 : List UInt8) => (bif decide (((List.length r7 : Nat) : Int) = (9 : Int)) then (fPad_t (56 : Int)).bind fun (r8 : List UInt8) => (bif decide (((List.length r8 : Nat) : Int) = (72 : Int)) then (fPad_t (-1 : Int)).bind fun (r9 : List UInt8) => (bif decide (r9 = ([] : List UInt8)) then (fHex_t ([0, 175] : List UInt8)).bind fun (r10 : List UInt8) => some (decide (r10 = ([48, 48, 97, 102] : List UInt8))) else some false) else some false) else some false) else some false) else some false) else some false) else some false)
def lD12live_fc (n : Nat) : FC := { f := 8, args := [], res := .one (.c (.d .bool)), F := fun p => lD12live_t n  }
def lD12live_ct (n : Nat) : List FC := [fBlock_fc, fOf_fc, fHex_fc, fPad_fc]
theorem lD12live_ctok (n : Nat) {G : World → Prop} (hG : Know Inv G) : ∀ c ∈ lD12live_ct n, FCok Tryd.prog G c ∧ noTup c.args = true := List.forall_mem_cons.2 ⟨fBlock_ok G hG, List.forall_mem_cons.2 ⟨fOf_ok G hG, List.forall_mem_cons.2 ⟨fHex_ok G hG, List.forall_mem_cons.2 ⟨fPad_ok G hG, (fun _ h => by cases h)⟩⟩⟩⟩
def lD12live_dh : Hints := []
theorem lD12live_dr : drB lD12live_dh (bodyOf Tryd.f8) = true := by kernel_rfl
theorem lD12live_eq (n : Nat) : ∀ a, (lD12live_fc n).F a = main Tryd.prog 42 (lD12live_ct n) (lD12live_lts n) lD12live_dh (bodyOf Tryd.f8) [.tmp 0] (lD12live_fc n).args (lD12live_fc n).res a := by intro a; kernel_rfl
theorem lD12live_ok (n : Nat) : FCall Inv Tryd.prog (lD12live_fc n) := fun G hG => ⟨⟨by kernel_rfl, fun a r h => main_ok (c := bodyOf Tryd.f8) Tryd.func8 (by kernel_rfl) (by kernel_rfl) (Nat.le_of_ble_eq_true (by kernel_rfl)) hG.st (by kernel_rfl) (rs := [.tmp 0]) (by kernel_rfl) (lD12live_ctok n hG) (lts := lD12live_lts n) (fun F hF hFG => have hK : Know Inv F.G := hFG ▸ hG; (lok_of fun j L h1 h2 h3 => absurd h2 (Nat.not_lt.2 (Nat.le_trans (by decide +kernel) h1)))) lD12live_dr ((lD12live_eq n a).symm.trans h)⟩, rfl⟩
/-! armada/armadalaw12.DigestHex -/
def lDHex_lts (n : Nat) : List LC := []
def lDHex_t (n : Nat) (a1 : List UInt8) (a2 : List UInt8) : Option (Bool) :=
  (bif decide ((2000 : Int) < ((List.length a1 : Nat) : Int)) then (lD12live_t n ).bind fun (r1 : Bool) => some r1 else (bif decide ((2000 : Int) < ((List.length a2 : Nat) : Int)) then (lD12live_t n ).bind fun (r2 : Bool) => some r2 else (fHex_t a1).bind fun (r3 : List UInt8) => (fHex_t a2).bind fun (r4 : List UInt8) => letO (IntKind.wrap .i64 ((2 : Int) * ((List.length a1 : Nat) : Int))) fun (n5 : Int) => (bif decide (((List.length r3 : Nat) : Int) = n5) then (catO a1 a2).bind fun (s6 : List UInt8) => (fHex_t s6).bind fun (r7 : List UInt8) => (catO r3 r4).bind fun (s8 : List UInt8) => (bif decide (r7 = s8) then (bif decide (decide (r3 = r4) = decide (a1 = a2)) then (bif decide (ltS (r3) (r4) = ltS (a1) (a2)) then (lD12live_t n ).bind fun (r9 : Bool) => some r9 else some false) else some false) else some false) else some false)))
def lDHex_fc (n : Nat) : FC := { f := 7, args := [.one (.c (.d .str)), .one (.c (.d .str))], res := .one (.c (.d .bool)), F := fun p => lDHex_t n p.1 p.2 }
def lDHex_ct (n : Nat) : List FC := [lD12live_fc n, fHex_fc]
theorem lDHex_ctok (n : Nat) {G : World → Prop} (hG : Know Inv G) : ∀ c ∈ lDHex_ct n, FCok Tryd.prog G c ∧ noTup c.args = true := List.forall_mem_cons.2 ⟨lD12live_ok n G hG, List.forall_mem_cons.2 ⟨fHex_ok G hG, (fun _ h => by cases h)⟩⟩
def lDHex_dh : Hints := []
theorem lDHex_dr : drB lDHex_dh (bodyOf Tryd.f7) = true := by kernel_rfl
theorem lDHex_eq (n : Nat) : ∀ a, (lDHex_fc n).F a = main Tryd.prog 57 (lDHex_ct n) (lDHex_lts n) lDHex_dh (bodyOf Tryd.f7) [.tmp 4] (lDHex_fc n).args (lDHex_fc n).res a := by intro a; kernel_rfl
theorem lDHex_ok (n : Nat) : FCall Inv Tryd.prog (lDHex_fc n) := fun G hG => ⟨⟨by kernel_rfl, fun a r h => main_ok (c := bodyOf Tryd.f7) Tryd.func7 (by kernel_rfl) (by kernel_rfl) (Nat.le_of_ble_eq_true (by kernel_rfl)) hG.st (by kernel_rfl) (rs := [.tmp 4]) (by kernel_rfl) (lDHex_ctok n hG) (lts := lDHex_lts n) (fun F hF hFG => have hK : Know Inv F.G := hFG ▸ hG; (lok_of fun j L h1 h2 h3 => absurd h2 (Nat.not_lt.2 (Nat.le_trans (by decide +kernel) h1)))) lDHex_dr ((lDHex_eq n a).symm.trans h)⟩, rfl⟩
/-! armada/armadalaw12.DigestPads -/
@[reducible] def lDPads_sh1 : SSt := ⟨[(0, .one (.c (.d (.int .i64)))), (3, .one (.c (.d .str))), (4, .one (.c (.d (.int .i64)))), (6, .one (.c (.d (.int .i64))))], [], []⟩
@[reducible] def lDPads_outs1 : List (Exit × SSt) := [(.ret, ⟨[(2, .one (.c (.d .bool)))], [], []⟩), (.exit 2, ⟨[(0, .one (.c (.d (.int .i64)))), (4, .one (.c (.d (.int .i64))))], [], []⟩)]
def lDPads_l1 (n : Nat) (rec : Int → (List UInt8) → Int → Int → Option (((Bool × (Unit)) × (Unit) × (Unit)) ⊕ ((Int × (Int × (Unit))) × (Unit) × (Unit)))) (a1 : Int) (a2 : List UInt8) (a3 : Int) (a4 : Int) : Option (((Bool × (Unit)) × (Unit) × (Unit)) ⊕ ((Int × (Int × (Unit))) × (Unit) × (Unit))) :=
  letO (IntKind.wrap .i64 (((List.length a2 : Nat) : Int) - (8 : Int))) fun (n14 : Int) => (bif decide (a4 < n14) then (sAt a2 a4).bind fun (c15 : Int) => (bif !decide (c15 = (0 : Int)) then some (Sum.inl ((false, ()), ((), ()))) else letO (IntKind.wrap .i64 (a4 + (1 : Int))) fun (n16 : Int) => rec a1 a2 a3 n16) else some (Sum.inr (((a1, (a3, ())), ((), ())))))
def lDPads_F1 (n : Nat) (rec : pSt lDPads_sh1 → Option (pOuts lDPads_outs1)) (p : pSt lDPads_sh1) : Option (pOuts lDPads_outs1) := lDPads_l1 n (fun a1 a2 a3 a4 => rec ((a1, (a2, (a3, (a4, ())))), ((), ()))) p.1.1 p.1.2.1 p.1.2.2.1 p.1.2.2.2.1
def lDPads_loop1 (n m : Nat) (a1 : Int) (a2 : List UInt8) (a3 : Int) (a4 : Int) : Option (((Bool × (Unit)) × (Unit) × (Unit)) ⊕ ((Int × (Int × (Unit))) × (Unit) × (Unit))) := iterF (lDPads_F1 n) m ((a1, (a2, (a3, (a4, ())))), ((), ()))
theorem lDPads_loop1_succ (n m : Nat) (a1 : Int) (a2 : List UInt8) (a3 : Int) (a4 : Int) : lDPads_loop1 n (m + 1) a1 a2 a3 a4 = lDPads_l1 n (fun a1 a2 a3 a4 => lDPads_loop1 n m a1 a2 a3 a4) a1 a2 a3 a4 := rfl
def lDPads_L1 (n : Nat) : LC := { sh := lDPads_sh1, outs := lDPads_outs1, F := iterF (lDPads_F1 n) n }
@[reducible] def lDPads_sh0 : SSt := ⟨[(0, .one (.c (.d (.int .i64)))), (3, .one (.c (.d .str))), (4, .one (.c (.d (.int .i64)))), (5, .one (.c (.d (.int .i64))))], [], []⟩
@[reducible] def lDPads_outs0 : List (Exit × SSt) := [(.exit 0, ⟨[(0, .one (.c (.d (.int .i64)))), (3, .one (.c (.d .str))), (4, .one (.c (.d (.int .i64))))], [], []⟩)]
def lDPads_l0 (n : Nat) (rec : Int → (List UInt8) → Int → Int → Option ((Int × ((List UInt8) × (Int × (Unit)))) × (Unit) × (Unit))) (a1 : Int) (a2 : List UInt8) (a3 : Int) (a4 : Int) : Option ((Int × ((List UInt8) × (Int × (Unit)))) × (Unit) × (Unit)) :=
  (bif decide (a4 < ((List.length a2 : Nat) : Int)) then letO (IntKind.wrap .i64 ((256 : Int) * a3)) fun (n8 : Int) => (sAt a2 a4).bind fun (c9 : Int) => letO (IntKind.wrap .i64 c9) fun (n10 : Int) => letO (IntKind.wrap .i64 (n8 + n10)) fun (n11 : Int) => letO (IntKind.wrap .i64 (a4 + (1 : Int))) fun (n12 : Int) => rec a1 a2 n11 n12 else some (((a1, (a2, (a3, ()))), ((), ()))))
def lDPads_F0 (n : Nat) (rec : pSt lDPads_sh0 → Option (pOuts lDPads_outs0)) (p : pSt lDPads_sh0) : Option (pOuts lDPads_outs0) := lDPads_l0 n (fun a1 a2 a3 a4 => rec ((a1, (a2, (a3, (a4, ())))), ((), ()))) p.1.1 p.1.2.1 p.1.2.2.1 p.1.2.2.2.1
def lDPads_loop0 (n m : Nat) (a1 : Int) (a2 : List UInt8) (a3 : Int) (a4 : Int) : Option ((Int × ((List UInt8) × (Int × (Unit)))) × (Unit) × (Unit)) := iterF (lDPads_F0 n) m ((a1, (a2, (a3, (a4, ())))), ((), ()))
theorem lDPads_loop0_succ (n m : Nat) (a1 : Int) (a2 : List UInt8) (a3 : Int) (a4 : Int) : lDPads_loop0 n (m + 1) a1 a2 a3 a4 = lDPads_l0 n (fun a1 a2 a3 a4 => lDPads_loop0 n m a1 a2 a3 a4) a1 a2 a3 a4 := rfl
def lDPads_L0 (n : Nat) : LC := { sh := lDPads_sh0, outs := lDPads_outs0, F := iterF (lDPads_F0 n) n }
def lDPads_lts (n : Nat) : List LC := [lDPads_L0 n, lDPads_L1 n]
def lDPads_t (n : Nat) (a1 : Int) : Option (Bool) :=
  (fPad_t a1).bind fun (r1 : List UInt8) => (bif decide (a1 < (0 : Int)) then (bif decide (r1 = ([] : List UInt8)) then (lD12live_t n ).bind fun (r2 : Bool) => some r2 else some false) else (bif decide ((1099511627776 : Int) < a1) then (bif decide (r1 = ([] : List UInt8)) then (lD12live_t n ).bind fun (r3 : Bool) => some r3 else some false) else (bif decide (((List.length r1 : Nat) : Int) < (9 : Int)) then some false else (bif decide ((72 : Int) < ((List.length r1 : Nat) : Int)) then some false else letO (IntKind.wrap .i64 (a1 + ((List.length r1 : Nat) : Int))) fun (n4 : Int) => (remO n4 (64 : Int)).bind fun (n5 : Int) => (bif !decide (n5 = (0 : Int)) then some false else (sAt r1 (0 : Int)).bind fun (c6 : Int) => (bif !decide (c6 = (128 : Int)) then some false else letO (IntKind.wrap .i64 (((List.length r1 : Nat) : Int) - (8 : Int))) fun (n7 : Int) => (lDPads_loop0 n n a1 r1 (0 : Int) n7).bind fun (o13 : (Int × ((List UInt8) × (Int × (Unit)))) × (Unit) × (Unit)) => (lDPads_loop1 n n o13.1.1 o13.1.2.1 o13.1.2.2.1 (1 : Int)).bind fun (o17 : ((Bool × (Unit)) × (Unit) × (Unit)) ⊕ ((Int × (Int × (Unit))) × (Unit) × (Unit))) => Sum.elim (fun (q18 : (Bool × (Unit)) × (Unit) × (Unit)) => some q18.1.1) (fun (q19 : (Int × (Int × (Unit))) × (Unit) × (Unit)) => letO (IntKind.wrap .i64 ((8 : Int) * q19.1.1)) fun (n20 : Int) => (bif decide (q19.1.2.1 = n20) then (lD12live_t n ).bind fun (r21 : Bool) => some r21 else some false)) o17))))))
def lDPads_fc (n : Nat) : FC := { f := 6, args := [.one (.c (.d (.int .i64)))], res := .one (.c (.d .bool)), F := fun p => lDPads_t n p }
def lDPads_ct (n : Nat) : List FC := [fPad_fc, lD12live_fc n]
theorem lDPads_ctok (n : Nat) {G : World → Prop} (hG : Know Inv G) : ∀ c ∈ lDPads_ct n, FCok Tryd.prog G c ∧ noTup c.args = true := List.forall_mem_cons.2 ⟨fPad_ok G hG, List.forall_mem_cons.2 ⟨lD12live_ok n G hG, (fun _ h => by cases h)⟩⟩
def lDPads_dh : Hints := []
theorem lDPads_dr : drB lDPads_dh (bodyOf Tryd.f6) = true := by kernel_rfl
theorem lDPads_eq1 (n : Nat) : ∀ rec p, lDPads_F1 n rec p = round Tryd.prog 75 (lDPads_ct n) (lDPads_lts n) lDPads_dh 2 lDPads_sh1 lDPads_outs1 (bodyAt 0 1 (bodyOf Tryd.f6)) rec p := by intro rec p; kernel_rfl
theorem lDPads_eq0 (n : Nat) : ∀ rec p, lDPads_F0 n rec p = round Tryd.prog 75 (lDPads_ct n) (lDPads_lts n) lDPads_dh 1 lDPads_sh0 lDPads_outs0 (bodyAt 0 0 (bodyOf Tryd.f6)) rec p := by intro rec p; kernel_rfl
theorem lDPads_lok1 (n : Nat) {F : Fr} (hF : F.n = 75) (hK : Know Inv F.G) : LCok Tryd.prog F (lDPads_L1 n) (bodyAt 0 1 (bodyOf Tryd.f6)) :=
  loop_ok hF (by kernel_rfl) (lDPads_ctok n hK) (lDPads_eq1 n) (fuel := n) (fun _ => rfl) (lok_of fun j L h1 h2 h3 => absurd h2 (Nat.not_lt.2 (Nat.le_trans (by decide +kernel) h1))) (drB_at lDPads_dr)
theorem lDPads_lok0 (n : Nat) {F : Fr} (hF : F.n = 75) (hK : Know Inv F.G) : LCok Tryd.prog F (lDPads_L0 n) (bodyAt 0 0 (bodyOf Tryd.f6)) :=
  loop_ok hF (by kernel_rfl) (lDPads_ctok n hK) (lDPads_eq0 n) (fuel := n) (fun _ => rfl) (lok_of fun j L h1 h2 h3 => absurd h2 (Nat.not_lt.2 (Nat.le_trans (by decide +kernel) h1))) (drB_at lDPads_dr)
theorem lDPads_eq (n : Nat) : ∀ a, (lDPads_fc n).F a = main Tryd.prog 75 (lDPads_ct n) (lDPads_lts n) lDPads_dh (bodyOf Tryd.f6) [.tmp 2] (lDPads_fc n).args (lDPads_fc n).res a := by intro a; kernel_rfl
theorem lDPads_ok (n : Nat) : FCall Inv Tryd.prog (lDPads_fc n) := fun G hG => ⟨⟨by kernel_rfl, fun a r h => main_ok (c := bodyOf Tryd.f6) Tryd.func6 (by kernel_rfl) (by kernel_rfl) (Nat.le_of_ble_eq_true (by kernel_rfl)) hG.st (by kernel_rfl) (rs := [.tmp 2]) (by kernel_rfl) (lDPads_ctok n hG) (lts := lDPads_lts n) (fun F hF hFG => have hK : Know Inv F.G := hFG ▸ hG; (lok_of (c := (bodyOf Tryd.f6)) (fun j L h1 h2 h3 => by
    have h2' : j < 2 := Nat.lt_of_lt_of_le h2 (by decide +kernel)
    match j, h1, h2', h3 with
    | 0, _, _, h3 => obtain rfl := Option.some.inj h3; exact (show bodyAt 0 0 (bodyOf Tryd.f6) = bodyAt 0 0 (bodyOf Tryd.f6) by kernel_rfl) ▸ lDPads_lok0 n hF hK
    | 1, _, _, h3 => obtain rfl := Option.some.inj h3; exact (show bodyAt 0 1 (bodyOf Tryd.f6) = bodyAt 0 1 (bodyOf Tryd.f6) by kernel_rfl) ▸ lDPads_lok1 n hF hK
    | j + 2, _, h2', _ => exact absurd h2' (by omega)))) lDPads_dr ((lDPads_eq n a).symm.trans h)⟩, rfl⟩
/-! armada/armadalaw12.DigestBlocks -/
@[reducible] def lDBlocks_sh0 : SSt := ⟨[(0, .one (.c (.d .str))), (3, .one (.c (.d .str))), (4, .one (.c (.d .str))), (5, .one (.c (.d (.int .i64))))], [], []⟩
@[reducible] def lDBlocks_outs0 : List (Exit × SSt) := [(.ret, ⟨[(2, .one (.c (.d .bool)))], [], []⟩), (.exit 0, ⟨[(0, .one (.c (.d .str))), (3, .one (.c (.d .str)))], [], []⟩)]
def lDBlocks_l0 (n : Nat) (rec : (List UInt8) → (List UInt8) → (List UInt8) → Int → Option (((Bool × (Unit)) × (Unit) × (Unit)) ⊕ (((List UInt8) × ((List UInt8) × (Unit))) × (Unit) × (Unit)))) (a1 : List UInt8) (a2 : List UInt8) (a3 : List UInt8) (a4 : Int) : Option (((Bool × (Unit)) × (Unit) × (Unit)) ⊕ (((List UInt8) × ((List UInt8) × (Unit))) × (Unit) × (Unit))) :=
  (bif decide (a4 < ((List.length a3 : Nat) : Int)) then letO (IntKind.wrap .i64 (a4 + (64 : Int))) fun (n8 : Int) => (subO a3 a4 n8).bind fun (s9 : List UInt8) => (fBlock_t a2 s9).bind fun (r10 : (List UInt8) × (Bool)) => (bif !r10.2 then some (Sum.inl ((false, ()), ((), ()))) else (bif !decide (((List.length r10.1 : Nat) : Int) = (32 : Int)) then some (Sum.inl ((false, ()), ((), ()))) else letO (IntKind.wrap .i64 (a4 + (64 : Int))) fun (n11 : Int) => rec a1 r10.1 a3 n11)) else some (Sum.inr (((a1, (a2, ())), ((), ())))))
def lDBlocks_F0 (n : Nat) (rec : pSt lDBlocks_sh0 → Option (pOuts lDBlocks_outs0)) (p : pSt lDBlocks_sh0) : Option (pOuts lDBlocks_outs0) := lDBlocks_l0 n (fun a1 a2 a3 a4 => rec ((a1, (a2, (a3, (a4, ())))), ((), ()))) p.1.1 p.1.2.1 p.1.2.2.1 p.1.2.2.2.1
def lDBlocks_loop0 (n m : Nat) (a1 : List UInt8) (a2 : List UInt8) (a3 : List UInt8) (a4 : Int) : Option (((Bool × (Unit)) × (Unit) × (Unit)) ⊕ (((List UInt8) × ((List UInt8) × (Unit))) × (Unit) × (Unit))) := iterF (lDBlocks_F0 n) m ((a1, (a2, (a3, (a4, ())))), ((), ()))
theorem lDBlocks_loop0_succ (n m : Nat) (a1 : List UInt8) (a2 : List UInt8) (a3 : List UInt8) (a4 : Int) : lDBlocks_loop0 n (m + 1) a1 a2 a3 a4 = lDBlocks_l0 n (fun a1 a2 a3 a4 => lDBlocks_loop0 n m a1 a2 a3 a4) a1 a2 a3 a4 := rfl
def lDBlocks_L0 (n : Nat) : LC := { sh := lDBlocks_sh0, outs := lDBlocks_outs0, F := iterF (lDBlocks_F0 n) n }
def lDBlocks_lts (n : Nat) : List LC := [lDBlocks_L0 n]
def lDBlocks_t (n : Nat) (a1 : List UInt8) : Option (Bool) :=
  (bif decide ((4000 : Int) < ((List.length a1 : Nat) : Int)) then (lD12live_t n ).bind fun (r1 : Bool) => some r1 else (r12H_t n ).bind fun (r2 : List (Int)) => (r12Bytes_t n r2).bind fun (r3 : List UInt8) => (fPad_t ((List.length a1 : Nat) : Int)).bind fun (r4 : List UInt8) => (catO a1 r4).bind fun (s5 : List UInt8) => (remO ((List.length s5 : Nat) : Int) (64 : Int)).bind fun (n6 : Int) => (bif !decide (n6 = (0 : Int)) then some false else letO (IntKind.wrap .i64 (((List.length a1 : Nat) : Int) + (9 : Int))) fun (n7 : Int) => (bif decide (((List.length s5 : Nat) : Int) < n7) then some false else (lDBlocks_loop0 n n a1 r3 s5 (0 : Int)).bind fun (o12 : ((Bool × (Unit)) × (Unit) × (Unit)) ⊕ (((List UInt8) × ((List UInt8) × (Unit))) × (Unit) × (Unit))) => Sum.elim (fun (q13 : (Bool × (Unit)) × (Unit) × (Unit)) => some q13.1.1) (fun (q14 : ((List UInt8) × ((List UInt8) × (Unit))) × (Unit) × (Unit)) => (fOf_t q14.1.1).bind fun (r15 : List UInt8) => (bif decide (r15 = q14.1.2.1) then (fHex_t q14.1.2.1).bind fun (r16 : List UInt8) => (bif decide (((List.length r16 : Nat) : Int) = (64 : Int)) then (lD12live_t n ).bind fun (r17 : Bool) => some r17 else some false) else some false)) o12)))
def lDBlocks_fc (n : Nat) : FC := { f := 4, args := [.one (.c (.d .str))], res := .one (.c (.d .bool)), F := fun p => lDBlocks_t n p }
def lDBlocks_ct (n : Nat) : List FC := [lD12live_fc n, r12H_fc n, r12Bytes_fc n, fPad_fc, fBlock_fc, fOf_fc, fHex_fc]
theorem lDBlocks_ctok (n : Nat) {G : World → Prop} (hG : Know Inv G) : ∀ c ∈ lDBlocks_ct n, FCok Tryd.prog G c ∧ noTup c.args = true := List.forall_mem_cons.2 ⟨lD12live_ok n G hG, List.forall_mem_cons.2 ⟨r12H_ok n G hG, List.forall_mem_cons.2 ⟨r12Bytes_ok n G hG, List.forall_mem_cons.2 ⟨fPad_ok G hG, List.forall_mem_cons.2 ⟨fBlock_ok G hG, List.forall_mem_cons.2 ⟨fOf_ok G hG, List.forall_mem_cons.2 ⟨fHex_ok G hG, (fun _ h => by cases h)⟩⟩⟩⟩⟩⟩⟩
def lDBlocks_dh : Hints := []
theorem lDBlocks_dr : drB lDBlocks_dh (bodyOf Tryd.f4) = true := by kernel_rfl
theorem lDBlocks_eq0 (n : Nat) : ∀ rec p, lDBlocks_F0 n rec p = round Tryd.prog 68 (lDBlocks_ct n) (lDBlocks_lts n) lDBlocks_dh 1 lDBlocks_sh0 lDBlocks_outs0 (bodyAt 0 0 (bodyOf Tryd.f4)) rec p := by intro rec p; kernel_rfl
theorem lDBlocks_lok0 (n : Nat) {F : Fr} (hF : F.n = 68) (hK : Know Inv F.G) : LCok Tryd.prog F (lDBlocks_L0 n) (bodyAt 0 0 (bodyOf Tryd.f4)) :=
  loop_ok hF (by kernel_rfl) (lDBlocks_ctok n hK) (lDBlocks_eq0 n) (fuel := n) (fun _ => rfl) (lok_of fun j L h1 h2 h3 => absurd h2 (Nat.not_lt.2 (Nat.le_trans (by decide +kernel) h1))) (drB_at lDBlocks_dr)
theorem lDBlocks_eq (n : Nat) : ∀ a, (lDBlocks_fc n).F a = main Tryd.prog 68 (lDBlocks_ct n) (lDBlocks_lts n) lDBlocks_dh (bodyOf Tryd.f4) [.tmp 2] (lDBlocks_fc n).args (lDBlocks_fc n).res a := by intro a; kernel_rfl
theorem lDBlocks_ok (n : Nat) : FCall Inv Tryd.prog (lDBlocks_fc n) := fun G hG => ⟨⟨by kernel_rfl, fun a r h => main_ok (c := bodyOf Tryd.f4) Tryd.func4 (by kernel_rfl) (by kernel_rfl) (Nat.le_of_ble_eq_true (by kernel_rfl)) hG.st (by kernel_rfl) (rs := [.tmp 2]) (by kernel_rfl) (lDBlocks_ctok n hG) (lts := lDBlocks_lts n) (fun F hF hFG => have hK : Know Inv F.G := hFG ▸ hG; (lok_of (c := (bodyOf Tryd.f4)) (fun j L h1 h2 h3 => by
    have h2' : j < 1 := Nat.lt_of_lt_of_le h2 (by decide +kernel)
    match j, h1, h2', h3 with
    | 0, _, _, h3 => obtain rfl := Option.some.inj h3; exact (show bodyAt 0 0 (bodyOf Tryd.f4) = bodyAt 0 0 (bodyOf Tryd.f4) by kernel_rfl) ▸ lDBlocks_lok0 n hF hK
    | j + 1, _, h2', _ => exact absurd h2' (by omega)))) lDBlocks_dr ((lDBlocks_eq n a).symm.trans h)⟩, rfl⟩
/-! armada/armadalaw12.DigestTells -/
def lDTells_lts (n : Nat) : List LC := []
def lDTells_t (n : Nat) (a1 : List UInt8) (a2 : List UInt8) (a3 : Int) : Option (Bool) :=
  (bif decide ((600 : Int) < ((List.length a1 : Nat) : Int)) then (lD12live_t n ).bind fun (r1 : Bool) => some r1 else (bif decide ((600 : Int) < ((List.length a2 : Nat) : Int)) then (lD12live_t n ).bind fun (r2 : Bool) => some r2 else (fBlock_t a2 a1).bind fun (r3 : (List UInt8) × (Bool)) => (r12Block_t n a2 a1).bind fun (r4 : (List UInt8) × (Bool)) => (fOf_t a1).bind fun (r5 : List UInt8) => (r12Of_t n a1).bind fun (r6 : List UInt8) => (bif decide (r5 = r6) then (fHex_t a1).bind fun (r7 : List UInt8) => (r12Hex_t n a1).bind fun (r8 : List UInt8) => (bif decide (r7 = r8) then (fPad_t a3).bind fun (r9 : List UInt8) => (r12Pad_t n a3).bind fun (r10 : List UInt8) => (bif decide (r9 = r10) then (bif decide (r3.1 = r4.1) then (bif decide (r3.2 = r4.2) then (lD12live_t n ).bind fun (r11 : Bool) => some r11 else some false) else some false) else some false) else some false) else some false)))
def lDTells_fc (n : Nat) : FC := { f := 3, args := [.one (.c (.d .str)), .one (.c (.d .str)), .one (.c (.d (.int .i64)))], res := .one (.c (.d .bool)), F := fun p => lDTells_t n p.1 p.2.1 p.2.2 }
def lDTells_ct (n : Nat) : List FC := [lD12live_fc n, fBlock_fc, r12Block_fc n, fOf_fc, r12Of_fc n, fHex_fc, r12Hex_fc n, fPad_fc, r12Pad_fc n]
theorem lDTells_ctok (n : Nat) {G : World → Prop} (hG : Know Inv G) : ∀ c ∈ lDTells_ct n, FCok Tryd.prog G c ∧ noTup c.args = true := List.forall_mem_cons.2 ⟨lD12live_ok n G hG, List.forall_mem_cons.2 ⟨fBlock_ok G hG, List.forall_mem_cons.2 ⟨r12Block_ok n G hG, List.forall_mem_cons.2 ⟨fOf_ok G hG, List.forall_mem_cons.2 ⟨r12Of_ok n G hG, List.forall_mem_cons.2 ⟨fHex_ok G hG, List.forall_mem_cons.2 ⟨r12Hex_ok n G hG, List.forall_mem_cons.2 ⟨fPad_ok G hG, List.forall_mem_cons.2 ⟨r12Pad_ok n G hG, (fun _ h => by cases h)⟩⟩⟩⟩⟩⟩⟩⟩⟩
def lDTells_dh : Hints := []
theorem lDTells_dr : drB lDTells_dh (bodyOf Tryd.f3) = true := by kernel_rfl
theorem lDTells_eq (n : Nat) : ∀ a, (lDTells_fc n).F a = main Tryd.prog 64 (lDTells_ct n) (lDTells_lts n) lDTells_dh (bodyOf Tryd.f3) [.tmp 6] (lDTells_fc n).args (lDTells_fc n).res a := by intro a; kernel_rfl
theorem lDTells_ok (n : Nat) : FCall Inv Tryd.prog (lDTells_fc n) := fun G hG => ⟨⟨by kernel_rfl, fun a r h => main_ok (c := bodyOf Tryd.f3) Tryd.func3 (by kernel_rfl) (by kernel_rfl) (Nat.le_of_ble_eq_true (by kernel_rfl)) hG.st (by kernel_rfl) (rs := [.tmp 6]) (by kernel_rfl) (lDTells_ctok n hG) (lts := lDTells_lts n) (fun F hF hFG => have hK : Know Inv F.G := hFG ▸ hG; (lok_of fun j L h1 h2 h3 => absurd h2 (Nat.not_lt.2 (Nat.le_trans (by decide +kernel) h1)))) lDTells_dr ((lDTells_eq n a).symm.trans h)⟩, rfl⟩
end Go.Proofs.YtbcdlkapapajoaaDoor.AM

/- Layer 12: what the document's 'rolled' comes to. -/
namespace Go.Proofs
open Go.RowKit Go.Shelf Go.Lib
set_option linter.unusedVariables false
set_option linter.unusedSimpArgs false
namespace YtbcdlkapapajoaaDoor.AM
theorem qTurn_some {x : Int} (hx : N32 x) {k : Int} (h1 : 1 ≤ k) (h2 : k ≤ 31) : qTurn_t x k = some (turnV x k) := by
  unfold qTurn_t; rw [if_pos ⟨hx, h1, h2⟩]
theorem turn_n32 {x : Int} (hx : N32 x) {k : Int} (h1 : 1 ≤ k) (h2 : k ≤ 31) : N32 (turnV x k) := by
  obtain ⟨j, rfl⟩ : ∃ j : Nat, k = (j : Int) := ⟨k.toNat, by omega⟩
  exact (turn_same 0 hx (by omega) (by omega)).2
theorem qMask_some {x : Int} (h1 : -9223372036854775808 ≤ x) (h2 : x ≤ 9223372036854775807) : qMask_t x = some (x % 4294967296) := by
  unfold qMask_t; rw [if_pos ⟨h1, h2⟩]
theorem mod_n32 (x : Int) : N32 (x % 4294967296) := ⟨by omega, by omega⟩
theorem shr_n32 {x : Int} (hx : N32 x) (k : Nat) : N32 (x.fdiv (2 ^ k)) := by
  obtain ⟨a, rfl, ha⟩ := hx.nat
  rw [pow_nat, fdiv_nat]
  exact n32 (Nat.lt_of_le_of_lt (Nat.div_le_self _ _) ha)
theorem mixV_n32 {x : Int} (hx : N32 x) {i j k : Int} (h1 : 1 ≤ i ∧ i ≤ 31) (h2 : 1 ≤ j ∧ j ≤ 31) (h3 : 1 ≤ k ∧ k ≤ 31) : xorI .i64 (xorI .i64 (turnV x i) (turnV x j)) (turnV x k) = mixV x i j k ∧ N32 (mixV x i j k) := by
  have a := xor_same (turn_n32 hx h1.1 h1.2) (turn_n32 hx h2.1 h2.2)
  have b := xor_same a.2 (turn_n32 hx h3.1 h3.2)
  unfold mixV
  rw [a.1, b.1]; exact ⟨rfl, b.2⟩
theorem mixL_n32 {x : Int} (hx : N32 x) {i j : Int} {k : Nat} (h1 : 1 ≤ i ∧ i ≤ 31) (h2 : 1 ≤ j ∧ j ≤ 31) (hk : k ≤ 32) : xorI .i64 (xorI .i64 (turnV x i) (turnV x j)) (x.fdiv (2 ^ k)) = mixL x i j (k : Int) ∧ N32 (mixL x i j (k : Int)) := by
  have a := xor_same (turn_n32 hx h1.1 h1.2) (turn_n32 hx h2.1 h2.2)
  have b := xor_same a.2 (shr_n32 hx k)
  have e : min ((k : Int).toNat) 32 = k := by omega
  unfold mixL
  rw [e, a.1, b.1]; exact ⟨rfl, b.2⟩
theorem add32_eq (a b : Int) : add32 a b = (a + b) % 4294967296 := rfl
theorem W32.at {l : List Int} (h : W32 l) {i : Nat} (hi : i < l.length) : N32 l[i] := h _ (List.getElem_mem hi)
theorem W32.snoc {l : List Int} (h : W32 l) {x : Int} (hx : N32 x) : W32 (l ++ [x]) := by
  intro y hy
  rcases List.mem_append.1 hy with hy | hy
  · exact h y hy
  · rcases List.mem_singleton.1 hy with rfl; exact hx
theorem getD_get {l : List Int} {i : Nat} (h : i < l.length) : l.getD i 0 = l[i] := by rw [List.getD_eq_getElem?_getD, List.getElem?_eq_getElem h]; rfl
theorem rolled_ext (n : Nat) (a1 a2 : List Int) : ∀ (m : Nat) (l : List Int), 16 ≤ l.length → l.length ≤ 64 → 64 - l.length < m → W32 l →
    r12rolled_loop0 n m a1 a2 (l.length : Int) l = some ((a1, (a2, ((), ()))), ((), (extS (64 - l.length) l, ()))) ∧ W32 (extS (64 - l.length) l)
  | 0, l, h1, h2, h3, hw => by omega
  | m + 1, l, h1, h2, h3, hw => by
    rw [r12rolled_loop0_succ]
    unfold r12rolled_l0
    by_cases c : l.length < 64
    · have c' : ((l.length : Nat) : Int) < 64 := by omega
      have w15 : IntKind.wrap .i64 ((l.length : Int) - (15 : Int)) = ((l.length - 15 : Nat) : Int) := wrap_sub (j := 15) (by omega) (by omega)
      have w2 : IntKind.wrap .i64 ((l.length : Int) - (2 : Int)) = ((l.length - 2 : Nat) : Int) := wrap_sub (j := 2) (by omega) (by omega)
      have w7 : IntKind.wrap .i64 ((l.length : Int) - (7 : Int)) = ((l.length - 7 : Nat) : Int) := wrap_sub (j := 7) (by omega) (by omega)
      have w16 : IntKind.wrap .i64 ((l.length : Int) - (16 : Int)) = ((l.length - 16 : Nat) : Int) := wrap_sub (j := 16) (by omega) (by omega)
      have i15 : l.length - 15 < l.length := by omega
      have i2 : l.length - 2 < l.length := by omega
      have i7 : l.length - 7 < l.length := by omega
      have i16 : l.length - 16 < l.length := by omega
      have n15 := hw.at i15
      have n2 := hw.at i2
      have n7 := hw.at i7
      have n16 := hw.at i16
      have x0 := mixL_n32 n15 (i := 7) (j := 18) (k := 3) (by decide) (by decide) (by decide)
      have x1 := mixL_n32 n2 (i := 17) (j := 19) (k := 10) (by decide) (by decide) (by decide)
      have hn : nextW l = add32 (add32 (add32 (mixL l[l.length - 2] 17 19 10) l[l.length - 7]) (mixL l[l.length - 15] 7 18 3)) l[l.length - 16] := by
        unfold nextW; rw [getD_get i2, getD_get i7, getD_get i15, getD_get i16]
      have e3 : min (Int.toNat (3 : Int)) 64 = 3 := by decide
      have e10 : min (Int.toNat (10 : Int)) 64 = 10 := by decide
      simp only [c', decide_true, cond_true, letO_some, w15, w2, w7, w16, idx_lt i15, idx_lt i2, idx_lt i7, idx_lt i16, Int.toNat_natCast, nth_lt i15, nth_lt i2, nth_lt i7, nth_lt i16, Option.bind_some, e3, e10]
      rw [qTurn_some n15 (by decide) (by decide), qTurn_some n15 (by decide) (by decide), qTurn_some n2 (by decide) (by decide), qTurn_some n2 (by decide) (by decide)]
      simp only [Option.bind_some]
      rw [x0.1, x1.1]
      obtain ⟨p0, hp0⟩ : ∃ p, p = mixL l[l.length - 15] 7 18 ((3 : Nat) : Int) := ⟨_, rfl⟩
      obtain ⟨p1, hp1⟩ : ∃ p, p = mixL l[l.length - 2] 17 19 ((10 : Nat) : Int) := ⟨_, rfl⟩
      have hn' : nextW l = add32 (add32 (add32 p1 l[l.length - 7]) p0) l[l.length - 16] := by rw [hn, hp0, hp1]; rfl
      have q0 := x0.2; have q1 := x1.2
      rw [← hp0] at q0 ⊢
      rw [← hp1] at q1 ⊢
      have r0 := q0.1; have r1 := q0.2; have r2 := q1.1; have r3 := q1.2; have r4 := n7.1; have r5 := n7.2; have r6 := n16.1; have r7 := n16.2
      rw [wrap64 (n := p1 + l[l.length - 7]) (by omega) (by omega), wrap64 (n := p1 + l[l.length - 7] + p0) (by omega) (by omega), wrap64 (n := p1 + l[l.length - 7] + p0 + l[l.length - 16]) (by omega) (by omega), qMask_some (by omega) (by omega)]
      have e : (p1 + l[l.length - 7] + p0 + l[l.length - 16]) % 4294967296 = nextW l := by
        rw [hn', add32_eq, add32_eq, add32_eq]; omega
      rw [e, Option.bind_some, app_le (by simp; omega), Option.bind_some, wrap_succ (by omega)]
      have hnw : N32 (nextW l) := by rw [← e]; exact mod_n32 _
      have ih := rolled_ext n a1 a2 m (l ++ [nextW l]) (by simp; omega) (by simp; omega) (by simp; omega) (hw.snoc hnw)
      rw [List.length_append, List.length_singleton] at ih
      have e64 : extS (64 - l.length) l = extS (64 - (l.length + 1)) (l ++ [nextW l]) := by
        rw [show 64 - l.length = (64 - (l.length + 1)) + 1 from by omega]; rfl
      rw [e64]
      exact ih
    · have c' : ¬ ((l.length : Nat) : Int) < 64 := by omega
      have e64 : 64 - l.length = 0 := by omega
      rw [e64]
      simp only [c', decide_false, cond_false]
      exact ⟨rfl, hw⟩
structure V8.W (v : V8) : Prop where
  a : N32 v.a
  b : N32 v.b
  c : N32 v.c
  d : N32 v.d
  e : N32 v.e
  f : N32 v.f
  g : N32 v.g
  z : N32 v.z
theorem rnd_W {v : V8} (h : v.W) (k x : Int) : (rnd v k x).W := ⟨add32_32 _ _, h.a, h.b, h.c, add32_32 _ _, h.e, h.f, h.g⟩
theorem rnds_W {v : V8} (h : v.W) (l : List Int) : ∀ n, (rnds n l v).W
  | 0 => h
  | n + 1 => rnd_W (rnds_W h l n) _ _
theorem K64_W : W32 K64 := by unfold W32 K64; decide +kernel
theorem K64_len : K64.length = 64 := rfl
theorem rolled_rnds (n : Nat) (h w : List Int) (v : V8) (hv : v.W) (hw : W32 w) (hl : w.length = 64) : ∀ (m i : Nat), i ≤ 64 → 64 - i < m →
    r12rolled_loop1 n m h K64 (rnds i w v).list (i : Int) w = some ((h, ((rnds 64 w v).list, ())), ((), ()))
  | 0, i, h1, h2 => by omega
  | m + 1, i, h1, h2 => by
    rw [r12rolled_loop1_succ]
    unfold r12rolled_l1
    by_cases c : i < 64
    · have c' : ((i : Nat) : Int) < 64 := by omega
      have hu := rnds_W hv w i
      have hstep : rnds (i + 1) w v = rnd (rnds i w v) (K64.getD i 0) (w.getD i 0) := rfl
      have ih := rolled_rnds n h w v hv hw hl m (i + 1) (by omega) (by omega)
      rw [hstep] at ih
      obtain ⟨u, hu'⟩ : ∃ u, u = rnds i w v := ⟨_, rfl⟩
      rw [← hu'] at ih hu ⊢
      have iK : i < K64.length := by rw [K64_len]; exact c
      have iw : i < w.length := by omega
      rw [getD_get iK, getD_get iw] at ih
      have nK := K64_W.at iK
      have nw := hw.at iw
      obtain ⟨kk, hkk⟩ : ∃ kk, kk = K64[i] := ⟨_, rfl⟩
      obtain ⟨ww, hww⟩ : ∃ ww, ww = w[i] := ⟨_, rfl⟩
      have iK' : idxL K64 (i : Int) = some kk := by rw [idx_lt iK, hkk]
      have iw' : idxL w (i : Int) = some ww := by rw [idx_lt iw, hww]
      have iw2 : nth w i = some ww := by rw [nth_lt iw, hww]
      rw [← hkk] at ih nK
      rw [← hww] at ih nw
      have j0 : idxL u.list (0 : Int) = some u.a := rfl
      have j1 : idxL u.list (1 : Int) = some u.b := rfl
      have j2 : idxL u.list (2 : Int) = some u.c := rfl
      have j3 : idxL u.list (3 : Int) = some u.d := rfl
      have j4 : idxL u.list (4 : Int) = some u.e := rfl
      have j5 : idxL u.list (5 : Int) = some u.f := rfl
      have j6 : idxL u.list (6 : Int) = some u.g := rfl
      have j7 : idxL u.list (7 : Int) = some u.z := rfl
      have s1 := mixV_n32 hu.e (i := 6) (j := 11) (k := 25) (by decide) (by decide) (by decide)
      have s0 := mixV_n32 hu.a (i := 2) (j := 13) (k := 22) (by decide) (by decide) (by decide)
      have ne := not_same hu.e
      have a1 := and_same hu.e hu.f
      have a2 := and_same ne.2 hu.g
      have x1 := xor_same a1.2 a2.2
      have b1 := and_same hu.a hu.b
      have b2 := and_same hu.a hu.c
      have b3 := and_same hu.b hu.c
      have x2 := xor_same b1.2 b2.2
      have x3 := xor_same x2.2 b3.2
      have wn : IntKind.wrap .i64 ((4294967295 : Int) - u.e) = not32 u.e := by
        have := hu.e.1; have := hu.e.2
        rw [wrap64 (by omega) (by omega), ne.1]
      simp only [c', decide_true, cond_true, letO_some, j0, j1, j2, j3, j4, j5, j6, j7, iK', iw', Int.toNat_natCast, iw2, Option.bind_some]
      rw [qTurn_some hu.e (by decide) (by decide), qTurn_some hu.e (by decide) (by decide), qTurn_some hu.e (by decide) (by decide), qTurn_some hu.a (by decide) (by decide), qTurn_some hu.a (by decide) (by decide), qTurn_some hu.a (by decide) (by decide)]
      simp only [Option.bind_some]
      rw [s1.1, s0.1, wn, a1.1, a2.1, x1.1, b1.1, b2.1, x2.1, b3.1, x3.1]
      have t1 : tW u kk ww = (u.z + mixV u.e 6 11 25 + xorI .u32 (andI .u32 u.e u.f) (andI .u32 (not32 u.e) u.g) + kk + ww) % 4294967296 := rfl
      have t2 : uW u = (mixV u.a 2 13 22 + xorI .u32 (xorI .u32 (andI .u32 u.a u.b) (andI .u32 u.a u.c)) (andI .u32 u.b u.c)) % 4294967296 := rfl
      have h1 := s1.2; have h2 := s0.2; have h3 := x1.2; have h4 := x3.2
      revert t1 t2 h1 h2 h3 h4
      generalize mixV u.e 6 11 25 = S1
      generalize mixV u.a 2 13 22 = S0
      generalize xorI .u32 (andI .u32 u.e u.f) (andI .u32 (not32 u.e) u.g) = CH
      generalize xorI .u32 (xorI .u32 (andI .u32 u.a u.b) (andI .u32 u.a u.c)) (andI .u32 u.b u.c) = MJ
      intro t1 t2 h1 h2 h3 h4
      have r1 := h1.1; have r2 := h1.2; have r3 := h2.1; have r4 := h2.2; have r5 := h3.1; have r6 := h3.2; have r7 := h4.1; have r8 := h4.2
      have r9 := nK.1; have r10 := nK.2; have r11 := nw.1; have r12 := nw.2; have r13 := hu.z.1; have r14 := hu.z.2; have r15 := hu.d.1; have r16 := hu.d.2
      rw [wrap64 (n := u.z + S1) (by omega) (by omega), wrap64 (n := u.z + S1 + CH) (by omega) (by omega), wrap64 (n := u.z + S1 + CH + kk) (by omega) (by omega), wrap64 (n := u.z + S1 + CH + kk + ww) (by omega) (by omega), qMask_some (x := u.z + S1 + CH + kk + ww) (by omega) (by omega), ← t1]
      have r17 : 0 ≤ tW u kk ww := by rw [t1]; omega
      have r18 : tW u kk ww < 4294967296 := by rw [t1]; omega
      have r19 : 0 ≤ uW u := by rw [t2]; omega
      have r20 : uW u < 4294967296 := by rw [t2]; omega
      rw [Option.bind_some, wrap64 (n := S0 + MJ) (by omega) (by omega), qMask_some (x := S0 + MJ) (by omega) (by omega), ← t2, Option.bind_some, wrap64 (n := tW u kk ww + uW u) (by omega) (by omega), qMask_some (x := tW u kk ww + uW u) (by omega) (by omega), Option.bind_some, wrap64 (n := u.d + tW u kk ww) (by omega) (by omega), qMask_some (x := u.d + tW u kk ww) (by omega) (by omega), Option.bind_some, wrap_succ (by omega)]
      exact ih
    · have c' : ¬ ((i : Nat) : Int) < 64 := by omega
      obtain rfl : i = 64 := by omega
      simp only [c', decide_false, cond_false]
theorem rolled_plus (n : Nat) (h v : List Int) (hh : h.length = 8) (hv : v.length = 8) (wh : W32 h) (wv : W32 v) : ∀ (m i : Nat), i ≤ 8 → 8 - i < m →
    r12rolled_loop2 n m h v (i : Int) ((plusS h v).take i) = some ((((), ()), ((), (plusS h v, ()))))
  | 0, i, h1, h2 => by omega
  | m + 1, i, h1, h2 => by
    rw [r12rolled_loop2_succ]
    unfold r12rolled_l2
    have hl : (plusS h v).length = 8 := by unfold plusS; rw [List.length_zipWith, hh, hv]; rfl
    by_cases c : i < 8
    · have c' : ((i : Nat) : Int) < 8 := by omega
      have ih := rolled_plus n h v hh hv wh wv m (i + 1) (by omega) (by omega)
      have i1 : i < h.length := by omega
      have i2 : i < v.length := by omega
      have n1 := wh.at i1; have n2 := wv.at i2
      have r1 := n1.1; have r2 := n1.2; have r3 := n2.1; have r4 := n2.2
      simp only [c', decide_true, cond_true, letO_some, idx_lt i1, idx_lt i2, Option.bind_some]
      rw [wrap64 (by omega) (by omega), qMask_some (by omega) (by omega), Option.bind_some, app_le (by simp; omega), Option.bind_some, wrap_succ (by omega)]
      have e : (plusS h v).take i ++ [(h[i] + v[i]) % 4294967296] = (plusS h v).take (i + 1) := by
        rw [List.take_succ_eq_append_getElem (by omega)]
        unfold plusS
        rw [List.getElem_zipWith]; rfl
      rw [e]
      exact ih
    · have c' : ¬ ((i : Nat) : Int) < 8 := by omega
      obtain rfl : i = 8 := by omega
      simp only [c', decide_false, cond_false]
      rw [List.take_of_length_le (by omega)]
theorem list_W {v : V8} (h : v.W) : W32 v.list := by
  intro x hx
  unfold V8.list at hx
  simp only [List.mem_cons, List.not_mem_nil, or_false] at hx
  rcases hx with rfl | rfl | rfl | rfl | rfl | rfl | rfl | rfl
  · exact h.a
  · exact h.b
  · exact h.c
  · exact h.d
  · exact h.e
  · exact h.f
  · exact h.g
  · exact h.z
theorem of_W {l : List Int} (hl : l.length = 8) (h : W32 l) : (V8.of l).W ∧ (V8.of l).list = l := by
  obtain ⟨a, b, c, d, e, f, g, z, rfl⟩ := list8 hl
  exact ⟨⟨h a (by simp), h b (by simp), h c (by simp), h d (by simp), h e (by simp), h f (by simp), h g (by simp), h z (by simp)⟩, rfl⟩
theorem rolled_spec (n : Nat) (hn : 70 ≤ n) (h b : List Int) (hh : h.length = 8) (hb : b.length = 16) (wh : W32 h) (wb : W32 b) : r12rolled_t n h b K64 = some (plusS h (roundsS h (extS 48 b))) := by
  unfold r12rolled_t
  have e := rolled_ext n h K64 n b (by omega) (by omega) (by omega) wb
  have e16 : 64 - b.length = 48 := by omega
  rw [e16, hb] at e
  have e1 : r12rolled_loop0 n n h K64 (16 : Int) b = _ := e.1
  rw [app_le (by simp; omega), Option.bind_some, List.nil_append, e1, Option.bind_some]
  simp only
  rw [app_le (by simp; omega), Option.bind_some, List.nil_append]
  have o := of_W hh wh
  have r := rolled_rnds n h (extS 48 b) (V8.of h) o.1 e.2 (by rw [extS_length]; omega) n 0 (by omega) (by omega)
  have r0 : (rnds 0 (extS 48 b) (V8.of h)).list = h := o.2
  rw [r0] at r
  have r1 : r12rolled_loop1 n n h K64 h (0 : Int) (extS 48 b) = _ := r
  rw [r1, Option.bind_some]
  simp only
  have p := rolled_plus n h (rnds 64 (extS 48 b) (V8.of h)).list hh rfl wh (list_W (rnds_W o.1 _ _)) n 0 (by omega) (by omega)
  rw [List.take_zero] at p
  have p1 : r12rolled_loop2 n n h (rnds 64 (extS 48 b) (V8.of h)).list (0 : Int) [] = _ := p
  rw [p1]
  rfl
theorem wordV_n32 (s : List UInt8) (i : Nat) : N32 (wordV s i) := by
  unfold wordV wordN
  have := (s.getD (4 * i) 0).toNat_lt; have := (s.getD (4 * i + 1) 0).toNat_lt; have := (s.getD (4 * i + 2) 0).toNat_lt; have := (s.getD (4 * i + 3) 0).toNat_lt
  exact ⟨by omega, by omega⟩
theorem words_W (s : List UInt8) (k : Nat) : W32 (wordsS s k) := by
  intro x hx
  unfold wordsS at hx
  obtain ⟨i, _, rfl⟩ := List.mem_map.1 hx
  exact wordV_n32 s i
theorem rolled_step (n : Nat) (hn : 70 ≤ n) (h : List Int) (s : List UInt8) (hh : h.length = 8) (wh : W32 h) : r12rolled_t n h (wordsS s 16) K64 = some (stepS h s) := by
  rw [rolled_spec n hn h (wordsS s 16) hh (wordsS_length _ _) wh (words_W _ _)]; rfl
end YtbcdlkapapajoaaDoor.AM
end Go.Proofs

/- Layer 12: what the document's functions come to. -/
namespace Go.Proofs
open Go.RowKit Go.Shelf Go.Lib
set_option linter.unusedVariables false
set_option linter.unusedSimpArgs false
namespace YtbcdlkapapajoaaDoor.AM
theorem shl_nat {x k : Nat} (hk : k ≤ 64) (h : x * 2 ^ k < 9223372036854775808) : shlO .i64 (x : Int) (k : Int) = some ((x * 2 ^ k : Nat) : Int) := by
  unfold shlO
  have b1 : min ((k : Int).toNat) (IntKind.bits .i64) = k := by show min _ 64 = _; omega
  rw [if_pos (by omega), b1, pow_nat, ← Int.natCast_mul, wrap64 (by omega) (by omega)]
theorem words_loop (n : Nat) (s : List UInt8) (hs : s.length ≤ 1000000) : ∀ (m k : Nat), s.length / 4 - k < m → k ≤ s.length / 4 → r12Words_loop0 n m s ((4 * k : Nat) : Int) (wordsS s k) = some (((), ()), ((), (wordsS s (s.length / 4), ())))
  | 0, k, h1, h2 => by omega
  | m + 1, k, h1, h2 => by
    rw [r12Words_loop0_succ]
    unfold r12Words_l0
    have w3 : IntKind.wrap .i64 (((4 * k : Nat) : Int) + (3 : Int)) = ((4 * k + 3 : Nat) : Int) := wrap_add (j := 3) (by omega) (by omega)
    rw [letO_some, w3]
    by_cases c : 4 * k + 3 < s.length
    · have c' : ((4 * k + 3 : Nat) : Int) < ((s.length : Nat) : Int) := by omega
      have w1 : IntKind.wrap .i64 (((4 * k : Nat) : Int) + (1 : Int)) = ((4 * k + 1 : Nat) : Int) := wrap_add (j := 1) (by omega) (by omega)
      have w2 : IntKind.wrap .i64 (((4 * k : Nat) : Int) + (2 : Int)) = ((4 * k + 2 : Nat) : Int) := wrap_add (j := 2) (by omega) (by omega)
      have w4 : IntKind.wrap .i64 (((4 * k : Nat) : Int) + (4 : Int)) = ((4 * (k + 1) : Nat) : Int) := wrap_add (j := 4) (by omega) (by omega)
      have l0 : 4 * k < s.length := by omega
      have l1 : 4 * k + 1 < s.length := by omega
      have l2 : 4 * k + 2 < s.length := by omega
      have b0 := s[4 * k].toNat_lt; have b1 := s[4 * k + 1].toNat_lt; have b2 := s[4 * k + 2].toNat_lt; have b3 := s[4 * k + 3].toNat_lt
      have z0 := wrap_nat (i := s[4 * k].toNat) (by omega)
      have z1 := wrap_nat (i := s[4 * k + 1].toNat) (by omega)
      have z2 := wrap_nat (i := s[4 * k + 2].toNat) (by omega)
      have z3 := wrap_nat (i := s[4 * k + 3].toNat) (by omega)
      have y0 : shlO .i64 ((s[4 * k].toNat : Nat) : Int) (24 : Int) = some ((s[4 * k].toNat * 2 ^ 24 : Nat) : Int) := shl_nat (k := 24) (by omega) (by omega)
      have y1 : shlO .i64 ((s[4 * k + 1].toNat : Nat) : Int) (16 : Int) = some ((s[4 * k + 1].toNat * 2 ^ 16 : Nat) : Int) := shl_nat (k := 16) (by omega) (by omega)
      have y2 : shlO .i64 ((s[4 * k + 2].toNat : Nat) : Int) (8 : Int) = some ((s[4 * k + 2].toNat * 2 ^ 8 : Nat) : Int) := shl_nat (k := 8) (by omega) (by omega)
      have v1 := wrap_add (i := s[4 * k].toNat * 2 ^ 24) (j := s[4 * k + 1].toNat * 2 ^ 16) (by omega) (by omega)
      have v2 := wrap_add (i := s[4 * k].toNat * 2 ^ 24 + s[4 * k + 1].toNat * 2 ^ 16) (j := s[4 * k + 2].toNat * 2 ^ 8) (by omega) (by omega)
      have v3 := wrap_add (i := s[4 * k].toNat * 2 ^ 24 + s[4 * k + 1].toNat * 2 ^ 16 + s[4 * k + 2].toNat * 2 ^ 8) (j := s[4 * k + 3].toNat) (by omega) (by omega)
      simp only [c', decide_true, cond_true, letO_some, w1, w2, sAt_lt l0, sAt_lt l1, sAt_lt l2, sAt_lt c, Option.bind_some, z0, z1, z2, z3, y0, y1, y2]
      rw [v1, v2, v3]
      have e : ((s[4 * k].toNat * 2 ^ 24 + s[4 * k + 1].toNat * 2 ^ 16 + s[4 * k + 2].toNat * 2 ^ 8 + s[4 * k + 3].toNat : Nat) : Int) = wordV s k := by
        unfold wordV wordN
        have g (j : Nat) (h : j < s.length) : s.getD j 0 = s[j] := by rw [List.getD_eq_getElem?_getD, List.getElem?_eq_getElem h]; rfl
        rw [g _ l0, g _ l1, g _ l2, g _ c]
        omega
      rw [e, app_le (by rw [wordsS_length]; simp; omega), Option.bind_some, w4, ← wordsS_succ]
      exact words_loop n s hs m (k + 1) (by omega) (by omega)
    · have c' : ¬ ((4 * k + 3 : Nat) : Int) < ((s.length : Nat) : Int) := by omega
      have e : k = s.length / 4 := by omega
      simp only [c', decide_false, cond_false]
      rw [e]
theorem words_spec (n : Nat) (s : List UInt8) (hs : s.length ≤ 1000000) (hn : s.length / 4 < n) : r12Words_t n s = some (wordsS s (s.length / 4)) := by
  unfold r12Words_t
  have h : r12Words_loop0 n n s (0 : Int) [] = _ := words_loop n s hs n 0 (by omega) (by omega)
  rw [h]; rfl
def intsB (l : List UInt8) : List Int := l.map fun c => ((c.toNat : Nat) : Int)
theorem unB_ints (l : List UInt8) : List.map (fun n : Int => UInt8.ofNat n.toNat) (intsB l) = l := by
  unfold intsB
  rw [List.map_map]
  conv => rhs; rw [← List.map_id l]
  apply List.map_congr_left
  intro c _
  show UInt8.ofNat ((c.toNat : Int).toNat) = c
  rw [Int.toNat_natCast, UInt8.ofNat_toNat]
theorem intsB_length (l : List UInt8) : (intsB l).length = l.length := by simp [intsB]
theorem intsB_append (a b : List UInt8) : intsB (a ++ b) = intsB a ++ intsB b := by simp [intsB]
theorem shr_nat {x k : Nat} (hk : k ≤ 64) : shrO .i64 (x : Int) (k : Int) = some ((x / 2 ^ k : Nat) : Int) := by
  unfold shrO
  have b1 : min ((k : Int).toNat) (IntKind.bits .i64) = k := by show min _ 64 = _; omega
  rw [if_pos (by omega), b1, pow_nat, fdiv_nat]
theorem wrap8' {x : Nat} : IntKind.wrap .u8 (x : Int) = ((x % 256 : Nat) : Int) := by
  have : IntKind.wrap .u8 (x : Int) = (x : Int) % 256 := rfl
  rw [this]; omega
theorem and255 (x : Nat) (h : x < 2 ^ 32) : andI .i64 (x : Int) (255 : Int) = ((x % 256 : Nat) : Int) := by
  have := and64 (a := x) (b := 255) h (by decide)
  rw [show (255 : Nat) = 2 ^ 8 - 1 from rfl, Nat.and_two_pow_sub_one_eq_mod] at this
  exact this
theorem lay_ints {v : Nat} (h : v < 2 ^ 32) : intsB (layV (v : Int)) = [((v / 16777216 % 256 : Nat) : Int), ((v / 65536 % 256 : Nat) : Int), ((v / 256 % 256 : Nat) : Int), ((v % 256 : Nat) : Int)] := by
  rw [layV_eq]
  unfold intsB
  simp only [List.map_cons, List.map_nil, UInt8.toNat_ofNat']
theorem bytes_loop (n : Nat) (l : List Int) (hw : W32 l) (hl : l.length ≤ 1000000) : ∀ (m k : Nat), l.length - k < m → k ≤ l.length → r12Bytes_loop0 n m l (k : Int) (intsB (textS (l.take k))) = some (((), ()), ((), (intsB (textS l), ())))
  | 0, k, h1, h2 => by omega
  | m + 1, k, h1, h2 => by
    rw [r12Bytes_loop0_succ]
    unfold r12Bytes_l0
    by_cases c : k < l.length
    · have c' : (k : Int) < ((l.length : Nat) : Int) := by omega
      obtain ⟨v, hv, hv2⟩ := (hw.at c).nat
      have y1 : shrO .i64 (v : Int) (24 : Int) = some ((v / 16777216 : Nat) : Int) := shr_nat (k := 24) (by omega)
      have y2 : shrO .i64 (v : Int) (16 : Int) = some ((v / 65536 : Nat) : Int) := shr_nat (k := 16) (by omega)
      have y3 : shrO .i64 (v : Int) (8 : Int) = some ((v / 256 : Nat) : Int) := shr_nat (k := 8) (by omega)
      have z2 := and255 (v / 65536) (by omega)
      have z3 := and255 (v / 256) (by omega)
      have z4 := and255 v hv2
      have hlen : (textS (l.take k)).length = 4 * k := by rw [textS_length, List.length_take]; omega
      rw [decide_eq_true c', cond_true, idx_lt c, hv, Option.bind_some, y1, Option.bind_some, letO_some, wrap8', Option.bind_some, y2, Option.bind_some, letO_some, z2, letO_some, wrap8', Nat.mod_mod, Option.bind_some, y3, Option.bind_some, letO_some, z3, letO_some, wrap8', Nat.mod_mod, Option.bind_some, letO_some, z4, letO_some, wrap8', Nat.mod_mod]
      rw [app_le (by rw [intsB_length, hlen]; simp; omega), Option.bind_some, wrap_succ (by omega)]
      have e : intsB (textS (l.take k)) ++ [((v / 16777216 % 256 : Nat) : Int), ((v / 65536 % 256 : Nat) : Int), ((v / 256 % 256 : Nat) : Int), ((v % 256 : Nat) : Int)] = intsB (textS (l.take (k + 1))) := by
        rw [textS_succ c, intsB_append, getD_get c, hv, lay_ints hv2]
      rw [e]
      exact bytes_loop n l hw hl m (k + 1) (by omega) (by omega)
    · have c' : ¬ (k : Int) < ((l.length : Nat) : Int) := by omega
      simp only [c', decide_false, cond_false]
      rw [List.take_of_length_le (by omega)]
theorem bytes_spec (n : Nat) (l : List Int) (hw : W32 l) (hl : l.length ≤ 1000000) (hn : l.length < n) : r12Bytes_t n l = some (textS l) := by
  unfold r12Bytes_t
  have h : r12Bytes_loop0 n n l (0 : Int) [] = _ := bytes_loop n l hw hl n 0 (by omega) (by omega)
  rw [h, Option.bind_some]
  simp only [unB_ints]
theorem hex_loop (n : Nat) (s : List UInt8) (hs : s.length ≤ 1000000) : ∀ (m k : Nat), s.length - k < m → k ≤ s.length → r12Hex_loop0 n m s digT (k : Int) (intsB (hexS (s.take k))) = some (((), ()), ((), (intsB (hexS s), ())))
  | 0, k, h1, h2 => by omega
  | m + 1, k, h1, h2 => by
    rw [r12Hex_loop0_succ]
    unfold r12Hex_l0
    by_cases c : k < s.length
    · have c' : (k : Int) < ((s.length : Nat) : Int) := by omega
      have hb := s[k].toNat_lt
      have q1 : quoO .u8 ((s[k].toNat : Nat) : Int) (16 : Int) = some ((s[k].toNat / 16 : Nat) : Int) := by
        unfold quoO
        rw [if_pos (by decide)]
        have : ((s[k].toNat : Nat) : Int).tdiv 16 = ((s[k].toNat / 16 : Nat) : Int) := rfl
        rw [this, wrap8']
        congr 2
        exact Nat.mod_eq_of_lt (by omega)
      have q2 : remO ((s[k].toNat : Nat) : Int) (16 : Int) = some ((s[k].toNat % 16 : Nat) : Int) := by
        unfold remO
        rw [if_pos (by decide)]; rfl
      have d1 : s[k].toNat / 16 < digT.length := by show _ < 16; omega
      have d2 : s[k].toNat % 16 < digT.length := by show _ < 16; omega
      have hlen : (hexS (s.take k)).length = 2 * k := by rw [hexS_length, List.length_take]; omega
      have g (j : Nat) (h : j < digT.length) : digT.getD j 0 = digT[j] := by rw [List.getD_eq_getElem?_getD, List.getElem?_eq_getElem h]; rfl
      simp only [c', decide_true, cond_true, sAt_lt c, Option.bind_some, q1, q2, sAt_lt d1, sAt_lt d2, letO_some]
      rw [app_le (by rw [intsB_length, hlen]; simp; omega), Option.bind_some, wrap_succ (by omega)]
      have e : intsB (hexS (s.take k)) ++ [((digT[s[k].toNat / 16].toNat : Nat) : Int), ((digT[s[k].toNat % 16].toNat : Nat) : Int)] = intsB (hexS (s.take (k + 1))) := by
        rw [hexS_succ c, g _ d1, g _ d2, intsB_append, intsB_append]
        simp [intsB]
      rw [e]
      exact hex_loop n s hs m (k + 1) (by omega) (by omega)
    · have c' : ¬ (k : Int) < ((s.length : Nat) : Int) := by omega
      simp only [c', decide_false, cond_false]
      rw [List.take_of_length_le (by omega)]
theorem hex_spec (n : Nat) (s : List UInt8) (hs : s.length ≤ 1000000) (hn : s.length < n) : r12Hex_t n s = some (hexS s) := by
  unfold r12Hex_t
  have h : r12Hex_loop0 n n s digT (0 : Int) [] = _ := hex_loop n s hs n 0 (by omega) (by omega)
  have h' : r12Hex_loop0 n n s ([48, 49, 50, 51, 52, 53, 54, 55, 56, 57, 97, 98, 99, 100, 101, 102] : List UInt8) (0 : Int) [] = _ := h
  rw [h', Option.bind_some]
  simp only [unB_ints]
theorem pad_zeros (n : Nat) (z : Nat) (hz : z ≤ 1099511627776) : ∀ (m k : Nat), k ≤ zerosN z → zerosN z - k < m → r12Pad_loop0 n m (z : Int) ((128 : Int) :: List.replicate k 0) = some (((z : Int), ((), ())), ((), ((128 : Int) :: List.replicate (zerosN z) 0, ())))
  | 0, k, h1, h2 => by omega
  | m + 1, k, h1, h2 => by
    rw [r12Pad_loop0_succ]
    unfold r12Pad_l0
    have hk : k < 64 := by unfold zerosN at h1; omega
    have hl : ((128 : Int) :: List.replicate k 0).length = k + 1 := by simp
    have w1 : IntKind.wrap .i64 ((z : Int) + ((k + 1 : Nat) : Int)) = ((z + (k + 1) : Nat) : Int) := by rw [wrap64 (by omega) (by omega)]; rfl
    have w2 : IntKind.wrap .i64 (((z + (k + 1) : Nat) : Int) + (8 : Int)) = ((z + (k + 1) + 8 : Nat) : Int) := by rw [wrap64 (by omega) (by omega)]; rfl
    have r1 : remO ((z + (k + 1) + 8 : Nat) : Int) (64 : Int) = some (((z + (k + 1) + 8) % 64 : Nat) : Int) := by
      unfold remO; rw [if_pos (by decide)]; rfl
    simp only [letO_some, hl, w1, w2, r1, Option.bind_some]
    by_cases c : k < zerosN z
    · have c' : ¬ (((z + (k + 1) + 8) % 64 : Nat) : Int) = 0 := by unfold zerosN at c; omega
      simp only [c', decide_false, Bool.not_false, cond_true]
      rw [app_le (by simp; omega), Option.bind_some]
      have e : ((128 : Int) :: List.replicate k 0) ++ [0] = (128 : Int) :: List.replicate (k + 1) 0 := by rw [List.replicate_succ', List.cons_append]
      rw [e]
      exact pad_zeros n z hz m (k + 1) (by omega) (by omega)
    · have e : k = zerosN z := by omega
      have c' : (((z + (k + 1) + 8) % 64 : Nat) : Int) = 0 := by rw [e]; unfold zerosN; omega
      simp only [c', decide_true, Bool.not_true, cond_false]
      rw [e]
theorem pad_bits (n mm z : Nat) (hz : z ≤ 1099511627776) (l : List Int) (hl : l.length ≤ 72) : r12Pad_loop1 n (mm + 9) (z : Int) (7 : Int) l = some (((), ()), ((), (l ++ [((8 * z / 72057594037927936 % 256 : Nat) : Int), ((8 * z / 281474976710656 % 256 : Nat) : Int), ((8 * z / 1099511627776 % 256 : Nat) : Int), ((8 * z / 4294967296 % 256 : Nat) : Int), ((8 * z / 16777216 % 256 : Nat) : Int), ((8 * z / 65536 % 256 : Nat) : Int), ((8 * z / 256 % 256 : Nat) : Int), ((8 * z % 256 : Nat) : Int)], ()))) := by
  have a64 (x : Nat) (h : x < 18446744073709551616) : andI .i64 (x : Int) (255 : Int) = ((x % 256 : Nat) : Int) := by
    unfold andI
    show IntKind.wrap .i64 (((BitVec.ofInt 64 (x : Int) &&& BitVec.ofInt 64 (255 : Int)).toNat : Nat) : Int) = _
    have h2 : (BitVec.ofInt 64 (255 : Int)).toNat = 2 ^ 8 - 1 := by decide +kernel
    rw [BitVec.toNat_and, h2, ofInt_nat h, Nat.and_two_pow_sub_one_eq_mod, wrap_nat (by omega)]
  have w8 : IntKind.wrap .i64 ((8 : Int) * (z : Int)) = ((8 * z : Nat) : Int) := by rw [wrap64 (by omega) (by omega)]; rfl
  have step (m j : Nat) (hj : j ≤ 7) (a : List Int) (ha : a.length ≤ 80) (i2 : Int) (hi : i2 = (j : Int) - 1) : r12Pad_loop1 n (m + 1) (z : Int) (j : Int) a = r12Pad_loop1 n m (z : Int) i2 (a ++ [((8 * z / 2 ^ (8 * j) % 256 : Nat) : Int)]) := by
    rw [r12Pad_loop1_succ]
    unfold r12Pad_l1
    have c' : (0 : Int) ≤ (j : Int) := by omega
    have wj : IntKind.wrap .i64 ((8 : Int) * (j : Int)) = ((8 * j : Nat) : Int) := by rw [wrap64 (by omega) (by omega)]; rfl
    have wm : IntKind.wrap .i64 ((j : Int) - (1 : Int)) = i2 := by rw [wrap64 (by omega) (by omega), hi]
    have hd : 8 * z / 2 ^ (8 * j) < 18446744073709551616 := Nat.lt_of_le_of_lt (Nat.div_le_self _ _) (by omega)
    simp only [c', decide_true, cond_true, letO_some, w8, wj, shr_nat (x := 8 * z) (k := 8 * j) (by omega), Option.bind_some, a64 _ hd, wrap8', Nat.mod_mod]
    rw [app_le (by simp; omega), Option.bind_some, wm]
  have s7 := step (mm + 8) 7 (by omega) l (by omega) ((6 : Nat) : Int) (by omega)
  have e7 : r12Pad_loop1 n (mm + 9) (z : Int) (7 : Int) l = _ := s7
  rw [e7, step (mm + 7) 6 (by omega) _ (by simp; omega) ((5 : Nat) : Int) (by omega), step (mm + 6) 5 (by omega) _ (by simp; omega) ((4 : Nat) : Int) (by omega), step (mm + 5) 4 (by omega) _ (by simp; omega) ((3 : Nat) : Int) (by omega), step (mm + 4) 3 (by omega) _ (by simp; omega) ((2 : Nat) : Int) (by omega), step (mm + 3) 2 (by omega) _ (by simp; omega) ((1 : Nat) : Int) (by omega), step (mm + 2) 1 (by omega) _ (by simp; omega) ((0 : Nat) : Int) (by omega), step (mm + 1) 0 (by omega) _ (by simp; omega) (-1) (by omega), r12Pad_loop1_succ]
  unfold r12Pad_l1
  simp
end YtbcdlkapapajoaaDoor.AM
end Go.Proofs

/- Layer 12: what the laws come to. -/
namespace Go.Proofs
open Go.RowKit Go.Shelf Go.Lib
set_option linter.unusedVariables false
set_option linter.unusedSimpArgs false
namespace YtbcdlkapapajoaaDoor.AM
theorem ofN_eq {a b : Nat} (h : a % 256 = b % 256) : UInt8.ofNat a = UInt8.ofNat b := by
  apply UInt8.toNat_inj.1
  rw [UInt8.toNat_ofNat', UInt8.toNat_ofNat']
  omega
theorem pad_spec (n : Nat) (hn : 80 ≤ n) (z : Int) : r12Pad_t n z = some (padI z) := by
  unfold r12Pad_t
  by_cases c0 : z < 0
  · have e : padI z = [] := by unfold padI; rw [if_pos (Or.inl c0)]
    rw [decide_eq_true c0, cond_true, e]
  · by_cases c1 : 1099511627776 < z
    · have e : padI z = [] := by unfold padI; rw [if_pos (Or.inr c1)]
      rw [decide_eq_false c0, cond_false, decide_eq_true c1, cond_true, e]
    · obtain ⟨k, rfl⟩ : ∃ k : Nat, z = (k : Int) := ⟨z.toNat, by omega⟩
      have hk : k ≤ 1099511627776 := by omega
      have hz := (zeros_mod k).2
      rw [decide_eq_false c0, cond_false, decide_eq_false c1, cond_false, padI_pos hk]
      have h := pad_zeros n k hk n 0 (by omega) (by omega)
      have h' : r12Pad_loop0 n n (k : Int) ([(128 : Int)] : List (Int)) = _ := h
      rw [h', Option.bind_some]
      simp only
      obtain ⟨m, rfl⟩ : ∃ m, n = m + 9 := ⟨n - 9, by omega⟩
      rw [pad_bits (m + 9) m k hk _ (by simp; omega), Option.bind_some]
      simp only
      rw [padS_eq]
      congr 1
      rw [List.map_append, List.map_cons, List.map_replicate]
      simp only [List.map_cons, List.map_nil, Int.toNat_natCast, List.cons_append]
      rw [ofN_eq (a := 8 * k / 72057594037927936 % 256) (b := 8 * k / 4294967296 / 16777216) (by omega), ofN_eq (a := 8 * k / 281474976710656 % 256) (b := 8 * k / 4294967296 / 65536) (by omega), ofN_eq (a := 8 * k / 1099511627776 % 256) (b := 8 * k / 4294967296 / 256) (by omega), ofN_eq (a := 8 * k / 4294967296 % 256) (b := 8 * k / 4294967296) (by omega), ofN_eq (a := 8 * k / 16777216 % 256) (b := 8 * k % 4294967296 / 16777216) (by omega), ofN_eq (a := 8 * k / 65536 % 256) (b := 8 * k % 4294967296 / 65536) (by omega), ofN_eq (a := 8 * k / 256 % 256) (b := 8 * k % 4294967296 / 256) (by omega), ofN_eq (a := 8 * k % 256) (b := 8 * k % 4294967296) (by omega)]
      rfl
theorem block_spec (n : Nat) (hn : 70 ≤ n) (h b : List UInt8) : r12Block_t n h b = some (blockS h b) := by
  unfold r12Block_t blockS
  by_cases c1 : h.length = 32
  · have c1' : ((h.length : Nat) : Int) = 32 := by omega
    rw [decide_eq_true c1', Bool.not_true, cond_false]
    by_cases c2 : b.length = 64
    · have c2' : ((b.length : Nat) : Int) = 64 := by omega
      rw [decide_eq_true c2', Bool.not_true, cond_false, if_pos ⟨c1, c2⟩, words_spec n h (by omega) (by omega), Option.bind_some, words_spec n b (by omega) (by omega), Option.bind_some]
      have e1 : h.length / 4 = 8 := by omega
      have e2 : b.length / 4 = 16 := by omega
      have eK : r12K_t n = some K64 := rfl
      rw [e1, e2, eK, Option.bind_some, rolled_step n hn (wordsS h 8) b (wordsS_length _ _) (words_W _ _), Option.bind_some, bytes_spec n _ (stepS_W _ _) (by rw [stepS_length (wordsS_length _ _)]; omega) (by rw [stepS_length (wordsS_length _ _)]; omega), Option.bind_some, thrS_step (s := b) (by omega), thrS_end (by rw [List.length_drop]; omega)]
    · have c2' : ¬ ((b.length : Nat) : Int) = 64 := by omega
      rw [decide_eq_false c2', Bool.not_false, cond_true, if_neg (fun x => c2 x.2)]
  · have c1' : ¬ ((h.length : Nat) : Int) = 32 := by omega
    rw [decide_eq_false c1', Bool.not_false, cond_true, if_neg (fun x => c1 x.1)]
theorem of_loop (n : Nat) (hn : 70 ≤ n) (t : List UInt8) (ht : t.length ≤ 100000) (hm : t.length % 64 = 0) : ∀ (m k : Nat) (h : List Int), h.length = 8 → W32 h → t.length / 64 - k < m → k ≤ t.length / 64 →
    r12Of_loop0 n m h K64 t ((64 * k : Nat) : Int) = some ((thrS h (t.drop (64 * k)), ()), ((), ()))
  | 0, k, h, hl, hw, h1, h2 => by omega
  | m + 1, k, h, hl, hw, h1, h2 => by
    rw [r12Of_loop0_succ]
    unfold r12Of_l0
    by_cases c : k < t.length / 64
    · have c' : ((64 * k : Nat) : Int) < ((t.length : Nat) : Int) := by omega
      have w1 : IntKind.wrap .i64 (((64 * k : Nat) : Int) + (64 : Int)) = ((64 * (k + 1) : Nat) : Int) := wrap_add (j := 64) (by omega) (by omega)
      have hd : 64 ≤ (t.drop (64 * k)).length := by rw [List.length_drop]; omega
      rw [decide_eq_true c', cond_true, letO_some, w1, sub_le (by omega) (by omega), Option.bind_some, words_spec n _ (by rw [List.length_take, List.length_drop]; omega) (by rw [List.length_take, List.length_drop]; omega), Option.bind_some]
      have e1 : ((t.drop (64 * k)).take (64 * (k + 1) - 64 * k)).length / 4 = 16 := by rw [List.length_take, List.length_drop]; omega
      rw [e1, rolled_step n hn h _ hl hw, Option.bind_some, letO_some]
      have e2 : 64 * (k + 1) - 64 * k = 64 := by omega
      have ih := of_loop n hn t ht hm m (k + 1) (stepS h (t.drop (64 * k))) (stepS_length hl _) (stepS_W _ _) (by omega) (by omega)
      rw [e2, stepS_take hd, thrS_step hd, List.drop_drop, show 64 * k + 64 = 64 * (k + 1) from by omega]
      exact ih
    · have e : k = t.length / 64 := by omega
      have c' : ¬ ((64 * k : Nat) : Int) < ((t.length : Nat) : Int) := by omega
      rw [decide_eq_false c', cond_false, thrS_end (by rw [List.length_drop]; omega)]
theorem ofS_length (s : List UInt8) : (ofS s).length = 32 := by
  unfold ofS; rw [textS_length, thrS_length (thrS_length rfl _)]
theorem pad_whole (s : List UInt8) : (s ++ padS s.length).length = s.length + 9 + zerosN s.length := by rw [List.length_append, padS_length]; omega
theorem of_spec (n : Nat) (hn : 200 ≤ n) (s : List UInt8) (hs : s.length ≤ 4000) : r12Of_t n s = some (ofS s) := by
  unfold r12Of_t
  have z := zeros_mod s.length
  have hl := pad_whole s
  have eH : r12H_t n = some H8 := rfl
  have eK : r12K_t n = some K64 := rfl
  have hp : (padS s.length).length = 9 + zerosN s.length := padS_length _
  have ec : catO s (padS s.length) = some (s ++ padS s.length) := by unfold catO; rw [if_pos (by omega)]
  rw [eH, Option.bind_some, eK, Option.bind_some, pad_spec n (by omega), Option.bind_some, padI_pos (by omega), ec, Option.bind_some]
  have h := of_loop n (by omega) (s ++ padS s.length) (by omega) (by omega) n 0 H8 rfl H8_W (by omega) (by omega)
  have h' : r12Of_loop0 n n H8 K64 (s ++ padS s.length) (0 : Int) = _ := h
  rw [h', Option.bind_some]
  simp only
  rw [Nat.mul_zero, List.drop_zero, bytes_spec n _ (thrS_W _ H8_W) (by rw [thrS_length rfl]; omega) (by rw [thrS_length rfl]; omega), ofS_eq]
  rfl
theorem live12 (n : Nat) : lD12live_t n = some true := by kernel_rfl
theorem lDHex_true (a b : List UInt8) : lDHex_t 1 a b = some true := by
  unfold lDHex_t
  rw [live12]
  by_cases c1 : (2000 : Int) < ((a.length : Nat) : Int)
  · rw [decide_eq_true c1, cond_true]; rfl
  by_cases c2 : (2000 : Int) < ((b.length : Nat) : Int)
  · rw [decide_eq_false c1, cond_false, decide_eq_true c2, cond_true]; rfl
  have h (s : List UInt8) (hs : s.length ≤ 4000) : fHex_t s = some (hexS s) := by unfold fHex_t; rw [if_pos (by omega)]
  have w : IntKind.wrap .i64 ((2 : Int) * ((a.length : Nat) : Int)) = ((2 * a.length : Nat) : Int) := by rw [wrap64 (by omega) (by omega)]; rfl
  have e1 : catO a b = some (a ++ b) := by unfold catO; rw [if_pos (by omega)]
  have e2 : catO (hexS a) (hexS b) = some (hexS a ++ hexS b) := by unfold catO; rw [if_pos (by rw [hexS_length, hexS_length]; omega)]
  rw [decide_eq_false c1, cond_false, decide_eq_false c2, cond_false, h a (by omega), Option.bind_some, h b (by omega), Option.bind_some, letO_some, w, hexS_length, decide_eq_true (show ((2 * a.length : Nat) : Int) = ((2 * a.length : Nat) : Int) from rfl), cond_true, e1, Option.bind_some, h (a ++ b) (by rw [List.length_append]; omega), Option.bind_some, e2, Option.bind_some, hexS_append, decide_eq_true (show hexS a ++ hexS b = hexS a ++ hexS b from rfl), cond_true]
  have d1 : decide (hexS a = hexS b) = decide (a = b) := by simp only [hex_eq]
  rw [d1, decide_eq_true (show decide (a = b) = decide (a = b) from rfl), cond_true, hex_lt, decide_eq_true (show ltS a b = ltS a b from rfl), cond_true, Option.bind_some]
theorem fPad_some {n : Int} (h1 : -9223372036854775808 ≤ n) (h2 : n ≤ 9223372036854775807) : fPad_t n = some (padI n) := by unfold fPad_t; rw [if_pos ⟨h1, h2⟩]
theorem fOf_some {s : List UInt8} (h : s.length ≤ 900000) : fOf_t s = some (ofS s) := by unfold fOf_t; rw [if_pos h]
theorem fHex_some {s : List UInt8} (h : s.length ≤ 1000000) : fHex_t s = some (hexS s) := by unfold fHex_t; rw [if_pos h]
theorem fBlock_some {s t : List UInt8} (h : s.length ≤ 1000000) (h2 : t.length ≤ 1000000) : fBlock_t s t = some (blockS s t) := by unfold fBlock_t; rw [if_pos ⟨h, h2⟩]
theorem wf_i64 {n : Int} (h : (Lit.int .i64 n).wf = true) : -9223372036854775808 ≤ n ∧ n ≤ 9223372036854775807 := by
  simp [Lit.wf, IntKind.min, IntKind.max, IntKind.signed, IntKind.bits] at h
  omega
theorem lDTells_true (a b : List UInt8) (n : Int) (_ : a.length ≤ maxLen) (_ : b.length ≤ maxLen) (hw : (Lit.int .i64 n).wf = true) : lDTells_t 1000 a b n = some true := by
  obtain ⟨h1, h2⟩ := wf_i64 hw
  unfold lDTells_t
  rw [live12]
  by_cases c1 : (600 : Int) < ((a.length : Nat) : Int)
  · rw [decide_eq_true c1, cond_true]; rfl
  by_cases c2 : (600 : Int) < ((b.length : Nat) : Int)
  · rw [decide_eq_false c1, cond_false, decide_eq_true c2, cond_true]; rfl
  rw [decide_eq_false c1, cond_false, decide_eq_false c2, cond_false, fBlock_some (by omega) (by omega), Option.bind_some, block_spec 1000 (by omega), Option.bind_some, fOf_some (by omega), Option.bind_some, of_spec 1000 (by omega) a (by omega), Option.bind_some, decide_eq_true (show ofS a = ofS a from rfl), cond_true, fHex_some (by omega), Option.bind_some, hex_spec 1000 a (by omega) (by omega), Option.bind_some, decide_eq_true (show hexS a = hexS a from rfl), cond_true, fPad_some h1 h2, Option.bind_some, pad_spec 1000 (by omega), Option.bind_some, decide_eq_true (show padI n = padI n from rfl), cond_true, decide_eq_true (show (blockS b a).1 = (blockS b a).1 from rfl), cond_true, decide_eq_true (show (blockS b a).2 = (blockS b a).2 from rfl), cond_true, Option.bind_some]
/-! DigestPads -/
def bits8 (n : Nat) : List UInt8 := [UInt8.ofNat (8 * n / 4294967296 / 16777216), UInt8.ofNat (8 * n / 4294967296 / 65536), UInt8.ofNat (8 * n / 4294967296 / 256), UInt8.ofNat (8 * n / 4294967296), UInt8.ofNat (8 * n % 4294967296 / 16777216), UInt8.ofNat (8 * n % 4294967296 / 65536), UInt8.ofNat (8 * n % 4294967296 / 256), UInt8.ofNat (8 * n % 4294967296)]
theorem padS_parts (n : Nat) : padS n = ((128 : UInt8) :: List.replicate (zerosN n) 0) ++ bits8 n := by rw [padS_eq]; rfl
theorem bits8_at (n j : Nat) (hn : n ≤ 1099511627776) (hj : j < 8) : ((bits8 n)[j]'hj).toNat = 8 * n / 256 ^ (7 - j) % 256 := by
  unfold bits8
  match j, hj with
  | 0, _ => show (UInt8.ofNat _).toNat = 8 * n / 72057594037927936 % 256; rw [UInt8.toNat_ofNat']; omega
  | 1, _ => show (UInt8.ofNat _).toNat = 8 * n / 281474976710656 % 256; rw [UInt8.toNat_ofNat']; omega
  | 2, _ => show (UInt8.ofNat _).toNat = 8 * n / 1099511627776 % 256; rw [UInt8.toNat_ofNat']; omega
  | 3, _ => show (UInt8.ofNat _).toNat = 8 * n / 4294967296 % 256; rw [UInt8.toNat_ofNat']
  | 4, _ => show (UInt8.ofNat _).toNat = 8 * n / 16777216 % 256; rw [UInt8.toNat_ofNat']; omega
  | 5, _ => show (UInt8.ofNat _).toNat = 8 * n / 65536 % 256; rw [UInt8.toNat_ofNat']; omega
  | 6, _ => show (UInt8.ofNat _).toNat = 8 * n / 256 % 256; rw [UInt8.toNat_ofNat']; omega
  | 7, _ => show (UInt8.ofNat _).toNat = 8 * n / 1 % 256; rw [UInt8.toNat_ofNat']; omega
  | j + 8, h => omega
theorem pad_at (n j : Nat) (hn : n ≤ 1099511627776) (hj : j < 8) : sAt (padS n) ((1 + zerosN n + j : Nat) : Int) = some ((8 * n / 256 ^ (7 - j) % 256 : Nat) : Int) := by
  have hl : 1 + zerosN n + j < (padS n).length := by rw [padS_length]; omega
  rw [sAt_lt hl]
  have e : (padS n)[1 + zerosN n + j]'hl = (bits8 n)[j]'hj := by
    have hl2 : 1 + zerosN n + j < (((128 : UInt8) :: List.replicate (zerosN n) 0) ++ bits8 n).length := by rw [← padS_parts]; exact hl
    have e1 : (padS n)[1 + zerosN n + j]'hl = (((128 : UInt8) :: List.replicate (zerosN n) 0) ++ bits8 n)[1 + zerosN n + j]'hl2 := by
      congr 1; exact padS_parts n
    rw [e1, List.getElem_append_right (by simp; omega)]
    congr 1
    simp; omega
  rw [e, bits8_at n j hn hj]
theorem pad_zero (n i : Nat) (h1 : 1 ≤ i) (h2 : i < 1 + zerosN n) : sAt (padS n) (i : Int) = some (0 : Int) := by
  have hl : i < (padS n).length := by rw [padS_length]; omega
  rw [sAt_lt hl]
  have e : (padS n)[i]'hl = 0 := by
    have hl2 : i < (((128 : UInt8) :: List.replicate (zerosN n) 0) ++ bits8 n).length := by rw [← padS_parts]; exact hl
    have e1 : (padS n)[i]'hl = (((128 : UInt8) :: List.replicate (zerosN n) 0) ++ bits8 n)[i]'hl2 := by
      congr 1; exact padS_parts n
    rw [e1, List.getElem_append_left (by simp; omega)]
    obtain ⟨q, rfl⟩ : ∃ q, i = q + 1 := ⟨i - 1, by omega⟩
    simp
  rw [e]; rfl
theorem pads_bits (n k : Nat) (a : Int) (hk : k ≤ 1099511627776) : ∀ (m j : Nat), j ≤ 8 → 8 - j < m → lDPads_loop0 n m a (padS k) ((8 * k / 256 ^ (8 - j) : Nat) : Int) ((1 + zerosN k + j : Nat) : Int) = some ((a, (padS k, (((8 * k : Nat) : Int), ()))), ((), ()))
  | 0, j, h1, h2 => by omega
  | m + 1, j, h1, h2 => by
    rw [lDPads_loop0_succ]
    unfold lDPads_l0
    have hz := (zeros_mod k).2
    by_cases c : j < 8
    · have c' : ((1 + zerosN k + j : Nat) : Int) < (((padS k).length : Nat) : Int) := by rw [padS_length]; omega
      obtain ⟨q, hq⟩ : ∃ q, q = 8 * k / 256 ^ (7 - j) := ⟨_, rfl⟩
      have hq2 : 8 * k / 256 ^ (8 - j) = q / 256 := by
        rw [hq, Nat.div_div_eq_div_mul, ← Nat.pow_succ]; congr 2; omega
      have hq3 : q ≤ 8 * k := by rw [hq]; exact Nat.div_le_self _ _
      have ih := pads_bits n k a hk m (j + 1) (by omega) (by omega)
      rw [show 8 - (j + 1) = 7 - j from by omega, ← hq] at ih
      rw [decide_eq_true c', cond_true, hq2, letO_some, pad_at k j hk c, Option.bind_some, letO_some, ← hq, wrap_nat (by omega), letO_some]
      have w1 : IntKind.wrap .i64 ((256 : Int) * ((q / 256 : Nat) : Int)) = ((256 * (q / 256) : Nat) : Int) := by rw [wrap64 (by omega) (by omega)]; rfl
      have w2 : IntKind.wrap .i64 (((256 * (q / 256) : Nat) : Int) + ((q % 256 : Nat) : Int)) = (q : Int) := by rw [wrap64 (by omega) (by omega)]; omega
      rw [w1, w2, letO_some, wrap_succ (by omega)]
      exact ih
    · obtain rfl : j = 8 := by omega
      have c' : ¬ ((1 + zerosN k + 8 : Nat) : Int) < (((padS k).length : Nat) : Int) := by rw [padS_length]; omega
      rw [decide_eq_false c', cond_false]
      rw [show 256 ^ (8 - 8) = 1 from rfl, Nat.div_one]
theorem pads_zeros (n k : Nat) (a b : Int) (hk : k ≤ 1099511627776) : ∀ (m i : Nat), 1 ≤ i → i ≤ 1 + zerosN k → 1 + zerosN k - i < m → lDPads_loop1 n m a (padS k) b (i : Int) = some (Sum.inr ((a, (b, ())), ((), ())))
  | 0, i, h0, h1, h2 => by omega
  | m + 1, i, h0, h1, h2 => by
    rw [lDPads_loop1_succ]
    unfold lDPads_l1
    have hz := (zeros_mod k).2
    have w : IntKind.wrap .i64 ((((padS k).length : Nat) : Int) - (8 : Int)) = ((1 + zerosN k : Nat) : Int) := by rw [padS_length, wrap64 (by omega) (by omega)]; omega
    rw [letO_some, w]
    by_cases c : i < 1 + zerosN k
    · have c' : (i : Int) < ((1 + zerosN k : Nat) : Int) := by omega
      rw [decide_eq_true c', cond_true, pad_zero k i h0 c, Option.bind_some, decide_eq_true (show (0 : Int) = 0 from rfl), Bool.not_true, cond_false, letO_some, wrap_succ (by omega)]
      exact pads_zeros n k a b hk m (i + 1) (by omega) (by omega) (by omega)
    · have c' : ¬ (i : Int) < ((1 + zerosN k : Nat) : Int) := by omega
      rw [decide_eq_false c', cond_false]
theorem lDPads_true (z : Int) (hw : (Lit.int .i64 z).wf = true) : lDPads_t 100 z = some true := by
  obtain ⟨h1, h2⟩ := wf_i64 hw
  unfold lDPads_t
  rw [live12, fPad_some h1 h2, Option.bind_some]
  by_cases c0 : z < 0
  · have e : padI z = [] := by unfold padI; rw [if_pos (Or.inl c0)]
    rw [decide_eq_true c0, cond_true, decide_eq_true e, cond_true]; rfl
  by_cases c1 : 1099511627776 < z
  · have e : padI z = [] := by unfold padI; rw [if_pos (Or.inr c1)]
    rw [decide_eq_false c0, cond_false, decide_eq_true c1, cond_true, decide_eq_true e, cond_true]; rfl
  obtain ⟨k, rfl⟩ : ∃ k : Nat, z = (k : Int) := ⟨z.toNat, by omega⟩
  have hk : k ≤ 1099511627776 := by omega
  have hz := zeros_mod k
  have hl := padS_length k
  rw [decide_eq_false c0, cond_false, decide_eq_false c1, cond_false, padI_pos hk]
  have c2 : ¬ (((padS k).length : Nat) : Int) < (9 : Int) := by omega
  have c3 : ¬ (72 : Int) < (((padS k).length : Nat) : Int) := by omega
  have w1 : IntKind.wrap .i64 ((k : Int) + (((padS k).length : Nat) : Int)) = ((k + (padS k).length : Nat) : Int) := by rw [wrap64 (by omega) (by omega)]; rfl
  have r1 : remO ((k + (padS k).length : Nat) : Int) (64 : Int) = some (0 : Int) := by
    unfold remO; rw [if_pos (by decide)]
    have : (((k + (padS k).length : Nat) : Int).tmod 64) = (((k + (padS k).length) % 64 : Nat) : Int) := rfl
    rw [this, hl, hz.1]; rfl
  have a0 : sAt (padS k) (0 : Int) = some (128 : Int) := by
    rw [padS_eq]; rfl
  have w2 : IntKind.wrap .i64 ((((padS k).length : Nat) : Int) - (8 : Int)) = ((1 + zerosN k + 0 : Nat) : Int) := by rw [wrap64 (by omega) (by omega)]; omega
  rw [decide_eq_false c2, cond_false, decide_eq_false c3, cond_false, letO_some, w1, r1, Option.bind_some, decide_eq_true (show (0 : Int) = 0 from rfl), Bool.not_true, cond_false, a0, Option.bind_some, decide_eq_true (show (128 : Int) = 128 from rfl), Bool.not_true, cond_false, letO_some, w2]
  have b := pads_bits 100 k (k : Int) hk 100 0 (by omega) (by omega)
  have e0 : 8 * k / 256 ^ (8 - 0) = 0 := Nat.div_eq_of_lt (by show 8 * k < 18446744073709551616; omega)
  rw [e0] at b
  have b' : lDPads_loop0 100 100 (k : Int) (padS k) (0 : Int) ((1 + zerosN k + 0 : Nat) : Int) = _ := b
  rw [b', Option.bind_some]
  simp only
  have zz : lDPads_loop1 100 100 (k : Int) (padS k) ((8 * k : Nat) : Int) (1 : Int) = _ := pads_zeros 100 k (k : Int) ((8 * k : Nat) : Int) hk 100 1 (by omega) (by omega) (by omega)
  rw [zz, Option.bind_some]
  simp only [Sum.elim_inr]
  have w3 : IntKind.wrap .i64 ((8 : Int) * (k : Int)) = ((8 * k : Nat) : Int) := by rw [wrap64 (by omega) (by omega)]; rfl
  rw [letO_some, w3, decide_eq_true (show ((8 * k : Nat) : Int) = ((8 * k : Nat) : Int) from rfl), cond_true, Option.bind_some]
/-! DigestBlocks -/
theorem blocks_loop (n : Nat) (a t : List UInt8) (ht : t.length ≤ 100000) (hm : t.length % 64 = 0) : ∀ (m k : Nat) (h : List Int), h.length = 8 → W32 h → t.length / 64 - k < m → k ≤ t.length / 64 →
    lDBlocks_loop0 n m a (textS h) t ((64 * k : Nat) : Int) = some (Sum.inr ((a, (textS (thrS h (t.drop (64 * k))), ())), ((), ())))
  | 0, k, h, hl, hw, h1, h2 => by omega
  | m + 1, k, h, hl, hw, h1, h2 => by
    rw [lDBlocks_loop0_succ]
    unfold lDBlocks_l0
    by_cases c : k < t.length / 64
    · have c' : ((64 * k : Nat) : Int) < ((t.length : Nat) : Int) := by omega
      have w1 : IntKind.wrap .i64 (((64 * k : Nat) : Int) + (64 : Int)) = ((64 * (k + 1) : Nat) : Int) := wrap_add (j := 64) (by omega) (by omega)
      have hd : 64 ≤ (t.drop (64 * k)).length := by rw [List.length_drop]; omega
      have e2 : 64 * (k + 1) - 64 * k = 64 := by omega
      have h32 : (textS h).length = 32 := by rw [textS_length, hl]
      have hs32 : (textS (stepS h (t.drop (64 * k)))).length = 32 := by rw [textS_length, stepS_length hl]
      rw [decide_eq_true c', cond_true, letO_some, w1, sub_le (by omega) (by omega), Option.bind_some, e2, fBlock_some (by omega) (by rw [List.length_take]; omega), Option.bind_some, block_step hl hw (by rw [List.length_take]; omega), stepS_take hd]
      simp only [Bool.not_true, cond_false]
      rw [decide_eq_true (show (((textS (stepS h (t.drop (64 * k)))).length : Nat) : Int) = 32 from by rw [hs32]; rfl), Bool.not_true, cond_false, letO_some]
      have ih := blocks_loop n a t ht hm m (k + 1) (stepS h (t.drop (64 * k))) (stepS_length hl _) (stepS_W _ _) (by omega) (by omega)
      rw [thrS_step hd, List.drop_drop, show 64 * k + 64 = 64 * (k + 1) from by omega]
      exact ih
    · have e : k = t.length / 64 := by omega
      have c' : ¬ ((64 * k : Nat) : Int) < ((t.length : Nat) : Int) := by omega
      rw [decide_eq_false c', cond_false, thrS_end (by rw [List.length_drop]; omega)]
theorem lDBlocks_true (s : List UInt8) : lDBlocks_t 200 s = some true := by
  unfold lDBlocks_t
  rw [live12]
  by_cases c1 : (4000 : Int) < ((s.length : Nat) : Int)
  · rw [decide_eq_true c1, cond_true]; rfl
  have z := zeros_mod s.length
  have hl := pad_whole s
  have hp : (padS s.length).length = 9 + zerosN s.length := padS_length _
  have eH : r12H_t 200 = some H8 := rfl
  have ec : catO s (padS s.length) = some (s ++ padS s.length) := by unfold catO; rw [if_pos (by omega)]
  have r1 : remO (((s ++ padS s.length).length : Nat) : Int) (64 : Int) = some (0 : Int) := by
    unfold remO; rw [if_pos (by decide)]
    have : ((((s ++ padS s.length).length : Nat) : Int).tmod 64) = (((s ++ padS s.length).length % 64 : Nat) : Int) := rfl
    rw [this, show (s ++ padS s.length).length % 64 = 0 from by omega]; rfl
  have w1 : IntKind.wrap .i64 (((s.length : Nat) : Int) + (9 : Int)) = ((s.length + 9 : Nat) : Int) := wrap_add (j := 9) (by omega) (by omega)
  have c2 : ¬ (((s ++ padS s.length).length : Nat) : Int) < ((s.length + 9 : Nat) : Int) := by omega
  rw [decide_eq_false c1, cond_false, eH, Option.bind_some, bytes_spec 200 H8 H8_W (by decide) (by decide), Option.bind_some, fPad_some (by omega) (by omega), Option.bind_some, padI_pos (by omega), ec, Option.bind_some, r1, Option.bind_some, decide_eq_true (show (0 : Int) = 0 from rfl), Bool.not_true, cond_false, letO_some, w1, decide_eq_false c2, cond_false]
  have b : lDBlocks_loop0 200 200 s (textS H8) (s ++ padS s.length) (0 : Int) = _ := blocks_loop 200 s (s ++ padS s.length) (by omega) (by omega) 200 0 H8 rfl H8_W (by omega) (by omega)
  rw [b, Option.bind_some]
  simp only [Sum.elim_inr]
  rw [Nat.mul_zero, List.drop_zero, ← ofS_eq, fOf_some (by omega), Option.bind_some, decide_eq_true (show ofS s = ofS s from rfl), cond_true, fHex_some (by rw [ofS_length]; omega), Option.bind_some, hexS_length, ofS_length, decide_eq_true (show ((2 * 32 : Nat) : Int) = 64 from rfl), cond_true, Option.bind_some]
end YtbcdlkapapajoaaDoor.AM
end Go.Proofs
