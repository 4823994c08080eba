/- One text of VerM, VerC, VerG1, Pure, VerG2, MpM, MpC, MpG1, FilG0, FilP0, VerM2, VerP0, MpP1, FilC, RngF (mk/pack.py). -/
import Derived.Test.YtgdlfnlakfahcaaGreatDoorGp7
import Derived.Lib.ItoaNum
import Derived.Lib.AtoiAll
import Derived.Shelf.LaysC
import Derived.Shelf.Strconv.Itoa3
import Derived.Shelf.Strconv.AtoiAll
import Derived.Shelf.Small.Strs
import Derived.Shelf.Strings.SplitShaped
import Derived.Lib.LaidTab
import Derived.Lib.AppendIntMem
import Derived.Stop.LaidErr
import Derived.WalkSmall
import Derived.Lib.SlTrimSet
import Derived.Shelf.Strings.SlTrimAscii
/- Layer 7: what a version is, its text, its order, what it is bumped to: mathematics, no program. -/
namespace Go.Proofs.YtgdlfnlakfahcaaGreatDoor.AM
open Go.RowKit
set_option linter.unusedVariables false
set_option linter.unusedSimpArgs false
abbrev VD := Int × (Int × (Int × (List UInt8 × List UInt8)))
abbrev v0 : VD := (0, (0, (0, ([], []))))
def isDig (c : UInt8) : Bool := decide (48 ≤ c.toNat) && decide (c.toNat ≤ 57)
def isSg (c : UInt8) : Bool := (decide (97 ≤ c.toNat) && decide (c.toNat ≤ 122)) || (decide (65 ≤ c.toNat) && decide (c.toNat ≤ 90)) || isDig c || decide (c.toNat = 45)
def isNumS (s : List UInt8) : Bool := s.all isDig && !decide (s = [])
/-! the order -/
theorem spl_ne (c : UInt8) (l cur : List UInt8) : spl c cur l ≠ [] := fun h => by have := (spl_len c l cur).1; rw [h] at this; simp at this
/-! numerals -/
theorem digit_ofNat {d : Nat} (h : d < 10) : isDig (UInt8.ofNat (48 + d)) = true := by
  unfold isDig
  have : (UInt8.ofNat (48 + d)).toNat = 48 + d := by rw [UInt8.toNat_ofNat']; omega
  rw [this]; simp; omega
theorem dec_dig (n : Nat) : (Lib.decDigits n).all isDig = true ∧ Lib.decDigits n ≠ [] := by
  induction n using Nat.strongRecOn with
  | _ n ih =>
    rw [Lib.decDigits]
    split
    · rename_i h; exact ⟨by rw [List.all_cons, digit_ofNat h]; rfl, by simp⟩
    · rename_i h
      have := ih (n / 10) (by omega)
      exact ⟨by rw [List.all_append, this.1, List.all_cons, digit_ofNat (show n % 10 < 10 by omega)]; rfl, by simp⟩
theorem dec_len : ∀ (k n : Nat), n < 10 ^ (k + 1) → (Lib.decDigits n).length ≤ k + 1
  | 0, n, h => by rw [Lib.decDigits, dif_pos (by omega)]; simp
  | k + 1, n, h => by
    rw [Lib.decDigits]
    split
    · simp
    · have := dec_len k (n / 10) (by rw [Nat.pow_succ] at h; omega)
      simp; omega
theorem parse_app : ∀ (l r : List UInt8) (a : Nat) (u : Nat), Lib.parseUint10 a l = .ok u → Lib.parseUint10 a (l ++ r) = Lib.parseUint10 u r
  | [], r, a, u, h => by simp only [Lib.parseUint10] at h; injection h with h; subst h; rfl
  | c :: l, r, a, u, h => by
    rw [List.cons_append]
    conv => lhs; unfold Lib.parseUint10
    unfold Lib.parseUint10 at h
    split at h
    · rename_i h1
      rw [if_pos h1]
      split at h
      · cases h
      · rename_i h2
        rw [if_neg h2]
        split at h
        · cases h
        · rename_i h3
          rw [if_neg h3]
          exact parse_app l r _ u h
    · cases h
theorem parse_dec (n : Nat) (h : n < 1000000000000000000) : Lib.parseUint10 0 (Lib.decDigits n) = .ok n := by
  induction n using Nat.strongRecOn with
  | _ n ih =>
    have t1 : ∀ d, d < 10 → (UInt8.ofNat (48 + d)).toNat = 48 + d := fun d hd => by rw [UInt8.toNat_ofNat']; omega
    rw [Lib.decDigits]
    split
    · rename_i h1
      unfold Lib.parseUint10 Lib.parseUint10
      rw [t1 n h1, if_pos (by omega), if_neg (by omega), if_neg (by omega)]
      congr 1; omega
    · rename_i h1
      have h2 := ih (n / 10) (by omega) (by omega)
      rw [parse_app _ _ _ _ h2]
      unfold Lib.parseUint10 Lib.parseUint10
      rw [t1 _ (show n % 10 < 10 by omega), if_pos (by omega), if_neg (by omega), if_neg (by omega)]
      congr 1; omega
theorem itoa_dec {n : Int} (h : 0 ≤ n) : Lib.itoa n = Lib.decDigits n.toNat := by unfold Lib.itoa; rw [if_neg (by omega)]
theorem atoi_itoa {n : Int} (h0 : 0 ≤ n) (h1 : n ≤ 999999999) : Lib.atoiAll (Lib.itoa n) = .ok n := by
  rw [itoa_dec h0]
  have hd := dec_dig n.toNat
  have hp := parse_dec n.toNat (by omega)
  generalize Lib.decDigits n.toNat = l at hd hp
  cases l with
  | nil => exact absurd rfl hd.2
  | cons c r =>
    have hc : isDig c = true := by have := hd.1; simp at this; exact this.1
    unfold isDig at hc
    simp at hc
    unfold Lib.atoiAll
    have c43 : ¬ c.toNat = 43 := by omega
    have c45 : ¬ c.toNat = 45 := by omega
    simp only [c43, or_self, if_false, c45, not_false_eq_true, true_and, false_and]
    unfold Lib.parseMag
    rw [if_neg (by simp), hp]
    simp only
    rw [if_neg (by omega)]
    congr 1; omega
/-- digits, read on -/
def valS (a : Int) : List UInt8 → Int
  | [] => a
  | c :: l => valS (10 * a + c.toNat - 48) l
theorem valS_app : ∀ (l r : List UInt8) (a : Int), valS a (l ++ r) = valS (valS a l) r
  | [], r, a => rfl
  | c :: l, r, a => by rw [List.cons_append, valS, valS, valS_app l]
theorem valS_dec (n : Nat) : valS 0 (Lib.decDigits n) = n := by
  induction n using Nat.strongRecOn with
  | _ n ih =>
    have t1 : ∀ d, d < 10 → (UInt8.ofNat (48 + d)).toNat = 48 + d := fun d hd => by rw [UInt8.toNat_ofNat']; omega
    rw [Lib.decDigits]
    split
    · rename_i h1
      unfold valS valS
      rw [t1 n h1]; omega
    · rename_i h1
      rw [valS_app, ih (n / 10) (by omega)]
      unfold valS valS
      rw [t1 _ (show n % 10 < 10 by omega)]; omega
theorem valS_bound : ∀ (l : List UInt8) (a : Int), 0 ≤ a → l.all isDig = true → 0 ≤ valS a l ∧ valS a l < (a + 1) * 10 ^ l.length
  | [], a, h, _ => by simp [valS]; omega
  | c :: l, a, h, hd => by
    simp at hd
    have hc := hd.1
    unfold isDig at hc
    simp at hc
    have ih := valS_bound l (10 * a + c.toNat - 48) (by omega) (by simp; exact hd.2)
    rw [valS]
    refine ⟨ih.1, Int.lt_of_lt_of_le ih.2 ?_⟩
    have e1 : (10 : Int) ^ (c :: l).length = 10 * 10 ^ l.length := by rw [List.length_cons, Int.pow_succ]; omega
    rw [e1, ← Int.mul_assoc]
    have hp : (0 : Int) ≤ 10 ^ l.length := Int.le_of_lt (Int.pow_pos (by decide))
    exact Int.mul_le_mul_of_nonneg_right (by omega) hp
/-! a text is cut at a byte -/
theorem spl_miss' (c : UInt8) (x : List UInt8) (h : c ∉ x) : spl c [] x = [x] := by
  have := spl_none c x [] [] h
  simpa [spl] using this
def trimV (s : List UInt8) : List UInt8 := if s.head? = some 118 then s.drop 1 else s
/-! bumps -/
end Go.Proofs.YtgdlfnlakfahcaaGreatDoor.AM

/- Layer 7: what is known of old memory; contracts of the library's functions and of those that lean on errors. -/
namespace Go.Proofs
open Go.RowKit Go.Shelf Go.Lib
shelf_lay LaysM.n171 Nm 171 at Tryz as Tryz.laysItoa
shelf_lay LaysC.n172 Nm 172 at Tryz as Tryz.laysAtoi
set_option linter.unusedVariables false
set_option linter.unusedSimpArgs false
namespace YtgdlfnlakfahcaaGreatDoor.AM
/-- what is known of the library's variables -/
structure Inv (w : World) : Prop where
  maxLen : ∃ m, w.cell? ⟨Tryz.laysIndex_ren.g 1, 0, none⟩ = some (.int .i64 m)
  tab : Lib.TabIs Tryz.prog w "internal/strconv.uint64pow10" .u64 Lib.pow10Tab
  syn : ∃ tp p, w.cell? ⟨Tryz.laysAtoi_ren.g 15, 0, none⟩ = some (.iface tp p)
  rng : ∃ tp p, w.cell? ⟨Tryz.laysAtoi_ren.g 16, 0, none⟩ = some (.iface tp p)
theorem gTab : (Tryz.prog.globalNamed "internal/strconv.uint64pow10").isSome = true := by kernel_rfl
theorem Inv.below {w w' : World} (h : Inv w) (hb : Below w.heap.size w w') : Inv w' := by
  obtain ⟨⟨m, hm⟩, ht, ⟨t1, p1, h1⟩, ⟨t2, p2, h2⟩⟩ := h
  refine ⟨⟨m, (hb.cell (p := ⟨_, 0, none⟩) (World.block_lt_of_cell? _ _ hm)).trans hm⟩, ?_, ⟨t1, p1, (hb.cell (p := ⟨_, 0, none⟩) (World.block_lt_of_cell? _ _ h1)).trans h1⟩, ⟨t2, p2, (hb.cell (p := ⟨_, 0, none⟩) (World.block_lt_of_cell? _ _ h2)).trans h2⟩⟩
  obtain ⟨g, hg⟩ := Option.isSome_iff_exists.1 gTab
  refine var?_below hb hg ?_ ht
  have hv : w.var? Tryz.prog "internal/strconv.uint64pow10" = some _ := ht
  unfold World.var? at hv
  rw [hg] at hv
  simp only [Option.bind_some] at hv
  split at hv
  · rename_i h5; exact (Array.getElem?_eq_some_iff.1 h5).1
  · cases hv
theorem know_inv : Know Inv Inv := ⟨fun w w' h hb => h.below hb, fun _ h => h⟩
variable {P : Program}
theorem pc_done {Pc : Nat → Nat → Prop} {w w' : World} {v : Value} {d : D} {e : Ending} (he : e = .returned v) (hb : Below w.heap.size w w') (hv : DRep (noEnv Pc) noSt w' v d) :
    ∃ v' Pc', e = .returned v' ∧ Below w.heap.size w w' ∧ (∀ b o, Pc b o → Pc' b o) ∧ (∀ b o, Pc' b o → Pc b o ∨ (w.heap.size ≤ b ∧ b < w'.heap.size)) ∧ DRep (noEnv Pc') noSt w' v' d :=
  ⟨v, Pc, he, hb, fun _ _ h => h, fun _ _ h => Or.inl h, hv⟩
abbrev strA : SD := .one (.c (.d .str))
abbrev boolA : SD := .one (.c (.d .bool))
/-! the place of a byte -/
/-! strconv.Itoa -/
end YtgdlfnlakfahcaaGreatDoor.AM
end Go.Proofs

/- Layer 7, first part: what functions come to, as plain functions of data: written by program (shal.py); the kernel checks it. -/
namespace Go.Proofs.YtgdlfnlakfahcaaGreatDoor.AM
open Go.RowKit
set_option linter.unusedVariables false
set_option maxRecDepth 20000





end Go.Proofs.YtgdlfnlakfahcaaGreatDoor.AM

/- Plain lemmas on the partial functions that operations are, at natural numbers. -/
namespace Go.Proofs.YtgdlfnlakfahcaaGreatDoor.AM
open Go.RowKit
set_option linter.unusedVariables false
theorem nth_lt {β : Type} {l : List β} {j : Nat} (h : j < l.length) : nth l j = some l[j] := by rw [nth_eq, List.getElem?_eq_getElem h]
theorem idx_lt {β : Type} {l : List β} {j : Nat} (h : j < l.length) : idxL l (j : Int) = some l[j] := by
  unfold idxL; rw [if_pos (by omega), Int.toNat_natCast, nth_lt h]
theorem sAt_lt {s : List UInt8} {j : Nat} (h : j < s.length) : sAt s (j : Int) = some ((s[j].toNat : Nat) : Int) := by
  unfold sAt; rw [idx_lt h]; rfl
theorem sub_le {β : Type} {l : List β} {a b : Nat} (h1 : a ≤ b) (h2 : b ≤ l.length) : subO l (a : Int) (b : Int) = some ((l.drop a).take (b - a)) := by
  unfold subO; rw [if_pos ⟨by omega, by omega, by omega⟩, Int.toNat_natCast, Int.toNat_natCast]
theorem sub_zero {β : Type} {l : List β} {b : Nat} (h2 : b ≤ l.length) : subO l (0 : Int) (b : Int) = some (l.take b) := by
  have := sub_le (l := l) (a := 0) (b := b) (Nat.zero_le _) h2
  simpa using this
theorem app_le {β : Type} {k : Nat} {xs ys : List β} (h : (xs.length + ys.length) * k ≤ 140737488355328) : appO k xs ys = some (xs ++ ys) := by
  unfold appO; rw [if_pos h]
theorem wrap_succ {i : Nat} (h : i < 4611686018427387904) : IntKind.wrap .i64 ((i : Int) + 1) = ((i + 1 : Nat) : Int) := by rw [wrap64 (by omega) (by omega)]; rfl
end Go.Proofs.YtgdlfnlakfahcaaGreatDoor.AM

/- Layer 7, the rest: what functions come to, as plain functions of data: written by program (shal.py); the kernel checks it. -/
namespace Go.Proofs.YtgdlfnlakfahcaaGreatDoor.AM
open Go.RowKit
set_option linter.unusedVariables false
set_option maxRecDepth 20000
/-! internal/stringslite.HasPrefix -/
def HasPrefixI_lts (n : Nat) : List LC := []
def HasPrefixI_t (n : Nat) (a1 : List UInt8) (a2 : List UInt8) : Option (Bool) :=
  (bif decide (((List.length a2 : Nat) : Int) ≤ ((List.length a1 : Nat) : Int)) then (subO a1 (0 : Int) ((List.length a2 : Nat) : Int)).bind fun (s1 : List UInt8) => some (decide (s1 = a2)) else some false)
def HasPrefixI_fc (n : Nat) : FC := { f := 80, args := [.one (.c (.d .str)), .one (.c (.d .str))], res := .one (.c (.d .bool)), F := fun p => HasPrefixI_t n p.1 p.2 }
def HasPrefixI_ct (n : Nat) : List FC := []
theorem HasPrefixI_ctok (n : Nat) {G : World → Prop} (hG : Know Inv G) : ∀ c ∈ HasPrefixI_ct n, FCok Tryz.prog G c ∧ noTup c.args = true := (fun _ h => by cases h)
def HasPrefixI_dh : Hints := []
theorem HasPrefixI_dr : drB HasPrefixI_dh (bodyOf Tryz.f80) = true := by kernel_rfl
theorem HasPrefixI_eq (n : Nat) : ∀ a, (HasPrefixI_fc n).F a = main Tryz.prog 18 (HasPrefixI_ct n) (HasPrefixI_lts n) HasPrefixI_dh (bodyOf Tryz.f80) [.tmp 4] (HasPrefixI_fc n).args (HasPrefixI_fc n).res a := by intro a; kernel_rfl
theorem HasPrefixI_ok (n : Nat) : FCall Inv Tryz.prog (HasPrefixI_fc n) := fun G hG => ⟨⟨by kernel_rfl, fun a r h => main_ok (c := bodyOf Tryz.f80) Tryz.func80 (by kernel_rfl) (by kernel_rfl) (Nat.le_of_ble_eq_true (by kernel_rfl)) hG.st (by kernel_rfl) (rs := [.tmp 4]) (by kernel_rfl) (HasPrefixI_ctok n hG) (lts := HasPrefixI_lts n) (fun F hF hFG => have hK : Know Inv F.G := hFG ▸ hG; (lok_of fun j L h1 h2 h3 => absurd h2 (Nat.not_lt.2 (Nat.le_trans (by decide +kernel) h1)))) HasPrefixI_dr ((HasPrefixI_eq n a).symm.trans h)⟩, rfl⟩
/-! internal/stringslite.TrimPrefix -/
def TrimPrefixI_lts (n : Nat) : List LC := []
def TrimPrefixI_t (n : Nat) (a1 : List UInt8) (a2 : List UInt8) : Option (List UInt8) :=
  (HasPrefixI_t n a1 a2).bind fun (r1 : Bool) => (bif r1 then (subO a1 ((List.length a2 : Nat) : Int) ((List.length a1 : Nat) : Int)).bind fun (s2 : List UInt8) => some s2 else some a1)
def TrimPrefixI_fc (n : Nat) : FC := { f := 73, args := [.one (.c (.d .str)), .one (.c (.d .str))], res := .one (.c (.d .str)), F := fun p => TrimPrefixI_t n p.1 p.2 }
def TrimPrefixI_ct (n : Nat) : List FC := [HasPrefixI_fc n]
theorem TrimPrefixI_ctok (n : Nat) {G : World → Prop} (hG : Know Inv G) : ∀ c ∈ TrimPrefixI_ct n, FCok Tryz.prog G c ∧ noTup c.args = true := List.forall_mem_cons.2 ⟨HasPrefixI_ok n G hG, (fun _ h => by cases h)⟩
def TrimPrefixI_dh : Hints := []
theorem TrimPrefixI_dr : drB TrimPrefixI_dh (bodyOf Tryz.f73) = true := by kernel_rfl
theorem TrimPrefixI_eq (n : Nat) : ∀ a, (TrimPrefixI_fc n).F a = main Tryz.prog 13 (TrimPrefixI_ct n) (TrimPrefixI_lts n) TrimPrefixI_dh (bodyOf Tryz.f73) [.tmp 4] (TrimPrefixI_fc n).args (TrimPrefixI_fc n).res a := by intro a; kernel_rfl
theorem TrimPrefixI_ok (n : Nat) : FCall Inv Tryz.prog (TrimPrefixI_fc n) := fun G hG => ⟨⟨by kernel_rfl, fun a r h => main_ok (c := bodyOf Tryz.f73) Tryz.func73 (by kernel_rfl) (by kernel_rfl) (Nat.le_of_ble_eq_true (by kernel_rfl)) hG.st (by kernel_rfl) (rs := [.tmp 4]) (by kernel_rfl) (TrimPrefixI_ctok n hG) (lts := TrimPrefixI_lts n) (fun F hF hFG => have hK : Know Inv F.G := hFG ▸ hG; (lok_of fun j L h1 h2 h3 => absurd h2 (Nat.not_lt.2 (Nat.le_trans (by decide +kernel) h1)))) TrimPrefixI_dr ((TrimPrefixI_eq n a).symm.trans h)⟩, rfl⟩
/-! strings.TrimPrefix -/
def TrimPrefix_lts (n : Nat) : List LC := []
def TrimPrefix_t (n : Nat) (a1 : List UInt8) (a2 : List UInt8) : Option (List UInt8) :=
  (TrimPrefixI_t n a1 a2).bind fun (r1 : List UInt8) => some r1
def TrimPrefix_fc (n : Nat) : FC := { f := 58, args := [.one (.c (.d .str)), .one (.c (.d .str))], res := .one (.c (.d .str)), F := fun p => TrimPrefix_t n p.1 p.2 }
def TrimPrefix_ct (n : Nat) : List FC := [TrimPrefixI_fc n]
theorem TrimPrefix_ctok (n : Nat) {G : World → Prop} (hG : Know Inv G) : ∀ c ∈ TrimPrefix_ct n, FCok Tryz.prog G c ∧ noTup c.args = true := List.forall_mem_cons.2 ⟨TrimPrefixI_ok n G hG, (fun _ h => by cases h)⟩
def TrimPrefix_dh : Hints := []
theorem TrimPrefix_dr : drB TrimPrefix_dh (bodyOf Tryz.f58) = true := by kernel_rfl
theorem TrimPrefix_eq (n : Nat) : ∀ a, (TrimPrefix_fc n).F a = main Tryz.prog 8 (TrimPrefix_ct n) (TrimPrefix_lts n) TrimPrefix_dh (bodyOf Tryz.f58) [.tmp 4] (TrimPrefix_fc n).args (TrimPrefix_fc n).res a := by intro a; kernel_rfl
theorem TrimPrefix_ok (n : Nat) : FCall Inv Tryz.prog (TrimPrefix_fc n) := fun G hG => ⟨⟨by kernel_rfl, fun a r h => main_ok (c := bodyOf Tryz.f58) Tryz.func58 (by kernel_rfl) (by kernel_rfl) (Nat.le_of_ble_eq_true (by kernel_rfl)) hG.st (by kernel_rfl) (rs := [.tmp 4]) (by kernel_rfl) (TrimPrefix_ctok n hG) (lts := TrimPrefix_lts n) (fun F hF hFG => have hK : Know Inv F.G := hFG ▸ hG; (lok_of fun j L h1 h2 h3 => absurd h2 (Nat.not_lt.2 (Nat.le_trans (by decide +kernel) h1)))) TrimPrefix_dr ((TrimPrefix_eq n a).symm.trans h)⟩, rfl⟩














/-! armada/armadaref05.Split -/
@[reducible] def rSplit5_sh0 : SSt := ⟨[(0, .one (.c (.d .str))), (1, .one (.c (.d (.int .u8)))), (5, .one (.c (.row 31))), (6, .one (.c (.d (.int .i64)))), (7, .one (.c (.d (.int .i64))))], [], [(31, ⟨9, true, .str⟩)]⟩
@[reducible] def rSplit5_outs0 : List (Exit × SSt) := [(.exit 0, ⟨[(5, .one (.c (.row 31)))], [], [(31, ⟨9, true, .str⟩)]⟩)]
def rSplit5_l0 (n : Nat) (rec : (List UInt8) → Int → Int → Int → (List (List UInt8)) → Option ((Unit × (Unit)) × (Unit) × ((List (List UInt8)) × (Unit)))) (a1 : List UInt8) (a2 : Int) (a3 : Int) (a4 : Int) (a5 : List (List UInt8)) : Option ((Unit × (Unit)) × (Unit) × ((List (List UInt8)) × (Unit))) :=
  (bif decide (a4 ≤ ((List.length a1 : Nat) : Int)) then (bif decide (a4 = ((List.length a1 : Nat) : Int)) then (subO a1 a3 a4).bind fun (s1 : List UInt8) => (appO 16 a5 ([s1] : List (List UInt8))).bind fun (l2 : List (List UInt8)) => letO (IntKind.wrap .i64 (a4 + (1 : Int))) fun (n3 : Int) => letO (IntKind.wrap .i64 (a4 + (1 : Int))) fun (n4 : Int) => rec a1 a2 n3 n4 l2 else (sAt a1 a4).bind fun (c5 : Int) => (bif decide (c5 = a2) then (subO a1 a3 a4).bind fun (s6 : List UInt8) => (appO 16 a5 ([s6] : List (List UInt8))).bind fun (l7 : List (List UInt8)) => letO (IntKind.wrap .i64 (a4 + (1 : Int))) fun (n8 : Int) => letO (IntKind.wrap .i64 (a4 + (1 : Int))) fun (n9 : Int) => rec a1 a2 n8 n9 l7 else letO (IntKind.wrap .i64 (a4 + (1 : Int))) fun (n10 : Int) => rec a1 a2 a3 n10 a5)) else some ((((), ()), ((), (a5, ())))))
def rSplit5_F0 (n : Nat) (rec : pSt rSplit5_sh0 → Option (pOuts rSplit5_outs0)) (p : pSt rSplit5_sh0) : Option (pOuts rSplit5_outs0) := rSplit5_l0 n (fun a1 a2 a3 a4 a5 => rec ((a1, (a2, ((), (a3, (a4, ()))))), ((), (a5, ())))) p.1.1 p.1.2.1 p.1.2.2.2.1 p.1.2.2.2.2.1 p.2.2.1
def rSplit5_loop0 (n m : Nat) (a1 : List UInt8) (a2 : Int) (a3 : Int) (a4 : Int) (a5 : List (List UInt8)) : Option ((Unit × (Unit)) × (Unit) × ((List (List UInt8)) × (Unit))) := iterF (rSplit5_F0 n) m ((a1, (a2, ((), (a3, (a4, ()))))), ((), (a5, ())))
theorem rSplit5_loop0_succ (n m : Nat) (a1 : List UInt8) (a2 : Int) (a3 : Int) (a4 : Int) (a5 : List (List UInt8)) : rSplit5_loop0 n (m + 1) a1 a2 a3 a4 a5 = rSplit5_l0 n (fun a1 a2 a3 a4 a5 => rSplit5_loop0 n m a1 a2 a3 a4 a5) a1 a2 a3 a4 a5 := rfl
def rSplit5_L0 (n : Nat) : LC := { sh := rSplit5_sh0, outs := rSplit5_outs0, F := iterF (rSplit5_F0 n) n }
def rSplit5_lts (n : Nat) : List LC := [rSplit5_L0 n]
def rSplit5_t (n : Nat) (a1 : List UInt8) (a2 : Int) : Option (List (List UInt8)) :=
  (rSplit5_loop0 n n a1 a2 (0 : Int) (0 : Int) []).bind fun (o11 : (Unit × (Unit)) × (Unit) × ((List (List UInt8)) × (Unit))) => some o11.2.2.1
def rSplit5_fc (n : Nat) : FC := { f := 37, args := [.one (.c (.d .str)), .one (.c (.d (.int .u8)))], res := .one (.c (.d (.lst .str))), F := fun p => rSplit5_t n p.1 p.2 }
def rSplit5_ct (n : Nat) : List FC := []
theorem rSplit5_ctok (n : Nat) {G : World → Prop} (hG : Know Inv G) : ∀ c ∈ rSplit5_ct n, FCok Tryz.prog G c ∧ noTup c.args = true := (fun _ h => by cases h)
def rSplit5_dh : Hints := []
theorem rSplit5_dr : drB rSplit5_dh (bodyOf Tryz.f37) = true := by kernel_rfl
theorem rSplit5_eq0 (n : Nat) : ∀ rec p, rSplit5_F0 n rec p = round Tryz.prog 35 (rSplit5_ct n) (rSplit5_lts n) rSplit5_dh 1 rSplit5_sh0 rSplit5_outs0 (bodyAt 0 0 (bodyOf Tryz.f37)) rec p := by intro rec p; kernel_rfl
theorem rSplit5_lok0 (n : Nat) {F : Fr} (hF : F.n = 35) (hK : Know Inv F.G) : LCok Tryz.prog F (rSplit5_L0 n) (bodyAt 0 0 (bodyOf Tryz.f37)) :=
  loop_ok hF (by kernel_rfl) (rSplit5_ctok n hK) (rSplit5_eq0 n) (fuel := n) (fun _ => rfl) (lok_of fun j L h1 h2 h3 => absurd h2 (Nat.not_lt.2 (Nat.le_trans (by decide +kernel) h1))) (drB_at rSplit5_dr)
theorem rSplit5_eq (n : Nat) : ∀ a, (rSplit5_fc n).F a = main Tryz.prog 35 (rSplit5_ct n) (rSplit5_lts n) rSplit5_dh (bodyOf Tryz.f37) [.tmp 4] (rSplit5_fc n).args (rSplit5_fc n).res a := by intro a; kernel_rfl
theorem rSplit5_ok (n : Nat) : FCall Inv Tryz.prog (rSplit5_fc n) := fun G hG => ⟨⟨by kernel_rfl, fun a r h => main_ok (c := bodyOf Tryz.f37) Tryz.func37 (by kernel_rfl) (by kernel_rfl) (Nat.le_of_ble_eq_true (by kernel_rfl)) hG.st (by kernel_rfl) (rs := [.tmp 4]) (by kernel_rfl) (rSplit5_ctok n hG) (lts := rSplit5_lts n) (fun F hF hFG => have hK : Know Inv F.G := hFG ▸ hG; (lok_of (c := (bodyOf Tryz.f37)) (fun j L h1 h2 h3 => by
    have h2' : j < 1 := Nat.lt_of_lt_of_le h2 (by decide +kernel)
    match j, h1, h2', h3 with
    | 0, _, _, h3 => obtain rfl := Option.some.inj h3; exact (show bodyAt 0 0 (bodyOf Tryz.f37) = bodyAt 0 0 (bodyOf Tryz.f37) by kernel_rfl) ▸ rSplit5_lok0 n hF hK
    | j + 1, _, h2', _ => exact absurd h2' (by omega)))) rSplit5_dr ((rSplit5_eq n a).symm.trans h)⟩, rfl⟩
























end Go.Proofs.YtgdlfnlakfahcaaGreatDoor.AM

/- Layer 8: what a path is, its parts, its major: mathematics, no program. -/
namespace Go.Proofs.YtgdlfnlakfahcaaGreatDoor.AM
open Go.RowKit
set_option linter.unusedVariables false
set_option linter.unusedSimpArgs false
def pSign (c : UInt8) : Bool := isSg c || decide (c.toNat = 95) || decide (c.toNat = 46)
def partS (s : List UInt8) : Bool := !decide (s = []) && (!decide (s = [46]) && (!decide (s = [46, 46]) && s.all pSign))
def pathS (s : List UInt8) : Bool := decide (s.length ≤ 60) && (spl 47 [] s).all partS
def tellsS (w : List UInt8) : Bool := decide (w.head? = some 118) && isNumS (w.drop 1)
def anyS (s : List UInt8) : Bool := (spl 47 [] s).any tellsS
/-! the last place of a byte -/
def lastR (c : UInt8) : List UInt8 → Int
  | [] => -1
  | b :: r => if b = c then (r.length : Int) else lastR c r
def lastC (c : UInt8) (s : List UInt8) : Int := lastR c s.reverse
theorem lastR_ge (c : UInt8) : ∀ l, -1 ≤ lastR c l ∧ lastR c l < (l.length : Int)
  | [] => by simp [lastR]
  | b :: r => by
    have := lastR_ge c r
    rw [lastR]; split
    · simp; omega
    · simp; omega
theorem lastC_ge (c : UInt8) (s : List UInt8) : -1 ≤ lastC c s ∧ lastC c s < (s.length : Int) := by
  have := lastR_ge c s.reverse; unfold lastC; simpa using this
theorem lastR_miss (c : UInt8) : ∀ l, c ∉ l → lastR c l = -1
  | [], _ => rfl
  | b :: r, h => by
    have h1 : b ≠ c := fun e => h (by simp [e])
    rw [lastR, if_neg h1, lastR_miss c r (fun e => h (by simp [e]))]
theorem lastR_hit (c : UInt8) : ∀ (y x : List UInt8), c ∉ y → lastR c (y ++ c :: x) = (x.length : Int)
  | [], x, _ => by simp [lastR]
  | b :: y, x, h => by
    have h1 : b ≠ c := fun e => h (by simp [e])
    rw [List.cons_append, lastR, if_neg h1, lastR_hit c y x (fun e => h (by simp [e]))]
theorem lastC_miss {c : UInt8} {s : List UInt8} (h : c ∉ s) : lastC c s = -1 := lastR_miss c _ (by simpa using h)
theorem lastC_hit {c : UInt8} {x y : List UInt8} (h : c ∉ y) : lastC c (x ++ c :: y) = (x.length : Int) := by
  have := lastR_hit c y.reverse x.reverse (by simpa using h)
  unfold lastC
  simpa using this
def baseS (s : List UInt8) : List UInt8 := s.take (lastC 47 s).toNat
def lastS (s : List UInt8) : List UInt8 := s.drop (lastC 47 s + 1).toNat
theorem cut_last (c : UInt8) : ∀ s : List UInt8, c ∉ s ∨ ∃ x y, s = x ++ c :: y ∧ c ∉ y
  | [] => Or.inl (by simp)
  | b :: s => by
    rcases cut_last c s with h | ⟨x, y, rfl, h⟩
    · by_cases hb : b = c
      · subst hb; exact Or.inr ⟨[], s, rfl, h⟩
      · exact Or.inl (by simp [h, Ne.symm hb])
    · exact Or.inr ⟨b :: x, y, rfl, h⟩
theorem base_miss {s : List UInt8} (h : 47 ∉ s) : baseS s = [] ∧ lastS s = s := by
  unfold baseS lastS; rw [lastC_miss h]; exact ⟨rfl, rfl⟩
theorem base_hit {x y : List UInt8} (h : 47 ∉ y) : baseS (x ++ 47 :: y) = x ∧ lastS (x ++ 47 :: y) = y := by
  unfold baseS lastS; rw [lastC_hit h]
  constructor
  · simp
  · rw [show (((x.length : Nat) : Int) + 1).toNat = x.length + 1 from by omega]; simp
theorem spl_app (c : UInt8) : ∀ (x cur y : List UInt8), spl c cur (x ++ c :: y) = spl c cur x ++ spl c [] y
  | [], cur, y => by simp [spl]
  | b :: x, cur, y => by
    rw [List.cons_append, spl, spl]
    split
    · rw [spl_app c x]; rfl
    · rw [spl_app c x]
/-- the parts of a text, the last one apart -/
theorem parts_last (s : List UInt8) : (47 ∉ s ∧ baseS s = [] ∧ lastS s = s ∧ spl 47 [] s = [s]) ∨ (s = baseS s ++ 47 :: lastS s ∧ 47 ∉ lastS s ∧ spl 47 [] s = spl 47 [] (baseS s) ++ [lastS s]) := by
  rcases cut_last 47 s with h | ⟨x, y, rfl, h⟩
  · exact Or.inl ⟨h, (base_miss h).1, (base_miss h).2, spl_miss' 47 s h⟩
  · refine Or.inr ?_
    rw [(base_hit h).1, (base_hit h).2]
    exact ⟨rfl, h, by rw [spl_app, spl_miss' 47 y h]⟩
/-! digits, and the number that they tell -/
abbrev digs : List UInt8 := [48, 49, 50, 51, 52, 53, 54, 55, 56, 57]
theorem digs_has (c : UInt8) : digs.contains c = isDig c := by
  have h : ∀ k : Fin 256, digs.contains (UInt8.ofNat k.val) = isDig (UInt8.ofNat k.val) := by decide +kernel
  have h1 := h ⟨c.toNat, c.toNat_lt⟩
  simpa using h1
theorem dropWhile_nil (p : UInt8 → Bool) : ∀ l : List UInt8, l.dropWhile p = [] ↔ l.all p = true
  | [] => by simp
  | b :: l => by
    rw [List.dropWhile_cons]
    cases h : p b with
    | true => simp [h, dropWhile_nil p l]
    | false => simp [h]
theorem dropWhile_mem {p : UInt8 → Bool} {c : UInt8} : ∀ {l : List UInt8}, c ∈ l → p c = false → c ∈ l.dropWhile p
  | b :: l, h, hp => by
    rw [List.dropWhile_cons]
    rcases List.mem_cons.1 h with rfl | h
    · simp [hp]
    · cases hb : p b with
      | true => simpa using dropWhile_mem h hp
      | false => simp [h]
theorem trim_nil (s : List UInt8) : decide (Lib.trimS s digs = []) = s.all isDig := by
  have he : (fun c => digs.contains c) = isDig := funext digs_has
  unfold Lib.trimS Lib.trimRightS Lib.trimLeftS
  rw [he]
  cases h : s.all isDig with
  | true =>
    have h2 : s.reverse.all isDig = true := by rw [List.all_reverse]; exact h
    rw [(dropWhile_nil isDig s.reverse).2 h2]; simp
  | false =>
    rw [decide_eq_false_iff_not, dropWhile_nil]
    intro hc
    have h3 : ∃ c, c ∈ s ∧ isDig c = false := by
      have := List.all_eq_false.1 h
      obtain ⟨c, hc, hn⟩ := this
      exact ⟨c, hc, by simpa using hn⟩
    obtain ⟨c, hm, hn⟩ := h3
    have h4 : c ∈ (s.reverse.dropWhile isDig).reverse := by simpa using dropWhile_mem (l := s.reverse) (by simpa using hm) hn
    have := List.all_eq_true.1 hc c h4
    rw [hn] at this; cases this
def numOf (s : List UInt8) : Int := match Lib.atoiAll s with
  | .ok v => v
  | .range => Lib.atoiSat s
  | _ => 0
def fine (s : List UInt8) : Bool := match Lib.atoiAll s with
  | .ok v => decide (2 ≤ v) && (decide (v ≤ 999999999) && decide (s = Lib.itoa v))
  | _ => false
theorem fine_itoa {n : Int} (h0 : 2 ≤ n) (h1 : n ≤ 999999999) : fine (Lib.itoa n) = true ∧ numOf (Lib.itoa n) = n := by
  unfold fine numOf; rw [atoi_itoa (by omega) h1]; simp [h0, h1]
theorem fine_some {s : List UInt8} (h : fine s = true) : 2 ≤ numOf s ∧ numOf s ≤ 999999999 ∧ s = Lib.itoa (numOf s) := by
  unfold fine at h; unfold numOf
  cases e : Lib.atoiAll s with
  | ok v => rw [e] at h; simpa using h
  | range => rw [e] at h; cases h
  | «syntax» => rw [e] at h; cases h
/-! a path's major -/
def okS (p : List UInt8) : Bool := pathS p && (!anyS (baseS p) && (!tellsS (lastS p) || (fine ((lastS p).drop 1) && !decide (baseS p = []))))
def majorS (p : List UInt8) : List UInt8 × (Int × Bool) := if okS p then (if tellsS (lastS p) then (baseS p, (numOf ((lastS p).drop 1), true)) else (p, (0, true))) else ([], (0, false))
theorem path_parts {s : List UInt8} (h : pathS s = true) : s.length ≤ 60 ∧ (spl 47 [] s).all partS = true := by
  unfold pathS at h; simpa using h
end Go.Proofs.YtgdlfnlakfahcaaGreatDoor.AM

/- Layer 8: contracts of the library's functions. -/
namespace Go.Proofs
open Go.RowKit Go.Shelf Go.Lib
shelf_lay Lays.n160 Nm 160 at Tryz as Tryz.laysTrim
set_option linter.unusedVariables false
set_option linter.unusedSimpArgs false
namespace YtgdlfnlakfahcaaGreatDoor.AM
def trimD_t (s cs : List UInt8) : Option (List UInt8) := if cs = digs ∧ s.length ≤ 1000000 then some (Lib.trimS s digs) else none
def trimD_fc : FC := { f := 57, args := [strA, strA], res := strA, F := fun p => trimD_t p.1 p.2 }
theorem trimD_ok : FCall Inv Tryz.prog trimD_fc := fun G hG => ⟨⟨by kernel_rfl, fun a r h => by
  obtain ⟨s, cs⟩ := a
  have h' : trimD_t s cs = some r := h
  unfold trimD_t at h'
  split at h'
  case isFalse => cases h'
  rename_i hc
  obtain ⟨rfl, hl⟩ := hc
  have hr : Lib.trimS s digs = r := Option.some.inj h'
  intro Pc w vs hg hlt hv
  obtain ⟨l⟩ := vs
  match l, hv with
  | [x, y], ⟨h1, h2, _⟩ =>
    obtain rfl : x = .string (ba s) := of_val h1
    obtain rfl : y = .string (ba digs) := of_val h2
    have e1 : (ba s).data.toList = s := by simp [ba]
    have e2 : (ba digs).data.toList = digs := by simp [ba]
    have hh := Any.strings_Trim_laid Tryz.laysTrim (by kernel_rfl) (ba s) (ba digs) w (by rw [ba_len]; omega) (by rw [ba_len]; decide) (by rw [e2]; exact ascii_of_all (by decide))
    rw [e1, e2, hr] at hh
    refine hh.mono ?_
    rintro e w' ⟨rfl, hb⟩
    exact pc_done rfl hb (drep_val (.string (ba r)))⟩, rfl⟩
end YtgdlfnlakfahcaaGreatDoor.AM
end Go.Proofs

/- Layer 8, first part: what functions come to, as plain functions of data: written by program (shal.py); the kernel checks it. -/
namespace Go.Proofs.YtgdlfnlakfahcaaGreatDoor.AM
open Go.RowKit
set_option linter.unusedVariables false
set_option maxRecDepth 20000
/-! internal/bytealg.LastIndexByteString -/
@[reducible] def LastI_sh0 : SSt := ⟨[(0, .one (.c (.d .str))), (1, .one (.c (.d (.int .u8)))), (5, .one (.c (.d (.int .i64))))], [], []⟩
@[reducible] def LastI_outs0 : List (Exit × SSt) := [(.ret, ⟨[(4, .one (.c (.d (.int .i64))))], [], []⟩), (.exit 0, ⟨[], [], []⟩)]
def LastI_l0 (n : Nat) (rec : (List UInt8) → Int → Int → Option (((Int × (Unit)) × (Unit) × (Unit)) ⊕ ((Unit) × (Unit) × (Unit)))) (a1 : List UInt8) (a2 : Int) (a3 : Int) : Option (((Int × (Unit)) × (Unit) × (Unit)) ⊕ ((Unit) × (Unit) × (Unit))) :=
  (bif decide ((0 : Int) ≤ a3) then (sAt a1 a3).bind fun (c2 : Int) => (bif decide (c2 = a2) then some (Sum.inl ((a3, ()), ((), ()))) else letO (IntKind.wrap .i64 (a3 - (1 : Int))) fun (n3 : Int) => rec a1 a2 n3) else some (Sum.inr (((), ((), ())))))
def LastI_F0 (n : Nat) (rec : pSt LastI_sh0 → Option (pOuts LastI_outs0)) (p : pSt LastI_sh0) : Option (pOuts LastI_outs0) := LastI_l0 n (fun a1 a2 a3 => rec ((a1, (a2, (a3, ()))), ((), ()))) p.1.1 p.1.2.1 p.1.2.2.1
def LastI_loop0 (n m : Nat) (a1 : List UInt8) (a2 : Int) (a3 : Int) : Option (((Int × (Unit)) × (Unit) × (Unit)) ⊕ ((Unit) × (Unit) × (Unit))) := iterF (LastI_F0 n) m ((a1, (a2, (a3, ()))), ((), ()))
theorem LastI_loop0_succ (n m : Nat) (a1 : List UInt8) (a2 : Int) (a3 : Int) : LastI_loop0 n (m + 1) a1 a2 a3 = LastI_l0 n (fun a1 a2 a3 => LastI_loop0 n m a1 a2 a3) a1 a2 a3 := rfl
def LastI_L0 (n : Nat) : LC := { sh := LastI_sh0, outs := LastI_outs0, F := iterF (LastI_F0 n) n }
def LastI_lts (n : Nat) : List LC := [LastI_L0 n]
def LastI_t (n : Nat) (a1 : List UInt8) (a2 : Int) : Option (Int) :=
  letO (IntKind.wrap .i64 (((List.length a1 : Nat) : Int) - (1 : Int))) fun (n1 : Int) => (LastI_loop0 n n a1 a2 n1).bind fun (o4 : ((Int × (Unit)) × (Unit) × (Unit)) ⊕ ((Unit) × (Unit) × (Unit))) => Sum.elim (fun (q5 : (Int × (Unit)) × (Unit) × (Unit)) => some q5.1.1) (fun (q6 : (Unit) × (Unit) × (Unit)) => some (-1 : Int)) o4
def LastI_fc (n : Nat) : FC := { f := 62, args := [.one (.c (.d .str)), .one (.c (.d (.int .u8)))], res := .one (.c (.d (.int .i64))), F := fun p => LastI_t n p.1 p.2 }
def LastI_ct (n : Nat) : List FC := []
theorem LastI_ctok (n : Nat) {G : World → Prop} (hG : Know Inv G) : ∀ c ∈ LastI_ct n, FCok Tryz.prog G c ∧ noTup c.args = true := (fun _ h => by cases h)
def LastI_dh : Hints := []
theorem LastI_dr : drB LastI_dh (bodyOf Tryz.f62) = true := by kernel_rfl
theorem LastI_eq0 (n : Nat) : ∀ rec p, LastI_F0 n rec p = round Tryz.prog 19 (LastI_ct n) (LastI_lts n) LastI_dh 1 LastI_sh0 LastI_outs0 (bodyAt 0 0 (bodyOf Tryz.f62)) rec p := by intro rec p; kernel_rfl
theorem LastI_lok0 (n : Nat) {F : Fr} (hF : F.n = 19) (hK : Know Inv F.G) : LCok Tryz.prog F (LastI_L0 n) (bodyAt 0 0 (bodyOf Tryz.f62)) :=
  loop_ok hF (by kernel_rfl) (LastI_ctok n hK) (LastI_eq0 n) (fuel := n) (fun _ => rfl) (lok_of fun j L h1 h2 h3 => absurd h2 (Nat.not_lt.2 (Nat.le_trans (by decide +kernel) h1))) (drB_at LastI_dr)
theorem LastI_eq (n : Nat) : ∀ a, (LastI_fc n).F a = main Tryz.prog 19 (LastI_ct n) (LastI_lts n) LastI_dh (bodyOf Tryz.f62) [.tmp 4] (LastI_fc n).args (LastI_fc n).res a := by intro a; kernel_rfl
theorem LastI_ok (n : Nat) : FCall Inv Tryz.prog (LastI_fc n) := fun G hG => ⟨⟨by kernel_rfl, fun a r h => main_ok (c := bodyOf Tryz.f62) Tryz.func62 (by kernel_rfl) (by kernel_rfl) (Nat.le_of_ble_eq_true (by kernel_rfl)) hG.st (by kernel_rfl) (rs := [.tmp 4]) (by kernel_rfl) (LastI_ctok n hG) (lts := LastI_lts n) (fun F hF hFG => have hK : Know Inv F.G := hFG ▸ hG; (lok_of (c := (bodyOf Tryz.f62)) (fun j L h1 h2 h3 => by
    have h2' : j < 1 := Nat.lt_of_lt_of_le h2 (by decide +kernel)
    match j, h1, h2', h3 with
    | 0, _, _, h3 => obtain rfl := Option.some.inj h3; exact (show bodyAt 0 0 (bodyOf Tryz.f62) = bodyAt 0 0 (bodyOf Tryz.f62) by kernel_rfl) ▸ LastI_lok0 n hF hK
    | j + 1, _, h2', _ => exact absurd h2' (by omega)))) LastI_dr ((LastI_eq n a).symm.trans h)⟩, rfl⟩
/-! strings.LastIndexByte -/
def LastB_lts (n : Nat) : List LC := []
def LastB_t (n : Nat) (a1 : List UInt8) (a2 : Int) : Option (Int) :=
  (LastI_t n a1 a2).bind fun (r1 : Int) => some r1
def LastB_fc (n : Nat) : FC := { f := 53, args := [.one (.c (.d .str)), .one (.c (.d (.int .u8)))], res := .one (.c (.d (.int .i64))), F := fun p => LastB_t n p.1 p.2 }
def LastB_ct (n : Nat) : List FC := [LastI_fc n]
theorem LastB_ctok (n : Nat) {G : World → Prop} (hG : Know Inv G) : ∀ c ∈ LastB_ct n, FCok Tryz.prog G c ∧ noTup c.args = true := List.forall_mem_cons.2 ⟨LastI_ok n G hG, (fun _ h => by cases h)⟩
def LastB_dh : Hints := []
theorem LastB_dr : drB LastB_dh (bodyOf Tryz.f53) = true := by kernel_rfl
theorem LastB_eq (n : Nat) : ∀ a, (LastB_fc n).F a = main Tryz.prog 8 (LastB_ct n) (LastB_lts n) LastB_dh (bodyOf Tryz.f53) [.tmp 4] (LastB_fc n).args (LastB_fc n).res a := by intro a; kernel_rfl
theorem LastB_ok (n : Nat) : FCall Inv Tryz.prog (LastB_fc n) := fun G hG => ⟨⟨by kernel_rfl, fun a r h => main_ok (c := bodyOf Tryz.f53) Tryz.func53 (by kernel_rfl) (by kernel_rfl) (Nat.le_of_ble_eq_true (by kernel_rfl)) hG.st (by kernel_rfl) (rs := [.tmp 4]) (by kernel_rfl) (LastB_ctok n hG) (lts := LastB_lts n) (fun F hF hFG => have hK : Know Inv F.G := hFG ▸ hG; (lok_of fun j L h1 h2 h3 => absurd h2 (Nat.not_lt.2 (Nat.le_trans (by decide +kernel) h1)))) LastB_dr ((LastB_eq n a).symm.trans h)⟩, rfl⟩
/-! internal/stringslite.CutPrefix -/
def CutPrefixI_lts (n : Nat) : List LC := []
def CutPrefixI_t (n : Nat) (a1 : List UInt8) (a2 : List UInt8) : Option ((List UInt8) × (Bool)) :=
  (HasPrefixI_t n a1 a2).bind fun (r1 : Bool) => (bif !r1 then some (a1, false) else (subO a1 ((List.length a2 : Nat) : Int) ((List.length a1 : Nat) : Int)).bind fun (s2 : List UInt8) => some (s2, true))
def CutPrefixI_fc (n : Nat) : FC := { f := 65, args := [.one (.c (.d .str)), .one (.c (.d .str))], res := .tup [.c (.d .str), .c (.d .bool)], F := fun p => CutPrefixI_t n p.1 p.2 }
def CutPrefixI_ct (n : Nat) : List FC := [HasPrefixI_fc n]
theorem CutPrefixI_ctok (n : Nat) {G : World → Prop} (hG : Know Inv G) : ∀ c ∈ CutPrefixI_ct n, FCok Tryz.prog G c ∧ noTup c.args = true := List.forall_mem_cons.2 ⟨HasPrefixI_ok n G hG, (fun _ h => by cases h)⟩
def CutPrefixI_dh : Hints := []
theorem CutPrefixI_dr : drB CutPrefixI_dh (bodyOf Tryz.f65) = true := by kernel_rfl
theorem CutPrefixI_eq (n : Nat) : ∀ a, (CutPrefixI_fc n).F a = main Tryz.prog 15 (CutPrefixI_ct n) (CutPrefixI_lts n) CutPrefixI_dh (bodyOf Tryz.f65) [.tmp 4, .tmp 5] (CutPrefixI_fc n).args (CutPrefixI_fc n).res a := by intro a; kernel_rfl
theorem CutPrefixI_ok (n : Nat) : FCall Inv Tryz.prog (CutPrefixI_fc n) := fun G hG => ⟨⟨by kernel_rfl, fun a r h => main_ok (c := bodyOf Tryz.f65) Tryz.func65 (by kernel_rfl) (by kernel_rfl) (Nat.le_of_ble_eq_true (by kernel_rfl)) hG.st (by kernel_rfl) (rs := [.tmp 4, .tmp 5]) (by kernel_rfl) (CutPrefixI_ctok n hG) (lts := CutPrefixI_lts n) (fun F hF hFG => have hK : Know Inv F.G := hFG ▸ hG; (lok_of fun j L h1 h2 h3 => absurd h2 (Nat.not_lt.2 (Nat.le_trans (by decide +kernel) h1)))) CutPrefixI_dr ((CutPrefixI_eq n a).symm.trans h)⟩, rfl⟩
/-! strings.CutPrefix -/
def CutPrefix_lts (n : Nat) : List LC := []
def CutPrefix_t (n : Nat) (a1 : List UInt8) (a2 : List UInt8) : Option ((List UInt8) × (Bool)) :=
  (CutPrefixI_t n a1 a2).bind fun (r1 : (List UInt8) × (Bool)) => some r1
def CutPrefix_fc (n : Nat) : FC := { f := 56, args := [.one (.c (.d .str)), .one (.c (.d .str))], res := .tup [.c (.d .str), .c (.d .bool)], F := fun p => CutPrefix_t n p.1 p.2 }
def CutPrefix_ct (n : Nat) : List FC := [CutPrefixI_fc n]
theorem CutPrefix_ctok (n : Nat) {G : World → Prop} (hG : Know Inv G) : ∀ c ∈ CutPrefix_ct n, FCok Tryz.prog G c ∧ noTup c.args = true := List.forall_mem_cons.2 ⟨CutPrefixI_ok n G hG, (fun _ h => by cases h)⟩
def CutPrefix_dh : Hints := []
theorem CutPrefix_dr : drB CutPrefix_dh (bodyOf Tryz.f56) = true := by kernel_rfl
theorem CutPrefix_eq (n : Nat) : ∀ a, (CutPrefix_fc n).F a = main Tryz.prog 11 (CutPrefix_ct n) (CutPrefix_lts n) CutPrefix_dh (bodyOf Tryz.f56) [.tmp 4, .tmp 5] (CutPrefix_fc n).args (CutPrefix_fc n).res a := by intro a; kernel_rfl
theorem CutPrefix_ok (n : Nat) : FCall Inv Tryz.prog (CutPrefix_fc n) := fun G hG => ⟨⟨by kernel_rfl, fun a r h => main_ok (c := bodyOf Tryz.f56) Tryz.func56 (by kernel_rfl) (by kernel_rfl) (Nat.le_of_ble_eq_true (by kernel_rfl)) hG.st (by kernel_rfl) (rs := [.tmp 4, .tmp 5]) (by kernel_rfl) (CutPrefix_ctok n hG) (lts := CutPrefix_lts n) (fun F hF hFG => have hK : Know Inv F.G := hFG ▸ hG; (lok_of fun j L h1 h2 h3 => absurd h2 (Nat.not_lt.2 (Nat.le_trans (by decide +kernel) h1)))) CutPrefix_dr ((CutPrefix_eq n a).symm.trans h)⟩, rfl⟩

/-! armada/mpath.tells -/
def mTells_lts (n : Nat) : List LC := []
def mTells_t (n : Nat) (a1 : List UInt8) : Option (Bool) :=
  (CutPrefix_t n a1 ([118] : List UInt8)).bind fun (r1 : (List UInt8) × (Bool)) => (bif r1.2 then (bif !decide (r1.1 = ([] : List UInt8)) then (trimD_t r1.1 ([48, 49, 50, 51, 52, 53, 54, 55, 56, 57] : List UInt8)).bind fun (r2 : List UInt8) => some (decide (r2 = ([] : List UInt8))) else some false) else some false)
def mTells_fc (n : Nat) : FC := { f := 47, args := [.one (.c (.d .str))], res := .one (.c (.d .bool)), F := fun p => mTells_t n p }
def mTells_ct (n : Nat) : List FC := [CutPrefix_fc n, trimD_fc]
theorem mTells_ctok (n : Nat) {G : World → Prop} (hG : Know Inv G) : ∀ c ∈ mTells_ct n, FCok Tryz.prog G c ∧ noTup c.args = true := List.forall_mem_cons.2 ⟨CutPrefix_ok n G hG, List.forall_mem_cons.2 ⟨trimD_ok G hG, (fun _ h => by cases h)⟩⟩
def mTells_dh : Hints := []
theorem mTells_dr : drB mTells_dh (bodyOf Tryz.f47) = true := by kernel_rfl
theorem mTells_eq (n : Nat) : ∀ a, (mTells_fc n).F a = main Tryz.prog 20 (mTells_ct n) (mTells_lts n) mTells_dh (bodyOf Tryz.f47) [.tmp 2] (mTells_fc n).args (mTells_fc n).res a := by intro a; kernel_rfl
theorem mTells_ok (n : Nat) : FCall Inv Tryz.prog (mTells_fc n) := fun G hG => ⟨⟨by kernel_rfl, fun a r h => main_ok (c := bodyOf Tryz.f47) Tryz.func47 (by kernel_rfl) (by kernel_rfl) (Nat.le_of_ble_eq_true (by kernel_rfl)) hG.st (by kernel_rfl) (rs := [.tmp 2]) (by kernel_rfl) (mTells_ctok n hG) (lts := mTells_lts n) (fun F hF hFG => have hK : Know Inv F.G := hFG ▸ hG; (lok_of fun j L h1 h2 h3 => absurd h2 (Nat.not_lt.2 (Nat.le_trans (by decide +kernel) h1)))) mTells_dr ((mTells_eq n a).symm.trans h)⟩, rfl⟩
end Go.Proofs.YtgdlfnlakfahcaaGreatDoor.AM

/- Layer 5, first part: what functions come to, as plain functions of data: written by program (shal.py); the kernel checks it. -/
namespace Go.Proofs.YtgdlfnlakfahcaaGreatDoor.AM
open Go.RowKit
set_option linter.unusedVariables false
set_option maxRecDepth 20000
/-! armada/files.isSign -/
def fSign_lts (n : Nat) : List LC := []
def fSign_t (n : Nat) (a1 : Int) : Option (Bool) :=
  (bif decide ((97 : Int) ≤ a1) then (bif decide (a1 ≤ (122 : Int)) then (bif decide (a1 ≤ (122 : Int)) then some true else (bif decide (a1 = (45 : Int)) then some true else (bif decide (a1 = (95 : Int)) then some true else some (decide (a1 = (46 : Int)))))) else (bif decide ((65 : Int) ≤ a1) then (bif decide (a1 ≤ (90 : Int)) then (bif decide (a1 ≤ (90 : Int)) then some true else (bif decide (a1 = (45 : Int)) then some true else (bif decide (a1 = (95 : Int)) then some true else some (decide (a1 = (46 : Int)))))) else (bif decide ((48 : Int) ≤ a1) then (bif decide (a1 ≤ (57 : Int)) then some true else (bif decide (a1 = (45 : Int)) then some true else (bif decide (a1 = (95 : Int)) then some true else some (decide (a1 = (46 : Int)))))) else (bif decide (a1 = (45 : Int)) then some true else (bif decide (a1 = (95 : Int)) then some true else some (decide (a1 = (46 : Int))))))) else (bif decide ((48 : Int) ≤ a1) then (bif decide (a1 ≤ (57 : Int)) then some true else (bif decide (a1 = (45 : Int)) then some true else (bif decide (a1 = (95 : Int)) then some true else some (decide (a1 = (46 : Int)))))) else (bif decide (a1 = (45 : Int)) then some true else (bif decide (a1 = (95 : Int)) then some true else some (decide (a1 = (46 : Int)))))))) else (bif decide ((65 : Int) ≤ a1) then (bif decide (a1 ≤ (90 : Int)) then (bif decide (a1 ≤ (90 : Int)) then some true else (bif decide (a1 = (45 : Int)) then some true else (bif decide (a1 = (95 : Int)) then some true else some (decide (a1 = (46 : Int)))))) else (bif decide ((48 : Int) ≤ a1) then (bif decide (a1 ≤ (57 : Int)) then some true else (bif decide (a1 = (45 : Int)) then some true else (bif decide (a1 = (95 : Int)) then some true else some (decide (a1 = (46 : Int)))))) else (bif decide (a1 = (45 : Int)) then some true else (bif decide (a1 = (95 : Int)) then some true else some (decide (a1 = (46 : Int))))))) else (bif decide ((48 : Int) ≤ a1) then (bif decide (a1 ≤ (57 : Int)) then some true else (bif decide (a1 = (45 : Int)) then some true else (bif decide (a1 = (95 : Int)) then some true else some (decide (a1 = (46 : Int)))))) else (bif decide (a1 = (45 : Int)) then some true else (bif decide (a1 = (95 : Int)) then some true else some (decide (a1 = (46 : Int))))))))
def fSign_fc (n : Nat) : FC := { f := 64, args := [.one (.c (.d (.int .u8)))], res := .one (.c (.d .bool)), F := fun p => fSign_t n p }
def fSign_ct (n : Nat) : List FC := []
theorem fSign_ctok (n : Nat) {G : World → Prop} (hG : Know Inv G) : ∀ c ∈ fSign_ct n, FCok Tryz.prog G c ∧ noTup c.args = true := (fun _ h => by cases h)
def fSign_dh : Hints := []
theorem fSign_dr : drB fSign_dh (bodyOf Tryz.f64) = true := by kernel_rfl
theorem fSign_eq (n : Nat) : ∀ a, (fSign_fc n).F a = main Tryz.prog 32 (fSign_ct n) (fSign_lts n) fSign_dh (bodyOf Tryz.f64) [.tmp 2] (fSign_fc n).args (fSign_fc n).res a := by intro a; kernel_rfl
theorem fSign_ok (n : Nat) : FCall Inv Tryz.prog (fSign_fc n) := fun G hG => ⟨⟨by kernel_rfl, fun a r h => main_ok (c := bodyOf Tryz.f64) Tryz.func64 (by kernel_rfl) (by kernel_rfl) (Nat.le_of_ble_eq_true (by kernel_rfl)) hG.st (by kernel_rfl) (rs := [.tmp 2]) (by kernel_rfl) (fSign_ctok n hG) (lts := fSign_lts n) (fun F hF hFG => have hK : Know Inv F.G := hFG ▸ hG; (lok_of fun j L h1 h2 h3 => absurd h2 (Nat.not_lt.2 (Nat.le_trans (by decide +kernel) h1)))) fSign_dr ((fSign_eq n a).symm.trans h)⟩, rfl⟩
/-! armada/files.isPart -/
@[reducible] def fPart_sh0 : SSt := ⟨[(0, .one (.c (.d .str))), (15, .one (.c (.d (.int .i64)))), (16, .one (.c (.d (.int .i64))))], [], []⟩
@[reducible] def fPart_outs0 : List (Exit × SSt) := [(.ret, ⟨[(2, .one (.c (.d .bool)))], [], []⟩), (.exit 0, ⟨[], [], []⟩)]
def fPart_l0 (n : Nat) (rec : (List UInt8) → Int → Int → Option (((Bool × (Unit)) × (Unit) × (Unit)) ⊕ ((Unit) × (Unit) × (Unit)))) (a1 : List UInt8) (a2 : Int) (a3 : Int) : Option (((Bool × (Unit)) × (Unit) × (Unit)) ⊕ ((Unit) × (Unit) × (Unit))) :=
  (bif decide (a3 < a2) then (sAt a1 a3).bind fun (c1 : Int) => (fSign_t n c1).bind fun (r2 : Bool) => (bif !r2 then some (Sum.inl ((false, ()), ((), ()))) else letO (IntKind.wrap .i64 (a3 + (1 : Int))) fun (n3 : Int) => rec a1 a2 n3) else some (Sum.inr (((), ((), ())))))
def fPart_F0 (n : Nat) (rec : pSt fPart_sh0 → Option (pOuts fPart_outs0)) (p : pSt fPart_sh0) : Option (pOuts fPart_outs0) := fPart_l0 n (fun a1 a2 a3 => rec ((a1, (a2, (a3, ()))), ((), ()))) p.1.1 p.1.2.1 p.1.2.2.1
def fPart_loop0 (n m : Nat) (a1 : List UInt8) (a2 : Int) (a3 : Int) : Option (((Bool × (Unit)) × (Unit) × (Unit)) ⊕ ((Unit) × (Unit) × (Unit))) := iterF (fPart_F0 n) m ((a1, (a2, (a3, ()))), ((), ()))
theorem fPart_loop0_succ (n m : Nat) (a1 : List UInt8) (a2 : Int) (a3 : Int) : fPart_loop0 n (m + 1) a1 a2 a3 = fPart_l0 n (fun a1 a2 a3 => fPart_loop0 n m a1 a2 a3) a1 a2 a3 := rfl
def fPart_L0 (n : Nat) : LC := { sh := fPart_sh0, outs := fPart_outs0, F := iterF (fPart_F0 n) n }
def fPart_lts (n : Nat) : List LC := [fPart_L0 n]
def fPart_t (n : Nat) (a1 : List UInt8) : Option (Bool) :=
  (bif decide (a1 = ([] : List UInt8)) then some false else (bif decide (a1 = ([46] : List UInt8)) then some false else (bif decide (a1 = ([46, 46] : List UInt8)) then some false else (fPart_loop0 n n a1 ((List.length a1 : Nat) : Int) (0 : Int)).bind fun (o4 : ((Bool × (Unit)) × (Unit) × (Unit)) ⊕ ((Unit) × (Unit) × (Unit))) => Sum.elim (fun (q5 : (Bool × (Unit)) × (Unit) × (Unit)) => some q5.1.1) (fun (q6 : (Unit) × (Unit) × (Unit)) => some true) o4)))
def fPart_fc (n : Nat) : FC := { f := 55, args := [.one (.c (.d .str))], res := .one (.c (.d .bool)), F := fun p => fPart_t n p }
def fPart_ct (n : Nat) : List FC := [fSign_fc n]
theorem fPart_ctok (n : Nat) {G : World → Prop} (hG : Know Inv G) : ∀ c ∈ fPart_ct n, FCok Tryz.prog G c ∧ noTup c.args = true := List.forall_mem_cons.2 ⟨fSign_ok n G hG, (fun _ h => by cases h)⟩
def fPart_dh : Hints := []
theorem fPart_dr : drB fPart_dh (bodyOf Tryz.f55) = true := by kernel_rfl
theorem fPart_eq0 (n : Nat) : ∀ rec p, fPart_F0 n rec p = round Tryz.prog 25 (fPart_ct n) (fPart_lts n) fPart_dh 1 fPart_sh0 fPart_outs0 (bodyAt 0 0 (bodyOf Tryz.f55)) rec p := by intro rec p; kernel_rfl
theorem fPart_lok0 (n : Nat) {F : Fr} (hF : F.n = 25) (hK : Know Inv F.G) : LCok Tryz.prog F (fPart_L0 n) (bodyAt 0 0 (bodyOf Tryz.f55)) :=
  loop_ok hF (by kernel_rfl) (fPart_ctok n hK) (fPart_eq0 n) (fuel := n) (fun _ => rfl) (lok_of fun j L h1 h2 h3 => absurd h2 (Nat.not_lt.2 (Nat.le_trans (by decide +kernel) h1))) (drB_at fPart_dr)
theorem fPart_eq (n : Nat) : ∀ a, (fPart_fc n).F a = main Tryz.prog 25 (fPart_ct n) (fPart_lts n) fPart_dh (bodyOf Tryz.f55) [.tmp 2] (fPart_fc n).args (fPart_fc n).res a := by intro a; kernel_rfl
theorem fPart_ok (n : Nat) : FCall Inv Tryz.prog (fPart_fc n) := fun G hG => ⟨⟨by kernel_rfl, fun a r h => main_ok (c := bodyOf Tryz.f55) Tryz.func55 (by kernel_rfl) (by kernel_rfl) (Nat.le_of_ble_eq_true (by kernel_rfl)) hG.st (by kernel_rfl) (rs := [.tmp 2]) (by kernel_rfl) (fPart_ctok n hG) (lts := fPart_lts n) (fun F hF hFG => have hK : Know Inv F.G := hFG ▸ hG; (lok_of (c := (bodyOf Tryz.f55)) (fun j L h1 h2 h3 => by
    have h2' : j < 1 := Nat.lt_of_lt_of_le h2 (by decide +kernel)
    match j, h1, h2', h3 with
    | 0, _, _, h3 => obtain rfl := Option.some.inj h3; exact (show bodyAt 0 0 (bodyOf Tryz.f55) = bodyAt 0 0 (bodyOf Tryz.f55) by kernel_rfl) ▸ fPart_lok0 n hF hK
    | j + 1, _, h2', _ => exact absurd h2' (by omega)))) fPart_dr ((fPart_eq n a).symm.trans h)⟩, rfl⟩
end Go.Proofs.YtgdlfnlakfahcaaGreatDoor.AM

/- Layer 5: a path's part: what it comes to. -/
namespace Go.Proofs.YtgdlfnlakfahcaaGreatDoor.AM
open Go.RowKit
set_option linter.unusedVariables false
set_option linter.unusedSimpArgs false
theorem fSign_spec (n : Nat) (c : UInt8) : fSign_t n ((c.toNat : Nat) : Int) = some (pSign c) := by
  have h : ∀ k : Fin 256, fSign_t 0 ((k.val : Nat) : Int) = some (pSign (UInt8.ofNat k.val)) := by decide +kernel
  have h1 := h ⟨c.toNat, c.toNat_lt⟩
  have e : UInt8.ofNat c.toNat = c := by simp
  rw [e] at h1
  exact h1
theorem fPart_loop (n : Nat) (s : List UInt8) (hL : s.length ≤ 1000000) : ∀ m j : Nat, j ≤ s.length → s.length - j < m → fPart_loop0 n m s ((s.length : Nat) : Int) (j : Int) = some (if (s.drop j).all pSign = true then Sum.inr ((), ((), ())) else Sum.inl ((false, ()), ((), ())))
  | 0, j, _, h => absurd h (Nat.not_lt_zero _)
  | m + 1, j, hj, h => by
    rw [fPart_loop0_succ]
    unfold fPart_l0
    by_cases c0 : j < s.length
    · have c0' : ((j : Nat) : Int) < ((s.length : Nat) : Int) := by omega
      have ih := fPart_loop n s hL m (j + 1) (by omega) (by omega)
      have hd : s.drop j = s[j] :: s.drop (j + 1) := (List.drop_eq_getElem_cons c0)
      simp only [c0', decide_true, cond_true, sAt_lt c0, Option.bind_some, fSign_spec, letO, wrap_succ (show j < 4611686018427387904 by omega), ih, hd, List.all_cons]
      cases pSign s[j] <;> simp
    · have c0' : ¬ ((j : Nat) : Int) < ((s.length : Nat) : Int) := by omega
      have : s.drop j = [] := List.drop_eq_nil_of_le (by omega)
      simp [c0', this]
theorem fPart_spec (n : Nat) (s : List UInt8) (hL : s.length ≤ 1000000) (hn : s.length < n) : fPart_t n s = some (partS s) := by
  unfold fPart_t partS
  have := fPart_loop n s hL n 0 (Nat.zero_le _) (by omega)
  rw [show ((0 : Nat) : Int) = (0 : Int) from rfl] at this
  rw [this, List.drop_zero]
  cases decide (s = []) <;> cases decide (s = [46]) <;> cases decide (s = [46, 46]) <;> cases s.all pSign <;> rfl
end Go.Proofs.YtgdlfnlakfahcaaGreatDoor.AM

/- Layer 7: digits of small numbers: mathematics. -/
namespace Go.Proofs.YtgdlfnlakfahcaaGreatDoor.AM
open Go.RowKit
set_option linter.unusedVariables false
set_option linter.unusedSimpArgs false
theorem itoa_len {n : Int} (h : 0 ≤ n ∧ n ≤ 999999999) : (Lib.itoa n).length ≤ 9 := by
  rw [itoa_dec h.1]; exact dec_len 8 n.toNat (by omega)
theorem trimV_len (s : List UInt8) : (trimV s).length ≤ s.length := by
  unfold trimV; split
  · rw [List.length_drop]; omega
  · exact Nat.le_refl _
end Go.Proofs.YtgdlfnlakfahcaaGreatDoor.AM

/- Layer 7: whether a version may be, and what every other text of this layer leans on. -/
namespace Go.Proofs.YtgdlfnlakfahcaaGreatDoor.AM
open Go.RowKit
set_option linter.unusedVariables false
set_option linter.unusedSimpArgs false
theorem Trim_spec (n : Nat) (s : List UInt8) (hs : s.length ≤ 1000000) : TrimPrefix_t n s [118] = some (trimV s) := by
  unfold TrimPrefix_t TrimPrefixI_t HasPrefixI_t trimV
  cases s with
  | nil => rfl
  | cons b r =>
    have h1 : ((List.length ([118] : List UInt8) : Nat) : Int) ≤ ((List.length (b :: r) : Nat) : Int) := by simp; omega
    have h2 : subO (b :: r) (0 : Int) ((List.length ([118] : List UInt8) : Nat) : Int) = some [b] := sub_zero (b := 1) (by simp)
    have h3 : subO (b :: r) ((List.length ([118] : List UInt8) : Nat) : Int) ((List.length (b :: r) : Nat) : Int) = some r := by
      have := sub_le (l := b :: r) (a := 1) (b := (b :: r).length) (by simp) (Nat.le_refl _)
      rw [show ((List.length ([118] : List UInt8) : Nat) : Int) = ((1 : Nat) : Int) from rfl, this]
      simp
    simp only [h1, decide_true, cond_true, h2, Option.bind_some, List.head?_cons, Option.some.injEq, List.drop_succ_cons, List.drop_zero]
    by_cases hb : b = 118
    · simp only [hb, decide_true, cond_true, if_true] at h3 ⊢
      rw [h3]; rfl
    · have : ¬ [b] = ([118] : List UInt8) := fun h => hb (by simpa using h)
      simp [this, hb]
end Go.Proofs.YtgdlfnlakfahcaaGreatDoor.AM

/- Layer 8: the last place of a byte, a path's part, whether a part tells a major: what they come to. -/
namespace Go.Proofs.YtgdlfnlakfahcaaGreatDoor.AM
open Go.RowKit
set_option linter.unusedVariables false
set_option linter.unusedSimpArgs false
theorem take_succ_rev (s : List UInt8) (j : Nat) (h : j < s.length) : (s.take (j + 1)).reverse = s[j] :: (s.take j).reverse := by
  rw [List.take_succ_eq_append_getElem h]; simp
theorem LastI_loop (n : Nat) (c : UInt8) (s : List UInt8) (hL : s.length ≤ 1000000) : ∀ m j : Nat, j ≤ s.length → j < m → LastI_loop0 n m s ((c.toNat : Nat) : Int) ((j : Int) - 1) = some (if lastR c (s.take j).reverse = -1 then Sum.inr ((), ((), ())) else Sum.inl ((lastR c (s.take j).reverse, ()), ((), ())))
  | 0, j, _, h => absurd h (Nat.not_lt_zero _)
  | m + 1, 0, _, _ => by
    rw [LastI_loop0_succ]
    unfold LastI_l0
    simp [lastR]
  | m + 1, j + 1, hj, h => by
    rw [LastI_loop0_succ]
    unfold LastI_l0
    have e1 : ((j + 1 : Nat) : Int) - 1 = ((j : Nat) : Int) := by omega
    have ih := LastI_loop n c s hL m j (by omega) (by omega)
    have w1 : IntKind.wrap .i64 (((j : Nat) : Int) - 1) = ((j : Nat) : Int) - 1 := wrap64 (by omega) (by omega)
    have c0 : (0 : Int) ≤ ((j : Nat) : Int) := by omega
    have d1 : decide (((s[j].toNat : Nat) : Int) = ((c.toNat : Nat) : Int)) = decide (s[j] = c) := decide_eq_decide.2 ⟨fun h => UInt8.toNat_inj.1 (by omega), fun h => by rw [h]⟩
    rw [e1]
    simp only [c0, decide_true, cond_true, sAt_lt (show j < s.length by omega), Option.bind_some, d1, letO, w1, ih, take_succ_rev s j (by omega), lastR]
    by_cases h0 : s[j] = c
    · have : ¬ (((s.take j).reverse.length : Nat) : Int) = -1 := by omega
      have l1 : (s.take j).reverse.length = j := by simp; omega
      simp only [h0, decide_true, cond_true, if_true, this, if_false, l1]
      rw [if_neg (by omega)]
    · simp [h0]
theorem LastI_spec (n : Nat) (c : UInt8) (s : List UInt8) (hL : s.length ≤ 1000000) (hn : s.length < n) : LastI_t n s ((c.toNat : Nat) : Int) = some (lastC c s) := by
  unfold LastI_t
  have := LastI_loop n c s hL n s.length (Nat.le_refl _) hn
  have w1 : IntKind.wrap .i64 (((s.length : Nat) : Int) - 1) = ((s.length : Nat) : Int) - 1 := wrap64 (by omega) (by omega)
  simp only [letO, w1, this, List.take_length]
  unfold lastC
  by_cases h : lastR c s.reverse = -1
  · simp [h]
  · simp [h]
theorem LastB_spec (n : Nat) (s : List UInt8) (hL : s.length ≤ 1000000) (hn : s.length < n) : LastB_t n s (47 : Int) = some (lastC 47 s) := by
  unfold LastB_t
  rw [show (47 : Int) = (((47 : UInt8).toNat : Nat) : Int) from rfl, LastI_spec n 47 s hL hn]; rfl
theorem CutPre_spec (n : Nat) (s : List UInt8) (hs : s.length ≤ 1000000) : CutPrefix_t n s [118] = some (if s.head? = some 118 then (s.drop 1, true) else (s, false)) := by
  unfold CutPrefix_t CutPrefixI_t HasPrefixI_t
  cases s with
  | nil => rfl
  | cons b r =>
    have h1 : ((List.length ([118] : List UInt8) : Nat) : Int) ≤ ((List.length (b :: r) : Nat) : Int) := by simp; omega
    have h2 : subO (b :: r) (0 : Int) ((List.length ([118] : List UInt8) : Nat) : Int) = some [b] := sub_zero (b := 1) (by simp)
    have h3 : subO (b :: r) ((List.length ([118] : List UInt8) : Nat) : Int) ((List.length (b :: r) : Nat) : Int) = some r := by
      have := sub_le (l := b :: r) (a := 1) (b := (b :: r).length) (by simp) (Nat.le_refl _)
      rw [show ((List.length ([118] : List UInt8) : Nat) : Int) = ((1 : Nat) : Int) from rfl, this]
      simp
    simp only [h1, decide_true, cond_true, h2, Option.bind_some, List.head?_cons, Option.some.injEq, List.drop_succ_cons, List.drop_zero]
    by_cases hb : b = 118
    · simp only [hb, decide_true, cond_true, if_true, Bool.not_true, cond_false] at h3 ⊢
      rw [h3]; rfl
    · have : ¬ [b] = ([118] : List UInt8) := fun h => hb (by simpa using h)
      simp [this, hb]
theorem mTells_spec (n : Nat) (s : List UInt8) (hs : s.length ≤ 1000000) : mTells_t n s = some (tellsS s) := by
  unfold mTells_t tellsS isNumS
  rw [CutPre_spec n s hs]
  by_cases h : s.head? = some 118
  · have hl : (s.drop 1).length ≤ 1000000 := by rw [List.length_drop]; omega
    have ht : trimD_t (s.drop 1) digs = some (Lib.trimS (s.drop 1) digs) := if_pos ⟨rfl, hl⟩
    simp only [h, if_true, Option.bind_some, cond_true, ht, trim_nil, decide_true, Bool.true_and]
    cases decide (s.drop 1 = []) <;> cases (s.drop 1).all isDig <;> rfl
  · simp [h]
end Go.Proofs.YtgdlfnlakfahcaaGreatDoor.AM

/- Layer 16: in the place of layer 5's. -/

/- What a function keeps that ranges over the parts of a text. -/
namespace Go.Proofs
open Go.RowKit Go.Shelf Go.Lib
attribute [local go_sem] Oper.semAt_some
set_option linter.unusedVariables false
set_option linter.unusedSimpArgs false
namespace YtgdlfnlakfahcaaGreatDoor.AM
theorem ret_cell {P : Program} {fn : Func} {p : Tmp} {ty : TypeId} {b : Nat} {v : Value} {tmps : Array Value} {w : World} (h : fn.results = #[.cell p ty]) (hp : tmps.getD p undef = .pointer (some ⟨b, 0, none⟩)) (ha : aggD P ty = some false)
    (hc : w.cell? ⟨b, 0, none⟩ = some v) : (results fn tmps).run P w = .ok v w := by
  have hp' : tmps[p]?.getD undef = .pointer (some ⟨b, 0, none⟩) := by simpa using hp
  simp only [results, h]
  simp [Sem.run_bind, hp', asAddr, loadVar, run_isAgg' ha w, go_sem, hc]
theorem below_cell {W W' : World} {a : Addr} {v : Value} (hb : Below W.heap.size W W') (h : W.cell? a = some v) : W'.cell? a = some v := by
  obtain ⟨o, ho, hc⟩ := cells_of_cell h
  exact (World.cell?_of_block ((hb.block _ (Array.getElem?_eq_some_iff.1 ho).1).trans ho |>.trans ho.symm)).trans h
theorem below_frozen {W W' : World} {a : Addr} {v : Value} (hb : Below W.heap.size W W') (h : W.cell? a = some v) : W'.frozen? a = W.frozen? a := by
  obtain ⟨o, ho, hc⟩ := cells_of_cell h
  exact World.frozen?_of_block ((hb.block _ (Array.getElem?_eq_some_iff.1 ho).1).trans ho |>.trans ho.symm)
theorem keeps_below {W W' : World} (hb : Below W.heap.size W W') : KeepsOthers W W' := ⟨hb.size, fun k o h _ => (hb.block k (Array.getElem?_eq_some_iff.1 h).1).trans h⟩
theorem left_below {pS : Nat} {r : List UInt8} {W W' : World} (h : Left pS r W) (hb : Below W.heap.size W W') : Left pS r W' := ⟨below_cell hb h.1, (below_frozen hb h.1).trans h.2⟩
theorem boxed_cell {w : World} {b : Nat} {v : Value} {t : TypeId} (h : w.heap[b]? = some (.cells #[v] t (0, 0))) : w.cell? ⟨b, 0, none⟩ = some v ∧ w.frozen? ⟨b, 0, none⟩ = false := by
  constructor
  · simp [World.cell?, h]
  · simp [World.frozen?, h]
theorem hag : aggD Tryz.prog 4 = some false := by kernel_rfl
/-- between two rounds: the cells of a function value and of the result -/
structure Rng (fv : Value) (pF pR : Nat) (pP pC : Nat) (c : UInt8) (w0 : World) (pred : List UInt8 → Bool) (pre : List (List UInt8)) (W : World) : Prop where
  fn : W.cell? ⟨pF, 0, none⟩ = some fv
  res : W.cell? ⟨pR, 0, none⟩ = some (.bool false)
  frz : W.frozen? ⟨pR, 0, none⟩ = false
  cP : W.cell? ⟨pP, 0, none⟩ = some (.string (ba [c]))
  cC : W.cell? ⟨pC, 0, none⟩ = some (.int .i64 0)
  below : Below w0.heap.size w0 W
  all : pre.all pred = true
structure RngX (pR : Nat) (w0 : World) (pred : List UInt8 → Bool) (pre : List (List UInt8)) (W : World) : Prop where
  res : W.cell? ⟨pR, 0, none⟩ = some (.bool false)
  below : Below w0.heap.size w0 W
  no : pre.all pred = false
theorem rng_own {fv : Value} {pF pR pP pC : Nat} {c : UInt8} {w0 : World} {pred : List UInt8 → Bool} {B : Nat} (hB : w0.heap.size ≤ B) : OwnFrom B (Rng fv pF pR pP pC c w0 pred) := fun s W W' row h hg hr =>
  ⟨own_cell h.fn hg hr, own_cell h.res hg hr, (frozen_kept h.res hg (fun r e => (hr r e).2)).trans h.frz, own_cell h.cP hg hr, own_cell h.cC hg hr, h.below.grown hg h.below.size (fun k e => Nat.le_trans hB (hr k e).1), h.all⟩
theorem rngX_own {pR : Nat} {w0 : World} {pred : List UInt8 → Bool} {B : Nat} (hB : w0.heap.size ≤ B) : OwnFrom B (RngX pR w0 pred) := fun s W W' row h hg hr =>
  ⟨own_cell h.res hg hr, h.below.grown hg h.below.size (fun k e => Nat.le_trans hB (hr k e).1), h.no⟩
theorem rng_below {fv : Value} {pF pR pP pC : Nat} {c : UInt8} {w0 : World} {pred : List UInt8 → Bool} {pre : List (List UInt8)} {x : List UInt8} {W W' : World} (h : Rng fv pF pR pP pC c w0 pred pre W) (hb : Below W.heap.size W W') (hx : pred x = true) : Rng fv pF pR pP pC c w0 pred (pre ++ [x]) W' :=
  ⟨below_cell hb h.fn, below_cell hb h.res, (below_frozen hb h.res).trans h.frz, below_cell hb h.cP, below_cell hb h.cC, h.below.trans (hb.mono h.below.size), by rw [List.all_append, h.all]; simp [hx]⟩
theorem rng_set {fv : Value} {pF pR pP pC : Nat} {c : UInt8} {w0 : World} {pred : List UInt8 → Bool} {pre : List (List UInt8)} {W : World} {q : Nat} (v : Value) (h : Rng fv pF pR pP pC c w0 pred pre W) (h0 : w0.heap.size ≤ q) (h1 : q ≠ pF) (h2 : q ≠ pR) (h3 : q ≠ pP) (h4 : q ≠ pC) : Rng fv pF pR pP pC c w0 pred pre (W.setCell ⟨q, 0, none⟩ v) := by
  have ne : ∀ p : Nat, q ≠ p → (W.setCell ⟨q, 0, none⟩ v).cell? ⟨p, 0, none⟩ = W.cell? ⟨p, 0, none⟩ := fun p hp => World.cell?_setCell_other _ _ _ _ (by intro e; exact hp (by injection e with e))
  exact ⟨(ne _ h1).trans h.fn, (ne _ h2).trans h.res, by rw [World.frozen?_setCell]; exact h.frz, (ne _ h3).trans h.cP, (ne _ h4).trans h.cC, h.below.setCell (by simpa using h0) _, h.all⟩
theorem four (w : World) (o0 o1 o2 o3 : Obj) : ∃ W, ((((w.alloc o0).alloc o1).alloc o2).alloc o3) = W ∧ W.heap.size = w.heap.size + 4 ∧ Below w.heap.size w W ∧ W.heap[w.heap.size]? = some o0 ∧ W.heap[w.heap.size + 1]? = some o1 ∧ W.heap[w.heap.size + 1 + 1]? = some o2 ∧ W.heap[w.heap.size + 1 + 2]? = some o3 := by
  have al : ∀ (w : World) (o : Obj) (k : Nat), k < w.heap.size → (w.alloc o).heap[k]? = w.heap[k]? := fun w o k h => Below.heap_alloc _ _ _ h
  refine ⟨_, rfl, by simp, ((((Below.refl _ w).alloc (Nat.le_refl _) _).alloc (by simp) _).alloc (by simp; omega) _).alloc (by simp; omega) _, ?_, ?_, ?_, ?_⟩
  · rw [al _ _ _ (by simp <;> omega), al _ _ _ (by simp <;> omega), al _ _ _ (by simp), World.alloc_heap_new]
  · rw [al _ _ _ (by simp <;> omega), al _ _ _ (by simp)]
    have := World.alloc_heap_new (w.alloc o0) o1
    rw [World.size_alloc] at this; exact this
  · rw [al _ _ _ (by simp)]
    have := World.alloc_heap_new ((w.alloc o0).alloc o1) o2
    rw [World.size_alloc, World.size_alloc] at this; exact this
  · have := World.alloc_heap_new (((w.alloc o0).alloc o1).alloc o2) o3
    rw [World.size_alloc, World.size_alloc, World.size_alloc] at this; exact this
structure RngY (pR : Nat) (w0 : World) (pred : List UInt8 → Bool) (pre : List (List UInt8)) (W : World) : Prop where
  res : W.cell? ⟨pR, 0, none⟩ = some (.bool true)
  below : Below w0.heap.size w0 W
  no : pre.all pred = false
theorem rngY_own {pR : Nat} {w0 : World} {pred : List UInt8 → Bool} {B : Nat} (hB : w0.heap.size ≤ B) : OwnFrom B (RngY pR w0 pred) := fun s W W' row h hg hr =>
  ⟨own_cell h.res hg hr, h.below.grown hg h.below.size (fun k e => Nat.le_trans hB (hr k e).1), h.no⟩
theorem all_stop {pred : List UInt8 → Bool} {s x : List UInt8} {pre t : List (List UInt8)} (hsp : spl 47 [] s = pre ++ x :: t) (hn : (pre ++ [x]).all pred = false) : (spl 47 [] s).all pred = false := by
  rw [List.all_append, Bool.and_eq_false_iff] at hn
  rw [hsp, List.all_append, Bool.and_eq_false_iff]
  rcases hn with hn | hn
  · exact Or.inl hn
  · refine Or.inr ?_
    simp only [List.all_cons, List.all_nil, Bool.and_true] at hn
    rw [List.all_cons, hn]; rfl
end YtgdlfnlakfahcaaGreatDoor.AM
end Go.Proofs
