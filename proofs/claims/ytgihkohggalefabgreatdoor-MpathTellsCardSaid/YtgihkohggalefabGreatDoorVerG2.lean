/- Layer 7, the rest: what functions come to, as plain functions of data: written by program (shal.py); the kernel checks it. -/
import Derived.Test.YtgihkohggalefabGreatDoorVerT
namespace Go.Proofs.YtgihkohggalefabGreatDoor.AM
open Go.RowKit
set_option linter.unusedVariables false
set_option maxRecDepth 20000
/-! internal/stringslite.HasPrefix -/
def HasPrefixI_lts (n : Nat) : List LC := []
def HasPrefixI_t (n : Nat) (a1 : List UInt8) (a2 : List UInt8) : Option (Bool) :=
  (bif decide (((List.length a2 : Nat) : Int) ≤ ((List.length a1 : Nat) : Int)) then (subO a1 (0 : Int) ((List.length a2 : Nat) : Int)).bind fun (s1 : List UInt8) => some (decide (s1 = a2)) else some false)
def HasPrefixI_fc (n : Nat) : FC := { f := 40, args := [.one (.c (.d .str)), .one (.c (.d .str))], res := .one (.c (.d .bool)), F := fun p => HasPrefixI_t n p.1 p.2 }
def HasPrefixI_ct (n : Nat) : List FC := []
theorem HasPrefixI_ctok (n : Nat) {G : World → Prop} (hG : Know Inv G) : ∀ c ∈ HasPrefixI_ct n, FCok Tryz.prog G c ∧ noTup c.args = true := (fun _ h => by cases h)
def HasPrefixI_dh : Hints := []
theorem HasPrefixI_dr : drB HasPrefixI_dh (bodyOf Tryz.f40) = true := by kernel_rfl
theorem HasPrefixI_eq (n : Nat) : ∀ a, (HasPrefixI_fc n).F a = main Tryz.prog 18 (HasPrefixI_ct n) (HasPrefixI_lts n) HasPrefixI_dh (bodyOf Tryz.f40) [.tmp 4] (HasPrefixI_fc n).args (HasPrefixI_fc n).res a := by intro a; kernel_rfl
theorem HasPrefixI_ok (n : Nat) : FCall Inv Tryz.prog (HasPrefixI_fc n) := fun G hG => ⟨⟨by kernel_rfl, fun a r h => main_ok (c := bodyOf Tryz.f40) Tryz.func40 (by kernel_rfl) (by kernel_rfl) (Nat.le_of_ble_eq_true (by kernel_rfl)) hG.st (by kernel_rfl) (rs := [.tmp 4]) (by kernel_rfl) (HasPrefixI_ctok n hG) (lts := HasPrefixI_lts n) (fun F hF hFG => have hK : Know Inv F.G := hFG ▸ hG; (lok_of fun j L h1 h2 h3 => absurd h2 (Nat.not_lt.2 (Nat.le_trans (by decide +kernel) h1)))) HasPrefixI_dr ((HasPrefixI_eq n a).symm.trans h)⟩, rfl⟩
/-! internal/stringslite.TrimPrefix -/
def TrimPrefixI_lts (n : Nat) : List LC := []
def TrimPrefixI_t (n : Nat) (a1 : List UInt8) (a2 : List UInt8) : Option (List UInt8) :=
  (HasPrefixI_t n a1 a2).bind fun (r1 : Bool) => (bif r1 then (subO a1 ((List.length a2 : Nat) : Int) ((List.length a1 : Nat) : Int)).bind fun (s2 : List UInt8) => some s2 else some a1)
def TrimPrefixI_fc (n : Nat) : FC := { f := 52, args := [.one (.c (.d .str)), .one (.c (.d .str))], res := .one (.c (.d .str)), F := fun p => TrimPrefixI_t n p.1 p.2 }
def TrimPrefixI_ct (n : Nat) : List FC := [HasPrefixI_fc n]
theorem TrimPrefixI_ctok (n : Nat) {G : World → Prop} (hG : Know Inv G) : ∀ c ∈ TrimPrefixI_ct n, FCok Tryz.prog G c ∧ noTup c.args = true := List.forall_mem_cons.2 ⟨HasPrefixI_ok n G hG, (fun _ h => by cases h)⟩
def TrimPrefixI_dh : Hints := []
theorem TrimPrefixI_dr : drB TrimPrefixI_dh (bodyOf Tryz.f52) = true := by kernel_rfl
theorem TrimPrefixI_eq (n : Nat) : ∀ a, (TrimPrefixI_fc n).F a = main Tryz.prog 13 (TrimPrefixI_ct n) (TrimPrefixI_lts n) TrimPrefixI_dh (bodyOf Tryz.f52) [.tmp 4] (TrimPrefixI_fc n).args (TrimPrefixI_fc n).res a := by intro a; kernel_rfl
theorem TrimPrefixI_ok (n : Nat) : FCall Inv Tryz.prog (TrimPrefixI_fc n) := fun G hG => ⟨⟨by kernel_rfl, fun a r h => main_ok (c := bodyOf Tryz.f52) Tryz.func52 (by kernel_rfl) (by kernel_rfl) (Nat.le_of_ble_eq_true (by kernel_rfl)) hG.st (by kernel_rfl) (rs := [.tmp 4]) (by kernel_rfl) (TrimPrefixI_ctok n hG) (lts := TrimPrefixI_lts n) (fun F hF hFG => have hK : Know Inv F.G := hFG ▸ hG; (lok_of fun j L h1 h2 h3 => absurd h2 (Nat.not_lt.2 (Nat.le_trans (by decide +kernel) h1)))) TrimPrefixI_dr ((TrimPrefixI_eq n a).symm.trans h)⟩, rfl⟩
/-! strings.TrimPrefix -/
def TrimPrefix_lts (n : Nat) : List LC := []
def TrimPrefix_t (n : Nat) (a1 : List UInt8) (a2 : List UInt8) : Option (List UInt8) :=
  (TrimPrefixI_t n a1 a2).bind fun (r1 : List UInt8) => some r1
def TrimPrefix_fc (n : Nat) : FC := { f := 31, args := [.one (.c (.d .str)), .one (.c (.d .str))], res := .one (.c (.d .str)), F := fun p => TrimPrefix_t n p.1 p.2 }
def TrimPrefix_ct (n : Nat) : List FC := [TrimPrefixI_fc n]
theorem TrimPrefix_ctok (n : Nat) {G : World → Prop} (hG : Know Inv G) : ∀ c ∈ TrimPrefix_ct n, FCok Tryz.prog G c ∧ noTup c.args = true := List.forall_mem_cons.2 ⟨TrimPrefixI_ok n G hG, (fun _ h => by cases h)⟩
def TrimPrefix_dh : Hints := []
theorem TrimPrefix_dr : drB TrimPrefix_dh (bodyOf Tryz.f31) = true := by kernel_rfl
theorem TrimPrefix_eq (n : Nat) : ∀ a, (TrimPrefix_fc n).F a = main Tryz.prog 8 (TrimPrefix_ct n) (TrimPrefix_lts n) TrimPrefix_dh (bodyOf Tryz.f31) [.tmp 4] (TrimPrefix_fc n).args (TrimPrefix_fc n).res a := by intro a; kernel_rfl
theorem TrimPrefix_ok (n : Nat) : FCall Inv Tryz.prog (TrimPrefix_fc n) := fun G hG => ⟨⟨by kernel_rfl, fun a r h => main_ok (c := bodyOf Tryz.f31) Tryz.func31 (by kernel_rfl) (by kernel_rfl) (Nat.le_of_ble_eq_true (by kernel_rfl)) hG.st (by kernel_rfl) (rs := [.tmp 4]) (by kernel_rfl) (TrimPrefix_ctok n hG) (lts := TrimPrefix_lts n) (fun F hF hFG => have hK : Know Inv F.G := hFG ▸ hG; (lok_of fun j L h1 h2 h3 => absurd h2 (Nat.not_lt.2 (Nat.le_trans (by decide +kernel) h1)))) TrimPrefix_dr ((TrimPrefix_eq n a).symm.trans h)⟩, rfl⟩





/-! armada/ver.Check -/
@[reducible] def vCheck_sh0 : SSt := ⟨[(1, .one (.c (.box 1 0))), (11, .one (.agg [.d (.int .i64), .d (.int .i64), .d (.int .i64)])), (12, .one (.c (.d (.int .i64))))], [(1, (23, [.d (.int .i64), .d (.int .i64), .d (.int .i64), .d .str, .d .str]))], []⟩
@[reducible] def vCheck_outs0 : List (Exit × SSt) := [(.ret, ⟨[(2, .one (.c (.d .bool)))], [], []⟩), (.exit 0, ⟨[(1, .one (.c (.box 1 0)))], [(1, (23, [.d (.int .i64), .d (.int .i64), .d (.int .i64), .d .str, .d .str]))], []⟩)]
def vCheck_l0 (n : Nat) (rec : Int → Int → Int → Int → Int → Int → Int → (List UInt8) → (List UInt8) → Option (((Bool × (Unit)) × (Unit) × (Unit)) ⊕ ((Unit × (Unit)) × ((Int × (Int × (Int × ((List UInt8) × (List UInt8))))) × (Unit)) × (Unit)))) (a1 : Int) (a2 : Int) (a3 : Int) (a4 : Int) (a5 : Int) (a6 : Int) (a7 : Int) (a8 : List UInt8) (a9 : List UInt8) : Option (((Bool × (Unit)) × (Unit) × (Unit)) ⊕ ((Unit × (Unit)) × ((Int × (Int × (Int × ((List UInt8) × (List UInt8))))) × (Unit)) × (Unit))) :=
  (bif decide (a4 < (3 : Int)) then (idxL ([a1, a2, a3] : List (Int)) a4).bind fun (x1 : Int) => (bif decide (x1 < (0 : Int)) then some (Sum.inl ((false, ()), ((), ()))) else (bif decide ((999999999 : Int) < x1) then some (Sum.inl ((false, ()), ((), ()))) else letO (IntKind.wrap .i64 (a4 + (1 : Int))) fun (n2 : Int) => rec a1 a2 a3 n2 a5 a6 a7 a8 a9)) else some (Sum.inr ((((), ()), (((a5, (a6, (a7, (a8, a9)))), ()), ())))))
def vCheck_F0 (n : Nat) (rec : pSt vCheck_sh0 → Option (pOuts vCheck_outs0)) (p : pSt vCheck_sh0) : Option (pOuts vCheck_outs0) := vCheck_l0 n (fun a1 a2 a3 a4 a5 a6 a7 a8 a9 => rec (((), ((a1, (a2, a3)), (a4, ()))), (((a5, (a6, (a7, (a8, a9)))), ()), ()))) p.1.2.1.1 p.1.2.1.2.1 p.1.2.1.2.2 p.1.2.2.1 p.2.1.1.1 p.2.1.1.2.1 p.2.1.1.2.2.1 p.2.1.1.2.2.2.1 p.2.1.1.2.2.2.2
def vCheck_loop0 (n m : Nat) (a1 : Int) (a2 : Int) (a3 : Int) (a4 : Int) (a5 : Int) (a6 : Int) (a7 : Int) (a8 : List UInt8) (a9 : List UInt8) : Option (((Bool × (Unit)) × (Unit) × (Unit)) ⊕ ((Unit × (Unit)) × ((Int × (Int × (Int × ((List UInt8) × (List UInt8))))) × (Unit)) × (Unit))) := iterF (vCheck_F0 n) m (((), ((a1, (a2, a3)), (a4, ()))), (((a5, (a6, (a7, (a8, a9)))), ()), ()))
theorem vCheck_loop0_succ (n m : Nat) (a1 : Int) (a2 : Int) (a3 : Int) (a4 : Int) (a5 : Int) (a6 : Int) (a7 : Int) (a8 : List UInt8) (a9 : List UInt8) : vCheck_loop0 n (m + 1) a1 a2 a3 a4 a5 a6 a7 a8 a9 = vCheck_l0 n (fun a1 a2 a3 a4 a5 a6 a7 a8 a9 => vCheck_loop0 n m a1 a2 a3 a4 a5 a6 a7 a8 a9) a1 a2 a3 a4 a5 a6 a7 a8 a9 := rfl
def vCheck_L0 (n : Nat) : LC := { sh := vCheck_sh0, outs := vCheck_outs0, F := iterF (vCheck_F0 n) n }
def vCheck_lts (n : Nat) : List LC := [vCheck_L0 n]
def vCheck_t (n : Nat) (a1 : Int × (Int × (Int × ((List UInt8) × (List UInt8))))) : Option (Bool) :=
  (vCheck_loop0 n n a1.1 a1.2.1 a1.2.2.1 (0 : Int) a1.1 a1.2.1 a1.2.2.1 a1.2.2.2.1 a1.2.2.2.2).bind fun (o3 : ((Bool × (Unit)) × (Unit) × (Unit)) ⊕ ((Unit × (Unit)) × ((Int × (Int × (Int × ((List UInt8) × (List UInt8))))) × (Unit)) × (Unit))) => Sum.elim (fun (q4 : (Bool × (Unit)) × (Unit) × (Unit)) => some q4.1.1) (fun (q5 : (Unit × (Unit)) × ((Int × (Int × (Int × ((List UInt8) × (List UInt8))))) × (Unit)) × (Unit)) => (tailPre_t q5.2.1.1.2.2.2.1 ()).bind fun (r6 : Bool) => (bif r6 then (tailPart_t q5.2.1.1.2.2.2.2 ()).bind fun (r7 : Bool) => some r7 else some false)) o3
def vCheck_fc (n : Nat) : FC := { f := 23, args := [.one (.agg [.d (.int .i64), .d (.int .i64), .d (.int .i64), .d .str, .d .str])], res := .one (.c (.d .bool)), F := fun p => vCheck_t n p }
def vCheck_ct (n : Nat) : List FC := [tailPre_fc, tailPart_fc]
theorem vCheck_ctok (n : Nat) {G : World → Prop} (hG : Know Inv G) : ∀ c ∈ vCheck_ct n, FCok Tryz.prog G c ∧ noTup c.args = true := List.forall_mem_cons.2 ⟨tailPre_ok G hG, List.forall_mem_cons.2 ⟨tailPart_ok G hG, (fun _ h => by cases h)⟩⟩
def vCheck_dh : Hints := []
theorem vCheck_dr : drB vCheck_dh (bodyOf Tryz.f23) = true := by kernel_rfl
theorem vCheck_eq0 (n : Nat) : ∀ rec p, vCheck_F0 n rec p = round Tryz.prog 30 (vCheck_ct n) (vCheck_lts n) vCheck_dh 1 vCheck_sh0 vCheck_outs0 (bodyAt 0 0 (bodyOf Tryz.f23)) rec p := by intro rec p; kernel_rfl
theorem vCheck_lok0 (n : Nat) {F : Fr} (hF : F.n = 30) (hK : Know Inv F.G) : LCok Tryz.prog F (vCheck_L0 n) (bodyAt 0 0 (bodyOf Tryz.f23)) :=
  loop_ok hF (by kernel_rfl) (vCheck_ctok n hK) (vCheck_eq0 n) (fuel := n) (fun _ => rfl) (lok_of fun j L h1 h2 h3 => absurd h2 (Nat.not_lt.2 (Nat.le_trans (by decide +kernel) h1))) (drB_at vCheck_dr)
theorem vCheck_eq (n : Nat) : ∀ a, (vCheck_fc n).F a = main Tryz.prog 30 (vCheck_ct n) (vCheck_lts n) vCheck_dh (bodyOf Tryz.f23) [.tmp 2] (vCheck_fc n).args (vCheck_fc n).res a := by intro a; kernel_rfl
theorem vCheck_ok (n : Nat) : FCall Inv Tryz.prog (vCheck_fc n) := fun G hG => ⟨⟨by kernel_rfl, fun a r h => main_ok (c := bodyOf Tryz.f23) Tryz.func23 (by kernel_rfl) (by kernel_rfl) (Nat.le_of_ble_eq_true (by kernel_rfl)) hG.st (by kernel_rfl) (rs := [.tmp 2]) (by kernel_rfl) (vCheck_ctok n hG) (lts := vCheck_lts n) (fun F hF hFG => have hK : Know Inv F.G := hFG ▸ hG; (lok_of (c := (bodyOf Tryz.f23)) (fun j L h1 h2 h3 => by
    have h2' : j < 1 := Nat.lt_of_lt_of_le h2 (by decide +kernel)
    match j, h1, h2', h3 with
    | 0, _, _, h3 => obtain rfl := Option.some.inj h3; exact (show bodyAt 0 0 (bodyOf Tryz.f23) = bodyAt 0 0 (bodyOf Tryz.f23) by kernel_rfl) ▸ vCheck_lok0 n hF hK
    | j + 1, _, h2', _ => exact absurd h2' (by omega)))) vCheck_dr ((vCheck_eq n a).symm.trans h)⟩, rfl⟩








/-! armada/armadaref05.Split -/
@[reducible] def rSplit5_sh0 : SSt := ⟨[(0, .one (.c (.d .str))), (1, .one (.c (.d (.int .u8)))), (5, .one (.c (.row 31))), (6, .one (.c (.d (.int .i64)))), (7, .one (.c (.d (.int .i64))))], [], [(31, ⟨9, true, .str⟩)]⟩
@[reducible] def rSplit5_outs0 : List (Exit × SSt) := [(.exit 0, ⟨[(5, .one (.c (.row 31)))], [], [(31, ⟨9, true, .str⟩)]⟩)]
def rSplit5_l0 (n : Nat) (rec : (List UInt8) → Int → Int → Int → (List (List UInt8)) → Option ((Unit × (Unit)) × (Unit) × ((List (List UInt8)) × (Unit)))) (a1 : List UInt8) (a2 : Int) (a3 : Int) (a4 : Int) (a5 : List (List UInt8)) : Option ((Unit × (Unit)) × (Unit) × ((List (List UInt8)) × (Unit))) :=
  (bif decide (a4 ≤ ((List.length a1 : Nat) : Int)) then (bif decide (a4 = ((List.length a1 : Nat) : Int)) then (subO a1 a3 a4).bind fun (s1 : List UInt8) => (appO 16 a5 ([s1] : List (List UInt8))).bind fun (l2 : List (List UInt8)) => letO (IntKind.wrap .i64 (a4 + (1 : Int))) fun (n3 : Int) => letO (IntKind.wrap .i64 (a4 + (1 : Int))) fun (n4 : Int) => rec a1 a2 n3 n4 l2 else (sAt a1 a4).bind fun (c5 : Int) => (bif decide (c5 = a2) then (subO a1 a3 a4).bind fun (s6 : List UInt8) => (appO 16 a5 ([s6] : List (List UInt8))).bind fun (l7 : List (List UInt8)) => letO (IntKind.wrap .i64 (a4 + (1 : Int))) fun (n8 : Int) => letO (IntKind.wrap .i64 (a4 + (1 : Int))) fun (n9 : Int) => rec a1 a2 n8 n9 l7 else letO (IntKind.wrap .i64 (a4 + (1 : Int))) fun (n10 : Int) => rec a1 a2 a3 n10 a5)) else some ((((), ()), ((), (a5, ())))))
def rSplit5_F0 (n : Nat) (rec : pSt rSplit5_sh0 → Option (pOuts rSplit5_outs0)) (p : pSt rSplit5_sh0) : Option (pOuts rSplit5_outs0) := rSplit5_l0 n (fun a1 a2 a3 a4 a5 => rec ((a1, (a2, ((), (a3, (a4, ()))))), ((), (a5, ())))) p.1.1 p.1.2.1 p.1.2.2.2.1 p.1.2.2.2.2.1 p.2.2.1
def rSplit5_loop0 (n m : Nat) (a1 : List UInt8) (a2 : Int) (a3 : Int) (a4 : Int) (a5 : List (List UInt8)) : Option ((Unit × (Unit)) × (Unit) × ((List (List UInt8)) × (Unit))) := iterF (rSplit5_F0 n) m ((a1, (a2, ((), (a3, (a4, ()))))), ((), (a5, ())))
theorem rSplit5_loop0_succ (n m : Nat) (a1 : List UInt8) (a2 : Int) (a3 : Int) (a4 : Int) (a5 : List (List UInt8)) : rSplit5_loop0 n (m + 1) a1 a2 a3 a4 a5 = rSplit5_l0 n (fun a1 a2 a3 a4 a5 => rSplit5_loop0 n m a1 a2 a3 a4 a5) a1 a2 a3 a4 a5 := rfl
def rSplit5_L0 (n : Nat) : LC := { sh := rSplit5_sh0, outs := rSplit5_outs0, F := iterF (rSplit5_F0 n) n }
def rSplit5_lts (n : Nat) : List LC := [rSplit5_L0 n]
def rSplit5_t (n : Nat) (a1 : List UInt8) (a2 : Int) : Option (List (List UInt8)) :=
  (rSplit5_loop0 n n a1 a2 (0 : Int) (0 : Int) []).bind fun (o11 : (Unit × (Unit)) × (Unit) × ((List (List UInt8)) × (Unit))) => some o11.2.2.1
def rSplit5_fc (n : Nat) : FC := { f := 18, args := [.one (.c (.d .str)), .one (.c (.d (.int .u8)))], res := .one (.c (.d (.lst .str))), F := fun p => rSplit5_t n p.1 p.2 }
def rSplit5_ct (n : Nat) : List FC := []
theorem rSplit5_ctok (n : Nat) {G : World → Prop} (hG : Know Inv G) : ∀ c ∈ rSplit5_ct n, FCok Tryz.prog G c ∧ noTup c.args = true := (fun _ h => by cases h)
def rSplit5_dh : Hints := []
theorem rSplit5_dr : drB rSplit5_dh (bodyOf Tryz.f18) = true := by kernel_rfl
theorem rSplit5_eq0 (n : Nat) : ∀ rec p, rSplit5_F0 n rec p = round Tryz.prog 35 (rSplit5_ct n) (rSplit5_lts n) rSplit5_dh 1 rSplit5_sh0 rSplit5_outs0 (bodyAt 0 0 (bodyOf Tryz.f18)) rec p := by intro rec p; kernel_rfl
theorem rSplit5_lok0 (n : Nat) {F : Fr} (hF : F.n = 35) (hK : Know Inv F.G) : LCok Tryz.prog F (rSplit5_L0 n) (bodyAt 0 0 (bodyOf Tryz.f18)) :=
  loop_ok hF (by kernel_rfl) (rSplit5_ctok n hK) (rSplit5_eq0 n) (fuel := n) (fun _ => rfl) (lok_of fun j L h1 h2 h3 => absurd h2 (Nat.not_lt.2 (Nat.le_trans (by decide +kernel) h1))) (drB_at rSplit5_dr)
theorem rSplit5_eq (n : Nat) : ∀ a, (rSplit5_fc n).F a = main Tryz.prog 35 (rSplit5_ct n) (rSplit5_lts n) rSplit5_dh (bodyOf Tryz.f18) [.tmp 4] (rSplit5_fc n).args (rSplit5_fc n).res a := by intro a; kernel_rfl
theorem rSplit5_ok (n : Nat) : FCall Inv Tryz.prog (rSplit5_fc n) := fun G hG => ⟨⟨by kernel_rfl, fun a r h => main_ok (c := bodyOf Tryz.f18) Tryz.func18 (by kernel_rfl) (by kernel_rfl) (Nat.le_of_ble_eq_true (by kernel_rfl)) hG.st (by kernel_rfl) (rs := [.tmp 4]) (by kernel_rfl) (rSplit5_ctok n hG) (lts := rSplit5_lts n) (fun F hF hFG => have hK : Know Inv F.G := hFG ▸ hG; (lok_of (c := (bodyOf Tryz.f18)) (fun j L h1 h2 h3 => by
    have h2' : j < 1 := Nat.lt_of_lt_of_le h2 (by decide +kernel)
    match j, h1, h2', h3 with
    | 0, _, _, h3 => obtain rfl := Option.some.inj h3; exact (show bodyAt 0 0 (bodyOf Tryz.f18) = bodyAt 0 0 (bodyOf Tryz.f18) by kernel_rfl) ▸ rSplit5_lok0 n hF hK
    | j + 1, _, h2', _ => exact absurd h2' (by omega)))) rSplit5_dr ((rSplit5_eq n a).symm.trans h)⟩, rfl⟩
/-! armada/armadaref07.digits -/
@[reducible] def rDigits_sh0 : SSt := ⟨[(0, .one (.c (.d .str))), (3, .one (.c (.d (.int .i64))))], [], []⟩
@[reducible] def rDigits_outs0 : List (Exit × SSt) := [(.ret, ⟨[(2, .one (.c (.d .bool)))], [], []⟩), (.exit 0, ⟨[(0, .one (.c (.d .str)))], [], []⟩)]
def rDigits_l0 (n : Nat) (rec : (List UInt8) → Int → Option (((Bool × (Unit)) × (Unit) × (Unit)) ⊕ (((List UInt8) × (Unit)) × (Unit) × (Unit)))) (a1 : List UInt8) (a2 : Int) : Option (((Bool × (Unit)) × (Unit) × (Unit)) ⊕ (((List UInt8) × (Unit)) × (Unit) × (Unit))) :=
  (bif decide (a2 < ((List.length a1 : Nat) : Int)) then (sAt a1 a2).bind fun (c1 : Int) => (bif decide (c1 < (48 : Int)) then some (Sum.inl ((false, ()), ((), ()))) else (sAt a1 a2).bind fun (c2 : Int) => (bif decide ((57 : Int) < c2) then some (Sum.inl ((false, ()), ((), ()))) else letO (IntKind.wrap .i64 (a2 + (1 : Int))) fun (n3 : Int) => rec a1 n3)) else some (Sum.inr (((a1, ()), ((), ())))))
def rDigits_F0 (n : Nat) (rec : pSt rDigits_sh0 → Option (pOuts rDigits_outs0)) (p : pSt rDigits_sh0) : Option (pOuts rDigits_outs0) := rDigits_l0 n (fun a1 a2 => rec ((a1, (a2, ())), ((), ()))) p.1.1 p.1.2.1
def rDigits_loop0 (n m : Nat) (a1 : List UInt8) (a2 : Int) : Option (((Bool × (Unit)) × (Unit) × (Unit)) ⊕ (((List UInt8) × (Unit)) × (Unit) × (Unit))) := iterF (rDigits_F0 n) m ((a1, (a2, ())), ((), ()))
theorem rDigits_loop0_succ (n m : Nat) (a1 : List UInt8) (a2 : Int) : rDigits_loop0 n (m + 1) a1 a2 = rDigits_l0 n (fun a1 a2 => rDigits_loop0 n m a1 a2) a1 a2 := rfl
def rDigits_L0 (n : Nat) : LC := { sh := rDigits_sh0, outs := rDigits_outs0, F := iterF (rDigits_F0 n) n }
def rDigits_lts (n : Nat) : List LC := [rDigits_L0 n]
def rDigits_t (n : Nat) (a1 : List UInt8) : Option (Bool) :=
  (rDigits_loop0 n n a1 (0 : Int)).bind fun (o4 : ((Bool × (Unit)) × (Unit) × (Unit)) ⊕ (((List UInt8) × (Unit)) × (Unit) × (Unit))) => Sum.elim (fun (q5 : (Bool × (Unit)) × (Unit) × (Unit)) => some q5.1.1) (fun (q6 : ((List UInt8) × (Unit)) × (Unit) × (Unit)) => some (!decide (q6.1.1 = ([] : List UInt8)))) o4
def rDigits_fc (n : Nat) : FC := { f := 59, args := [.one (.c (.d .str))], res := .one (.c (.d .bool)), F := fun p => rDigits_t n p }
def rDigits_ct (n : Nat) : List FC := []
theorem rDigits_ctok (n : Nat) {G : World → Prop} (hG : Know Inv G) : ∀ c ∈ rDigits_ct n, FCok Tryz.prog G c ∧ noTup c.args = true := (fun _ h => by cases h)
def rDigits_dh : Hints := []
theorem rDigits_dr : drB rDigits_dh (bodyOf Tryz.f59) = true := by kernel_rfl
theorem rDigits_eq0 (n : Nat) : ∀ rec p, rDigits_F0 n rec p = round Tryz.prog 22 (rDigits_ct n) (rDigits_lts n) rDigits_dh 1 rDigits_sh0 rDigits_outs0 (bodyAt 0 0 (bodyOf Tryz.f59)) rec p := by intro rec p; kernel_rfl
theorem rDigits_lok0 (n : Nat) {F : Fr} (hF : F.n = 22) (hK : Know Inv F.G) : LCok Tryz.prog F (rDigits_L0 n) (bodyAt 0 0 (bodyOf Tryz.f59)) :=
  loop_ok hF (by kernel_rfl) (rDigits_ctok n hK) (rDigits_eq0 n) (fuel := n) (fun _ => rfl) (lok_of fun j L h1 h2 h3 => absurd h2 (Nat.not_lt.2 (Nat.le_trans (by decide +kernel) h1))) (drB_at rDigits_dr)
theorem rDigits_eq (n : Nat) : ∀ a, (rDigits_fc n).F a = main Tryz.prog 22 (rDigits_ct n) (rDigits_lts n) rDigits_dh (bodyOf Tryz.f59) [.tmp 2] (rDigits_fc n).args (rDigits_fc n).res a := by intro a; kernel_rfl
theorem rDigits_ok (n : Nat) : FCall Inv Tryz.prog (rDigits_fc n) := fun G hG => ⟨⟨by kernel_rfl, fun a r h => main_ok (c := bodyOf Tryz.f59) Tryz.func59 (by kernel_rfl) (by kernel_rfl) (Nat.le_of_ble_eq_true (by kernel_rfl)) hG.st (by kernel_rfl) (rs := [.tmp 2]) (by kernel_rfl) (rDigits_ctok n hG) (lts := rDigits_lts n) (fun F hF hFG => have hK : Know Inv F.G := hFG ▸ hG; (lok_of (c := (bodyOf Tryz.f59)) (fun j L h1 h2 h3 => by
    have h2' : j < 1 := Nat.lt_of_lt_of_le h2 (by decide +kernel)
    match j, h1, h2', h3 with
    | 0, _, _, h3 => obtain rfl := Option.some.inj h3; exact (show bodyAt 0 0 (bodyOf Tryz.f59) = bodyAt 0 0 (bodyOf Tryz.f59) by kernel_rfl) ▸ rDigits_lok0 n hF hK
    | j + 1, _, h2', _ => exact absurd h2' (by omega)))) rDigits_dr ((rDigits_eq n a).symm.trans h)⟩, rfl⟩
/-! armada/armadaref07.identifiers -/
@[reducible] def rIdents_sh1 : SSt := ⟨[(1, .one (.c (.d .bool))), (5, .one (.c (.d (.lst .str)))), (6, .one (.c (.d (.int .i64)))), (7, .one (.c (.d (.int .i64))))], [], []⟩
@[reducible] def rIdents_outs1 : List (Exit × SSt) := [(.ret, ⟨[(4, .one (.c (.d .bool)))], [], []⟩), (.exit 2, ⟨[(1, .one (.c (.d .bool))), (5, .one (.c (.d (.lst .str)))), (6, .one (.c (.d (.int .i64))))], [], []⟩)]
def rIdents_l1 (n : Nat) (rec : Bool → (List (List UInt8)) → Int → Int → Option (((Bool × (Unit)) × (Unit) × (Unit)) ⊕ ((Bool × ((List (List UInt8)) × (Int × (Unit)))) × (Unit) × (Unit)))) (a1 : Bool) (a2 : List (List UInt8)) (a3 : Int) (a4 : Int) : Option (((Bool × (Unit)) × (Unit) × (Unit)) ⊕ ((Bool × ((List (List UInt8)) × (Int × (Unit)))) × (Unit) × (Unit))) :=
  (idxL a2 a3).bind fun (x2 : List UInt8) => (bif decide (a4 < ((List.length x2 : Nat) : Int)) then (idxL a2 a3).bind fun (x3 : List UInt8) => (sAt x3 a4).bind fun (c4 : Int) => (bif decide ((97 : Int) ≤ c4) then (bif !(decide (c4 ≤ (122 : Int))) then (bif decide ((65 : Int) ≤ c4) then (bif !(decide (c4 ≤ (90 : Int))) then (bif decide ((48 : Int) ≤ c4) then (bif !(decide (c4 ≤ (57 : Int))) then (bif !decide (c4 = (45 : Int)) then some (Sum.inl ((false, ()), ((), ()))) else letO (IntKind.wrap .i64 (a4 + (1 : Int))) fun (n5 : Int) => rec a1 a2 a3 n5) else letO (IntKind.wrap .i64 (a4 + (1 : Int))) fun (n6 : Int) => rec a1 a2 a3 n6) else (bif !decide (c4 = (45 : Int)) then some (Sum.inl ((false, ()), ((), ()))) else letO (IntKind.wrap .i64 (a4 + (1 : Int))) fun (n7 : Int) => rec a1 a2 a3 n7)) else letO (IntKind.wrap .i64 (a4 + (1 : Int))) fun (n8 : Int) => rec a1 a2 a3 n8) else (bif decide ((48 : Int) ≤ c4) then (bif !(decide (c4 ≤ (57 : Int))) then (bif !decide (c4 = (45 : Int)) then some (Sum.inl ((false, ()), ((), ()))) else letO (IntKind.wrap .i64 (a4 + (1 : Int))) fun (n9 : Int) => rec a1 a2 a3 n9) else letO (IntKind.wrap .i64 (a4 + (1 : Int))) fun (n10 : Int) => rec a1 a2 a3 n10) else (bif !decide (c4 = (45 : Int)) then some (Sum.inl ((false, ()), ((), ()))) else letO (IntKind.wrap .i64 (a4 + (1 : Int))) fun (n11 : Int) => rec a1 a2 a3 n11))) else letO (IntKind.wrap .i64 (a4 + (1 : Int))) fun (n12 : Int) => rec a1 a2 a3 n12) else (bif decide ((65 : Int) ≤ c4) then (bif !(decide (c4 ≤ (90 : Int))) then (bif decide ((48 : Int) ≤ c4) then (bif !(decide (c4 ≤ (57 : Int))) then (bif !decide (c4 = (45 : Int)) then some (Sum.inl ((false, ()), ((), ()))) else letO (IntKind.wrap .i64 (a4 + (1 : Int))) fun (n13 : Int) => rec a1 a2 a3 n13) else letO (IntKind.wrap .i64 (a4 + (1 : Int))) fun (n14 : Int) => rec a1 a2 a3 n14) else (bif !decide (c4 = (45 : Int)) then some (Sum.inl ((false, ()), ((), ()))) else letO (IntKind.wrap .i64 (a4 + (1 : Int))) fun (n15 : Int) => rec a1 a2 a3 n15)) else letO (IntKind.wrap .i64 (a4 + (1 : Int))) fun (n16 : Int) => rec a1 a2 a3 n16) else (bif decide ((48 : Int) ≤ c4) then (bif !(decide (c4 ≤ (57 : Int))) then (bif !decide (c4 = (45 : Int)) then some (Sum.inl ((false, ()), ((), ()))) else letO (IntKind.wrap .i64 (a4 + (1 : Int))) fun (n17 : Int) => rec a1 a2 a3 n17) else letO (IntKind.wrap .i64 (a4 + (1 : Int))) fun (n18 : Int) => rec a1 a2 a3 n18) else (bif !decide (c4 = (45 : Int)) then some (Sum.inl ((false, ()), ((), ()))) else letO (IntKind.wrap .i64 (a4 + (1 : Int))) fun (n19 : Int) => rec a1 a2 a3 n19)))) else some (Sum.inr (((a1, (a2, (a3, ()))), ((), ())))))
def rIdents_F1 (n : Nat) (rec : pSt rIdents_sh1 → Option (pOuts rIdents_outs1)) (p : pSt rIdents_sh1) : Option (pOuts rIdents_outs1) := rIdents_l1 n (fun a1 a2 a3 a4 => rec ((a1, (a2, (a3, (a4, ())))), ((), ()))) p.1.1 p.1.2.1 p.1.2.2.1 p.1.2.2.2.1
def rIdents_loop1 (n m : Nat) (a1 : Bool) (a2 : List (List UInt8)) (a3 : Int) (a4 : Int) : Option (((Bool × (Unit)) × (Unit) × (Unit)) ⊕ ((Bool × ((List (List UInt8)) × (Int × (Unit)))) × (Unit) × (Unit))) := iterF (rIdents_F1 n) m ((a1, (a2, (a3, (a4, ())))), ((), ()))
theorem rIdents_loop1_succ (n m : Nat) (a1 : Bool) (a2 : List (List UInt8)) (a3 : Int) (a4 : Int) : rIdents_loop1 n (m + 1) a1 a2 a3 a4 = rIdents_l1 n (fun a1 a2 a3 a4 => rIdents_loop1 n m a1 a2 a3 a4) a1 a2 a3 a4 := rfl
def rIdents_L1 (n : Nat) : LC := { sh := rIdents_sh1, outs := rIdents_outs1, F := iterF (rIdents_F1 n) n }
@[reducible] def rIdents_sh0 : SSt := ⟨[(1, .one (.c (.d .bool))), (5, .one (.c (.d (.lst .str)))), (6, .one (.c (.d (.int .i64))))], [], []⟩
@[reducible] def rIdents_outs0 : List (Exit × SSt) := [(.ret, ⟨[(4, .one (.c (.d .bool)))], [], []⟩), (.exit 0, ⟨[], [], []⟩)]
def rIdents_l0 (n : Nat) (rec : Bool → (List (List UInt8)) → Int → Option (((Bool × (Unit)) × (Unit) × (Unit)) ⊕ ((Unit) × (Unit) × (Unit)))) (a1 : Bool) (a2 : List (List UInt8)) (a3 : Int) : Option (((Bool × (Unit)) × (Unit) × (Unit)) ⊕ ((Unit) × (Unit) × (Unit))) :=
  (bif decide (a3 < ((List.length a2 : Nat) : Int)) then (rIdents_loop1 n n a1 a2 a3 (0 : Int)).bind fun (o20 : ((Bool × (Unit)) × (Unit) × (Unit)) ⊕ ((Bool × ((List (List UInt8)) × (Int × (Unit)))) × (Unit) × (Unit))) => Sum.elim (fun (q21 : (Bool × (Unit)) × (Unit) × (Unit)) => some (Sum.inl ((q21.1.1, ()), ((), ())))) (fun (q22 : (Bool × ((List (List UInt8)) × (Int × (Unit)))) × (Unit) × (Unit)) => (idxL q22.1.2.1 q22.1.2.2.1).bind fun (x23 : List UInt8) => (bif decide (x23 = ([] : List UInt8)) then some (Sum.inl ((false, ()), ((), ()))) else (bif !q22.1.1 then (idxL q22.1.2.1 q22.1.2.2.1).bind fun (x24 : List UInt8) => (rDigits_t n x24).bind fun (r25 : Bool) => (bif r25 then (idxL q22.1.2.1 q22.1.2.2.1).bind fun (x26 : List UInt8) => (bif decide ((1 : Int) < ((List.length x26 : Nat) : Int)) then (idxL q22.1.2.1 q22.1.2.2.1).bind fun (x27 : List UInt8) => (sAt x27 (0 : Int)).bind fun (c28 : Int) => (bif decide (c28 = (48 : Int)) then some (Sum.inl ((false, ()), ((), ()))) else letO (IntKind.wrap .i64 (q22.1.2.2.1 + (1 : Int))) fun (n29 : Int) => rec q22.1.1 q22.1.2.1 n29) else letO (IntKind.wrap .i64 (q22.1.2.2.1 + (1 : Int))) fun (n30 : Int) => rec q22.1.1 q22.1.2.1 n30) else letO (IntKind.wrap .i64 (q22.1.2.2.1 + (1 : Int))) fun (n31 : Int) => rec q22.1.1 q22.1.2.1 n31) else letO (IntKind.wrap .i64 (q22.1.2.2.1 + (1 : Int))) fun (n32 : Int) => rec q22.1.1 q22.1.2.1 n32))) o20 else some (Sum.inr (((), ((), ())))))
def rIdents_F0 (n : Nat) (rec : pSt rIdents_sh0 → Option (pOuts rIdents_outs0)) (p : pSt rIdents_sh0) : Option (pOuts rIdents_outs0) := rIdents_l0 n (fun a1 a2 a3 => rec ((a1, (a2, (a3, ()))), ((), ()))) p.1.1 p.1.2.1 p.1.2.2.1
def rIdents_loop0 (n m : Nat) (a1 : Bool) (a2 : List (List UInt8)) (a3 : Int) : Option (((Bool × (Unit)) × (Unit) × (Unit)) ⊕ ((Unit) × (Unit) × (Unit))) := iterF (rIdents_F0 n) m ((a1, (a2, (a3, ()))), ((), ()))
theorem rIdents_loop0_succ (n m : Nat) (a1 : Bool) (a2 : List (List UInt8)) (a3 : Int) : rIdents_loop0 n (m + 1) a1 a2 a3 = rIdents_l0 n (fun a1 a2 a3 => rIdents_loop0 n m a1 a2 a3) a1 a2 a3 := rfl
def rIdents_L0 (n : Nat) : LC := { sh := rIdents_sh0, outs := rIdents_outs0, F := iterF (rIdents_F0 n) n }
def rIdents_lts (n : Nat) : List LC := [rIdents_L0 n, rIdents_L1 n]
def rIdents_t (n : Nat) (a1 : List UInt8) (a2 : Bool) : Option (Bool) :=
  (rSplit5_t n a1 (46 : Int)).bind fun (r1 : List (List UInt8)) => (rIdents_loop0 n n a2 r1 (0 : Int)).bind fun (o33 : ((Bool × (Unit)) × (Unit) × (Unit)) ⊕ ((Unit) × (Unit) × (Unit))) => Sum.elim (fun (q34 : (Bool × (Unit)) × (Unit) × (Unit)) => some q34.1.1) (fun (q35 : (Unit) × (Unit) × (Unit)) => some true) o33
def rIdents_fc (n : Nat) : FC := { f := 39, args := [.one (.c (.d .str)), .one (.c (.d .bool))], res := .one (.c (.d .bool)), F := fun p => rIdents_t n p.1 p.2 }
def rIdents_ct (n : Nat) : List FC := [rSplit5_fc n, rDigits_fc n]
theorem rIdents_ctok (n : Nat) {G : World → Prop} (hG : Know Inv G) : ∀ c ∈ rIdents_ct n, FCok Tryz.prog G c ∧ noTup c.args = true := List.forall_mem_cons.2 ⟨rSplit5_ok n G hG, List.forall_mem_cons.2 ⟨rDigits_ok n G hG, (fun _ h => by cases h)⟩⟩
def rIdents_dh : Hints := []
theorem rIdents_dr : drB rIdents_dh (bodyOf Tryz.f39) = true := by kernel_rfl
theorem rIdents_eq1 (n : Nat) : ∀ rec p, rIdents_F1 n rec p = round Tryz.prog 93 (rIdents_ct n) (rIdents_lts n) rIdents_dh 2 rIdents_sh1 rIdents_outs1 (bodyAt 0 1 (bodyOf Tryz.f39)) rec p := by intro rec p; kernel_rfl
theorem rIdents_eq0 (n : Nat) : ∀ rec p, rIdents_F0 n rec p = round Tryz.prog 93 (rIdents_ct n) (rIdents_lts n) rIdents_dh 1 rIdents_sh0 rIdents_outs0 (bodyAt 0 0 (bodyOf Tryz.f39)) rec p := by intro rec p; kernel_rfl
theorem rIdents_lok1 (n : Nat) {F : Fr} (hF : F.n = 93) (hK : Know Inv F.G) : LCok Tryz.prog F (rIdents_L1 n) (bodyAt 0 1 (bodyOf Tryz.f39)) :=
  loop_ok hF (by kernel_rfl) (rIdents_ctok n hK) (rIdents_eq1 n) (fuel := n) (fun _ => rfl) (lok_of fun j L h1 h2 h3 => absurd h2 (Nat.not_lt.2 (Nat.le_trans (by decide +kernel) h1))) (drB_at rIdents_dr)
theorem rIdents_lok0 (n : Nat) {F : Fr} (hF : F.n = 93) (hK : Know Inv F.G) : LCok Tryz.prog F (rIdents_L0 n) (bodyAt 0 0 (bodyOf Tryz.f39)) :=
  loop_ok hF (by kernel_rfl) (rIdents_ctok n hK) (rIdents_eq0 n) (fuel := n) (fun _ => rfl) (lok_of (c := (bodyAt 0 0 (bodyOf Tryz.f39))) (fun j L h1 h2 h3 => by
    have h2' : j < 2 := Nat.lt_of_lt_of_le h2 (by decide +kernel)
    match j, h1, h2', h3 with
    | 0, h1, _, _ => exact absurd h1 (by decide)
    | 1, _, _, h3 => obtain rfl := Option.some.inj h3; exact (show bodyAt 0 1 (bodyOf Tryz.f39) = bodyAt 1 1 (bodyAt 0 0 (bodyOf Tryz.f39)) by kernel_rfl) ▸ rIdents_lok1 n hF hK
    | j + 2, _, h2', _ => exact absurd h2' (by omega))) (drB_at rIdents_dr)
theorem rIdents_eq (n : Nat) : ∀ a, (rIdents_fc n).F a = main Tryz.prog 93 (rIdents_ct n) (rIdents_lts n) rIdents_dh (bodyOf Tryz.f39) [.tmp 4] (rIdents_fc n).args (rIdents_fc n).res a := by intro a; kernel_rfl
theorem rIdents_ok (n : Nat) : FCall Inv Tryz.prog (rIdents_fc n) := fun G hG => ⟨⟨by kernel_rfl, fun a r h => main_ok (c := bodyOf Tryz.f39) Tryz.func39 (by kernel_rfl) (by kernel_rfl) (Nat.le_of_ble_eq_true (by kernel_rfl)) hG.st (by kernel_rfl) (rs := [.tmp 4]) (by kernel_rfl) (rIdents_ctok n hG) (lts := rIdents_lts n) (fun F hF hFG => have hK : Know Inv F.G := hFG ▸ hG; (lok_of (c := (bodyOf Tryz.f39)) (fun j L h1 h2 h3 => by
    have h2' : j < 2 := Nat.lt_of_lt_of_le h2 (by decide +kernel)
    match j, h1, h2', h3 with
    | 0, _, _, h3 => obtain rfl := Option.some.inj h3; exact (show bodyAt 0 0 (bodyOf Tryz.f39) = bodyAt 0 0 (bodyOf Tryz.f39) by kernel_rfl) ▸ rIdents_lok0 n hF hK
    | 1, _, _, h3 => obtain rfl := Option.some.inj h3; exact (show bodyAt 0 1 (bodyOf Tryz.f39) = bodyAt 0 1 (bodyOf Tryz.f39) by kernel_rfl) ▸ rIdents_lok1 n hF hK
    | j + 2, _, h2', _ => exact absurd h2' (by omega)))) rIdents_dr ((rIdents_eq n a).symm.trans h)⟩, rfl⟩
/-! armada/armadaref07.num -/
def rNum_lts (n : Nat) : List LC := []
def rNum_t (n : Nat) (a1 : Int) : Option (Bool) :=
  (bif decide ((0 : Int) ≤ a1) then some (decide (a1 ≤ (999999999 : Int))) else some false)
def rNum_fc (n : Nat) : FC := { f := 38, args := [.one (.c (.d (.int .i64)))], res := .one (.c (.d .bool)), F := fun p => rNum_t n p }
def rNum_ct (n : Nat) : List FC := []
theorem rNum_ctok (n : Nat) {G : World → Prop} (hG : Know Inv G) : ∀ c ∈ rNum_ct n, FCok Tryz.prog G c ∧ noTup c.args = true := (fun _ h => by cases h)
def rNum_dh : Hints := []
theorem rNum_dr : drB rNum_dh (bodyOf Tryz.f38) = true := by kernel_rfl
theorem rNum_eq (n : Nat) : ∀ a, (rNum_fc n).F a = main Tryz.prog 9 (rNum_ct n) (rNum_lts n) rNum_dh (bodyOf Tryz.f38) [.tmp 2] (rNum_fc n).args (rNum_fc n).res a := by intro a; kernel_rfl
theorem rNum_ok (n : Nat) : FCall Inv Tryz.prog (rNum_fc n) := fun G hG => ⟨⟨by kernel_rfl, fun a r h => main_ok (c := bodyOf Tryz.f38) Tryz.func38 (by kernel_rfl) (by kernel_rfl) (Nat.le_of_ble_eq_true (by kernel_rfl)) hG.st (by kernel_rfl) (rs := [.tmp 2]) (by kernel_rfl) (rNum_ctok n hG) (lts := rNum_lts n) (fun F hF hFG => have hK : Know Inv F.G := hFG ▸ hG; (lok_of fun j L h1 h2 h3 => absurd h2 (Nat.not_lt.2 (Nat.le_trans (by decide +kernel) h1)))) rNum_dr ((rNum_eq n a).symm.trans h)⟩, rfl⟩
/-! armada/armadaref07.Check -/
def rCheck_lts (n : Nat) : List LC := []
def rCheck_t (n : Nat) (a1 : Int × (Int × (Int × ((List UInt8) × (List UInt8))))) : Option (Bool) :=
  (rNum_t n a1.1).bind fun (r1 : Bool) => (bif !r1 then some false else (rNum_t n a1.2.1).bind fun (r2 : Bool) => (bif !r2 then some false else (rNum_t n a1.2.2.1).bind fun (r3 : Bool) => (bif !r3 then some false else (bif decide ((30 : Int) < ((List.length a1.2.2.2.1 : Nat) : Int)) then some false else (bif decide ((30 : Int) < ((List.length a1.2.2.2.2 : Nat) : Int)) then some false else (bif decide (a1.2.2.2.1 = ([] : List UInt8)) then (bif decide (a1.2.2.2.2 = ([] : List UInt8)) then some true else (rIdents_t n a1.2.2.2.2 true).bind fun (r4 : Bool) => some r4) else (rIdents_t n a1.2.2.2.1 false).bind fun (r5 : Bool) => (bif r5 then (bif decide (a1.2.2.2.2 = ([] : List UInt8)) then some true else (rIdents_t n a1.2.2.2.2 true).bind fun (r6 : Bool) => some r6) else some false)))))))
def rCheck_fc (n : Nat) : FC := { f := 24, args := [.one (.agg [.d (.int .i64), .d (.int .i64), .d (.int .i64), .d .str, .d .str])], res := .one (.c (.d .bool)), F := fun p => rCheck_t n p }
def rCheck_ct (n : Nat) : List FC := [rNum_fc n, rIdents_fc n]
theorem rCheck_ctok (n : Nat) {G : World → Prop} (hG : Know Inv G) : ∀ c ∈ rCheck_ct n, FCok Tryz.prog G c ∧ noTup c.args = true := List.forall_mem_cons.2 ⟨rNum_ok n G hG, List.forall_mem_cons.2 ⟨rIdents_ok n G hG, (fun _ h => by cases h)⟩⟩
def rCheck_dh : Hints := []
theorem rCheck_dr : drB rCheck_dh (bodyOf Tryz.f24) = true := by kernel_rfl
theorem rCheck_eq (n : Nat) : ∀ a, (rCheck_fc n).F a = main Tryz.prog 49 (rCheck_ct n) (rCheck_lts n) rCheck_dh (bodyOf Tryz.f24) [.tmp 2] (rCheck_fc n).args (rCheck_fc n).res a := by intro a; kernel_rfl
theorem rCheck_ok (n : Nat) : FCall Inv Tryz.prog (rCheck_fc n) := fun G hG => ⟨⟨by kernel_rfl, fun a r h => main_ok (c := bodyOf Tryz.f24) Tryz.func24 (by kernel_rfl) (by kernel_rfl) (Nat.le_of_ble_eq_true (by kernel_rfl)) hG.st (by kernel_rfl) (rs := [.tmp 2]) (by kernel_rfl) (rCheck_ctok n hG) (lts := rCheck_lts n) (fun F hF hFG => have hK : Know Inv F.G := hFG ▸ hG; (lok_of fun j L h1 h2 h3 => absurd h2 (Nat.not_lt.2 (Nat.le_trans (by decide +kernel) h1)))) rCheck_dr ((rCheck_eq n a).symm.trans h)⟩, rfl⟩




















end Go.Proofs.YtgihkohggalefabGreatDoor.AM
