/- Layer 8, first part: what functions come to, as plain functions of data: written by program (shal.py); the kernel checks it. -/
import Derived.Test.YtgihkohggalefabGreatDoorMpC
namespace Go.Proofs.YtgihkohggalefabGreatDoor.AM
open Go.RowKit
set_option linter.unusedVariables false
set_option maxRecDepth 20000
/-! internal/bytealg.LastIndexByteString -/
@[reducible] def LastI_sh0 : SSt := ⟨[(0, .one (.c (.d .str))), (1, .one (.c (.d (.int .u8)))), (5, .one (.c (.d (.int .i64))))], [], []⟩
@[reducible] def LastI_outs0 : List (Exit × SSt) := [(.ret, ⟨[(4, .one (.c (.d (.int .i64))))], [], []⟩), (.exit 0, ⟨[], [], []⟩)]
def LastI_l0 (n : Nat) (rec : (List UInt8) → Int → Int → Option (((Int × (Unit)) × (Unit) × (Unit)) ⊕ ((Unit) × (Unit) × (Unit)))) (a1 : List UInt8) (a2 : Int) (a3 : Int) : Option (((Int × (Unit)) × (Unit) × (Unit)) ⊕ ((Unit) × (Unit) × (Unit))) :=
  (bif decide ((0 : Int) ≤ a3) then (sAt a1 a3).bind fun (c2 : Int) => (bif decide (c2 = a2) then some (Sum.inl ((a3, ()), ((), ()))) else letO (IntKind.wrap .i64 (a3 - (1 : Int))) fun (n3 : Int) => rec a1 a2 n3) else some (Sum.inr (((), ((), ())))))
def LastI_F0 (n : Nat) (rec : pSt LastI_sh0 → Option (pOuts LastI_outs0)) (p : pSt LastI_sh0) : Option (pOuts LastI_outs0) := LastI_l0 n (fun a1 a2 a3 => rec ((a1, (a2, (a3, ()))), ((), ()))) p.1.1 p.1.2.1 p.1.2.2.1
def LastI_loop0 (n m : Nat) (a1 : List UInt8) (a2 : Int) (a3 : Int) : Option (((Int × (Unit)) × (Unit) × (Unit)) ⊕ ((Unit) × (Unit) × (Unit))) := iterF (LastI_F0 n) m ((a1, (a2, (a3, ()))), ((), ()))
theorem LastI_loop0_succ (n m : Nat) (a1 : List UInt8) (a2 : Int) (a3 : Int) : LastI_loop0 n (m + 1) a1 a2 a3 = LastI_l0 n (fun a1 a2 a3 => LastI_loop0 n m a1 a2 a3) a1 a2 a3 := rfl
def LastI_L0 (n : Nat) : LC := { sh := LastI_sh0, outs := LastI_outs0, F := iterF (LastI_F0 n) n }
def LastI_lts (n : Nat) : List LC := [LastI_L0 n]
def LastI_t (n : Nat) (a1 : List UInt8) (a2 : Int) : Option (Int) :=
  letO (IntKind.wrap .i64 (((List.length a1 : Nat) : Int) - (1 : Int))) fun (n1 : Int) => (LastI_loop0 n n a1 a2 n1).bind fun (o4 : ((Int × (Unit)) × (Unit) × (Unit)) ⊕ ((Unit) × (Unit) × (Unit))) => Sum.elim (fun (q5 : (Int × (Unit)) × (Unit) × (Unit)) => some q5.1.1) (fun (q6 : (Unit) × (Unit) × (Unit)) => some (-1 : Int)) o4
def LastI_fc (n : Nat) : FC := { f := 41, args := [.one (.c (.d .str)), .one (.c (.d (.int .u8)))], res := .one (.c (.d (.int .i64))), F := fun p => LastI_t n p.1 p.2 }
def LastI_ct (n : Nat) : List FC := []
theorem LastI_ctok (n : Nat) {G : World → Prop} (hG : Know Inv G) : ∀ c ∈ LastI_ct n, FCok Tryz.prog G c ∧ noTup c.args = true := (fun _ h => by cases h)
def LastI_dh : Hints := []
theorem LastI_dr : drB LastI_dh (bodyOf Tryz.f41) = true := by kernel_rfl
theorem LastI_eq0 (n : Nat) : ∀ rec p, LastI_F0 n rec p = round Tryz.prog 19 (LastI_ct n) (LastI_lts n) LastI_dh 1 LastI_sh0 LastI_outs0 (bodyAt 0 0 (bodyOf Tryz.f41)) rec p := by intro rec p; kernel_rfl
theorem LastI_lok0 (n : Nat) {F : Fr} (hF : F.n = 19) (hK : Know Inv F.G) : LCok Tryz.prog F (LastI_L0 n) (bodyAt 0 0 (bodyOf Tryz.f41)) :=
  loop_ok hF (by kernel_rfl) (LastI_ctok n hK) (LastI_eq0 n) (fuel := n) (fun _ => rfl) (lok_of fun j L h1 h2 h3 => absurd h2 (Nat.not_lt.2 (Nat.le_trans (by decide +kernel) h1))) (drB_at LastI_dr)
theorem LastI_eq (n : Nat) : ∀ a, (LastI_fc n).F a = main Tryz.prog 19 (LastI_ct n) (LastI_lts n) LastI_dh (bodyOf Tryz.f41) [.tmp 4] (LastI_fc n).args (LastI_fc n).res a := by intro a; kernel_rfl
theorem LastI_ok (n : Nat) : FCall Inv Tryz.prog (LastI_fc n) := fun G hG => ⟨⟨by kernel_rfl, fun a r h => main_ok (c := bodyOf Tryz.f41) Tryz.func41 (by kernel_rfl) (by kernel_rfl) (Nat.le_of_ble_eq_true (by kernel_rfl)) hG.st (by kernel_rfl) (rs := [.tmp 4]) (by kernel_rfl) (LastI_ctok n hG) (lts := LastI_lts n) (fun F hF hFG => have hK : Know Inv F.G := hFG ▸ hG; (lok_of (c := (bodyOf Tryz.f41)) (fun j L h1 h2 h3 => by
    have h2' : j < 1 := Nat.lt_of_lt_of_le h2 (by decide +kernel)
    match j, h1, h2', h3 with
    | 0, _, _, h3 => obtain rfl := Option.some.inj h3; exact (show bodyAt 0 0 (bodyOf Tryz.f41) = bodyAt 0 0 (bodyOf Tryz.f41) by kernel_rfl) ▸ LastI_lok0 n hF hK
    | j + 1, _, h2', _ => exact absurd h2' (by omega)))) LastI_dr ((LastI_eq n a).symm.trans h)⟩, rfl⟩
/-! strings.LastIndexByte -/
def LastB_lts (n : Nat) : List LC := []
def LastB_t (n : Nat) (a1 : List UInt8) (a2 : Int) : Option (Int) :=
  (LastI_t n a1 a2).bind fun (r1 : Int) => some r1
def LastB_fc (n : Nat) : FC := { f := 26, args := [.one (.c (.d .str)), .one (.c (.d (.int .u8)))], res := .one (.c (.d (.int .i64))), F := fun p => LastB_t n p.1 p.2 }
def LastB_ct (n : Nat) : List FC := [LastI_fc n]
theorem LastB_ctok (n : Nat) {G : World → Prop} (hG : Know Inv G) : ∀ c ∈ LastB_ct n, FCok Tryz.prog G c ∧ noTup c.args = true := List.forall_mem_cons.2 ⟨LastI_ok n G hG, (fun _ h => by cases h)⟩
def LastB_dh : Hints := []
theorem LastB_dr : drB LastB_dh (bodyOf Tryz.f26) = true := by kernel_rfl
theorem LastB_eq (n : Nat) : ∀ a, (LastB_fc n).F a = main Tryz.prog 8 (LastB_ct n) (LastB_lts n) LastB_dh (bodyOf Tryz.f26) [.tmp 4] (LastB_fc n).args (LastB_fc n).res a := by intro a; kernel_rfl
theorem LastB_ok (n : Nat) : FCall Inv Tryz.prog (LastB_fc n) := fun G hG => ⟨⟨by kernel_rfl, fun a r h => main_ok (c := bodyOf Tryz.f26) Tryz.func26 (by kernel_rfl) (by kernel_rfl) (Nat.le_of_ble_eq_true (by kernel_rfl)) hG.st (by kernel_rfl) (rs := [.tmp 4]) (by kernel_rfl) (LastB_ctok n hG) (lts := LastB_lts n) (fun F hF hFG => have hK : Know Inv F.G := hFG ▸ hG; (lok_of fun j L h1 h2 h3 => absurd h2 (Nat.not_lt.2 (Nat.le_trans (by decide +kernel) h1)))) LastB_dr ((LastB_eq n a).symm.trans h)⟩, rfl⟩
/-! internal/stringslite.CutPrefix -/
def CutPrefixI_lts (n : Nat) : List LC := []
def CutPrefixI_t (n : Nat) (a1 : List UInt8) (a2 : List UInt8) : Option ((List UInt8) × (Bool)) :=
  (HasPrefixI_t n a1 a2).bind fun (r1 : Bool) => (bif !r1 then some (a1, false) else (subO a1 ((List.length a2 : Nat) : Int) ((List.length a1 : Nat) : Int)).bind fun (s2 : List UInt8) => some (s2, true))
def CutPrefixI_fc (n : Nat) : FC := { f := 44, args := [.one (.c (.d .str)), .one (.c (.d .str))], res := .tup [.c (.d .str), .c (.d .bool)], F := fun p => CutPrefixI_t n p.1 p.2 }
def CutPrefixI_ct (n : Nat) : List FC := [HasPrefixI_fc n]
theorem CutPrefixI_ctok (n : Nat) {G : World → Prop} (hG : Know Inv G) : ∀ c ∈ CutPrefixI_ct n, FCok Tryz.prog G c ∧ noTup c.args = true := List.forall_mem_cons.2 ⟨HasPrefixI_ok n G hG, (fun _ h => by cases h)⟩
def CutPrefixI_dh : Hints := []
theorem CutPrefixI_dr : drB CutPrefixI_dh (bodyOf Tryz.f44) = true := by kernel_rfl
theorem CutPrefixI_eq (n : Nat) : ∀ a, (CutPrefixI_fc n).F a = main Tryz.prog 15 (CutPrefixI_ct n) (CutPrefixI_lts n) CutPrefixI_dh (bodyOf Tryz.f44) [.tmp 4, .tmp 5] (CutPrefixI_fc n).args (CutPrefixI_fc n).res a := by intro a; kernel_rfl
theorem CutPrefixI_ok (n : Nat) : FCall Inv Tryz.prog (CutPrefixI_fc n) := fun G hG => ⟨⟨by kernel_rfl, fun a r h => main_ok (c := bodyOf Tryz.f44) Tryz.func44 (by kernel_rfl) (by kernel_rfl) (Nat.le_of_ble_eq_true (by kernel_rfl)) hG.st (by kernel_rfl) (rs := [.tmp 4, .tmp 5]) (by kernel_rfl) (CutPrefixI_ctok n hG) (lts := CutPrefixI_lts n) (fun F hF hFG => have hK : Know Inv F.G := hFG ▸ hG; (lok_of fun j L h1 h2 h3 => absurd h2 (Nat.not_lt.2 (Nat.le_trans (by decide +kernel) h1)))) CutPrefixI_dr ((CutPrefixI_eq n a).symm.trans h)⟩, rfl⟩
/-! strings.CutPrefix -/
def CutPrefix_lts (n : Nat) : List LC := []
def CutPrefix_t (n : Nat) (a1 : List UInt8) (a2 : List UInt8) : Option ((List UInt8) × (Bool)) :=
  (CutPrefixI_t n a1 a2).bind fun (r1 : (List UInt8) × (Bool)) => some r1
def CutPrefix_fc (n : Nat) : FC := { f := 29, args := [.one (.c (.d .str)), .one (.c (.d .str))], res := .tup [.c (.d .str), .c (.d .bool)], F := fun p => CutPrefix_t n p.1 p.2 }
def CutPrefix_ct (n : Nat) : List FC := [CutPrefixI_fc n]
theorem CutPrefix_ctok (n : Nat) {G : World → Prop} (hG : Know Inv G) : ∀ c ∈ CutPrefix_ct n, FCok Tryz.prog G c ∧ noTup c.args = true := List.forall_mem_cons.2 ⟨CutPrefixI_ok n G hG, (fun _ h => by cases h)⟩
def CutPrefix_dh : Hints := []
theorem CutPrefix_dr : drB CutPrefix_dh (bodyOf Tryz.f29) = true := by kernel_rfl
theorem CutPrefix_eq (n : Nat) : ∀ a, (CutPrefix_fc n).F a = main Tryz.prog 11 (CutPrefix_ct n) (CutPrefix_lts n) CutPrefix_dh (bodyOf Tryz.f29) [.tmp 4, .tmp 5] (CutPrefix_fc n).args (CutPrefix_fc n).res a := by intro a; kernel_rfl
theorem CutPrefix_ok (n : Nat) : FCall Inv Tryz.prog (CutPrefix_fc n) := fun G hG => ⟨⟨by kernel_rfl, fun a r h => main_ok (c := bodyOf Tryz.f29) Tryz.func29 (by kernel_rfl) (by kernel_rfl) (Nat.le_of_ble_eq_true (by kernel_rfl)) hG.st (by kernel_rfl) (rs := [.tmp 4, .tmp 5]) (by kernel_rfl) (CutPrefix_ctok n hG) (lts := CutPrefix_lts n) (fun F hF hFG => have hK : Know Inv F.G := hFG ▸ hG; (lok_of fun j L h1 h2 h3 => absurd h2 (Nat.not_lt.2 (Nat.le_trans (by decide +kernel) h1)))) CutPrefix_dr ((CutPrefix_eq n a).symm.trans h)⟩, rfl⟩
/-! strings.HasPrefix -/
def HasPrefix_lts (n : Nat) : List LC := []
def HasPrefix_t (n : Nat) (a1 : List UInt8) (a2 : List UInt8) : Option (Bool) :=
  (HasPrefixI_t n a1 a2).bind fun (r1 : Bool) => some r1
def HasPrefix_fc (n : Nat) : FC := { f := 25, args := [.one (.c (.d .str)), .one (.c (.d .str))], res := .one (.c (.d .bool)), F := fun p => HasPrefix_t n p.1 p.2 }
def HasPrefix_ct (n : Nat) : List FC := [HasPrefixI_fc n]
theorem HasPrefix_ctok (n : Nat) {G : World → Prop} (hG : Know Inv G) : ∀ c ∈ HasPrefix_ct n, FCok Tryz.prog G c ∧ noTup c.args = true := List.forall_mem_cons.2 ⟨HasPrefixI_ok n G hG, (fun _ h => by cases h)⟩
def HasPrefix_dh : Hints := []
theorem HasPrefix_dr : drB HasPrefix_dh (bodyOf Tryz.f25) = true := by kernel_rfl
theorem HasPrefix_eq (n : Nat) : ∀ a, (HasPrefix_fc n).F a = main Tryz.prog 8 (HasPrefix_ct n) (HasPrefix_lts n) HasPrefix_dh (bodyOf Tryz.f25) [.tmp 4] (HasPrefix_fc n).args (HasPrefix_fc n).res a := by intro a; kernel_rfl
theorem HasPrefix_ok (n : Nat) : FCall Inv Tryz.prog (HasPrefix_fc n) := fun G hG => ⟨⟨by kernel_rfl, fun a r h => main_ok (c := bodyOf Tryz.f25) Tryz.func25 (by kernel_rfl) (by kernel_rfl) (Nat.le_of_ble_eq_true (by kernel_rfl)) hG.st (by kernel_rfl) (rs := [.tmp 4]) (by kernel_rfl) (HasPrefix_ctok n hG) (lts := HasPrefix_lts n) (fun F hF hFG => have hK : Know Inv F.G := hFG ▸ hG; (lok_of fun j L h1 h2 h3 => absurd h2 (Nat.not_lt.2 (Nat.le_trans (by decide +kernel) h1)))) HasPrefix_dr ((HasPrefix_eq n a).symm.trans h)⟩, rfl⟩
/-! armada/files.isSign -/
def fSign_lts (n : Nat) : List LC := []
def fSign_t (n : Nat) (a1 : Int) : Option (Bool) :=
  (bif decide ((97 : Int) ≤ a1) then (bif decide (a1 ≤ (122 : Int)) then (bif decide (a1 ≤ (122 : Int)) then some true else (bif decide (a1 = (45 : Int)) then some true else (bif decide (a1 = (95 : Int)) then some true else some (decide (a1 = (46 : Int)))))) else (bif decide ((65 : Int) ≤ a1) then (bif decide (a1 ≤ (90 : Int)) then (bif decide (a1 ≤ (90 : Int)) then some true else (bif decide (a1 = (45 : Int)) then some true else (bif decide (a1 = (95 : Int)) then some true else some (decide (a1 = (46 : Int)))))) else (bif decide ((48 : Int) ≤ a1) then (bif decide (a1 ≤ (57 : Int)) then some true else (bif decide (a1 = (45 : Int)) then some true else (bif decide (a1 = (95 : Int)) then some true else some (decide (a1 = (46 : Int)))))) else (bif decide (a1 = (45 : Int)) then some true else (bif decide (a1 = (95 : Int)) then some true else some (decide (a1 = (46 : Int))))))) else (bif decide ((48 : Int) ≤ a1) then (bif decide (a1 ≤ (57 : Int)) then some true else (bif decide (a1 = (45 : Int)) then some true else (bif decide (a1 = (95 : Int)) then some true else some (decide (a1 = (46 : Int)))))) else (bif decide (a1 = (45 : Int)) then some true else (bif decide (a1 = (95 : Int)) then some true else some (decide (a1 = (46 : Int)))))))) else (bif decide ((65 : Int) ≤ a1) then (bif decide (a1 ≤ (90 : Int)) then (bif decide (a1 ≤ (90 : Int)) then some true else (bif decide (a1 = (45 : Int)) then some true else (bif decide (a1 = (95 : Int)) then some true else some (decide (a1 = (46 : Int)))))) else (bif decide ((48 : Int) ≤ a1) then (bif decide (a1 ≤ (57 : Int)) then some true else (bif decide (a1 = (45 : Int)) then some true else (bif decide (a1 = (95 : Int)) then some true else some (decide (a1 = (46 : Int)))))) else (bif decide (a1 = (45 : Int)) then some true else (bif decide (a1 = (95 : Int)) then some true else some (decide (a1 = (46 : Int))))))) else (bif decide ((48 : Int) ≤ a1) then (bif decide (a1 ≤ (57 : Int)) then some true else (bif decide (a1 = (45 : Int)) then some true else (bif decide (a1 = (95 : Int)) then some true else some (decide (a1 = (46 : Int)))))) else (bif decide (a1 = (45 : Int)) then some true else (bif decide (a1 = (95 : Int)) then some true else some (decide (a1 = (46 : Int))))))))
def fSign_fc (n : Nat) : FC := { f := 43, args := [.one (.c (.d (.int .u8)))], res := .one (.c (.d .bool)), F := fun p => fSign_t n p }
def fSign_ct (n : Nat) : List FC := []
theorem fSign_ctok (n : Nat) {G : World → Prop} (hG : Know Inv G) : ∀ c ∈ fSign_ct n, FCok Tryz.prog G c ∧ noTup c.args = true := (fun _ h => by cases h)
def fSign_dh : Hints := []
theorem fSign_dr : drB fSign_dh (bodyOf Tryz.f43) = true := by kernel_rfl
theorem fSign_eq (n : Nat) : ∀ a, (fSign_fc n).F a = main Tryz.prog 32 (fSign_ct n) (fSign_lts n) fSign_dh (bodyOf Tryz.f43) [.tmp 2] (fSign_fc n).args (fSign_fc n).res a := by intro a; kernel_rfl
theorem fSign_ok (n : Nat) : FCall Inv Tryz.prog (fSign_fc n) := fun G hG => ⟨⟨by kernel_rfl, fun a r h => main_ok (c := bodyOf Tryz.f43) Tryz.func43 (by kernel_rfl) (by kernel_rfl) (Nat.le_of_ble_eq_true (by kernel_rfl)) hG.st (by kernel_rfl) (rs := [.tmp 2]) (by kernel_rfl) (fSign_ctok n hG) (lts := fSign_lts n) (fun F hF hFG => have hK : Know Inv F.G := hFG ▸ hG; (lok_of fun j L h1 h2 h3 => absurd h2 (Nat.not_lt.2 (Nat.le_trans (by decide +kernel) h1)))) fSign_dr ((fSign_eq n a).symm.trans h)⟩, rfl⟩
/-! armada/files.isPart -/
@[reducible] def fPart_sh0 : SSt := ⟨[(0, .one (.c (.d .str))), (15, .one (.c (.d (.int .i64)))), (16, .one (.c (.d (.int .i64))))], [], []⟩
@[reducible] def fPart_outs0 : List (Exit × SSt) := [(.ret, ⟨[(2, .one (.c (.d .bool)))], [], []⟩), (.exit 0, ⟨[], [], []⟩)]
def fPart_l0 (n : Nat) (rec : (List UInt8) → Int → Int → Option (((Bool × (Unit)) × (Unit) × (Unit)) ⊕ ((Unit) × (Unit) × (Unit)))) (a1 : List UInt8) (a2 : Int) (a3 : Int) : Option (((Bool × (Unit)) × (Unit) × (Unit)) ⊕ ((Unit) × (Unit) × (Unit))) :=
  (bif decide (a3 < a2) then (sAt a1 a3).bind fun (c1 : Int) => (fSign_t n c1).bind fun (r2 : Bool) => (bif !r2 then some (Sum.inl ((false, ()), ((), ()))) else letO (IntKind.wrap .i64 (a3 + (1 : Int))) fun (n3 : Int) => rec a1 a2 n3) else some (Sum.inr (((), ((), ())))))
def fPart_F0 (n : Nat) (rec : pSt fPart_sh0 → Option (pOuts fPart_outs0)) (p : pSt fPart_sh0) : Option (pOuts fPart_outs0) := fPart_l0 n (fun a1 a2 a3 => rec ((a1, (a2, (a3, ()))), ((), ()))) p.1.1 p.1.2.1 p.1.2.2.1
def fPart_loop0 (n m : Nat) (a1 : List UInt8) (a2 : Int) (a3 : Int) : Option (((Bool × (Unit)) × (Unit) × (Unit)) ⊕ ((Unit) × (Unit) × (Unit))) := iterF (fPart_F0 n) m ((a1, (a2, (a3, ()))), ((), ()))
theorem fPart_loop0_succ (n m : Nat) (a1 : List UInt8) (a2 : Int) (a3 : Int) : fPart_loop0 n (m + 1) a1 a2 a3 = fPart_l0 n (fun a1 a2 a3 => fPart_loop0 n m a1 a2 a3) a1 a2 a3 := rfl
def fPart_L0 (n : Nat) : LC := { sh := fPart_sh0, outs := fPart_outs0, F := iterF (fPart_F0 n) n }
def fPart_lts (n : Nat) : List LC := [fPart_L0 n]
def fPart_t (n : Nat) (a1 : List UInt8) : Option (Bool) :=
  (bif decide (a1 = ([] : List UInt8)) then some false else (bif decide (a1 = ([46] : List UInt8)) then some false else (bif decide (a1 = ([46, 46] : List UInt8)) then some false else (fPart_loop0 n n a1 ((List.length a1 : Nat) : Int) (0 : Int)).bind fun (o4 : ((Bool × (Unit)) × (Unit) × (Unit)) ⊕ ((Unit) × (Unit) × (Unit))) => Sum.elim (fun (q5 : (Bool × (Unit)) × (Unit) × (Unit)) => some q5.1.1) (fun (q6 : (Unit) × (Unit) × (Unit)) => some true) o4)))
def fPart_fc (n : Nat) : FC := { f := 28, args := [.one (.c (.d .str))], res := .one (.c (.d .bool)), F := fun p => fPart_t n p }
def fPart_ct (n : Nat) : List FC := [fSign_fc n]
theorem fPart_ctok (n : Nat) {G : World → Prop} (hG : Know Inv G) : ∀ c ∈ fPart_ct n, FCok Tryz.prog G c ∧ noTup c.args = true := List.forall_mem_cons.2 ⟨fSign_ok n G hG, (fun _ h => by cases h)⟩
def fPart_dh : Hints := []
theorem fPart_dr : drB fPart_dh (bodyOf Tryz.f28) = true := by kernel_rfl
theorem fPart_eq0 (n : Nat) : ∀ rec p, fPart_F0 n rec p = round Tryz.prog 25 (fPart_ct n) (fPart_lts n) fPart_dh 1 fPart_sh0 fPart_outs0 (bodyAt 0 0 (bodyOf Tryz.f28)) rec p := by intro rec p; kernel_rfl
theorem fPart_lok0 (n : Nat) {F : Fr} (hF : F.n = 25) (hK : Know Inv F.G) : LCok Tryz.prog F (fPart_L0 n) (bodyAt 0 0 (bodyOf Tryz.f28)) :=
  loop_ok hF (by kernel_rfl) (fPart_ctok n hK) (fPart_eq0 n) (fuel := n) (fun _ => rfl) (lok_of fun j L h1 h2 h3 => absurd h2 (Nat.not_lt.2 (Nat.le_trans (by decide +kernel) h1))) (drB_at fPart_dr)
theorem fPart_eq (n : Nat) : ∀ a, (fPart_fc n).F a = main Tryz.prog 25 (fPart_ct n) (fPart_lts n) fPart_dh (bodyOf Tryz.f28) [.tmp 2] (fPart_fc n).args (fPart_fc n).res a := by intro a; kernel_rfl
theorem fPart_ok (n : Nat) : FCall Inv Tryz.prog (fPart_fc n) := fun G hG => ⟨⟨by kernel_rfl, fun a r h => main_ok (c := bodyOf Tryz.f28) Tryz.func28 (by kernel_rfl) (by kernel_rfl) (Nat.le_of_ble_eq_true (by kernel_rfl)) hG.st (by kernel_rfl) (rs := [.tmp 2]) (by kernel_rfl) (fPart_ctok n hG) (lts := fPart_lts n) (fun F hF hFG => have hK : Know Inv F.G := hFG ▸ hG; (lok_of (c := (bodyOf Tryz.f28)) (fun j L h1 h2 h3 => by
    have h2' : j < 1 := Nat.lt_of_lt_of_le h2 (by decide +kernel)
    match j, h1, h2', h3 with
    | 0, _, _, h3 => obtain rfl := Option.some.inj h3; exact (show bodyAt 0 0 (bodyOf Tryz.f28) = bodyAt 0 0 (bodyOf Tryz.f28) by kernel_rfl) ▸ fPart_lok0 n hF hK
    | j + 1, _, h2', _ => exact absurd h2' (by omega)))) fPart_dr ((fPart_eq n a).symm.trans h)⟩, rfl⟩
/-! armada/mpath.tells -/
def mTells_lts (n : Nat) : List LC := []
def mTells_t (n : Nat) (a1 : List UInt8) : Option (Bool) :=
  (CutPrefix_t n a1 ([118] : List UInt8)).bind fun (r1 : (List UInt8) × (Bool)) => (bif r1.2 then (bif !decide (r1.1 = ([] : List UInt8)) then (trimD_t r1.1 ([48, 49, 50, 51, 52, 53, 54, 55, 56, 57] : List UInt8)).bind fun (r2 : List UInt8) => some (decide (r2 = ([] : List UInt8))) else some false) else some false)
def mTells_fc (n : Nat) : FC := { f := 16, args := [.one (.c (.d .str))], res := .one (.c (.d .bool)), F := fun p => mTells_t n p }
def mTells_ct (n : Nat) : List FC := [CutPrefix_fc n, trimD_fc]
theorem mTells_ctok (n : Nat) {G : World → Prop} (hG : Know Inv G) : ∀ c ∈ mTells_ct n, FCok Tryz.prog G c ∧ noTup c.args = true := List.forall_mem_cons.2 ⟨CutPrefix_ok n G hG, List.forall_mem_cons.2 ⟨trimD_ok G hG, (fun _ h => by cases h)⟩⟩
def mTells_dh : Hints := []
theorem mTells_dr : drB mTells_dh (bodyOf Tryz.f16) = true := by kernel_rfl
theorem mTells_eq (n : Nat) : ∀ a, (mTells_fc n).F a = main Tryz.prog 20 (mTells_ct n) (mTells_lts n) mTells_dh (bodyOf Tryz.f16) [.tmp 2] (mTells_fc n).args (mTells_fc n).res a := by intro a; kernel_rfl
theorem mTells_ok (n : Nat) : FCall Inv Tryz.prog (mTells_fc n) := fun G hG => ⟨⟨by kernel_rfl, fun a r h => main_ok (c := bodyOf Tryz.f16) Tryz.func16 (by kernel_rfl) (by kernel_rfl) (Nat.le_of_ble_eq_true (by kernel_rfl)) hG.st (by kernel_rfl) (rs := [.tmp 2]) (by kernel_rfl) (mTells_ctok n hG) (lts := mTells_lts n) (fun F hF hFG => have hK : Know Inv F.G := hFG ▸ hG; (lok_of fun j L h1 h2 h3 => absurd h2 (Nat.not_lt.2 (Nat.le_trans (by decide +kernel) h1)))) mTells_dr ((mTells_eq n a).symm.trans h)⟩, rfl⟩
end Go.Proofs.YtgihkohggalefabGreatDoor.AM
