/- Layer 7, first part: what functions come to, as plain functions of data: written by program (shal.py); the kernel checks it. -/
import Derived.Test.YtgihkohggalefabGreatDoorVerC
namespace Go.Proofs.YtgihkohggalefabGreatDoor.AM
open Go.RowKit
set_option linter.unusedVariables false
set_option maxRecDepth 20000
/-! armada/ver.isDigit -/
def isDigit_lts (n : Nat) : List LC := []
def isDigit_t (n : Nat) (a1 : Int) : Option (Bool) :=
  (bif decide ((48 : Int) ≤ a1) then some (decide (a1 ≤ (57 : Int))) else some false)
def isDigit_fc (n : Nat) : FC := { f := 72, args := [.one (.c (.d (.int .u8)))], res := .one (.c (.d .bool)), F := fun p => isDigit_t n p }
def isDigit_ct (n : Nat) : List FC := []
theorem isDigit_ctok (n : Nat) {G : World → Prop} (hG : Know Inv G) : ∀ c ∈ isDigit_ct n, FCok Tryz.prog G c ∧ noTup c.args = true := (fun _ h => by cases h)
def isDigit_dh : Hints := []
theorem isDigit_dr : drB isDigit_dh (bodyOf Tryz.f72) = true := by kernel_rfl
theorem isDigit_eq (n : Nat) : ∀ a, (isDigit_fc n).F a = main Tryz.prog 9 (isDigit_ct n) (isDigit_lts n) isDigit_dh (bodyOf Tryz.f72) [.tmp 2] (isDigit_fc n).args (isDigit_fc n).res a := by intro a; kernel_rfl
theorem isDigit_ok (n : Nat) : FCall Inv Tryz.prog (isDigit_fc n) := fun G hG => ⟨⟨by kernel_rfl, fun a r h => main_ok (c := bodyOf Tryz.f72) Tryz.func72 (by kernel_rfl) (by kernel_rfl) (Nat.le_of_ble_eq_true (by kernel_rfl)) hG.st (by kernel_rfl) (rs := [.tmp 2]) (by kernel_rfl) (isDigit_ctok n hG) (lts := isDigit_lts n) (fun F hF hFG => have hK : Know Inv F.G := hFG ▸ hG; (lok_of fun j L h1 h2 h3 => absurd h2 (Nat.not_lt.2 (Nat.le_trans (by decide +kernel) h1)))) isDigit_dr ((isDigit_eq n a).symm.trans h)⟩, rfl⟩
/-! armada/ver.isSign -/
def isSign_lts (n : Nat) : List LC := []
def isSign_t (n : Nat) (a1 : Int) : Option (Bool) :=
  (bif decide ((97 : Int) ≤ a1) then (bif decide (a1 ≤ (122 : Int)) then some true else (bif decide ((65 : Int) ≤ a1) then (bif decide (a1 ≤ (90 : Int)) then some true else (isDigit_t n a1).bind fun (r1 : Bool) => (bif r1 then some true else some (decide (a1 = (45 : Int))))) else (isDigit_t n a1).bind fun (r2 : Bool) => (bif r2 then some true else some (decide (a1 = (45 : Int)))))) else (bif decide ((65 : Int) ≤ a1) then (bif decide (a1 ≤ (90 : Int)) then some true else (isDigit_t n a1).bind fun (r3 : Bool) => (bif r3 then some true else some (decide (a1 = (45 : Int))))) else (isDigit_t n a1).bind fun (r4 : Bool) => (bif r4 then some true else some (decide (a1 = (45 : Int))))))
def isSign_fc (n : Nat) : FC := { f := 58, args := [.one (.c (.d (.int .u8)))], res := .one (.c (.d .bool)), F := fun p => isSign_t n p }
def isSign_ct (n : Nat) : List FC := [isDigit_fc n]
theorem isSign_ctok (n : Nat) {G : World → Prop} (hG : Know Inv G) : ∀ c ∈ isSign_ct n, FCok Tryz.prog G c ∧ noTup c.args = true := List.forall_mem_cons.2 ⟨isDigit_ok n G hG, (fun _ h => by cases h)⟩
def isSign_dh : Hints := []
theorem isSign_dr : drB isSign_dh (bodyOf Tryz.f58) = true := by kernel_rfl
theorem isSign_eq (n : Nat) : ∀ a, (isSign_fc n).F a = main Tryz.prog 25 (isSign_ct n) (isSign_lts n) isSign_dh (bodyOf Tryz.f58) [.tmp 2] (isSign_fc n).args (isSign_fc n).res a := by intro a; kernel_rfl
theorem isSign_ok (n : Nat) : FCall Inv Tryz.prog (isSign_fc n) := fun G hG => ⟨⟨by kernel_rfl, fun a r h => main_ok (c := bodyOf Tryz.f58) Tryz.func58 (by kernel_rfl) (by kernel_rfl) (Nat.le_of_ble_eq_true (by kernel_rfl)) hG.st (by kernel_rfl) (rs := [.tmp 2]) (by kernel_rfl) (isSign_ctok n hG) (lts := isSign_lts n) (fun F hF hFG => have hK : Know Inv F.G := hFG ▸ hG; (lok_of fun j L h1 h2 h3 => absurd h2 (Nat.not_lt.2 (Nat.le_trans (by decide +kernel) h1)))) isSign_dr ((isSign_eq n a).symm.trans h)⟩, rfl⟩
/-! armada/ver.isRun -/
@[reducible] def isRunS_sh0 : SSt := ⟨[(0, .one (.c (.d .str))), (1, .one (.c (.fn 58 []))), (7, .one (.c (.d (.int .i64)))), (8, .one (.c (.d (.int .i64))))], [], []⟩
@[reducible] def isRunS_outs0 : List (Exit × SSt) := [(.ret, ⟨[(4, .one (.c (.d .bool)))], [], []⟩), (.exit 0, ⟨[(0, .one (.c (.d .str)))], [], []⟩)]
def isRunS_l0 (n : Nat) (rec : (List UInt8) → Int → Int → Option (((Bool × (Unit)) × (Unit) × (Unit)) ⊕ (((List UInt8) × (Unit)) × (Unit) × (Unit)))) (a1 : List UInt8) (a2 : Int) (a3 : Int) : Option (((Bool × (Unit)) × (Unit) × (Unit)) ⊕ (((List UInt8) × (Unit)) × (Unit) × (Unit))) :=
  (bif decide (a3 < a2) then (sAt a1 a3).bind fun (c1 : Int) => (isSign_t n c1).bind fun (r2 : Bool) => (bif !r2 then some (Sum.inl ((false, ()), ((), ()))) else letO (IntKind.wrap .i64 (a3 + (1 : Int))) fun (n3 : Int) => rec a1 a2 n3) else some (Sum.inr (((a1, ()), ((), ())))))
def isRunS_F0 (n : Nat) (rec : pSt isRunS_sh0 → Option (pOuts isRunS_outs0)) (p : pSt isRunS_sh0) : Option (pOuts isRunS_outs0) := isRunS_l0 n (fun a1 a2 a3 => rec ((a1, ((), (a2, (a3, ())))), ((), ()))) p.1.1 p.1.2.2.1 p.1.2.2.2.1
def isRunS_loop0 (n m : Nat) (a1 : List UInt8) (a2 : Int) (a3 : Int) : Option (((Bool × (Unit)) × (Unit) × (Unit)) ⊕ (((List UInt8) × (Unit)) × (Unit) × (Unit))) := iterF (isRunS_F0 n) m ((a1, ((), (a2, (a3, ())))), ((), ()))
theorem isRunS_loop0_succ (n m : Nat) (a1 : List UInt8) (a2 : Int) (a3 : Int) : isRunS_loop0 n (m + 1) a1 a2 a3 = isRunS_l0 n (fun a1 a2 a3 => isRunS_loop0 n m a1 a2 a3) a1 a2 a3 := rfl
def isRunS_L0 (n : Nat) : LC := { sh := isRunS_sh0, outs := isRunS_outs0, F := iterF (isRunS_F0 n) n }
def isRunS_lts (n : Nat) : List LC := [isRunS_L0 n]
def isRunS_t (n : Nat) (a1 : List UInt8) (a2 : Unit) : Option (Bool) :=
  (isRunS_loop0 n n a1 ((List.length a1 : Nat) : Int) (0 : Int)).bind fun (o4 : ((Bool × (Unit)) × (Unit) × (Unit)) ⊕ (((List UInt8) × (Unit)) × (Unit) × (Unit))) => Sum.elim (fun (q5 : (Bool × (Unit)) × (Unit) × (Unit)) => some q5.1.1) (fun (q6 : ((List UInt8) × (Unit)) × (Unit) × (Unit)) => some (!decide (q6.1.1 = ([] : List UInt8)))) o4
def isRunS_fc (n : Nat) : FC := { f := 57, args := [.one (.c (.d .str)), .one (.c (.fn 58 []))], res := .one (.c (.d .bool)), F := fun p => isRunS_t n p.1 p.2 }
def isRunS_ct (n : Nat) : List FC := [isSign_fc n]
theorem isRunS_ctok (n : Nat) {G : World → Prop} (hG : Know Inv G) : ∀ c ∈ isRunS_ct n, FCok Tryz.prog G c ∧ noTup c.args = true := List.forall_mem_cons.2 ⟨isSign_ok n G hG, (fun _ h => by cases h)⟩
def isRunS_dh : Hints := []
theorem isRunS_dr : drB isRunS_dh (bodyOf Tryz.f57) = true := by kernel_rfl
theorem isRunS_eq0 (n : Nat) : ∀ rec p, isRunS_F0 n rec p = round Tryz.prog 20 (isRunS_ct n) (isRunS_lts n) isRunS_dh 1 isRunS_sh0 isRunS_outs0 (bodyAt 0 0 (bodyOf Tryz.f57)) rec p := by intro rec p; kernel_rfl
theorem isRunS_lok0 (n : Nat) {F : Fr} (hF : F.n = 20) (hK : Know Inv F.G) : LCok Tryz.prog F (isRunS_L0 n) (bodyAt 0 0 (bodyOf Tryz.f57)) :=
  loop_ok hF (by kernel_rfl) (isRunS_ctok n hK) (isRunS_eq0 n) (fuel := n) (fun _ => rfl) (lok_of fun j L h1 h2 h3 => absurd h2 (Nat.not_lt.2 (Nat.le_trans (by decide +kernel) h1))) (drB_at isRunS_dr)
theorem isRunS_eq (n : Nat) : ∀ a, (isRunS_fc n).F a = main Tryz.prog 20 (isRunS_ct n) (isRunS_lts n) isRunS_dh (bodyOf Tryz.f57) [.tmp 4] (isRunS_fc n).args (isRunS_fc n).res a := by intro a; kernel_rfl
theorem isRunS_ok (n : Nat) : FCall Inv Tryz.prog (isRunS_fc n) := fun G hG => ⟨⟨by kernel_rfl, fun a r h => main_ok (c := bodyOf Tryz.f57) Tryz.func57 (by kernel_rfl) (by kernel_rfl) (Nat.le_of_ble_eq_true (by kernel_rfl)) hG.st (by kernel_rfl) (rs := [.tmp 4]) (by kernel_rfl) (isRunS_ctok n hG) (lts := isRunS_lts n) (fun F hF hFG => have hK : Know Inv F.G := hFG ▸ hG; (lok_of (c := (bodyOf Tryz.f57)) (fun j L h1 h2 h3 => by
    have h2' : j < 1 := Nat.lt_of_lt_of_le h2 (by decide +kernel)
    match j, h1, h2', h3 with
    | 0, _, _, h3 => obtain rfl := Option.some.inj h3; exact (show bodyAt 0 0 (bodyOf Tryz.f57) = bodyAt 0 0 (bodyOf Tryz.f57) by kernel_rfl) ▸ isRunS_lok0 n hF hK
    | j + 1, _, h2', _ => exact absurd h2' (by omega)))) isRunS_dr ((isRunS_eq n a).symm.trans h)⟩, rfl⟩
/-! armada/ver.isRun -/
@[reducible] def isRunD_sh0 : SSt := ⟨[(0, .one (.c (.d .str))), (1, .one (.c (.fn 72 []))), (7, .one (.c (.d (.int .i64)))), (8, .one (.c (.d (.int .i64))))], [], []⟩
@[reducible] def isRunD_outs0 : List (Exit × SSt) := [(.ret, ⟨[(4, .one (.c (.d .bool)))], [], []⟩), (.exit 0, ⟨[(0, .one (.c (.d .str)))], [], []⟩)]
def isRunD_l0 (n : Nat) (rec : (List UInt8) → Int → Int → Option (((Bool × (Unit)) × (Unit) × (Unit)) ⊕ (((List UInt8) × (Unit)) × (Unit) × (Unit)))) (a1 : List UInt8) (a2 : Int) (a3 : Int) : Option (((Bool × (Unit)) × (Unit) × (Unit)) ⊕ (((List UInt8) × (Unit)) × (Unit) × (Unit))) :=
  (bif decide (a3 < a2) then (sAt a1 a3).bind fun (c1 : Int) => (isDigit_t n c1).bind fun (r2 : Bool) => (bif !r2 then some (Sum.inl ((false, ()), ((), ()))) else letO (IntKind.wrap .i64 (a3 + (1 : Int))) fun (n3 : Int) => rec a1 a2 n3) else some (Sum.inr (((a1, ()), ((), ())))))
def isRunD_F0 (n : Nat) (rec : pSt isRunD_sh0 → Option (pOuts isRunD_outs0)) (p : pSt isRunD_sh0) : Option (pOuts isRunD_outs0) := isRunD_l0 n (fun a1 a2 a3 => rec ((a1, ((), (a2, (a3, ())))), ((), ()))) p.1.1 p.1.2.2.1 p.1.2.2.2.1
def isRunD_loop0 (n m : Nat) (a1 : List UInt8) (a2 : Int) (a3 : Int) : Option (((Bool × (Unit)) × (Unit) × (Unit)) ⊕ (((List UInt8) × (Unit)) × (Unit) × (Unit))) := iterF (isRunD_F0 n) m ((a1, ((), (a2, (a3, ())))), ((), ()))
theorem isRunD_loop0_succ (n m : Nat) (a1 : List UInt8) (a2 : Int) (a3 : Int) : isRunD_loop0 n (m + 1) a1 a2 a3 = isRunD_l0 n (fun a1 a2 a3 => isRunD_loop0 n m a1 a2 a3) a1 a2 a3 := rfl
def isRunD_L0 (n : Nat) : LC := { sh := isRunD_sh0, outs := isRunD_outs0, F := iterF (isRunD_F0 n) n }
def isRunD_lts (n : Nat) : List LC := [isRunD_L0 n]
def isRunD_t (n : Nat) (a1 : List UInt8) (a2 : Unit) : Option (Bool) :=
  (isRunD_loop0 n n a1 ((List.length a1 : Nat) : Int) (0 : Int)).bind fun (o4 : ((Bool × (Unit)) × (Unit) × (Unit)) ⊕ (((List UInt8) × (Unit)) × (Unit) × (Unit))) => Sum.elim (fun (q5 : (Bool × (Unit)) × (Unit) × (Unit)) => some q5.1.1) (fun (q6 : ((List UInt8) × (Unit)) × (Unit) × (Unit)) => some (!decide (q6.1.1 = ([] : List UInt8)))) o4
def isRunD_fc (n : Nat) : FC := { f := 57, args := [.one (.c (.d .str)), .one (.c (.fn 72 []))], res := .one (.c (.d .bool)), F := fun p => isRunD_t n p.1 p.2 }
def isRunD_ct (n : Nat) : List FC := [isDigit_fc n]
theorem isRunD_ctok (n : Nat) {G : World → Prop} (hG : Know Inv G) : ∀ c ∈ isRunD_ct n, FCok Tryz.prog G c ∧ noTup c.args = true := List.forall_mem_cons.2 ⟨isDigit_ok n G hG, (fun _ h => by cases h)⟩
def isRunD_dh : Hints := []
theorem isRunD_dr : drB isRunD_dh (bodyOf Tryz.f57) = true := by kernel_rfl
theorem isRunD_eq0 (n : Nat) : ∀ rec p, isRunD_F0 n rec p = round Tryz.prog 20 (isRunD_ct n) (isRunD_lts n) isRunD_dh 1 isRunD_sh0 isRunD_outs0 (bodyAt 0 0 (bodyOf Tryz.f57)) rec p := by intro rec p; kernel_rfl
theorem isRunD_lok0 (n : Nat) {F : Fr} (hF : F.n = 20) (hK : Know Inv F.G) : LCok Tryz.prog F (isRunD_L0 n) (bodyAt 0 0 (bodyOf Tryz.f57)) :=
  loop_ok hF (by kernel_rfl) (isRunD_ctok n hK) (isRunD_eq0 n) (fuel := n) (fun _ => rfl) (lok_of fun j L h1 h2 h3 => absurd h2 (Nat.not_lt.2 (Nat.le_trans (by decide +kernel) h1))) (drB_at isRunD_dr)
theorem isRunD_eq (n : Nat) : ∀ a, (isRunD_fc n).F a = main Tryz.prog 20 (isRunD_ct n) (isRunD_lts n) isRunD_dh (bodyOf Tryz.f57) [.tmp 4] (isRunD_fc n).args (isRunD_fc n).res a := by intro a; kernel_rfl
theorem isRunD_ok (n : Nat) : FCall Inv Tryz.prog (isRunD_fc n) := fun G hG => ⟨⟨by kernel_rfl, fun a r h => main_ok (c := bodyOf Tryz.f57) Tryz.func57 (by kernel_rfl) (by kernel_rfl) (Nat.le_of_ble_eq_true (by kernel_rfl)) hG.st (by kernel_rfl) (rs := [.tmp 4]) (by kernel_rfl) (isRunD_ctok n hG) (lts := isRunD_lts n) (fun F hF hFG => have hK : Know Inv F.G := hFG ▸ hG; (lok_of (c := (bodyOf Tryz.f57)) (fun j L h1 h2 h3 => by
    have h2' : j < 1 := Nat.lt_of_lt_of_le h2 (by decide +kernel)
    match j, h1, h2', h3 with
    | 0, _, _, h3 => obtain rfl := Option.some.inj h3; exact (show bodyAt 0 0 (bodyOf Tryz.f57) = bodyAt 0 0 (bodyOf Tryz.f57) by kernel_rfl) ▸ isRunD_lok0 n hF hK
    | j + 1, _, h2', _ => exact absurd h2' (by omega)))) isRunD_dr ((isRunD_eq n a).symm.trans h)⟩, rfl⟩
/-! armada/ver.isPart -/
def isPart_lts (n : Nat) : List LC := []
def isPart_t (n : Nat) (a1 : List UInt8) : Option (Bool) :=
  (isRunS_t n a1 ()).bind fun (r1 : Bool) => some r1
def isPart_fc (n : Nat) : FC := { f := 37, args := [.one (.c (.d .str))], res := .one (.c (.d .bool)), F := fun p => isPart_t n p }
def isPart_ct (n : Nat) : List FC := [isRunS_fc n]
theorem isPart_ctok (n : Nat) {G : World → Prop} (hG : Know Inv G) : ∀ c ∈ isPart_ct n, FCok Tryz.prog G c ∧ noTup c.args = true := List.forall_mem_cons.2 ⟨isRunS_ok n G hG, (fun _ h => by cases h)⟩
def isPart_dh : Hints := []
theorem isPart_dr : drB isPart_dh (bodyOf Tryz.f37) = true := by kernel_rfl
theorem isPart_eq (n : Nat) : ∀ a, (isPart_fc n).F a = main Tryz.prog 5 (isPart_ct n) (isPart_lts n) isPart_dh (bodyOf Tryz.f37) [.tmp 2] (isPart_fc n).args (isPart_fc n).res a := by intro a; kernel_rfl
theorem isPart_ok (n : Nat) : FCall Inv Tryz.prog (isPart_fc n) := fun G hG => ⟨⟨by kernel_rfl, fun a r h => main_ok (c := bodyOf Tryz.f37) Tryz.func37 (by kernel_rfl) (by kernel_rfl) (Nat.le_of_ble_eq_true (by kernel_rfl)) hG.st (by kernel_rfl) (rs := [.tmp 2]) (by kernel_rfl) (isPart_ctok n hG) (lts := isPart_lts n) (fun F hF hFG => have hK : Know Inv F.G := hFG ▸ hG; (lok_of fun j L h1 h2 h3 => absurd h2 (Nat.not_lt.2 (Nat.le_trans (by decide +kernel) h1)))) isPart_dr ((isPart_eq n a).symm.trans h)⟩, rfl⟩
/-! armada/ver.isNumber -/
def isNumber_lts (n : Nat) : List LC := []
def isNumber_t (n : Nat) (a1 : List UInt8) : Option (Bool) :=
  (isRunD_t n a1 ()).bind fun (r1 : Bool) => some r1
def isNumber_fc (n : Nat) : FC := { f := 56, args := [.one (.c (.d .str))], res := .one (.c (.d .bool)), F := fun p => isNumber_t n p }
def isNumber_ct (n : Nat) : List FC := [isRunD_fc n]
theorem isNumber_ctok (n : Nat) {G : World → Prop} (hG : Know Inv G) : ∀ c ∈ isNumber_ct n, FCok Tryz.prog G c ∧ noTup c.args = true := List.forall_mem_cons.2 ⟨isRunD_ok n G hG, (fun _ h => by cases h)⟩
def isNumber_dh : Hints := []
theorem isNumber_dr : drB isNumber_dh (bodyOf Tryz.f56) = true := by kernel_rfl
theorem isNumber_eq (n : Nat) : ∀ a, (isNumber_fc n).F a = main Tryz.prog 5 (isNumber_ct n) (isNumber_lts n) isNumber_dh (bodyOf Tryz.f56) [.tmp 2] (isNumber_fc n).args (isNumber_fc n).res a := by intro a; kernel_rfl
theorem isNumber_ok (n : Nat) : FCall Inv Tryz.prog (isNumber_fc n) := fun G hG => ⟨⟨by kernel_rfl, fun a r h => main_ok (c := bodyOf Tryz.f56) Tryz.func56 (by kernel_rfl) (by kernel_rfl) (Nat.le_of_ble_eq_true (by kernel_rfl)) hG.st (by kernel_rfl) (rs := [.tmp 2]) (by kernel_rfl) (isNumber_ctok n hG) (lts := isNumber_lts n) (fun F hF hFG => have hK : Know Inv F.G := hFG ▸ hG; (lok_of fun j L h1 h2 h3 => absurd h2 (Nat.not_lt.2 (Nat.le_trans (by decide +kernel) h1)))) isNumber_dr ((isNumber_eq n a).symm.trans h)⟩, rfl⟩
/-! armada/ver.isPrePart -/
def isPrePart_lts (n : Nat) : List LC := []
def isPrePart_t (n : Nat) (a1 : List UInt8) : Option (Bool) :=
  (isPart_t n a1).bind fun (r1 : Bool) => (bif r1 then (bif decide (a1 = ([48] : List UInt8)) then some true else (sAt a1 (0 : Int)).bind fun (c2 : Int) => (bif !decide (c2 = (48 : Int)) then some true else (isNumber_t n a1).bind fun (r3 : Bool) => some (!r3))) else some false)
def isPrePart_fc (n : Nat) : FC := { f := 36, args := [.one (.c (.d .str))], res := .one (.c (.d .bool)), F := fun p => isPrePart_t n p }
def isPrePart_ct (n : Nat) : List FC := [isPart_fc n, isNumber_fc n]
theorem isPrePart_ctok (n : Nat) {G : World → Prop} (hG : Know Inv G) : ∀ c ∈ isPrePart_ct n, FCok Tryz.prog G c ∧ noTup c.args = true := List.forall_mem_cons.2 ⟨isPart_ok n G hG, List.forall_mem_cons.2 ⟨isNumber_ok n G hG, (fun _ h => by cases h)⟩⟩
def isPrePart_dh : Hints := []
theorem isPrePart_dr : drB isPrePart_dh (bodyOf Tryz.f36) = true := by kernel_rfl
theorem isPrePart_eq (n : Nat) : ∀ a, (isPrePart_fc n).F a = main Tryz.prog 19 (isPrePart_ct n) (isPrePart_lts n) isPrePart_dh (bodyOf Tryz.f36) [.tmp 2] (isPrePart_fc n).args (isPrePart_fc n).res a := by intro a; kernel_rfl
theorem isPrePart_ok (n : Nat) : FCall Inv Tryz.prog (isPrePart_fc n) := fun G hG => ⟨⟨by kernel_rfl, fun a r h => main_ok (c := bodyOf Tryz.f36) Tryz.func36 (by kernel_rfl) (by kernel_rfl) (Nat.le_of_ble_eq_true (by kernel_rfl)) hG.st (by kernel_rfl) (rs := [.tmp 2]) (by kernel_rfl) (isPrePart_ctok n hG) (lts := isPrePart_lts n) (fun F hF hFG => have hK : Know Inv F.G := hFG ▸ hG; (lok_of fun j L h1 h2 h3 => absurd h2 (Nat.not_lt.2 (Nat.le_trans (by decide +kernel) h1)))) isPrePart_dr ((isPrePart_eq n a).symm.trans h)⟩, rfl⟩
end Go.Proofs.YtgihkohggalefabGreatDoor.AM
