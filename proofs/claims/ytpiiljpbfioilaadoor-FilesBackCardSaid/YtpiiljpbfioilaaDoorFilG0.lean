/- Layer 5, first part: what functions come to, as plain functions of data: written by program (shal.py); the kernel checks it. -/
import Derived.Test.YtpiiljpbfioilaaDoorFilC
import Derived.Test.YtpiiljpbfioilaaDoorMpM
namespace Go.Proofs.YtpiiljpbfioilaaDoor.AM
open Go.RowKit
set_option linter.unusedVariables false
set_option maxRecDepth 20000
/-! armada/files.isSign -/
def fSign_lts (n : Nat) : List LC := []
def fSign_t (n : Nat) (a1 : Int) : Option (Bool) :=
  (bif decide ((97 : Int) ≤ a1) then (bif decide (a1 ≤ (122 : Int)) then (bif decide (a1 ≤ (122 : Int)) then some true else (bif decide (a1 = (45 : Int)) then some true else (bif decide (a1 = (95 : Int)) then some true else some (decide (a1 = (46 : Int)))))) else (bif decide ((65 : Int) ≤ a1) then (bif decide (a1 ≤ (90 : Int)) then (bif decide (a1 ≤ (90 : Int)) then some true else (bif decide (a1 = (45 : Int)) then some true else (bif decide (a1 = (95 : Int)) then some true else some (decide (a1 = (46 : Int)))))) else (bif decide ((48 : Int) ≤ a1) then (bif decide (a1 ≤ (57 : Int)) then some true else (bif decide (a1 = (45 : Int)) then some true else (bif decide (a1 = (95 : Int)) then some true else some (decide (a1 = (46 : Int)))))) else (bif decide (a1 = (45 : Int)) then some true else (bif decide (a1 = (95 : Int)) then some true else some (decide (a1 = (46 : Int))))))) else (bif decide ((48 : Int) ≤ a1) then (bif decide (a1 ≤ (57 : Int)) then some true else (bif decide (a1 = (45 : Int)) then some true else (bif decide (a1 = (95 : Int)) then some true else some (decide (a1 = (46 : Int)))))) else (bif decide (a1 = (45 : Int)) then some true else (bif decide (a1 = (95 : Int)) then some true else some (decide (a1 = (46 : Int)))))))) else (bif decide ((65 : Int) ≤ a1) then (bif decide (a1 ≤ (90 : Int)) then (bif decide (a1 ≤ (90 : Int)) then some true else (bif decide (a1 = (45 : Int)) then some true else (bif decide (a1 = (95 : Int)) then some true else some (decide (a1 = (46 : Int)))))) else (bif decide ((48 : Int) ≤ a1) then (bif decide (a1 ≤ (57 : Int)) then some true else (bif decide (a1 = (45 : Int)) then some true else (bif decide (a1 = (95 : Int)) then some true else some (decide (a1 = (46 : Int)))))) else (bif decide (a1 = (45 : Int)) then some true else (bif decide (a1 = (95 : Int)) then some true else some (decide (a1 = (46 : Int))))))) else (bif decide ((48 : Int) ≤ a1) then (bif decide (a1 ≤ (57 : Int)) then some true else (bif decide (a1 = (45 : Int)) then some true else (bif decide (a1 = (95 : Int)) then some true else some (decide (a1 = (46 : Int)))))) else (bif decide (a1 = (45 : Int)) then some true else (bif decide (a1 = (95 : Int)) then some true else some (decide (a1 = (46 : Int))))))))
def fSign_fc (n : Nat) : FC := { f := 77, args := [.one (.c (.d (.int .u8)))], res := .one (.c (.d .bool)), F := fun p => fSign_t n p }
def fSign_ct (n : Nat) : List FC := []
theorem fSign_ctok (n : Nat) {G : World → Prop} (hG : Know Inv G) : ∀ c ∈ fSign_ct n, FCok Tryd.prog G c ∧ noTup c.args = true := (fun _ h => by cases h)
def fSign_dh : Hints := []
theorem fSign_dr : drB fSign_dh (bodyOf Tryd.f77) = true := by kernel_rfl
theorem fSign_eq (n : Nat) : ∀ a, (fSign_fc n).F a = main Tryd.prog 32 (fSign_ct n) (fSign_lts n) fSign_dh (bodyOf Tryd.f77) [.tmp 2] (fSign_fc n).args (fSign_fc n).res a := by intro a; kernel_rfl
theorem fSign_ok (n : Nat) : FCall Inv Tryd.prog (fSign_fc n) := fun G hG => ⟨⟨by kernel_rfl, fun a r h => main_ok (c := bodyOf Tryd.f77) Tryd.func77 (by kernel_rfl) (by kernel_rfl) (Nat.le_of_ble_eq_true (by kernel_rfl)) hG.st (by kernel_rfl) (rs := [.tmp 2]) (by kernel_rfl) (fSign_ctok n hG) (lts := fSign_lts n) (fun F hF hFG => have hK : Know Inv F.G := hFG ▸ hG; (lok_of fun j L h1 h2 h3 => absurd h2 (Nat.not_lt.2 (Nat.le_trans (by decide +kernel) h1)))) fSign_dr ((fSign_eq n a).symm.trans h)⟩, rfl⟩
/-! armada/files.isPart -/
@[reducible] def fPart_sh0 : SSt := ⟨[(0, .one (.c (.d .str))), (15, .one (.c (.d (.int .i64)))), (16, .one (.c (.d (.int .i64))))], [], []⟩
@[reducible] def fPart_outs0 : List (Exit × SSt) := [(.ret, ⟨[(2, .one (.c (.d .bool)))], [], []⟩), (.exit 0, ⟨[], [], []⟩)]
def fPart_l0 (n : Nat) (rec : (List UInt8) → Int → Int → Option (((Bool × (Unit)) × (Unit) × (Unit)) ⊕ ((Unit) × (Unit) × (Unit)))) (a1 : List UInt8) (a2 : Int) (a3 : Int) : Option (((Bool × (Unit)) × (Unit) × (Unit)) ⊕ ((Unit) × (Unit) × (Unit))) :=
  (bif decide (a3 < a2) then (sAt a1 a3).bind fun (c1 : Int) => (fSign_t n c1).bind fun (r2 : Bool) => (bif !r2 then some (Sum.inl ((false, ()), ((), ()))) else letO (IntKind.wrap .i64 (a3 + (1 : Int))) fun (n3 : Int) => rec a1 a2 n3) else some (Sum.inr (((), ((), ())))))
def fPart_F0 (n : Nat) (rec : pSt fPart_sh0 → Option (pOuts fPart_outs0)) (p : pSt fPart_sh0) : Option (pOuts fPart_outs0) := fPart_l0 n (fun a1 a2 a3 => rec ((a1, (a2, (a3, ()))), ((), ()))) p.1.1 p.1.2.1 p.1.2.2.1
def fPart_loop0 (n m : Nat) (a1 : List UInt8) (a2 : Int) (a3 : Int) : Option (((Bool × (Unit)) × (Unit) × (Unit)) ⊕ ((Unit) × (Unit) × (Unit))) := iterF (fPart_F0 n) m ((a1, (a2, (a3, ()))), ((), ()))
theorem fPart_loop0_succ (n m : Nat) (a1 : List UInt8) (a2 : Int) (a3 : Int) : fPart_loop0 n (m + 1) a1 a2 a3 = fPart_l0 n (fun a1 a2 a3 => fPart_loop0 n m a1 a2 a3) a1 a2 a3 := rfl
def fPart_L0 (n : Nat) : LC := { sh := fPart_sh0, outs := fPart_outs0, F := iterF (fPart_F0 n) n }
def fPart_lts (n : Nat) : List LC := [fPart_L0 n]
def fPart_t (n : Nat) (a1 : List UInt8) : Option (Bool) :=
  (bif decide (a1 = ([] : List UInt8)) then some false else (bif decide (a1 = ([46] : List UInt8)) then some false else (bif decide (a1 = ([46, 46] : List UInt8)) then some false else (fPart_loop0 n n a1 ((List.length a1 : Nat) : Int) (0 : Int)).bind fun (o4 : ((Bool × (Unit)) × (Unit) × (Unit)) ⊕ ((Unit) × (Unit) × (Unit))) => Sum.elim (fun (q5 : (Bool × (Unit)) × (Unit) × (Unit)) => some q5.1.1) (fun (q6 : (Unit) × (Unit) × (Unit)) => some true) o4)))
def fPart_fc (n : Nat) : FC := { f := 49, args := [.one (.c (.d .str))], res := .one (.c (.d .bool)), F := fun p => fPart_t n p }
def fPart_ct (n : Nat) : List FC := [fSign_fc n]
theorem fPart_ctok (n : Nat) {G : World → Prop} (hG : Know Inv G) : ∀ c ∈ fPart_ct n, FCok Tryd.prog G c ∧ noTup c.args = true := List.forall_mem_cons.2 ⟨fSign_ok n G hG, (fun _ h => by cases h)⟩
def fPart_dh : Hints := []
theorem fPart_dr : drB fPart_dh (bodyOf Tryd.f49) = true := by kernel_rfl
theorem fPart_eq0 (n : Nat) : ∀ rec p, fPart_F0 n rec p = round Tryd.prog 25 (fPart_ct n) (fPart_lts n) fPart_dh 1 fPart_sh0 fPart_outs0 (bodyAt 0 0 (bodyOf Tryd.f49)) rec p := by intro rec p; kernel_rfl
theorem fPart_lok0 (n : Nat) {F : Fr} (hF : F.n = 25) (hK : Know Inv F.G) : LCok Tryd.prog F (fPart_L0 n) (bodyAt 0 0 (bodyOf Tryd.f49)) :=
  loop_ok hF (by kernel_rfl) (fPart_ctok n hK) (fPart_eq0 n) (fuel := n) (fun _ => rfl) (lok_of fun j L h1 h2 h3 => absurd h2 (Nat.not_lt.2 (Nat.le_trans (by decide +kernel) h1))) (drB_at fPart_dr)
theorem fPart_eq (n : Nat) : ∀ a, (fPart_fc n).F a = main Tryd.prog 25 (fPart_ct n) (fPart_lts n) fPart_dh (bodyOf Tryd.f49) [.tmp 2] (fPart_fc n).args (fPart_fc n).res a := by intro a; kernel_rfl
theorem fPart_ok (n : Nat) : FCall Inv Tryd.prog (fPart_fc n) := fun G hG => ⟨⟨by kernel_rfl, fun a r h => main_ok (c := bodyOf Tryd.f49) Tryd.func49 (by kernel_rfl) (by kernel_rfl) (Nat.le_of_ble_eq_true (by kernel_rfl)) hG.st (by kernel_rfl) (rs := [.tmp 2]) (by kernel_rfl) (fPart_ctok n hG) (lts := fPart_lts n) (fun F hF hFG => have hK : Know Inv F.G := hFG ▸ hG; (lok_of (c := (bodyOf Tryd.f49)) (fun j L h1 h2 h3 => by
    have h2' : j < 1 := Nat.lt_of_lt_of_le h2 (by decide +kernel)
    match j, h1, h2', h3 with
    | 0, _, _, h3 => obtain rfl := Option.some.inj h3; exact (show bodyAt 0 0 (bodyOf Tryd.f49) = bodyAt 0 0 (bodyOf Tryd.f49) by kernel_rfl) ▸ fPart_lok0 n hF hK
    | j + 1, _, h2', _ => exact absurd h2' (by omega)))) fPart_dr ((fPart_eq n a).symm.trans h)⟩, rfl⟩
end Go.Proofs.YtpiiljpbfioilaaDoor.AM
