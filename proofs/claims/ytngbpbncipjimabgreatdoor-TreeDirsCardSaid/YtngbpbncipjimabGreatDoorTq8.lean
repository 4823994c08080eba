/- One text of TreG1, FilR, FilM, FilM2 (mk/pack.py). -/
import Derived.Test.YtngbpbncipjimabGreatDoorTq7
import Derived.Test.YtngbpbncipjimabGreatDoorTq6
import Derived.Test.YtngbpbncipjimabGreatDoorTq5
/- Layer 14, first part: what functions come to, as plain functions of data: written by program (shal.py); the kernel checks it. -/
namespace Go.Proofs.YtngbpbncipjimabGreatDoor.AM
open Go.RowKit
set_option linter.unusedVariables false
set_option maxRecDepth 20000
/-! internal/bytealg.LastIndexByteString -/
@[reducible] def LastI_sh0 : SSt := ⟨[(0, .one (.c (.d .str))), (1, .one (.c (.d (.int .u8)))), (5, .one (.c (.d (.int .i64))))], [], []⟩
@[reducible] def LastI_outs0 : List (Exit × SSt) := [(.ret, ⟨[(4, .one (.c (.d (.int .i64))))], [], []⟩), (.exit 0, ⟨[], [], []⟩)]
def LastI_l0 (n : Nat) (rec : (List UInt8) → Int → Int → Option (((Int × (Unit)) × (Unit) × (Unit)) ⊕ ((Unit) × (Unit) × (Unit)))) (a1 : List UInt8) (a2 : Int) (a3 : Int) : Option (((Int × (Unit)) × (Unit) × (Unit)) ⊕ ((Unit) × (Unit) × (Unit))) :=
  (bif decide ((0 : Int) ≤ a3) then (sAt a1 a3).bind fun (c2 : Int) => (bif decide (c2 = a2) then some (Sum.inl ((a3, ()), ((), ()))) else letO (IntKind.wrap .i64 (a3 - (1 : Int))) fun (n3 : Int) => rec a1 a2 n3) else some (Sum.inr (((), ((), ())))))
def LastI_F0 (n : Nat) (rec : pSt LastI_sh0 → Option (pOuts LastI_outs0)) (p : pSt LastI_sh0) : Option (pOuts LastI_outs0) := LastI_l0 n (fun a1 a2 a3 => rec ((a1, (a2, (a3, ()))), ((), ()))) p.1.1 p.1.2.1 p.1.2.2.1
def LastI_loop0 (n m : Nat) (a1 : List UInt8) (a2 : Int) (a3 : Int) : Option (((Int × (Unit)) × (Unit) × (Unit)) ⊕ ((Unit) × (Unit) × (Unit))) := iterF (LastI_F0 n) m ((a1, (a2, (a3, ()))), ((), ()))
theorem LastI_loop0_succ (n m : Nat) (a1 : List UInt8) (a2 : Int) (a3 : Int) : LastI_loop0 n (m + 1) a1 a2 a3 = LastI_l0 n (fun a1 a2 a3 => LastI_loop0 n m a1 a2 a3) a1 a2 a3 := rfl
def LastI_L0 (n : Nat) : LC := { sh := LastI_sh0, outs := LastI_outs0, F := iterF (LastI_F0 n) n }
def LastI_lts (n : Nat) : List LC := [LastI_L0 n]
def LastI_t (n : Nat) (a1 : List UInt8) (a2 : Int) : Option (Int) :=
  letO (IntKind.wrap .i64 (((List.length a1 : Nat) : Int) - (1 : Int))) fun (n1 : Int) => (LastI_loop0 n n a1 a2 n1).bind fun (o4 : ((Int × (Unit)) × (Unit) × (Unit)) ⊕ ((Unit) × (Unit) × (Unit))) => Sum.elim (fun (q5 : (Int × (Unit)) × (Unit) × (Unit)) => some q5.1.1) (fun (q6 : (Unit) × (Unit) × (Unit)) => some (-1 : Int)) o4
def LastI_fc (n : Nat) : FC := { f := 58, args := [.one (.c (.d .str)), .one (.c (.d (.int .u8)))], res := .one (.c (.d (.int .i64))), F := fun p => LastI_t n p.1 p.2 }
def LastI_ct (n : Nat) : List FC := []
theorem LastI_ctok (n : Nat) {G : World → Prop} (hG : Know Inv G) : ∀ c ∈ LastI_ct n, FCok Tryz.prog G c ∧ noTup c.args = true := (fun _ h => by cases h)
def LastI_dh : Hints := []
theorem LastI_dr : drB LastI_dh (bodyOf Tryz.f58) = true := by kernel_rfl
theorem LastI_eq0 (n : Nat) : ∀ rec p, LastI_F0 n rec p = round Tryz.prog 19 (LastI_ct n) (LastI_lts n) LastI_dh 1 LastI_sh0 LastI_outs0 (bodyAt 0 0 (bodyOf Tryz.f58)) rec p := by intro rec p; kernel_rfl
theorem LastI_lok0 (n : Nat) {F : Fr} (hF : F.n = 19) (hK : Know Inv F.G) : LCok Tryz.prog F (LastI_L0 n) (bodyAt 0 0 (bodyOf Tryz.f58)) :=
  loop_ok hF (by kernel_rfl) (LastI_ctok n hK) (LastI_eq0 n) (fuel := n) (fun _ => rfl) (lok_of fun j L h1 h2 h3 => absurd h2 (Nat.not_lt.2 (Nat.le_trans (by decide +kernel) h1))) (drB_at LastI_dr)
theorem LastI_eq (n : Nat) : ∀ a, (LastI_fc n).F a = main Tryz.prog 19 (LastI_ct n) (LastI_lts n) LastI_dh (bodyOf Tryz.f58) [.tmp 4] (LastI_fc n).args (LastI_fc n).res a := by intro a; kernel_rfl
theorem LastI_ok (n : Nat) : FCall Inv Tryz.prog (LastI_fc n) := fun G hG => ⟨⟨by kernel_rfl, fun a r h => main_ok (c := bodyOf Tryz.f58) Tryz.func58 (by kernel_rfl) (by kernel_rfl) (Nat.le_of_ble_eq_true (by kernel_rfl)) hG.st (by kernel_rfl) (rs := [.tmp 4]) (by kernel_rfl) (LastI_ctok n hG) (lts := LastI_lts n) (fun F hF hFG => have hK : Know Inv F.G := hFG ▸ hG; (lok_of (c := (bodyOf Tryz.f58)) (fun j L h1 h2 h3 => by
    have h2' : j < 1 := Nat.lt_of_lt_of_le h2 (by decide +kernel)
    match j, h1, h2', h3 with
    | 0, _, _, h3 => obtain rfl := Option.some.inj h3; exact (show bodyAt 0 0 (bodyOf Tryz.f58) = bodyAt 0 0 (bodyOf Tryz.f58) by kernel_rfl) ▸ LastI_lok0 n hF hK
    | j + 1, _, h2', _ => exact absurd h2' (by omega)))) LastI_dr ((LastI_eq n a).symm.trans h)⟩, rfl⟩
/-! strings.LastIndexByte -/
def LastB_lts (n : Nat) : List LC := []
def LastB_t (n : Nat) (a1 : List UInt8) (a2 : Int) : Option (Int) :=
  (LastI_t n a1 a2).bind fun (r1 : Int) => some r1
def LastB_fc (n : Nat) : FC := { f := 39, args := [.one (.c (.d .str)), .one (.c (.d (.int .u8)))], res := .one (.c (.d (.int .i64))), F := fun p => LastB_t n p.1 p.2 }
def LastB_ct (n : Nat) : List FC := [LastI_fc n]
theorem LastB_ctok (n : Nat) {G : World → Prop} (hG : Know Inv G) : ∀ c ∈ LastB_ct n, FCok Tryz.prog G c ∧ noTup c.args = true := List.forall_mem_cons.2 ⟨LastI_ok n G hG, (fun _ h => by cases h)⟩
def LastB_dh : Hints := []
theorem LastB_dr : drB LastB_dh (bodyOf Tryz.f39) = true := by kernel_rfl
theorem LastB_eq (n : Nat) : ∀ a, (LastB_fc n).F a = main Tryz.prog 8 (LastB_ct n) (LastB_lts n) LastB_dh (bodyOf Tryz.f39) [.tmp 4] (LastB_fc n).args (LastB_fc n).res a := by intro a; kernel_rfl
theorem LastB_ok (n : Nat) : FCall Inv Tryz.prog (LastB_fc n) := fun G hG => ⟨⟨by kernel_rfl, fun a r h => main_ok (c := bodyOf Tryz.f39) Tryz.func39 (by kernel_rfl) (by kernel_rfl) (Nat.le_of_ble_eq_true (by kernel_rfl)) hG.st (by kernel_rfl) (rs := [.tmp 4]) (by kernel_rfl) (LastB_ctok n hG) (lts := LastB_lts n) (fun F hF hFG => have hK : Know Inv F.G := hFG ▸ hG; (lok_of fun j L h1 h2 h3 => absurd h2 (Nat.not_lt.2 (Nat.le_trans (by decide +kernel) h1)))) LastB_dr ((LastB_eq n a).symm.trans h)⟩, rfl⟩
/-! internal/stringslite.HasPrefix -/
def HasPrefixI_lts (n : Nat) : List LC := []
def HasPrefixI_t (n : Nat) (a1 : List UInt8) (a2 : List UInt8) : Option (Bool) :=
  (bif decide (((List.length a2 : Nat) : Int) ≤ ((List.length a1 : Nat) : Int)) then (subO a1 (0 : Int) ((List.length a2 : Nat) : Int)).bind fun (s1 : List UInt8) => some (decide (s1 = a2)) else some false)
def HasPrefixI_fc (n : Nat) : FC := { f := 80, args := [.one (.c (.d .str)), .one (.c (.d .str))], res := .one (.c (.d .bool)), F := fun p => HasPrefixI_t n p.1 p.2 }
def HasPrefixI_ct (n : Nat) : List FC := []
theorem HasPrefixI_ctok (n : Nat) {G : World → Prop} (hG : Know Inv G) : ∀ c ∈ HasPrefixI_ct n, FCok Tryz.prog G c ∧ noTup c.args = true := (fun _ h => by cases h)
def HasPrefixI_dh : Hints := []
theorem HasPrefixI_dr : drB HasPrefixI_dh (bodyOf Tryz.f80) = true := by kernel_rfl
theorem HasPrefixI_eq (n : Nat) : ∀ a, (HasPrefixI_fc n).F a = main Tryz.prog 18 (HasPrefixI_ct n) (HasPrefixI_lts n) HasPrefixI_dh (bodyOf Tryz.f80) [.tmp 4] (HasPrefixI_fc n).args (HasPrefixI_fc n).res a := by intro a; kernel_rfl
theorem HasPrefixI_ok (n : Nat) : FCall Inv Tryz.prog (HasPrefixI_fc n) := fun G hG => ⟨⟨by kernel_rfl, fun a r h => main_ok (c := bodyOf Tryz.f80) Tryz.func80 (by kernel_rfl) (by kernel_rfl) (Nat.le_of_ble_eq_true (by kernel_rfl)) hG.st (by kernel_rfl) (rs := [.tmp 4]) (by kernel_rfl) (HasPrefixI_ctok n hG) (lts := HasPrefixI_lts n) (fun F hF hFG => have hK : Know Inv F.G := hFG ▸ hG; (lok_of fun j L h1 h2 h3 => absurd h2 (Nat.not_lt.2 (Nat.le_trans (by decide +kernel) h1)))) HasPrefixI_dr ((HasPrefixI_eq n a).symm.trans h)⟩, rfl⟩
/-! strings.HasPrefix -/
def HasPrefix_lts (n : Nat) : List LC := []
def HasPrefix_t (n : Nat) (a1 : List UInt8) (a2 : List UInt8) : Option (Bool) :=
  (HasPrefixI_t n a1 a2).bind fun (r1 : Bool) => some r1
def HasPrefix_fc (n : Nat) : FC := { f := 71, args := [.one (.c (.d .str)), .one (.c (.d .str))], res := .one (.c (.d .bool)), F := fun p => HasPrefix_t n p.1 p.2 }
def HasPrefix_ct (n : Nat) : List FC := [HasPrefixI_fc n]
theorem HasPrefix_ctok (n : Nat) {G : World → Prop} (hG : Know Inv G) : ∀ c ∈ HasPrefix_ct n, FCok Tryz.prog G c ∧ noTup c.args = true := List.forall_mem_cons.2 ⟨HasPrefixI_ok n G hG, (fun _ h => by cases h)⟩
def HasPrefix_dh : Hints := []
theorem HasPrefix_dr : drB HasPrefix_dh (bodyOf Tryz.f71) = true := by kernel_rfl
theorem HasPrefix_eq (n : Nat) : ∀ a, (HasPrefix_fc n).F a = main Tryz.prog 8 (HasPrefix_ct n) (HasPrefix_lts n) HasPrefix_dh (bodyOf Tryz.f71) [.tmp 4] (HasPrefix_fc n).args (HasPrefix_fc n).res a := by intro a; kernel_rfl
theorem HasPrefix_ok (n : Nat) : FCall Inv Tryz.prog (HasPrefix_fc n) := fun G hG => ⟨⟨by kernel_rfl, fun a r h => main_ok (c := bodyOf Tryz.f71) Tryz.func71 (by kernel_rfl) (by kernel_rfl) (Nat.le_of_ble_eq_true (by kernel_rfl)) hG.st (by kernel_rfl) (rs := [.tmp 4]) (by kernel_rfl) (HasPrefix_ctok n hG) (lts := HasPrefix_lts n) (fun F hF hFG => have hK : Know Inv F.G := hFG ▸ hG; (lok_of fun j L h1 h2 h3 => absurd h2 (Nat.not_lt.2 (Nat.le_trans (by decide +kernel) h1)))) HasPrefix_dr ((HasPrefix_eq n a).symm.trans h)⟩, rfl⟩
/-! internal/stringslite.TrimPrefix -/
def TrimPrefixI_lts (n : Nat) : List LC := []
def TrimPrefixI_t (n : Nat) (a1 : List UInt8) (a2 : List UInt8) : Option (List UInt8) :=
  (HasPrefixI_t n a1 a2).bind fun (r1 : Bool) => (bif r1 then (subO a1 ((List.length a2 : Nat) : Int) ((List.length a1 : Nat) : Int)).bind fun (s2 : List UInt8) => some s2 else some a1)
def TrimPrefixI_fc (n : Nat) : FC := { f := 59, args := [.one (.c (.d .str)), .one (.c (.d .str))], res := .one (.c (.d .str)), F := fun p => TrimPrefixI_t n p.1 p.2 }
def TrimPrefixI_ct (n : Nat) : List FC := [HasPrefixI_fc n]
theorem TrimPrefixI_ctok (n : Nat) {G : World → Prop} (hG : Know Inv G) : ∀ c ∈ TrimPrefixI_ct n, FCok Tryz.prog G c ∧ noTup c.args = true := List.forall_mem_cons.2 ⟨HasPrefixI_ok n G hG, (fun _ h => by cases h)⟩
def TrimPrefixI_dh : Hints := []
theorem TrimPrefixI_dr : drB TrimPrefixI_dh (bodyOf Tryz.f59) = true := by kernel_rfl
theorem TrimPrefixI_eq (n : Nat) : ∀ a, (TrimPrefixI_fc n).F a = main Tryz.prog 13 (TrimPrefixI_ct n) (TrimPrefixI_lts n) TrimPrefixI_dh (bodyOf Tryz.f59) [.tmp 4] (TrimPrefixI_fc n).args (TrimPrefixI_fc n).res a := by intro a; kernel_rfl
theorem TrimPrefixI_ok (n : Nat) : FCall Inv Tryz.prog (TrimPrefixI_fc n) := fun G hG => ⟨⟨by kernel_rfl, fun a r h => main_ok (c := bodyOf Tryz.f59) Tryz.func59 (by kernel_rfl) (by kernel_rfl) (Nat.le_of_ble_eq_true (by kernel_rfl)) hG.st (by kernel_rfl) (rs := [.tmp 4]) (by kernel_rfl) (TrimPrefixI_ctok n hG) (lts := TrimPrefixI_lts n) (fun F hF hFG => have hK : Know Inv F.G := hFG ▸ hG; (lok_of fun j L h1 h2 h3 => absurd h2 (Nat.not_lt.2 (Nat.le_trans (by decide +kernel) h1)))) TrimPrefixI_dr ((TrimPrefixI_eq n a).symm.trans h)⟩, rfl⟩
/-! strings.TrimPrefix -/
def TrimPrefix_lts (n : Nat) : List LC := []
def TrimPrefix_t (n : Nat) (a1 : List UInt8) (a2 : List UInt8) : Option (List UInt8) :=
  (TrimPrefixI_t n a1 a2).bind fun (r1 : List UInt8) => some r1
def TrimPrefix_fc (n : Nat) : FC := { f := 40, args := [.one (.c (.d .str)), .one (.c (.d .str))], res := .one (.c (.d .str)), F := fun p => TrimPrefix_t n p.1 p.2 }
def TrimPrefix_ct (n : Nat) : List FC := [TrimPrefixI_fc n]
theorem TrimPrefix_ctok (n : Nat) {G : World → Prop} (hG : Know Inv G) : ∀ c ∈ TrimPrefix_ct n, FCok Tryz.prog G c ∧ noTup c.args = true := List.forall_mem_cons.2 ⟨TrimPrefixI_ok n G hG, (fun _ h => by cases h)⟩
def TrimPrefix_dh : Hints := []
theorem TrimPrefix_dr : drB TrimPrefix_dh (bodyOf Tryz.f40) = true := by kernel_rfl
theorem TrimPrefix_eq (n : Nat) : ∀ a, (TrimPrefix_fc n).F a = main Tryz.prog 8 (TrimPrefix_ct n) (TrimPrefix_lts n) TrimPrefix_dh (bodyOf Tryz.f40) [.tmp 4] (TrimPrefix_fc n).args (TrimPrefix_fc n).res a := by intro a; kernel_rfl
theorem TrimPrefix_ok (n : Nat) : FCall Inv Tryz.prog (TrimPrefix_fc n) := fun G hG => ⟨⟨by kernel_rfl, fun a r h => main_ok (c := bodyOf Tryz.f40) Tryz.func40 (by kernel_rfl) (by kernel_rfl) (Nat.le_of_ble_eq_true (by kernel_rfl)) hG.st (by kernel_rfl) (rs := [.tmp 4]) (by kernel_rfl) (TrimPrefix_ctok n hG) (lts := TrimPrefix_lts n) (fun F hF hFG => have hK : Know Inv F.G := hFG ▸ hG; (lok_of fun j L h1 h2 h3 => absurd h2 (Nat.not_lt.2 (Nat.le_trans (by decide +kernel) h1)))) TrimPrefix_dr ((TrimPrefix_eq n a).symm.trans h)⟩, rfl⟩
/-! internal/stringslite.CutPrefix -/
def CutPrefixI_lts (n : Nat) : List LC := []
def CutPrefixI_t (n : Nat) (a1 : List UInt8) (a2 : List UInt8) : Option ((List UInt8) × (Bool)) :=
  (HasPrefixI_t n a1 a2).bind fun (r1 : Bool) => (bif !r1 then some (a1, false) else (subO a1 ((List.length a2 : Nat) : Int) ((List.length a1 : Nat) : Int)).bind fun (s2 : List UInt8) => some (s2, true))
def CutPrefixI_fc (n : Nat) : FC := { f := 54, args := [.one (.c (.d .str)), .one (.c (.d .str))], res := .tup [.c (.d .str), .c (.d .bool)], F := fun p => CutPrefixI_t n p.1 p.2 }
def CutPrefixI_ct (n : Nat) : List FC := [HasPrefixI_fc n]
theorem CutPrefixI_ctok (n : Nat) {G : World → Prop} (hG : Know Inv G) : ∀ c ∈ CutPrefixI_ct n, FCok Tryz.prog G c ∧ noTup c.args = true := List.forall_mem_cons.2 ⟨HasPrefixI_ok n G hG, (fun _ h => by cases h)⟩
def CutPrefixI_dh : Hints := []
theorem CutPrefixI_dr : drB CutPrefixI_dh (bodyOf Tryz.f54) = true := by kernel_rfl
theorem CutPrefixI_eq (n : Nat) : ∀ a, (CutPrefixI_fc n).F a = main Tryz.prog 15 (CutPrefixI_ct n) (CutPrefixI_lts n) CutPrefixI_dh (bodyOf Tryz.f54) [.tmp 4, .tmp 5] (CutPrefixI_fc n).args (CutPrefixI_fc n).res a := by intro a; kernel_rfl
theorem CutPrefixI_ok (n : Nat) : FCall Inv Tryz.prog (CutPrefixI_fc n) := fun G hG => ⟨⟨by kernel_rfl, fun a r h => main_ok (c := bodyOf Tryz.f54) Tryz.func54 (by kernel_rfl) (by kernel_rfl) (Nat.le_of_ble_eq_true (by kernel_rfl)) hG.st (by kernel_rfl) (rs := [.tmp 4, .tmp 5]) (by kernel_rfl) (CutPrefixI_ctok n hG) (lts := CutPrefixI_lts n) (fun F hF hFG => have hK : Know Inv F.G := hFG ▸ hG; (lok_of fun j L h1 h2 h3 => absurd h2 (Nat.not_lt.2 (Nat.le_trans (by decide +kernel) h1)))) CutPrefixI_dr ((CutPrefixI_eq n a).symm.trans h)⟩, rfl⟩
/-! strings.CutPrefix -/
def CutPrefix_lts (n : Nat) : List LC := []
def CutPrefix_t (n : Nat) (a1 : List UInt8) (a2 : List UInt8) : Option ((List UInt8) × (Bool)) :=
  (CutPrefixI_t n a1 a2).bind fun (r1 : (List UInt8) × (Bool)) => some r1
def CutPrefix_fc (n : Nat) : FC := { f := 34, args := [.one (.c (.d .str)), .one (.c (.d .str))], res := .tup [.c (.d .str), .c (.d .bool)], F := fun p => CutPrefix_t n p.1 p.2 }
def CutPrefix_ct (n : Nat) : List FC := [CutPrefixI_fc n]
theorem CutPrefix_ctok (n : Nat) {G : World → Prop} (hG : Know Inv G) : ∀ c ∈ CutPrefix_ct n, FCok Tryz.prog G c ∧ noTup c.args = true := List.forall_mem_cons.2 ⟨CutPrefixI_ok n G hG, (fun _ h => by cases h)⟩
def CutPrefix_dh : Hints := []
theorem CutPrefix_dr : drB CutPrefix_dh (bodyOf Tryz.f34) = true := by kernel_rfl
theorem CutPrefix_eq (n : Nat) : ∀ a, (CutPrefix_fc n).F a = main Tryz.prog 11 (CutPrefix_ct n) (CutPrefix_lts n) CutPrefix_dh (bodyOf Tryz.f34) [.tmp 4, .tmp 5] (CutPrefix_fc n).args (CutPrefix_fc n).res a := by intro a; kernel_rfl
theorem CutPrefix_ok (n : Nat) : FCall Inv Tryz.prog (CutPrefix_fc n) := fun G hG => ⟨⟨by kernel_rfl, fun a r h => main_ok (c := bodyOf Tryz.f34) Tryz.func34 (by kernel_rfl) (by kernel_rfl) (Nat.le_of_ble_eq_true (by kernel_rfl)) hG.st (by kernel_rfl) (rs := [.tmp 4, .tmp 5]) (by kernel_rfl) (CutPrefix_ctok n hG) (lts := CutPrefix_lts n) (fun F hF hFG => have hK : Know Inv F.G := hFG ▸ hG; (lok_of fun j L h1 h2 h3 => absurd h2 (Nat.not_lt.2 (Nat.le_trans (by decide +kernel) h1)))) CutPrefix_dr ((CutPrefix_eq n a).symm.trans h)⟩, rfl⟩
/-! armada/mpath.Base -/
def mBase_lts (n : Nat) : List LC := []
def mBase_t (n : Nat) (a1 : List UInt8) : Option (List UInt8) :=
  ((LastB_fc n).F (a1, (47 : Int))).bind fun (r1 : Int) => letO (max (0 : Int) r1) fun (n2 : Int) => (subO a1 (0 : Int) n2).bind fun (s3 : List UInt8) => some s3
def mBase_fc (n : Nat) : FC := { f := 22, args := [.one (.c (.d .str))], res := .one (.c (.d .str)), F := fun p => mBase_t n p }
def mBase_ct (n : Nat) : List FC := [LastB_fc n]
theorem mBase_ctok (n : Nat) {G : World → Prop} (hG : Know Inv G) : ∀ c ∈ mBase_ct n, FCok Tryz.prog G c ∧ noTup c.args = true := List.forall_mem_cons.2 ⟨LastB_ok n G hG, (fun _ h => by cases h)⟩
def mBase_dh : Hints := []
theorem mBase_dr : drB mBase_dh (bodyOf Tryz.f22) = true := by kernel_rfl
theorem mBase_eq (n : Nat) : ∀ a, (mBase_fc n).F a = main Tryz.prog 8 (mBase_ct n) (mBase_lts n) mBase_dh (bodyOf Tryz.f22) [.tmp 2] (mBase_fc n).args (mBase_fc n).res a := by intro a; kernel_rfl
theorem mBase_ok (n : Nat) : FCall Inv Tryz.prog (mBase_fc n) := fun G hG => ⟨⟨by kernel_rfl, fun a r h => main_ok (c := bodyOf Tryz.f22) Tryz.func22 (by kernel_rfl) (by kernel_rfl) (Nat.le_of_ble_eq_true (by kernel_rfl)) hG.st (by kernel_rfl) (rs := [.tmp 2]) (by kernel_rfl) (mBase_ctok n hG) (lts := mBase_lts n) (fun F hF hFG => have hK : Know Inv F.G := hFG ▸ hG; (lok_of fun j L h1 h2 h3 => absurd h2 (Nat.not_lt.2 (Nat.le_trans (by decide +kernel) h1)))) mBase_dr ((mBase_eq n a).symm.trans h)⟩, rfl⟩
/-! armada/mpath.Within -/
def mWithin_lts (n : Nat) : List LC := []
def mWithin_t (n : Nat) (a1 : List UInt8) (a2 : List UInt8) : Option (Bool) :=
  (bif decide (a2 = ([] : List UInt8)) then some true else (bif decide (a1 = a2) then some true else (catO a2 ([47] : List UInt8)).bind fun (s1 : List UInt8) => (HasPrefix_t n a1 s1).bind fun (r2 : Bool) => some r2))
def mWithin_fc (n : Nat) : FC := { f := 43, args := [.one (.c (.d .str)), .one (.c (.d .str))], res := .one (.c (.d .bool)), F := fun p => mWithin_t n p.1 p.2 }
def mWithin_ct (n : Nat) : List FC := [HasPrefix_fc n]
theorem mWithin_ctok (n : Nat) {G : World → Prop} (hG : Know Inv G) : ∀ c ∈ mWithin_ct n, FCok Tryz.prog G c ∧ noTup c.args = true := List.forall_mem_cons.2 ⟨HasPrefix_ok n G hG, (fun _ h => by cases h)⟩
def mWithin_dh : Hints := []
theorem mWithin_dr : drB mWithin_dh (bodyOf Tryz.f43) = true := by kernel_rfl
theorem mWithin_eq (n : Nat) : ∀ a, (mWithin_fc n).F a = main Tryz.prog 18 (mWithin_ct n) (mWithin_lts n) mWithin_dh (bodyOf Tryz.f43) [.tmp 4] (mWithin_fc n).args (mWithin_fc n).res a := by intro a; kernel_rfl
theorem mWithin_ok (n : Nat) : FCall Inv Tryz.prog (mWithin_fc n) := fun G hG => ⟨⟨by kernel_rfl, fun a r h => main_ok (c := bodyOf Tryz.f43) Tryz.func43 (by kernel_rfl) (by kernel_rfl) (Nat.le_of_ble_eq_true (by kernel_rfl)) hG.st (by kernel_rfl) (rs := [.tmp 4]) (by kernel_rfl) (mWithin_ctok n hG) (lts := mWithin_lts n) (fun F hF hFG => have hK : Know Inv F.G := hFG ▸ hG; (lok_of fun j L h1 h2 h3 => absurd h2 (Nat.not_lt.2 (Nat.le_trans (by decide +kernel) h1)))) mWithin_dr ((mWithin_eq n a).symm.trans h)⟩, rfl⟩
/-! armada/tree.inDir -/
def tInDir_lts (n : Nat) : List LC := []
def tInDir_t (n : Nat) (a1 : List UInt8) (a2 : List UInt8) : Option (List UInt8) :=
  (bif decide (a2 = ([] : List UInt8)) then some a1 else (catO a2 ([47] : List UInt8)).bind fun (s1 : List UInt8) => (TrimPrefix_t n a1 s1).bind fun (r2 : List UInt8) => some r2)
def tInDir_fc (n : Nat) : FC := { f := 23, args := [.one (.c (.d .str)), .one (.c (.d .str))], res := .one (.c (.d .str)), F := fun p => tInDir_t n p.1 p.2 }
def tInDir_ct (n : Nat) : List FC := [TrimPrefix_fc n]
theorem tInDir_ctok (n : Nat) {G : World → Prop} (hG : Know Inv G) : ∀ c ∈ tInDir_ct n, FCok Tryz.prog G c ∧ noTup c.args = true := List.forall_mem_cons.2 ⟨TrimPrefix_ok n G hG, (fun _ h => by cases h)⟩
def tInDir_dh : Hints := []
theorem tInDir_dr : drB tInDir_dh (bodyOf Tryz.f23) = true := by kernel_rfl
theorem tInDir_eq (n : Nat) : ∀ a, (tInDir_fc n).F a = main Tryz.prog 12 (tInDir_ct n) (tInDir_lts n) tInDir_dh (bodyOf Tryz.f23) [.tmp 4] (tInDir_fc n).args (tInDir_fc n).res a := by intro a; kernel_rfl
theorem tInDir_ok (n : Nat) : FCall Inv Tryz.prog (tInDir_fc n) := fun G hG => ⟨⟨by kernel_rfl, fun a r h => main_ok (c := bodyOf Tryz.f23) Tryz.func23 (by kernel_rfl) (by kernel_rfl) (Nat.le_of_ble_eq_true (by kernel_rfl)) hG.st (by kernel_rfl) (rs := [.tmp 4]) (by kernel_rfl) (tInDir_ctok n hG) (lts := tInDir_lts n) (fun F hF hFG => have hK : Know Inv F.G := hFG ▸ hG; (lok_of fun j L h1 h2 h3 => absurd h2 (Nat.not_lt.2 (Nat.le_trans (by decide +kernel) h1)))) tInDir_dr ((tInDir_eq n a).symm.trans h)⟩, rfl⟩
/-! armada/tree.owner -/
@[reducible] def towner_sh0 : SSt := ⟨[(1, .one (.c (.d .str))), (6, .one (.c (.d .str))), (7, .one (.c (.d .bool))), (16, .one (.c (.d (.lst .str)))), (17, .one (.c (.d (.int .i64)))), (18, .one (.c (.d (.int .i64))))], [], []⟩
@[reducible] def towner_outs0 : List (Exit × SSt) := [(.exit 0, ⟨[(6, .one (.c (.d .str))), (7, .one (.c (.d .bool)))], [], []⟩)]
def towner_l0 (n : Nat) (rec : (List UInt8) → (List UInt8) → Bool → (List (List UInt8)) → Int → Int → Option (((List UInt8) × (Bool × (Unit))) × (Unit) × (Unit))) (a1 : List UInt8) (a2 : List UInt8) (a3 : Bool) (a4 : List (List UInt8)) (a5 : Int) (a6 : Int) : Option (((List UInt8) × (Bool × (Unit))) × (Unit) × (Unit)) :=
  (bif decide (a6 < a5) then (idxL a4 a6).bind fun (x1 : List UInt8) => (mWithin_t n a1 x1).bind fun (r2 : Bool) => (bif r2 then (bif !a3 then letO (IntKind.wrap .i64 (a6 + (1 : Int))) fun (n3 : Int) => rec a1 x1 true a4 a5 n3 else (bif decide (((List.length a2 : Nat) : Int) < ((List.length x1 : Nat) : Int)) then letO (IntKind.wrap .i64 (a6 + (1 : Int))) fun (n4 : Int) => rec a1 x1 true a4 a5 n4 else letO (IntKind.wrap .i64 (a6 + (1 : Int))) fun (n5 : Int) => rec a1 a2 a3 a4 a5 n5)) else letO (IntKind.wrap .i64 (a6 + (1 : Int))) fun (n6 : Int) => rec a1 a2 a3 a4 a5 n6) else some (((a2, (a3, ())), ((), ()))))
def towner_F0 (n : Nat) (rec : pSt towner_sh0 → Option (pOuts towner_outs0)) (p : pSt towner_sh0) : Option (pOuts towner_outs0) := towner_l0 n (fun a1 a2 a3 a4 a5 a6 => rec ((a1, (a2, (a3, (a4, (a5, (a6, ())))))), ((), ()))) p.1.1 p.1.2.1 p.1.2.2.1 p.1.2.2.2.1 p.1.2.2.2.2.1 p.1.2.2.2.2.2.1
def towner_loop0 (n m : Nat) (a1 : List UInt8) (a2 : List UInt8) (a3 : Bool) (a4 : List (List UInt8)) (a5 : Int) (a6 : Int) : Option (((List UInt8) × (Bool × (Unit))) × (Unit) × (Unit)) := iterF (towner_F0 n) m ((a1, (a2, (a3, (a4, (a5, (a6, ())))))), ((), ()))
theorem towner_loop0_succ (n m : Nat) (a1 : List UInt8) (a2 : List UInt8) (a3 : Bool) (a4 : List (List UInt8)) (a5 : Int) (a6 : Int) : towner_loop0 n (m + 1) a1 a2 a3 a4 a5 a6 = towner_l0 n (fun a1 a2 a3 a4 a5 a6 => towner_loop0 n m a1 a2 a3 a4 a5 a6) a1 a2 a3 a4 a5 a6 := rfl
def towner_L0 (n : Nat) : LC := { sh := towner_sh0, outs := towner_outs0, F := iterF (towner_F0 n) n }
def towner_lts (n : Nat) : List LC := [towner_L0 n]
def towner_t (n : Nat) (a1 : List (List UInt8)) (a2 : List UInt8) : Option ((List UInt8) × (Bool)) :=
  (bif decide (a2 = ([108, 101, 100, 103, 101, 114, 46, 116, 120, 116] : List UInt8)) then some (([] : List UInt8), false) else (bif decide (a2 = ([46, 105, 110, 116, 101, 110, 116] : List UInt8)) then some (([] : List UInt8), false) else (towner_loop0 n n a2 ([] : List UInt8) false a1 ((List.length a1 : Nat) : Int) (0 : Int)).bind fun (o7 : ((List UInt8) × (Bool × (Unit))) × (Unit) × (Unit)) => some (o7.1.1, o7.1.2.1)))
def towner_fc (n : Nat) : FC := { f := 25, args := [.one (.c (.d (.lst .str))), .one (.c (.d .str))], res := .tup [.c (.d .str), .c (.d .bool)], F := fun p => towner_t n p.1 p.2 }
def towner_ct (n : Nat) : List FC := [mWithin_fc n]
theorem towner_ctok (n : Nat) {G : World → Prop} (hG : Know Inv G) : ∀ c ∈ towner_ct n, FCok Tryz.prog G c ∧ noTup c.args = true := List.forall_mem_cons.2 ⟨mWithin_ok n G hG, (fun _ h => by cases h)⟩
def towner_dh : Hints := []
theorem towner_dr : drB towner_dh (bodyOf Tryz.f25) = true := by kernel_rfl
theorem towner_eq0 (n : Nat) : ∀ rec p, towner_F0 n rec p = round Tryz.prog 40 (towner_ct n) (towner_lts n) towner_dh 1 towner_sh0 towner_outs0 (bodyAt 0 0 (bodyOf Tryz.f25)) rec p := by intro rec p; kernel_rfl
theorem towner_lok0 (n : Nat) {F : Fr} (hF : F.n = 40) (hK : Know Inv F.G) : LCok Tryz.prog F (towner_L0 n) (bodyAt 0 0 (bodyOf Tryz.f25)) :=
  loop_ok hF (by kernel_rfl) (towner_ctok n hK) (towner_eq0 n) (fuel := n) (fun _ => rfl) (lok_of fun j L h1 h2 h3 => absurd h2 (Nat.not_lt.2 (Nat.le_trans (by decide +kernel) h1))) (drB_at towner_dr)
theorem towner_eq (n : Nat) : ∀ a, (towner_fc n).F a = main Tryz.prog 40 (towner_ct n) (towner_lts n) towner_dh (bodyOf Tryz.f25) [.tmp 4, .tmp 5] (towner_fc n).args (towner_fc n).res a := by intro a; kernel_rfl
theorem towner_ok (n : Nat) : FCall Inv Tryz.prog (towner_fc n) := fun G hG => ⟨⟨by kernel_rfl, fun a r h => main_ok (c := bodyOf Tryz.f25) Tryz.func25 (by kernel_rfl) (by kernel_rfl) (Nat.le_of_ble_eq_true (by kernel_rfl)) hG.st (by kernel_rfl) (rs := [.tmp 4, .tmp 5]) (by kernel_rfl) (towner_ctok n hG) (lts := towner_lts n) (fun F hF hFG => have hK : Know Inv F.G := hFG ▸ hG; (lok_of (c := (bodyOf Tryz.f25)) (fun j L h1 h2 h3 => by
    have h2' : j < 1 := Nat.lt_of_lt_of_le h2 (by decide +kernel)
    match j, h1, h2', h3 with
    | 0, _, _, h3 => obtain rfl := Option.some.inj h3; exact (show bodyAt 0 0 (bodyOf Tryz.f25) = bodyAt 0 0 (bodyOf Tryz.f25) by kernel_rfl) ▸ towner_lok0 n hF hK
    | j + 1, _, h2', _ => exact absurd h2' (by omega)))) towner_dr ((towner_eq n a).symm.trans h)⟩, rfl⟩
/-! slices.Index[[]string,string] -/
@[reducible] def slIndex_sh0 : SSt := ⟨[(0, .one (.c (.d (.lst .str)))), (1, .one (.c (.d .str))), (7, .one (.c (.d (.int .i64)))), (8, .one (.c (.d (.int .i64))))], [], []⟩
@[reducible] def slIndex_outs0 : List (Exit × SSt) := [(.ret, ⟨[(4, .one (.c (.d (.int .i64))))], [], []⟩), (.exit 0, ⟨[], [], []⟩)]
def slIndex_l0 (n : Nat) (rec : (List (List UInt8)) → (List UInt8) → Int → Int → Option (((Int × (Unit)) × (Unit) × (Unit)) ⊕ ((Unit) × (Unit) × (Unit)))) (a1 : List (List UInt8)) (a2 : List UInt8) (a3 : Int) (a4 : Int) : Option (((Int × (Unit)) × (Unit) × (Unit)) ⊕ ((Unit) × (Unit) × (Unit))) :=
  (bif decide (a4 < a3) then (idxL a1 a4).bind fun (x1 : List UInt8) => (bif decide (a2 = x1) then some (Sum.inl ((a4, ()), ((), ()))) else letO (IntKind.wrap .i64 (a4 + (1 : Int))) fun (n2 : Int) => rec a1 a2 a3 n2) else some (Sum.inr (((), ((), ())))))
def slIndex_F0 (n : Nat) (rec : pSt slIndex_sh0 → Option (pOuts slIndex_outs0)) (p : pSt slIndex_sh0) : Option (pOuts slIndex_outs0) := slIndex_l0 n (fun a1 a2 a3 a4 => rec ((a1, (a2, (a3, (a4, ())))), ((), ()))) p.1.1 p.1.2.1 p.1.2.2.1 p.1.2.2.2.1
def slIndex_loop0 (n m : Nat) (a1 : List (List UInt8)) (a2 : List UInt8) (a3 : Int) (a4 : Int) : Option (((Int × (Unit)) × (Unit) × (Unit)) ⊕ ((Unit) × (Unit) × (Unit))) := iterF (slIndex_F0 n) m ((a1, (a2, (a3, (a4, ())))), ((), ()))
theorem slIndex_loop0_succ (n m : Nat) (a1 : List (List UInt8)) (a2 : List UInt8) (a3 : Int) (a4 : Int) : slIndex_loop0 n (m + 1) a1 a2 a3 a4 = slIndex_l0 n (fun a1 a2 a3 a4 => slIndex_loop0 n m a1 a2 a3 a4) a1 a2 a3 a4 := rfl
def slIndex_L0 (n : Nat) : LC := { sh := slIndex_sh0, outs := slIndex_outs0, F := iterF (slIndex_F0 n) n }
def slIndex_lts (n : Nat) : List LC := [slIndex_L0 n]
def slIndex_t (n : Nat) (a1 : List (List UInt8)) (a2 : List UInt8) : Option (Int) :=
  (slIndex_loop0 n n a1 a2 ((List.length a1 : Nat) : Int) (0 : Int)).bind fun (o3 : ((Int × (Unit)) × (Unit) × (Unit)) ⊕ ((Unit) × (Unit) × (Unit))) => Sum.elim (fun (q4 : (Int × (Unit)) × (Unit) × (Unit)) => some q4.1.1) (fun (q5 : (Unit) × (Unit) × (Unit)) => some (-1 : Int)) o3
def slIndex_fc (n : Nat) : FC := { f := 44, args := [.one (.c (.d (.lst .str))), .one (.c (.d .str))], res := .one (.c (.d (.int .i64))), F := fun p => slIndex_t n p.1 p.2 }
def slIndex_ct (n : Nat) : List FC := []
theorem slIndex_ctok (n : Nat) {G : World → Prop} (hG : Know Inv G) : ∀ c ∈ slIndex_ct n, FCok Tryz.prog G c ∧ noTup c.args = true := (fun _ h => by cases h)
def slIndex_dh : Hints := []
theorem slIndex_dr : drB slIndex_dh (bodyOf Tryz.f44) = true := by kernel_rfl
theorem slIndex_eq0 (n : Nat) : ∀ rec p, slIndex_F0 n rec p = round Tryz.prog 19 (slIndex_ct n) (slIndex_lts n) slIndex_dh 1 slIndex_sh0 slIndex_outs0 (bodyAt 0 0 (bodyOf Tryz.f44)) rec p := by intro rec p; kernel_rfl
theorem slIndex_lok0 (n : Nat) {F : Fr} (hF : F.n = 19) (hK : Know Inv F.G) : LCok Tryz.prog F (slIndex_L0 n) (bodyAt 0 0 (bodyOf Tryz.f44)) :=
  loop_ok hF (by kernel_rfl) (slIndex_ctok n hK) (slIndex_eq0 n) (fuel := n) (fun _ => rfl) (lok_of fun j L h1 h2 h3 => absurd h2 (Nat.not_lt.2 (Nat.le_trans (by decide +kernel) h1))) (drB_at slIndex_dr)
theorem slIndex_eq (n : Nat) : ∀ a, (slIndex_fc n).F a = main Tryz.prog 19 (slIndex_ct n) (slIndex_lts n) slIndex_dh (bodyOf Tryz.f44) [.tmp 4] (slIndex_fc n).args (slIndex_fc n).res a := by intro a; kernel_rfl
theorem slIndex_ok (n : Nat) : FCall Inv Tryz.prog (slIndex_fc n) := fun G hG => ⟨⟨by kernel_rfl, fun a r h => main_ok (c := bodyOf Tryz.f44) Tryz.func44 (by kernel_rfl) (by kernel_rfl) (Nat.le_of_ble_eq_true (by kernel_rfl)) hG.st (by kernel_rfl) (rs := [.tmp 4]) (by kernel_rfl) (slIndex_ctok n hG) (lts := slIndex_lts n) (fun F hF hFG => have hK : Know Inv F.G := hFG ▸ hG; (lok_of (c := (bodyOf Tryz.f44)) (fun j L h1 h2 h3 => by
    have h2' : j < 1 := Nat.lt_of_lt_of_le h2 (by decide +kernel)
    match j, h1, h2', h3 with
    | 0, _, _, h3 => obtain rfl := Option.some.inj h3; exact (show bodyAt 0 0 (bodyOf Tryz.f44) = bodyAt 0 0 (bodyOf Tryz.f44) by kernel_rfl) ▸ slIndex_lok0 n hF hK
    | j + 1, _, h2', _ => exact absurd h2' (by omega)))) slIndex_dr ((slIndex_eq n a).symm.trans h)⟩, rfl⟩
/-! slices.Contains[[]string,string] -/
def slContains_lts (n : Nat) : List LC := []
def slContains_t (n : Nat) (a1 : List (List UInt8)) (a2 : List UInt8) : Option (Bool) :=
  (slIndex_t n a1 a2).bind fun (r1 : Int) => some (decide ((0 : Int) ≤ r1))
def slContains_fc (n : Nat) : FC := { f := 28, args := [.one (.c (.d (.lst .str))), .one (.c (.d .str))], res := .one (.c (.d .bool)), F := fun p => slContains_t n p.1 p.2 }
def slContains_ct (n : Nat) : List FC := [slIndex_fc n]
theorem slContains_ctok (n : Nat) {G : World → Prop} (hG : Know Inv G) : ∀ c ∈ slContains_ct n, FCok Tryz.prog G c ∧ noTup c.args = true := List.forall_mem_cons.2 ⟨slIndex_ok n G hG, (fun _ h => by cases h)⟩
def slContains_dh : Hints := []
theorem slContains_dr : drB slContains_dh (bodyOf Tryz.f28) = true := by kernel_rfl
theorem slContains_eq (n : Nat) : ∀ a, (slContains_fc n).F a = main Tryz.prog 9 (slContains_ct n) (slContains_lts n) slContains_dh (bodyOf Tryz.f28) [.tmp 4] (slContains_fc n).args (slContains_fc n).res a := by intro a; kernel_rfl
theorem slContains_ok (n : Nat) : FCall Inv Tryz.prog (slContains_fc n) := fun G hG => ⟨⟨by kernel_rfl, fun a r h => main_ok (c := bodyOf Tryz.f28) Tryz.func28 (by kernel_rfl) (by kernel_rfl) (Nat.le_of_ble_eq_true (by kernel_rfl)) hG.st (by kernel_rfl) (rs := [.tmp 4]) (by kernel_rfl) (slContains_ctok n hG) (lts := slContains_lts n) (fun F hF hFG => have hK : Know Inv F.G := hFG ▸ hG; (lok_of fun j L h1 h2 h3 => absurd h2 (Nat.not_lt.2 (Nat.le_trans (by decide +kernel) h1)))) slContains_dr ((slContains_eq n a).symm.trans h)⟩, rfl⟩
end Go.Proofs.YtngbpbncipjimabGreatDoor.AM

/- Layer 5: the document's paths (as in layers 7 and 8; there is one text for each of the two, for what is generated bears the same names). -/
namespace Go.Proofs.YtngbpbncipjimabGreatDoor.AM
open Go.RowKit
set_option linter.unusedVariables false
set_option linter.unusedSimpArgs false
theorem rSplit5_loop (n : Nat) (s : List UInt8) (c : UInt8) (hs : s.length ≤ 1000000) : ∀ (m i fr : Nat) (out : List (List UInt8)), i ≤ s.length → s.length - i + 1 < m → fr ≤ i → out.length ≤ i →
    rSplit5_loop0 n m s ((c.toNat : Nat) : Int) (fr : Int) (i : Int) out = some (((), ()), ((), (out ++ spl c ((s.drop fr).take (i - fr)) (s.drop i), ())))
  | 0, i, fr, _, _, h, _, _ => absurd h (Nat.not_lt_zero _)
  | m + 1, i, fr, out, hi, h, hf, ho => by
    rw [rSplit5_loop0_succ]
    unfold rSplit5_l0
    have c0 : ((i : Nat) : Int) ≤ ((s.length : Nat) : Int) := by omega
    have w1 := wrap_succ (show i < 4611686018427387904 by omega)
    have s1 : subO s ((fr : Nat) : Int) ((i : Nat) : Int) = some ((s.drop fr).take (i - fr)) := sub_le hf hi
    have a1 : appO 16 out [(s.drop fr).take (i - fr)] = some (out ++ [(s.drop fr).take (i - fr)]) := app_le (by simp; omega)
    by_cases c1 : i = s.length
    · have c1' : ((i : Nat) : Int) = ((s.length : Nat) : Int) := by omega
      have hd : s.drop i = [] := List.drop_eq_nil_of_le (by omega)
      simp only [c0, c1', decide_true, cond_true]
      rw [← c1', s1, Option.bind_some, a1, Option.bind_some, hd]
      simp only [letO, w1]
      cases m with
      | zero => omega
      | succ m =>
        rw [rSplit5_loop0_succ]
        unfold rSplit5_l0
        have c2 : ¬ ((i + 1 : Nat) : Int) ≤ ((s.length : Nat) : Int) := by omega
        simp only [c2, Int.le_refl, decide_true, decide_false, cond_true, cond_false]
        rfl
    · have c1' : ¬ ((i : Nat) : Int) = ((s.length : Nat) : Int) := by omega
      have hi' : i < s.length := by omega
      have hd : s.drop i = s[i] :: s.drop (i + 1) := List.drop_eq_getElem_cons hi'
      simp only [c0, c1', decide_true, decide_false, cond_true, cond_false, sAt_lt hi', Option.bind_some, letO, w1, s1, a1]
      have hc : decide (((s[i].toNat : Nat) : Int) = ((c.toNat : Nat) : Int)) = decide (s[i] = c) := by
        apply decide_eq_decide.2
        constructor
        · intro hh; exact UInt8.toNat_inj.1 (by omega)
        · intro hh; rw [hh]
      rw [hc, hd, spl]
      by_cases c2 : s[i] = c
      · simp only [c2, decide_true, cond_true, if_true]
        rw [rSplit5_loop n s c hs m (i + 1) (i + 1) (out ++ [(s.drop fr).take (i - fr)]) (by omega) (by omega) (Nat.le_refl _) (by simp; omega)]
        simp
      · simp only [c2, decide_false, cond_false, if_false]
        rw [rSplit5_loop n s c hs m (i + 1) fr out (by omega) (by omega) (by omega) (by omega)]
        have e1 : (s.drop fr).take (i + 1 - fr) = (s.drop fr).take (i - fr) ++ [s[i]] := by
          rw [show i + 1 - fr = (i - fr) + 1 from by omega, List.take_add_one, List.getElem?_drop, show fr + (i - fr) = i from by omega, List.getElem?_eq_getElem hi']
          rfl
        rw [e1]
theorem rSplit5_P (n : Nat) (s : List UInt8) (c : UInt8) (hs : s.length ≤ 1000000) (hn : s.length + 1 < n) : rSplit5_t n s ((c.toNat : Nat) : Int) = some (spl c [] s) := by
  unfold rSplit5_t
  have h := rSplit5_loop n s c hs n 0 0 [] (Nat.zero_le _) (by omega) (Nat.le_refl _) (Nat.zero_le _)
  rw [show ((0 : Nat) : Int) = (0 : Int) from rfl] at h
  rw [h]
  simp
theorem sg_bools (c : UInt8) : isSg c = ((decide ((97 : Int) ≤ ((c.toNat : Nat) : Int)) && decide (((c.toNat : Nat) : Int) ≤ (122 : Int))) || (decide ((65 : Int) ≤ ((c.toNat : Nat) : Int)) && decide (((c.toNat : Nat) : Int) ≤ (90 : Int))) || (decide ((48 : Int) ≤ ((c.toNat : Nat) : Int)) && decide (((c.toNat : Nat) : Int) ≤ (57 : Int))) || decide (((c.toNat : Nat) : Int) = (45 : Int))) := by
  unfold isSg isDig
  have h1 : decide ((97 : Int) ≤ ((c.toNat : Nat) : Int)) = decide (97 ≤ c.toNat) := decide_eq_decide.2 (by omega)
  have h2 : decide (((c.toNat : Nat) : Int) ≤ (122 : Int)) = decide (c.toNat ≤ 122) := decide_eq_decide.2 (by omega)
  have h3 : decide ((65 : Int) ≤ ((c.toNat : Nat) : Int)) = decide (65 ≤ c.toNat) := decide_eq_decide.2 (by omega)
  have h4 : decide (((c.toNat : Nat) : Int) ≤ (90 : Int)) = decide (c.toNat ≤ 90) := decide_eq_decide.2 (by omega)
  have h5 : decide (((c.toNat : Nat) : Int) = (45 : Int)) = decide (c.toNat = 45) := decide_eq_decide.2 (by omega)
  have h6 : decide ((48 : Int) ≤ ((c.toNat : Nat) : Int)) = decide (48 ≤ c.toNat) := decide_eq_decide.2 (by omega)
  have h7 : decide (((c.toNat : Nat) : Int) ≤ (57 : Int)) = decide (c.toNat ≤ 57) := decide_eq_decide.2 (by omega)
  rw [h1, h2, h3, h4, h5, h6, h7]
theorem pSign_bools (c : UInt8) : pSign c = ((decide ((97 : Int) ≤ ((c.toNat : Nat) : Int)) && decide (((c.toNat : Nat) : Int) ≤ (122 : Int))) || (decide ((65 : Int) ≤ ((c.toNat : Nat) : Int)) && decide (((c.toNat : Nat) : Int) ≤ (90 : Int))) || (decide ((48 : Int) ≤ ((c.toNat : Nat) : Int)) && decide (((c.toNat : Nat) : Int) ≤ (57 : Int))) || decide (((c.toNat : Nat) : Int) = (45 : Int)) || decide (((c.toNat : Nat) : Int) = (95 : Int)) || decide (((c.toNat : Nat) : Int) = (46 : Int))) := by
  unfold pSign
  have h6 : decide (((c.toNat : Nat) : Int) = (95 : Int)) = decide (c.toNat = 95) := decide_eq_decide.2 (by omega)
  have h7 : decide (((c.toNat : Nat) : Int) = (46 : Int)) = decide (c.toNat = 46) := decide_eq_decide.2 (by omega)
  rw [h6, h7, ← sg_bools]
theorem rPart5_loop (n : Nat) (s : List UInt8) (hL : s.length ≤ 1000000) : ∀ m j : Nat, j ≤ s.length → s.length - j < m → rPart5_loop0 n m s (j : Int) = some (if (s.drop j).all pSign = true then Sum.inr ((s, ()), ((), ())) else Sum.inl ((false, ()), ((), ())))
  | 0, j, _, h => absurd h (Nat.not_lt_zero _)
  | m + 1, j, hj, h => by
    rw [rPart5_loop0_succ]
    unfold rPart5_l0
    by_cases c0 : j < s.length
    · have c0' : ((j : Nat) : Int) < ((s.length : Nat) : Int) := by omega
      have ih := rPart5_loop n s hL m (j + 1) (by omega) (by omega)
      have hd : s.drop j = s[j] :: s.drop (j + 1) := (List.drop_eq_getElem_cons c0)
      simp only [c0', decide_true, cond_true, sAt_lt c0, Option.bind_some, letO, wrap_succ (show j < 4611686018427387904 by omega), ih, hd, List.all_cons]
      rw [pSign_bools]
      generalize (List.drop (j + 1) s).all pSign = B
      generalize decide ((97 : Int) ≤ ((s[j].toNat : Nat) : Int)) = b1
      generalize decide (((s[j].toNat : Nat) : Int) ≤ (122 : Int)) = b2
      generalize decide ((65 : Int) ≤ ((s[j].toNat : Nat) : Int)) = b3
      generalize decide (((s[j].toNat : Nat) : Int) ≤ (90 : Int)) = b4
      generalize decide ((48 : Int) ≤ ((s[j].toNat : Nat) : Int)) = b5
      generalize decide (((s[j].toNat : Nat) : Int) ≤ (57 : Int)) = b6
      generalize decide (((s[j].toNat : Nat) : Int) = (45 : Int)) = b7
      generalize decide (((s[j].toNat : Nat) : Int) = (95 : Int)) = b8
      generalize decide (((s[j].toNat : Nat) : Int) = (46 : Int)) = b9
      cases b1 <;> cases b2 <;> cases b3 <;> cases b4 <;> cases b5 <;> cases b6 <;> cases b7 <;> cases b8 <;> cases b9 <;> rfl
    · have c0' : ¬ ((j : Nat) : Int) < ((s.length : Nat) : Int) := by omega
      have : s.drop j = [] := List.drop_eq_nil_of_le (by omega)
      simp [c0', this]
theorem rPart5_spec (n : Nat) (s : List UInt8) (hL : s.length ≤ 1000000) (hn : s.length < n) : rPart5_t n s = some (partS s) := by
  unfold rPart5_t partS
  have := rPart5_loop n s hL n 0 (Nat.zero_le _) (by omega)
  rw [show ((0 : Nat) : Int) = (0 : Int) from rfl] at this
  rw [this, List.drop_zero]
  cases s.all pSign with
  | true =>
    simp only [if_true, Option.bind_some, Sum.elim_inr]
    cases decide (s = []) <;> cases decide (s = [46]) <;> cases decide (s = [46, 46]) <;> rfl
  | false =>
    simp only [Bool.false_eq_true, if_false, Option.bind_some, Sum.elim_inl]
    cases decide (s = []) <;> cases decide (s = [46]) <;> cases decide (s = [46, 46]) <;> rfl
theorem rPath5_loop (n : Nat) (l : List (List UInt8)) (hl : l.length ≤ 1000000) (hw : ∀ w ∈ l, w.length ≤ 1000000 ∧ w.length < n) : ∀ m j : Nat, j ≤ l.length → l.length - j < m → rPath5_loop0 n m l (j : Int) = some (if (l.drop j).all partS = true then Sum.inr ((), ((), ())) else Sum.inl ((false, ()), ((), ())))
  | 0, j, _, h => absurd h (Nat.not_lt_zero _)
  | m + 1, j, hj, h => by
    rw [rPath5_loop0_succ]
    unfold rPath5_l0
    by_cases c0 : j < l.length
    · have c0' : ((j : Nat) : Int) < ((l.length : Nat) : Int) := by omega
      have ih := rPath5_loop n l hl hw m (j + 1) (by omega) (by omega)
      have hd : l.drop j = l[j] :: l.drop (j + 1) := (List.drop_eq_getElem_cons c0)
      have hm := hw l[j] (List.getElem_mem c0)
      simp only [c0', decide_true, cond_true, idx_lt c0, Option.bind_some, rPart5_spec n l[j] hm.1 hm.2, letO, wrap_succ (show j < 4611686018427387904 by omega), ih, hd, List.all_cons]
      cases partS l[j] <;> simp
    · have c0' : ¬ ((j : Nat) : Int) < ((l.length : Nat) : Int) := by omega
      have : l.drop j = [] := List.drop_eq_nil_of_le (by omega)
      simp [c0', this]
theorem rPath5_spec (n : Nat) (s : List UInt8) (hL : s.length ≤ 1000000) (hn : 100 ≤ n) : rPath5_t n s = some (pathS s) := by
  unfold rPath5_t pathS
  by_cases h : s.length ≤ 60
  · have h' : ¬ (60 : Int) < ((s.length : Nat) : Int) := by omega
    have hlen := spl_len 47 s []
    have hw : ∀ w ∈ spl 47 [] s, w.length ≤ s.length := fun w hm => by have := spl_mem 47 s [] w hm; simpa using this
    have := rPath5_loop n (spl 47 [] s) (by omega) (fun w hm => ⟨by have := hw w hm; omega, by have := hw w hm; omega⟩) n 0 (Nat.zero_le _) (by omega)
    rw [show ((0 : Nat) : Int) = (0 : Int) from rfl] at this
    simp only [h', decide_false, cond_false]
    rw [show (47 : Int) = (((47 : UInt8).toNat : Nat) : Int) from rfl, rSplit5_P n s 47 hL (by omega)]
    simp only [Option.bind_some]
    rw [this, List.drop_zero]
    cases (spl 47 [] s).all partS <;> simp [h]
  · have h' : (60 : Int) < ((s.length : Nat) : Int) := by omega
    simp [h, h']
end Go.Proofs.YtngbpbncipjimabGreatDoor.AM

/- Layer 5: files and ops as lists: mathematics, no program. -/
namespace Go.Proofs.YtngbpbncipjimabGreatDoor.AM
open Go.RowKit
set_option linter.unusedVariables false
set_option linter.unusedSimpArgs false
abbrev FD := List UInt8 × List UInt8
abbrev OD := Bool × (List UInt8 × List UInt8)
def okF (f : FD) : Bool := pathS f.1 && decide (f.2.length ≤ 4096)
def riseS : List FD → Bool
  | x :: y :: t => ltS x.1 y.1 && riseS (y :: t)
  | _ => true
def mayS (l : List FD) : Bool := decide (l.length ≤ 40) && (l.all okF && riseS l)
def getS : List FD → List UInt8 → List UInt8 × Bool
  | [], _ => ([], false)
  | f :: t, p => if f.1 = p then (f.2, true) else getS t p
theorem getS_none : ∀ {l : List FD} {p : List UInt8}, (getS l p).2 = false → getS l p = ([], false)
  | [], p, _ => rfl
  | f :: t, p, h => by
    rw [getS] at h ⊢
    split at h
    · cases h
    · rename_i hc; rw [if_neg hc]; exact getS_none h
def chkS (o : OD) : Int := if pathS o.2.1 then (if o.1 && !decide (o.2.2 = []) then 1 else if 4096 < o.2.2.length then 2 else 0) else 6
def b8 (x : Int) : UInt8 := UInt8.ofNat (IntKind.wrap .u8 x).toNat
def layS (o : OD) : List UInt8 := (if o.1 then 1 else 0) :: b8 o.2.1.length :: (o.2.1 ++ (if o.1 then [] else b8 ((o.2.2.length / 256 : Nat) : Int) :: b8 ((o.2.2.length % 256 : Nat) : Int) :: o.2.2))
def encL : List OD → List UInt8 × Int
  | [] => ([], 0)
  | o :: t => if chkS o = 0 then (if (encL t).2 = 0 then (layS o ++ (encL t).1, 0) else ([], (encL t).2)) else ([], chkS o)
def encS (ops : List OD) : List UInt8 × Int := if (encL ops).2 = 0 then (if 4096 < (encL ops).1.length then ([], 2) else ((encL ops).1, 0)) else ([], (encL ops).2)
end Go.Proofs.YtngbpbncipjimabGreatDoor.AM

/- Layer 5: the op that stands first in some bytes: mathematics. -/
namespace Go.Proofs.YtngbpbncipjimabGreatDoor.AM
open Go.RowKit
set_option linter.unusedVariables false
set_option linter.unusedSimpArgs false
def oneS : List UInt8 → Option (OD × Nat)
  | k :: c :: r => if k = 0 ∨ k = 1 then (if r.length < c.toNat then none else if k = 1 then some ((true, (r.take c.toNat, [])), 2 + c.toNat) else
      match r.drop c.toNat with
      | x :: y :: t => if t.length < 256 * x.toNat + y.toNat then none else some ((false, (r.take c.toNat, t.take (256 * x.toNat + y.toNat))), 4 + c.toNat + (256 * x.toNat + y.toNat))
      | _ => none) else none
  | _ => none
def parseO : Nat → List UInt8 → Option (List OD)
  | 0, _ => none
  | m + 1, s => if s = [] then some [] else match oneS s with
    | some (o, k) => (parseO m (s.drop k)).map (o :: ·)
    | none => none
def decS (s : List UInt8) : List OD × Int := match parseO (s.length + 1) s with
  | some out => if (encS out).2 = 0 ∧ (encS out).1 = s then (out, 0) else ([], 1)
  | none => ([], 1)
end Go.Proofs.YtngbpbncipjimabGreatDoor.AM
