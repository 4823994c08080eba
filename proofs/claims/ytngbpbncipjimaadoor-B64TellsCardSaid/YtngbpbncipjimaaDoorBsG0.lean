/- Layer 13: a group: what functions come to, as plain functions of data: written by program (shal.py); the kernel checks it. -/
import Derived.Test.YtngbpbncipjimaaDoorBsC
namespace Go.Proofs.YtngbpbncipjimaaDoor.AM
open Go.RowKit
set_option linter.unusedVariables false
set_option maxRecDepth 20000
/-! armada/b64.sign -/
def fsign13_lts (n : Nat) : List LC := []
def fsign13_t (n : Nat) (a1 : Int) : Option (Int) :=
  (remO a1 (64 : Int)).bind fun (n1 : Int) => (sAt ([65, 66, 67, 68, 69, 70, 71, 72, 73, 74, 75, 76, 77, 78, 79, 80, 81, 82, 83, 84, 85, 86, 87, 88, 89, 90, 97, 98, 99, 100, 101, 102, 103, 104, 105, 106, 107, 108, 109, 110, 111, 112, 113, 114, 115, 116, 117, 118, 119, 120, 121, 122, 48, 49, 50, 51, 52, 53, 54, 55, 56, 57, 43, 47] : List UInt8) n1).bind fun (c2 : Int) => some c2
def fsign13_fc (n : Nat) : FC := { f := 25, args := [.one (.c (.d (.int .u32)))], res := .one (.c (.d (.int .u8))), F := fun p => fsign13_t n p }
def fsign13_ct (n : Nat) : List FC := []
theorem fsign13_ctok (n : Nat) {G : World → Prop} (hG : Know Inv G) : ∀ c ∈ fsign13_ct n, FCok Tryd.prog G c ∧ noTup c.args = true := (fun _ h => by cases h)
def fsign13_dh : Hints := []
theorem fsign13_dr : drB fsign13_dh (bodyOf Tryd.f25) = true := by kernel_rfl
theorem fsign13_eq (n : Nat) : ∀ a, (fsign13_fc n).F a = main Tryd.prog 6 (fsign13_ct n) (fsign13_lts n) fsign13_dh (bodyOf Tryd.f25) [.tmp 2] (fsign13_fc n).args (fsign13_fc n).res a := by intro a; kernel_rfl
theorem fsign13_ok (n : Nat) : FCall Inv Tryd.prog (fsign13_fc n) := fun G hG => ⟨⟨by kernel_rfl, fun a r h => main_ok (c := bodyOf Tryd.f25) Tryd.func25 (by kernel_rfl) (by kernel_rfl) (Nat.le_of_ble_eq_true (by kernel_rfl)) hG.st (by kernel_rfl) (rs := [.tmp 2]) (by kernel_rfl) (fsign13_ctok n hG) (lts := fsign13_lts n) (fun F hF hFG => have hK : Know Inv F.G := hFG ▸ hG; (lok_of fun j L h1 h2 h3 => absurd h2 (Nat.not_lt.2 (Nat.le_trans (by decide +kernel) h1)))) fsign13_dr ((fsign13_eq n a).symm.trans h)⟩, rfl⟩
/-! armada/b64.lay -/
@[reducible] def flay13_sh0 : SSt := ⟨[(0, .one (.c (.d .str))), (2, .one (.c (.box 2 0))), (3, .one (.c (.d (.int .u32)))), (6, .one (.c (.d (.int .i64))))], [(2, (44, [.d (.int .u8), .d (.int .u8), .d (.int .u8), .d (.int .u8)]))], []⟩
@[reducible] def flay13_outs0 : List (Exit × SSt) := [(.exit 0, ⟨[(0, .one (.c (.d .str))), (2, .one (.c (.box 2 0))), (3, .one (.c (.d (.int .u32))))], [(2, (44, [.d (.int .u8), .d (.int .u8), .d (.int .u8), .d (.int .u8)]))], []⟩)]
def flay13_l0 (n : Nat) (rec : (List UInt8) → Int → Int → Int → Int → Int → Int → Option (((List UInt8) × (Unit × (Int × (Unit)))) × ((Int × (Int × (Int × (Int)))) × (Unit)) × (Unit))) (a1 : List UInt8) (a2 : Int) (a3 : Int) (a4 : Int) (a5 : Int) (a6 : Int) (a7 : Int) : Option (((List UInt8) × (Unit × (Int × (Unit)))) × ((Int × (Int × (Int × (Int)))) × (Unit)) × (Unit)) :=
  (bif decide (a3 < (3 : Int)) then (shlO .u32 a2 (8 : Int)).bind fun (n1 : Int) => (bif decide (a3 < ((List.length a1 : Nat) : Int)) then (sAt a1 a3).bind fun (c2 : Int) => letO (IntKind.wrap .u32 c2) fun (n3 : Int) => letO (orI .u32 n1 n3) fun (n4 : Int) => letO (IntKind.wrap .i64 (a3 + (1 : Int))) fun (n5 : Int) => rec a1 n4 n5 a4 a5 a6 a7 else letO (IntKind.wrap .i64 (a3 + (1 : Int))) fun (n6 : Int) => rec a1 n1 n6 a4 a5 a6 a7) else some (((a1, ((), (a2, ()))), (((a4, (a5, (a6, a7))), ()), ()))))
def flay13_F0 (n : Nat) (rec : pSt flay13_sh0 → Option (pOuts flay13_outs0)) (p : pSt flay13_sh0) : Option (pOuts flay13_outs0) := flay13_l0 n (fun a1 a2 a3 a4 a5 a6 a7 => rec ((a1, ((), (a2, (a3, ())))), (((a4, (a5, (a6, a7))), ()), ()))) p.1.1 p.1.2.2.1 p.1.2.2.2.1 p.2.1.1.1 p.2.1.1.2.1 p.2.1.1.2.2.1 p.2.1.1.2.2.2
def flay13_loop0 (n m : Nat) (a1 : List UInt8) (a2 : Int) (a3 : Int) (a4 : Int) (a5 : Int) (a6 : Int) (a7 : Int) : Option (((List UInt8) × (Unit × (Int × (Unit)))) × ((Int × (Int × (Int × (Int)))) × (Unit)) × (Unit)) := iterF (flay13_F0 n) m ((a1, ((), (a2, (a3, ())))), (((a4, (a5, (a6, a7))), ()), ()))
theorem flay13_loop0_succ (n m : Nat) (a1 : List UInt8) (a2 : Int) (a3 : Int) (a4 : Int) (a5 : Int) (a6 : Int) (a7 : Int) : flay13_loop0 n (m + 1) a1 a2 a3 a4 a5 a6 a7 = flay13_l0 n (fun a1 a2 a3 a4 a5 a6 a7 => flay13_loop0 n m a1 a2 a3 a4 a5 a6 a7) a1 a2 a3 a4 a5 a6 a7 := rfl
def flay13_L0 (n : Nat) : LC := { sh := flay13_sh0, outs := flay13_outs0, F := iterF (flay13_F0 n) n }
def flay13_lts (n : Nat) : List LC := [flay13_L0 n]
def flay13_t (n : Nat) (a1 : List UInt8) : Option (Int × (Int × (Int × (Int)))) :=
  (flay13_loop0 n n a1 (0 : Int) (0 : Int) (0 : Int) (0 : Int) (0 : Int) (0 : Int)).bind fun (o7 : ((List UInt8) × (Unit × (Int × (Unit)))) × ((Int × (Int × (Int × (Int)))) × (Unit)) × (Unit)) => (sAt ([61] : List UInt8) (0 : Int)).bind fun (c8 : Int) => (sAt ([61] : List UInt8) (0 : Int)).bind fun (c9 : Int) => (sAt ([61] : List UInt8) (0 : Int)).bind fun (c10 : Int) => (sAt ([61] : List UInt8) (0 : Int)).bind fun (c11 : Int) => (bif decide (((List.length o7.1.1 : Nat) : Int) = (3 : Int)) then (fsign13_t n o7.1.2.2.1).bind fun (r12 : Int) => (shrO .u32 o7.1.2.2.1 (6 : Int)).bind fun (n13 : Int) => (fsign13_t n n13).bind fun (r14 : Int) => (shrO .u32 o7.1.2.2.1 (12 : Int)).bind fun (n15 : Int) => (fsign13_t n n15).bind fun (r16 : Int) => (shrO .u32 o7.1.2.2.1 (18 : Int)).bind fun (n17 : Int) => (fsign13_t n n17).bind fun (r18 : Int) => some (r18, (r16, (r14, r12))) else (bif decide (((List.length o7.1.1 : Nat) : Int) = (2 : Int)) then (shrO .u32 o7.1.2.2.1 (6 : Int)).bind fun (n19 : Int) => (fsign13_t n n19).bind fun (r20 : Int) => (shrO .u32 o7.1.2.2.1 (12 : Int)).bind fun (n21 : Int) => (fsign13_t n n21).bind fun (r22 : Int) => (shrO .u32 o7.1.2.2.1 (18 : Int)).bind fun (n23 : Int) => (fsign13_t n n23).bind fun (r24 : Int) => some (r24, (r22, (r20, c11))) else (bif decide (((List.length o7.1.1 : Nat) : Int) = (1 : Int)) then (shrO .u32 o7.1.2.2.1 (12 : Int)).bind fun (n25 : Int) => (fsign13_t n n25).bind fun (r26 : Int) => (shrO .u32 o7.1.2.2.1 (18 : Int)).bind fun (n27 : Int) => (fsign13_t n n27).bind fun (r28 : Int) => some (r28, (r26, (c10, c11))) else some (c8, (c9, (c10, c11))))))
def flay13_fc (n : Nat) : FC := { f := 20, args := [.one (.c (.d .str))], res := .one (.agg [.d (.int .u8), .d (.int .u8), .d (.int .u8), .d (.int .u8)]), F := fun p => flay13_t n p }
def flay13_ct (n : Nat) : List FC := [fsign13_fc n]
theorem flay13_ctok (n : Nat) {G : World → Prop} (hG : Know Inv G) : ∀ c ∈ flay13_ct n, FCok Tryd.prog G c ∧ noTup c.args = true := List.forall_mem_cons.2 ⟨fsign13_ok n G hG, (fun _ h => by cases h)⟩
def flay13_dh : Hints := [(9, [⟨442721857769029238784, 73786976294838206464, 0⟩, ⟨3541774862152233910272, 590295810358705651712, 0⟩, ⟨28334198897217871282176, 4722366482869645213696, 0⟩, ⟨226673591177742970257408, 37778931862957161709568, 0⟩, ⟨1856554110554424112840704, 302231454903657293676544, 15⟩, ⟨196608, 98304, 0⟩, ⟨302231454903657293774848, 65536, 63⟩])]
theorem flay13_dr : drB flay13_dh (bodyOf Tryd.f20) = true := by kernel_rfl
theorem flay13_eq0 (n : Nat) : ∀ rec p, flay13_F0 n rec p = round Tryd.prog 51 (flay13_ct n) (flay13_lts n) flay13_dh 1 flay13_sh0 flay13_outs0 (bodyAt 0 0 (bodyOf Tryd.f20)) rec p := by intro rec p; kernel_rfl
theorem flay13_lok0 (n : Nat) {F : Fr} (hF : F.n = 51) (hK : Know Inv F.G) : LCok Tryd.prog F (flay13_L0 n) (bodyAt 0 0 (bodyOf Tryd.f20)) :=
  loop_ok hF (by kernel_rfl) (flay13_ctok n hK) (flay13_eq0 n) (fuel := n) (fun _ => rfl) (lok_of fun j L h1 h2 h3 => absurd h2 (Nat.not_lt.2 (Nat.le_trans (by decide +kernel) h1))) (drB_at flay13_dr)
theorem flay13_eq (n : Nat) : ∀ a, (flay13_fc n).F a = main Tryd.prog 51 (flay13_ct n) (flay13_lts n) flay13_dh (bodyOf Tryd.f20) [.cell 2 44] (flay13_fc n).args (flay13_fc n).res a := by intro a; kernel_rfl
theorem flay13_ok (n : Nat) : FCall Inv Tryd.prog (flay13_fc n) := fun G hG => ⟨⟨by kernel_rfl, fun a r h => main_ok (c := bodyOf Tryd.f20) Tryd.func20 (by kernel_rfl) (by kernel_rfl) (Nat.le_of_ble_eq_true (by kernel_rfl)) hG.st (by kernel_rfl) (rs := [.cell 2 44]) (by kernel_rfl) (flay13_ctok n hG) (lts := flay13_lts n) (fun F hF hFG => have hK : Know Inv F.G := hFG ▸ hG; (lok_of (c := (bodyOf Tryd.f20)) (fun j L h1 h2 h3 => by
    have h2' : j < 1 := Nat.lt_of_lt_of_le h2 (by decide +kernel)
    match j, h1, h2', h3 with
    | 0, _, _, h3 => obtain rfl := Option.some.inj h3; exact (show bodyAt 0 0 (bodyOf Tryd.f20) = bodyAt 0 0 (bodyOf Tryd.f20) by kernel_rfl) ▸ flay13_lok0 n hF hK
    | j + 1, _, h2', _ => exact absurd h2' (by omega)))) flay13_dr ((flay13_eq n a).symm.trans h)⟩, rfl⟩
/-! armada/b64.size -/
def fsize13_lts (n : Nat) : List LC := []
def fsize13_t (n : Nat) (a1 : Int) : Option (Int) :=
  letO (IntKind.wrap .i64 (a1 + (3 : Int))) fun (n1 : Int) => letO (IntKind.wrap .i64 (n1 - (1 : Int))) fun (n2 : Int) => (quoO .i64 n2 (3 : Int)).bind fun (n3 : Int) => letO (IntKind.wrap .i64 (n3 * (4 : Int))) fun (n4 : Int) => some n4
def fsize13_fc (n : Nat) : FC := { f := 19, args := [.one (.c (.d (.int .i64)))], res := .one (.c (.d (.int .i64))), F := fun p => fsize13_t n p }
def fsize13_ct (n : Nat) : List FC := []
theorem fsize13_ctok (n : Nat) {G : World → Prop} (hG : Know Inv G) : ∀ c ∈ fsize13_ct n, FCok Tryd.prog G c ∧ noTup c.args = true := (fun _ h => by cases h)
def fsize13_dh : Hints := []
theorem fsize13_dr : drB fsize13_dh (bodyOf Tryd.f19) = true := by kernel_rfl
theorem fsize13_eq (n : Nat) : ∀ a, (fsize13_fc n).F a = main Tryd.prog 8 (fsize13_ct n) (fsize13_lts n) fsize13_dh (bodyOf Tryd.f19) [.tmp 2] (fsize13_fc n).args (fsize13_fc n).res a := by intro a; kernel_rfl
theorem fsize13_ok (n : Nat) : FCall Inv Tryd.prog (fsize13_fc n) := fun G hG => ⟨⟨by kernel_rfl, fun a r h => main_ok (c := bodyOf Tryd.f19) Tryd.func19 (by kernel_rfl) (by kernel_rfl) (Nat.le_of_ble_eq_true (by kernel_rfl)) hG.st (by kernel_rfl) (rs := [.tmp 2]) (by kernel_rfl) (fsize13_ctok n hG) (lts := fsize13_lts n) (fun F hF hFG => have hK : Know Inv F.G := hFG ▸ hG; (lok_of fun j L h1 h2 h3 => absurd h2 (Nat.not_lt.2 (Nat.le_trans (by decide +kernel) h1)))) fsize13_dr ((fsize13_eq n a).symm.trans h)⟩, rfl⟩
/-! armada/b64.Size -/
def fSize13_lts (n : Nat) : List LC := []
def fSize13_t (n : Nat) (a1 : Int) : Option (Int) :=
  (bif decide (a1 < (0 : Int)) then some (-1 : Int) else (bif decide ((1099511627776 : Int) < a1) then some (-1 : Int) else (fsize13_t n a1).bind fun (r1 : Int) => some r1))
def fSize13_fc (n : Nat) : FC := { f := 12, args := [.one (.c (.d (.int .i64)))], res := .one (.c (.d (.int .i64))), F := fun p => fSize13_t n p }
def fSize13_ct (n : Nat) : List FC := [fsize13_fc n]
theorem fSize13_ctok (n : Nat) {G : World → Prop} (hG : Know Inv G) : ∀ c ∈ fSize13_ct n, FCok Tryd.prog G c ∧ noTup c.args = true := List.forall_mem_cons.2 ⟨fsize13_ok n G hG, (fun _ h => by cases h)⟩
def fSize13_dh : Hints := []
theorem fSize13_dr : drB fSize13_dh (bodyOf Tryd.f12) = true := by kernel_rfl
theorem fSize13_eq (n : Nat) : ∀ a, (fSize13_fc n).F a = main Tryd.prog 11 (fSize13_ct n) (fSize13_lts n) fSize13_dh (bodyOf Tryd.f12) [.tmp 2] (fSize13_fc n).args (fSize13_fc n).res a := by intro a; kernel_rfl
theorem fSize13_ok (n : Nat) : FCall Inv Tryd.prog (fSize13_fc n) := fun G hG => ⟨⟨by kernel_rfl, fun a r h => main_ok (c := bodyOf Tryd.f12) Tryd.func12 (by kernel_rfl) (by kernel_rfl) (Nat.le_of_ble_eq_true (by kernel_rfl)) hG.st (by kernel_rfl) (rs := [.tmp 2]) (by kernel_rfl) (fSize13_ctok n hG) (lts := fSize13_lts n) (fun F hF hFG => have hK : Know Inv F.G := hFG ▸ hG; (lok_of fun j L h1 h2 h3 => absurd h2 (Nat.not_lt.2 (Nat.le_trans (by decide +kernel) h1)))) fSize13_dr ((fSize13_eq n a).symm.trans h)⟩, rfl⟩
end Go.Proofs.YtngbpbncipjimaaDoor.AM
