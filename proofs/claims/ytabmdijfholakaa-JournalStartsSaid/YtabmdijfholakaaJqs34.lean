/- One text of JouL, JouP, JouQ, JouR (mk/pack.py). -/
import Derived.Test.YtabmdijfholakaaJqs32
import Derived.Test.YtabmdijfholakaaJqs33
import Derived.Test.YtabmdijfholakaaJqs14
import Derived.Test.YtabmdijfholakaaJqs24
/- Layer 4: the laws: what functions come to, as plain functions of data: written by program (shal.py); the kernel checks it. -/
namespace Go.Proofs.Ytabmdijfholakaa.AM
open Go.RowKit
set_option linter.unusedVariables false
set_option maxRecDepth 20000
/-! armada/armadalaw04.live -/
def l4live_lts (n : Nat) : List LC := []
def l4live_t (n : Nat)  : Option (Bool) :=
  (new_t (9 : Int)).bind fun (r1 : ((List (List UInt8)) × (List ((Int) × (List UInt8)))) × (Bool)) => ((jStart_fc n).F (((2 : Int), (6 : Int)), (4 : Int))).bind fun (r2 : (List ((Bool) × ((Int) × (List UInt8)))) × (Int)) => (jrun_t r1.1 r2.1 (9 : Int)).bind fun (r3 : ((List (List UInt8)) × (List ((Int) × (List UInt8)))) × (Int)) => (jOpen_t n r3.1 ((2 : Int), (6 : Int))).bind fun (r4 : (Int × ((List (List UInt8)) × (Int))) × (Int)) => (jAdd_t n ((2 : Int), (6 : Int)) r4.1 ([104, 101, 108, 108, 111] : List UInt8)).bind fun (r5 : (List ((Bool) × ((Int) × (List UInt8)))) × (Int)) => (jrun_t r3.1 r5.1 (2 : Int)).bind fun (r6 : ((List (List UInt8)) × (List ((Int) × (List UInt8)))) × (Int)) => (crash_t r6.1 []).bind fun (r7 : ((List (List UInt8)) × (List ((Int) × (List UInt8)))) × (Int)) => (jrun_t r3.1 r5.1 (9 : Int)).bind fun (r8 : ((List (List UInt8)) × (List ((Int) × (List UInt8)))) × (Int)) => (jOpen_t n r7.1 ((2 : Int), (6 : Int))).bind fun (r9 : (Int × ((List (List UInt8)) × (Int))) × (Int)) => (jOpen_t n r8.1 ((2 : Int), (6 : Int))).bind fun (r10 : (Int × ((List (List UInt8)) × (Int))) × (Int)) => (jOpen_t n r3.1 ((0 : Int), (2 : Int))).bind fun (r11 : (Int × ((List (List UInt8)) × (Int))) × (Int)) => (jAdd_t n ((2 : Int), (6 : Int)) r10.1 ([48, 49, 50, 51, 52, 53, 54, 55, 56, 57, 48, 49, 50, 51, 52, 53, 54, 55, 56, 57, 48, 49, 50, 51, 52, 53, 54, 55, 56, 57, 48, 48, 49, 50, 51, 52, 53, 54, 55, 56, 57, 48, 49, 50, 51, 52, 53, 54, 55, 56, 57, 48, 49, 50, 51, 52, 53, 54, 55, 56, 57, 48, 48, 49, 50, 51, 52, 53, 54, 55, 56, 57, 48, 49, 50, 51, 52, 53, 54, 55, 56, 57, 48, 49, 50, 51, 52, 53, 54, 55, 56, 57, 48, 48] : List UInt8)).bind fun (r12 : (List ((Bool) × ((Int) × (List UInt8)))) × (Int)) => (bif !decide (((List.length r10.1.2.1 : Nat) : Int) = (1 : Int)) then some false else (bif !decide (((List.length r2.1 : Nat) : Int) = (2 : Int)) then some false else (bif !decide (((List.length r5.1 : Nat) : Int) = (4 : Int)) then some false else (bif decide (r2.2 = (0 : Int)) then (bif decide (r4.2 = (0 : Int)) then (bif decide (r5.2 = (0 : Int)) then (bif decide (r4.1.1 = (4 : Int)) then (bif decide (((List.length r4.1.2.1 : Nat) : Int) = (0 : Int)) then (bif decide (r4.1.2.2 = (3 : Int)) then (bif decide (r9.2 = (0 : Int)) then (bif decide (((List.length r9.1.2.1 : Nat) : Int) = (0 : Int)) then (bif decide (r10.2 = (0 : Int)) then (idxL r10.1.2.1 (0 : Int)).bind fun (x13 : List UInt8) => (bif decide (x13 = ([104, 101, 108, 108, 111] : List UInt8)) then (bif decide (r10.1.2.2 = (5 : Int)) then (bif decide (r11.2 = (5 : Int)) then (bif decide (r12.2 = (3 : Int)) then (jClean_t n r8.1 ((2 : Int), (6 : Int)) r10.1).bind fun (r14 : Bool) => (bif r14 then (jClean_t n r8.1 ((2 : Int), (6 : Int)) r4.1).bind fun (r15 : Bool) => (bif !r15 then (jChk_t n ((2 : Int), (6 : Int))).bind fun (r16 : Bool) => (bif r16 then (jChk_t n ((0 : Int), (1 : Int))).bind fun (r17 : Bool) => some (!r17) else some false) else some false) else some false) else some false) else some false) else some false) else some false) else some false) else some false) else some false) else some false) else some false) else some false) else some false) else some false) else some false))))
def l4live_fc (n : Nat) : FC := { f := 8, args := [], res := .one (.c (.d .bool)), F := fun p => l4live_t n  }
def l4live_ct (n : Nat) : List FC := [rnew_fc, jStart_fc n, jrrun_fc, jOpen_fc n, jAdd_fc n, rcrash_fc, jClean_fc n, jChk_fc n]
theorem l4live_ctok (n : Nat) {G : World → Prop} (hG : Know Inv G) : ∀ c ∈ l4live_ct n, FCok Try.prog G c ∧ noTup c.args = true := List.forall_mem_cons.2 ⟨rnew_ok G hG, List.forall_mem_cons.2 ⟨jStart_ok n G hG, List.forall_mem_cons.2 ⟨jrrun_ok G hG, List.forall_mem_cons.2 ⟨jOpen_ok n G hG, List.forall_mem_cons.2 ⟨jAdd_ok n G hG, List.forall_mem_cons.2 ⟨rcrash_ok G hG, List.forall_mem_cons.2 ⟨jClean_ok n G hG, List.forall_mem_cons.2 ⟨jChk_ok n G hG, (fun _ h => by cases h)⟩⟩⟩⟩⟩⟩⟩⟩
def l4live_dh : Hints := []
theorem l4live_dr : drB l4live_dh (bodyOf Try.f8) = true := by kernel_rfl
theorem l4live_eq (n : Nat) : ∀ a, (l4live_fc n).F a = main Try.prog 187 (l4live_ct n) (l4live_lts n) l4live_dh (bodyOf Try.f8) [.tmp 0] (l4live_fc n).args (l4live_fc n).res a := by intro a; kernel_rfl
theorem l4live_ok (n : Nat) : FCall Inv Try.prog (l4live_fc n) := fun G hG => ⟨⟨by kernel_rfl, fun a r h => main_ok (c := bodyOf Try.f8) Try.func8 (by kernel_rfl) (by kernel_rfl) (Nat.le_of_ble_eq_true (by kernel_rfl)) hG.st (by kernel_rfl) (rs := [.tmp 0]) (by kernel_rfl) (l4live_ctok n hG) (lts := l4live_lts n) (fun F hF hFG => have hK : Know Inv F.G := hFG ▸ hG; (lok_of fun j L h1 h2 h3 => absurd h2 (Nat.not_lt.2 (Nat.le_trans (by decide +kernel) h1)))) l4live_dr ((l4live_eq n a).symm.trans h)⟩, rfl⟩
/-! armada/armadalaw04.JournalApart -/
/-! armada/armadalaw04.JournalStarts -/
@[reducible] def l4Starts_sh0 : SSt := ⟨[(2, .one (.c (.d (.int .i64)))), (3, .one (.c (.box 3 0))), (4, .one (.c (.box 4 0))), (9, .one (.c (.box 9 0))), (11, .one (.c (.box 11 0))), (13, .one (.c (.d (.int .i64))))], [(3, (25, [.d (.lst .str), .d (.lst (.prod (.int .i64) .str))])), (4, (27, [.d (.int .i64), .d (.int .i64)])), (9, (25, [.d (.lst .str), .d (.lst (.prod (.int .i64) .str))])), (11, (35, [.d (.int .i64), .d (.lst .str), .d (.int .i64)]))], []⟩
@[reducible] def l4Starts_outs0 : List (Exit × SSt) := [(.ret, ⟨[(6, .one (.c (.d .bool)))], [], []⟩), (.exit 0, ⟨[(4, .one (.c (.box 4 0))), (9, .one (.c (.box 9 0))), (11, .one (.c (.box 11 0)))], [(4, (27, [.d (.int .i64), .d (.int .i64)])), (9, (25, [.d (.lst .str), .d (.lst (.prod (.int .i64) .str))])), (11, (35, [.d (.int .i64), .d (.lst .str), .d (.int .i64)]))], []⟩)]
def l4Starts_l0 (n : Nat) (rec : Int → Int → (List (List UInt8)) → (List ((Int) × (List UInt8))) → Int → Int → (List (List UInt8)) → (List ((Int) × (List UInt8))) → Int → (List (List UInt8)) → Int → Option (((Bool × (Unit)) × (Unit) × (Unit)) ⊕ ((Unit × (Unit × (Unit × (Unit)))) × ((Int × (Int)) × (((List (List UInt8)) × (List ((Int) × (List UInt8)))) × ((Int × ((List (List UInt8)) × (Int))) × (Unit)))) × (Unit)))) (a1 : Int) (a2 : Int) (a3 : List (List UInt8)) (a4 : List ((Int) × (List UInt8))) (a5 : Int) (a6 : Int) (a7 : List (List UInt8)) (a8 : List ((Int) × (List UInt8))) (a9 : Int) (a10 : List (List UInt8)) (a11 : Int) : Option (((Bool × (Unit)) × (Unit) × (Unit)) ⊕ ((Unit × (Unit × (Unit × (Unit)))) × ((Int × (Int)) × (((List (List UInt8)) × (List ((Int) × (List UInt8)))) × ((Int × ((List (List UInt8)) × (Int))) × (Unit)))) × (Unit))) :=
  letO (IntKind.wrap .i64 (a5 + a6)) fun (n10 : Int) => (bif decide (a2 < n10) then (get_t (a3, a4) a2).bind fun (r11 : (List UInt8) × (Int)) => (jread_t r11.1).bind fun (r12 : (Int × (Int × (Int × (Int × (Int))))) × (Bool)) => (bif r12.2 then (bif decide (r12.1.2.1 = a1) then (l4live_t n ).bind fun (r13 : Bool) => some (Sum.inl ((r13, ()), ((), ()))) else letO (IntKind.wrap .i64 (a2 + (1 : Int))) fun (n14 : Int) => rec a1 n14 a3 a4 a5 a6 a7 a8 a9 a10 a11) else letO (IntKind.wrap .i64 (a2 + (1 : Int))) fun (n15 : Int) => rec a1 n15 a3 a4 a5 a6 a7 a8 a9 a10 a11) else some (Sum.inr ((((), ((), ((), ()))), (((a5, a6), ((a7, a8), ((a9, (a10, a11)), ()))), ())))))
def l4Starts_F0 (n : Nat) (rec : pSt l4Starts_sh0 → Option (pOuts l4Starts_outs0)) (p : pSt l4Starts_sh0) : Option (pOuts l4Starts_outs0) := l4Starts_l0 n (fun a1 a2 a3 a4 a5 a6 a7 a8 a9 a10 a11 => rec ((a1, ((), ((), ((), ((), (a2, ())))))), (((a3, a4), ((a5, a6), ((a7, a8), ((a9, (a10, a11)), ())))), ()))) p.1.1 p.1.2.2.2.2.2.1 p.2.1.1.1 p.2.1.1.2 p.2.1.2.1.1 p.2.1.2.1.2 p.2.1.2.2.1.1 p.2.1.2.2.1.2 p.2.1.2.2.2.1.1 p.2.1.2.2.2.1.2.1 p.2.1.2.2.2.1.2.2
def l4Starts_loop0 (n m : Nat) (a1 : Int) (a2 : Int) (a3 : List (List UInt8)) (a4 : List ((Int) × (List UInt8))) (a5 : Int) (a6 : Int) (a7 : List (List UInt8)) (a8 : List ((Int) × (List UInt8))) (a9 : Int) (a10 : List (List UInt8)) (a11 : Int) : Option (((Bool × (Unit)) × (Unit) × (Unit)) ⊕ ((Unit × (Unit × (Unit × (Unit)))) × ((Int × (Int)) × (((List (List UInt8)) × (List ((Int) × (List UInt8)))) × ((Int × ((List (List UInt8)) × (Int))) × (Unit)))) × (Unit))) := iterF (l4Starts_F0 n) m ((a1, ((), ((), ((), ((), (a2, ())))))), (((a3, a4), ((a5, a6), ((a7, a8), ((a9, (a10, a11)), ())))), ()))
theorem l4Starts_loop0_succ (n m : Nat) (a1 : Int) (a2 : Int) (a3 : List (List UInt8)) (a4 : List ((Int) × (List UInt8))) (a5 : Int) (a6 : Int) (a7 : List (List UInt8)) (a8 : List ((Int) × (List UInt8))) (a9 : Int) (a10 : List (List UInt8)) (a11 : Int) : l4Starts_loop0 n (m + 1) a1 a2 a3 a4 a5 a6 a7 a8 a9 a10 a11 = l4Starts_l0 n (fun a1 a2 a3 a4 a5 a6 a7 a8 a9 a10 a11 => l4Starts_loop0 n m a1 a2 a3 a4 a5 a6 a7 a8 a9 a10 a11) a1 a2 a3 a4 a5 a6 a7 a8 a9 a10 a11 := rfl
def l4Starts_L0 (n : Nat) : LC := { sh := l4Starts_sh0, outs := l4Starts_outs0, F := iterF (l4Starts_F0 n) n }
def l4Starts_lts (n : Nat) : List LC := [l4Starts_L0 n]
def l4Starts_t (n : Nat) (a1 : (List (List UInt8)) × (List ((Int) × (List UInt8)))) (a2 : Int × (Int)) (a3 : Int) : Option (Bool) :=
  (small_t a1).bind fun (r1 : Bool) => (bif !r1 then (l4live_t n ).bind fun (r2 : Bool) => some r2 else (r4Lies_t n a1 a2).bind fun (r3 : Bool) => (bif !r3 then (l4live_t n ).bind fun (r4 : Bool) => some r4 else (jStart_t n a2 a3).bind fun (r5 : (List ((Bool) × ((Int) × (List UInt8)))) × (Int)) => (bif decide ((0 : Int) ≤ a3) then (bif !decide (decide (r5.2 = (0 : Int)) = decide (a3 ≤ (1073741824 : Int))) then some false else (bif !decide (r5.2 = (0 : Int)) then (l4live_t n ).bind fun (r6 : Bool) => some r6 else (jrun_t a1 r5.1 ((List.length r5.1 : Nat) : Int)).bind fun (r7 : ((List (List UInt8)) × (List ((Int) × (List UInt8)))) × (Int)) => (jOpen_t n r7.1 a2).bind fun (r8 : (Int × ((List (List UInt8)) × (Int))) × (Int)) => (bif !decide (r7.2 = (0 : Int)) then some false else (bif !decide (r8.2 = (0 : Int)) then some false else (bif !decide (r8.1.1 = a3) then some false else (bif !decide (((List.length r7.1.2 : Nat) : Int) = (0 : Int)) then some false else letO (IntKind.wrap .i64 (a2.1 + (1 : Int))) fun (n9 : Int) => (l4Starts_loop0 n n a3 n9 a1.1 a1.2 a2.1 a2.2 r7.1.1 r7.1.2 r8.1.1 r8.1.2.1 r8.1.2.2).bind fun (o16 : ((Bool × (Unit)) × (Unit) × (Unit)) ⊕ ((Unit × (Unit × (Unit × (Unit)))) × ((Int × (Int)) × (((List (List UInt8)) × (List ((Int) × (List UInt8)))) × ((Int × ((List (List UInt8)) × (Int))) × (Unit)))) × (Unit))) => Sum.elim (fun (q17 : (Bool × (Unit)) × (Unit) × (Unit)) => some q17.1.1) (fun (q18 : (Unit × (Unit × (Unit × (Unit)))) × ((Int × (Int)) × (((List (List UInt8)) × (List ((Int) × (List UInt8)))) × ((Int × ((List (List UInt8)) × (Int))) × (Unit)))) × (Unit)) => (bif decide (((List.length q18.2.1.2.2.1.2.1 : Nat) : Int) = (0 : Int)) then letO (IntKind.wrap .i64 (q18.2.1.1.1 + (1 : Int))) fun (n19 : Int) => (bif decide (q18.2.1.2.2.1.2.2 = n19) then (jClean_t n q18.2.1.2.1 q18.2.1.1 q18.2.1.2.2.1).bind fun (r20 : Bool) => (bif r20 then (l4live_t n ).bind fun (r21 : Bool) => some r21 else some false) else some false) else some false)) o16)))))) else (bif !decide (decide (r5.2 = (0 : Int)) = false) then some false else (bif !decide (r5.2 = (0 : Int)) then (l4live_t n ).bind fun (r22 : Bool) => some r22 else (jrun_t a1 r5.1 ((List.length r5.1 : Nat) : Int)).bind fun (r23 : ((List (List UInt8)) × (List ((Int) × (List UInt8)))) × (Int)) => (jOpen_t n r23.1 a2).bind fun (r24 : (Int × ((List (List UInt8)) × (Int))) × (Int)) => (bif !decide (r23.2 = (0 : Int)) then some false else (bif !decide (r24.2 = (0 : Int)) then some false else (bif !decide (r24.1.1 = a3) then some false else (bif !decide (((List.length r23.1.2 : Nat) : Int) = (0 : Int)) then some false else letO (IntKind.wrap .i64 (a2.1 + (1 : Int))) fun (n25 : Int) => (l4Starts_loop0 n n a3 n25 a1.1 a1.2 a2.1 a2.2 r23.1.1 r23.1.2 r24.1.1 r24.1.2.1 r24.1.2.2).bind fun (o26 : ((Bool × (Unit)) × (Unit) × (Unit)) ⊕ ((Unit × (Unit × (Unit × (Unit)))) × ((Int × (Int)) × (((List (List UInt8)) × (List ((Int) × (List UInt8)))) × ((Int × ((List (List UInt8)) × (Int))) × (Unit)))) × (Unit))) => Sum.elim (fun (q27 : (Bool × (Unit)) × (Unit) × (Unit)) => some q27.1.1) (fun (q28 : (Unit × (Unit × (Unit × (Unit)))) × ((Int × (Int)) × (((List (List UInt8)) × (List ((Int) × (List UInt8)))) × ((Int × ((List (List UInt8)) × (Int))) × (Unit)))) × (Unit)) => (bif decide (((List.length q28.2.1.2.2.1.2.1 : Nat) : Int) = (0 : Int)) then letO (IntKind.wrap .i64 (q28.2.1.1.1 + (1 : Int))) fun (n29 : Int) => (bif decide (q28.2.1.2.2.1.2.2 = n29) then (jClean_t n q28.2.1.2.1 q28.2.1.1 q28.2.1.2.2.1).bind fun (r30 : Bool) => (bif r30 then (l4live_t n ).bind fun (r31 : Bool) => some r31 else some false) else some false) else some false)) o26)))))))))
def l4Starts_fc (n : Nat) : FC := { f := 4, args := [.one (.agg [.d (.lst .str), .d (.lst (.prod (.int .i64) .str))]), .one (.agg [.d (.int .i64), .d (.int .i64)]), .one (.c (.d (.int .i64)))], res := .one (.c (.d .bool)), F := fun p => l4Starts_t n p.1 p.2.1 p.2.2 }
def l4Starts_ct (n : Nat) : List FC := [small_fc, l4live_fc n, r4Lies_fc n, jStart_fc n, jrun_fc, jOpen_fc n, rget_fc, jrread_fc, jClean_fc n]
theorem l4Starts_ctok (n : Nat) {G : World → Prop} (hG : Know Inv G) : ∀ c ∈ l4Starts_ct n, FCok Try.prog G c ∧ noTup c.args = true := List.forall_mem_cons.2 ⟨small_ok G hG, List.forall_mem_cons.2 ⟨l4live_ok n G hG, List.forall_mem_cons.2 ⟨r4Lies_ok n G hG, List.forall_mem_cons.2 ⟨jStart_ok n G hG, List.forall_mem_cons.2 ⟨jrun_ok G hG, List.forall_mem_cons.2 ⟨jOpen_ok n G hG, List.forall_mem_cons.2 ⟨rget_ok G hG, List.forall_mem_cons.2 ⟨jrread_ok G hG, List.forall_mem_cons.2 ⟨jClean_ok n G hG, (fun _ h => by cases h)⟩⟩⟩⟩⟩⟩⟩⟩⟩
def l4Starts_dh : Hints := []
theorem l4Starts_dr : drB l4Starts_dh (bodyOf Try.f4) = true := by kernel_rfl
theorem l4Starts_eq0 (n : Nat) : ∀ rec p, l4Starts_F0 n rec p = round Try.prog 130 (l4Starts_ct n) (l4Starts_lts n) l4Starts_dh 1 l4Starts_sh0 l4Starts_outs0 (bodyAt 0 0 (bodyOf Try.f4)) rec p := by intro rec p; kernel_rfl
theorem l4Starts_lok0 (n : Nat) {F : Fr} (hF : F.n = 130) (hK : Know Inv F.G) : LCok Try.prog F (l4Starts_L0 n) (bodyAt 0 0 (bodyOf Try.f4)) :=
  loop_ok hF (by kernel_rfl) (l4Starts_ctok n hK) (l4Starts_eq0 n) (fuel := n) (fun _ => rfl) (lok_of fun j L h1 h2 h3 => absurd h2 (Nat.not_lt.2 (Nat.le_trans (by decide +kernel) h1))) (drB_at l4Starts_dr)
theorem l4Starts_eq (n : Nat) : ∀ a, (l4Starts_fc n).F a = main Try.prog 130 (l4Starts_ct n) (l4Starts_lts n) l4Starts_dh (bodyOf Try.f4) [.tmp 6] (l4Starts_fc n).args (l4Starts_fc n).res a := by intro a; kernel_rfl
theorem l4Starts_ok (n : Nat) : FCall Inv Try.prog (l4Starts_fc n) := fun G hG => ⟨⟨by kernel_rfl, fun a r h => main_ok (c := bodyOf Try.f4) Try.func4 (by kernel_rfl) (by kernel_rfl) (Nat.le_of_ble_eq_true (by kernel_rfl)) hG.st (by kernel_rfl) (rs := [.tmp 6]) (by kernel_rfl) (l4Starts_ctok n hG) (lts := l4Starts_lts n) (fun F hF hFG => have hK : Know Inv F.G := hFG ▸ hG; (lok_of (c := (bodyOf Try.f4)) (fun j L h1 h2 h3 => by
    have h2' : j < 1 := Nat.lt_of_lt_of_le h2 (by decide +kernel)
    match j, h1, h2', h3 with
    | 0, _, _, h3 => obtain rfl := Option.some.inj h3; exact (show bodyAt 0 0 (bodyOf Try.f4) = bodyAt 0 0 (bodyOf Try.f4) by kernel_rfl) ▸ l4Starts_lok0 n hF hK
    | j + 1, _, h2', _ => exact absurd h2' (by omega)))) l4Starts_dr ((l4Starts_eq n a).symm.trans h)⟩, rfl⟩
/-! armada/armadalaw04.JournalRow -/
@[reducible] def l4Row_sh0 : SSt := ⟨[(0, .one (.c (.d (.int .i64)))), (1, .one (.c (.d (.int .i64)))), (2, .one (.c (.d (.lst .str)))), (7, .one (.c (.box 7 0))), (9, .one (.c (.box 9 0))), (13, .one (.c (.row 146))), (14, .one (.c (.d (.int .i64))))], [(7, (25, [.d (.lst .str), .d (.lst (.prod (.int .i64) .str))])), (9, (33, [.d (.int .i64), .d (.int .i64)]))], [(146, ⟨9, false, .str⟩)]⟩
@[reducible] def l4Row_outs0 : List (Exit × SSt) := [(.ret, ⟨[(6, .one (.c (.d .bool)))], [], []⟩), (.exit 0, ⟨[(1, .one (.c (.d (.int .i64)))), (7, .one (.c (.box 7 0))), (9, .one (.c (.box 9 0))), (13, .one (.c (.row 146)))], [(7, (25, [.d (.lst .str), .d (.lst (.prod (.int .i64) .str))])), (9, (33, [.d (.int .i64), .d (.int .i64)]))], [(146, ⟨9, false, .str⟩)]⟩)]
def l4Row_l0 (n : Nat) (rec : Int → Int → (List (List UInt8)) → Int → (List (List UInt8)) → (List ((Int) × (List UInt8))) → Int → Int → (List (List UInt8)) → Option (((Bool × (Unit)) × (Unit) × (Unit)) ⊕ ((Int × (Unit × (Unit × (Unit × (Unit))))) × (((List (List UInt8)) × (List ((Int) × (List UInt8)))) × ((Int × (Int)) × (Unit))) × ((List (List UInt8)) × (Unit))))) (a1 : Int) (a2 : Int) (a3 : List (List UInt8)) (a4 : Int) (a5 : List (List UInt8)) (a6 : List ((Int) × (List UInt8))) (a7 : Int) (a8 : Int) (a9 : List (List UInt8)) : Option (((Bool × (Unit)) × (Unit) × (Unit)) ⊕ ((Int × (Unit × (Unit × (Unit × (Unit))))) × (((List (List UInt8)) × (List ((Int) × (List UInt8)))) × ((Int × (Int)) × (Unit))) × ((List (List UInt8)) × (Unit)))) :=
  (bif decide (a4 < ((List.length a3 : Nat) : Int)) then (idxL a3 a4).bind fun (x9 : List UInt8) => (bif decide ((4096 : Int) < ((List.length x9 : Nat) : Int)) then (l4live_t n ).bind fun (r10 : Bool) => some (Sum.inl ((r10, ()), ((), ()))) else (jOpen_t n (a5, a6) (a7, a8)).bind fun (r11 : (Int × ((List (List UInt8)) × (Int))) × (Int)) => (idxL a3 a4).bind fun (x12 : List UInt8) => (jAdd_t n (a7, a8) r11.1 x12).bind fun (r13 : (List ((Bool) × ((Int) × (List UInt8)))) × (Int)) => (jrun_t (a5, a6) r13.1 ((List.length r13.1 : Nat) : Int)).bind fun (r14 : ((List (List UInt8)) × (List ((Int) × (List UInt8)))) × (Int)) => (idxL a3 a4).bind fun (x15 : List UInt8) => (jcount_t ((List.length x15 : Nat) : Int)).bind fun (r16 : Int) => letO (IntKind.wrap .i64 ((1 : Int) + r16)) fun (n17 : Int) => letO (IntKind.wrap .i64 (a1 - r11.1.2.2)) fun (n18 : Int) => (bif !decide (r11.2 = (0 : Int)) then some (Sum.inl ((false, ()), ((), ()))) else (bif !decide (r14.2 = (0 : Int)) then some (Sum.inl ((false, ()), ((), ()))) else (bif !decide (decide (r13.2 = (0 : Int)) = decide (n17 ≤ n18)) then some (Sum.inl ((false, ()), ((), ()))) else (jrsam3_t r11.1.2.1 a9).bind fun (r19 : Bool) => (bif !r19 then some (Sum.inl ((false, ()), ((), ()))) else (bif decide (n17 ≤ n18) then (idxL a3 a4).bind fun (x20 : List UInt8) => (appO 16 a9 ([x20] : List (List UInt8))).bind fun (l21 : List (List UInt8)) => letO (IntKind.wrap .i64 (a4 + (1 : Int))) fun (n22 : Int) => rec a1 a2 a3 n22 r14.1.1 r14.1.2 a7 a8 l21 else letO (IntKind.wrap .i64 (a4 + (1 : Int))) fun (n23 : Int) => rec a1 a2 a3 n23 r14.1.1 r14.1.2 a7 a8 a9)))))) else some (Sum.inr (((a2, ((), ((), ((), ())))), (((a5, a6), ((a7, a8), ())), (a9, ()))))))
/-! armada/armadalaw04.JournalCrash -/
end Go.Proofs.Ytabmdijfholakaa.AM

/- Layer 4: what the laws come to is true: what is alike, starts, a region apart. -/
namespace Go.Proofs
open Go.RowKit
set_option linter.unusedVariables false
set_option linter.unusedSimpArgs false
namespace Ytabmdijfholakaa.AM
theorem i64_of {n : Int} (h : (Lit.int .i64 n).wf = true) : -9223372036854775808 ≤ n ∧ n ≤ 9223372036854775807 := by
  simp [Lit.wf, IntKind.min, IntKind.max, IntKind.signed, IntKind.bits] at h
  omega
theorem settle_prefix (keep : Nat → Bool) (B : BL) (c x : List DM.Wr) : ∀ k, k ≤ c.length → DM.settleK keep B (c ++ x) k = DM.settleK keep B c k
  | 0, _ => rfl
  | k + 1, h => by
    have ih := settle_prefix keep B c x k (by omega)
    unfold DM.settleK
    have hg : (c ++ x).getD k (0, ⟨#[]⟩) = c.getD k (0, ⟨#[]⟩) := by
      rw [List.getD_eq_getElem?_getD, List.getD_eq_getElem?_getD, List.getElem?_append_left (by omega)]
    rw [ih, hg]
theorem flat_add (D : DM.Dk) (i : Int) (s : ByteArray) : flat (DM.addW D i s) = (flat D).set i.toNat (DM.fillB s) := by
  unfold flat DM.addW
  simp only [List.length_append, List.length_cons, List.length_nil]
  conv => lhs; unfold DM.settleK
  rw [if_pos rfl, settle_prefix _ _ _ _ _ (Nat.le_refl _)]
  have hg : (D.cache ++ [(i, DM.fillB s)]).getD D.cache.length (0, ⟨#[]⟩) = (i, DM.fillB s) := by
    rw [List.getD_eq_getElem?_getD, List.getElem?_append_right (Nat.le_refl _)]; simp
  rw [hg]
theorem flat_nil (B : BL) : flat ⟨B, []⟩ = B := rfl
theorem get_flat (D : DM.Dk) (hm : DM.mayD D) (j : Nat) (hj : j < D.secs.length) : DM.getB D (j : Int) = gB (flat D) j := by
  have key : ∀ k, k ≤ D.cache.length → gB (DM.settleK (fun _ => true) D.secs D.cache k) j = DM.lastOf (D.secs.getD j ⟨#[]⟩) (D.cache.take k) (j : Int) := by
    intro k
    induction k with
    | zero => intro _; rfl
    | succ k ih =>
      intro hk
      have hlt : k < D.cache.length := by omega
      have hw := hm.2.2.2 _ (List.getElem_mem hlt)
      have hg : D.cache.getD k (0, ⟨#[]⟩) = D.cache[k] := by simp [List.getD, hlt]
      unfold DM.settleK
      rw [if_pos rfl, gB_set, hg, DM.settleK_length, ih (by omega), ← List.take_append_getElem hlt]
      have hl := DM.last_add (D.secs.getD j ⟨#[]⟩) (D.cache.take k) D.cache[k].1 (j : Int) D.cache[k].2
      rw [show (D.cache[k].1, D.cache[k].2) = D.cache[k] from rfl] at hl
      rw [hl]
      have h1 := hw.1; have h2 := hw.2.1
      by_cases c : D.cache[k].1 = (j : Int)
      · rw [if_pos c, if_pos ⟨by omega, by omega⟩]
      · rw [if_neg c, if_neg (fun h => c (by omega))]
  have hk := key D.cache.length (Nat.le_refl _)
  rw [List.take_length] at hk
  unfold DM.getB
  rw [if_pos ⟨hm, ⟨by omega, by omega⟩⟩, Int.toNat_natCast]
  exact hk.symm
theorem small_len {D : DM.Dk} (h : DM.smallD D) : D.secs.length ≤ 600 ∧ D.cache.length ≤ 200 := ⟨h.1.1, h.2.1⟩
theorem dk_len (d : DkT) : (dkOf d).secs.length = d.1.length ∧ (dkOf d).cache.length = d.2.length := by unfold dkOf; simp
theorem smD_dk {d : DkT} (h1 : (dkOf d).secs.length ≤ 1000000) (h2 : (dkOf d).cache.length ≤ 1000000) : smD d := by rw [(dk_len d).1] at h1; rw [(dk_len d).2] at h2; exact ⟨h1, h2⟩
theorem smD_of' {D : DM.Dk} (h1 : D.secs.length ≤ 1000000) (h2 : D.cache.length ≤ 1000000) : smD (ofDk D) := smD_dk (by rw [dkOf_ofDk]; exact h1) (by rw [dkOf_ofDk]; exact h2)
theorem lies_spec (n : Nat) (d : DkT) (hd : smD d) (f z : Int) (h1 : -9223372036854775808 ≤ f) (h2 : f ≤ 9223372036854775807) : r4Lies_t n d (f, z) = some (decide (secOk (dkOf d) f z)) := by
  unfold r4Lies_t r4Chk_t secOk chk
  simp only
  by_cases c1 : 0 ≤ f
  case neg => simp [c1]
  by_cases c2 : 2 ≤ z
  case neg => simp [c1, c2]
  by_cases c3 : z ≤ 512
  case neg =>
    have : ¬ z ≤ 512 - f := by omega
    simp [c1, c2, c3, this]
  rw [decide_eq_true c1, decide_eq_true c2, decide_eq_true c3, cond_true, cond_true, cond_true, wrap64 (by omega) (by omega), letO_some]
  by_cases c4 : f ≤ 512 - z
  case neg =>
    have : ¬ z ≤ 512 - f := by omega
    simp [c4, this]
  have c5 : z ≤ 512 - f := by omega
  rw [decide_eq_true c4, Option.bind_some, cond_true]
  unfold rmay_t
  rw [if_pos hd, Option.bind_some]
  by_cases c6 : DM.mayD (dkOf d)
  · rw [decide_eq_true c6, cond_true, wrap64 (by omega) (by omega), letO_some]
    simp [c1, c2, c5, c6, (dk_len d).1]
  · simp [c6]
theorem logS_in {B : BL} {f z : Nat} (hz : 1 ≤ z) (h : f + z ≤ 512) : f + 1 ≤ (logS B f z).2 ∧ (logS B f z).2 ≤ f + z ∧ (logS B f z).1.length ≤ 512 := by
  have h1 : f + 1 ≤ (logS B f z).2 := openS_ge _ _ _
  have h2 : (logS B f z).2 ≤ f + z := openS_le _ _ _ (by omega)
  have h3 : (logS B f z).1.length ≤ (logS B f z).2 := openS_len _ _ _ (by simp)
  exact ⟨h1, h2, by omega⟩
/-- the answers of Open and Clean, of any region -/
theorem open_clean (n : Nat) (hn : 600 ≤ n) (d : DkT) (hd : smD d) (f z : Nat) (h : secOk (dkOf d) (f : Int) (z : Int)) :
    (begP (flat (dkOf d)) f → jOpen_t n d ((f : Int), (z : Int)) = some (logT (flat (dkOf d)) f z, 0) ∧ jClean_t n d ((f : Int), (z : Int)) (logT (flat (dkOf d)) f z) = some (decide (cleanP (flat (dkOf d)) (logS (flat (dkOf d)) f z).2 (f + z) (genB (flat (dkOf d)) f) (logS (flat (dkOf d)) f z).1.length))) ∧
    (¬ begP (flat (dkOf d)) f → jOpen_t n d ((f : Int), (z : Int)) = some ((0, ([], 0)), 5) ∧ jClean_t n d ((f : Int), (z : Int)) (0, ([], 0)) = some (decide (cleanP (flat (dkOf d)) f (f + z) 0 0))) := by
  have ho := open_spec n hn d hd f z h
  obtain ⟨⟨c1, c2, c3⟩, hm, hl⟩ := id h
  have hin := logS_in (B := flat (dkOf d)) (f := f) (z := z) (by omega) (by omega)
  refine ⟨fun hb => ?_, fun hb => ?_⟩
  · rw [if_pos hb] at ho
    refine ⟨ho, ?_⟩
    unfold logT
    rw [clean_spec n hn d hd f z _ _ _ (by omega) h, List.length_map, Nat.max_eq_left (by omega)]
  · rw [if_neg hb] at ho
    refine ⟨ho, ?_⟩
    have := clean_spec n hn d hd f z 0 [] 0 (by omega) h
    rw [Nat.zero_max] at this
    exact this
theorem l4live_true : l4live_t 700 = some true := by decide +kernel
end Ytabmdijfholakaa.AM
end Go.Proofs

/- Layer 4: what the laws come to is true: an addition that is cut off. -/
namespace Go.Proofs
open Go.RowKit
set_option linter.unusedVariables false
set_option linter.unusedSimpArgs false
namespace Ytabmdijfholakaa.AM
/-- acts of an addition, as far as they are done -/
theorem run_acts (d : DkT) (hs : (dkOf d).secs.length ≤ 1000) (hc : (dkOf d).cache.length ≤ 1000) (l : List DM.Ac) (hl : l.length ≤ 1000) (hsz : ∀ a ∈ l, a.2.2.size ≤ 32) (x : Int) : jrun_t d (acTo l) x = some (ofDk (DM.runD (dkOf d) (l.take (min (max x 0) (l.length : Int)).toNat)), DM.runE (dkOf d) (l.take (min (max x 0) (l.length : Int)).toNat)) := by
  unfold jrun_t
  rw [if_pos, acOf_to, acTo_len]
  refine ⟨?_, ?_⟩
  · unfold smR; rw [← (dk_len d).1, ← (dk_len d).2]; omega
  · refine ⟨by rw [acTo_len]; omega, fun a ha => ?_⟩
    unfold acTo at ha
    obtain ⟨b, hb, rfl⟩ := List.mem_map.1 ha
    have := hsz b hb
    show (unB b.2.2).length ≤ 1000
    have e : (unB b.2.2).length = b.2.2.size := unB_length _
    omega
end Ytabmdijfholakaa.AM
end Go.Proofs

/- Layer 4: what the laws come to is true: starts, and rows of additions. -/
namespace Go.Proofs
open Go.RowKit
set_option linter.unusedVariables false
set_option linter.unusedSimpArgs false
namespace Ytabmdijfholakaa.AM
theorem start_run {D : DM.Dk} (hm : DM.mayD D) {f : Nat} {t : ByteArray} (hf : f < D.secs.length) (ht : t.size = 32) :
    DM.runE D [(false, (f : Int), t), flA] = 0 ∧ DM.runD D [(false, (f : Int), t), flA] = ⟨(flat D).set f t, []⟩ ∧ DM.mayD ⟨(flat D).set f t, []⟩ := by
  have hok : ∀ a ∈ [((false, (f : Int), t) : DM.Ac), flA], DM.actOk D.secs.length a := fun a ha => by
    simp only [List.mem_cons, List.not_mem_nil, or_false] at ha
    rcases ha with rfl | rfl
    · refine Or.inr ?_
      unfold DM.writeE
      rw [if_pos ⟨by simp only; omega, by simp only; omega⟩, if_neg (by simp only [ht]; omega)]
    · exact Or.inl rfl
  obtain ⟨r1, r2, r3⟩ := run_good hm hok
  have e : DM.runK D [(false, (f : Int), t), flA] = ⟨(flat D).set f t, []⟩ := by
    show DM.settleD (fun _ => true) (DM.addW D f t) = _
    have := flat_add D f t
    rw [fill_32 ht, Int.toNat_natCast] at this
    unfold DM.settleD
    unfold flat at this ⊢
    rw [this]
  exact ⟨r1, by rw [r2, e], by rw [← e]; exact r3⟩
def startT (f : Nat) (g : Int) : AcT := [(false, ((f : Int), unB (RM.textB 1 g 0 0 1))), (true, (0, []))]
theorem beg_size {g : Int} (h : 0 ≤ g ∧ g ≤ 1073741824) : (RM.textB 1 g 0 0 1).size = 32 := by rw [RM.textB_yes _ _ _ _ _ (may_beg h)]; rfl
theorem run_start (d : DkT) (hm : DM.mayD (dkOf d)) (hs : (dkOf d).secs.length ≤ 1000) (hc : (dkOf d).cache.length ≤ 1000) (f : Nat) (g : Int) (hg : 0 ≤ g ∧ g ≤ 1073741824) (hf : f < (dkOf d).secs.length) :
    jrun_t d (startT f g) 2 = some (ofDk ⟨(flat (dkOf d)).set f (RM.textB 1 g 0 0 1), []⟩, 0) ∧ DM.mayD ⟨(flat (dkOf d)).set f (RM.textB 1 g 0 0 1), []⟩ := by
  have e : startT f g = acTo [(false, (f : Int), RM.textB 1 g 0 0 1), flA] := rfl
  obtain ⟨r1, r2, r3⟩ := start_run hm hf (beg_size hg)
  refine ⟨?_, r3⟩
  rw [e, run_acts d hs hc _ (by simp) (fun a ha => ?_) 2]
  · have e2 : (min (max (2 : Int) 0) (([(false, (f : Int), RM.textB 1 g 0 0 1), flA] : List DM.Ac).length : Int)).toNat = 2 := by
      show (min (max (2 : Int) 0) (2 : Int)).toNat = 2
      decide
    rw [e2]
    show some (ofDk (DM.runD (dkOf d) [(false, (f : Int), RM.textB 1 g 0 0 1), flA]), DM.runE (dkOf d) [(false, (f : Int), RM.textB 1 g 0 0 1), flA]) = _
    rw [r1, r2]
  · simp only [List.mem_cons, List.not_mem_nil, or_false] at ha
    rcases ha with rfl | rfl
    · simp only [beg_size hg]; omega
    · exact Nat.zero_le _
theorem starts_loop (d : DkT) (hd : smD d) (hm : DM.mayD (dkOf d)) (g : Int) (f z : Nat) (h1 : f + z ≤ 512) (hl : f + z ≤ (dkOf d).secs.length) (x1 : List (List UInt8)) (x2 : List (Int × List UInt8)) (y1 : Int) (y2 : List (List UInt8)) (y3 : Int) : ∀ (m a : Nat), f + z - a < m → a ≤ 10000 →
    l4Starts_loop0 700 m g (a : Int) d.1 d.2 (f : Int) (z : Int) x1 x2 y1 y2 y3 = some (Sum.inl ((true, ()), ((), ()))) ∨
    (l4Starts_loop0 700 m g (a : Int) d.1 d.2 (f : Int) (z : Int) x1 x2 y1 y2 y3 = some (Sum.inr ((((), ((), ((), ()))), ((((f : Int), (z : Int)), ((x1, x2), ((y1, (y2, y3)), ()))), ())))) ∧ ∀ j, a ≤ j → j < f + z → ¬ (RM.readOk (gB (flat (dkOf d)) j) ∧ RM.numAt (gB (flat (dkOf d)) j) 2 = g))
  | 0, a, h, _ => by omega
  | m + 1, a, hm', ha => by
    rw [l4Starts_loop0_succ]
    unfold l4Starts_l0
    rw [l4live_true, wrap_add (by omega) (by omega), letO_some]
    by_cases c : a < f + z
    · have ih := starts_loop d hd hm g f z h1 hl x1 x2 y1 y2 y3 m (a + 1) (by omega) (by omega)
      have w1 : IntKind.wrap .i64 ((a : Int) + 1) = ((a + 1 : Nat) : Int) := wrap_succ (by omega)
      have eg : get_t (d.1, d.2) (a : Int) = some (unB (gB (flat (dkOf d)) a), DM.getE (dkOf d) a) := by
        unfold get_t
        rw [if_pos hd]
        show some (unB (DM.getB (dkOf d) a), _) = _
        rw [get_flat _ hm a (by omega)]
      rw [decide_eq_true (by omega), cond_true, eg, Option.bind_some]
      simp only [read_unB, Option.bind_some, w1, letO_some]
      have up : (∀ j, a + 1 ≤ j → j < f + z → ¬ (RM.readOk (gB (flat (dkOf d)) j) ∧ RM.numAt (gB (flat (dkOf d)) j) 2 = g)) → ¬ (RM.readOk (gB (flat (dkOf d)) a) ∧ RM.numAt (gB (flat (dkOf d)) a) 2 = g) → ∀ j, a ≤ j → j < f + z → ¬ (RM.readOk (gB (flat (dkOf d)) j) ∧ RM.numAt (gB (flat (dkOf d)) j) 2 = g) := fun h h0 j hj hj2 => by
        by_cases e : j = a
        · subst e; exact h0
        · exact h j (by omega) hj2
      by_cases k1 : RM.readOk (gB (flat (dkOf d)) a)
      case neg =>
        rw [decide_eq_false k1, cond_false]
        rcases ih with h | ⟨h, h2⟩
        · exact Or.inl h
        · exact Or.inr ⟨h, up h2 (fun h => k1 h.1)⟩
      have eh : (readH (gB (flat (dkOf d)) a)).2.1 = RM.numAt (gB (flat (dkOf d)) a) 2 := by unfold readH; rw [if_pos k1]
      rw [decide_eq_true k1, cond_true, eh]
      by_cases k2 : RM.numAt (gB (flat (dkOf d)) a) 2 = g
      · rw [decide_eq_true k2, cond_true]
        exact Or.inl rfl
      · rw [decide_eq_false k2, cond_false]
        rcases ih with h | ⟨h, h2⟩
        · exact Or.inl h
        · exact Or.inr ⟨h, up h2 (fun h => k2 h.2)⟩
    · rw [decide_eq_false (by omega), cond_false]
      exact Or.inr ⟨rfl, fun j h1 h2 => by omega⟩
theorem fresh_log {S : BL} {f z : Nat} {g : Int} (hg : 0 ≤ g ∧ g ≤ 1073741824) (hb : gB S f = RM.textB 1 g 0 0 1) (hno : ∀ j, f + 1 ≤ j → j < f + z → ¬ (RM.readOk (gB S j) ∧ RM.numAt (gB S j) 2 = g)) :
    logS S f z = ([], f + 1) ∧ cleanP S (f + 1) (f + z) g 0 := by
  have eg := genB_text hg hb
  refine ⟨?_, fun j h1 h2 hbad => hno j h2 h1 ⟨hbad.1, hbad.2.2.1⟩⟩
  unfold logS
  rw [eg, openS_end]
  exact no_rec (q := 0) (fun h hbad => hno (f + 1) (Nat.le_refl _) h ⟨hbad.1, hbad.2.2.1⟩)
theorem l4Starts_true (d : DkT) (r : Int × Int) (g : Int) (_ : okDen (.prod (.lst .str) (.lst (.prod (.int .i64) .str))) d) (hr : okDen (.prod (.int .i64) (.int .i64)) r) (_ : (Lit.int .i64 g).wf = true) : l4Starts_t 700 d r g = some true := by
  obtain ⟨f, z⟩ := r
  have hf := i64_of hr.1
  have hM := max_eq
  unfold l4Starts_t small_t
  rw [l4live_true]
  simp only [Option.bind_some]
  by_cases c0 : DM.smallD (dkOf d)
  case neg => simp only [c0, decide_false, Bool.not_false, cond_true]
  have hlen := small_len c0
  have hd : smD d := smD_dk (by omega) (by omega)
  simp only [c0, decide_true, Bool.not_true, cond_false]
  rw [lies_spec 700 d hd f z hf.1 hf.2, Option.bind_some]
  by_cases c2 : secOk (dkOf d) f z
  case neg => rw [decide_eq_false c2, Bool.not_false, cond_true]
  rw [decide_eq_true c2, Bool.not_true, cond_false, start_spec 700 f z g hf.1 hf.2, Option.bind_some]
  obtain ⟨f', z', rfl, rfl, h512, h2z, hlz, hm⟩ := secOk_nat c2
  by_cases cg : 0 ≤ g
  case neg =>
    rw [decide_eq_false cg, cond_false, if_neg (fun h => cg h.2.1)]
    simp
  rw [decide_eq_true cg, cond_true]
  by_cases cg2 : g ≤ 1073741824
  case neg =>
    rw [if_neg (fun h => cg2 h.2.2)]
    simp [cg2]
  have hg : 0 ≤ g ∧ g ≤ 1073741824 := ⟨cg, cg2⟩
  rw [if_pos ⟨c2.1, hg⟩]
  simp only [cg2, decide_true, Bool.not_true, cond_false]
  obtain ⟨e1, hmS⟩ := run_start d hm (by omega) (by omega) f' g hg (by omega)
  have e1' : jrun_t d [(false, ((f' : Int), unB (RM.textB 1 g 0 0 1))), (true, (0, []))] ((([(false, ((f' : Int), unB (RM.textB 1 g 0 0 1))), (true, (0, []))] : AcT).length : Nat) : Int) = some (ofDk ⟨(flat (dkOf d)).set f' (RM.textB 1 g 0 0 1), []⟩, 0) := e1
  rw [e1', Option.bind_some]
  have hfl := flat_len (dkOf d)
  have hSl : ((flat (dkOf d)).set f' (RM.textB 1 g 0 0 1)).length = (dkOf d).secs.length := by rw [List.length_set, hfl]
  have hSf : gB ((flat (dkOf d)).set f' (RM.textB 1 g 0 0 1)) f' = RM.textB 1 g 0 0 1 := by rw [gB_set, if_pos ⟨rfl, by omega⟩]
  have hSj : ∀ j, j ≠ f' → gB ((flat (dkOf d)).set f' (RM.textB 1 g 0 0 1)) j = gB (flat (dkOf d)) j := fun j hj => by rw [gB_set, if_neg (fun h => hj h.1.symm)]
  generalize (flat (dkOf d)).set f' (RM.textB 1 g 0 0 1) = S at *
  have hSs : smD (ofDk ⟨S, []⟩) := smD_of' (by show S.length ≤ _; omega) (Nat.zero_le _)
  have sS : secOk (dkOf (ofDk ⟨S, []⟩)) (f' : Int) (z' : Int) := by
    rw [dkOf_ofDk]
    exact ⟨c2.1, hmS, by show _ ≤ (S.length : Int); omega⟩
  have oc := open_clean 700 (by omega) (ofDk ⟨S, []⟩) hSs f' z' sS
  rw [dkOf_ofDk, flat_nil] at oc
  have eg := genB_text hg hSf
  have hb : begP S f' := by unfold begP; rw [eg]; exact hSf
  obtain ⟨o1, o2⟩ := oc.1 hb
  rw [o1, Option.bind_some]
  have hca : (ofDk ⟨S, []⟩).2 = [] := rfl
  have e9 : decide ((logT S f' z').1 = g) = true := decide_eq_true (by unfold logT; exact eg)
  simp only [decide_true, Bool.not_true, cond_false, e9, hca, List.length_nil, Int.natCast_zero]
  have w1 : IntKind.wrap .i64 ((f' : Int) + 1) = ((f' + 1 : Nat) : Int) := wrap_succ (by omega)
  rw [w1, letO_some]
  rcases starts_loop d hd hm g f' z' h512 hlz (ofDk ⟨S, []⟩).1 [] (logT S f' z').1 (logT S f' z').2.1 (logT S f' z').2.2 700 (f' + 1) (by omega) (by omega) with h | ⟨h, hno⟩
  · rw [h]; rfl
  · rw [h, Option.bind_some]
    simp only [Sum.elim_inr]
    obtain ⟨q1, q2⟩ := fresh_log (S := S) (f := f') (z := z') hg hSf (fun j h1 h2 => by rw [hSj j (by omega)]; exact hno j h1 h2)
    have eT : logT S f' z' = (g, ([], ((f' + 1 : Nat) : Int))) := by unfold logT; rw [eg, q1]; rfl
    rw [eT] at o2 ⊢
    simp only [List.length_nil, Int.natCast_zero, decide_true, cond_true, w1, letO_some]
    rw [q1, eg] at o2
    have o2' : jClean_t 700 ((ofDk ⟨S, []⟩).1, []) ((f' : Int), (z' : Int)) (g, ([], ((f' + 1 : Nat) : Int))) = some true := by
      rw [decide_eq_true (show cleanP S (f' + 1) (f' + z') g ([] : BL).length from q2)] at o2
      exact o2
    rw [o2']; rfl
/-! rows of additions -/
/-- a disk whose log is these items -/
structure rowI (B : BL) (z : Nat) (g : Int) (its : BL) : Prop where
  may : DM.mayD ⟨B, []⟩
  len : B.length = z
  gen : genB B 0 = g
  beg : begP B 0
  log : (logS B 0 z).1 = its
  cl : cleanP B (logS B 0 z).2 (0 + z) g its.length
end Ytabmdijfholakaa.AM
end Go.Proofs
