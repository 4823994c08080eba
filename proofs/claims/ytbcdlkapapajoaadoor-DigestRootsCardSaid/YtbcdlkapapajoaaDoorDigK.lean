/- Layer 12: roots: what functions come to, as plain functions of data: written by program (shal.py); the kernel checks it. -/
import Derived.Test.YtbcdlkapapajoaaDoorDigYAll
namespace Go.Proofs.YtbcdlkapapajoaaDoor.AM
open Go.RowKit
set_option linter.unusedVariables false
set_option maxRecDepth 20000
/-! armada/armadaref12.prime -/
@[reducible] def r12prime_sh0 : SSt := ⟨[(0, .one (.c (.d (.int .i64)))), (3, .one (.c (.d (.int .i64))))], [], []⟩
@[reducible] def r12prime_outs0 : List (Exit × SSt) := [(.ret, ⟨[(2, .one (.c (.d .bool)))], [], []⟩), (.exit 0, ⟨[(0, .one (.c (.d (.int .i64))))], [], []⟩)]
def r12prime_l0 (n : Nat) (rec : Int → Int → Option (((Bool × (Unit)) × (Unit) × (Unit)) ⊕ ((Int × (Unit)) × (Unit) × (Unit)))) (a1 : Int) (a2 : Int) : Option (((Bool × (Unit)) × (Unit) × (Unit)) ⊕ ((Int × (Unit)) × (Unit) × (Unit))) :=
  letO (IntKind.wrap .i64 (a2 * a2)) fun (n1 : Int) => (bif decide (n1 ≤ a1) then (remO a1 a2).bind fun (n2 : Int) => (bif decide (n2 = (0 : Int)) then some (Sum.inl ((false, ()), ((), ()))) else letO (IntKind.wrap .i64 (a2 + (1 : Int))) fun (n3 : Int) => rec a1 n3) else some (Sum.inr (((a1, ()), ((), ())))))
def r12prime_F0 (n : Nat) (rec : pSt r12prime_sh0 → Option (pOuts r12prime_outs0)) (p : pSt r12prime_sh0) : Option (pOuts r12prime_outs0) := r12prime_l0 n (fun a1 a2 => rec ((a1, (a2, ())), ((), ()))) p.1.1 p.1.2.1
def r12prime_loop0 (n m : Nat) (a1 : Int) (a2 : Int) : Option (((Bool × (Unit)) × (Unit) × (Unit)) ⊕ ((Int × (Unit)) × (Unit) × (Unit))) := iterF (r12prime_F0 n) m ((a1, (a2, ())), ((), ()))
theorem r12prime_loop0_succ (n m : Nat) (a1 : Int) (a2 : Int) : r12prime_loop0 n (m + 1) a1 a2 = r12prime_l0 n (fun a1 a2 => r12prime_loop0 n m a1 a2) a1 a2 := rfl
def r12prime_L0 (n : Nat) : LC := { sh := r12prime_sh0, outs := r12prime_outs0, F := iterF (r12prime_F0 n) n }
def r12prime_lts (n : Nat) : List LC := [r12prime_L0 n]
def r12prime_t (n : Nat) (a1 : Int) : Option (Bool) :=
  (r12prime_loop0 n n a1 (2 : Int)).bind fun (o4 : ((Bool × (Unit)) × (Unit) × (Unit)) ⊕ ((Int × (Unit)) × (Unit) × (Unit))) => Sum.elim (fun (q5 : (Bool × (Unit)) × (Unit) × (Unit)) => some q5.1.1) (fun (q6 : (Int × (Unit)) × (Unit) × (Unit)) => some (decide ((2 : Int) ≤ q6.1.1))) o4
def r12prime_fc (n : Nat) : FC := { f := 46, args := [.one (.c (.d (.int .i64)))], res := .one (.c (.d .bool)), F := fun p => r12prime_t n p }
def r12prime_ct (n : Nat) : List FC := []
theorem r12prime_ctok (n : Nat) {G : World → Prop} (hG : Know Inv G) : ∀ c ∈ r12prime_ct n, FCok Tryd.prog G c ∧ noTup c.args = true := (fun _ h => by cases h)
def r12prime_dh : Hints := []
theorem r12prime_dr : drB r12prime_dh (bodyOf Tryd.f46) = true := by kernel_rfl
theorem r12prime_eq0 (n : Nat) : ∀ rec p, r12prime_F0 n rec p = round Tryd.prog 17 (r12prime_ct n) (r12prime_lts n) r12prime_dh 1 r12prime_sh0 r12prime_outs0 (bodyAt 0 0 (bodyOf Tryd.f46)) rec p := by intro rec p; kernel_rfl
theorem r12prime_lok0 (n : Nat) {F : Fr} (hF : F.n = 17) (hK : Know Inv F.G) : LCok Tryd.prog F (r12prime_L0 n) (bodyAt 0 0 (bodyOf Tryd.f46)) :=
  loop_ok hF (by kernel_rfl) (r12prime_ctok n hK) (r12prime_eq0 n) (fuel := n) (fun _ => rfl) (lok_of fun j L h1 h2 h3 => absurd h2 (Nat.not_lt.2 (Nat.le_trans (by decide +kernel) h1))) (drB_at r12prime_dr)
theorem r12prime_eq (n : Nat) : ∀ a, (r12prime_fc n).F a = main Tryd.prog 17 (r12prime_ct n) (r12prime_lts n) r12prime_dh (bodyOf Tryd.f46) [.tmp 2] (r12prime_fc n).args (r12prime_fc n).res a := by intro a; kernel_rfl
theorem r12prime_ok (n : Nat) : FCall Inv Tryd.prog (r12prime_fc n) := fun G hG => ⟨⟨by kernel_rfl, fun a r h => main_ok (c := bodyOf Tryd.f46) Tryd.func46 (by kernel_rfl) (by kernel_rfl) (Nat.le_of_ble_eq_true (by kernel_rfl)) hG.st (by kernel_rfl) (rs := [.tmp 2]) (by kernel_rfl) (r12prime_ctok n hG) (lts := r12prime_lts n) (fun F hF hFG => have hK : Know Inv F.G := hFG ▸ hG; (lok_of (c := (bodyOf Tryd.f46)) (fun j L h1 h2 h3 => by
    have h2' : j < 1 := Nat.lt_of_lt_of_le h2 (by decide +kernel)
    match j, h1, h2', h3 with
    | 0, _, _, h3 => obtain rfl := Option.some.inj h3; exact (show bodyAt 0 0 (bodyOf Tryd.f46) = bodyAt 0 0 (bodyOf Tryd.f46) by kernel_rfl) ▸ r12prime_lok0 n hF hK
    | j + 1, _, h2', _ => exact absurd h2' (by omega)))) r12prime_dr ((r12prime_eq n a).symm.trans h)⟩, rfl⟩
/-! armada/armadaref12.primes -/
@[reducible] def r12primes_sh0 : SSt := ⟨[(0, .one (.c (.d (.int .i64)))), (3, .one (.c (.row 16))), (4, .one (.c (.d (.int .i64))))], [], [(16, ⟨3, true, (.int .i64)⟩)]⟩
@[reducible] def r12primes_outs0 : List (Exit × SSt) := [(.exit 0, ⟨[(3, .one (.c (.row 16)))], [], [(16, ⟨3, true, (.int .i64)⟩)]⟩)]
def r12primes_l0 (n : Nat) (rec : Int → Int → (List (Int)) → Option ((Unit × (Unit)) × (Unit) × ((List (Int)) × (Unit)))) (a1 : Int) (a2 : Int) (a3 : List (Int)) : Option ((Unit × (Unit)) × (Unit) × ((List (Int)) × (Unit))) :=
  (bif decide (((List.length a3 : Nat) : Int) < a1) then (r12prime_t n a2).bind fun (r1 : Bool) => (bif r1 then (appO 8 a3 ([a2] : List (Int))).bind fun (l2 : List (Int)) => letO (IntKind.wrap .i64 (a2 + (1 : Int))) fun (n3 : Int) => rec a1 n3 l2 else letO (IntKind.wrap .i64 (a2 + (1 : Int))) fun (n4 : Int) => rec a1 n4 a3) else some ((((), ()), ((), (a3, ())))))
def r12primes_F0 (n : Nat) (rec : pSt r12primes_sh0 → Option (pOuts r12primes_outs0)) (p : pSt r12primes_sh0) : Option (pOuts r12primes_outs0) := r12primes_l0 n (fun a1 a2 a3 => rec ((a1, ((), (a2, ()))), ((), (a3, ())))) p.1.1 p.1.2.2.1 p.2.2.1
def r12primes_loop0 (n m : Nat) (a1 : Int) (a2 : Int) (a3 : List (Int)) : Option ((Unit × (Unit)) × (Unit) × ((List (Int)) × (Unit))) := iterF (r12primes_F0 n) m ((a1, ((), (a2, ()))), ((), (a3, ())))
theorem r12primes_loop0_succ (n m : Nat) (a1 : Int) (a2 : Int) (a3 : List (Int)) : r12primes_loop0 n (m + 1) a1 a2 a3 = r12primes_l0 n (fun a1 a2 a3 => r12primes_loop0 n m a1 a2 a3) a1 a2 a3 := rfl
def r12primes_L0 (n : Nat) : LC := { sh := r12primes_sh0, outs := r12primes_outs0, F := iterF (r12primes_F0 n) n }
def r12primes_lts (n : Nat) : List LC := [r12primes_L0 n]
def r12primes_t (n : Nat) (a1 : Int) : Option (List (Int)) :=
  (r12primes_loop0 n n a1 (2 : Int) []).bind fun (o5 : (Unit × (Unit)) × (Unit) × ((List (Int)) × (Unit))) => some o5.2.2.1
def r12primes_fc (n : Nat) : FC := { f := 32, args := [.one (.c (.d (.int .i64)))], res := .one (.c (.d (.lst (.int .i64)))), F := fun p => r12primes_t n p }
def r12primes_ct (n : Nat) : List FC := [r12prime_fc n]
theorem r12primes_ctok (n : Nat) {G : World → Prop} (hG : Know Inv G) : ∀ c ∈ r12primes_ct n, FCok Tryd.prog G c ∧ noTup c.args = true := List.forall_mem_cons.2 ⟨r12prime_ok n G hG, (fun _ h => by cases h)⟩
def r12primes_dh : Hints := []
theorem r12primes_dr : drB r12primes_dh (bodyOf Tryd.f32) = true := by kernel_rfl
theorem r12primes_eq0 (n : Nat) : ∀ rec p, r12primes_F0 n rec p = round Tryd.prog 18 (r12primes_ct n) (r12primes_lts n) r12primes_dh 1 r12primes_sh0 r12primes_outs0 (bodyAt 0 0 (bodyOf Tryd.f32)) rec p := by intro rec p; kernel_rfl
theorem r12primes_lok0 (n : Nat) {F : Fr} (hF : F.n = 18) (hK : Know Inv F.G) : LCok Tryd.prog F (r12primes_L0 n) (bodyAt 0 0 (bodyOf Tryd.f32)) :=
  loop_ok hF (by kernel_rfl) (r12primes_ctok n hK) (r12primes_eq0 n) (fuel := n) (fun _ => rfl) (lok_of fun j L h1 h2 h3 => absurd h2 (Nat.not_lt.2 (Nat.le_trans (by decide +kernel) h1))) (drB_at r12primes_dr)
theorem r12primes_eq (n : Nat) : ∀ a, (r12primes_fc n).F a = main Tryd.prog 18 (r12primes_ct n) (r12primes_lts n) r12primes_dh (bodyOf Tryd.f32) [.tmp 2] (r12primes_fc n).args (r12primes_fc n).res a := by intro a; kernel_rfl
theorem r12primes_ok (n : Nat) : FCall Inv Tryd.prog (r12primes_fc n) := fun G hG => ⟨⟨by kernel_rfl, fun a r h => main_ok (c := bodyOf Tryd.f32) Tryd.func32 (by kernel_rfl) (by kernel_rfl) (Nat.le_of_ble_eq_true (by kernel_rfl)) hG.st (by kernel_rfl) (rs := [.tmp 2]) (by kernel_rfl) (r12primes_ctok n hG) (lts := r12primes_lts n) (fun F hF hFG => have hK : Know Inv F.G := hFG ▸ hG; (lok_of (c := (bodyOf Tryd.f32)) (fun j L h1 h2 h3 => by
    have h2' : j < 1 := Nat.lt_of_lt_of_le h2 (by decide +kernel)
    match j, h1, h2', h3 with
    | 0, _, _, h3 => obtain rfl := Option.some.inj h3; exact (show bodyAt 0 0 (bodyOf Tryd.f32) = bodyAt 0 0 (bodyOf Tryd.f32) by kernel_rfl) ▸ r12primes_lok0 n hF hK
    | j + 1, _, h2', _ => exact absurd h2' (by omega)))) r12primes_dr ((r12primes_eq n a).symm.trans h)⟩, rfl⟩
/-! armada/armadaref12.digits -/
@[reducible] def r12digits_sh0 : SSt := ⟨[(0, .one (.c (.d (.int .i64)))), (3, .one (.c (.row 16))), (4, .one (.c (.d (.int .i64))))], [], [(16, ⟨3, true, (.int .i64)⟩)]⟩
@[reducible] def r12digits_outs0 : List (Exit × SSt) := [(.exit 0, ⟨[(3, .one (.c (.row 16)))], [], [(16, ⟨3, true, (.int .i64)⟩)]⟩)]
def r12digits_l0 (n : Nat) (rec : Int → Int → (List (Int)) → Option ((Unit × (Unit)) × (Unit) × ((List (Int)) × (Unit)))) (a1 : Int) (a2 : Int) (a3 : List (Int)) : Option ((Unit × (Unit)) × (Unit) × ((List (Int)) × (Unit))) :=
  (bif decide (a2 < (4 : Int)) then letO (IntKind.wrap .i64 ((16 : Int) * a2)) fun (n1 : Int) => (shrO .i64 a1 n1).bind fun (n2 : Int) => letO (andI .i64 n2 (65535 : Int)) fun (n3 : Int) => (appO 8 a3 ([n3] : List (Int))).bind fun (l4 : List (Int)) => letO (IntKind.wrap .i64 (a2 + (1 : Int))) fun (n5 : Int) => rec a1 n5 l4 else some ((((), ()), ((), (a3, ())))))
def r12digits_F0 (n : Nat) (rec : pSt r12digits_sh0 → Option (pOuts r12digits_outs0)) (p : pSt r12digits_sh0) : Option (pOuts r12digits_outs0) := r12digits_l0 n (fun a1 a2 a3 => rec ((a1, ((), (a2, ()))), ((), (a3, ())))) p.1.1 p.1.2.2.1 p.2.2.1
def r12digits_loop0 (n m : Nat) (a1 : Int) (a2 : Int) (a3 : List (Int)) : Option ((Unit × (Unit)) × (Unit) × ((List (Int)) × (Unit))) := iterF (r12digits_F0 n) m ((a1, ((), (a2, ()))), ((), (a3, ())))
theorem r12digits_loop0_succ (n m : Nat) (a1 : Int) (a2 : Int) (a3 : List (Int)) : r12digits_loop0 n (m + 1) a1 a2 a3 = r12digits_l0 n (fun a1 a2 a3 => r12digits_loop0 n m a1 a2 a3) a1 a2 a3 := rfl
def r12digits_L0 (n : Nat) : LC := { sh := r12digits_sh0, outs := r12digits_outs0, F := iterF (r12digits_F0 n) n }
def r12digits_lts (n : Nat) : List LC := [r12digits_L0 n]
def r12digits_t (n : Nat) (a1 : Int) : Option (List (Int)) :=
  (r12digits_loop0 n n a1 (0 : Int) []).bind fun (o6 : (Unit × (Unit)) × (Unit) × ((List (Int)) × (Unit))) => some o6.2.2.1
def r12digits_fc (n : Nat) : FC := { f := 54, args := [.one (.c (.d (.int .i64)))], res := .one (.c (.d (.lst (.int .i64)))), F := fun p => r12digits_t n p }
def r12digits_ct (n : Nat) : List FC := []
theorem r12digits_ctok (n : Nat) {G : World → Prop} (hG : Know Inv G) : ∀ c ∈ r12digits_ct n, FCok Tryd.prog G c ∧ noTup c.args = true := (fun _ h => by cases h)
def r12digits_dh : Hints := []
theorem r12digits_dr : drB r12digits_dh (bodyOf Tryd.f54) = true := by kernel_rfl
theorem r12digits_eq0 (n : Nat) : ∀ rec p, r12digits_F0 n rec p = round Tryd.prog 18 (r12digits_ct n) (r12digits_lts n) r12digits_dh 1 r12digits_sh0 r12digits_outs0 (bodyAt 0 0 (bodyOf Tryd.f54)) rec p := by intro rec p; kernel_rfl
theorem r12digits_lok0 (n : Nat) {F : Fr} (hF : F.n = 18) (hK : Know Inv F.G) : LCok Tryd.prog F (r12digits_L0 n) (bodyAt 0 0 (bodyOf Tryd.f54)) :=
  loop_ok hF (by kernel_rfl) (r12digits_ctok n hK) (r12digits_eq0 n) (fuel := n) (fun _ => rfl) (lok_of fun j L h1 h2 h3 => absurd h2 (Nat.not_lt.2 (Nat.le_trans (by decide +kernel) h1))) (drB_at r12digits_dr)
theorem r12digits_eq (n : Nat) : ∀ a, (r12digits_fc n).F a = main Tryd.prog 18 (r12digits_ct n) (r12digits_lts n) r12digits_dh (bodyOf Tryd.f54) [.tmp 2] (r12digits_fc n).args (r12digits_fc n).res a := by intro a; kernel_rfl
theorem r12digits_ok (n : Nat) : FCall Inv Tryd.prog (r12digits_fc n) := fun G hG => ⟨⟨by kernel_rfl, fun a r h => main_ok (c := bodyOf Tryd.f54) Tryd.func54 (by kernel_rfl) (by kernel_rfl) (Nat.le_of_ble_eq_true (by kernel_rfl)) hG.st (by kernel_rfl) (rs := [.tmp 2]) (by kernel_rfl) (r12digits_ctok n hG) (lts := r12digits_lts n) (fun F hF hFG => have hK : Know Inv F.G := hFG ▸ hG; (lok_of (c := (bodyOf Tryd.f54)) (fun j L h1 h2 h3 => by
    have h2' : j < 1 := Nat.lt_of_lt_of_le h2 (by decide +kernel)
    match j, h1, h2', h3 with
    | 0, _, _, h3 => obtain rfl := Option.some.inj h3; exact (show bodyAt 0 0 (bodyOf Tryd.f54) = bodyAt 0 0 (bodyOf Tryd.f54) by kernel_rfl) ▸ r12digits_lok0 n hF hK
    | j + 1, _, h2', _ => exact absurd h2' (by omega)))) r12digits_dr ((r12digits_eq n a).symm.trans h)⟩, rfl⟩
/-! armada/armadaref12.times -/
@[reducible] def r12times_sh1 : SSt := ⟨[(0, .one (.c (.d (.lst (.int .i64))))), (1, .one (.c (.d (.lst (.int .i64))))), (5, .one (.c (.row 15))), (6, .one (.c (.d (.int .i64)))), (7, .one (.c (.d (.int .i64)))), (8, .one (.c (.d (.int .i64))))], [], [(15, ⟨3, true, (.int .i64)⟩)]⟩
@[reducible] def r12times_outs1 : List (Exit × SSt) := [(.exit 2, ⟨[(0, .one (.c (.d (.lst (.int .i64))))), (1, .one (.c (.d (.lst (.int .i64))))), (5, .one (.c (.row 15))), (6, .one (.c (.d (.int .i64)))), (7, .one (.c (.d (.int .i64))))], [], [(15, ⟨3, true, (.int .i64)⟩)]⟩)]
def r12times_l1 (n : Nat) (rec : (List (Int)) → (List (Int)) → Int → Int → Int → (List (Int)) → Option (((List (Int)) × ((List (Int)) × (Unit × (Int × (Int × (Unit)))))) × (Unit) × ((List (Int)) × (Unit)))) (a1 : List (Int)) (a2 : List (Int)) (a3 : Int) (a4 : Int) (a5 : Int) (a6 : List (Int)) : Option (((List (Int)) × ((List (Int)) × (Unit × (Int × (Int × (Unit)))))) × (Unit) × ((List (Int)) × (Unit))) :=
  (bif decide (a5 < ((List.length a2 : Nat) : Int)) then letO (IntKind.wrap .i64 (a3 + a5)) fun (n3 : Int) => (idxL a6 n3).bind fun (_x4 : Int) => (nth a6 (Int.toNat n3)).bind fun (x5 : Int) => (idxL a1 a3).bind fun (x6 : Int) => (idxL a2 a5).bind fun (x7 : Int) => letO (IntKind.wrap .i64 (x6 * x7)) fun (n8 : Int) => letO (IntKind.wrap .i64 (x5 + n8)) fun (n9 : Int) => letO (IntKind.wrap .i64 (n9 + a4)) fun (n10 : Int) => letO (IntKind.wrap .i64 (a3 + a5)) fun (n11 : Int) => letO (andI .i64 n10 (65535 : Int)) fun (n12 : Int) => (idxL a6 n11).bind fun (_x13 : Int) => (nth a6 (Int.toNat n11)).bind fun (x14 : Int) => (shrO .i64 n10 (16 : Int)).bind fun (n15 : Int) => letO (IntKind.wrap .i64 (a5 + (1 : Int))) fun (n16 : Int) => rec a1 a2 a3 n15 n16 (a6.set (Int.toNat n11) n12) else some (((a1, (a2, ((), (a3, (a4, ()))))), ((), (a6, ())))))
def r12times_F1 (n : Nat) (rec : pSt r12times_sh1 → Option (pOuts r12times_outs1)) (p : pSt r12times_sh1) : Option (pOuts r12times_outs1) := r12times_l1 n (fun a1 a2 a3 a4 a5 a6 => rec ((a1, (a2, ((), (a3, (a4, (a5, ())))))), ((), (a6, ())))) p.1.1 p.1.2.1 p.1.2.2.2.1 p.1.2.2.2.2.1 p.1.2.2.2.2.2.1 p.2.2.1
def r12times_loop1 (n m : Nat) (a1 : List (Int)) (a2 : List (Int)) (a3 : Int) (a4 : Int) (a5 : Int) (a6 : List (Int)) : Option (((List (Int)) × ((List (Int)) × (Unit × (Int × (Int × (Unit)))))) × (Unit) × ((List (Int)) × (Unit))) := iterF (r12times_F1 n) m ((a1, (a2, ((), (a3, (a4, (a5, ())))))), ((), (a6, ())))
theorem r12times_loop1_succ (n m : Nat) (a1 : List (Int)) (a2 : List (Int)) (a3 : Int) (a4 : Int) (a5 : Int) (a6 : List (Int)) : r12times_loop1 n (m + 1) a1 a2 a3 a4 a5 a6 = r12times_l1 n (fun a1 a2 a3 a4 a5 a6 => r12times_loop1 n m a1 a2 a3 a4 a5 a6) a1 a2 a3 a4 a5 a6 := rfl
def r12times_L1 (n : Nat) : LC := { sh := r12times_sh1, outs := r12times_outs1, F := iterF (r12times_F1 n) n }
@[reducible] def r12times_sh0 : SSt := ⟨[(0, .one (.c (.d (.lst (.int .i64))))), (1, .one (.c (.d (.lst (.int .i64))))), (5, .one (.c (.row 15))), (6, .one (.c (.d (.int .i64))))], [], [(15, ⟨3, true, (.int .i64)⟩)]⟩
@[reducible] def r12times_outs0 : List (Exit × SSt) := [(.exit 0, ⟨[(5, .one (.c (.row 15)))], [], [(15, ⟨3, true, (.int .i64)⟩)]⟩)]
def r12times_l0 (n : Nat) (rec : (List (Int)) → (List (Int)) → Int → (List (Int)) → Option ((Unit × (Unit)) × (Unit) × ((List (Int)) × (Unit)))) (a1 : List (Int)) (a2 : List (Int)) (a3 : Int) (a4 : List (Int)) : Option ((Unit × (Unit)) × (Unit) × ((List (Int)) × (Unit))) :=
  (bif decide (a3 < ((List.length a1 : Nat) : Int)) then (r12times_loop1 n n a1 a2 a3 (0 : Int) (0 : Int) a4).bind fun (o17 : ((List (Int)) × ((List (Int)) × (Unit × (Int × (Int × (Unit)))))) × (Unit) × ((List (Int)) × (Unit))) => letO (IntKind.wrap .i64 (o17.1.2.2.2.1 + ((List.length o17.1.2.1 : Nat) : Int))) fun (n18 : Int) => (idxL o17.2.2.1 n18).bind fun (_x19 : Int) => (nth o17.2.2.1 (Int.toNat n18)).bind fun (x20 : Int) => letO (IntKind.wrap .i64 (o17.1.2.2.2.1 + (1 : Int))) fun (n21 : Int) => rec o17.1.1 o17.1.2.1 n21 (o17.2.2.1.set (Int.toNat n18) o17.1.2.2.2.2.1) else some ((((), ()), ((), (a4, ())))))
def r12times_F0 (n : Nat) (rec : pSt r12times_sh0 → Option (pOuts r12times_outs0)) (p : pSt r12times_sh0) : Option (pOuts r12times_outs0) := r12times_l0 n (fun a1 a2 a3 a4 => rec ((a1, (a2, ((), (a3, ())))), ((), (a4, ())))) p.1.1 p.1.2.1 p.1.2.2.2.1 p.2.2.1
def r12times_loop0 (n m : Nat) (a1 : List (Int)) (a2 : List (Int)) (a3 : Int) (a4 : List (Int)) : Option ((Unit × (Unit)) × (Unit) × ((List (Int)) × (Unit))) := iterF (r12times_F0 n) m ((a1, (a2, ((), (a3, ())))), ((), (a4, ())))
theorem r12times_loop0_succ (n m : Nat) (a1 : List (Int)) (a2 : List (Int)) (a3 : Int) (a4 : List (Int)) : r12times_loop0 n (m + 1) a1 a2 a3 a4 = r12times_l0 n (fun a1 a2 a3 a4 => r12times_loop0 n m a1 a2 a3 a4) a1 a2 a3 a4 := rfl
def r12times_L0 (n : Nat) : LC := { sh := r12times_sh0, outs := r12times_outs0, F := iterF (r12times_F0 n) n }
def r12times_lts (n : Nat) : List LC := [r12times_L0 n, r12times_L1 n]
def r12times_t (n : Nat) (a1 : List (Int)) (a2 : List (Int)) : Option (List (Int)) :=
  letO (IntKind.wrap .i64 (((List.length a1 : Nat) : Int) + ((List.length a2 : Nat) : Int))) fun (n1 : Int) => (makO 8 0 n1).bind fun (l2 : List (Int)) => (r12times_loop0 n n a1 a2 (0 : Int) l2).bind fun (o22 : (Unit × (Unit)) × (Unit) × ((List (Int)) × (Unit))) => some o22.2.2.1
def r12times_fc (n : Nat) : FC := { f := 56, args := [.one (.c (.d (.lst (.int .i64)))), .one (.c (.d (.lst (.int .i64))))], res := .one (.c (.d (.lst (.int .i64)))), F := fun p => r12times_t n p.1 p.2 }
def r12times_ct (n : Nat) : List FC := []
theorem r12times_ctok (n : Nat) {G : World → Prop} (hG : Know Inv G) : ∀ c ∈ r12times_ct n, FCok Tryd.prog G c ∧ noTup c.args = true := (fun _ h => by cases h)
def r12times_dh : Hints := [(9, [⟨116056878683145138260180992, 19342813113834066795298816, 0⟩, ⟨928455029464035206174605312, 154742504910672534362390528, 0⟩, ⟨7427640235712281649411522560, 1237940039285380274899124224, 0⟩, ⟨60813804429894306004419477504, 9903520314283042199192993792, 6⟩, ⟨485291838212983042564740349952, 79228162514264337593543950336, 15⟩, ⟨3882179963198952682821141921792, 633825300114114700748351602688, 31⟩, ⟨30423614405477505635920876929025, 5070602400912917605986812821504, 0⟩, ⟨243388915243820045087367015694336, 40564819207303340847894502572032, 0⟩, ⟨1992746743558776619152817438851072, 324518553658426726783156020576256, 192⟩, ⟨15901409129262909612374645008236544, 2596148429267413814265248164610048, 448⟩, ⟨124615124604835863084731911901282312, 20769187434139310514121985316880384, 0⟩, ⟨996920996838686904677855295227035648, 166153499473114484112975882535043072, 0⟩, ⟨8162290661616749032049940229533990912, 1329227995784915872903807060280344576, 3072⟩, ⟨65132171793460877772286545953736884224, 10633823966279326983230456482242756608, 7168⟩, ⟨521059970496116289592106632878059683840, 85070591730234615865843651857942052864, 16320⟩, ⟨4168458995415321477540453641787512193024, 680564733841876926926749214863536422912, 32767⟩, ⟨32667107224410092492483962313449750396928, 5444517870735015415413993718908291383296, 0⟩, ⟨267461940399857632282212441441369814204416, 43556142965880123323311949751266331066368, 131071⟩, ⟨43556142965880123323311949751267136372736, 134217728, 262143⟩])]
theorem r12times_dr : drB r12times_dh (bodyOf Tryd.f56) = true := by kernel_rfl
theorem r12times_eq1 (n : Nat) : ∀ rec p, r12times_F1 n rec p = round Tryd.prog 63 (r12times_ct n) (r12times_lts n) r12times_dh 2 r12times_sh1 r12times_outs1 (bodyAt 0 1 (bodyOf Tryd.f56)) rec p := by intro rec p; kernel_rfl
theorem r12times_eq0 (n : Nat) : ∀ rec p, r12times_F0 n rec p = round Tryd.prog 63 (r12times_ct n) (r12times_lts n) r12times_dh 1 r12times_sh0 r12times_outs0 (bodyAt 0 0 (bodyOf Tryd.f56)) rec p := by intro rec p; kernel_rfl
theorem r12times_lok1 (n : Nat) {F : Fr} (hF : F.n = 63) (hK : Know Inv F.G) : LCok Tryd.prog F (r12times_L1 n) (bodyAt 0 1 (bodyOf Tryd.f56)) :=
  loop_ok hF (by kernel_rfl) (r12times_ctok n hK) (r12times_eq1 n) (fuel := n) (fun _ => rfl) (lok_of fun j L h1 h2 h3 => absurd h2 (Nat.not_lt.2 (Nat.le_trans (by decide +kernel) h1))) (drB_at r12times_dr)
theorem r12times_lok0 (n : Nat) {F : Fr} (hF : F.n = 63) (hK : Know Inv F.G) : LCok Tryd.prog F (r12times_L0 n) (bodyAt 0 0 (bodyOf Tryd.f56)) :=
  loop_ok hF (by kernel_rfl) (r12times_ctok n hK) (r12times_eq0 n) (fuel := n) (fun _ => rfl) (lok_of (c := (bodyAt 0 0 (bodyOf Tryd.f56))) (fun j L h1 h2 h3 => by
    have h2' : j < 2 := Nat.lt_of_lt_of_le h2 (by decide +kernel)
    match j, h1, h2', h3 with
    | 0, h1, _, _ => exact absurd h1 (by decide)
    | 1, _, _, h3 => obtain rfl := Option.some.inj h3; exact (show bodyAt 0 1 (bodyOf Tryd.f56) = bodyAt 1 1 (bodyAt 0 0 (bodyOf Tryd.f56)) by kernel_rfl) ▸ r12times_lok1 n hF hK
    | j + 2, _, h2', _ => exact absurd h2' (by omega))) (drB_at r12times_dr)
theorem r12times_eq (n : Nat) : ∀ a, (r12times_fc n).F a = main Tryd.prog 63 (r12times_ct n) (r12times_lts n) r12times_dh (bodyOf Tryd.f56) [.tmp 4] (r12times_fc n).args (r12times_fc n).res a := by intro a; kernel_rfl
theorem r12times_ok (n : Nat) : FCall Inv Tryd.prog (r12times_fc n) := fun G hG => ⟨⟨by kernel_rfl, fun a r h => main_ok (c := bodyOf Tryd.f56) Tryd.func56 (by kernel_rfl) (by kernel_rfl) (Nat.le_of_ble_eq_true (by kernel_rfl)) hG.st (by kernel_rfl) (rs := [.tmp 4]) (by kernel_rfl) (r12times_ctok n hG) (lts := r12times_lts n) (fun F hF hFG => have hK : Know Inv F.G := hFG ▸ hG; (lok_of (c := (bodyOf Tryd.f56)) (fun j L h1 h2 h3 => by
    have h2' : j < 2 := Nat.lt_of_lt_of_le h2 (by decide +kernel)
    match j, h1, h2', h3 with
    | 0, _, _, h3 => obtain rfl := Option.some.inj h3; exact (show bodyAt 0 0 (bodyOf Tryd.f56) = bodyAt 0 0 (bodyOf Tryd.f56) by kernel_rfl) ▸ r12times_lok0 n hF hK
    | 1, _, _, h3 => obtain rfl := Option.some.inj h3; exact (show bodyAt 0 1 (bodyOf Tryd.f56) = bodyAt 0 1 (bodyOf Tryd.f56) by kernel_rfl) ▸ r12times_lok1 n hF hK
    | j + 2, _, h2', _ => exact absurd h2' (by omega)))) r12times_dr ((r12times_eq n a).symm.trans h)⟩, rfl⟩
/-! armada/armadaref12.atMost -/
@[reducible] def r12atMost_sh0 : SSt := ⟨[(0, .one (.c (.d (.lst (.int .i64))))), (1, .one (.c (.d (.int .i64)))), (2, .one (.c (.d (.int .i64)))), (7, .one (.c (.d (.int .i64))))], [], []⟩
@[reducible] def r12atMost_outs0 : List (Exit × SSt) := [(.ret, ⟨[(6, .one (.c (.d .bool)))], [], []⟩), (.exit 0, ⟨[], [], []⟩)]
def r12atMost_l0 (n : Nat) (rec : (List (Int)) → Int → Int → Int → Option (((Bool × (Unit)) × (Unit) × (Unit)) ⊕ ((Unit) × (Unit) × (Unit)))) (a1 : List (Int)) (a2 : Int) (a3 : Int) (a4 : Int) : Option (((Bool × (Unit)) × (Unit) × (Unit)) ⊕ ((Unit) × (Unit) × (Unit))) :=
  (bif decide ((0 : Int) ≤ a4) then letO (IntKind.wrap .i64 ((2 : Int) * a3)) fun (n2 : Int) => (bif decide (a4 = n2) then (idxL a1 a4).bind fun (x3 : Int) => (bif !decide (x3 = a2) then (idxL a1 a4).bind fun (x4 : Int) => some (Sum.inl ((decide (x4 < a2), ()), ((), ()))) else letO (IntKind.wrap .i64 (a4 - (1 : Int))) fun (n5 : Int) => rec a1 a2 a3 n5) else (idxL a1 a4).bind fun (x6 : Int) => (bif !decide (x6 = (0 : Int)) then (idxL a1 a4).bind fun (x7 : Int) => some (Sum.inl ((decide (x7 < (0 : Int)), ()), ((), ()))) else letO (IntKind.wrap .i64 (a4 - (1 : Int))) fun (n8 : Int) => rec a1 a2 a3 n8)) else some (Sum.inr (((), ((), ())))))
def r12atMost_F0 (n : Nat) (rec : pSt r12atMost_sh0 → Option (pOuts r12atMost_outs0)) (p : pSt r12atMost_sh0) : Option (pOuts r12atMost_outs0) := r12atMost_l0 n (fun a1 a2 a3 a4 => rec ((a1, (a2, (a3, (a4, ())))), ((), ()))) p.1.1 p.1.2.1 p.1.2.2.1 p.1.2.2.2.1
def r12atMost_loop0 (n m : Nat) (a1 : List (Int)) (a2 : Int) (a3 : Int) (a4 : Int) : Option (((Bool × (Unit)) × (Unit) × (Unit)) ⊕ ((Unit) × (Unit) × (Unit))) := iterF (r12atMost_F0 n) m ((a1, (a2, (a3, (a4, ())))), ((), ()))
theorem r12atMost_loop0_succ (n m : Nat) (a1 : List (Int)) (a2 : Int) (a3 : Int) (a4 : Int) : r12atMost_loop0 n (m + 1) a1 a2 a3 a4 = r12atMost_l0 n (fun a1 a2 a3 a4 => r12atMost_loop0 n m a1 a2 a3 a4) a1 a2 a3 a4 := rfl
def r12atMost_L0 (n : Nat) : LC := { sh := r12atMost_sh0, outs := r12atMost_outs0, F := iterF (r12atMost_F0 n) n }
def r12atMost_lts (n : Nat) : List LC := [r12atMost_L0 n]
def r12atMost_t (n : Nat) (a1 : List (Int)) (a2 : Int) (a3 : Int) : Option (Bool) :=
  letO (IntKind.wrap .i64 (((List.length a1 : Nat) : Int) - (1 : Int))) fun (n1 : Int) => (r12atMost_loop0 n n a1 a2 a3 n1).bind fun (o9 : ((Bool × (Unit)) × (Unit) × (Unit)) ⊕ ((Unit) × (Unit) × (Unit))) => Sum.elim (fun (q10 : (Bool × (Unit)) × (Unit) × (Unit)) => some q10.1.1) (fun (q11 : (Unit) × (Unit) × (Unit)) => some true) o9
def r12atMost_fc (n : Nat) : FC := { f := 55, args := [.one (.c (.d (.lst (.int .i64)))), .one (.c (.d (.int .i64))), .one (.c (.d (.int .i64)))], res := .one (.c (.d .bool)), F := fun p => r12atMost_t n p.1 p.2.1 p.2.2 }
def r12atMost_ct (n : Nat) : List FC := []
theorem r12atMost_ctok (n : Nat) {G : World → Prop} (hG : Know Inv G) : ∀ c ∈ r12atMost_ct n, FCok Tryd.prog G c ∧ noTup c.args = true := (fun _ h => by cases h)
def r12atMost_dh : Hints := []
theorem r12atMost_dr : drB r12atMost_dh (bodyOf Tryd.f55) = true := by kernel_rfl
theorem r12atMost_eq0 (n : Nat) : ∀ rec p, r12atMost_F0 n rec p = round Tryd.prog 33 (r12atMost_ct n) (r12atMost_lts n) r12atMost_dh 1 r12atMost_sh0 r12atMost_outs0 (bodyAt 0 0 (bodyOf Tryd.f55)) rec p := by intro rec p; kernel_rfl
theorem r12atMost_lok0 (n : Nat) {F : Fr} (hF : F.n = 33) (hK : Know Inv F.G) : LCok Tryd.prog F (r12atMost_L0 n) (bodyAt 0 0 (bodyOf Tryd.f55)) :=
  loop_ok hF (by kernel_rfl) (r12atMost_ctok n hK) (r12atMost_eq0 n) (fuel := n) (fun _ => rfl) (lok_of fun j L h1 h2 h3 => absurd h2 (Nat.not_lt.2 (Nat.le_trans (by decide +kernel) h1))) (drB_at r12atMost_dr)
theorem r12atMost_eq (n : Nat) : ∀ a, (r12atMost_fc n).F a = main Tryd.prog 33 (r12atMost_ct n) (r12atMost_lts n) r12atMost_dh (bodyOf Tryd.f55) [.tmp 6] (r12atMost_fc n).args (r12atMost_fc n).res a := by intro a; kernel_rfl
theorem r12atMost_ok (n : Nat) : FCall Inv Tryd.prog (r12atMost_fc n) := fun G hG => ⟨⟨by kernel_rfl, fun a r h => main_ok (c := bodyOf Tryd.f55) Tryd.func55 (by kernel_rfl) (by kernel_rfl) (Nat.le_of_ble_eq_true (by kernel_rfl)) hG.st (by kernel_rfl) (rs := [.tmp 6]) (by kernel_rfl) (r12atMost_ctok n hG) (lts := r12atMost_lts n) (fun F hF hFG => have hK : Know Inv F.G := hFG ▸ hG; (lok_of (c := (bodyOf Tryd.f55)) (fun j L h1 h2 h3 => by
    have h2' : j < 1 := Nat.lt_of_lt_of_le h2 (by decide +kernel)
    match j, h1, h2', h3 with
    | 0, _, _, h3 => obtain rfl := Option.some.inj h3; exact (show bodyAt 0 0 (bodyOf Tryd.f55) = bodyAt 0 0 (bodyOf Tryd.f55) by kernel_rfl) ▸ r12atMost_lok0 n hF hK
    | j + 1, _, h2', _ => exact absurd h2' (by omega)))) r12atMost_dr ((r12atMost_eq n a).symm.trans h)⟩, rfl⟩
/-! armada/armadaref12.cube -/
def r12cube_lts (n : Nat) : List LC := []
def r12cube_t (n : Nat) (a1 : Int) (a2 : Int) : Option (Bool) :=
  (r12digits_t n a1).bind fun (r1 : List (Int)) => (r12times_t n r1 r1).bind fun (r2 : List (Int)) => (r12times_t n r2 r1).bind fun (r3 : List (Int)) => ((r12atMost_fc n).F (r3, (a2, (3 : Int)))).bind fun (r4 : Bool) => some r4
def r12cube_fc (n : Nat) : FC := { f := 45, args := [.one (.c (.d (.int .i64))), .one (.c (.d (.int .i64)))], res := .one (.c (.d .bool)), F := fun p => r12cube_t n p.1 p.2 }
def r12cube_ct (n : Nat) : List FC := [r12digits_fc n, r12times_fc n, r12atMost_fc n]
theorem r12cube_ctok (n : Nat) {G : World → Prop} (hG : Know Inv G) : ∀ c ∈ r12cube_ct n, FCok Tryd.prog G c ∧ noTup c.args = true := List.forall_mem_cons.2 ⟨r12digits_ok n G hG, List.forall_mem_cons.2 ⟨r12times_ok n G hG, List.forall_mem_cons.2 ⟨r12atMost_ok n G hG, (fun _ h => by cases h)⟩⟩⟩
def r12cube_dh : Hints := []
theorem r12cube_dr : drB r12cube_dh (bodyOf Tryd.f45) = true := by kernel_rfl
theorem r12cube_eq (n : Nat) : ∀ a, (r12cube_fc n).F a = main Tryd.prog 15 (r12cube_ct n) (r12cube_lts n) r12cube_dh (bodyOf Tryd.f45) [.tmp 4] (r12cube_fc n).args (r12cube_fc n).res a := by intro a; kernel_rfl
theorem r12cube_ok (n : Nat) : FCall Inv Tryd.prog (r12cube_fc n) := fun G hG => ⟨⟨by kernel_rfl, fun a r h => main_ok (c := bodyOf Tryd.f45) Tryd.func45 (by kernel_rfl) (by kernel_rfl) (Nat.le_of_ble_eq_true (by kernel_rfl)) hG.st (by kernel_rfl) (rs := [.tmp 4]) (by kernel_rfl) (r12cube_ctok n hG) (lts := r12cube_lts n) (fun F hF hFG => have hK : Know Inv F.G := hFG ▸ hG; (lok_of fun j L h1 h2 h3 => absurd h2 (Nat.not_lt.2 (Nat.le_trans (by decide +kernel) h1)))) r12cube_dr ((r12cube_eq n a).symm.trans h)⟩, rfl⟩
/-! armada/armadaref12.square -/
def r12square_lts (n : Nat) : List LC := []
def r12square_t (n : Nat) (a1 : Int) (a2 : Int) : Option (Bool) :=
  (r12digits_t n a1).bind fun (r1 : List (Int)) => (r12times_t n r1 r1).bind fun (r2 : List (Int)) => ((r12atMost_fc n).F (r2, (a2, (2 : Int)))).bind fun (r3 : Bool) => some r3
def r12square_fc (n : Nat) : FC := { f := 44, args := [.one (.c (.d (.int .i64))), .one (.c (.d (.int .i64)))], res := .one (.c (.d .bool)), F := fun p => r12square_t n p.1 p.2 }
def r12square_ct (n : Nat) : List FC := [r12digits_fc n, r12times_fc n, r12atMost_fc n]
theorem r12square_ctok (n : Nat) {G : World → Prop} (hG : Know Inv G) : ∀ c ∈ r12square_ct n, FCok Tryd.prog G c ∧ noTup c.args = true := List.forall_mem_cons.2 ⟨r12digits_ok n G hG, List.forall_mem_cons.2 ⟨r12times_ok n G hG, List.forall_mem_cons.2 ⟨r12atMost_ok n G hG, (fun _ h => by cases h)⟩⟩⟩
def r12square_dh : Hints := []
theorem r12square_dr : drB r12square_dh (bodyOf Tryd.f44) = true := by kernel_rfl
theorem r12square_eq (n : Nat) : ∀ a, (r12square_fc n).F a = main Tryd.prog 13 (r12square_ct n) (r12square_lts n) r12square_dh (bodyOf Tryd.f44) [.tmp 4] (r12square_fc n).args (r12square_fc n).res a := by intro a; kernel_rfl
theorem r12square_ok (n : Nat) : FCall Inv Tryd.prog (r12square_fc n) := fun G hG => ⟨⟨by kernel_rfl, fun a r h => main_ok (c := bodyOf Tryd.f44) Tryd.func44 (by kernel_rfl) (by kernel_rfl) (Nat.le_of_ble_eq_true (by kernel_rfl)) hG.st (by kernel_rfl) (rs := [.tmp 4]) (by kernel_rfl) (r12square_ctok n hG) (lts := r12square_lts n) (fun F hF hFG => have hK : Know Inv F.G := hFG ▸ hG; (lok_of fun j L h1 h2 h3 => absurd h2 (Nat.not_lt.2 (Nat.le_trans (by decide +kernel) h1)))) r12square_dr ((r12square_eq n a).symm.trans h)⟩, rfl⟩
/-! armada/armadaref12.root -/
@[reducible] def r12root_sh0 : SSt := ⟨[(0, .one (.c (.d (.int .i64)))), (1, .one (.c (.d (.int .i64)))), (5, .one (.c (.d (.int .i64)))), (6, .one (.c (.d (.int .i64))))], [], []⟩
@[reducible] def r12root_outs0 : List (Exit × SSt) := [(.exit 0, ⟨[(5, .one (.c (.d (.int .i64))))], [], []⟩)]
def r12root_l0 (n : Nat) (rec : Int → Int → Int → Int → Option ((Int × (Unit)) × (Unit) × (Unit))) (a1 : Int) (a2 : Int) (a3 : Int) (a4 : Int) : Option ((Int × (Unit)) × (Unit) × (Unit)) :=
  (bif decide ((0 : Int) ≤ a4) then (shlO .i64 (1 : Int) a4).bind fun (n1 : Int) => letO (IntKind.wrap .i64 (a3 + n1)) fun (n2 : Int) => (bif decide (a2 = (2 : Int)) then (r12square_t n n2 a1).bind fun (r3 : Bool) => (bif r3 then letO (IntKind.wrap .i64 (a4 - (1 : Int))) fun (n4 : Int) => rec a1 a2 n2 n4 else (bif decide (a2 = (3 : Int)) then (r12cube_t n n2 a1).bind fun (r5 : Bool) => (bif r5 then letO (IntKind.wrap .i64 (a4 - (1 : Int))) fun (n6 : Int) => rec a1 a2 n2 n6 else letO (IntKind.wrap .i64 (a4 - (1 : Int))) fun (n7 : Int) => rec a1 a2 a3 n7) else letO (IntKind.wrap .i64 (a4 - (1 : Int))) fun (n8 : Int) => rec a1 a2 a3 n8)) else (bif decide (a2 = (3 : Int)) then (r12cube_t n n2 a1).bind fun (r9 : Bool) => (bif r9 then letO (IntKind.wrap .i64 (a4 - (1 : Int))) fun (n10 : Int) => rec a1 a2 n2 n10 else letO (IntKind.wrap .i64 (a4 - (1 : Int))) fun (n11 : Int) => rec a1 a2 a3 n11) else letO (IntKind.wrap .i64 (a4 - (1 : Int))) fun (n12 : Int) => rec a1 a2 a3 n12)) else some (((a3, ()), ((), ()))))
def r12root_F0 (n : Nat) (rec : pSt r12root_sh0 → Option (pOuts r12root_outs0)) (p : pSt r12root_sh0) : Option (pOuts r12root_outs0) := r12root_l0 n (fun a1 a2 a3 a4 => rec ((a1, (a2, (a3, (a4, ())))), ((), ()))) p.1.1 p.1.2.1 p.1.2.2.1 p.1.2.2.2.1
def r12root_loop0 (n m : Nat) (a1 : Int) (a2 : Int) (a3 : Int) (a4 : Int) : Option ((Int × (Unit)) × (Unit) × (Unit)) := iterF (r12root_F0 n) m ((a1, (a2, (a3, (a4, ())))), ((), ()))
theorem r12root_loop0_succ (n m : Nat) (a1 : Int) (a2 : Int) (a3 : Int) (a4 : Int) : r12root_loop0 n (m + 1) a1 a2 a3 a4 = r12root_l0 n (fun a1 a2 a3 a4 => r12root_loop0 n m a1 a2 a3 a4) a1 a2 a3 a4 := rfl
def r12root_L0 (n : Nat) : LC := { sh := r12root_sh0, outs := r12root_outs0, F := iterF (r12root_F0 n) n }
def r12root_lts (n : Nat) : List LC := [r12root_L0 n]
def r12root_t (n : Nat) (a1 : Int) (a2 : Int) : Option (Int) :=
  (r12root_loop0 n n a1 a2 (0 : Int) (36 : Int)).bind fun (o13 : (Int × (Unit)) × (Unit) × (Unit)) => (qMask_t o13.1.1).bind fun (r14 : Int) => some r14
def r12root_fc (n : Nat) : FC := { f := 31, args := [.one (.c (.d (.int .i64))), .one (.c (.d (.int .i64)))], res := .one (.c (.d (.int .i64))), F := fun p => r12root_t n p.1 p.2 }
def r12root_ct (n : Nat) : List FC := [r12square_fc n, r12cube_fc n, qMask_fc]
theorem r12root_ctok (n : Nat) {G : World → Prop} (hG : Know Inv G) : ∀ c ∈ r12root_ct n, FCok Tryd.prog G c ∧ noTup c.args = true := List.forall_mem_cons.2 ⟨r12square_ok n G hG, List.forall_mem_cons.2 ⟨r12cube_ok n G hG, List.forall_mem_cons.2 ⟨qMask_ok G hG, (fun _ h => by cases h)⟩⟩⟩
def r12root_dh : Hints := []
theorem r12root_dr : drB r12root_dh (bodyOf Tryd.f31) = true := by kernel_rfl
theorem r12root_eq0 (n : Nat) : ∀ rec p, r12root_F0 n rec p = round Tryd.prog 35 (r12root_ct n) (r12root_lts n) r12root_dh 1 r12root_sh0 r12root_outs0 (bodyAt 0 0 (bodyOf Tryd.f31)) rec p := by intro rec p; kernel_rfl
theorem r12root_lok0 (n : Nat) {F : Fr} (hF : F.n = 35) (hK : Know Inv F.G) : LCok Tryd.prog F (r12root_L0 n) (bodyAt 0 0 (bodyOf Tryd.f31)) :=
  loop_ok hF (by kernel_rfl) (r12root_ctok n hK) (r12root_eq0 n) (fuel := n) (fun _ => rfl) (lok_of fun j L h1 h2 h3 => absurd h2 (Nat.not_lt.2 (Nat.le_trans (by decide +kernel) h1))) (drB_at r12root_dr)
theorem r12root_eq (n : Nat) : ∀ a, (r12root_fc n).F a = main Tryd.prog 35 (r12root_ct n) (r12root_lts n) r12root_dh (bodyOf Tryd.f31) [.tmp 4] (r12root_fc n).args (r12root_fc n).res a := by intro a; kernel_rfl
theorem r12root_ok (n : Nat) : FCall Inv Tryd.prog (r12root_fc n) := fun G hG => ⟨⟨by kernel_rfl, fun a r h => main_ok (c := bodyOf Tryd.f31) Tryd.func31 (by kernel_rfl) (by kernel_rfl) (Nat.le_of_ble_eq_true (by kernel_rfl)) hG.st (by kernel_rfl) (rs := [.tmp 4]) (by kernel_rfl) (r12root_ctok n hG) (lts := r12root_lts n) (fun F hF hFG => have hK : Know Inv F.G := hFG ▸ hG; (lok_of (c := (bodyOf Tryd.f31)) (fun j L h1 h2 h3 => by
    have h2' : j < 1 := Nat.lt_of_lt_of_le h2 (by decide +kernel)
    match j, h1, h2', h3 with
    | 0, _, _, h3 => obtain rfl := Option.some.inj h3; exact (show bodyAt 0 0 (bodyOf Tryd.f31) = bodyAt 0 0 (bodyOf Tryd.f31) by kernel_rfl) ▸ r12root_lok0 n hF hK
    | j + 1, _, h2', _ => exact absurd h2' (by omega)))) r12root_dr ((r12root_eq n a).symm.trans h)⟩, rfl⟩
/-! armada/armadaref12.Root -/
def r12Root_lts (n : Nat) : List LC := []
def r12Root_t (n : Nat) (a1 : Int) (a2 : Int) : Option (Int) :=
  letO (IntKind.wrap .i64 (a1 + (1 : Int))) fun (n1 : Int) => (r12primes_t n n1).bind fun (r2 : List (Int)) => (idxL r2 a1).bind fun (x3 : Int) => (r12root_t n x3 a2).bind fun (r4 : Int) => some r4
def r12Root_fc (n : Nat) : FC := { f := 20, args := [.one (.c (.d (.int .i64))), .one (.c (.d (.int .i64)))], res := .one (.c (.d (.int .i64))), F := fun p => r12Root_t n p.1 p.2 }
def r12Root_ct (n : Nat) : List FC := [r12primes_fc n, r12root_fc n]
theorem r12Root_ctok (n : Nat) {G : World → Prop} (hG : Know Inv G) : ∀ c ∈ r12Root_ct n, FCok Tryd.prog G c ∧ noTup c.args = true := List.forall_mem_cons.2 ⟨r12primes_ok n G hG, List.forall_mem_cons.2 ⟨r12root_ok n G hG, (fun _ h => by cases h)⟩⟩
def r12Root_dh : Hints := []
theorem r12Root_dr : drB r12Root_dh (bodyOf Tryd.f20) = true := by kernel_rfl
theorem r12Root_eq (n : Nat) : ∀ a, (r12Root_fc n).F a = main Tryd.prog 13 (r12Root_ct n) (r12Root_lts n) r12Root_dh (bodyOf Tryd.f20) [.tmp 4] (r12Root_fc n).args (r12Root_fc n).res a := by intro a; kernel_rfl
theorem r12Root_ok (n : Nat) : FCall Inv Tryd.prog (r12Root_fc n) := fun G hG => ⟨⟨by kernel_rfl, fun a r h => main_ok (c := bodyOf Tryd.f20) Tryd.func20 (by kernel_rfl) (by kernel_rfl) (Nat.le_of_ble_eq_true (by kernel_rfl)) hG.st (by kernel_rfl) (rs := [.tmp 4]) (by kernel_rfl) (r12Root_ctok n hG) (lts := r12Root_lts n) (fun F hF hFG => have hK : Know Inv F.G := hFG ▸ hG; (lok_of fun j L h1 h2 h3 => absurd h2 (Nat.not_lt.2 (Nat.le_trans (by decide +kernel) h1)))) r12Root_dr ((r12Root_eq n a).symm.trans h)⟩, rfl⟩
/-! armada/armadalaw12.DigestRoots -/
def lDRoots_lts (n : Nat) : List LC := []
def lDRoots_t (n : Nat) (a1 : Int) : Option (Bool) :=
  (bif decide (a1 < (0 : Int)) then (lD12live_t n ).bind fun (r1 : Bool) => some r1 else (bif decide ((63 : Int) < a1) then (lD12live_t n ).bind fun (r2 : Bool) => some r2 else (makO 1 0 (64 : Int)).bind fun (l3 : List (Int)) => (r12H_t n ).bind fun (r4 : List (Int)) => (r12Bytes_t n r4).bind fun (r5 : List UInt8) => (fBlock_t r5 (List.map (fun n : Int => UInt8.ofNat n.toNat) l3)).bind fun (r6 : (List UInt8) × (Bool)) => (r12H_t n ).bind fun (r7 : List (Int)) => (r12Bytes_t n r7).bind fun (r8 : List UInt8) => (r12Block_t n r8 (List.map (fun n : Int => UInt8.ofNat n.toNat) l3)).bind fun (r9 : (List UInt8) × (Bool)) => (r12K_t n ).bind fun (r10 : List (Int)) => (idxL r10 a1).bind fun (x11 : Int) => ((r12Root_fc n).F (a1, (3 : Int))).bind fun (r12 : Int) => (bif decide (x11 = r12) then (r12H_t n ).bind fun (r13 : List (Int)) => (remO a1 (8 : Int)).bind fun (n14 : Int) => (idxL r13 n14).bind fun (x15 : Int) => (remO a1 (8 : Int)).bind fun (n16 : Int) => ((r12Root_fc n).F (n16, (2 : Int))).bind fun (r17 : Int) => (bif decide (x15 = r17) then (bif r6.2 then (bif r9.2 then (bif decide (r6.1 = r9.1) then (lD12live_t n ).bind fun (r18 : Bool) => some r18 else some false) else some false) else some false) else some false) else some false)))
def lDRoots_fc (n : Nat) : FC := { f := 5, args := [.one (.c (.d (.int .i64)))], res := .one (.c (.d .bool)), F := fun p => lDRoots_t n p }
def lDRoots_ct (n : Nat) : List FC := [lD12live_fc n, r12H_fc n, r12Bytes_fc n, fBlock_fc, r12Block_fc n, r12K_fc n, r12Root_fc n]
theorem lDRoots_ctok (n : Nat) {G : World → Prop} (hG : Know Inv G) : ∀ c ∈ lDRoots_ct n, FCok Tryd.prog G c ∧ noTup c.args = true := List.forall_mem_cons.2 ⟨lD12live_ok n G hG, List.forall_mem_cons.2 ⟨r12H_ok n G hG, List.forall_mem_cons.2 ⟨r12Bytes_ok n G hG, List.forall_mem_cons.2 ⟨fBlock_ok G hG, List.forall_mem_cons.2 ⟨r12Block_ok n G hG, List.forall_mem_cons.2 ⟨r12K_ok n G hG, List.forall_mem_cons.2 ⟨r12Root_ok n G hG, (fun _ h => by cases h)⟩⟩⟩⟩⟩⟩⟩
def lDRoots_dh : Hints := [(4, [⟨13510798882111488, 2251799813685248, 0⟩, ⟨110338190870577152, 18014398509481984, 1⟩, ⟨864831865943491072, 144115188075855872, 0⟩, ⟨7061784953205293056, 1152921504606846976, 4⟩, ⟨56511168124244983808, 9223372036854775808, 15⟩, ⟨9225060886715039744, 281474976710656, 31⟩, ⟨442722139244005949440, 73786976294838206464, 63⟩, ⟨3541775143627210620928, 590295810358705651712, 63⟩, ⟨73786976294838231040, 4096, 127⟩, ⟨590295810358705848320, 32768, 511⟩]), (5, [⟨226673591177742970257408, 37778931862957161709568, 0⟩, ⟨1851167661284900923768832, 302231454903657293676544, 1⟩, ⟨14507109835516287584829952, 2417851639229258349412352, 0⟩, ⟨118474730322374396609560576, 19342813113834066795298816, 4⟩, ⟨948100074032772930263318528, 154742504910672534362390528, 15⟩, ⟨154770839109569752233672704, 4722366482869645213696, 31⟩, ⟨7427644958078764519039959040, 1237940039285380274899124224, 63⟩, ⟨59421126608064736064803176448, 9903520314283042199192993792, 63⟩, ⟨1237940039285380274900697088, 262144, 127⟩, ⟨9903520314283042199205576704, 2097152, 511⟩]), (6, [⟨475368975085586025561263702016, 79228162514264337593543950336, 0⟩, ⟨3802951800684688204490109616129, 633825300114114700748351602688, 0⟩, ⟨31136667868105884674262772482048, 5070602400912917605986812821504, 3⟩, ⟨248459517644732962693353828253696, 40564819207303340847894502572032, 7⟩, ⟨1947111321950560360698936123457537, 324518553658426726783156020576256, 0⟩, ⟨15901409129262909612374645008236544, 2596148429267413814265248164610048, 17⟩, ⟨127251837853310580239845054568464384, 20769187434139310514121985316880384, 63⟩, ⟨1017690184272826215191977280527138816, 166153499473114484112975882535043072, 127⟩, ⟨8141521474182609721535818244217110528, 1329227995784915872903807060280344576, 255⟩, ⟨63969097297149076383495714775991582721, 10633823966279326983230456482242756608, 255⟩, ⟨521223527847160136662405343512430116864, 85070591730234615865843651857942052864, 767⟩, ⟨4169954376276754207783355723981975977984, 680564733841876926926749214863536422912, 2047⟩, ⟨33347838111751442533894824504195819765760, 5444517870735015415413993718908291383296, 4095⟩, ⟨261337023948780213054355811483480521441281, 43556142965880123323311949751266331066368, 255⟩, ⟨2134251171481625515956769650787932757295104, 348449143727040986586495598010130648530944, 8447⟩, ⟨17074008208778507815852768415472284313059328, 2787593149816327892691964784081045188247552, 25087⟩, ⟨136597509025024301230436172526666005050556416, 22300745198530623141535718272648361505980416, 65535⟩, ⟨1092736514894154033408364679472745596328083456, 178405961588244985132285746181186892047843328, 131071⟩, ⟨8741892117824004271482001562878157710344323072, 1427247692705959881058285969449495136382746624, 262143⟩, ⟨69935136942592034171856012503025261682754617344, 11417981541647679048466287755595961091061972992, 524287⟩, ⟨560908343233442233255906385993651588598419423232, 91343852333181432387730302044767688728495783936, 1048575⟩, ⟨4475848764325890186998784800193616747696293412864, 730750818665451459101842416358141509827966271488, 2097151⟩, ⟨35806790114607121495990278401548933981570349400064, 5846006549323611672814739330865132078623730171904, 4194303⟩, ⟨287185071735522423427024069628749613362390744694784, 46768052394588893382517914646921056628989841375232, 8388607⟩, ⟨2291634567334855775743377817699131774820502227386368, 374144419156711147060143317175368453031918731001856, 16777215⟩, ⟨18333076538678846205947022541593054198564017819095040, 2993155353253689176481146537402947624255349848014848, 33554431⟩, ⟨144045601375333791618155177112516854417288711435976704, 23945242826029513411849172299223580994042798784118784, 33554431⟩, ⟨1176684198247856557504150732516533784785384409000837120, 191561942608236107294793378393788647952342390272950272, 134217727⟩, ⟨9386909332222725968591935684612819118117809042105565184, 1532495540865888858358347027150309183618739122183602176, 268435455⟩, ⟨75092281502428554059559004330365149997318216986996506624, 12259964326927110866866776217202473468949912977468817408, 536870911⟩, ⟨600738252019428432476472034642921199978545735895972052992, 98079714615416886934934209737619787751599303819750539264, 1073741823⟩, ⟨4818165980482354570678643053360572073297315800145245241344, 784637716923335095479473677900958302012794430558004314112, 2147483647⟩, ⟨784637716923335095479473677900958302012794430558004314496, 64, 4294967295⟩]), (1000006, [])]
theorem lDRoots_dr : drB lDRoots_dh (bodyOf Tryd.f5) = true := by kernel_rfl
theorem lDRoots_eq (n : Nat) : ∀ a, (lDRoots_fc n).F a = main Tryd.prog 64 (lDRoots_ct n) (lDRoots_lts n) lDRoots_dh (bodyOf Tryd.f5) [.tmp 2] (lDRoots_fc n).args (lDRoots_fc n).res a := by intro a; kernel_rfl
theorem lDRoots_ok (n : Nat) : FCall Inv Tryd.prog (lDRoots_fc n) := fun G hG => ⟨⟨by kernel_rfl, fun a r h => main_ok (c := bodyOf Tryd.f5) Tryd.func5 (by kernel_rfl) (by kernel_rfl) (Nat.le_of_ble_eq_true (by kernel_rfl)) hG.st (by kernel_rfl) (rs := [.tmp 2]) (by kernel_rfl) (lDRoots_ctok n hG) (lts := lDRoots_lts n) (fun F hF hFG => have hK : Know Inv F.G := hFG ▸ hG; (lok_of fun j L h1 h2 h3 => absurd h2 (Nat.not_lt.2 (Nat.le_trans (by decide +kernel) h1)))) lDRoots_dr ((lDRoots_eq n a).symm.trans h)⟩, rfl⟩
end Go.Proofs.YtbcdlkapapajoaaDoor.AM
