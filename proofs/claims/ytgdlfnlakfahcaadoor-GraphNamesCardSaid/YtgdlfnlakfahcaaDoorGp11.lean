/- One text of GraG2, VerR, MpP2, GraM, GraP1 (mk/pack.py). -/
import Derived.Test.YtgdlfnlakfahcaaDoorGp10
import Derived.Test.YtgdlfnlakfahcaaDoorGp8
import Derived.Test.YtgdlfnlakfahcaaDoorGp9
/- Layer 16, the document: what functions come to, as plain functions of data: written by program (shal.py); the kernel checks it. -/
namespace Go.Proofs.YtgdlfnlakfahcaaDoor.AM
open Go.RowKit
set_option linter.unusedVariables false
set_option maxRecDepth 20000
/-! armada/armadaref16.Same -/
@[reducible] def r16Same_sh0 : SSt := ⟨[(0, .one (.c (.d (.lst (.int .i64))))), (1, .one (.c (.d (.lst (.int .i64))))), (5, .one (.c (.d (.int .i64))))], [], []⟩
@[reducible] def r16Same_outs0 : List (Exit × SSt) := [(.ret, ⟨[(4, .one (.c (.d .bool)))], [], []⟩), (.exit 0, ⟨[], [], []⟩)]
def r16Same_l0 (n : Nat) (rec : (List (Int)) → (List (Int)) → Int → Option (((Bool × (Unit)) × (Unit) × (Unit)) ⊕ ((Unit) × (Unit) × (Unit)))) (a1 : List (Int)) (a2 : List (Int)) (a3 : Int) : Option (((Bool × (Unit)) × (Unit) × (Unit)) ⊕ ((Unit) × (Unit) × (Unit))) :=
  (bif decide (a3 < ((List.length a1 : Nat) : Int)) then (idxL a1 a3).bind fun (x1 : Int) => (idxL a2 a3).bind fun (x2 : Int) => (bif !decide (x1 = x2) then some (Sum.inl ((false, ()), ((), ()))) else letO (IntKind.wrap .i64 (a3 + (1 : Int))) fun (n3 : Int) => rec a1 a2 n3) else some (Sum.inr (((), ((), ())))))
def r16Same_F0 (n : Nat) (rec : pSt r16Same_sh0 → Option (pOuts r16Same_outs0)) (p : pSt r16Same_sh0) : Option (pOuts r16Same_outs0) := r16Same_l0 n (fun a1 a2 a3 => rec ((a1, (a2, (a3, ()))), ((), ()))) p.1.1 p.1.2.1 p.1.2.2.1
def r16Same_loop0 (n m : Nat) (a1 : List (Int)) (a2 : List (Int)) (a3 : Int) : Option (((Bool × (Unit)) × (Unit) × (Unit)) ⊕ ((Unit) × (Unit) × (Unit))) := iterF (r16Same_F0 n) m ((a1, (a2, (a3, ()))), ((), ()))
theorem r16Same_loop0_succ (n m : Nat) (a1 : List (Int)) (a2 : List (Int)) (a3 : Int) : r16Same_loop0 n (m + 1) a1 a2 a3 = r16Same_l0 n (fun a1 a2 a3 => r16Same_loop0 n m a1 a2 a3) a1 a2 a3 := rfl
def r16Same_L0 (n : Nat) : LC := { sh := r16Same_sh0, outs := r16Same_outs0, F := iterF (r16Same_F0 n) n }
def r16Same_lts (n : Nat) : List LC := [r16Same_L0 n]
def r16Same_t (n : Nat) (a1 : List (Int)) (a2 : List (Int)) : Option (Bool) :=
  (bif !decide (((List.length a1 : Nat) : Int) = ((List.length a2 : Nat) : Int)) then some false else (r16Same_loop0 n n a1 a2 (0 : Int)).bind fun (o4 : ((Bool × (Unit)) × (Unit) × (Unit)) ⊕ ((Unit) × (Unit) × (Unit))) => Sum.elim (fun (q5 : (Bool × (Unit)) × (Unit) × (Unit)) => some q5.1.1) (fun (q6 : (Unit) × (Unit) × (Unit)) => some true) o4)
def r16Same_fc (n : Nat) : FC := { f := 7, args := [.one (.c (.d (.lst (.int .i64)))), .one (.c (.d (.lst (.int .i64))))], res := .one (.c (.d .bool)), F := fun p => r16Same_t n p.1 p.2 }
def r16Same_ct (n : Nat) : List FC := []
theorem r16Same_ctok (n : Nat) {G : World → Prop} (hG : Know Inv G) : ∀ c ∈ r16Same_ct n, FCok Tryd.prog G c ∧ noTup c.args = true := (fun _ h => by cases h)
def r16Same_dh : Hints := [(6, [⟨13510798882111489, 2251799813685248, 0⟩, ⟨108086391056924672, 18014398509481984, 0⟩, ⟨884957326778302464, 144115188075855872, 3⟩, ⟨7061644215716937728, 1152921504606846976, 7⟩, ⟨55340232221128654856, 9223372036854775808, 0⟩, ⟨442721857769029271552, 73786976294838206464, 0⟩, ⟨3624785210483926892544, 590295810358705651712, 48⟩, ⟨28924494707576576933888, 4722366482869645213696, 112⟩, ⟨231397110582117222318080, 37778931862957161709568, 255⟩])]
theorem r16Same_dr : drB r16Same_dh (bodyOf Tryd.f7) = true := by kernel_rfl
theorem r16Same_eq0 (n : Nat) : ∀ rec p, r16Same_F0 n rec p = round Tryd.prog 26 (r16Same_ct n) (r16Same_lts n) r16Same_dh 1 r16Same_sh0 r16Same_outs0 (bodyAt 0 0 (bodyOf Tryd.f7)) rec p := by intro rec p; kernel_rfl
theorem r16Same_lok0 (n : Nat) {F : Fr} (hF : F.n = 26) (hK : Know Inv F.G) : LCok Tryd.prog F (r16Same_L0 n) (bodyAt 0 0 (bodyOf Tryd.f7)) :=
  loop_ok hF (by kernel_rfl) (r16Same_ctok n hK) (r16Same_eq0 n) (fuel := n) (fun _ => rfl) (lok_of fun j L h1 h2 h3 => absurd h2 (Nat.not_lt.2 (Nat.le_trans (by decide +kernel) h1))) (drB_at r16Same_dr)
theorem r16Same_eq (n : Nat) : ∀ a, (r16Same_fc n).F a = main Tryd.prog 26 (r16Same_ct n) (r16Same_lts n) r16Same_dh (bodyOf Tryd.f7) [.tmp 4] (r16Same_fc n).args (r16Same_fc n).res a := by intro a; kernel_rfl
theorem r16Same_ok (n : Nat) : FCall Inv Tryd.prog (r16Same_fc n) := fun G hG => ⟨⟨by kernel_rfl, fun a r h => main_ok (c := bodyOf Tryd.f7) Tryd.func7 (by kernel_rfl) (by kernel_rfl) (Nat.le_of_ble_eq_true (by kernel_rfl)) hG.st (by kernel_rfl) (rs := [.tmp 4]) (by kernel_rfl) (r16Same_ctok n hG) (lts := r16Same_lts n) (fun F hF hFG => have hK : Know Inv F.G := hFG ▸ hG; (lok_of (c := (bodyOf Tryd.f7)) (fun j L h1 h2 h3 => by
    have h2' : j < 1 := Nat.lt_of_lt_of_le h2 (by decide +kernel)
    match j, h1, h2', h3 with
    | 0, _, _, h3 => obtain rfl := Option.some.inj h3; exact (show bodyAt 0 0 (bodyOf Tryd.f7) = bodyAt 0 0 (bodyOf Tryd.f7) by kernel_rfl) ▸ r16Same_lok0 n hF hK
    | j + 1, _, h2', _ => exact absurd h2' (by omega)))) r16Same_dr ((r16Same_eq n a).symm.trans h)⟩, rfl⟩
/-! armada/armadaref16.Small -/
@[reducible] def r16Small_sh1 : SSt := ⟨[(0, .one (.c (.d (.lst (.prod .str (.prod .str (.lst (.prod .str (.prod (.int .i64) (.prod (.int .i64) (.prod (.int .i64) (.prod .str .str)))))))))))), (3, .one (.c (.d (.int .i64)))), (4, .one (.c (.d (.int .i64)))), (20, .one (.c (.d (.lst (.prod .str (.prod .str (.lst (.prod .str (.prod (.int .i64) (.prod (.int .i64) (.prod (.int .i64) (.prod .str .str)))))))))))), (21, .one (.c (.d (.int .i64)))), (24, .one (.c (.d .str))), (25, .one (.c (.d (.int .i64)))), (26, .one (.c (.d .bool))), (29, .one (.c (.d (.lst (.prod .str (.prod .str (.lst (.prod .str (.prod (.int .i64) (.prod (.int .i64) (.prod (.int .i64) (.prod .str .str)))))))))))), (30, .one (.c (.d (.int .i64)))), (33, .one (.c (.d (.lst (.prod .str (.prod (.int .i64) (.prod (.int .i64) (.prod (.int .i64) (.prod .str .str))))))))), (34, .one (.c (.d (.int .i64)))), (35, .one (.c (.d .bool)))], [], []⟩
@[reducible] def r16Small_outs1 : List (Exit × SSt) := [(.ret, ⟨[(2, .one (.c (.d .bool)))], [], []⟩), (.exit 2, ⟨[(0, .one (.c (.d (.lst (.prod .str (.prod .str (.lst (.prod .str (.prod (.int .i64) (.prod (.int .i64) (.prod (.int .i64) (.prod .str .str)))))))))))), (3, .one (.c (.d (.int .i64)))), (20, .one (.c (.d (.lst (.prod .str (.prod .str (.lst (.prod .str (.prod (.int .i64) (.prod (.int .i64) (.prod (.int .i64) (.prod .str .str)))))))))))), (21, .one (.c (.d (.int .i64)))), (24, .one (.c (.d .str))), (25, .one (.c (.d (.int .i64)))), (26, .one (.c (.d .bool))), (29, .one (.c (.d (.lst (.prod .str (.prod .str (.lst (.prod .str (.prod (.int .i64) (.prod (.int .i64) (.prod (.int .i64) (.prod .str .str)))))))))))), (30, .one (.c (.d (.int .i64)))), (33, .one (.c (.d (.lst (.prod .str (.prod (.int .i64) (.prod (.int .i64) (.prod (.int .i64) (.prod .str .str))))))))), (34, .one (.c (.d (.int .i64)))), (35, .one (.c (.d .bool)))], [], []⟩)]
def r16Small_l1 (n : Nat) (rec : (List (List UInt8 × (List UInt8 × (List (List UInt8 × ((Int) × ((Int) × ((Int) × (List UInt8 × (List UInt8)))))))))) → Int → Int → (List (List UInt8 × (List UInt8 × (List (List UInt8 × ((Int) × ((Int) × ((Int) × (List UInt8 × (List UInt8)))))))))) → Int → (List UInt8) → Int → Bool → (List (List UInt8 × (List UInt8 × (List (List UInt8 × ((Int) × ((Int) × ((Int) × (List UInt8 × (List UInt8)))))))))) → Int → (List (List UInt8 × ((Int) × ((Int) × ((Int) × (List UInt8 × (List UInt8))))))) → Int → Bool → Option (((Bool × (Unit)) × (Unit) × (Unit)) ⊕ (((List (List UInt8 × (List UInt8 × (List (List UInt8 × ((Int) × ((Int) × ((Int) × (List UInt8 × (List UInt8)))))))))) × (Int × ((List (List UInt8 × (List UInt8 × (List (List UInt8 × ((Int) × ((Int) × ((Int) × (List UInt8 × (List UInt8)))))))))) × (Int × ((List UInt8) × (Int × (Bool × ((List (List UInt8 × (List UInt8 × (List (List UInt8 × ((Int) × ((Int) × ((Int) × (List UInt8 × (List UInt8)))))))))) × (Int × ((List (List UInt8 × ((Int) × ((Int) × ((Int) × (List UInt8 × (List UInt8))))))) × (Int × (Bool × (Unit))))))))))))) × (Unit) × (Unit)))) (a1 : List (List UInt8 × (List UInt8 × (List (List UInt8 × ((Int) × ((Int) × ((Int) × (List UInt8 × (List UInt8)))))))))) (a2 : Int) (a3 : Int) (a4 : List (List UInt8 × (List UInt8 × (List (List UInt8 × ((Int) × ((Int) × ((Int) × (List UInt8 × (List UInt8)))))))))) (a5 : Int) (a6 : List UInt8) (a7 : Int) (a8 : Bool) (a9 : List (List UInt8 × (List UInt8 × (List (List UInt8 × ((Int) × ((Int) × ((Int) × (List UInt8 × (List UInt8)))))))))) (a10 : Int) (a11 : List (List UInt8 × ((Int) × ((Int) × ((Int) × (List UInt8 × (List UInt8))))))) (a12 : Int) (a13 : Bool) : Option (((Bool × (Unit)) × (Unit) × (Unit)) ⊕ (((List (List UInt8 × (List UInt8 × (List (List UInt8 × ((Int) × ((Int) × ((Int) × (List UInt8 × (List UInt8)))))))))) × (Int × ((List (List UInt8 × (List UInt8 × (List (List UInt8 × ((Int) × ((Int) × ((Int) × (List UInt8 × (List UInt8)))))))))) × (Int × ((List UInt8) × (Int × (Bool × ((List (List UInt8 × (List UInt8 × (List (List UInt8 × ((Int) × ((Int) × ((Int) × (List UInt8 × (List UInt8)))))))))) × (Int × ((List (List UInt8 × ((Int) × ((Int) × ((Int) × (List UInt8 × (List UInt8))))))) × (Int × (Bool × (Unit))))))))))))) × (Unit) × (Unit))) :=
  (idxL a1 a2).bind fun (x4 : List UInt8 × (List UInt8 × (List (List UInt8 × ((Int) × ((Int) × ((Int) × (List UInt8 × (List UInt8))))))))) => (bif decide (a3 < ((List.length x4.2.2 : Nat) : Int)) then (idxL a1 a2).bind fun (x5 : List UInt8 × (List UInt8 × (List (List UInt8 × ((Int) × ((Int) × ((Int) × (List UInt8 × (List UInt8))))))))) => (idxL x5.2.2 a3).bind fun (x6 : List UInt8 × ((Int) × ((Int) × ((Int) × (List UInt8 × (List UInt8)))))) => (bif decide ((200 : Int) < ((List.length x6.1 : Nat) : Int)) then some (Sum.inl ((false, ()), ((), ()))) else (bif decide ((200 : Int) < ((List.length x6.2.2.2.2.1 : Nat) : Int)) then some (Sum.inl ((false, ()), ((), ()))) else (bif decide ((200 : Int) < ((List.length x6.2.2.2.2.2 : Nat) : Int)) then some (Sum.inl ((false, ()), ((), ()))) else letO (IntKind.wrap .i64 (a3 + (1 : Int))) fun (n7 : Int) => rec a1 a2 n7 a4 a5 a6 a7 a8 a9 a10 a11 a12 a13))) else some (Sum.inr (((a1, (a2, (a4, (a5, (a6, (a7, (a8, (a9, (a10, (a11, (a12, (a13, ())))))))))))), ((), ())))))
def r16Small_F1 (n : Nat) (rec : pSt r16Small_sh1 → Option (pOuts r16Small_outs1)) (p : pSt r16Small_sh1) : Option (pOuts r16Small_outs1) := r16Small_l1 n (fun a1 a2 a3 a4 a5 a6 a7 a8 a9 a10 a11 a12 a13 => rec ((a1, (a2, (a3, (a4, (a5, (a6, (a7, (a8, (a9, (a10, (a11, (a12, (a13, ()))))))))))))), ((), ()))) p.1.1 p.1.2.1 p.1.2.2.1 p.1.2.2.2.1 p.1.2.2.2.2.1 p.1.2.2.2.2.2.1 p.1.2.2.2.2.2.2.1 p.1.2.2.2.2.2.2.2.1 p.1.2.2.2.2.2.2.2.2.1 p.1.2.2.2.2.2.2.2.2.2.1 p.1.2.2.2.2.2.2.2.2.2.2.1 p.1.2.2.2.2.2.2.2.2.2.2.2.1 p.1.2.2.2.2.2.2.2.2.2.2.2.2.1
def r16Small_loop1 (n m : Nat) (a1 : List (List UInt8 × (List UInt8 × (List (List UInt8 × ((Int) × ((Int) × ((Int) × (List UInt8 × (List UInt8)))))))))) (a2 : Int) (a3 : Int) (a4 : List (List UInt8 × (List UInt8 × (List (List UInt8 × ((Int) × ((Int) × ((Int) × (List UInt8 × (List UInt8)))))))))) (a5 : Int) (a6 : List UInt8) (a7 : Int) (a8 : Bool) (a9 : List (List UInt8 × (List UInt8 × (List (List UInt8 × ((Int) × ((Int) × ((Int) × (List UInt8 × (List UInt8)))))))))) (a10 : Int) (a11 : List (List UInt8 × ((Int) × ((Int) × ((Int) × (List UInt8 × (List UInt8))))))) (a12 : Int) (a13 : Bool) : Option (((Bool × (Unit)) × (Unit) × (Unit)) ⊕ (((List (List UInt8 × (List UInt8 × (List (List UInt8 × ((Int) × ((Int) × ((Int) × (List UInt8 × (List UInt8)))))))))) × (Int × ((List (List UInt8 × (List UInt8 × (List (List UInt8 × ((Int) × ((Int) × ((Int) × (List UInt8 × (List UInt8)))))))))) × (Int × ((List UInt8) × (Int × (Bool × ((List (List UInt8 × (List UInt8 × (List (List UInt8 × ((Int) × ((Int) × ((Int) × (List UInt8 × (List UInt8)))))))))) × (Int × ((List (List UInt8 × ((Int) × ((Int) × ((Int) × (List UInt8 × (List UInt8))))))) × (Int × (Bool × (Unit))))))))))))) × (Unit) × (Unit))) := iterF (r16Small_F1 n) m ((a1, (a2, (a3, (a4, (a5, (a6, (a7, (a8, (a9, (a10, (a11, (a12, (a13, ()))))))))))))), ((), ()))
theorem r16Small_loop1_succ (n m : Nat) (a1 : List (List UInt8 × (List UInt8 × (List (List UInt8 × ((Int) × ((Int) × ((Int) × (List UInt8 × (List UInt8)))))))))) (a2 : Int) (a3 : Int) (a4 : List (List UInt8 × (List UInt8 × (List (List UInt8 × ((Int) × ((Int) × ((Int) × (List UInt8 × (List UInt8)))))))))) (a5 : Int) (a6 : List UInt8) (a7 : Int) (a8 : Bool) (a9 : List (List UInt8 × (List UInt8 × (List (List UInt8 × ((Int) × ((Int) × ((Int) × (List UInt8 × (List UInt8)))))))))) (a10 : Int) (a11 : List (List UInt8 × ((Int) × ((Int) × ((Int) × (List UInt8 × (List UInt8))))))) (a12 : Int) (a13 : Bool) : r16Small_loop1 n (m + 1) a1 a2 a3 a4 a5 a6 a7 a8 a9 a10 a11 a12 a13 = r16Small_l1 n (fun a1 a2 a3 a4 a5 a6 a7 a8 a9 a10 a11 a12 a13 => r16Small_loop1 n m a1 a2 a3 a4 a5 a6 a7 a8 a9 a10 a11 a12 a13) a1 a2 a3 a4 a5 a6 a7 a8 a9 a10 a11 a12 a13 := rfl
def r16Small_L1 (n : Nat) : LC := { sh := r16Small_sh1, outs := r16Small_outs1, F := iterF (r16Small_F1 n) n }
@[reducible] def r16Small_sh0 : SSt := ⟨[(0, .one (.c (.d (.lst (.prod .str (.prod .str (.lst (.prod .str (.prod (.int .i64) (.prod (.int .i64) (.prod (.int .i64) (.prod .str .str)))))))))))), (3, .one (.c (.d (.int .i64))))], [], []⟩
@[reducible] def r16Small_outs0 : List (Exit × SSt) := [(.ret, ⟨[(2, .one (.c (.d .bool)))], [], []⟩), (.exit 0, ⟨[(0, .one (.c (.d (.lst (.prod .str (.prod .str (.lst (.prod .str (.prod (.int .i64) (.prod (.int .i64) (.prod (.int .i64) (.prod .str .str))))))))))))], [], []⟩)]
def r16Small_l0 (n : Nat) (rec : (List (List UInt8 × (List UInt8 × (List (List UInt8 × ((Int) × ((Int) × ((Int) × (List UInt8 × (List UInt8)))))))))) → Int → Option (((Bool × (Unit)) × (Unit) × (Unit)) ⊕ (((List (List UInt8 × (List UInt8 × (List (List UInt8 × ((Int) × ((Int) × ((Int) × (List UInt8 × (List UInt8)))))))))) × (Unit)) × (Unit) × (Unit)))) (a1 : List (List UInt8 × (List UInt8 × (List (List UInt8 × ((Int) × ((Int) × ((Int) × (List UInt8 × (List UInt8)))))))))) (a2 : Int) : Option (((Bool × (Unit)) × (Unit) × (Unit)) ⊕ (((List (List UInt8 × (List UInt8 × (List (List UInt8 × ((Int) × ((Int) × ((Int) × (List UInt8 × (List UInt8)))))))))) × (Unit)) × (Unit) × (Unit))) :=
  (bif decide (a2 < ((List.length a1 : Nat) : Int)) then (idxL a1 a2).bind fun (x1 : List UInt8 × (List UInt8 × (List (List UInt8 × ((Int) × ((Int) × ((Int) × (List UInt8 × (List UInt8))))))))) => (bif decide ((200 : Int) < ((List.length x1.2.1 : Nat) : Int)) then some (Sum.inl ((false, ()), ((), ()))) else (idxL a1 a2).bind fun (x2 : List UInt8 × (List UInt8 × (List (List UInt8 × ((Int) × ((Int) × ((Int) × (List UInt8 × (List UInt8))))))))) => (bif decide ((200 : Int) < ((List.length x2.1 : Nat) : Int)) then some (Sum.inl ((false, ()), ((), ()))) else (idxL a1 a2).bind fun (x3 : List UInt8 × (List UInt8 × (List (List UInt8 × ((Int) × ((Int) × ((Int) × (List UInt8 × (List UInt8))))))))) => (bif decide ((30 : Int) < ((List.length x3.2.2 : Nat) : Int)) then some (Sum.inl ((false, ()), ((), ()))) else (r16Small_loop1 n n a1 a2 (0 : Int) a1 a2 x2.1 ((List.length x2.1 : Nat) : Int) (decide ((200 : Int) < ((List.length x2.1 : Nat) : Int))) a1 a2 x3.2.2 ((List.length x3.2.2 : Nat) : Int) (decide ((30 : Int) < ((List.length x3.2.2 : Nat) : Int)))).bind fun (o8 : ((Bool × (Unit)) × (Unit) × (Unit)) ⊕ (((List (List UInt8 × (List UInt8 × (List (List UInt8 × ((Int) × ((Int) × ((Int) × (List UInt8 × (List UInt8)))))))))) × (Int × ((List (List UInt8 × (List UInt8 × (List (List UInt8 × ((Int) × ((Int) × ((Int) × (List UInt8 × (List UInt8)))))))))) × (Int × ((List UInt8) × (Int × (Bool × ((List (List UInt8 × (List UInt8 × (List (List UInt8 × ((Int) × ((Int) × ((Int) × (List UInt8 × (List UInt8)))))))))) × (Int × ((List (List UInt8 × ((Int) × ((Int) × ((Int) × (List UInt8 × (List UInt8))))))) × (Int × (Bool × (Unit))))))))))))) × (Unit) × (Unit))) => Sum.elim (fun (q9 : (Bool × (Unit)) × (Unit) × (Unit)) => some (Sum.inl ((q9.1.1, ()), ((), ())))) (fun (q10 : ((List (List UInt8 × (List UInt8 × (List (List UInt8 × ((Int) × ((Int) × ((Int) × (List UInt8 × (List UInt8)))))))))) × (Int × ((List (List UInt8 × (List UInt8 × (List (List UInt8 × ((Int) × ((Int) × ((Int) × (List UInt8 × (List UInt8)))))))))) × (Int × ((List UInt8) × (Int × (Bool × ((List (List UInt8 × (List UInt8 × (List (List UInt8 × ((Int) × ((Int) × ((Int) × (List UInt8 × (List UInt8)))))))))) × (Int × ((List (List UInt8 × ((Int) × ((Int) × ((Int) × (List UInt8 × (List UInt8))))))) × (Int × (Bool × (Unit))))))))))))) × (Unit) × (Unit)) => letO (IntKind.wrap .i64 (q10.1.2.1 + (1 : Int))) fun (n11 : Int) => rec q10.1.1 n11) o8))) else some (Sum.inr (((a1, ()), ((), ())))))
def r16Small_F0 (n : Nat) (rec : pSt r16Small_sh0 → Option (pOuts r16Small_outs0)) (p : pSt r16Small_sh0) : Option (pOuts r16Small_outs0) := r16Small_l0 n (fun a1 a2 => rec ((a1, (a2, ())), ((), ()))) p.1.1 p.1.2.1
def r16Small_loop0 (n m : Nat) (a1 : List (List UInt8 × (List UInt8 × (List (List UInt8 × ((Int) × ((Int) × ((Int) × (List UInt8 × (List UInt8)))))))))) (a2 : Int) : Option (((Bool × (Unit)) × (Unit) × (Unit)) ⊕ (((List (List UInt8 × (List UInt8 × (List (List UInt8 × ((Int) × ((Int) × ((Int) × (List UInt8 × (List UInt8)))))))))) × (Unit)) × (Unit) × (Unit))) := iterF (r16Small_F0 n) m ((a1, (a2, ())), ((), ()))
theorem r16Small_loop0_succ (n m : Nat) (a1 : List (List UInt8 × (List UInt8 × (List (List UInt8 × ((Int) × ((Int) × ((Int) × (List UInt8 × (List UInt8)))))))))) (a2 : Int) : r16Small_loop0 n (m + 1) a1 a2 = r16Small_l0 n (fun a1 a2 => r16Small_loop0 n m a1 a2) a1 a2 := rfl
def r16Small_L0 (n : Nat) : LC := { sh := r16Small_sh0, outs := r16Small_outs0, F := iterF (r16Small_F0 n) n }
def r16Small_lts (n : Nat) : List LC := [r16Small_L0 n, r16Small_L1 n]
def r16Small_t (n : Nat) (a1 : List (List UInt8 × (List UInt8 × (List (List UInt8 × ((Int) × ((Int) × ((Int) × (List UInt8 × (List UInt8)))))))))) : Option (Bool) :=
  (r16Small_loop0 n n a1 (0 : Int)).bind fun (o12 : ((Bool × (Unit)) × (Unit) × (Unit)) ⊕ (((List (List UInt8 × (List UInt8 × (List (List UInt8 × ((Int) × ((Int) × ((Int) × (List UInt8 × (List UInt8)))))))))) × (Unit)) × (Unit) × (Unit))) => Sum.elim (fun (q13 : (Bool × (Unit)) × (Unit) × (Unit)) => some q13.1.1) (fun (q14 : ((List (List UInt8 × (List UInt8 × (List (List UInt8 × ((Int) × ((Int) × ((Int) × (List UInt8 × (List UInt8)))))))))) × (Unit)) × (Unit) × (Unit)) => some (decide (((List.length q14.1.1 : Nat) : Int) ≤ (20 : Int)))) o12
def r16Small_fc (n : Nat) : FC := { f := 4, args := [.one (.c (.d (.lst (.prod .str (.prod .str (.lst (.prod .str (.prod (.int .i64) (.prod (.int .i64) (.prod (.int .i64) (.prod .str .str)))))))))))], res := .one (.c (.d .bool)), F := fun p => r16Small_t n p }
def r16Small_ct (n : Nat) : List FC := []
theorem r16Small_ctok (n : Nat) {G : World → Prop} (hG : Know Inv G) : ∀ c ∈ r16Small_ct n, FCok Tryd.prog G c ∧ noTup c.args = true := (fun _ h => by cases h)
def r16Small_dh : Hints := []
theorem r16Small_dr : drB r16Small_dh (bodyOf Tryd.f4) = true := by kernel_rfl
theorem r16Small_eq1 (n : Nat) : ∀ rec p, r16Small_F1 n rec p = round Tryd.prog 76 (r16Small_ct n) (r16Small_lts n) r16Small_dh 2 r16Small_sh1 r16Small_outs1 (bodyAt 0 1 (bodyOf Tryd.f4)) rec p := by intro rec p; kernel_rfl
theorem r16Small_eq0 (n : Nat) : ∀ rec p, r16Small_F0 n rec p = round Tryd.prog 76 (r16Small_ct n) (r16Small_lts n) r16Small_dh 1 r16Small_sh0 r16Small_outs0 (bodyAt 0 0 (bodyOf Tryd.f4)) rec p := by intro rec p; kernel_rfl
theorem r16Small_lok1 (n : Nat) {F : Fr} (hF : F.n = 76) (hK : Know Inv F.G) : LCok Tryd.prog F (r16Small_L1 n) (bodyAt 0 1 (bodyOf Tryd.f4)) :=
  loop_ok hF (by kernel_rfl) (r16Small_ctok n hK) (r16Small_eq1 n) (fuel := n) (fun _ => rfl) (lok_of fun j L h1 h2 h3 => absurd h2 (Nat.not_lt.2 (Nat.le_trans (by decide +kernel) h1))) (drB_at r16Small_dr)
theorem r16Small_lok0 (n : Nat) {F : Fr} (hF : F.n = 76) (hK : Know Inv F.G) : LCok Tryd.prog F (r16Small_L0 n) (bodyAt 0 0 (bodyOf Tryd.f4)) :=
  loop_ok hF (by kernel_rfl) (r16Small_ctok n hK) (r16Small_eq0 n) (fuel := n) (fun _ => rfl) (lok_of (c := (bodyAt 0 0 (bodyOf Tryd.f4))) (fun j L h1 h2 h3 => by
    have h2' : j < 2 := Nat.lt_of_lt_of_le h2 (by decide +kernel)
    match j, h1, h2', h3 with
    | 0, h1, _, _ => exact absurd h1 (by decide)
    | 1, _, _, h3 => obtain rfl := Option.some.inj h3; exact (show bodyAt 0 1 (bodyOf Tryd.f4) = bodyAt 1 1 (bodyAt 0 0 (bodyOf Tryd.f4)) by kernel_rfl) ▸ r16Small_lok1 n hF hK
    | j + 2, _, h2', _ => exact absurd h2' (by omega))) (drB_at r16Small_dr)
theorem r16Small_eq (n : Nat) : ∀ a, (r16Small_fc n).F a = main Tryd.prog 76 (r16Small_ct n) (r16Small_lts n) r16Small_dh (bodyOf Tryd.f4) [.tmp 2] (r16Small_fc n).args (r16Small_fc n).res a := by intro a; kernel_rfl
theorem r16Small_ok (n : Nat) : FCall Inv Tryd.prog (r16Small_fc n) := fun G hG => ⟨⟨by kernel_rfl, fun a r h => main_ok (c := bodyOf Tryd.f4) Tryd.func4 (by kernel_rfl) (by kernel_rfl) (Nat.le_of_ble_eq_true (by kernel_rfl)) hG.st (by kernel_rfl) (rs := [.tmp 2]) (by kernel_rfl) (r16Small_ctok n hG) (lts := r16Small_lts n) (fun F hF hFG => have hK : Know Inv F.G := hFG ▸ hG; (lok_of (c := (bodyOf Tryd.f4)) (fun j L h1 h2 h3 => by
    have h2' : j < 2 := Nat.lt_of_lt_of_le h2 (by decide +kernel)
    match j, h1, h2', h3 with
    | 0, _, _, h3 => obtain rfl := Option.some.inj h3; exact (show bodyAt 0 0 (bodyOf Tryd.f4) = bodyAt 0 0 (bodyOf Tryd.f4) by kernel_rfl) ▸ r16Small_lok0 n hF hK
    | 1, _, _, h3 => obtain rfl := Option.some.inj h3; exact (show bodyAt 0 1 (bodyOf Tryd.f4) = bodyAt 0 1 (bodyOf Tryd.f4) by kernel_rfl) ▸ r16Small_lok1 n hF hK
    | j + 2, _, h2', _ => exact absurd h2' (by omega)))) r16Small_dr ((r16Small_eq n a).symm.trans h)⟩, rfl⟩
end Go.Proofs.YtgdlfnlakfahcaaDoor.AM

/- Layer 7: what the document's checks come to. -/
namespace Go.Proofs.YtgdlfnlakfahcaaDoor.AM
open Go.RowKit
set_option linter.unusedVariables false
set_option linter.unusedSimpArgs false
end Go.Proofs.YtgdlfnlakfahcaaDoor.AM

/- Layer 8: what the program's functions come to. -/
namespace Go.Proofs.YtgdlfnlakfahcaaDoor.AM
open Go.RowKit
set_option linter.unusedVariables false
set_option linter.unusedSimpArgs false
theorem mLast_spec (n : Nat) (s : List UInt8) (hL : s.length ≤ 1000000) (hn : s.length < n) : mLast_t n s = some (lastS s) := by
  unfold mLast_t lastS
  have hg := lastC_ge 47 s
  obtain ⟨k, hk⟩ : ∃ k : Nat, lastC 47 s + 1 = (k : Int) := ⟨(lastC 47 s + 1).toNat, by omega⟩
  rw [LastB_spec n s hL hn]
  simp only [Option.bind_some, letO]
  rw [hk, wrap64 (by omega) (by omega), sub_le (by omega) (Nat.le_refl _)]
  simp only [Option.bind_some, Int.toNat_natCast]
  rw [List.take_of_length_le (by rw [List.length_drop]; exact Nat.le_refl _)]
theorem base_len (s : List UInt8) : (baseS s).length ≤ s.length := by unfold baseS; rw [List.length_take]; omega
theorem last_len (s : List UInt8) : (lastS s).length ≤ s.length := by unfold lastS; rw [List.length_drop]; omega
theorem trimV_tells {s : List UInt8} (h : tellsS s = true) : trimV s = s.drop 1 := by
  unfold tellsS at h
  simp only [Bool.and_eq_true, decide_eq_true_eq] at h
  unfold trimV; rw [if_pos h.1]
theorem mMajor_spec (n : Nat) (s : List UInt8) (hL : s.length ≤ 1000000) (hn : s.length < n) : mMajor_t n s = some (majorS s) := by
  have hb := base_len s
  have hl := last_len s
  have e1 : mBase_t s = some (baseS s) := if_pos hL
  have e2 : mAny_t (baseS s) = some (anyS (baseS s)) := if_pos (by omega)
  have e3 : mNum_t (lastS s) = some (numOf (trimV (lastS s)), fine (trimV (lastS s))) := if_pos (by omega)
  have e4 : fPath_t s = some (pathS s) := rfl
  unfold mMajor_t majorS okS
  simp only [e1, e2, e3, e4, mLast_spec n s hL hn, mTells_spec n (lastS s) (by omega), Option.bind_some]
  cases pathS s with
  | false => rfl
  | true => cases anyS (baseS s) with
    | true => rfl
    | false => cases ht : tellsS (lastS s) with
      | false => rfl
      | true =>
        rw [trimV_tells ht]
        cases fine ((lastS s).drop 1) with
        | false => rfl
        | true =>
          by_cases h0 : baseS s = []
          · simp [h0]
          · simp [h0]
theorem major_ok (s : List UInt8) : (majorS s).2.2 = okS s := by
  unfold majorS
  cases okS s with
  | false => rfl
  | true => cases tellsS (lastS s) <;> rfl
theorem mCheck_spec (n : Nat) (s : List UInt8) (hL : s.length ≤ 1000000) (hn : s.length < n) : mCheck_t n s = some (okS s) := by
  unfold mCheck_t
  rw [mMajor_spec n s hL hn, ← major_ok]; rfl
/-! the document's paths -/
end Go.Proofs.YtgdlfnlakfahcaaDoor.AM

/- Layer 16: mathematics of who depends on whom: paths, what climbing meets, an order in which each stands behind his own. -/
namespace Go.Proofs.YtgdlfnlakfahcaaDoor.AM.Gr
set_option linter.unusedVariables false
set_option linter.unusedSimpArgs false

/-! counting -/
theorem sub_len : ∀ {a b : List Nat}, a.Nodup → (∀ x ∈ a, x ∈ b) → a.length ≤ b.length
  | [], b, _, _ => Nat.zero_le _
  | x :: a, b, hd, h => by
    have hx : x ∈ b := h x (List.mem_cons_self ..)
    obtain ⟨h1, h2⟩ := List.nodup_cons.1 hd
    have := sub_len (a := a) (b := b.erase x) h2 fun y hy => (List.mem_erase_of_ne (fun e : y = x => h1 (by rw [← e]; exact hy))).2 (h y (List.mem_cons_of_mem _ hy))
    rw [List.length_erase_of_mem hx] at this
    have hb : 0 < b.length := List.length_pos_of_mem hx
    rw [List.length_cons]; omega
theorem nodup_le {n : Nat} {l : List Nat} (hd : l.Nodup) (h : ∀ x ∈ l, x < n) : l.length ≤ n := by
  have := sub_len (b := List.range n) hd fun x hx => List.mem_range.2 (h x hx)
  rwa [List.length_range] at this
/-! paths -/
/-- i depends on j, among n of whom A tells who requires whom -/
inductive Dep (n : Nat) (A : Nat → Nat → Bool) : Nat → Nat → Prop
  | one {i j : Nat} (hi : i < n) (hj : j < n) (h : A i j = true) : Dep n A i j
  | more {i j k : Nat} (hi : i < n) (hj : j < n) (h : A i j = true) (hk : Dep n A j k) : Dep n A i k
variable {n : Nat} {A : Nat → Nat → Bool}
theorem Dep.lt {i j : Nat} (h : Dep n A i j) : i < n ∧ j < n := by
  induction h with
  | one hi hj _ => exact ⟨hi, hj⟩
  | more hi _ _ _ ih => exact ⟨hi, ih.2⟩
theorem Dep.trans {i j k : Nat} (h : Dep n A i j) (h2 : Dep n A j k) : Dep n A i k := by
  induction h with
  | one hi hj h => exact .more hi hj h h2
  | more hi hj h _ ih => exact .more hi hj h (ih h2)
theorem Dep.mono {B : Nat → Nat → Bool} (hAB : ∀ i j, i < n → j < n → A i j = true → B i j = true) {i j : Nat} (h : Dep n A i j) : Dep n B i j := by
  induction h with
  | one hi hj h => exact .one hi hj (hAB _ _ hi hj h)
  | more hi hj h _ ih => exact .more hi hj (hAB _ _ hi hj h) ih
/-- whoever has those whom he requires one by one has all on whom he depends -/
theorem Dep.down {D : Nat → Prop} (hD : ∀ j, D j → ∀ k, k < n → A j k = true → D k) {j k : Nat} (h : Dep n A j k) : D j → D k := by
  induction h with
  | one _ hj h => exact fun hd => hD _ hd _ hj h
  | more _ hj h _ ih => exact fun hd => ih (hD _ hd _ hj h)
theorem Dep.up {U : Nat → Prop} (hU : ∀ j, U j → ∀ k, k < n → A k j = true → U k) {j k : Nat} (h : Dep n A k j) : U j → U k := by
  induction h with
  | one hi _ h => exact fun hd => hU _ hd _ hi h
  | more hi _ h _ ih => exact fun hd => hU _ (ih hd) _ hi h
theorem Dep.first {i k : Nat} (h : Dep n A i k) : ∃ j, i < n ∧ j < n ∧ A i j = true ∧ (j = k ∨ Dep n A j k) := by
  cases h with
  | one hi hj h => exact ⟨_, hi, hj, h, Or.inl rfl⟩
  | more hi hj h hk => exact ⟨_, hi, hj, h, Or.inr hk⟩

/-! what climbing meets -/
def hs (M : List Bool) (k : Nat) : Bool := M.getD k false
theorem hs_set {M : List Bool} {j k : Nat} (hj : j < M.length) : hs (M.set j true) k = true ↔ (k = j ∨ hs M k = true) := by
  unfold hs
  rw [List.getD_eq_getElem?_getD, List.getD_eq_getElem?_getD, List.getElem?_set]
  by_cases h : j = k
  · subst h; simp [hj]
  · rw [if_neg h]
    constructor
    · exact fun h' => Or.inr h'
    · rintro (rfl | h')
      · exact absurd rfl h
      · exact h'
structure Climb (n : Nat) (A : Nat → Nat → Bool) (i : Nat) (M R : List Bool) : Prop where
  len : R.length = M.length
  sub : ∀ k, hs M k = true → hs R k = true
  new : ∀ k, hs R k = true → hs M k = true ∨ Dep n A k i
  nb : ∀ k, k < n → A k i = true → hs R k = true
  cl : ∀ k, hs R k = true → hs M k = false → ∀ q, q < n → A q k = true → hs R q = true
/-- climbing, so far as to place j -/
structure Climb0 (n : Nat) (A : Nat → Nat → Bool) (i j : Nat) (M R : List Bool) : Prop where
  len : R.length = M.length
  sub : ∀ k, hs M k = true → hs R k = true
  new : ∀ k, hs R k = true → hs M k = true ∨ Dep n A k i
  nb : ∀ k, k < j → A k i = true → hs R k = true
  cl : ∀ k, hs R k = true → hs M k = false → ∀ q, q < n → A q k = true → hs R q = true
theorem Climb0.start (n : Nat) (A : Nat → Nat → Bool) (i : Nat) (M : List Bool) : Climb0 n A i 0 M M :=
  ⟨rfl, fun _ h => h, fun _ h => Or.inl h, fun _ h => absurd h (Nat.not_lt_zero _), fun k h h' => by rw [h] at h'; cases h'⟩
theorem Climb0.skip {i j : Nat} {M R : List Bool} (h : Climb0 n A i j M R) (hj : hs R j = true ∨ A j i = false) : Climb0 n A i (j + 1) M R :=
  ⟨h.len, h.sub, h.new, fun k hk ha => by
    by_cases e : k = j
    · subst e
      rcases hj with hj | hj
      · exact hj
      · rw [hj] at ha; cases ha
    · exact h.nb k (by omega) ha, h.cl⟩
theorem Climb0.step {i j : Nat} {M R R' : List Bool} (h : Climb0 n A i j M R) (hj : j < n) (hi : i < n) (hl : j < R.length) (ha : A j i = true) (hc : Climb n A j (R.set j true) R') : Climb0 n A i (j + 1) M R' := by
  have hset : ∀ k, hs (R.set j true) k = true ↔ (k = j ∨ hs R k = true) := fun k => hs_set hl
  refine ⟨hc.len.trans ((List.length_set ..).trans h.len), fun k hk => hc.sub k ((hset k).2 (Or.inr (h.sub k hk))), fun k hk => ?_, fun k hk hka => ?_, fun k hk hkm q hq hqa => ?_⟩
  · rcases hc.new k hk with h1 | h1
    · rcases (hset k).1 h1 with rfl | h1
      · exact Or.inr (.one hj hi ha)
      · exact h.new k h1
    · exact Or.inr (h1.trans (.one hj hi ha))
  · by_cases e : k = j
    · subst e; exact hc.sub k ((hset k).2 (Or.inl rfl))
    · exact hc.sub k ((hset k).2 (Or.inr (h.nb k (by omega) hka)))
  · cases hR : hs R k with
    | true => exact hc.sub q ((hset q).2 (Or.inr (h.cl k hR hkm q hq hqa)))
    | false =>
      by_cases e : k = j
      · subst e; exact hc.nb q hq hqa
      · refine hc.cl k hk ?_ q hq hqa
        cases hs' : hs (R.set j true) k with
        | false => rfl
        | true =>
          rcases (hset k).1 hs' with h1 | h1
          · exact absurd h1 e
          · rw [hR] at h1; cases h1
theorem Climb0.done {i : Nat} {M R : List Bool} (h : Climb0 n A i n M R) : Climb n A i M R := ⟨h.len, h.sub, h.new, h.nb, h.cl⟩
theorem climb_none {i : Nat} {M R : List Bool} (h : Climb n A i M R) (hM : ∀ k, hs M k = false) (k : Nat) : hs R k = true ↔ Dep n A k i := by
  constructor
  · intro hk
    rcases h.new k hk with h1 | h1
    · rw [hM] at h1; cases h1
    · exact h1
  · intro hd
    obtain ⟨hk, hi⟩ := hd.lt
    have : ∀ a b : Nat, Dep n A a b → b = i → hs R a = true := by
      intro a b hab
      induction hab with
      | one ha hb h1 => intro e; subst e; exact h.nb _ ha h1
      | more ha hb h1 _ ih => intro e; exact h.cl _ (ih e) (hM _) _ ha h1
    exact this k i hd rfl
/-- those who are met have met all above them -/
def Closed (n : Nat) (A : Nat → Nat → Bool) (M : List Bool) : Prop := ∀ k, hs M k = true → ∀ q, q < n → A q k = true → hs M q = true
theorem climb_closed {i : Nat} {M R : List Bool} (hM : Closed n A M) (hi : i < M.length) (h : Climb n A i (M.set i true) R) : Closed n A R ∧ ∀ k, hs R k = true ↔ (hs M k = true ∨ k = i ∨ Dep n A k i) := by
  have hset : ∀ k, hs (M.set i true) k = true ↔ (k = i ∨ hs M k = true) := fun k => hs_set hi
  have hcl : Closed n A R := fun k hk q hq ha => by
    by_cases e : k = i
    · subst e; exact h.nb q hq ha
    · cases hm : hs M k with
      | true => exact h.sub q ((hset q).2 (Or.inr (hM k hm q hq ha)))
      | false =>
        refine h.cl k hk ?_ q hq ha
        cases hs' : hs (M.set i true) k with
        | false => rfl
        | true =>
          rcases (hset k).1 hs' with h1 | h1
          · exact absurd h1 e
          · rw [hm] at h1; cases h1
  refine ⟨hcl, fun k => ⟨fun hk => ?_, fun hk => ?_⟩⟩
  · rcases h.new k hk with h1 | h1
    · rcases (hset k).1 h1 with h1 | h1
      · exact Or.inr (Or.inl h1)
      · exact Or.inl h1
    · exact Or.inr (Or.inr h1)
  · rcases hk with h1 | rfl | h1
    · exact h.sub k ((hset k).2 (Or.inr h1))
    · exact h.sub k ((hset k).2 (Or.inl rfl))
    · exact h1.up (U := fun k => hs R k = true) hcl (h.sub i ((hset i).2 (Or.inl rfl)))
theorem closed_has {M : List Bool} (hM : Closed n A M) {i k : Nat} (hi : hs M i = true) (h : Dep n A k i) : hs M k = true := h.up (U := fun k => hs M k = true) hM hi
/-- how many are not met -/
def cnt (M : List Bool) : Nat := (M.filter (fun b => !b)).length
theorem cnt_set : ∀ {M : List Bool} {j : Nat}, j < M.length → hs M j = false → cnt (M.set j true) + 1 = cnt M
  | b :: M, 0, _, h => by
    have hb : b = false := h
    subst hb
    simp [cnt]
  | b :: M, j + 1, hj, h => by
    have := cnt_set (M := M) (j := j) (by simpa using hj) h
    unfold cnt at *
    rw [List.set_cons_succ, List.filter_cons, List.filter_cons]
    cases b <;> simp <;> omega
theorem cnt_le {M R : List Bool} : R.length = M.length → (∀ k, hs M k = true → hs R k = true) → cnt R ≤ cnt M := by
  induction M generalizing R with
  | nil => intro hl _; have : R = [] := List.eq_nil_of_length_eq_zero hl; subst this; exact Nat.le_refl _
  | cons b M ih =>
    intro hl h
    cases R with
    | nil => cases hl
    | cons c R =>
      have h1 := ih (R := R) (by simpa using hl) fun k hk => h (k + 1) hk
      have h0 := h 0
      unfold cnt at *
      rw [List.filter_cons, List.filter_cons]
      cases b <;> cases c <;> simp [hs] at * <;> omega
theorem cnt_lt (M : List Bool) : cnt M ≤ M.length := List.length_filter_le _ _

/-! an order -/
def edgesS (n : Nat) (A : Nat → Nat → Bool) (i : Nat) : List Nat := (List.range n).filter (A i)
theorem mem_edges {i j : Nat} : j ∈ edgesS n A i ↔ j < n ∧ A i j = true := by
  unfold edgesS; rw [List.mem_filter, List.mem_range]
/-- the least one, from j on, that does not stand, and all of whose own do -/
def ready (n : Nat) (A : Nat → Nat → Bool) (O : List Nat) (i : Nat) : Bool := !(O.contains i) && (edgesS n A i).all O.contains
def nxt (n : Nat) (A : Nat → Nat → Bool) (O : List Nat) : Option Nat := (List.range n).find? (ready n A O)
def ordS (n : Nat) (A : Nat → Nat → Bool) : Nat → List Nat → List Nat
  | 0, O => O
  | f + 1, O => match nxt n A O with
    | some i => ordS n A f (O ++ [i])
    | none => O
theorem ready_iff {O : List Nat} {i : Nat} : ready n A O i = true ↔ i ∉ O ∧ ∀ j, j < n → A i j = true → j ∈ O := by
  unfold ready
  simp only [Bool.and_eq_true, Bool.not_eq_true', List.all_eq_true, mem_edges, List.contains_iff_mem, and_imp]
  rw [Bool.eq_false_iff, ne_eq, List.contains_iff_mem]
structure Ord (n : Nat) (A : Nat → Nat → Bool) (O : List Nat) : Prop where
  nd : O.Nodup
  lt : ∀ x ∈ O, x < n
  pre : ∀ p i s, O = p ++ i :: s → ∀ j, j < n → A i j = true → j ∈ p
theorem Ord.nil : Ord n A [] := ⟨List.nodup_nil, fun x h => (by cases h), fun p i s h => by simp at h⟩
theorem nxt_some {O : List Nat} {i : Nat} (h : nxt n A O = some i) : i < n ∧ i ∉ O ∧ ∀ j, j < n → A i j = true → j ∈ O := by
  unfold nxt at h
  have h1 := List.find?_some h
  have h2 := List.mem_of_find?_eq_some h
  exact ⟨List.mem_range.1 h2, ready_iff.1 h1⟩
theorem Ord.snoc {O : List Nat} {i : Nat} (h : Ord n A O) (hi : nxt n A O = some i) : Ord n A (O ++ [i]) := by
  obtain ⟨h1, h2, h3⟩ := nxt_some hi
  refine ⟨List.nodup_append.2 ⟨h.nd, by simp, fun a ha b hb => by rw [List.mem_singleton] at hb; subst hb; exact fun e => h2 (e ▸ ha)⟩, fun x hx => ?_, fun p k s he j hj ha => ?_⟩
  · rcases List.mem_append.1 hx with hx | hx
    · exact h.lt x hx
    · rw [List.mem_singleton] at hx; subst hx; exact h1
  · rcases List.eq_nil_or_concat s with rfl | ⟨s', x, rfl⟩
    · have := List.append_inj' he rfl
      simp only [List.cons.injEq, and_true] at this
      obtain ⟨rfl, rfl⟩ := this
      exact h3 j hj ha
    · rw [List.concat_eq_append, ← List.cons_append, ← List.append_assoc] at he
      have := List.append_inj' he rfl
      exact h.pre p k s' this.1 j hj ha
theorem ordS_ord : ∀ (f : Nat) {O : List Nat}, Ord n A O → Ord n A (ordS n A f O)
  | 0, O, h => h
  | f + 1, O, h => by
    unfold ordS
    cases hn : nxt n A O with
    | none => exact h
    | some i => exact ordS_ord f (h.snoc hn)
/-! those on whom one depends, one behind the other -/
structure Down (n : Nat) (A : Nat → Nat → Bool) (i k : Nat) (D : List Nat) : Prop where
  nd : D.Nodup
  dep : ∀ x ∈ D, Dep n A i x
  own : ∀ j, j < n → A i j = true → j ∈ D
  cl : ∀ q, q < k → ∀ x, D[q]? = some x → ∀ j, j < n → A x j = true → j ∈ D
theorem Down.start {i : Nat} (hi : i < n) : Down n A i 0 (edgesS n A i) :=
  ⟨List.nodup_range.filter _, fun x hx => by obtain ⟨h1, h2⟩ := mem_edges.1 hx; exact .one hi h1 h2, fun j hj ha => mem_edges.2 ⟨hj, ha⟩, fun q hq => absurd hq (Nat.not_lt_zero _)⟩
def addN (D : List Nat) : List Nat → List Nat
  | [] => D
  | x :: l => addN (if D.contains x then D else D ++ [x]) l
theorem addN_pre : ∀ (l : List Nat) (D : List Nat), ∃ s, addN D l = D ++ s
  | [], D => ⟨[], by simp [addN]⟩
  | x :: l, D => by
    unfold addN
    by_cases h : D.contains x = true
    · rw [if_pos h]; exact addN_pre l D
    · rw [if_neg h]
      obtain ⟨s, hs⟩ := addN_pre l (D ++ [x])
      exact ⟨[x] ++ s, by rw [hs, List.append_assoc]⟩
theorem addN_mem : ∀ (l : List Nat) (D : List Nat) (y : Nat), y ∈ addN D l ↔ y ∈ D ∨ y ∈ l
  | [], D, y => by simp [addN]
  | x :: l, D, y => by
    unfold addN
    rw [addN_mem l, List.mem_cons]
    by_cases h : D.contains x = true
    · rw [if_pos h]
      have hx : x ∈ D := List.contains_iff_mem.1 h
      constructor
      · rintro (h1 | h1)
        · exact Or.inl h1
        · exact Or.inr (Or.inr h1)
      · rintro (h1 | rfl | h1)
        · exact Or.inl h1
        · exact Or.inl hx
        · exact Or.inr h1
    · rw [if_neg h, List.mem_append, List.mem_singleton]
      constructor
      · rintro ((h1 | h1) | h1)
        · exact Or.inl h1
        · exact Or.inr (Or.inl h1)
        · exact Or.inr (Or.inr h1)
      · rintro (h1 | h1 | h1)
        · exact Or.inl (Or.inl h1)
        · exact Or.inl (Or.inr h1)
        · exact Or.inr h1
theorem addN_nd : ∀ (l : List Nat) (D : List Nat), D.Nodup → (addN D l).Nodup
  | [], D, h => h
  | x :: l, D, h => by
    unfold addN
    by_cases hc : D.contains x = true
    · rw [if_pos hc]; exact addN_nd l D h
    · rw [if_neg hc]
      refine addN_nd l _ (List.nodup_append.2 ⟨h, by simp, fun a ha b hb => ?_⟩)
      rw [List.mem_singleton] at hb; subst hb
      exact fun e => hc (List.contains_iff_mem.2 (e ▸ ha))
theorem Down.step {i k : Nat} {D : List Nat} (h : Down n A i k D) {x : Nat} (hx : D[k]? = some x) : Down n A i (k + 1) (addN D (edgesS n A x)) := by
  have hxD : x ∈ D := List.mem_of_getElem? hx
  obtain ⟨s, hs⟩ := addN_pre (edgesS n A x) D
  refine ⟨addN_nd _ _ h.nd, fun y hy => ?_, fun j hj ha => (addN_mem _ _ _).2 (Or.inl (h.own j hj ha)), fun q hq y hy j hj ha => ?_⟩
  · rcases (addN_mem _ _ _).1 hy with h1 | h1
    · exact h.dep y h1
    · obtain ⟨h2, h3⟩ := mem_edges.1 h1
      exact (h.dep x hxD).trans (.one (h.dep x hxD).lt.2 h2 h3)
  · have hkD : k < D.length := (List.getElem?_eq_some_iff.1 hx).1
    rw [hs, List.getElem?_append_left (by omega)] at hy
    by_cases e : q = k
    · subst e
      rw [hx] at hy
      obtain rfl := Option.some.inj hy
      exact (addN_mem _ _ _).2 (Or.inr (mem_edges.2 ⟨hj, ha⟩))
    · exact (addN_mem _ _ _).2 (Or.inl (h.cl q (by omega) y hy j hj ha))
theorem Down.len {i k : Nat} {D : List Nat} (h : Down n A i k D) : D.length ≤ n := nodup_le h.nd fun x hx => (h.dep x hx).lt.2
theorem Down.done {i k : Nat} {D : List Nat} (h : Down n A i k D) (hk : D.length ≤ k) (x : Nat) : x ∈ D ↔ Dep n A i x := by
  constructor
  · exact h.dep x
  · intro hd
    have hcl : ∀ j, j ∈ D → ∀ q, q < n → A j q = true → q ∈ D := fun j hj q hq ha => by
      obtain ⟨p, hp, rfl⟩ := List.getElem_of_mem hj
      exact h.cl p (by omega) _ (List.getElem?_eq_getElem hp) q hq ha
    obtain ⟨j, hi, hj, ha, h1⟩ := hd.first
    have hjD := h.own j hj ha
    rcases h1 with rfl | h1
    · exact hjD
    · exact h1.down (D := fun x => x ∈ D) hcl hjD
end Go.Proofs.YtgdlfnlakfahcaaDoor.AM.Gr

/- Layer 16: what the program's functions come to: Check, requires, edges, Edges; arrays of twelve bools. -/
namespace Go.Proofs.YtgdlfnlakfahcaaDoor.AM
open Go.RowKit Gr
set_option linter.unusedVariables false
set_option linter.unusedSimpArgs false
abbrev RD : Type := List UInt8 × (Int × (Int × (Int × (List UInt8 × List UInt8))))
abbrev MD : Type := List UInt8 × (List UInt8 × List RD)
def reqS (m : MD) (p : List UInt8) : Bool := m.2.2.any fun r => decide (r.1 = p)
def adj (l : List MD) (i j : Nat) : Bool := match l[i]?, l[j]? with
  | some a, some b => reqS a b.2.1
  | _, _ => false
theorem adj_lt {l : List MD} {i j : Nat} (hi : i < l.length) (hj : j < l.length) : adj l i j = reqS l[i] l[j].2.1 := by
  unfold adj; rw [List.getElem?_eq_getElem hi, List.getElem?_eq_getElem hj]
def SmL (l : List MD) : Prop := l.length ≤ 20 ∧ ∀ m ∈ l, m.2.1.length ≤ 200 ∧ m.2.2.length ≤ 31
def iL (l : List Nat) : List Int := l.map fun k => ((k : Nat) : Int)
theorem iL_app (a b : List Nat) : iL (a ++ b) = iL a ++ iL b := List.map_append
theorem iL_len (a : List Nat) : (iL a).length = a.length := List.length_map ..
theorem letO_eq {α β : Type} (x : β) (f : β → Option α) : letO x f = f x := rfl

/-! requires -/
theorem gIdxR_loop (n : Nat) (l : List RD) (p : List UInt8) (hl : l.length ≤ 1000) : ∀ m j : Nat, j ≤ l.length → l.length - j < m →
    ∃ k : Nat, gIdxR_loop0 n m l ((l.length : Nat) : Int) (j : Int) p = some (bif (l.drop j).any (fun r => decide (r.1 = p)) then Sum.inl (((k : Int), ()), ((p, ()), ())) else Sum.inr ((), ((p, ()), ())))
  | 0, j, _, h => absurd h (Nat.not_lt_zero _)
  | m + 1, j, hj, h => by
    rw [gIdxR_loop0_succ]
    unfold gIdxR_l0
    by_cases c : j < l.length
    · rw [decide_eq_true (by omega), cond_true, idx_lt c, Option.bind_some]
      unfold gReq1_t
      rw [Option.bind_some, List.drop_eq_getElem_cons c, List.any_cons]
      by_cases e : l[j].1 = p
      · refine ⟨j, ?_⟩
        rw [decide_eq_true e, cond_true, Bool.true_or, cond_true]
      · obtain ⟨k, hk⟩ := gIdxR_loop n l p hl m (j + 1) (by omega) (by omega)
        refine ⟨k, ?_⟩
        rw [decide_eq_false e, cond_false, Bool.false_or, letO_eq, wrap_succ (by omega)]
        exact hk
    · obtain rfl : j = l.length := by omega
      refine ⟨0, ?_⟩
      rw [decide_eq_false (by omega), cond_false, List.drop_length]; rfl
theorem gReq_spec (n : Nat) (m : MD) (p : List UInt8) (hl : m.2.2.length ≤ 1000) (hn : 1000 < n) : gReq_t n m p = some (reqS m p) := by
  obtain ⟨k, hk⟩ := gIdxR_loop n m.2.2 p hl n 0 (Nat.zero_le _) (by omega)
  have hk' : gIdxR_loop0 n n m.2.2 ((m.2.2.length : Nat) : Int) (0 : Int) p = some (bif reqS m p then Sum.inl (((k : Int), ()), ((p, ()), ())) else Sum.inr ((), ((p, ()), ()))) := hk
  unfold gReq_t gCtR_t gIdxR_t
  rw [hk']
  cases reqS m p with
  | true =>
    simp only [cond_true, Option.bind_some, Sum.elim_inl]
    rw [decide_eq_true (by omega)]
  | false => rfl

/-! Check -/
def dupP : List (List UInt8) → List (List UInt8) → Bool
  | _, [] => false
  | pre, x :: xs => pre.any (fun y => decide (y = x)) || dupP (pre ++ [x]) xs
def chkP (ps : List (List UInt8)) : Int := if 12 < ps.length then 1 else bif ps.all okS then (bif dupP [] ps then 11 else 0) else 6
def pthS (l : List MD) : List (List UInt8) := l.map fun m => m.2.1
def chkS (l : List MD) : Int := chkP (pthS l)
theorem gCtM_spec (n : Nat) (l : List MD) (x : MD) (hl : l.length ≤ 1000) (hn : 1000 < n) : gCtM_t n l () x.1 x.2.1 x.2.2 = some (l.any (fun o => decide (o.2.1 = x.2.1)), (((x.1, (x.2.1, x.2.2)), ()), ())) := by
  have loop : ∀ m j : Nat, j ≤ l.length → l.length - j < m →
      ∃ k : Nat, gIdxM_loop0 n m l ((l.length : Nat) : Int) (j : Int) x.1 x.2.1 x.2.2 = some (bif (l.drop j).any (fun o => decide (o.2.1 = x.2.1)) then Sum.inl (((k : Int), ()), (((x.1, (x.2.1, x.2.2)), ()), ())) else Sum.inr ((), (((x.1, (x.2.1, x.2.2)), ()), ()))) := by
    intro m
    induction m with
    | zero => intro j _ h; exact absurd h (Nat.not_lt_zero _)
    | succ m ih =>
      intro j hj h
      rw [gIdxM_loop0_succ]
      unfold gIdxM_l0
      by_cases c : j < l.length
      · rw [decide_eq_true (by omega), cond_true, idx_lt c, Option.bind_some]
        unfold gChk1_t
        rw [Option.bind_some, List.drop_eq_getElem_cons c, List.any_cons]
        by_cases e : l[j].2.1 = x.2.1
        · refine ⟨j, ?_⟩
          rw [decide_eq_true e, cond_true, Bool.true_or, cond_true]
        · obtain ⟨k, hk⟩ := ih (j + 1) (by omega) (by omega)
          refine ⟨k, ?_⟩
          rw [decide_eq_false e, cond_false, Bool.false_or, letO_eq, wrap_succ (by omega)]
          exact hk
      · obtain rfl : j = l.length := by omega
        refine ⟨0, ?_⟩
        rw [decide_eq_false (by omega), cond_false, List.drop_length]; rfl
  obtain ⟨k, hk⟩ := loop n 0 (Nat.zero_le _) (by omega)
  have hk' : gIdxM_loop0 n n l ((l.length : Nat) : Int) (0 : Int) x.1 x.2.1 x.2.2 = some (bif l.any (fun o => decide (o.2.1 = x.2.1)) then Sum.inl (((k : Int), ()), (((x.1, (x.2.1, x.2.2)), ()), ())) else Sum.inr ((), (((x.1, (x.2.1, x.2.2)), ()), ()))) := hk
  unfold gCtM_t gIdxM_t
  rw [hk']
  cases l.any (fun o => decide (o.2.1 = x.2.1)) with
  | true =>
    simp only [cond_true, Option.bind_some, Sum.elim_inl]
    rw [decide_eq_true (by omega)]
  | false => rfl
theorem pth_take (l : List MD) (j : Nat) (x : List UInt8) : (l.take j).any (fun o => decide (o.2.1 = x)) = ((pthS l).take j).any (fun y => decide (y = x)) := by
  unfold pthS; rw [← List.map_take, List.any_map]; rfl
theorem pth_len (l : List MD) : (pthS l).length = l.length := List.length_map ..
theorem dup_step {ps : List (List UInt8)} {j : Nat} (c : j < ps.length) : dupP (ps.take j) (ps.drop j) = ((ps.take j).any (fun y => decide (y = ps[j])) || dupP (ps.take (j + 1)) (ps.drop (j + 1))) := by
  rw [List.drop_eq_getElem_cons c, dupP, List.take_succ_eq_append_getElem c]
theorem gCheck_loopA (n : Nat) (l : List MD) (hl : SmL l) (hn : 100000 < n) : ∀ m j : Nat, j ≤ l.length → l.length - j < m →
    gCheck_loop0 n m l l ((l.length : Nat) : Int) (j : Int) = some (bif ((pthS l).drop j).all okS then Sum.inr ((l, ()), ((), ())) else Sum.inl (((6 : Int), ()), ((), ())))
  | 0, j, _, h => absurd h (Nat.not_lt_zero _)
  | m + 1, j, hj, h => by
    have h20 := hl.1
    rw [gCheck_loop0_succ]
    unfold gCheck_l0
    by_cases c : j < l.length
    · have hp := (hl.2 _ (List.getElem_mem c)).1
      have c' : j < (pthS l).length := by rw [pth_len]; exact c
      have hx : (pthS l)[j] = l[j].2.1 := by simp [pthS]
      rw [decide_eq_true (by omega), cond_true, idx_lt c, Option.bind_some, mCheck_spec n _ (by omega) (by omega), Option.bind_some, List.drop_eq_getElem_cons c', List.all_cons, hx]
      cases okS l[j].2.1 with
      | false => rfl
      | true =>
        rw [Bool.not_true, cond_false, letO_eq, wrap_succ (by omega), Bool.true_and]
        exact gCheck_loopA n l hl hn m (j + 1) (by omega) (by omega)
    · obtain rfl : j = l.length := by omega
      rw [decide_eq_false (by omega), cond_false, ← pth_len l, List.drop_length]; rfl
theorem gCheck_loopB (n : Nat) (l : List MD) (hl : SmL l) (hn : 100000 < n) : ∀ m j : Nat, j ≤ l.length → l.length - j < m →
    gCheck_loop1 n m l l ((l.length : Nat) : Int) (j : Int) = some (bif dupP ((pthS l).take j) ((pthS l).drop j) then Sum.inl (((11 : Int), ()), ((), ())) else Sum.inr ((), ((), ())))
  | 0, j, _, h => absurd h (Nat.not_lt_zero _)
  | m + 1, j, hj, h => by
    have h20 := hl.1
    rw [gCheck_loop1_succ]
    unfold gCheck_l1
    by_cases c : j < l.length
    · have c' : j < (pthS l).length := by rw [pth_len]; exact c
      have hx : (pthS l)[j] = l[j].2.1 := by simp [pthS]
      rw [decide_eq_true (by omega), cond_true, idx_lt c, Option.bind_some, sub_zero (by omega), Option.bind_some, gCtM_spec n (l.take j) l[j] (by rw [List.length_take]; omega) (by omega), Option.bind_some, pth_take, dup_step c', hx]
      cases ((pthS l).take j).any (fun y => decide (y = l[j].2.1)) with
      | true => rfl
      | false =>
        rw [cond_false, letO_eq, wrap_succ (by omega), Bool.false_or]
        exact gCheck_loopB n l hl hn m (j + 1) (by omega) (by omega)
    · obtain rfl : j = l.length := by omega
      rw [decide_eq_false (by omega), cond_false, ← pth_len l, List.drop_length]; rfl
theorem gCheck_spec (n : Nat) (l : List MD) (hl : SmL l) (hn : 100000 < n) : gCheck_t n l = some (chkS l) := by
  have h20 := hl.1
  have hA := gCheck_loopA n l hl hn n 0 (Nat.zero_le _) (by omega)
  have hB := gCheck_loopB n l hl hn n 0 (Nat.zero_le _) (by omega)
  unfold gCheck_t chkS chkP
  rw [pth_len]
  by_cases c : 12 < l.length
  · rw [decide_eq_true (by omega), cond_true, if_pos c]
  · rw [decide_eq_false (by omega), cond_false, if_neg c]
    have hA' : gCheck_loop0 n n l l ((l.length : Nat) : Int) (0 : Int) = some (bif (pthS l).all okS then Sum.inr ((l, ()), ((), ())) else Sum.inl (((6 : Int), ()), ((), ()))) := hA
    rw [hA', Option.bind_some]
    cases (pthS l).all okS with
    | false => rfl
    | true =>
      have hB' : gCheck_loop1 n n l l ((l.length : Nat) : Int) (0 : Int) = some (bif dupP [] (pthS l) then Sum.inl (((11 : Int), ()), ((), ())) else Sum.inr ((), ((), ()))) := hB
      rw [cond_true, Sum.elim_inr]
      show (gCheck_loop1 n n l l ((l.length : Nat) : Int) (0 : Int)).bind _ = _
      rw [hB', Option.bind_some]
      cases dupP [] (pthS l) <;> rfl
theorem chk_len {l : List MD} (h : chkS l = 0) : l.length ≤ 12 := by
  unfold chkS chkP at h
  rw [pth_len] at h
  by_cases c : 12 < l.length
  · rw [if_pos c] at h; cases h
  · omega
theorem chk_ok {l : List MD} (h : chkS l = 0) : ∀ m ∈ l, okS m.2.1 = true := by
  unfold chkS chkP at h
  split at h
  · cases h
  · intro m hm
    cases ha : (pthS l).all okS with
    | false => rw [ha] at h; cases h
    | true => exact List.all_eq_true.1 ha _ (List.mem_map.2 ⟨m, hm, rfl⟩)

/-! edges -/
theorem gedges_loop (n : Nat) (l : List MD) (i : Nat) (hi : i < l.length) (hl : SmL l) (hn : 100000 < n) : ∀ m j : Nat, ∀ acc : List Int, acc.length ≤ j → j ≤ l.length → l.length - j < m →
    gedges_loop0 n m l (i : Int) l ((l.length : Nat) : Int) (j : Int) acc = some (((), ()), ((), (acc ++ iL ((List.range' j (l.length - j)).filter (adj l i)), ())))
  | 0, j, _, _, _, h => absurd h (Nat.not_lt_zero _)
  | m + 1, j, acc, ha, hj, h => by
    have h20 := hl.1
    rw [gedges_loop0_succ]
    unfold gedges_l0
    by_cases c : j < l.length
    · have hr := (hl.2 _ (List.getElem_mem hi)).2
      obtain ⟨k, hk⟩ : ∃ k, l.length - j = k + 1 := ⟨l.length - j - 1, by omega⟩
      have hk' : l.length - (j + 1) = k := by omega
      rw [decide_eq_true (by omega), cond_true, idx_lt c, Option.bind_some, idx_lt hi, Option.bind_some, gReq_spec n _ _ (by omega) (by omega), Option.bind_some, ← adj_lt hi c, hk, List.range'_succ, List.filter_cons]
      cases ha' : adj l i j with
      | true =>
        rw [cond_true, if_pos rfl, app_le (by simp; omega), Option.bind_some, letO_eq, wrap_succ (by omega)]
        refine (gedges_loop n l i hi hl hn m (j + 1) _ (by simp; omega) (by omega) (by omega)).trans ?_
        rw [hk']
        simp [iL]
      | false =>
        rw [cond_false, if_neg (by decide), letO_eq, wrap_succ (by omega)]
        refine (gedges_loop n l i hi hl hn m (j + 1) _ (by omega) (by omega) (by omega)).trans ?_
        rw [hk']
    · obtain rfl : j = l.length := by omega
      rw [decide_eq_false (by omega), cond_false, Nat.sub_self]
      simp [iL]
theorem gedges_spec (n : Nat) (l : List MD) (i : Nat) (hi : i < l.length) (hl : SmL l) (hn : 100000 < n) : gedges_t n l (i : Int) = some (iL (edgesS l.length (adj l) i)) := by
  have h20 := hl.1
  have := gedges_loop n l i hi hl hn n 0 [] (Nat.le_refl _) (Nat.zero_le _) (by omega)
  unfold gedges_t edgesS
  rw [List.range_eq_range']
  have h' : gedges_loop0 n n l (i : Int) l ((l.length : Nat) : Int) (0 : Int) [] = some (((), ()), ((), ([] ++ iL ((List.range' 0 (l.length - 0)).filter (adj l i)), ()))) := this
  rw [h', Option.bind_some, List.nil_append, Nat.sub_zero]
/-! twelve bools -/
abbrev B12T : Type := Bool × (Bool × (Bool × (Bool × (Bool × (Bool × (Bool × (Bool × (Bool × (Bool × (Bool × Bool))))))))))
def P12 (M : List Bool) : B12T := (M.getD 0 false, (M.getD 1 false, (M.getD 2 false, (M.getD 3 false, (M.getD 4 false, (M.getD 5 false, (M.getD 6 false, (M.getD 7 false, (M.getD 8 false, (M.getD 9 false, (M.getD 10 false, M.getD 11 false)))))))))))
def ap12 {β : Type} (f : Bool → Bool → Bool → Bool → Bool → Bool → Bool → Bool → Bool → Bool → Bool → Bool → β) (M : List Bool) : β :=
  f (M.getD 0 false) (M.getD 1 false) (M.getD 2 false) (M.getD 3 false) (M.getD 4 false) (M.getD 5 false) (M.getD 6 false) (M.getD 7 false) (M.getD 8 false) (M.getD 9 false) (M.getD 10 false) (M.getD 11 false)
theorem lit12 {M : List Bool} (hM : M.length = 12) : [M.getD 0 false, M.getD 1 false, M.getD 2 false, M.getD 3 false, M.getD 4 false, M.getD 5 false, M.getD 6 false, M.getD 7 false, M.getD 8 false, M.getD 9 false, M.getD 10 false, M.getD 11 false] = M := by
  match M, hM with
  | [_, _, _, _, _, _, _, _, _, _, _, _], _ => rfl
theorem nth_hs {M : List Bool} {k : Nat} (hk : k < M.length) : nth M k = some (hs M k) := by
  unfold hs; rw [nth_lt hk, List.getD_eq_getElem?_getD, List.getElem?_eq_getElem hk]; rfl
theorem inA_nat {k len : Nat} (hk : k < len) : inA (k : Int) len = true := by
  unfold inA; rw [decide_eq_true (by omega), decide_eq_true (by omega)]; rfl
theorem upd_get {M : List Bool} {j k : Nat} (y : Bool) (hk : k < M.length) : upd1 k (j : Int) y (M.getD k false) = (M.set j y).getD k false := by
  unfold upd1
  rw [Int.toNat_natCast, List.getD_eq_getElem?_getD, List.getD_eq_getElem?_getD, List.getElem?_set]
  by_cases h : k = j
  · subst h
    rw [Nat.beq_refl, cond_true, if_pos rfl, if_pos hk]; rfl
  · have hb : Nat.beq k j = false := by
      cases hb : Nat.beq k j with
      | false => rfl
      | true => exact absurd (Nat.eq_of_beq_eq_true hb) h
    rw [hb, cond_false, if_neg (fun e => h e.symm)]
theorem upd_ap {β : Type} {M : List Bool} {j : Nat} (y : Bool) (hM : M.length = 12) (f : Bool → Bool → Bool → Bool → Bool → Bool → Bool → Bool → Bool → Bool → Bool → Bool → β) :
    f (upd1 0 (j : Int) y (M.getD 0 false)) (upd1 1 (j : Int) y (M.getD 1 false)) (upd1 2 (j : Int) y (M.getD 2 false)) (upd1 3 (j : Int) y (M.getD 3 false)) (upd1 4 (j : Int) y (M.getD 4 false)) (upd1 5 (j : Int) y (M.getD 5 false)) (upd1 6 (j : Int) y (M.getD 6 false)) (upd1 7 (j : Int) y (M.getD 7 false)) (upd1 8 (j : Int) y (M.getD 8 false)) (upd1 9 (j : Int) y (M.getD 9 false)) (upd1 10 (j : Int) y (M.getD 10 false)) (upd1 11 (j : Int) y (M.getD 11 false)) = ap12 f (M.set j y) := by
  unfold ap12
  rw [upd_get _ (by omega), upd_get _ (by omega), upd_get _ (by omega), upd_get _ (by omega), upd_get _ (by omega), upd_get _ (by omega), upd_get _ (by omega), upd_get _ (by omega), upd_get _ (by omega), upd_get _ (by omega), upd_get _ (by omega), upd_get _ (by omega)]
end Go.Proofs.YtgdlfnlakfahcaaDoor.AM
