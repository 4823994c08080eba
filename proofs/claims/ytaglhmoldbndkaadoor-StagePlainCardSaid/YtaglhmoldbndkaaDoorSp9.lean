/- One text of VerM, MpM, FilG0, Pure, FilP0, RngF, FilT (mk/pack.py). -/
import Derived.Test.YtaglhmoldbndkaaDoorSp8
import Derived.Lib.ItoaNum
import Derived.Lib.AtoiAll
import Derived.Lib.SlTrimSet
/- Layer 7: what a version is, its text, its order, what it is bumped to: mathematics, no program. -/
namespace Go.Proofs.YtaglhmoldbndkaaDoor.AM
open Go.RowKit
set_option linter.unusedVariables false
set_option linter.unusedSimpArgs false
abbrev VD := Int × (Int × (Int × (List UInt8 × List UInt8)))
abbrev v0 : VD := (0, (0, (0, ([], []))))
def isDig (c : UInt8) : Bool := decide (48 ≤ c.toNat) && decide (c.toNat ≤ 57)
def isSg (c : UInt8) : Bool := (decide (97 ≤ c.toNat) && decide (c.toNat ≤ 122)) || (decide (65 ≤ c.toNat) && decide (c.toNat ≤ 90)) || isDig c || decide (c.toNat = 45)
/-! the order -/
/-! numerals -/
/-! a text is cut at a byte -/
/-! bumps -/
end Go.Proofs.YtaglhmoldbndkaaDoor.AM

/- Layer 8: what a path is, its parts, its major: mathematics, no program. -/
namespace Go.Proofs.YtaglhmoldbndkaaDoor.AM
open Go.RowKit
set_option linter.unusedVariables false
set_option linter.unusedSimpArgs false
def pSign (c : UInt8) : Bool := isSg c || decide (c.toNat = 95) || decide (c.toNat = 46)
def partS (s : List UInt8) : Bool := !decide (s = []) && (!decide (s = [46]) && (!decide (s = [46, 46]) && s.all pSign))
def pathS (s : List UInt8) : Bool := decide (s.length ≤ 60) && (spl 47 [] s).all partS
/-! the last place of a byte -/
/-! digits, and the number that they tell -/
/-! a path's major -/
theorem path_parts {s : List UInt8} (h : pathS s = true) : s.length ≤ 60 ∧ (spl 47 [] s).all partS = true := by
  unfold pathS at h; simpa using h
end Go.Proofs.YtaglhmoldbndkaaDoor.AM

/- Layer 5, first part: what functions come to, as plain functions of data: written by program (shal.py); the kernel checks it. -/
namespace Go.Proofs.YtaglhmoldbndkaaDoor.AM
open Go.RowKit
set_option linter.unusedVariables false
set_option maxRecDepth 20000
/-! armada/files.isSign -/
def fSign_lts (n : Nat) : List LC := []
def fSign_t (n : Nat) (a1 : Int) : Option (Bool) :=
  (bif decide ((97 : Int) ≤ a1) then (bif decide (a1 ≤ (122 : Int)) then (bif decide (a1 ≤ (122 : Int)) then some true else (bif decide (a1 = (45 : Int)) then some true else (bif decide (a1 = (95 : Int)) then some true else some (decide (a1 = (46 : Int)))))) else (bif decide ((65 : Int) ≤ a1) then (bif decide (a1 ≤ (90 : Int)) then (bif decide (a1 ≤ (90 : Int)) then some true else (bif decide (a1 = (45 : Int)) then some true else (bif decide (a1 = (95 : Int)) then some true else some (decide (a1 = (46 : Int)))))) else (bif decide ((48 : Int) ≤ a1) then (bif decide (a1 ≤ (57 : Int)) then some true else (bif decide (a1 = (45 : Int)) then some true else (bif decide (a1 = (95 : Int)) then some true else some (decide (a1 = (46 : Int)))))) else (bif decide (a1 = (45 : Int)) then some true else (bif decide (a1 = (95 : Int)) then some true else some (decide (a1 = (46 : Int))))))) else (bif decide ((48 : Int) ≤ a1) then (bif decide (a1 ≤ (57 : Int)) then some true else (bif decide (a1 = (45 : Int)) then some true else (bif decide (a1 = (95 : Int)) then some true else some (decide (a1 = (46 : Int)))))) else (bif decide (a1 = (45 : Int)) then some true else (bif decide (a1 = (95 : Int)) then some true else some (decide (a1 = (46 : Int)))))))) else (bif decide ((65 : Int) ≤ a1) then (bif decide (a1 ≤ (90 : Int)) then (bif decide (a1 ≤ (90 : Int)) then some true else (bif decide (a1 = (45 : Int)) then some true else (bif decide (a1 = (95 : Int)) then some true else some (decide (a1 = (46 : Int)))))) else (bif decide ((48 : Int) ≤ a1) then (bif decide (a1 ≤ (57 : Int)) then some true else (bif decide (a1 = (45 : Int)) then some true else (bif decide (a1 = (95 : Int)) then some true else some (decide (a1 = (46 : Int)))))) else (bif decide (a1 = (45 : Int)) then some true else (bif decide (a1 = (95 : Int)) then some true else some (decide (a1 = (46 : Int))))))) else (bif decide ((48 : Int) ≤ a1) then (bif decide (a1 ≤ (57 : Int)) then some true else (bif decide (a1 = (45 : Int)) then some true else (bif decide (a1 = (95 : Int)) then some true else some (decide (a1 = (46 : Int)))))) else (bif decide (a1 = (45 : Int)) then some true else (bif decide (a1 = (95 : Int)) then some true else some (decide (a1 = (46 : Int))))))))
def fSign_fc (n : Nat) : FC := { f := 77, args := [.one (.c (.d (.int .u8)))], res := .one (.c (.d .bool)), F := fun p => fSign_t n p }
def fSign_ct (n : Nat) : List FC := []
theorem fSign_ctok (n : Nat) {G : World → Prop} (hG : Know Inv G) : ∀ c ∈ fSign_ct n, FCok Tryd.prog G c ∧ noTup c.args = true := (fun _ h => by cases h)
def fSign_dh : Hints := []
theorem fSign_dr : drB fSign_dh (bodyOf Tryd.f77) = true := by kernel_rfl
theorem fSign_eq (n : Nat) : ∀ a, (fSign_fc n).F a = main Tryd.prog 32 (fSign_ct n) (fSign_lts n) fSign_dh (bodyOf Tryd.f77) [.tmp 2] (fSign_fc n).args (fSign_fc n).res a := by intro a; kernel_rfl
theorem fSign_ok (n : Nat) : FCall Inv Tryd.prog (fSign_fc n) := fun G hG => ⟨⟨by kernel_rfl, fun a r h => main_ok (c := bodyOf Tryd.f77) Tryd.func77 (by kernel_rfl) (by kernel_rfl) (Nat.le_of_ble_eq_true (by kernel_rfl)) hG.st (by kernel_rfl) (rs := [.tmp 2]) (by kernel_rfl) (fSign_ctok n hG) (lts := fSign_lts n) (fun F hF hFG => have hK : Know Inv F.G := hFG ▸ hG; (lok_of fun j L h1 h2 h3 => absurd h2 (Nat.not_lt.2 (Nat.le_trans (by decide +kernel) h1)))) fSign_dr ((fSign_eq n a).symm.trans h)⟩, rfl⟩
/-! armada/files.isPart -/
@[reducible] def fPart_sh0 : SSt := ⟨[(0, .one (.c (.d .str))), (15, .one (.c (.d (.int .i64)))), (16, .one (.c (.d (.int .i64))))], [], []⟩
@[reducible] def fPart_outs0 : List (Exit × SSt) := [(.ret, ⟨[(2, .one (.c (.d .bool)))], [], []⟩), (.exit 0, ⟨[], [], []⟩)]
def fPart_l0 (n : Nat) (rec : (List UInt8) → Int → Int → Option (((Bool × (Unit)) × (Unit) × (Unit)) ⊕ ((Unit) × (Unit) × (Unit)))) (a1 : List UInt8) (a2 : Int) (a3 : Int) : Option (((Bool × (Unit)) × (Unit) × (Unit)) ⊕ ((Unit) × (Unit) × (Unit))) :=
  (bif decide (a3 < a2) then (sAt a1 a3).bind fun (c1 : Int) => (fSign_t n c1).bind fun (r2 : Bool) => (bif !r2 then some (Sum.inl ((false, ()), ((), ()))) else letO (IntKind.wrap .i64 (a3 + (1 : Int))) fun (n3 : Int) => rec a1 a2 n3) else some (Sum.inr (((), ((), ())))))
def fPart_F0 (n : Nat) (rec : pSt fPart_sh0 → Option (pOuts fPart_outs0)) (p : pSt fPart_sh0) : Option (pOuts fPart_outs0) := fPart_l0 n (fun a1 a2 a3 => rec ((a1, (a2, (a3, ()))), ((), ()))) p.1.1 p.1.2.1 p.1.2.2.1
def fPart_loop0 (n m : Nat) (a1 : List UInt8) (a2 : Int) (a3 : Int) : Option (((Bool × (Unit)) × (Unit) × (Unit)) ⊕ ((Unit) × (Unit) × (Unit))) := iterF (fPart_F0 n) m ((a1, (a2, (a3, ()))), ((), ()))
theorem fPart_loop0_succ (n m : Nat) (a1 : List UInt8) (a2 : Int) (a3 : Int) : fPart_loop0 n (m + 1) a1 a2 a3 = fPart_l0 n (fun a1 a2 a3 => fPart_loop0 n m a1 a2 a3) a1 a2 a3 := rfl
def fPart_L0 (n : Nat) : LC := { sh := fPart_sh0, outs := fPart_outs0, F := iterF (fPart_F0 n) n }
def fPart_lts (n : Nat) : List LC := [fPart_L0 n]
def fPart_t (n : Nat) (a1 : List UInt8) : Option (Bool) :=
  (bif decide (a1 = ([] : List UInt8)) then some false else (bif decide (a1 = ([46] : List UInt8)) then some false else (bif decide (a1 = ([46, 46] : List UInt8)) then some false else (fPart_loop0 n n a1 ((List.length a1 : Nat) : Int) (0 : Int)).bind fun (o4 : ((Bool × (Unit)) × (Unit) × (Unit)) ⊕ ((Unit) × (Unit) × (Unit))) => Sum.elim (fun (q5 : (Bool × (Unit)) × (Unit) × (Unit)) => some q5.1.1) (fun (q6 : (Unit) × (Unit) × (Unit)) => some true) o4)))
def fPart_fc (n : Nat) : FC := { f := 71, args := [.one (.c (.d .str))], res := .one (.c (.d .bool)), F := fun p => fPart_t n p }
def fPart_ct (n : Nat) : List FC := [fSign_fc n]
theorem fPart_ctok (n : Nat) {G : World → Prop} (hG : Know Inv G) : ∀ c ∈ fPart_ct n, FCok Tryd.prog G c ∧ noTup c.args = true := List.forall_mem_cons.2 ⟨fSign_ok n G hG, (fun _ h => by cases h)⟩
def fPart_dh : Hints := []
theorem fPart_dr : drB fPart_dh (bodyOf Tryd.f71) = true := by kernel_rfl
theorem fPart_eq0 (n : Nat) : ∀ rec p, fPart_F0 n rec p = round Tryd.prog 25 (fPart_ct n) (fPart_lts n) fPart_dh 1 fPart_sh0 fPart_outs0 (bodyAt 0 0 (bodyOf Tryd.f71)) rec p := by intro rec p; kernel_rfl
theorem fPart_lok0 (n : Nat) {F : Fr} (hF : F.n = 25) (hK : Know Inv F.G) : LCok Tryd.prog F (fPart_L0 n) (bodyAt 0 0 (bodyOf Tryd.f71)) :=
  loop_ok hF (by kernel_rfl) (fPart_ctok n hK) (fPart_eq0 n) (fuel := n) (fun _ => rfl) (lok_of fun j L h1 h2 h3 => absurd h2 (Nat.not_lt.2 (Nat.le_trans (by decide +kernel) h1))) (drB_at fPart_dr)
theorem fPart_eq (n : Nat) : ∀ a, (fPart_fc n).F a = main Tryd.prog 25 (fPart_ct n) (fPart_lts n) fPart_dh (bodyOf Tryd.f71) [.tmp 2] (fPart_fc n).args (fPart_fc n).res a := by intro a; kernel_rfl
theorem fPart_ok (n : Nat) : FCall Inv Tryd.prog (fPart_fc n) := fun G hG => ⟨⟨by kernel_rfl, fun a r h => main_ok (c := bodyOf Tryd.f71) Tryd.func71 (by kernel_rfl) (by kernel_rfl) (Nat.le_of_ble_eq_true (by kernel_rfl)) hG.st (by kernel_rfl) (rs := [.tmp 2]) (by kernel_rfl) (fPart_ctok n hG) (lts := fPart_lts n) (fun F hF hFG => have hK : Know Inv F.G := hFG ▸ hG; (lok_of (c := (bodyOf Tryd.f71)) (fun j L h1 h2 h3 => by
    have h2' : j < 1 := Nat.lt_of_lt_of_le h2 (by decide +kernel)
    match j, h1, h2', h3 with
    | 0, _, _, h3 => obtain rfl := Option.some.inj h3; exact (show bodyAt 0 0 (bodyOf Tryd.f71) = bodyAt 0 0 (bodyOf Tryd.f71) by kernel_rfl) ▸ fPart_lok0 n hF hK
    | j + 1, _, h2', _ => exact absurd h2' (by omega)))) fPart_dr ((fPart_eq n a).symm.trans h)⟩, rfl⟩
end Go.Proofs.YtaglhmoldbndkaaDoor.AM

/- Plain lemmas on the partial functions that operations are, at natural numbers. -/
namespace Go.Proofs.YtaglhmoldbndkaaDoor.AM
open Go.RowKit
set_option linter.unusedVariables false
theorem nth_lt {β : Type} {l : List β} {j : Nat} (h : j < l.length) : nth l j = some l[j] := by rw [nth_eq, List.getElem?_eq_getElem h]
theorem idx_lt {β : Type} {l : List β} {j : Nat} (h : j < l.length) : idxL l (j : Int) = some l[j] := by
  unfold idxL; rw [if_pos (by omega), Int.toNat_natCast, nth_lt h]
theorem sAt_lt {s : List UInt8} {j : Nat} (h : j < s.length) : sAt s (j : Int) = some ((s[j].toNat : Nat) : Int) := by
  unfold sAt; rw [idx_lt h]; rfl
theorem sub_le {β : Type} {l : List β} {a b : Nat} (h1 : a ≤ b) (h2 : b ≤ l.length) : subO l (a : Int) (b : Int) = some ((l.drop a).take (b - a)) := by
  unfold subO; rw [if_pos ⟨by omega, by omega, by omega⟩, Int.toNat_natCast, Int.toNat_natCast]
theorem sub_zero {β : Type} {l : List β} {b : Nat} (h2 : b ≤ l.length) : subO l (0 : Int) (b : Int) = some (l.take b) := by
  have := sub_le (l := l) (a := 0) (b := b) (Nat.zero_le _) h2
  simpa using this
theorem app_le {β : Type} {k : Nat} {xs ys : List β} (h : (xs.length + ys.length) * k ≤ 140737488355328) : appO k xs ys = some (xs ++ ys) := by
  unfold appO; rw [if_pos h]
theorem wrap_succ {i : Nat} (h : i < 4611686018427387904) : IntKind.wrap .i64 ((i : Int) + 1) = ((i + 1 : Nat) : Int) := by rw [wrap64 (by omega) (by omega)]; rfl
theorem wrap_nat {i : Nat} (h : i < 4611686018427387904) : IntKind.wrap .i64 (i : Int) = (i : Int) := by rw [wrap64 (by omega) (by omega)]
theorem wrap_add {i j : Nat} (h : i < 1000000000000) (h2 : j < 1000000000000) : IntKind.wrap .i64 ((i : Int) + (j : Int)) = ((i + j : Nat) : Int) := by rw [wrap64 (by omega) (by omega)]; omega
end Go.Proofs.YtaglhmoldbndkaaDoor.AM

/- Layer 5: a path's part: what it comes to. -/
namespace Go.Proofs.YtaglhmoldbndkaaDoor.AM
open Go.RowKit
set_option linter.unusedVariables false
set_option linter.unusedSimpArgs false
theorem fSign_spec (n : Nat) (c : UInt8) : fSign_t n ((c.toNat : Nat) : Int) = some (pSign c) := by
  have h : ∀ k : Fin 256, fSign_t 0 ((k.val : Nat) : Int) = some (pSign (UInt8.ofNat k.val)) := by decide +kernel
  have h1 := h ⟨c.toNat, c.toNat_lt⟩
  have e : UInt8.ofNat c.toNat = c := by simp
  rw [e] at h1
  exact h1
theorem fPart_loop (n : Nat) (s : List UInt8) (hL : s.length ≤ 1000000) : ∀ m j : Nat, j ≤ s.length → s.length - j < m → fPart_loop0 n m s ((s.length : Nat) : Int) (j : Int) = some (if (s.drop j).all pSign = true then Sum.inr ((), ((), ())) else Sum.inl ((false, ()), ((), ())))
  | 0, j, _, h => absurd h (Nat.not_lt_zero _)
  | m + 1, j, hj, h => by
    rw [fPart_loop0_succ]
    unfold fPart_l0
    by_cases c0 : j < s.length
    · have c0' : ((j : Nat) : Int) < ((s.length : Nat) : Int) := by omega
      have ih := fPart_loop n s hL m (j + 1) (by omega) (by omega)
      have hd : s.drop j = s[j] :: s.drop (j + 1) := (List.drop_eq_getElem_cons c0)
      simp only [c0', decide_true, cond_true, sAt_lt c0, Option.bind_some, fSign_spec, letO, wrap_succ (show j < 4611686018427387904 by omega), ih, hd, List.all_cons]
      cases pSign s[j] <;> simp
    · have c0' : ¬ ((j : Nat) : Int) < ((s.length : Nat) : Int) := by omega
      have : s.drop j = [] := List.drop_eq_nil_of_le (by omega)
      simp [c0', this]
theorem fPart_spec (n : Nat) (s : List UInt8) (hL : s.length ≤ 1000000) (hn : s.length < n) : fPart_t n s = some (partS s) := by
  unfold fPart_t partS
  have := fPart_loop n s hL n 0 (Nat.zero_le _) (by omega)
  rw [show ((0 : Nat) : Int) = (0 : Int) from rfl] at this
  rw [this, List.drop_zero]
  cases decide (s = []) <;> cases decide (s = [46]) <;> cases decide (s = [46, 46]) <;> cases s.all pSign <;> rfl
end Go.Proofs.YtaglhmoldbndkaaDoor.AM

/- What a function keeps that ranges over the parts of a text. -/
namespace Go.Proofs
open Go.RowKit Go.Shelf Go.Lib
attribute [local go_sem] Oper.semAt_some
set_option linter.unusedVariables false
set_option linter.unusedSimpArgs false
namespace YtaglhmoldbndkaaDoor.AM
theorem ret_cell {P : Program} {fn : Func} {p : Tmp} {ty : TypeId} {b : Nat} {v : Value} {tmps : Array Value} {w : World} (h : fn.results = #[.cell p ty]) (hp : tmps.getD p undef = .pointer (some ⟨b, 0, none⟩)) (ha : aggD P ty = some false)
    (hc : w.cell? ⟨b, 0, none⟩ = some v) : (results fn tmps).run P w = .ok v w := by
  have hp' : tmps[p]?.getD undef = .pointer (some ⟨b, 0, none⟩) := by simpa using hp
  simp only [results, h]
  simp [Sem.run_bind, hp', asAddr, loadVar, run_isAgg' ha w, go_sem, hc]
theorem below_cell {W W' : World} {a : Addr} {v : Value} (hb : Below W.heap.size W W') (h : W.cell? a = some v) : W'.cell? a = some v := by
  obtain ⟨o, ho, hc⟩ := cells_of_cell h
  exact (World.cell?_of_block ((hb.block _ (Array.getElem?_eq_some_iff.1 ho).1).trans ho |>.trans ho.symm)).trans h
theorem below_frozen {W W' : World} {a : Addr} {v : Value} (hb : Below W.heap.size W W') (h : W.cell? a = some v) : W'.frozen? a = W.frozen? a := by
  obtain ⟨o, ho, hc⟩ := cells_of_cell h
  exact World.frozen?_of_block ((hb.block _ (Array.getElem?_eq_some_iff.1 ho).1).trans ho |>.trans ho.symm)
theorem keeps_below {W W' : World} (hb : Below W.heap.size W W') : KeepsOthers W W' := ⟨hb.size, fun k o h _ => (hb.block k (Array.getElem?_eq_some_iff.1 h).1).trans h⟩
theorem left_below {pS : Nat} {r : List UInt8} {W W' : World} (h : Left pS r W) (hb : Below W.heap.size W W') : Left pS r W' := ⟨below_cell hb h.1, (below_frozen hb h.1).trans h.2⟩
theorem boxed_cell {w : World} {b : Nat} {v : Value} {t : TypeId} (h : w.heap[b]? = some (.cells #[v] t (0, 0))) : w.cell? ⟨b, 0, none⟩ = some v ∧ w.frozen? ⟨b, 0, none⟩ = false := by
  constructor
  · simp [World.cell?, h]
  · simp [World.frozen?, h]
theorem hag : aggD Tryd.prog 4 = some false := by kernel_rfl
/-- between two rounds: the cells of a function value and of the result -/
structure Rng (fv : Value) (pF pR : Nat) (pP pC : Nat) (c : UInt8) (w0 : World) (pred : List UInt8 → Bool) (pre : List (List UInt8)) (W : World) : Prop where
  fn : W.cell? ⟨pF, 0, none⟩ = some fv
  res : W.cell? ⟨pR, 0, none⟩ = some (.bool false)
  frz : W.frozen? ⟨pR, 0, none⟩ = false
  cP : W.cell? ⟨pP, 0, none⟩ = some (.string (ba [c]))
  cC : W.cell? ⟨pC, 0, none⟩ = some (.int .i64 0)
  below : Below w0.heap.size w0 W
  all : pre.all pred = true
structure RngX (pR : Nat) (w0 : World) (pred : List UInt8 → Bool) (pre : List (List UInt8)) (W : World) : Prop where
  res : W.cell? ⟨pR, 0, none⟩ = some (.bool false)
  below : Below w0.heap.size w0 W
  no : pre.all pred = false
theorem rng_own {fv : Value} {pF pR pP pC : Nat} {c : UInt8} {w0 : World} {pred : List UInt8 → Bool} {B : Nat} (hB : w0.heap.size ≤ B) : OwnFrom B (Rng fv pF pR pP pC c w0 pred) := fun s W W' row h hg hr =>
  ⟨own_cell h.fn hg hr, own_cell h.res hg hr, (frozen_kept h.res hg (fun r e => (hr r e).2)).trans h.frz, own_cell h.cP hg hr, own_cell h.cC hg hr, h.below.grown hg h.below.size (fun k e => Nat.le_trans hB (hr k e).1), h.all⟩
theorem rngX_own {pR : Nat} {w0 : World} {pred : List UInt8 → Bool} {B : Nat} (hB : w0.heap.size ≤ B) : OwnFrom B (RngX pR w0 pred) := fun s W W' row h hg hr =>
  ⟨own_cell h.res hg hr, h.below.grown hg h.below.size (fun k e => Nat.le_trans hB (hr k e).1), h.no⟩
theorem rng_below {fv : Value} {pF pR pP pC : Nat} {c : UInt8} {w0 : World} {pred : List UInt8 → Bool} {pre : List (List UInt8)} {x : List UInt8} {W W' : World} (h : Rng fv pF pR pP pC c w0 pred pre W) (hb : Below W.heap.size W W') (hx : pred x = true) : Rng fv pF pR pP pC c w0 pred (pre ++ [x]) W' :=
  ⟨below_cell hb h.fn, below_cell hb h.res, (below_frozen hb h.res).trans h.frz, below_cell hb h.cP, below_cell hb h.cC, h.below.trans (hb.mono h.below.size), by rw [List.all_append, h.all]; simp [hx]⟩
theorem rng_set {fv : Value} {pF pR pP pC : Nat} {c : UInt8} {w0 : World} {pred : List UInt8 → Bool} {pre : List (List UInt8)} {W : World} {q : Nat} (v : Value) (h : Rng fv pF pR pP pC c w0 pred pre W) (h0 : w0.heap.size ≤ q) (h1 : q ≠ pF) (h2 : q ≠ pR) (h3 : q ≠ pP) (h4 : q ≠ pC) : Rng fv pF pR pP pC c w0 pred pre (W.setCell ⟨q, 0, none⟩ v) := by
  have ne : ∀ p : Nat, q ≠ p → (W.setCell ⟨q, 0, none⟩ v).cell? ⟨p, 0, none⟩ = W.cell? ⟨p, 0, none⟩ := fun p hp => World.cell?_setCell_other _ _ _ _ (by intro e; exact hp (by injection e with e))
  exact ⟨(ne _ h1).trans h.fn, (ne _ h2).trans h.res, by rw [World.frozen?_setCell]; exact h.frz, (ne _ h3).trans h.cP, (ne _ h4).trans h.cC, h.below.setCell (by simpa using h0) _, h.all⟩
theorem four (w : World) (o0 o1 o2 o3 : Obj) : ∃ W, ((((w.alloc o0).alloc o1).alloc o2).alloc o3) = W ∧ W.heap.size = w.heap.size + 4 ∧ Below w.heap.size w W ∧ W.heap[w.heap.size]? = some o0 ∧ W.heap[w.heap.size + 1]? = some o1 ∧ W.heap[w.heap.size + 1 + 1]? = some o2 ∧ W.heap[w.heap.size + 1 + 2]? = some o3 := by
  have al : ∀ (w : World) (o : Obj) (k : Nat), k < w.heap.size → (w.alloc o).heap[k]? = w.heap[k]? := fun w o k h => Below.heap_alloc _ _ _ h
  refine ⟨_, rfl, by simp, ((((Below.refl _ w).alloc (Nat.le_refl _) _).alloc (by simp) _).alloc (by simp; omega) _).alloc (by simp; omega) _, ?_, ?_, ?_, ?_⟩
  · rw [al _ _ _ (by simp <;> omega), al _ _ _ (by simp <;> omega), al _ _ _ (by simp), World.alloc_heap_new]
  · rw [al _ _ _ (by simp <;> omega), al _ _ _ (by simp)]
    have := World.alloc_heap_new (w.alloc o0) o1
    rw [World.size_alloc] at this; exact this
  · rw [al _ _ _ (by simp)]
    have := World.alloc_heap_new ((w.alloc o0).alloc o1) o2
    rw [World.size_alloc, World.size_alloc] at this; exact this
  · have := World.alloc_heap_new (((w.alloc o0).alloc o1).alloc o2) o3
    rw [World.size_alloc, World.size_alloc, World.size_alloc] at this; exact this
structure RngY (pR : Nat) (w0 : World) (pred : List UInt8 → Bool) (pre : List (List UInt8)) (W : World) : Prop where
  res : W.cell? ⟨pR, 0, none⟩ = some (.bool true)
  below : Below w0.heap.size w0 W
  no : pre.all pred = false
theorem all_stop {pred : List UInt8 → Bool} {s x : List UInt8} {pre t : List (List UInt8)} (hsp : spl 47 [] s = pre ++ x :: t) (hn : (pre ++ [x]).all pred = false) : (spl 47 [] s).all pred = false := by
  rw [List.all_append, Bool.and_eq_false_iff] at hn
  rw [hsp, List.all_append, Bool.and_eq_false_iff]
  rcases hn with hn | hn
  · exact Or.inl hn
  · refine Or.inr ?_
    simp only [List.all_cons, List.all_nil, Bool.and_true] at hn
    rw [List.all_cons, hn]; rfl
end YtaglhmoldbndkaaDoor.AM
end Go.Proofs

/- Layer 5: files.Path. -/
namespace Go.Proofs
open Go.RowKit Go.Shelf Go.Lib
attribute [local go_sem] Oper.semAt_some
set_option linter.unusedVariables false
set_option linter.unusedSimpArgs false
namespace YtaglhmoldbndkaaDoor.AM
theorem part_one (x : List UInt8) (w : World) (hI : Inv w) (hx : x.length ≤ 1000000) : Calls Tryd.prog 71 #[.string (ba x)] w fun e w' => e = .returned (.bool (partS x)) ∧ Below w.heap.size w w' := by
  have h := (fPart_ok 1000001 Inv know_inv).1.2 x (partS x) (fPart_spec 1000001 x (by omega) (by omega))
  refine (h (fun _ _ => False) w #[.string (ba x)] hI (fun b o h => h.elim) ⟨drep_val _, trivial⟩).mono ?_
  rintro e w' ⟨v, Pc, rfl, hb, _, _, hv⟩
  have hv' : v = .bool (partS x) := of_val hv
  rw [hv']
  exact ⟨rfl, hb⟩
set_option maxHeartbeats 2000000 in
theorem fPath_calls (s : List UInt8) (w : World) (hI : Inv w) : Calls Tryd.prog 56 #[.string (ba s)] w fun e w' => e = .returned (.bool (pathS s)) ∧ Below w.heap.size w w' := by
  refine (callsIn_wide (n := 9)).1 ?_
  refine callsIn_of_wp_marks Tryd.func56 rfl trivial ?_ rfl
  simp only [Tryd.ntmps56, List.size_toArray, List.length_cons, List.length_nil, Nat.reduceAdd, Nat.reduceSub, Array.replicate_succ, Array.replicate_zero, List.push_toArray, List.append_toArray, List.nil_append, List.cons_append]
  have hsz : (ba s).size = s.length := ba_len s
  by_cases h2 : s.length ≤ 60
  · skip
    gi_wp2_with (refine ⟨trivial, ?_⟩; gi_at_call 70; refine (callsIn_wide.2 (SplitSeq_calls _ _ _)).mono ?_; rintro e w' ⟨rfl, rfl⟩)
    obtain ⟨W0, hW0, hs0, hb0, g0, g1, g2, g3⟩ := four w (Obj.cells #[Value.bool false] 4) (Obj.cells #[Value.string (ba s)] 9) (Obj.cells #[Value.string { data := #[47] }] 9) (Obj.cells #[Value.int IntKind.i64 0] 3)
    rw [hW0]
    clear hW0
    obtain ⟨c1, f1⟩ := boxed_cell g0
    obtain ⟨c2, f2⟩ := boxed_cell g1
    obtain ⟨c3, f3⟩ := boxed_cell g2
    obtain ⟨c4, f4⟩ := boxed_cell g3
    refine range_split (n := 9) (by omega) 47 (w.heap.size + 1) (w.heap.size + 1 + 1) (w.heap.size + 1 + 2) s (by omega) rfl ⟨c2, f2⟩
      (Rng (.string (ba [47])) (w.heap.size + 1 + 1) w.heap.size (w.heap.size + 1 + 1) (w.heap.size + 1 + 2) 47 w partS) (RngX w.heap.size w partS) (rng_own (by omega)) (rngX_own (by omega))
      (fun pre W h => ⟨h.cP, h.cC, (hI.below h.below).maxLen⟩) (fun pre W v h => rng_set v h (by omega) (by omega) (by omega) (by omega) (by omega)) ⟨c3, c1, f1, c3, c4, hb0, rfl⟩
      (fun x => { tmps := #[.string (ba s), undef, .pointer (some ⟨w.heap.size, 0, none⟩), .string (ba x), .string (ba s), .int .i64 s.length, .bool (decide ((60 : Int) < s.length)), .string (ba s), .func (.func 80) #[] #[.pointer (some ⟨w.heap.size + 1 + 1, 0, none⟩), .pointer (some ⟨w.heap.size + 1, 0, none⟩), .pointer (some ⟨w.heap.size + 1 + 2, 0, none⟩)], .string (ba x), undef, undef, undef], defers := [] }) ?assign ?body ?done ?stop
    case assign =>
      intro l x W K hK
      gi_wp2
      exact hK
    case body =>
      intro l pre x r W hi hL hx
      have k1 := hi.res
      have k2 := hi.frz
      have hc := part_one x W (hI.below hi.below) (by omega)
      cases hpx : partS x with
      | true =>
        rw [hpx] at hc
        gi_wp2_with (refine ⟨trivial, ?_⟩; gi_at_call 71; refine (CallsIn.inRound l (callsIn_wide.2 hc)).mono ?_; rintro e w' ⟨rfl, hb'⟩)
        exact ⟨keeps_below hb', rng_below hi hb' (by simp [hpx]), left_below hL hb'⟩
      | false =>
        rw [hpx] at hc
        gi_wp2_with (refine ⟨trivial, ?_⟩; gi_at_call 71; refine (CallsIn.inRound l (callsIn_wide.2 hc)).mono ?_; rintro e w' ⟨rfl, hb'⟩; have k3 := below_cell hb' hi.res; have k4 := (below_frozen hb' hi.res).trans hi.frz)
        exact ⟨(keeps_below hb').trans (KeepsOthers.setCell _ _ _), World.cell?_setCell_same' _ _ _ (by rw [k3]; rfl), (hi.below.trans (hb'.mono hi.below.size)).setCell (by simp) _, by simp [hpx]⟩
    case done =>
      intro D W hD hi hK
      have k1 := hi.res
      have k2 := hi.frz
      gi_wp2
      have hK' := (KeepsOthers.setCell W ⟨w.heap.size, 0, none⟩ (.bool true)).same D _ hK rfl
      have hW' : Below w.heap.size w (W.setCell ⟨w.heap.size, 0, none⟩ (.bool true)) := hi.below.setCell (by simp) _
      have k5 : (W.setCell ⟨w.heap.size, 0, none⟩ (.bool true)).cell? ⟨w.heap.size, 0, none⟩ = some (.bool true) := World.cell?_setCell_same' _ _ _ (by rw [k1]; rfl)
      generalize W.setCell ⟨w.heap.size, 0, none⟩ (.bool true) = W2 at hK' hW' k5
      refine ⟨by simp, .inl ⟨_, _, rfl, run_takeDeferred hK', ?_⟩⟩
      have hg := grownBy_putObj' W2 D (.deferred none)
      refine ⟨_, ret_cell (b := w.heap.size) (v := .bool true) rfl rfl hag (cell_kept k5 hg (fun r e => by cases e; exact ⟨_, hK', rfl⟩)), ?_, ?_⟩
      · have ha := hi.all
        unfold pathS; simp [h2, ha]
      · exact hW'.grown hg hW'.size (fun k e => by cases e; omega)
    case stop =>
      intro D pre x t W hD hsp hi hK
      refine ⟨by simp, .inl ⟨_, _, rfl, run_takeDeferred hK, ?_⟩⟩
      have hg := grownBy_putObj' W D (.deferred none)
      refine ⟨_, ret_cell (b := w.heap.size) (v := .bool false) rfl rfl hag (cell_kept hi.res hg (fun r e => by cases e; exact ⟨_, hK, rfl⟩)), ?_, ?_⟩
      · have ha := all_stop hsp hi.no
        unfold pathS; simp [ha]
      · exact hi.below.grown hg hi.below.size (fun k e => by cases e; omega)
  · gi_wp2
    refine ⟨_, ret_cell (b := w.heap.size) (v := .bool false) rfl rfl hag (by simp), ?_, ?_⟩
    · unfold pathS; simp [h2]
    · exact (Below.refl _ w).alloc (Nat.le_refl _) _
def fPath_t (s : List UInt8) : Option Bool := some (pathS s)
def fPath_fc : FC := { f := 56, args := [strA], res := boolA, F := fun p => fPath_t p }
theorem fPath_ok : FCall Inv Tryd.prog fPath_fc := fun G hG => ⟨⟨by kernel_rfl, fun (s : List UInt8) r h => by
  have hr : pathS s = r := Option.some.inj h
  intro Pc w vs hg hlt hv
  obtain ⟨l⟩ := vs
  match l, hv with
  | [x], ⟨h1, _⟩ =>
    obtain rfl : x = .string (ba s) := of_val h1
    refine (fPath_calls s w (hG.im w hg)).mono ?_
    rintro e w' ⟨rfl, hb⟩
    subst hr
    exact pc_done rfl hb (drep_val _)⟩, rfl⟩
end YtaglhmoldbndkaaDoor.AM
end Go.Proofs
