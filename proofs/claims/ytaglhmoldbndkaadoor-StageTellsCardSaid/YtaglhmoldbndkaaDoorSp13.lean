/- One text of FilBAll, SlAll, Shelf (mk/pack.py). -/
import Derived.Test.YtaglhmoldbndkaaDoorSp8
import Derived.Shelf.Small.Strs
import Derived.Shelf.Lay
import Derived.Test.YtaglhmoldbndkaaDoorSp12
import Derived.Shelf.RegionOpenPlain
import Derived.Laws.CopyRow
import Derived.Laws.CopyOwn
import Derived.Laws.AppendOwn
import Derived.Laws.Externs
import Derived.Laws.NewBlocks
import Derived.Lib.Overlaps
import Derived.Lib.AppendZerosOnto
import Derived.Lib.JoinLaws
import Derived.Deep.RegionLaw
import Derived.Lib.Hide
import Derived.Shelf.Strings.Builder1
import Derived.Shelf.Strings.BuilderF
import Derived.Shelf.Strings.BuilderK
import Derived.Shelf.Strings.Search1
import Derived.Shelf.Strings.Search2
import Derived.Shelf.Strings.Search3
import Derived.Shelf.LaysM
import Derived.Shelf.Strings.Shaped
import Derived.Shelf.Unicode.DecodeSlow
import Derived.Shelf.Strings.BuilderCap
import Derived.Shelf.Slices.Turned
import Derived.Test.YtaglhmoldbndkaaDoorProg
/- One text of Cmp, FilB, FilB1 (mk/merge.py). -/
/- strings.Compare: its contract. -/
namespace Go.Proofs
open Go.RowKit Go.Shelf Go.Lib
shelf_lay Lays.n106 Nm 106 at Tryd as Tryd.laysCompare
set_option linter.unusedVariables false
set_option linter.unusedSimpArgs false
namespace YtaglhmoldbndkaaDoor.AM
variable {P : Program}
/-! strings.Compare -/
def compare_fc : FC := { f := 67, args := [strA, strA], res := intA, F := fun p => some (Lib.compareBytes p.1 p.2) }
def compare_t (a b : List UInt8) : Option Int := some (Lib.compareBytes a b)
theorem compare_ok : FCall Inv Tryd.prog compare_fc := fun G hG => ⟨⟨by kernel_rfl, fun a r h => by
  obtain ⟨s, t⟩ := a
  have hr : Lib.compareBytes s t = r := Option.some.inj h
  intro Pc w vs hg hlt hv
  obtain ⟨l⟩ := vs
  match l, hv with
  | [x, y], ⟨h1, h2, _⟩ =>
    obtain rfl : x = .string (ba s) := of_val h1
    obtain rfl : y = .string (ba t) := of_val h2
    have e1 : (ba s).data.toList = s := by simp [ba]
    have e2 : (ba t).data.toList = t := by simp [ba]
    have hh := Any.strings_Compare Tryd.laysCompare (ba s) (ba t) w
    rw [e1, e2, hr] at hh
    refine hh.mono ?_
    rintro e w' ⟨rfl, rfl⟩
    exact pc_done rfl (Below.refl _ _) (drep_val _)⟩, rfl⟩
end YtaglhmoldbndkaaDoor.AM
end Go.Proofs

namespace Go.Proofs.YtaglhmoldbndkaaDoor.AM
open Go.RowKit
set_option linter.unusedVariables false
set_option maxRecDepth 20000
/-! armada/files.change$1 -/
def fCmp_lts (n : Nat) : List LC := []
def fCmp_t (n : Nat) (a1 : (List UInt8) × (List UInt8)) (a2 : List UInt8) : Option (Int) :=
  (compare_t a1.1 a2).bind fun (r1 : Int) => some r1
def fCmp_fc (n : Nat) : FC := { f := 66, args := [.one (.agg [.d .str, .d .str]), .one (.c (.d .str))], res := .one (.c (.d (.int .i64))), F := fun p => fCmp_t n p.1 p.2 }
def fCmp_ct (n : Nat) : List FC := [compare_fc]
theorem fCmp_ctok (n : Nat) {G : World → Prop} (hG : Know Inv G) : ∀ c ∈ fCmp_ct n, FCok Tryd.prog G c ∧ noTup c.args = true := List.forall_mem_cons.2 ⟨compare_ok G hG, (fun _ h => by cases h)⟩
def fCmp_dh : Hints := []
theorem fCmp_dr : drB fCmp_dh (bodyOf Tryd.f66) = true := by kernel_rfl
theorem fCmp_eq (n : Nat) : ∀ a, (fCmp_fc n).F a = main Tryd.prog 9 (fCmp_ct n) (fCmp_lts n) fCmp_dh (bodyOf Tryd.f66) [.tmp 4] (fCmp_fc n).args (fCmp_fc n).res a := by intro a; kernel_rfl
theorem fCmp_ok (n : Nat) : FCall Inv Tryd.prog (fCmp_fc n) := fun G hG => ⟨⟨by kernel_rfl, fun a r h => main_ok (c := bodyOf Tryd.f66) Tryd.func66 (by kernel_rfl) (by kernel_rfl) (Nat.le_of_ble_eq_true (by kernel_rfl)) hG.st (by kernel_rfl) (rs := [.tmp 4]) (by kernel_rfl) (fCmp_ctok n hG) (lts := fCmp_lts n) (fun F hF hFG => have hK : Know Inv F.G := hFG ▸ hG; (lok_of fun j L h1 h2 h3 => absurd h2 (Nat.not_lt.2 (Nat.le_trans (by decide +kernel) h1)))) fCmp_dr ((fCmp_eq n a).symm.trans h)⟩, rfl⟩
/-! slices.BinarySearchFunc[[]armada/api.File,armada/api.File,string] -/
@[reducible] def fBs_sh0 : SSt := ⟨[(0, .one (.c (.d (.lst (.prod .str .str))))), (1, .one (.c (.d .str))), (2, .one (.c (.fn 66 []))), (8, .one (.c (.d (.int .i64)))), (9, .one (.c (.d (.int .i64)))), (10, .one (.c (.d (.int .i64))))], [], []⟩
@[reducible] def fBs_outs0 : List (Exit × SSt) := [(.exit 0, ⟨[(0, .one (.c (.d (.lst (.prod .str .str))))), (1, .one (.c (.d .str))), (2, .one (.c (.fn 66 []))), (8, .one (.c (.d (.int .i64)))), (9, .one (.c (.d (.int .i64))))], [], []⟩)]
def fBs_l0 (n : Nat) (rec : (List (List UInt8 × (List UInt8))) → (List UInt8) → Int → Int → Int → Option (((List (List UInt8 × (List UInt8))) × ((List UInt8) × (Unit × (Int × (Int × (Unit)))))) × (Unit) × (Unit))) (a1 : List (List UInt8 × (List UInt8))) (a2 : List UInt8) (a3 : Int) (a4 : Int) (a5 : Int) : Option (((List (List UInt8 × (List UInt8))) × ((List UInt8) × (Unit × (Int × (Int × (Unit)))))) × (Unit) × (Unit)) :=
  (bif decide (a4 < a5) then letO (IntKind.wrap .i64 (a4 + a5)) fun (n1 : Int) => letO (IntKind.wrap .u64 n1) fun (n2 : Int) => (shrO .u64 n2 (1 : Int)).bind fun (n3 : Int) => letO (IntKind.wrap .i64 n3) fun (n4 : Int) => (idxL a1 n4).bind fun (x5 : List UInt8 × (List UInt8)) => (fCmp_t n x5 a2).bind fun (r6 : Int) => (bif decide (r6 < (0 : Int)) then letO (IntKind.wrap .i64 (n4 + (1 : Int))) fun (n7 : Int) => rec a1 a2 a3 n7 a5 else rec a1 a2 a3 a4 n4) else some (((a1, (a2, ((), (a3, (a4, ()))))), ((), ()))))
def fBs_F0 (n : Nat) (rec : pSt fBs_sh0 → Option (pOuts fBs_outs0)) (p : pSt fBs_sh0) : Option (pOuts fBs_outs0) := fBs_l0 n (fun a1 a2 a3 a4 a5 => rec ((a1, (a2, ((), (a3, (a4, (a5, ())))))), ((), ()))) p.1.1 p.1.2.1 p.1.2.2.2.1 p.1.2.2.2.2.1 p.1.2.2.2.2.2.1
def fBs_loop0 (n m : Nat) (a1 : List (List UInt8 × (List UInt8))) (a2 : List UInt8) (a3 : Int) (a4 : Int) (a5 : Int) : Option (((List (List UInt8 × (List UInt8))) × ((List UInt8) × (Unit × (Int × (Int × (Unit)))))) × (Unit) × (Unit)) := iterF (fBs_F0 n) m ((a1, (a2, ((), (a3, (a4, (a5, ())))))), ((), ()))
theorem fBs_loop0_succ (n m : Nat) (a1 : List (List UInt8 × (List UInt8))) (a2 : List UInt8) (a3 : Int) (a4 : Int) (a5 : Int) : fBs_loop0 n (m + 1) a1 a2 a3 a4 a5 = fBs_l0 n (fun a1 a2 a3 a4 a5 => fBs_loop0 n m a1 a2 a3 a4 a5) a1 a2 a3 a4 a5 := rfl
def fBs_L0 (n : Nat) : LC := { sh := fBs_sh0, outs := fBs_outs0, F := iterF (fBs_F0 n) n }
def fBs_lts (n : Nat) : List LC := [fBs_L0 n]
def fBs_t (n : Nat) (a1 : List (List UInt8 × (List UInt8))) (a2 : List UInt8) (a3 : Unit) : Option (Int × (Bool)) :=
  (fBs_loop0 n n a1 a2 ((List.length a1 : Nat) : Int) (0 : Int) ((List.length a1 : Nat) : Int)).bind fun (o8 : ((List (List UInt8 × (List UInt8))) × ((List UInt8) × (Unit × (Int × (Int × (Unit)))))) × (Unit) × (Unit)) => (bif decide (o8.1.2.2.2.2.1 < o8.1.2.2.2.1) then (idxL o8.1.1 o8.1.2.2.2.2.1).bind fun (x9 : List UInt8 × (List UInt8)) => (fCmp_t n x9 o8.1.2.1).bind fun (r10 : Int) => some (o8.1.2.2.2.2.1, decide (r10 = (0 : Int))) else some (o8.1.2.2.2.2.1, false))
def fBs_fc (n : Nat) : FC := { f := 65, args := [.one (.c (.d (.lst (.prod .str .str)))), .one (.c (.d .str)), .one (.c (.fn 66 []))], res := .tup [.c (.d (.int .i64)), .c (.d .bool)], F := fun p => fBs_t n p.1 p.2.1 p.2.2 }
def fBs_ct (n : Nat) : List FC := [fCmp_fc n]
theorem fBs_ctok (n : Nat) {G : World → Prop} (hG : Know Inv G) : ∀ c ∈ fBs_ct n, FCok Tryd.prog G c ∧ noTup c.args = true := List.forall_mem_cons.2 ⟨fCmp_ok n G hG, (fun _ h => by cases h)⟩
def fBs_dh : Hints := []
theorem fBs_dr : drB fBs_dh (bodyOf Tryd.f65) = true := by kernel_rfl
theorem fBs_eq0 (n : Nat) : ∀ rec p, fBs_F0 n rec p = round Tryd.prog 49 (fBs_ct n) (fBs_lts n) fBs_dh 1 fBs_sh0 fBs_outs0 (bodyAt 0 0 (bodyOf Tryd.f65)) rec p := by intro rec p; kernel_rfl
theorem fBs_lok0 (n : Nat) {F : Fr} (hF : F.n = 49) (hK : Know Inv F.G) : LCok Tryd.prog F (fBs_L0 n) (bodyAt 0 0 (bodyOf Tryd.f65)) :=
  loop_ok hF (by kernel_rfl) (fBs_ctok n hK) (fBs_eq0 n) (fuel := n) (fun _ => rfl) (lok_of fun j L h1 h2 h3 => absurd h2 (Nat.not_lt.2 (Nat.le_trans (by decide +kernel) h1))) (drB_at fBs_dr)
theorem fBs_eq (n : Nat) : ∀ a, (fBs_fc n).F a = main Tryd.prog 49 (fBs_ct n) (fBs_lts n) fBs_dh (bodyOf Tryd.f65) [.tmp 6, .tmp 7] (fBs_fc n).args (fBs_fc n).res a := by intro a; kernel_rfl
theorem fBs_ok (n : Nat) : FCall Inv Tryd.prog (fBs_fc n) := fun G hG => ⟨⟨by kernel_rfl, fun a r h => main_ok (c := bodyOf Tryd.f65) Tryd.func65 (by kernel_rfl) (by kernel_rfl) (Nat.le_of_ble_eq_true (by kernel_rfl)) hG.st (by kernel_rfl) (rs := [.tmp 6, .tmp 7]) (by kernel_rfl) (fBs_ctok n hG) (lts := fBs_lts n) (fun F hF hFG => have hK : Know Inv F.G := hFG ▸ hG; (lok_of (c := (bodyOf Tryd.f65)) (fun j L h1 h2 h3 => by
    have h2' : j < 1 := Nat.lt_of_lt_of_le h2 (by decide +kernel)
    match j, h1, h2', h3 with
    | 0, _, _, h3 => obtain rfl := Option.some.inj h3; exact (show bodyAt 0 0 (bodyOf Tryd.f65) = bodyAt 0 0 (bodyOf Tryd.f65) by kernel_rfl) ▸ fBs_lok0 n hF hK
    | j + 1, _, h2', _ => exact absurd h2' (by omega)))) fBs_dr ((fBs_eq n a).symm.trans h)⟩, rfl⟩
end Go.Proofs.YtaglhmoldbndkaaDoor.AM

/- Layer 5: the place of a path among files in order; and files as cells. -/
namespace Go.Proofs.YtaglhmoldbndkaaDoor.AM
open Go.RowKit
set_option linter.unusedVariables false
set_option linter.unusedSimpArgs false
theorem cmp_neg (a b : List UInt8) : decide (Lib.compareBytes a b < 0) = ltS a b := by
  rw [compareBytes_eq]; unfold ltS; rw [bytesLess_cmp]
theorem cmp_zero (a b : List UInt8) : decide (Lib.compareBytes a b = 0) = decide (a = b) := by
  rw [compareBytes_eq, Bool.eq_iff_iff, decide_eq_true_iff, decide_eq_true_iff, (cmpL_cmp cmpB_cmp).zero]
theorem fCmp_spec (n : Nat) (f : FD) (p : List UInt8) : fCmp_t n f p = some (Lib.compareBytes f.1 p) := rfl
/-- files ahead of a path, and the others -/
structure Spl (l L R : List FD) (p : List UInt8) : Prop where
  eq : l = L ++ R
  lo : ∀ x ∈ L, ltS x.1 p = true
  hi : ∀ x ∈ R, ltS x.1 p = false
theorem spl_get {l L R : List FD} {p : List UInt8} (h : Spl l L R p) {k : Nat} (hk : k < l.length) : ltS (l[k]).1 p = decide (k < L.length) := by
  obtain ⟨rfl, h1, h2⟩ := h
  by_cases hkl : k < L.length
  · rw [List.getElem_append_left hkl, h1 _ (List.getElem_mem hkl), decide_eq_true hkl]
  · rw [List.getElem_append_right (by omega), h2 _ (List.getElem_mem _), decide_eq_false hkl]
theorem fBs_loop (n : Nat) {l L R : List FD} {p : List UInt8} (h : Spl l L R p) (hl : l.length ≤ 1000000) : ∀ (m i j : Nat), i ≤ L.length → L.length ≤ j → j ≤ l.length → j - i < m →
    fBs_loop0 n m l p (l.length : Int) (i : Int) (j : Int) = some ((l, (p, ((), (((l.length : Nat) : Int), (((L.length : Nat) : Int), ()))))), ((), ()))
  | 0, i, j, _, _, _, hm => absurd hm (Nat.not_lt_zero _)
  | m + 1, i, j, hi, hj, hjl, hm => by
    rw [fBs_loop0_succ]
    unfold fBs_l0
    by_cases c : i < j
    · have c' : ((i : Nat) : Int) < ((j : Nat) : Int) := by omega
      have e1 : IntKind.wrap .u64 ((i + j : Nat) : Int) = ((i + j : Nat) : Int) := by rw [IntKind.wrap_u64]; omega
      have e2 : shrO .u64 ((i + j : Nat) : Int) (1 : Int) = some (((i + j) / 2 : Nat) : Int) := by
        unfold shrO
        rw [if_pos (by omega)]
        congr 1
        show ((i + j : Nat) : Int).fdiv (2 ^ (min 1 64)) = _
        rw [Int.fdiv_eq_ediv_of_nonneg _ (by decide)]
        rfl
      have hk : (i + j) / 2 < l.length := by omega
      have hg := spl_get h hk
      have i1 := fBs_loop n h hl m ((i + j) / 2 + 1) j
      have i2 := fBs_loop n h hl m i ((i + j) / 2)
      simp only [c', decide_true, cond_true, letO, wrap_add (show i < 1000000000000 by omega) (show j < 1000000000000 by omega), e1, e2, Option.bind_some, wrap_nat (show (i + j) / 2 < 4611686018427387904 by omega), idx_lt hk, fCmp_spec, cmp_neg, hg, wrap_succ (show (i + j) / 2 < 4611686018427387904 by omega)]
      by_cases d : (i + j) / 2 < L.length
      · rw [decide_eq_true d]
        exact i1 (by omega) hj hjl (by omega)
      · rw [decide_eq_false d]
        exact i2 hi (by omega) (by omega) (by omega)
    · have c' : ¬ ((i : Nat) : Int) < ((j : Nat) : Int) := by omega
      have : i = L.length := by omega
      subst this
      simp [c']
def hasS : List FD → List UInt8 → Bool
  | [], _ => false
  | x :: _, p => decide (x.1 = p)
theorem fBs_spec (n : Nat) {l L R : List FD} {p : List UInt8} (h : Spl l L R p) (hl : l.length ≤ 1000000) (hn : l.length < n) (u : Unit) : fBs_t n l p u = some (((L.length : Nat) : Int), hasS R p) := by
  have hLl : L.length ≤ l.length := by rw [h.eq]; simp
  unfold fBs_t
  have := fBs_loop n h hl n 0 l.length (Nat.zero_le _) hLl (Nat.le_refl _) (by omega)
  rw [show ((0 : Nat) : Int) = (0 : Int) from rfl] at this
  rw [this]
  simp only [Option.bind_some]
  cases R with
  | nil =>
    have : L.length = l.length := by rw [h.eq]; simp
    simp [this, hasS]
  | cons x R =>
    have hlt : L.length < l.length := by rw [h.eq]; simp
    have e : l[L.length] = x := by simp [h.eq]
    have c : ((L.length : Nat) : Int) < ((l.length : Nat) : Int) := by omega
    simp only [c, decide_true, cond_true, idx_lt hlt, Option.bind_some, fCmp_spec, cmp_zero, e, hasS]
theorem spl_of {l : List FD} (p : List UInt8) (h : Rise l) : ∃ L R, Spl l L R p := by
  induction l with
  | nil => exact ⟨[], [], rfl, (fun x hx => by cases hx), (fun x hx => by cases hx)⟩
  | cons x t ih =>
    obtain ⟨h1, h2⟩ := List.pairwise_cons.1 h
    cases hx : ltS x.1 p with
    | true =>
      obtain ⟨L, R, e, a, b⟩ := ih h2
      exact ⟨x :: L, R, by rw [e]; rfl, (fun y hy => by rcases List.mem_cons.1 hy with rfl | hy; exact hx; exact a y hy), b⟩
    | false =>
      refine ⟨[], x :: t, rfl, (fun y hy => by cases hy), fun y hy => ?_⟩
      rcases List.mem_cons.1 hy with rfl | hy
      · exact hx
      · cases hy' : ltS y.1 p with
        | false => rfl
        | true => rw [lt_trans' (h1 y hy) hy'] at hx; cases hx
/-- the path is there -/
theorem step_has {l L R : List FD} {x : FD} {o : OD} (h : Spl l L (x :: R) o.2.1) (hr : Rise l) (hx : x.1 = o.2.1) : (getS l o.2.1).2 = true ∧ withoutS l o.2.1 = L ++ R ∧ insS o.2 (L ++ R) = L ++ o.2 :: R := by
  obtain ⟨rfl, h1, h2⟩ := h
  have ha := (rise_app.1 hr).2
  have hR : ∀ y ∈ R, ltS x.1 y.1 = true := (List.pairwise_cons.1 ha.1).1
  refine ⟨by rw [← hx]; exact get_mid x L R, without_mid hx (fun y hy => lt_ne (h1 y hy)) (fun y hy e => lt_ne (hR y hy) (by rw [hx]; exact e.symm)), ins_mid o.2 L R (fun y hy => lt_asym (h1 y hy)) (fun y hy => by have := hR y hy; rwa [hx] at this)⟩
theorem step_not {l L R : List FD} {o : OD} (h : Spl l L R o.2.1) (hr : Rise l) (hx : hasS R o.2.1 = false) : (getS l o.2.1).2 = false ∧ withoutS l o.2.1 = l ∧ insS o.2 l = L ++ o.2 :: R := by
  obtain ⟨rfl, h1, h2⟩ := h
  have hR : ∀ y ∈ R, ltS o.2.1 y.1 = true := by
    cases R with
    | nil => intro y hy; cases hy
    | cons x R =>
      have hx' : x.1 ≠ o.2.1 := of_decide_eq_false hx
      have hlt : ltS o.2.1 x.1 = true := lt_tot (h2 x (List.mem_cons_self ..)) hx'
      have ha := (List.pairwise_cons.1 (rise_app.1 hr).2.1).1
      intro y hy
      rcases List.mem_cons.1 hy with rfl | hy
      · exact hlt
      · exact lt_trans' hlt (ha y hy)
  have hno : NoP o.2.1 (L ++ R) := fun y hy => by
    rcases List.mem_append.1 hy with hy | hy
    · exact lt_ne (h1 y hy)
    · exact fun e => lt_ne (hR y hy) e.symm
  exact ⟨by rw [get_nop hno], without_nop hno, ins_mid o.2 L R (fun y hy => lt_asym (h1 y hy)) hR⟩
/-! files as cells -/
def fcells (l : List FD) : List Value := l.flatMap fun f => [.string (ba f.1), .string (ba f.2)]
theorem fcells_len : ∀ l : List FD, (fcells l).length = l.length * 2
  | [] => rfl
  | f :: l => by
    have := fcells_len l
    unfold fcells at this ⊢
    rw [List.flatMap_cons, List.length_append, this]
    simp; omega
theorem fcells_app (a b : List FD) : fcells (a ++ b) = fcells a ++ fcells b := List.flatMap_append
theorem fcells_one : ∀ (l : List FD), ∀ u ∈ fcells l, u.oneCell' = true := fun l u hu => by
  obtain ⟨f, _, hu⟩ := List.mem_flatMap.1 hu
  simp at hu
  rcases hu with rfl | rfl <;> rfl
theorem fcells_take (L R : List FD) : (fcells (L ++ R)).take (L.length * 2) = fcells L := by rw [fcells_app, ← fcells_len, List.take_left]
theorem fcells_drop (L R : List FD) : (fcells (L ++ R)).drop (L.length * 2) = fcells R := by rw [fcells_app, ← fcells_len, List.drop_left]
theorem fcells_get : ∀ (l : List FD) (k : Nat) (hk : k < l.length), (fcells l)[k * 2]? = some (.string (ba l[k].1)) ∧ (fcells l)[k * 2 + 1]? = some (.string (ba l[k].2))
  | f :: l, 0, _ => ⟨rfl, rfl⟩
  | f :: l, k + 1, hk => by
    have := fcells_get l k (by simpa using hk)
    have e : fcells (f :: l) = [.string (ba f.1), .string (ba f.2)] ++ fcells l := rfl
    rw [e]
    rw [List.getElem?_append_right (by simp; omega), List.getElem?_append_right (by simp; omega)]
    simp only [List.length_cons, List.length_nil, List.getElem_cons_succ]
    rw [show (k + 1) * 2 - (0 + 1 + 1) = k * 2 from by omega, show (k + 1) * 2 + 1 - (0 + 1 + 1) = k * 2 + 1 from by omega]
    exact this
/-- an owned row of files, as data -/
theorem own_dat {w : World} {B : Nat} {v : Value} {l : List FD} (h : w.ownsRow B 43 2 v l.length (fcells l)) : DatRep (Old w) w v (.lst 2 (l.map (toDats (.prod .str .str)))) := by
  rcases h.2 with ⟨rfl, h0⟩ | ⟨g, cap, cur, rfl, hb, hg, hn, hc, hs, ht⟩
  · have : l = [] := List.eq_nil_of_length_eq_zero h0
    subst this
    exact DatRep.lst none 0 0 2 [] 0 0 (fun _ _ => undef) rfl (Nat.le_refl _) (by unfold maxLen; omega) (fun x hx => by cases hx) (fun h => by cases h) (fun k j hk => by cases hk) (fun k j hk => by cases hk)
  · refine DatRep.lst (some ⟨g, 0, none⟩) l.length cap 2 _ g 0 (fun k j => (fcells l)[k * 2 + j]?.getD undef) (by simp) hn hc (fun x hx => by obtain ⟨f, _, rfl⟩ := List.mem_map.1 hx; rfl) (fun _ => rfl) (fun k j hk hj => ?_) (fun k j hk hj => ?_)
    · have hk' : k < l.length := by simpa using hk
      have hlt : k * 2 + j < (fcells l).length := by rw [fcells_len]; omega
      refine ⟨(Array.getElem?_eq_some_iff.1 hg).1, ?_, ?_⟩
      · rw [cell_of_row w g _ cur _ _ hg, List.getElem?_eq_getElem hlt]
        have : cur.toList[k * 2 + j]? = some (fcells l)[k * 2 + j] := by
          have e : (cur.toList.take (l.length * 2))[k * 2 + j]? = some (fcells l)[k * 2 + j] := by rw [ht, List.getElem?_eq_getElem hlt]
          rw [List.getElem?_take] at e
          split at e
          · exact e
          · cases e
        rw [Nat.zero_add]
        simpa using this
      · rw [List.getElem?_eq_getElem hlt]; exact fcells_one l _ (List.getElem_mem hlt)
    · have hk' : k < l.length := by simpa using hk
      have hg2 := fcells_get l k hk'
      simp only [List.getElem_map] at hj ⊢
      have hj2 : j < 2 := hj
      match j, hj2 with
      | 0, _ => rw [Nat.add_zero, hg2.1]; exact .v _
      | 1, _ => rw [hg2.2]; exact .v _
end Go.Proofs.YtaglhmoldbndkaaDoor.AM

/- One text of SlF, SlD, SlI, SlJ, SlK, SlO (mk/merge.py). -/
/- Lists of elements of more than one cell, in their owner's memory: copy, clear, and the steps of a walk. -/
namespace Go.Proofs
open Go.RowKit Go.Shelf Go.Lib
set_option linter.unusedVariables false
set_option linter.unusedSimpArgs false
namespace YtaglhmoldbndkaaDoor.AM
section
variable {P : Program}
theorem run_copy_rowN (w : World) (dT sT ty elem : TypeId) (g o dLen dCap : Nat) (a : Addr) (sLen sCap : Nat) (cur : Array Value) (t : TypeId) (cs : List Value) (size n : Nat)
    (hu : P.underlying dT = some (.slice elem)) (hs : (P.info? elem).map (·.size) = some size)
    (hg : w.heap[g]? = some (.cells cur t (0, 0))) (hn : Nat.min sLen dLen = n) (hl : cs.length = n * size)
    (hsrc : ∀ j v, cs[j]? = some v → w.cell? (a.add j) = some v) (hfit : o + cs.length ≤ cur.size) (h1 : ∀ v ∈ cs, v.oneCell' = true) :
    (Builtin.copy_ #[dT, sT] ty #[.slice (some ⟨g, o, none⟩) dLen dCap, .slice (some a) sLen sCap]).run P w =
      .ok (goInt n) (w.setRow g (cur.toList.take o ++ cs ++ cur.toList.drop (o + cs.length)).toArray) := by
  have hl' := run_firstCells_some (P := P) w size n a sLen sCap cs hl hsrc
  have hst := run_storeCells_at P g o t cs 0 cur w hg (by simpa using hfit) h1
  cases hq : P.info? elem with
  | none => simp [hq] at hs
  | some i =>
    have hi : i.size = size := by simpa [hq] using hs
    simp [Builtin.copy_, run_underlying hu, Builtin.lenOf, sizeOf, typeInfo, hq, hi, hn, hl', hst]
theorem run_clear_one (w : World) (t e ty : TypeId) (z : Value) (zs : List Value) (ht : P.underlying t = some (.slice e)) (hv : ∀ w, (zeroValue e).run P w = .ok z w) (hz : (Builtin.zeroCells z.cells 1).toList = zs) (h1 : ∀ v ∈ zs, v.oneCell' = true)
    (g o c : Nat) (cur : Array Value) (T : TypeId) (hg : w.heap[g]? = some (.cells cur T (0, 0))) (hfit : o + zs.length ≤ cur.size) :
    (Builtin.clear_ #[t] ty #[.slice (some ⟨g, o, none⟩) 1 c]).run P w = .ok (.tuple #[]) (w.setRow g (cur.toList.take o ++ zs ++ cur.toList.drop (o + zs.length)).toArray) := by
  have hst := run_storeCells_at P g o T zs 0 cur w hg (by simpa using hfit) h1
  simp only [Nat.add_zero] at hst
  simp [Builtin.clear_, run_underlying ht, hv, hz, hst]
theorem step_append_runI {ops : Array Oper} {o : Oper} {a : Act} {w : World} {K : Act → World → Prop} {Q : Exit → Act → World → Prop} {E : Prop}
    (hg : o.guard = none) (d x : Operand) (dT sT : TypeId) (hop : o.op = Op.call { callee := Callee.builtin Builtin.append, args := #[d, x], argTypes := #[dT, sT] })
    (v u : Value) (hd : a.eval d = v) (hx : a.eval x = u) {v' : Value} {w' : World} (hr : (Builtin.append_ #[dT, sT] o.type #[v, u]).run P w = .ok v' w') (hK : K (a.put o.dst v') w') :
    if Region.wanted o (yielded ops a.tmps) = true then Oper.wp P o a w K Q else E := by
  have hw : Region.wanted o (yielded ops a.tmps) = true := by simp [Region.wanted, hg]
  rw [if_pos hw]
  unfold Oper.wp
  simp [execOp, hop, resolve, invoke, builtin, hd, hx, hr, Result.andThen]
  exact hK
theorem step_copy_runI {ops : Array Oper} {o : Oper} {a : Act} {w : World} {K : Act → World → Prop} {Q : Exit → Act → World → Prop} {E : Prop}
    (hg : o.guard = none) (d x : Operand) (dT sT : TypeId) (hop : o.op = Op.call { callee := Callee.builtin Builtin.copy, args := #[d, x], argTypes := #[dT, sT] })
    (v u : Value) (hd : a.eval d = v) (hx : a.eval x = u) {v' : Value} {w' : World} (hr : (Builtin.copy_ #[dT, sT] o.type #[v, u]).run P w = .ok v' w') (hK : K (a.put o.dst v') w') :
    if Region.wanted o (yielded ops a.tmps) = true then Oper.wp P o a w K Q else E := by
  have hw : Region.wanted o (yielded ops a.tmps) = true := by simp [Region.wanted, hg]
  rw [if_pos hw]
  unfold Oper.wp
  simp [execOp, hop, resolve, invoke, builtin, hd, hx, hr, Result.andThen]
  exact hK
theorem wpList_copy_runI (w : World) {ops : Array Oper} {rest : List Oper} {o : Oper} {a : Act} {Q : Exit → Act → World → Prop} (hgd : o.guard = none) (d s : Operand) (t t' : TypeId)
    (ho : o.op = .call { callee := .builtin .copy, args := #[d, s], argTypes := #[t, t'] }) (v u : Value) (hd : a.eval d = v) (hs : a.eval s = u) {v' : Value} {w' : World}
    (hr : (Builtin.copy_ #[t, t'] o.type #[v, u]).run P w = .ok v' w') (h : wpList P ops Q rest (a.put o.dst v') w') : wpList P ops Q (o :: rest) a w :=
  wpList_plain hgd fun _ hK => by
    unfold Oper.wp execOp
    simp only [ho, resolve, invoke, builtin, Sem.run_bind, Sem.run_pure, Result.andThen_ok, List.map_toArray, List.map_cons, List.map_nil, hd, hs, hr]
    exact hK _ _ h
theorem wpList_append_runI (w : World) {ops : Array Oper} {rest : List Oper} {o : Oper} {a : Act} {Q : Exit → Act → World → Prop} (hgd : o.guard = none) (d s : Operand) (t t' : TypeId)
    (ho : o.op = .call { callee := .builtin .append, args := #[d, s], argTypes := #[t, t'] }) (v u : Value) (hd : a.eval d = v) (hs : a.eval s = u) {v' : Value} {w' : World}
    (hr : (Builtin.append_ #[t, t'] o.type #[v, u]).run P w = .ok v' w') (h : wpList P ops Q rest (a.put o.dst v') w') : wpList P ops Q (o :: rest) a w :=
  wpList_plain hgd fun _ hK => by
    unfold Oper.wp execOp
    simp only [ho, resolve, invoke, builtin, Sem.run_bind, Sem.run_pure, Result.andThen_ok, List.map_toArray, List.map_cons, List.map_nil, hd, hs, hr]
    exact hK _ _ h
theorem wpList_clear_runI (w : World) {ops : Array Oper} {rest : List Oper} {o : Oper} {a : Act} {Q : Exit → Act → World → Prop} (hgd : o.guard = none) (d : Operand) (t : TypeId)
    (ho : o.op = .call { callee := .builtin .clear, args := #[d], argTypes := #[t] }) (v : Value) (hd : a.eval d = v) {v' : Value} {w' : World}
    (hr : (Builtin.clear_ #[t] o.type #[v]).run P w = .ok v' w') (h : wpList P ops Q rest (a.put o.dst v') w') : wpList P ops Q (o :: rest) a w :=
  wpList_plain hgd fun _ hK => by
    unfold Oper.wp execOp
    simp only [ho, resolve, invoke, builtin, Sem.run_bind, Sem.run_pure, Result.andThen_ok, List.map_toArray, List.map_cons, List.map_nil, hd, hr]
    exact hK _ _ h
end
end YtaglhmoldbndkaaDoor.AM
end Go.Proofs

/- slices.Delete of one element, of files. -/
namespace Go.Proofs
open Go.RowKit Go.Shelf Go.Lib
attribute [local go_sem] Oper.semAt_some
set_option linter.unusedVariables false
set_option linter.unusedSimpArgs false
namespace YtaglhmoldbndkaaDoor.AM
theorem fileInfo : ∃ i : TypeInfo, Tryd.prog.info? 43 = some i ∧ i.size = 2 ∧ i.bytes = 32 ∧ ∃ z, i.zero = some z ∧ z.cells.size = 2 ∧ z.cells.toList = [.string ⟨#[]⟩, .string ⟨#[]⟩] := by
  have h : (match Tryd.prog.info? 43 with
    | some i => decide (i.size = 2 ∧ i.bytes = 32) && (match i.zero with | some (.agg ⟨[.string ⟨⟨[]⟩⟩, .string ⟨⟨[]⟩⟩]⟩) => true | _ => false)
    | none => false) = true := by kernel_rfl
  split at h
  · rename_i i hi
    simp only [Bool.and_eq_true, decide_eq_true_eq] at h
    obtain ⟨⟨h1, h2⟩, h3⟩ := h
    split at h3
    · rename_i hz
      exact ⟨i, hi, h1, h2, _, hz, rfl, rfl⟩
    · cases h3
  · cases h
set_option maxHeartbeats 4000000 in
set_option maxRecDepth 1000000 in
theorem Delete_calls (w : World) (g cap n i : Nat) (cur : Array Value) (hg : w.heap[g]? = some (.cells cur 43 (0, 0))) (hi : i < n) (hn : n ≤ cap) (hc : cap ≤ 9223372036854775807) (hs : cur.size = cap * 2) (h1 : ∀ u ∈ cur.toList.take (n * 2), u.oneCell' = true) :
    Calls Tryd.prog 68 #[.slice (some ⟨g, 0, none⟩) n cap, .int .i64 i, .int .i64 ((i : Int) + 1)] w fun e w' =>
      e = .returned (.slice (some ⟨g, 0, none⟩) (n - 1) cap) ∧ ∃ X : Array Value, w' = w.drew.setRow g X ∧ X.size = cap * 2 ∧ X.toList.take ((n - 1) * 2) = cur.toList.take (i * 2) ++ (cur.toList.take (n * 2)).drop ((i + 1) * 2) := by
  obtain ⟨i0, hi0, hz, hby, z, hzz, hzs, hzl⟩ := fileInfo
  have hzc : (Builtin.zeroCells z.cells 1).toList = [.string ⟨#[]⟩, .string ⟨#[]⟩] := by
    have e : z.cells = #[.string ⟨#[]⟩, .string ⟨#[]⟩] := by rw [← Array.toList_inj]; exact hzl
    rw [e]; simp [Builtin.zeroCells, List.range_succ]
  have mixed : Tryd.prog.follows .mixedOrders = true := by kernel_rfl
  have hic : i ≤ cap := by omega
  have hjc : i + 1 ≤ cap := by omega
  have hb1 : (0 : Int) ≤ (i : Int) + 1 := by omega
  have hb2 : (i : Int) + 1 ≤ (n : Int) := by omega
  obtain ⟨news, hnews⟩ : ∃ news, news = (cur.toList.take (n * 2)).drop ((i + 1) * 2) := ⟨_, rfl⟩
  have hlen : news.length = (n - (i + 1)) * 2 := by rw [hnews, List.length_drop, List.length_take, Array.length_toList]; omega
  have hgw : w.drew.heap[g]? = some (.cells cur 43 (0, 0)) := hg
  obtain ⟨A, hA, hsrc⟩ : ∃ A : Addr, (if cap = i + 1 then some (⟨g, 0, none⟩ : Addr) else some ⟨g, (i + 1) * 2, none⟩) = some A ∧ Hid (∀ t u, news[t]? = some u → w.drew.cell? (A.add t) = some u) := by
    by_cases h : cap = i + 1
    · refine ⟨⟨g, 0, none⟩, by simp [h], hid fun t u hu => ?_⟩
      have h0 : news = [] := List.eq_nil_of_length_eq_zero (by rw [hlen]; omega)
      rw [h0] at hu; cases hu
    · refine ⟨⟨g, (i + 1) * 2, none⟩, by simp [h], hid fun t u hu => ?_⟩
      rw [hnews, List.getElem?_drop, List.getElem?_take] at hu
      split at hu
      case isFalse => cases hu
      rw [Addr.add_lit, cell_of_row w.drew g _ cur _ _ hgw]
      simpa using hu
  have hne1 : ∀ u ∈ news, u.oneCell' = true := fun u hu => h1 u (by rw [hnews] at hu; exact List.mem_of_mem_drop hu)
  obtain ⟨X1, hX1⟩ : ∃ X1, X1 = (cur.toList.take (i * 2) ++ news ++ cur.toList.drop (i * 2 + news.length)).toArray := ⟨_, rfl⟩
  have hX1s : X1.size = cap * 2 := by rw [hX1]; simp [hlen]; omega
  have hap := fun ty cc => run_append_room (P := Tryd.prog) w.drew 22 ty 43 i0 Tryd.underlying22 hi0 g i cap cur hgw A (n - (i + 1)) cc news (by rw [hlen, hz]) hsrc.out hne1 (by omega) (by rw [hz, hlen]; omega)
  obtain ⟨k, hk⟩ : ∃ k, k = i + (n - (i + 1)) := ⟨_, rfl⟩
  rw [hz, ← hX1, ← hk] at hap
  have hkn : k + 1 = n := by omega
  have hk1 : n - k = 1 := by omega
  have hk2 : ¬ (cap = k) := by omega
  have hk3 : (k : Int) ≤ (n : Int) := by omega
  have hk4 : k ≤ n := by omega
  have hX1g : (w.drew.setRow g X1).heap[g]? = some (.cells X1 43 (0, 0)) := setRow_heap _ g cur X1 _ _ hgw
  obtain ⟨X, hX⟩ : ∃ X, X = (X1.toList.take (k * 2) ++ [Value.string ⟨#[]⟩, Value.string ⟨#[]⟩] ++ X1.toList.drop (k * 2 + 2)).toArray := ⟨_, rfl⟩
  have hcl : ∀ ty cc, (Builtin.clear_ #[22] ty #[.slice (some ⟨g, k * 2, none⟩) 1 cc]).run Tryd.prog (w.drew.setRow g X1) = .ok (.tuple #[]) (w.drew.setRow g X) := fun ty cc => by
    have := run_clear_one (P := Tryd.prog) (w.drew.setRow g X1) 22 43 ty z [.string ⟨#[]⟩, .string ⟨#[]⟩] Tryd.underlying22 (fun w => by simp [zeroValue, typeInfo, hi0, hzz]) hzc (by intro v hv; simp at hv; subst hv; rfl) g (k * 2) cc X1 43 hX1g (by simp; omega)
    rw [this, setRow_setRow, hX]; rfl
  have hXs : X.size = cap * 2 := by rw [hX]; simp; omega
  have hXt : X.toList.take ((n - 1) * 2) = cur.toList.take (i * 2) ++ (cur.toList.take (n * 2)).drop ((i + 1) * 2) := by
    have e1 : (n - 1) * 2 = k * 2 := by omega
    have e2 : (cur.toList.take (i * 2) ++ news).length = k * 2 := by rw [List.length_append, hlen, List.length_take, Array.length_toList]; omega
    rw [e1, hX]
    show List.take (k * 2) ((X1.toList.take (k * 2) ++ _) ++ _) = _
    rw [List.append_assoc, List.take_append_of_le_length (by simp; omega), List.take_take, Nat.min_self, hX1]
    show List.take (k * 2) ((cur.toList.take (i * 2) ++ news) ++ _) = _
    rw [← e2, List.take_left, hnews]
  refine Calls.mono (R := fun e w' => e = .returned (.slice (some ⟨g, 0, none⟩) (n - 1) cap) ∧ w' = w.drew.setRow g X) ?_ (fun e w' hh => ⟨hh.1, X, hh.2, hXs, hXt⟩)
  have hn1 : n - 1 = k := by omega
  rw [hn1]
  clear hX1 hnews hlen hne1 hgw hXs hXt hX hX1s hX1g hzc hkn hn1 h1 hk hsrc
  go_enter Tryd.func68, Tryd.ntmps68
  go_wp2_with fail
  go_region_law_o (refine step_append_runI rfl (.tmp 22) (.tmp 25) 22 22 rfl (.slice (some ⟨g, 0, none⟩) i cap) (.slice (some A) (n - (i + 1)) (cap - (i + 1))) (by simp [Act.eval, Act.put]) (by simp [Act.eval, Act.put]) (hap _ _) ?_)
  go_wp2_with (at_builtin; refine wpList_clear_runI _ rfl _ 22 rfl _ rfl (hcl _ _) ?_)
  go_ret
  exact ⟨rfl, rfl⟩
end YtaglhmoldbndkaaDoor.AM
end Go.Proofs

/- slices.Insert of one element, of files. -/
namespace Go.Proofs
open Go.RowKit Go.Shelf Go.Lib
attribute [local go_sem] Oper.semAt_some
set_option linter.unusedVariables false
set_option linter.unusedSimpArgs false
namespace YtaglhmoldbndkaaDoor.AM
set_option maxHeartbeats 4000000 in
set_option maxRecDepth 1000000 in
theorem Insert_end (w : World) (B n vb : Nat) (v : Value) (xs : List Value) (x y : Value) (hown : w.ownsRow B 43 2 v n xs) (hv : w.heap[vb]? = some (.cells #[x, y] 43 (0, 0)))
    (hn : n ≤ 1000000) (hBw : B ≤ w.heap.size) (hx : x.oneCell' = true) (hy : y.oneCell' = true) :
    Calls Tryd.prog 69 #[v, .int .i64 n, .slice (some ⟨vb, 0, none⟩) 1 1] w fun e w' =>
      ∃ v', e = .returned v' ∧ w'.ownsRow B 43 2 v' (n + 1) (xs ++ [x, y]) ∧ w.grownBy w' v.ownBlock ∧ (∀ b, v'.ownBlock = some b → v.ownBlock = some b ∨ w.heap.size ≤ b) := by
  obtain ⟨i0, hi0, hz, hby, z, hzz, hzs, hzl⟩ := fileInfo
  have hcell : ∀ j u, ([x, y] : List Value)[j]? = some u → w.cell? ((⟨vb, 0, none⟩ : Addr).add j) = some u := fun j u hu => by
    rw [Addr.add_lit, cell_of_row w vb _ _ _ _ hv]; simpa using hu
  have h1 : ∀ u ∈ ([x, y] : List Value), u.oneCell' = true := by intro u hu; simp at hu; rcases hu with rfl | rfl <;> assumption
  have ap : ∀ ty, ∃ v' w', (Builtin.append_ #[22, 22] ty #[v, .slice (some ⟨vb, 0, none⟩) 1 1]).run Tryd.prog w = .ok v' w' ∧ w'.ownsRow B 43 2 v' (n + 1) (xs ++ [x, y]) ∧ w.grownBy w' v.ownBlock ∧ (∀ g o, v.ownBlock = some g → o < n * 2 → w'.cell? ⟨g, o, none⟩ = w.cell? ⟨g, o, none⟩) ∧ (∀ b, v'.ownBlock = some b → v.ownBlock = some b ∨ w.heap.size ≤ b) := fun ty =>
    append_more (P := Tryd.prog) w B 22 ty 43 i0 z 2 32 Tryd.underlying22 hi0 hzz hz hby hzs (by omega) v n xs hown (.slice (some ⟨vb, 0, none⟩) 1 1) 1 [x, y] (Or.inl ⟨⟨vb, 0, none⟩, 1, rfl, hcell⟩) rfl h1 (by unfold maxLen; omega) (by omega) hBw
  obtain ⟨v', w', hr, h2, h3, _, h5⟩ := ap 22
  rcases hown.2 with ⟨rfl, rfl⟩ | ⟨g, cap, cur, rfl, hbg, hg, hnc, hcm, hcs, htake⟩
  · clear ap hown hcell
    go_enter Tryd.func69, Tryd.ntmps69
    go_wp2_with (at_builtin; refine wpList_append_runI _ rfl _ _ 22 22 rfl _ _ rfl rfl hr ?_)
    go_ret
    exact ⟨_, rfl, h2, h3, h5⟩
  · clear ap hown hcell htake
    have hcm' : cap ≤ 9223372036854775807 := by unfold maxLen at hcm; omega
    go_enter Tryd.func69, Tryd.ntmps69
    go_wp2_with (at_builtin; refine wpList_append_runI _ rfl _ _ 22 22 rfl _ _ rfl rfl hr ?_)
    all_goals (go_ret; exact ⟨_, rfl, h2, h3, h5⟩)
end YtaglhmoldbndkaaDoor.AM
end Go.Proofs

/- slices.Insert of one element, of files: where there is room, in place. -/
namespace Go.Proofs
open Go.RowKit Go.Shelf Go.Lib
attribute [local go_sem] Oper.semAt_some
set_option linter.unusedVariables false
set_option linter.unusedSimpArgs false
namespace YtaglhmoldbndkaaDoor.AM
set_option maxHeartbeats 4000000 in
set_option maxRecDepth 1000000 in
theorem Insert_shift (w : World) (g cap n i vb : Nat) (cur : Array Value) (x y : Value) (hg : w.heap[g]? = some (.cells cur 43 (0, 0))) (hv : w.heap[vb]? = some (.cells #[x, y] 43 (0, 0))) (hne : vb ≠ g)
    (hi : i < n) (hn : n + 1 ≤ cap) (hc : cap ≤ 9223372036854775807) (hs : cur.size = cap * 2) (h1 : ∀ u ∈ cur.toList.take (n * 2), u.oneCell' = true) (hx : x.oneCell' = true) (hy : y.oneCell' = true) :
    Calls Tryd.prog 69 #[.slice (some ⟨g, 0, none⟩) n cap, .int .i64 i, .slice (some ⟨vb, 0, none⟩) 1 1] w fun e w' =>
      e = .returned (.slice (some ⟨g, 0, none⟩) (n + 1) cap) ∧ ∃ X : Array Value, w' = w.drew.setRow g X ∧ X.size = cap * 2 ∧ X.toList.take ((n + 1) * 2) = cur.toList.take (i * 2) ++ ([x, y] ++ (cur.toList.take (n * 2)).drop (i * 2)) := by
  obtain ⟨i0, hi0, hz, hby, z, hzz, hzs, hzl⟩ := fileInfo
  have hsz : (Tryd.prog.info? 43).map (·.size) = some 2 := by rw [hi0]; simp [hz]
  have mixed : Tryd.prog.follows .mixedOrders = true := by kernel_rfl
  obtain ⟨cs, hcs⟩ : ∃ cs, cs = (cur.toList.take (n * 2)).drop (i * 2) := ⟨_, rfl⟩
  have hlen : cs.length = (n - i) * 2 := by rw [hcs, List.length_drop, List.length_take, Array.length_toList]; omega
  have hgw : w.drew.heap[g]? = some (.cells cur 43 (0, 0)) := hg
  have hsrc : ∀ t u, cs[t]? = some u → w.drew.cell? ((⟨g, i * 2, none⟩ : Addr).add t) = some u := fun t u hu => by
    rw [hcs, List.getElem?_drop, List.getElem?_take] at hu
    split at hu
    case isFalse => cases hu
    rw [Addr.add_lit, cell_of_row w.drew g _ cur _ _ hgw]
    simpa using hu
  have hc1 : ∀ u ∈ cs, u.oneCell' = true := fun u hu => h1 u (by rw [hcs] at hu; exact List.mem_of_mem_drop hu)
  obtain ⟨X1, hX1⟩ : ∃ X1, X1 = (cur.toList.take ((i + 1) * 2) ++ cs ++ cur.toList.drop ((i + 1) * 2 + cs.length)).toArray := ⟨_, rfl⟩
  have hX1s : X1.size = cap * 2 := by rw [hX1]; simp [hlen]; omega
  have hcp1 : ∀ ty dc sc, (Builtin.copy_ #[22, 22] ty #[.slice (some ⟨g, (i + 1) * 2, none⟩) (n - i) dc, .slice (some ⟨g, i * 2, none⟩) (n + 1 - i) sc]).run Tryd.prog w.drew = .ok (goInt ((n - i : Nat) : Int)) (w.drew.setRow g X1) := fun ty dc sc => by
    rw [hX1]
    exact run_copy_rowN (P := Tryd.prog) w.drew 22 22 ty 43 g ((i + 1) * 2) (n - i) dc ⟨g, i * 2, none⟩ (n + 1 - i) sc cur 43 cs 2 (n - i) Tryd.underlying22 hsz hgw (by simp only [Nat.min_def]; split <;> omega) hlen hsrc (by omega) hc1
  have hX1g : (w.drew.setRow g X1).heap[g]? = some (.cells X1 43 (0, 0)) := setRow_heap _ g cur X1 _ _ hgw
  have hvg : (w.drew.setRow g X1).heap[vb]? = some (.cells #[x, y] 43 (0, 0)) := (setRow_other w.drew g vb X1 hne).trans hv
  obtain ⟨X, hX⟩ : ∃ X, X = (X1.toList.take (i * 2) ++ [x, y] ++ X1.toList.drop (i * 2 + 2)).toArray := ⟨_, rfl⟩
  have hcp2 : ∀ ty dc, (Builtin.copy_ #[22, 22] ty #[.slice (some ⟨g, i * 2, none⟩) (n + 1 - i) dc, .slice (some ⟨vb, 0, none⟩) 1 1]).run Tryd.prog (w.drew.setRow g X1) = .ok (goInt ((1 : Nat) : Int)) (w.drew.setRow g X) := fun ty dc => by
    have := run_copy_rowN (P := Tryd.prog) (w.drew.setRow g X1) 22 22 ty 43 g (i * 2) (n + 1 - i) dc ⟨vb, 0, none⟩ 1 1 X1 43 [x, y] 2 1 Tryd.underlying22 hsz hX1g (by simp only [Nat.min_def]; split <;> omega) rfl
      (fun j u hu => by rw [Addr.add_lit, cell_of_row _ vb _ _ _ _ hvg]; simpa using hu) (by simp; omega) (by intro u hu; simp at hu; rcases hu with rfl | rfl <;> assumption)
    rw [this, setRow_setRow, hX]; rfl
  have hXs : X.size = cap * 2 := by rw [hX]; simp; omega
  have hXt : X.toList.take ((n + 1) * 2) = cur.toList.take (i * 2) ++ ([x, y] ++ cs) := by
    have e0 : X1.toList = cur.toList.take ((i + 1) * 2) ++ (cs ++ cur.toList.drop ((i + 1) * 2 + cs.length)) := by rw [hX1]; simp
    have e1 : X1.toList.take (i * 2) = cur.toList.take (i * 2) := by
      rw [e0, List.take_append_of_le_length (by simp; omega), List.take_take]
      congr 1; omega
    have e2 : X1.toList.drop (i * 2 + 2) = cs ++ cur.toList.drop ((i + 1) * 2 + cs.length) := by
      have e3 : (cur.toList.take ((i + 1) * 2)).length = i * 2 + 2 := by simp; omega
      rw [e0, ← e3, List.drop_left]
    have e4 : (cur.toList.take (i * 2) ++ ([x, y] ++ cs)).length = (n + 1) * 2 := by simp [hlen]; omega
    have e5 : X.toList = (cur.toList.take (i * 2) ++ ([x, y] ++ cs)) ++ cur.toList.drop ((i + 1) * 2 + cs.length) := by rw [hX]; simp only [e1, e2, List.append_assoc]
    rw [e5, ← e4, List.take_left]
  rw [← hcs]
  refine Calls.mono (R := fun e w' => e = .returned (.slice (some ⟨g, 0, none⟩) (n + 1) cap) ∧ w' = w.drew.setRow g X) ?_ (fun e w' hh => ⟨hh.1, X, hh.2, hXs, hXt⟩)
  have hsa : w.shape? vb = some (43, 2) := by simp [World.shape?, hv]
  have hsb : w.shape? g = some (43, cap * 2) := by simp [World.shape?, hg, hs]
  have hfa : w.frozen? ⟨vb, 0, none⟩ = false := by simp [World.frozen?, hv]
  have hfe : w.frozen? ⟨vb, 2, none⟩ = false := by simp [World.frozen?, hv]
  have hov : ∀ lb cb, (callFunc 74 #[.slice (some ⟨vb, 0, none⟩) 1 1, .slice (some ⟨g, (i + 1) * 2, none⟩) lb cb]).run Tryd.prog w = .ok (.value (.bool false)) w := fun lb cb => by
    rw [run_callFunc_extern Tryd.func74 (by kernel_rfl) (by kernel_rfl) (by kernel_rfl) (e := Extern.SlicesOverlaps.overlaps #[22, 22] #[4]) (by kernel_rfl),
      Lib.run_overlaps_apart w 22 4 43 Tryd.underlying22 2 (fun w => by simp [Go.sizeOf, typeInfo, hi0, hz]) ⟨vb, 0, none⟩ ⟨g, (i + 1) * 2, none⟩ 1 1 lb cb hne _ _ _ _ hsa hsb (by omega) hfa hfe]
    rfl
  have hw1 : IntKind.i64.wrap ((i : Int) + 1) = (i : Int) + 1 := by rw [IntKind.wrap_i64]; omega
  have hb1 : (0 : Int) ≤ (i : Int) + 1 := by omega
  have hin : i ≤ n := by omega
  have hz2 : ¬ ((i : Int) = (n : Int)) := by omega
  have hb2 : ¬ (cap = i + 1) := by omega
  have hb3 : (i : Int) ≤ (n : Int) + 1 := by omega
  have hb4 : ¬ (cap = i) := by omega
  have hb5 : i + 1 ≤ n + 1 := by omega
  clear hX1 hlen hcs hc1 hgw hXs hXt hX hX1s hX1g hsrc hvg h1 hsa hsb hfa hfe hg hv hs
  go_enter Tryd.func69, Tryd.ntmps69
  go_wp2_with (simp only [hov])
  go_region_law_o (refine step_copy_runI rfl (.tmp 73) (.tmp 76) 22 22 rfl (.slice (some ⟨g, (i + 1) * 2, none⟩) (n - i) (cap - (i + 1))) (.slice (some ⟨g, i * 2, none⟩) (n + 1 - i) (cap - i)) (by simp [Act.eval, Act.put]) (by simp [Act.eval, Act.put]) (hcp1 _ _ _) ?_)
  go_wp2_with (at_builtin; refine wpList_copy_runI _ rfl _ _ 22 22 rfl _ _ rfl rfl (hcp2 _ _) ?_)
  go_ret
  exact ⟨rfl, rfl⟩
end YtaglhmoldbndkaaDoor.AM
end Go.Proofs

/- slices.Insert of one element, of files: where there is no room: a new list. -/
namespace Go.Proofs
open Go.RowKit Go.Shelf Go.Lib
attribute [local go_sem] Oper.semAt_some
set_option linter.unusedVariables false
set_option linter.unusedSimpArgs false
namespace YtaglhmoldbndkaaDoor.AM
set_option maxHeartbeats 4000000 in
set_option maxRecDepth 1000000 in
theorem Insert_grow (w : World) (g n i vb : Nat) (cur : Array Value) (x y : Value) (hg : w.heap[g]? = some (.cells cur 43 (0, 0))) (hv : w.heap[vb]? = some (.cells #[x, y] 43 (0, 0)))
    (hi : i < n) (hn : n ≤ 1000000) (hs : cur.size = n * 2) (h1 : ∀ u ∈ cur.toList, u.oneCell' = true) (hx : x.oneCell' = true) (hy : y.oneCell' = true) :
    Calls Tryd.prog 69 #[.slice (some ⟨g, 0, none⟩) n n, .int .i64 i, .slice (some ⟨vb, 0, none⟩) 1 1] w fun e w' =>
      ∃ G, n + 1 ≤ G ∧ G ≤ maxLen ∧ e = .returned (.slice (some ⟨w.heap.size, 0, none⟩) (n + 1) G) ∧ ∃ X : Array Value, w'.heap[w.heap.size]? = some (.cells X 43 (0, 0)) ∧ w.grownBy w' none ∧ X.size = G * 2 ∧ X.toList.take ((n + 1) * 2) = cur.toList.take (i * 2) ++ ([x, y] ++ cur.toList.drop (i * 2)) := by
  obtain ⟨i0, hi0, hz, hby, z, hzz, hzs, hzl⟩ := fileInfo
  have hsz : (Tryd.prog.info? 43).map (·.size) = some 2 := by rw [hi0]; simp [hz]
  have mixed : Tryd.prog.follows .mixedOrders = true := by kernel_rfl
  have hgl : g < w.heap.size := heapLt hg
  have hvl : vb < w.heap.size := heapLt hv
  obtain ⟨cs, hcs⟩ : ∃ cs, cs = cur.toList.drop (i * 2) := ⟨_, rfl⟩
  have hlen : cs.length = (n - i) * 2 := by rw [hcs, List.length_drop, Array.length_toList]; omega
  obtain ⟨G, hG⟩ : ∃ G, G = grownCap w (n + 1) n 43 := ⟨_, rfl⟩
  have hGn : n + 1 ≤ G := by rw [hG]; exact grownCap_ge w _ _ _
  have hGm : G ≤ maxLen := by rw [hG]; exact grownCap_le_maxLen w _ _ _ (by unfold maxLen; omega)
  have hG63 : G ≤ 9223372036854775807 := by unfold maxLen at hGm; omega
  have hold : (Builtin.firstCells i0.size i (.slice (some ⟨g, 0, none⟩) i n)).run Tryd.prog w.drew = .ok (cur.toList.take (i * 2)).toArray w.drew := by
    rw [hz]
    exact run_firstCells_some w.drew 2 i ⟨g, 0, none⟩ i n _ (by rw [List.length_take, Array.length_toList]; omega) (fun j v hj => by
      rw [Addr.add_lit, cell_of_row w.drew g _ cur _ _ hg]
      rw [List.getElem?_take] at hj
      split at hj
      · simpa using hj
      · cases hj)
  have hik : i + (n + 1 - i) = n + 1 := by omega
  have hkk : (n : Int) + 1 - (i : Int) = ((n + 1 - i : Nat) : Int) := by omega
  obtain ⟨ROW, hROW⟩ : ∃ ROW : Array Value, ROW = (cur.toList.take (i * 2)).toArray ++ Builtin.zeroCells z.cells (n + 1 - i) ++ Builtin.zeroCells z.cells (G - (n + 1)) := ⟨_, rfl⟩
  have hrz : ∀ ty, (Builtin.append_ #[22, 3] ty #[.slice (some ⟨g, 0, none⟩) i n, .int .i64 ((n : Int) + 1 - (i : Int))]).run Tryd.prog w =
      .ok (.slice (some ⟨w.heap.size, 0, none⟩) (n + 1) G) (w.drew.alloc (.cells ROW 43)) := fun ty => by
    have h := Lib.run_append_grow_zeros (P := Tryd.prog) w 22 3 ty 43 i0 z .i64 .i64 Tryd.underlying22 Tryd.underlying3 hi0 hzz (some ⟨g, 0, none⟩) i n (cur.toList.take (i * 2)) hold (n + 1 - i) (by omega) (by omega) (by omega) (by omega) (by rw [hby]; omega)
      (by rw [hby, hik]; exact growslice_fits (by omega) (by omega))
    rw [hik, ← hG, ← hROW] at h
    rw [hkk]; exact h
  have hRs : ROW.size = G * 2 := by
    rw [hROW]
    simp only [Array.size_append, List.size_toArray, size_zeroCells, hzs, List.length_take, Array.length_toList]
    omega
  have hRt : ROW.toList.take (i * 2) = cur.toList.take (i * 2) := by
    have e3 : (cur.toList.take (i * 2)).length = i * 2 := by simp; omega
    rw [hROW]
    simp only [Array.toList_append, List.append_assoc]
    rw [← e3]
    simp
  clear hROW hold hG hkk
  obtain ⟨W0, hW0⟩ : ∃ W0, W0 = w.drew.alloc (.cells ROW 43) := ⟨_, rfl⟩
  have hN : W0.heap[w.heap.size]? = some (.cells ROW 43 (0, 0)) := by rw [hW0]; exact heap_alloc_new w.drew _
  have hOg : W0.heap[g]? = some (.cells cur 43 (0, 0)) := by rw [hW0]; exact (heap_alloc_old (w := w.drew) (o := _) (h := hgl)).trans hg
  have hOv : W0.heap[vb]? = some (.cells #[x, y] 43 (0, 0)) := by rw [hW0]; exact (heap_alloc_old (w := w.drew) (o := _) (h := hvl)).trans hv
  have hgr : w.grownBy W0 none := by rw [hW0]; exact ⟨rfl, rfl, rfl, by simp, fun k hk _ => heap_alloc_old (w := w.drew) (o := _) (h := hk)⟩
  have hNg : g ≠ w.heap.size := by omega
  have hNv : vb ≠ w.heap.size := by omega
  rw [← hW0] at hrz
  obtain ⟨X1, hX1⟩ : ∃ X1, X1 = (ROW.toList.take (i * 2) ++ [x, y] ++ ROW.toList.drop (i * 2 + 2)).toArray := ⟨_, rfl⟩
  have hX1s : X1.size = G * 2 := by rw [hX1]; simp; omega
  have hcpA : ∀ ty dc, (Builtin.copy_ #[22, 22] ty #[.slice (some ⟨w.heap.size, i * 2, none⟩) (n + 1 - i) dc, .slice (some ⟨vb, 0, none⟩) 1 1]).run Tryd.prog W0 = .ok (goInt ((1 : Nat) : Int)) (W0.setRow w.heap.size X1) := fun ty dc => by
    rw [hX1]
    exact run_copy_rowN (P := Tryd.prog) W0 22 22 ty 43 w.heap.size (i * 2) (n + 1 - i) dc ⟨vb, 0, none⟩ 1 1 ROW 43 [x, y] 2 1 Tryd.underlying22 hsz hN (by simp only [Nat.min_def]; split <;> omega) rfl
      (fun j u hu => by rw [Addr.add_lit, cell_of_row _ vb _ _ _ _ hOv]; simpa using hu) (by simp; omega) (by intro u hu; simp at hu; rcases hu with rfl | rfl <;> assumption)
  obtain ⟨W1, hW1⟩ : ∃ W1, W1 = W0.setRow w.heap.size X1 := ⟨_, rfl⟩
  rw [← hW1] at hcpA
  have hN1 : W1.drew.heap[w.heap.size]? = some (.cells X1 43 (0, 0)) := by rw [hW1]; exact setRow_heap W0 _ ROW X1 _ _ hN
  have hOg1 : W1.drew.heap[g]? = some (.cells cur 43 (0, 0)) := by rw [hW1]; exact (setRow_other W0 _ g X1 hNg).trans hOg
  obtain ⟨X, hX⟩ : ∃ X, X = (X1.toList.take ((i + 1) * 2) ++ cs ++ X1.toList.drop ((i + 1) * 2 + cs.length)).toArray := ⟨_, rfl⟩
  have hXs : X.size = G * 2 := by rw [hX]; simp [hlen]; omega
  have hsrc : ∀ t u, cs[t]? = some u → W1.drew.cell? ((⟨g, i * 2, none⟩ : Addr).add t) = some u := fun t u hu => by
    rw [hcs, List.getElem?_drop] at hu
    rw [Addr.add_lit, cell_of_row W1.drew g _ cur _ _ hOg1]
    simpa using hu
  have hcpB : ∀ ty dc sc, (Builtin.copy_ #[22, 22] ty #[.slice (some ⟨w.heap.size, (i + 1) * 2, none⟩) (n - i) dc, .slice (some ⟨g, i * 2, none⟩) (n - i) sc]).run Tryd.prog W1.drew = .ok (goInt ((n - i : Nat) : Int)) (W1.drew.setRow w.heap.size X) := fun ty dc sc => by
    rw [hX]
    exact run_copy_rowN (P := Tryd.prog) W1.drew 22 22 ty 43 w.heap.size ((i + 1) * 2) (n - i) dc ⟨g, i * 2, none⟩ (n - i) sc X1 43 cs 2 (n - i) Tryd.underlying22 hsz hN1 (by simp) hlen hsrc (by omega) (fun u hu => h1 u (by rw [hcs] at hu; exact List.mem_of_mem_drop hu))
  have hXt : X.toList.take ((n + 1) * 2) = cur.toList.take (i * 2) ++ ([x, y] ++ cs) := by
    have e0 : X1.toList = cur.toList.take (i * 2) ++ ([x, y] ++ ROW.toList.drop (i * 2 + 2)) := by rw [hX1, ← hRt]; simp
    have e1 : X1.toList.take ((i + 1) * 2) = cur.toList.take (i * 2) ++ [x, y] := by
      have e3 : (cur.toList.take (i * 2) ++ [x, y]).length = (i + 1) * 2 := by simp; omega
      rw [e0, ← List.append_assoc, ← e3, List.take_left]
    have e4 : (cur.toList.take (i * 2) ++ ([x, y] ++ cs)).length = (n + 1) * 2 := by simp [hlen]; omega
    have e5 : X.toList = (cur.toList.take (i * 2) ++ ([x, y] ++ cs)) ++ X1.toList.drop ((i + 1) * 2 + cs.length) := by rw [hX]; simp only [e1, List.append_assoc]
    rw [e5, ← e4, List.take_left]
  rw [← hcs]
  have hXg : (W1.drew.setRow w.heap.size X).heap[w.heap.size]? = some (.cells X 43 (0, 0)) := setRow_heap W1.drew _ X1 X _ _ hN1
  have hgr2 : w.grownBy (W1.drew.setRow w.heap.size X) none := by
    refine ⟨by rw [hW1]; exact hgr.1, by rw [hW1]; exact hgr.2, by rw [hW1]; exact hgr.3, ?_, fun k hk hk2 => ?_⟩
    · have := hgr.size; rw [hW1]; simpa using this
    · have hkN : k ≠ w.heap.size := by omega
      rw [setRow_other W1.drew _ k X hkN]
      show W1.heap[k]? = _
      rw [hW1, setRow_other W0 _ k X1 hkN]
      exact hgr.block k hk hk2
  refine Calls.mono (R := fun e w' => e = .returned (.slice (some ⟨w.heap.size, 0, none⟩) (n + 1) G) ∧ w' = W1.drew.setRow w.heap.size X) ?_ (fun e w' hh => ⟨G, hGn, hGm, hh.1, X, by rw [hh.2]; exact hXg, by rw [hh.2]; exact hgr2, hXs, hXt⟩)
  have hw1 : IntKind.i64.wrap ((i : Int) + 1) = (i : Int) + 1 := by rw [IntKind.wrap_i64]; omega
  have hb1 : (0 : Int) ≤ (i : Int) + 1 := by omega
  have hin : i ≤ n := by omega
  have hz2 : ¬ ((i : Int) = (n : Int)) := by omega
  have hb2 : ¬ (G = i + 1) := by omega
  have hb3 : (i : Int) ≤ (n : Int) + 1 := by omega
  have hb4 : ¬ (G = i) := by omega
  have hb5 : i + 1 ≤ n + 1 := by omega
  have hb6 : ¬ (n = i) := by omega
  clear hX1 hlen hcs hXs hXt hX hX1s hsrc h1 hg hv hs hRt hRs hN hOg hOv hN1 hOg1 hXg hgr hgr2 hW1 hW0 hik hGm hgl hvl
  go_enter Tryd.func69, Tryd.ntmps69
  go_wp2_with (first
    | (at_builtin; refine wpList_append_runI _ rfl _ _ 22 3 rfl _ _ rfl rfl (hrz _) ?_)
    | (at_builtin; refine wpList_copy_runI _ rfl _ _ 22 22 rfl _ _ rfl rfl (hcpA _ _) ?_))
  go_region_law_o (refine step_copy_runI rfl (.tmp 50) (.tmp 53) 22 22 rfl (.slice (some ⟨w.heap.size, (i + 1) * 2, none⟩) (n - i) (G - (i + 1))) (.slice (some ⟨g, i * 2, none⟩) (n - i) (n - i)) (by simp [Act.eval, Act.put]) (by simp [Act.eval, Act.put]) (hcpB _ _ _) ?_)
  go_wp2
  go_ret
  exact ⟨rfl, rfl⟩
end YtaglhmoldbndkaaDoor.AM
end Go.Proofs

/- slices.Insert, slices.Delete of one element, of files of one's own. -/
namespace Go.Proofs
open Go.RowKit Go.Shelf Go.Lib
set_option linter.unusedVariables false
set_option linter.unusedSimpArgs false
namespace YtaglhmoldbndkaaDoor.AM
theorem Insert_own (w : World) (B n i vb : Nat) (v : Value) (xs : List Value) (x y : Value) (hown : w.ownsRow B 43 2 v n xs) (hv : w.heap[vb]? = some (.cells #[x, y] 43 (0, 0))) (hne : v.ownBlock ≠ some vb)
    (hi : i ≤ n) (hn : n ≤ 1000000) (hBw : B ≤ w.heap.size) (h1 : ∀ u ∈ xs, u.oneCell' = true) (hx : x.oneCell' = true) (hy : y.oneCell' = true) :
    Calls Tryd.prog 69 #[v, .int .i64 i, .slice (some ⟨vb, 0, none⟩) 1 1] w fun e w' =>
      ∃ v', e = .returned v' ∧ w'.ownsRow B 43 2 v' (n + 1) (xs.take (i * 2) ++ ([x, y] ++ xs.drop (i * 2))) ∧ Below B w w' := by
  have hxl : xs.length = n * 2 := hown.1
  by_cases hin : i = n
  · subst hin
    refine (Insert_end w B i vb v xs x y hown hv hn hBw hx hy).mono ?_
    rintro e w' ⟨v', rfl, h2, h3, h4⟩
    refine ⟨v', rfl, ?_, (Below.refl B w).grown h3 hBw (fun k hk => (hown.lt k hk).1)⟩
    rw [← hxl, List.take_length, List.drop_length, List.append_nil]
    exact h2
  · have hlt : i < n := by omega
    rcases hown.2 with ⟨rfl, h0⟩ | ⟨g, cap, cur, rfl, hbg, hg, hnc, hcm, hcs, htake⟩
    · omega
    · have hng : vb ≠ g := fun e => hne (by rw [e]; rfl)
      have hlen2 : ∀ c : List Value, (c.take (i * 2) ++ ([x, y] ++ c.drop (i * 2))).length = c.length + 2 := fun c => by simp; omega
      by_cases hroom : n + 1 ≤ cap
      · refine (Insert_shift w g cap n i vb cur x y hg hv hng hlt hroom (by unfold maxLen at hcm; omega) hcs (by rw [htake]; exact h1) hx hy).mono ?_
        rintro e w' ⟨rfl, X, rfl, hXs, hXt⟩
        have hgd : w.drew.heap[g]? = some (.cells cur 43 (0, 0)) := hg
        refine ⟨_, rfl, ⟨by rw [hlen2, hxl]; omega, .inr ⟨g, cap, X, rfl, hbg, setRow_heap w.drew g cur X _ _ hgd, hroom, hcm, hXs, ?_⟩⟩, below_setRow (Below.refl B w).drew hbg X⟩
        rw [hXt, htake]
        congr 1
        rw [← htake, List.take_take]; congr 1; omega
      · have hc : cap = n := by omega
        subst hc
        have hcl : cur.toList = xs := by rw [← htake, List.take_of_length_le (by rw [Array.length_toList]; omega)]
        refine (Insert_grow w g cap i vb cur x y hg hv hlt hn hcs (by rw [hcl]; exact h1) hx hy).mono ?_
        rintro e w' ⟨G, hG1, hG2, rfl, X, hX, hgr, hXs, hXt⟩
        refine ⟨_, rfl, ⟨by rw [hlen2, hxl]; omega, .inr ⟨w.heap.size, G, X, rfl, hBw, hX, hG1, hG2, hXs, ?_⟩⟩, (Below.refl B w).grown hgr hBw (fun k hk => by cases hk)⟩
        rw [hXt, hcl]
theorem Delete_own (w : World) (B n i : Nat) (v : Value) (xs : List Value) (hown : w.ownsRow B 43 2 v n xs) (hi : i < n) (h1 : ∀ u ∈ xs, u.oneCell' = true) :
    Calls Tryd.prog 68 #[v, .int .i64 i, .int .i64 ((i : Int) + 1)] w fun e w' =>
      ∃ v', e = .returned v' ∧ w'.ownsRow B 43 2 v' (n - 1) (xs.take (i * 2) ++ xs.drop ((i + 1) * 2)) ∧ Below B w w' := by
  have hxl : xs.length = n * 2 := hown.1
  rcases hown.2 with ⟨rfl, h0⟩ | ⟨g, cap, cur, rfl, hbg, hg, hnc, hcm, hcs, htake⟩
  · omega
  · refine (Delete_calls w g cap n i cur hg hi hnc (by unfold maxLen at hcm; omega) hcs (by rw [htake]; exact h1)).mono ?_
    rintro e w' ⟨rfl, X, rfl, hXs, hXt⟩
    have hgd : w.drew.heap[g]? = some (.cells cur 43 (0, 0)) := hg
    refine ⟨_, rfl, ⟨by rw [List.length_append, List.length_take, List.length_drop, hxl]; omega, .inr ⟨g, cap, X, rfl, hbg, setRow_heap w.drew g cur X _ _ hgd, by omega, hcm, hXs, ?_⟩⟩, below_setRow (Below.refl B w).drew hbg X⟩
    rw [hXt, htake]
    congr 1
    rw [← htake, List.take_take]; congr 1; omega
end YtaglhmoldbndkaaDoor.AM
end Go.Proofs

/-
  DERIVED: THE SHELF's CONTRACTS AT THIS DUMP, IN PLAIN WORDS (tools/lay-plain.mjs out of 'TrydShelf.lean', which tools/lay-shelf.mjs wrote): THE SAME DECLARATIONS UNDER THE SAME NAMES: 'import', 'namespace', 'open', 'def', 'theorem' AND NOTHING ELSE: no command of the shelf's: FOR A HAND-IN. Each laying: the table of numbers ('.._ren') and one theorem, a field a fact of the dump's own or the kernel's comparison; each contract: ONE APPLICATION.
-/
namespace Go.Proofs
open Go.Shelf
def Tryd.lays170_ren : Go.Shelf.Ren := ⟨fun | 170 => 48 | n => n, fun | 70 => 61 | 3 => 3 | 0 => 0 | 72 => 64 | 37 => 62 | 5 => 5 | n => n, fun | n => n⟩
theorem Tryd.lays170 : Go.Proofs.Lays.n170 Tryd.prog Tryd.lays170_ren := {
  mixed := by kernel_rfl
  f170 := Tryd.func48.trans (congrArg some (by kernel_rfl))
  t0 := Tryd.underlying0
  a0 := Tryd.isAgg0
  z0 := Tryd.sizeOf0
  v0 := Tryd.zeroValue0
  t3 := Tryd.underlying3
  a3 := Tryd.isAgg3
  z3 := Tryd.sizeOf3
  v3 := Tryd.zeroValue3
  t37 := Tryd.underlying62
  a37 := Tryd.isAgg62
  z37 := Tryd.sizeOf62
  v37 := Tryd.zeroValue62
  t70 := Tryd.underlying61
  a70 := Tryd.isAgg61
  z70 := Tryd.sizeOf61
  v70 := Tryd.zeroValue61
  t72 := Tryd.underlying64
  a72 := Tryd.isAgg64
  z72 := Tryd.sizeOf64
  v72 := Tryd.zeroValue64 }
open Go.RowKit in
/-- (*strings.Builder).Len: "Len returns the number of accumulated bytes; b.Len() == len(b.String()).": the world is as it was. (LAID: no walk: one application.) -/
theorem Tryd.Builder_Len (B b : Nat) (bs : List Value) (w : World) (h : Lib.IsBuilder 64 5 B b bs w) :
    Calls Tryd.prog 48 #[.pointer (some ⟨b, 0, none⟩)] w fun e w' => e = .returned (.int .i64 bs.length) ∧ w' = w := Any.Builder_Len Tryd.lays170 B b bs w h
def Tryd.lays169_ren : Go.Shelf.Ren := ⟨fun | 169 => 51 | n => n, fun | 70 => 61 | 9 => 9 | 0 => 0 | 72 => 64 | 37 => 62 | 127 => 84 | 3 => 3 | 5 => 5 | n => n, fun | n => n⟩
theorem Tryd.lays169 : Go.Proofs.Lays.n169 Tryd.prog Tryd.lays169_ren := {
  mixed := by kernel_rfl
  f169 := Tryd.func51.trans (congrArg some (by kernel_rfl))
  t0 := Tryd.underlying0
  a0 := Tryd.isAgg0
  z0 := Tryd.sizeOf0
  v0 := Tryd.zeroValue0
  t3 := Tryd.underlying3
  a3 := Tryd.isAgg3
  z3 := Tryd.sizeOf3
  v3 := Tryd.zeroValue3
  t9 := Tryd.underlying9
  a9 := Tryd.isAgg9
  z9 := Tryd.sizeOf9
  v9 := Tryd.zeroValue9
  t37 := Tryd.underlying62
  a37 := Tryd.isAgg62
  z37 := Tryd.sizeOf62
  v37 := Tryd.zeroValue62
  t70 := Tryd.underlying61
  a70 := Tryd.isAgg61
  z70 := Tryd.sizeOf61
  v70 := Tryd.zeroValue61
  t72 := Tryd.underlying64
  a72 := Tryd.isAgg64
  z72 := Tryd.sizeOf64
  v72 := Tryd.zeroValue64
  t127 := Tryd.underlying84
  a127 := Tryd.isAgg84
  z127 := Tryd.sizeOf84
  v127 := Tryd.zeroValue84 }
theorem Tryd.Builder_Extra_169 : Builder.Extra Tryd.prog Tryd.lays169_ren := {
  sizeBuilder := by kernel_rfl
  liesBuilder := by kernel_rfl
  t5 := Tryd.underlying5
  a5 := Tryd.isAgg5
  z5 := Tryd.sizeOf5
  v5 := Tryd.zeroValue5
  infoByte := by kernel_rfl
  cellsByte := by kernel_rfl
  sizeByte := by kernel_rfl
  neB5 := by decide }
open Go.RowKit in
/-- (*strings.Builder).String: "String returns the accumulated string.": WHATEVER THE BUILDER HOLDS. (LAID: no walk: one application.) -/
theorem Tryd.Builder_String_any (B b : Nat) (l : List UInt8) (w : World) (h : Lib.IsBuilder 64 5 B b (Lib.byteCells l) w) (hBw : B ≤ w.heap.size) :
    Calls Tryd.prog 51 #[.pointer (some ⟨b, 0, none⟩)] w fun e w' => e = .returned (.string ⟨l.toArray⟩) ∧ Below B w w' := Any.Builder_String_any Tryd.lays169 Tryd.Builder_Extra_169 B b l w h hBw
def Tryd.lays106_ren : Go.Shelf.Ren := ⟨fun | 106 => 67 | 213 => 73 | 265 => 78 | n => n, fun | 9 => 9 | 3 => 3 | n => n, fun | n => n⟩
theorem Tryd.lays106 : Go.Proofs.Lays.n106 Tryd.prog Tryd.lays106_ren := {
  mixed := by kernel_rfl
  f106 := Tryd.func67.trans (congrArg some (by kernel_rfl))
  f213 := Tryd.func73.trans (congrArg some (by kernel_rfl))
  f265 := Tryd.func78.trans (congrArg some (by kernel_rfl))
  t3 := Tryd.underlying3
  a3 := Tryd.isAgg3
  z3 := Tryd.sizeOf3
  v3 := Tryd.zeroValue3
  t9 := Tryd.underlying9
  a9 := Tryd.isAgg9
  z9 := Tryd.sizeOf9
  v9 := Tryd.zeroValue9 }
open Go.RowKit in
/-- strings.Compare: "Compare returns an integer comparing two strings lexicographically. The result will be 0 if a == b, -1 if a < b, and +1 if a > b.": IT RETURNS 'Lib.compareBytes a b'; the world is as it was. (LAID: no walk: one application.) -/
theorem Tryd.strings_Compare (a b : ByteArray) (w : World) :
    Calls Tryd.prog 67 #[.string a, .string b] w fun e w' => e = .returned (.int .i64 (Lib.compareBytes a.data.toList b.data.toList)) ∧ w' = w := Any.strings_Compare Tryd.lays106 a b w
def Tryd.lays143_ren : Go.Shelf.Ren := ⟨fun | 143 => 82 | 219 => 85 | 217 => 86 | 225 => 87 | 224 => 88 | 267 => 89 | 266 => 90 | 314 => 91 | n => n, fun | 9 => 9 | 3 => 3 | 4 => 4 | 5 => 5 | 46 => 83 | 146 => 112 | 51 => 111 | n => n, fun | 1 => 0 | n => n⟩
theorem Tryd.lays143 : Go.Proofs.Lays.n143 Tryd.prog Tryd.lays143_ren := {
  mixed := by kernel_rfl
  f143 := Tryd.func82.trans (congrArg some (by kernel_rfl))
  f217 := Tryd.func86.trans (congrArg some (by kernel_rfl))
  f219 := Tryd.func85.trans (congrArg some (by kernel_rfl))
  f224 := Tryd.func88.trans (congrArg some (by kernel_rfl))
  f225 := Tryd.func87.trans (congrArg some (by kernel_rfl))
  f266 := Tryd.func90.trans (congrArg some (by kernel_rfl))
  f267 := Tryd.func89.trans (congrArg some (by kernel_rfl))
  f314 := Tryd.func91.trans (congrArg some (by kernel_rfl))
  t3 := Tryd.underlying3
  a3 := Tryd.isAgg3
  z3 := Tryd.sizeOf3
  v3 := Tryd.zeroValue3
  t4 := Tryd.underlying4
  a4 := Tryd.isAgg4
  z4 := Tryd.sizeOf4
  v4 := Tryd.zeroValue4
  t5 := Tryd.underlying5
  a5 := Tryd.isAgg5
  z5 := Tryd.sizeOf5
  v5 := Tryd.zeroValue5
  t9 := Tryd.underlying9
  a9 := Tryd.isAgg9
  z9 := Tryd.sizeOf9
  v9 := Tryd.zeroValue9
  t46 := Tryd.underlying83
  a46 := Tryd.isAgg83
  z46 := Tryd.sizeOf83
  v46 := Tryd.zeroValue83
  t51 := Tryd.underlying111
  a51 := Tryd.isAgg111
  z51 := Tryd.sizeOf111
  v51 := Tryd.zeroValue111
  t146 := Tryd.underlying112
  a146 := Tryd.isAgg112
  z146 := Tryd.sizeOf112
  v146 := Tryd.zeroValue112
  g1 := by kernel_rfl }
open Go.RowKit Go.Lib in
/-- strings.Index: "Index returns the index of the first instance of substr in s, or -1 if substr is not present in s.": IT RETURNS 'Lib.index s substr'; the world is as it was. (LAID: no walk: one application.) -/
theorem Tryd.strings_Index (s sub : ByteArray) (m : Int) (w : World) (hs : s.size < 4294967281) (hm : w.cell? ⟨0, 0, none⟩ = some (.int .i64 m)) :
    Calls Tryd.prog 82 #[.string s, .string sub] w fun e w' => e = .returned (.int .i64 (Lib.index s.data.toList sub.data.toList)) ∧ w' = w := Any.strings_Index Tryd.lays143 s sub m w hs hm
end Go.Proofs
