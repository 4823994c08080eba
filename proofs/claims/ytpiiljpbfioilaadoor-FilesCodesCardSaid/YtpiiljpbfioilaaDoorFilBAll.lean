/- One text of Cmp, FilB, FilB1 (mk/merge.py). -/
import Derived.Test.YtpiiljpbfioilaaDoorFilC
import Derived.Shelf.Small.Strs
import Derived.Shelf.Lay
import Derived.Test.YtpiiljpbfioilaaDoorFilSAll
/- strings.Compare: its contract. -/
namespace Go.Proofs
open Go.RowKit Go.Shelf Go.Lib
shelf_lay Lays.n106 Nm 106 at Tryd as Tryd.laysCompare
set_option linter.unusedVariables false
set_option linter.unusedSimpArgs false
namespace YtpiiljpbfioilaaDoor.AM
variable {P : Program}
/-! strings.Compare -/
def compare_fc : FC := { f := 80, args := [strA, strA], res := intA, F := fun p => some (Lib.compareBytes p.1 p.2) }
def compare_t (a b : List UInt8) : Option Int := some (Lib.compareBytes a b)
theorem compare_ok : FCall Inv Tryd.prog compare_fc := fun G hG => ⟨⟨by kernel_rfl, fun a r h => by
  obtain ⟨s, t⟩ := a
  have hr : Lib.compareBytes s t = r := Option.some.inj h
  intro Pc w vs hg hlt hv
  obtain ⟨l⟩ := vs
  match l, hv with
  | [x, y], ⟨h1, h2, _⟩ =>
    obtain rfl : x = .string (ba s) := of_val h1
    obtain rfl : y = .string (ba t) := of_val h2
    have e1 : (ba s).data.toList = s := by simp [ba]
    have e2 : (ba t).data.toList = t := by simp [ba]
    have hh := Any.strings_Compare Tryd.laysCompare (ba s) (ba t) w
    rw [e1, e2, hr] at hh
    refine hh.mono ?_
    rintro e w' ⟨rfl, rfl⟩
    exact pc_done rfl (Below.refl _ _) (drep_val _)⟩, rfl⟩
end YtpiiljpbfioilaaDoor.AM
end Go.Proofs

/- Layer 5, the place of a path: what functions come to, as plain functions of data: written by program (shal.py); the kernel checks it. -/
namespace Go.Proofs.YtpiiljpbfioilaaDoor.AM
open Go.RowKit
set_option linter.unusedVariables false
set_option maxRecDepth 20000
/-! armada/files.change$1 -/
def fCmp_lts (n : Nat) : List LC := []
def fCmp_t (n : Nat) (a1 : (List UInt8) × (List UInt8)) (a2 : List UInt8) : Option (Int) :=
  (compare_t a1.1 a2).bind fun (r1 : Int) => some r1
def fCmp_fc (n : Nat) : FC := { f := 79, args := [.one (.agg [.d .str, .d .str]), .one (.c (.d .str))], res := .one (.c (.d (.int .i64))), F := fun p => fCmp_t n p.1 p.2 }
def fCmp_ct (n : Nat) : List FC := [compare_fc]
theorem fCmp_ctok (n : Nat) {G : World → Prop} (hG : Know Inv G) : ∀ c ∈ fCmp_ct n, FCok Tryd.prog G c ∧ noTup c.args = true := List.forall_mem_cons.2 ⟨compare_ok G hG, (fun _ h => by cases h)⟩
def fCmp_dh : Hints := []
theorem fCmp_dr : drB fCmp_dh (bodyOf Tryd.f79) = true := by kernel_rfl
theorem fCmp_eq (n : Nat) : ∀ a, (fCmp_fc n).F a = main Tryd.prog 9 (fCmp_ct n) (fCmp_lts n) fCmp_dh (bodyOf Tryd.f79) [.tmp 4] (fCmp_fc n).args (fCmp_fc n).res a := by intro a; kernel_rfl
theorem fCmp_ok (n : Nat) : FCall Inv Tryd.prog (fCmp_fc n) := fun G hG => ⟨⟨by kernel_rfl, fun a r h => main_ok (c := bodyOf Tryd.f79) Tryd.func79 (by kernel_rfl) (by kernel_rfl) (Nat.le_of_ble_eq_true (by kernel_rfl)) hG.st (by kernel_rfl) (rs := [.tmp 4]) (by kernel_rfl) (fCmp_ctok n hG) (lts := fCmp_lts n) (fun F hF hFG => have hK : Know Inv F.G := hFG ▸ hG; (lok_of fun j L h1 h2 h3 => absurd h2 (Nat.not_lt.2 (Nat.le_trans (by decide +kernel) h1)))) fCmp_dr ((fCmp_eq n a).symm.trans h)⟩, rfl⟩
/-! slices.BinarySearchFunc[[]armada/api.File,armada/api.File,string] -/
@[reducible] def fBs_sh0 : SSt := ⟨[(0, .one (.c (.d (.lst (.prod .str .str))))), (1, .one (.c (.d .str))), (2, .one (.c (.fn 79 []))), (8, .one (.c (.d (.int .i64)))), (9, .one (.c (.d (.int .i64)))), (10, .one (.c (.d (.int .i64))))], [], []⟩
@[reducible] def fBs_outs0 : List (Exit × SSt) := [(.exit 0, ⟨[(0, .one (.c (.d (.lst (.prod .str .str))))), (1, .one (.c (.d .str))), (2, .one (.c (.fn 79 []))), (8, .one (.c (.d (.int .i64)))), (9, .one (.c (.d (.int .i64))))], [], []⟩)]
def fBs_l0 (n : Nat) (rec : (List (List UInt8 × (List UInt8))) → (List UInt8) → Int → Int → Int → Option (((List (List UInt8 × (List UInt8))) × ((List UInt8) × (Unit × (Int × (Int × (Unit)))))) × (Unit) × (Unit))) (a1 : List (List UInt8 × (List UInt8))) (a2 : List UInt8) (a3 : Int) (a4 : Int) (a5 : Int) : Option (((List (List UInt8 × (List UInt8))) × ((List UInt8) × (Unit × (Int × (Int × (Unit)))))) × (Unit) × (Unit)) :=
  (bif decide (a4 < a5) then letO (IntKind.wrap .i64 (a4 + a5)) fun (n1 : Int) => letO (IntKind.wrap .u64 n1) fun (n2 : Int) => (shrO .u64 n2 (1 : Int)).bind fun (n3 : Int) => letO (IntKind.wrap .i64 n3) fun (n4 : Int) => (idxL a1 n4).bind fun (x5 : List UInt8 × (List UInt8)) => (fCmp_t n x5 a2).bind fun (r6 : Int) => (bif decide (r6 < (0 : Int)) then letO (IntKind.wrap .i64 (n4 + (1 : Int))) fun (n7 : Int) => rec a1 a2 a3 n7 a5 else rec a1 a2 a3 a4 n4) else some (((a1, (a2, ((), (a3, (a4, ()))))), ((), ()))))
def fBs_F0 (n : Nat) (rec : pSt fBs_sh0 → Option (pOuts fBs_outs0)) (p : pSt fBs_sh0) : Option (pOuts fBs_outs0) := fBs_l0 n (fun a1 a2 a3 a4 a5 => rec ((a1, (a2, ((), (a3, (a4, (a5, ())))))), ((), ()))) p.1.1 p.1.2.1 p.1.2.2.2.1 p.1.2.2.2.2.1 p.1.2.2.2.2.2.1
def fBs_loop0 (n m : Nat) (a1 : List (List UInt8 × (List UInt8))) (a2 : List UInt8) (a3 : Int) (a4 : Int) (a5 : Int) : Option (((List (List UInt8 × (List UInt8))) × ((List UInt8) × (Unit × (Int × (Int × (Unit)))))) × (Unit) × (Unit)) := iterF (fBs_F0 n) m ((a1, (a2, ((), (a3, (a4, (a5, ())))))), ((), ()))
theorem fBs_loop0_succ (n m : Nat) (a1 : List (List UInt8 × (List UInt8))) (a2 : List UInt8) (a3 : Int) (a4 : Int) (a5 : Int) : fBs_loop0 n (m + 1) a1 a2 a3 a4 a5 = fBs_l0 n (fun a1 a2 a3 a4 a5 => fBs_loop0 n m a1 a2 a3 a4 a5) a1 a2 a3 a4 a5 := rfl
def fBs_L0 (n : Nat) : LC := { sh := fBs_sh0, outs := fBs_outs0, F := iterF (fBs_F0 n) n }
def fBs_lts (n : Nat) : List LC := [fBs_L0 n]
def fBs_t (n : Nat) (a1 : List (List UInt8 × (List UInt8))) (a2 : List UInt8) (a3 : Unit) : Option (Int × (Bool)) :=
  (fBs_loop0 n n a1 a2 ((List.length a1 : Nat) : Int) (0 : Int) ((List.length a1 : Nat) : Int)).bind fun (o8 : ((List (List UInt8 × (List UInt8))) × ((List UInt8) × (Unit × (Int × (Int × (Unit)))))) × (Unit) × (Unit)) => (bif decide (o8.1.2.2.2.2.1 < o8.1.2.2.2.1) then (idxL o8.1.1 o8.1.2.2.2.2.1).bind fun (x9 : List UInt8 × (List UInt8)) => (fCmp_t n x9 o8.1.2.1).bind fun (r10 : Int) => some (o8.1.2.2.2.2.1, decide (r10 = (0 : Int))) else some (o8.1.2.2.2.2.1, false))
def fBs_fc (n : Nat) : FC := { f := 78, args := [.one (.c (.d (.lst (.prod .str .str)))), .one (.c (.d .str)), .one (.c (.fn 79 []))], res := .tup [.c (.d (.int .i64)), .c (.d .bool)], F := fun p => fBs_t n p.1 p.2.1 p.2.2 }
def fBs_ct (n : Nat) : List FC := [fCmp_fc n]
theorem fBs_ctok (n : Nat) {G : World → Prop} (hG : Know Inv G) : ∀ c ∈ fBs_ct n, FCok Tryd.prog G c ∧ noTup c.args = true := List.forall_mem_cons.2 ⟨fCmp_ok n G hG, (fun _ h => by cases h)⟩
def fBs_dh : Hints := []
theorem fBs_dr : drB fBs_dh (bodyOf Tryd.f78) = true := by kernel_rfl
theorem fBs_eq0 (n : Nat) : ∀ rec p, fBs_F0 n rec p = round Tryd.prog 49 (fBs_ct n) (fBs_lts n) fBs_dh 1 fBs_sh0 fBs_outs0 (bodyAt 0 0 (bodyOf Tryd.f78)) rec p := by intro rec p; kernel_rfl
theorem fBs_lok0 (n : Nat) {F : Fr} (hF : F.n = 49) (hK : Know Inv F.G) : LCok Tryd.prog F (fBs_L0 n) (bodyAt 0 0 (bodyOf Tryd.f78)) :=
  loop_ok hF (by kernel_rfl) (fBs_ctok n hK) (fBs_eq0 n) (fuel := n) (fun _ => rfl) (lok_of fun j L h1 h2 h3 => absurd h2 (Nat.not_lt.2 (Nat.le_trans (by decide +kernel) h1))) (drB_at fBs_dr)
theorem fBs_eq (n : Nat) : ∀ a, (fBs_fc n).F a = main Tryd.prog 49 (fBs_ct n) (fBs_lts n) fBs_dh (bodyOf Tryd.f78) [.tmp 6, .tmp 7] (fBs_fc n).args (fBs_fc n).res a := by intro a; kernel_rfl
theorem fBs_ok (n : Nat) : FCall Inv Tryd.prog (fBs_fc n) := fun G hG => ⟨⟨by kernel_rfl, fun a r h => main_ok (c := bodyOf Tryd.f78) Tryd.func78 (by kernel_rfl) (by kernel_rfl) (Nat.le_of_ble_eq_true (by kernel_rfl)) hG.st (by kernel_rfl) (rs := [.tmp 6, .tmp 7]) (by kernel_rfl) (fBs_ctok n hG) (lts := fBs_lts n) (fun F hF hFG => have hK : Know Inv F.G := hFG ▸ hG; (lok_of (c := (bodyOf Tryd.f78)) (fun j L h1 h2 h3 => by
    have h2' : j < 1 := Nat.lt_of_lt_of_le h2 (by decide +kernel)
    match j, h1, h2', h3 with
    | 0, _, _, h3 => obtain rfl := Option.some.inj h3; exact (show bodyAt 0 0 (bodyOf Tryd.f78) = bodyAt 0 0 (bodyOf Tryd.f78) by kernel_rfl) ▸ fBs_lok0 n hF hK
    | j + 1, _, h2', _ => exact absurd h2' (by omega)))) fBs_dr ((fBs_eq n a).symm.trans h)⟩, rfl⟩
end Go.Proofs.YtpiiljpbfioilaaDoor.AM

/- Layer 5: the place of a path among files in order; and files as cells. -/
namespace Go.Proofs.YtpiiljpbfioilaaDoor.AM
open Go.RowKit
set_option linter.unusedVariables false
set_option linter.unusedSimpArgs false
theorem cmp_neg (a b : List UInt8) : decide (Lib.compareBytes a b < 0) = ltS a b := by
  rw [compareBytes_eq]; unfold ltS; rw [bytesLess_cmp]
theorem cmp_zero (a b : List UInt8) : decide (Lib.compareBytes a b = 0) = decide (a = b) := by
  rw [compareBytes_eq, Bool.eq_iff_iff, decide_eq_true_iff, decide_eq_true_iff, (cmpL_cmp cmpB_cmp).zero]
theorem fCmp_spec (n : Nat) (f : FD) (p : List UInt8) : fCmp_t n f p = some (Lib.compareBytes f.1 p) := rfl
/-- files ahead of a path, and the others -/
structure Spl (l L R : List FD) (p : List UInt8) : Prop where
  eq : l = L ++ R
  lo : ∀ x ∈ L, ltS x.1 p = true
  hi : ∀ x ∈ R, ltS x.1 p = false
theorem spl_get {l L R : List FD} {p : List UInt8} (h : Spl l L R p) {k : Nat} (hk : k < l.length) : ltS (l[k]).1 p = decide (k < L.length) := by
  obtain ⟨rfl, h1, h2⟩ := h
  by_cases hkl : k < L.length
  · rw [List.getElem_append_left hkl, h1 _ (List.getElem_mem hkl), decide_eq_true hkl]
  · rw [List.getElem_append_right (by omega), h2 _ (List.getElem_mem _), decide_eq_false hkl]
theorem fBs_loop (n : Nat) {l L R : List FD} {p : List UInt8} (h : Spl l L R p) (hl : l.length ≤ 1000000) : ∀ (m i j : Nat), i ≤ L.length → L.length ≤ j → j ≤ l.length → j - i < m →
    fBs_loop0 n m l p (l.length : Int) (i : Int) (j : Int) = some ((l, (p, ((), (((l.length : Nat) : Int), (((L.length : Nat) : Int), ()))))), ((), ()))
  | 0, i, j, _, _, _, hm => absurd hm (Nat.not_lt_zero _)
  | m + 1, i, j, hi, hj, hjl, hm => by
    rw [fBs_loop0_succ]
    unfold fBs_l0
    by_cases c : i < j
    · have c' : ((i : Nat) : Int) < ((j : Nat) : Int) := by omega
      have e1 : IntKind.wrap .u64 ((i + j : Nat) : Int) = ((i + j : Nat) : Int) := by rw [IntKind.wrap_u64]; omega
      have e2 : shrO .u64 ((i + j : Nat) : Int) (1 : Int) = some (((i + j) / 2 : Nat) : Int) := by
        unfold shrO
        rw [if_pos (by omega)]
        congr 1
        show ((i + j : Nat) : Int).fdiv (2 ^ (min 1 64)) = _
        rw [Int.fdiv_eq_ediv_of_nonneg _ (by decide)]
        rfl
      have hk : (i + j) / 2 < l.length := by omega
      have hg := spl_get h hk
      have i1 := fBs_loop n h hl m ((i + j) / 2 + 1) j
      have i2 := fBs_loop n h hl m i ((i + j) / 2)
      simp only [c', decide_true, cond_true, letO, wrap_add (show i < 1000000000000 by omega) (show j < 1000000000000 by omega), e1, e2, Option.bind_some, wrap_nat (show (i + j) / 2 < 4611686018427387904 by omega), idx_lt hk, fCmp_spec, cmp_neg, hg, wrap_succ (show (i + j) / 2 < 4611686018427387904 by omega)]
      by_cases d : (i + j) / 2 < L.length
      · rw [decide_eq_true d]
        exact i1 (by omega) hj hjl (by omega)
      · rw [decide_eq_false d]
        exact i2 hi (by omega) (by omega) (by omega)
    · have c' : ¬ ((i : Nat) : Int) < ((j : Nat) : Int) := by omega
      have : i = L.length := by omega
      subst this
      simp [c']
def hasS : List FD → List UInt8 → Bool
  | [], _ => false
  | x :: _, p => decide (x.1 = p)
theorem fBs_spec (n : Nat) {l L R : List FD} {p : List UInt8} (h : Spl l L R p) (hl : l.length ≤ 1000000) (hn : l.length < n) (u : Unit) : fBs_t n l p u = some (((L.length : Nat) : Int), hasS R p) := by
  have hLl : L.length ≤ l.length := by rw [h.eq]; simp
  unfold fBs_t
  have := fBs_loop n h hl n 0 l.length (Nat.zero_le _) hLl (Nat.le_refl _) (by omega)
  rw [show ((0 : Nat) : Int) = (0 : Int) from rfl] at this
  rw [this]
  simp only [Option.bind_some]
  cases R with
  | nil =>
    have : L.length = l.length := by rw [h.eq]; simp
    simp [this, hasS]
  | cons x R =>
    have hlt : L.length < l.length := by rw [h.eq]; simp
    have e : l[L.length] = x := by simp [h.eq]
    have c : ((L.length : Nat) : Int) < ((l.length : Nat) : Int) := by omega
    simp only [c, decide_true, cond_true, idx_lt hlt, Option.bind_some, fCmp_spec, cmp_zero, e, hasS]
theorem spl_of {l : List FD} (p : List UInt8) (h : Rise l) : ∃ L R, Spl l L R p := by
  induction l with
  | nil => exact ⟨[], [], rfl, (fun x hx => by cases hx), (fun x hx => by cases hx)⟩
  | cons x t ih =>
    obtain ⟨h1, h2⟩ := List.pairwise_cons.1 h
    cases hx : ltS x.1 p with
    | true =>
      obtain ⟨L, R, e, a, b⟩ := ih h2
      exact ⟨x :: L, R, by rw [e]; rfl, (fun y hy => by rcases List.mem_cons.1 hy with rfl | hy; exact hx; exact a y hy), b⟩
    | false =>
      refine ⟨[], x :: t, rfl, (fun y hy => by cases hy), fun y hy => ?_⟩
      rcases List.mem_cons.1 hy with rfl | hy
      · exact hx
      · cases hy' : ltS y.1 p with
        | false => rfl
        | true => rw [lt_trans' (h1 y hy) hy'] at hx; cases hx
/-- the path is there -/
theorem step_has {l L R : List FD} {x : FD} {o : OD} (h : Spl l L (x :: R) o.2.1) (hr : Rise l) (hx : x.1 = o.2.1) : (getS l o.2.1).2 = true ∧ withoutS l o.2.1 = L ++ R ∧ insS o.2 (L ++ R) = L ++ o.2 :: R := by
  obtain ⟨rfl, h1, h2⟩ := h
  have ha := (rise_app.1 hr).2
  have hR : ∀ y ∈ R, ltS x.1 y.1 = true := (List.pairwise_cons.1 ha.1).1
  refine ⟨by rw [← hx]; exact get_mid x L R, without_mid hx (fun y hy => lt_ne (h1 y hy)) (fun y hy e => lt_ne (hR y hy) (by rw [hx]; exact e.symm)), ins_mid o.2 L R (fun y hy => lt_asym (h1 y hy)) (fun y hy => by have := hR y hy; rwa [hx] at this)⟩
theorem step_not {l L R : List FD} {o : OD} (h : Spl l L R o.2.1) (hr : Rise l) (hx : hasS R o.2.1 = false) : (getS l o.2.1).2 = false ∧ withoutS l o.2.1 = l ∧ insS o.2 l = L ++ o.2 :: R := by
  obtain ⟨rfl, h1, h2⟩ := h
  have hR : ∀ y ∈ R, ltS o.2.1 y.1 = true := by
    cases R with
    | nil => intro y hy; cases hy
    | cons x R =>
      have hx' : x.1 ≠ o.2.1 := of_decide_eq_false hx
      have hlt : ltS o.2.1 x.1 = true := lt_tot (h2 x (List.mem_cons_self ..)) hx'
      have ha := (List.pairwise_cons.1 (rise_app.1 hr).2.1).1
      intro y hy
      rcases List.mem_cons.1 hy with rfl | hy
      · exact hlt
      · exact lt_trans' hlt (ha y hy)
  have hno : NoP o.2.1 (L ++ R) := fun y hy => by
    rcases List.mem_append.1 hy with hy | hy
    · exact lt_ne (h1 y hy)
    · exact fun e => lt_ne (hR y hy) e.symm
  exact ⟨by rw [get_nop hno], without_nop hno, ins_mid o.2 L R (fun y hy => lt_asym (h1 y hy)) hR⟩
/-! files as cells -/
def fcells (l : List FD) : List Value := l.flatMap fun f => [.string (ba f.1), .string (ba f.2)]
theorem fcells_len : ∀ l : List FD, (fcells l).length = l.length * 2
  | [] => rfl
  | f :: l => by
    have := fcells_len l
    unfold fcells at this ⊢
    rw [List.flatMap_cons, List.length_append, this]
    simp; omega
theorem fcells_app (a b : List FD) : fcells (a ++ b) = fcells a ++ fcells b := List.flatMap_append
theorem fcells_one : ∀ (l : List FD), ∀ u ∈ fcells l, u.oneCell' = true := fun l u hu => by
  obtain ⟨f, _, hu⟩ := List.mem_flatMap.1 hu
  simp at hu
  rcases hu with rfl | rfl <;> rfl
theorem fcells_take (L R : List FD) : (fcells (L ++ R)).take (L.length * 2) = fcells L := by rw [fcells_app, ← fcells_len, List.take_left]
theorem fcells_drop (L R : List FD) : (fcells (L ++ R)).drop (L.length * 2) = fcells R := by rw [fcells_app, ← fcells_len, List.drop_left]
theorem fcells_get : ∀ (l : List FD) (k : Nat) (hk : k < l.length), (fcells l)[k * 2]? = some (.string (ba l[k].1)) ∧ (fcells l)[k * 2 + 1]? = some (.string (ba l[k].2))
  | f :: l, 0, _ => ⟨rfl, rfl⟩
  | f :: l, k + 1, hk => by
    have := fcells_get l k (by simpa using hk)
    have e : fcells (f :: l) = [.string (ba f.1), .string (ba f.2)] ++ fcells l := rfl
    rw [e]
    rw [List.getElem?_append_right (by simp; omega), List.getElem?_append_right (by simp; omega)]
    simp only [List.length_cons, List.length_nil, List.getElem_cons_succ]
    rw [show (k + 1) * 2 - (0 + 1 + 1) = k * 2 from by omega, show (k + 1) * 2 + 1 - (0 + 1 + 1) = k * 2 + 1 from by omega]
    exact this
/-- an owned row of files, as data -/
theorem own_dat {w : World} {B : Nat} {v : Value} {l : List FD} (h : w.ownsRow B 59 2 v l.length (fcells l)) : DatRep (Old w) w v (.lst 2 (l.map (toDats (.prod .str .str)))) := by
  rcases h.2 with ⟨rfl, h0⟩ | ⟨g, cap, cur, rfl, hb, hg, hn, hc, hs, ht⟩
  · have : l = [] := List.eq_nil_of_length_eq_zero h0
    subst this
    exact DatRep.lst none 0 0 2 [] 0 0 (fun _ _ => undef) rfl (Nat.le_refl _) (by unfold maxLen; omega) (fun x hx => by cases hx) (fun h => by cases h) (fun k j hk => by cases hk) (fun k j hk => by cases hk)
  · refine DatRep.lst (some ⟨g, 0, none⟩) l.length cap 2 _ g 0 (fun k j => (fcells l)[k * 2 + j]?.getD undef) (by simp) hn hc (fun x hx => by obtain ⟨f, _, rfl⟩ := List.mem_map.1 hx; rfl) (fun _ => rfl) (fun k j hk hj => ?_) (fun k j hk hj => ?_)
    · have hk' : k < l.length := by simpa using hk
      have hlt : k * 2 + j < (fcells l).length := by rw [fcells_len]; omega
      refine ⟨(Array.getElem?_eq_some_iff.1 hg).1, ?_, ?_⟩
      · rw [cell_of_row w g _ cur _ _ hg, List.getElem?_eq_getElem hlt]
        have : cur.toList[k * 2 + j]? = some (fcells l)[k * 2 + j] := by
          have e : (cur.toList.take (l.length * 2))[k * 2 + j]? = some (fcells l)[k * 2 + j] := by rw [ht, List.getElem?_eq_getElem hlt]
          rw [List.getElem?_take] at e
          split at e
          · exact e
          · cases e
        rw [Nat.zero_add]
        simpa using this
      · rw [List.getElem?_eq_getElem hlt]; exact fcells_one l _ (List.getElem_mem hlt)
    · have hk' : k < l.length := by simpa using hk
      have hg2 := fcells_get l k hk'
      simp only [List.getElem_map] at hj ⊢
      have hj2 : j < 2 := hj
      match j, hj2 with
      | 0, _ => rw [Nat.add_zero, hg2.1]; exact .v _
      | 1, _ => rw [hg2.2]; exact .v _
end Go.Proofs.YtpiiljpbfioilaaDoor.AM
