/- One text of DiskE, DiskF, RecH, DiskG, RecI, DiskH, DiskI, DiskJ (mk/pack.py). -/
import Derived.Test.YtabmdijfholakaaJqa13
import Derived.Test.YtabmdijfholakaaJqa11
import Derived.Test.YtabmdijfholakaaJqa3
import Derived.Deep.QuietTactic
import Derived.BigQuiet
import Derived.Laws.StructEq
import Derived.Laws.MakeOwn
import Derived.Deep.RegionLaw
/- The contracts of disk's flush, Put, Flush, Crash. -/
namespace Go.Proofs.Ytabmdijfholakaa
open Go.RowKit
set_option linter.unusedVariables false
namespace DM
theorem DV.but {R : Nat → Prop} {w w' : World} {base : Nat} {T1 T2 : TypeId} {v1 v2 : Value} {d : Dk} (h : OD w base T1 T2 v1 v2 d) (hb : But R w w') (hn : ∀ k, R k → k < base) : DV w' v1 v2 d :=
  (h.but hb (fun k hk hr => by have := (h.ge k hk).1; have := hn k hr; omega)).dv
theorem set2 {w : World} {B : Nat} {u v : Value} : But (· = B) w ((w.setCell ⟨B, 0, none⟩ u).setCell ⟨B, 1, none⟩ v) := ((But.refl (· = B) _).setCell (p := ⟨B, 0, none⟩) (Or.inl rfl) _).setCell (p := ⟨B, 1, none⟩) (Or.inl rfl) _
theorem Var.two (w : World) (v1 v2 v3 v4 : Value) (T : TypeId) : Var ((w.alloc (.cells #[v1, v2] T)).alloc (.cells #[v3, v4] T)) w.heap.size v1 v2 ∧ Var ((w.alloc (.cells #[v1, v2] T)).alloc (.cells #[v3, v4] T)) (w.heap.size + 1) v3 v4 := by
  refine ⟨(Var.made w _ _ _).below ((Below.refl _ _).alloc (Nat.le_refl _) _), ?_⟩
  have := Var.made (w.alloc (.cells #[v1, v2] T)) v3 v4 T
  simpa using this
theorem below_two (w : World) (o1 o2 : Obj) : Below w.heap.size w ((w.alloc o1).alloc o2) := ((Below.refl _ _).alloc (Nat.le_refl _) _).alloc (by simp) _
end DM
namespace DiskW
set_option maxHeartbeats 800000 in
set_option maxRecDepth 100000 in
theorem flush_any (base : Nat) (a1 a2 : Option Addr) (k1 k2 n m : Nat) (d : DM.Dk) (w : World) (h : DM.OD w base 9 62 (.slice a1 n k1) (.slice a2 m k2) d) (hbase : base ≤ w.heap.size) (hn : d.secs.length = n) (hm : d.cache.length = m)
    (hmay : DM.mayD d) (b2 : m ≤ 1000000) :
    Calls Try.prog 38 #[.agg #[.slice a1 n k1, .slice a2 m k2]] w fun e w' => e = .returned (.agg #[.slice a1 n k1, .slice none 0 0]) ∧
      DM.OD w' base 9 62 (.slice a1 n k1) (.slice none 0 0) (DM.settleD (fun _ => true) d) ∧ DM.But (DM.own2 (.slice a1 n k1) (.slice a2 m k2)) w w' := by
  have C : Hid (∀ w', DM.OD w' base 9 62 (.slice a1 n k1) (.slice a2 m k2) d → base ≤ w'.heap.size → Calls Try.prog 41 #[.agg #[.slice a1 n k1, .slice a2 m k2], .func (.func 59) #[] #[]] w' fun e w'' => e = .returned (.agg #[.slice a1 n k1, .slice none 0 0]) ∧
      DM.OD w'' base 9 62 (.slice a1 n k1) (.slice none 0 0) (DM.settleD (fun _ => true) d) ∧ DM.But (DM.own2 (.slice a1 n k1) (.slice a2 m k2)) w' w'') := Lib.hid (fun w' h hb => by
    subst hn hm
    exact settle_flush (fun _ => true) base a1 a2 k1 k2 d w' h hb hmay b2 (fun w'' _ j _ => flush1_any _ _))
  have H := Lib.hid h; clear h
  have HN := Lib.hid hn; clear hn
  have HM := Lib.hid hm; clear hm
  have HMAY := Lib.hid hmay; clear hmay
  go_enter Try.func38, Try.ntmps38
  go_wp2_with fail
  have V := Lib.hid (DM.Var.two w (.slice a1 n k1) (.slice a2 m k2) (.slice none 0 0) (.slice none 0 0) 25)
  have B0 := Lib.hid (DM.below_two w (.cells #[.slice a1 n k1, .slice a2 m k2] 25) (.cells #[.slice none 0 0, .slice none 0 0] 25))
  refine (C.out _ (H.out.below B0.out) (by simp; omega)).mono ?_; rintro e w1 ⟨rfl, O1, BU1⟩
  have R1 := BU1.var V.out.2 (fun h => by have := (H.out.ge _ h).2; omega)
  have BUW : DM.But (DM.own2 (.slice a1 n k1) (.slice a2 m k2)) w w1 := (DM.But.of_below (R := DM.own2 (.slice a1 n k1) (.slice a2 m k2)) B0.out).trans BU1 (fun _ => Or.inl)
  have r0 := R1.c0
  have r1 := R1.c1
  have g0 := R1.f0
  have g1 := R1.f1
  have HR1 := Lib.hid R1; clear R1
  go_wp2_with fail
  refine bodyPost_ret (results_dk rfl _ _ (w.heap.size + 1) a1 none n k1 0 0 rfl (by go_simp) (by go_simp)) rfl ⟨rfl, ?_, ?_⟩
  · exact O1.but DM.set2 (fun k hk hr => by
      subst hr
      rcases hk with hk | hk
      · have := (H.out.ge _ (Or.inl hk)).2; omega
      · cases hk)
  · exact (BUW.setCell (p := ⟨w.heap.size + 1, 0, none⟩) (Or.inr (Nat.le_succ _)) _).setCell (p := ⟨w.heap.size + 1, 1, none⟩) (Or.inr (Nat.le_succ _)) _
end DiskW
end Go.Proofs.Ytabmdijfholakaa

/- The contracts of disk's Flush and Crash. -/
namespace Go.Proofs.Ytabmdijfholakaa
open Go.RowKit
set_option linter.unusedVariables false
namespace DM
theorem Var.three (w : World) (v1 v2 v3 v4 v5 : Value) (T T2 : TypeId) : Var (((w.alloc (.cells #[v1, v2] T)).alloc (.cells #[v5] T2)).alloc (.cells #[v3, v4] T)) w.heap.size v1 v2 ∧ Var (((w.alloc (.cells #[v1, v2] T)).alloc (.cells #[v5] T2)).alloc (.cells #[v3, v4] T)) (w.heap.size + 2) v3 v4 ∧
    (((w.alloc (.cells #[v1, v2] T)).alloc (.cells #[v5] T2)).alloc (.cells #[v3, v4] T)).cell? ⟨w.heap.size + 1, 0, none⟩ = some v5 := by
  refine ⟨((Var.made w _ _ _).below ((Below.refl _ _).alloc (Nat.le_refl _) _)).below ((Below.refl _ _).alloc (Nat.le_refl _) _), ?_, by go_simp⟩
  have := Var.made ((w.alloc (.cells #[v1, v2] T)).alloc (.cells #[v5] T2)) v3 v4 T
  simpa using this
theorem below_three (w : World) (o1 o2 o3 : Obj) : Below w.heap.size w (((w.alloc o1).alloc o2).alloc o3) := (((Below.refl _ _).alloc (Nat.le_refl _) _).alloc (by simp) _).alloc (by simp; omega) _
end DM
namespace DiskW
theorem BV.below {w w' : World} {v : Value} {l : List Bool} (h : BV w v l) (hb : Below w.heap.size w w') : BV w' v l := by
  obtain ⟨a, cap, h1, h2⟩ := h
  refine ⟨a, cap, h1, fun h0 => ?_⟩
  obtain ⟨b, off, h3, h4, h5⟩ := h2 h0
  exact ⟨b, off, h3, Nat.lt_of_lt_of_le h4 hb.size, fun j hj => (hb.cell (p := ⟨b, off + j, none⟩) h4).trans (h5 j hj)⟩
end DiskW
end Go.Proofs.Ytabmdijfholakaa

/- The contracts of the joiners of sectors. -/
namespace Go.Proofs.Ytabmdijfholakaa
open Go.RowKit
namespace RecW
theorem write_any (B b : Nat) (l : List UInt8) (s : ByteArray) (w : World) (h : Go.Lib.IsBuilder 104 5 B b (Go.Lib.byteCells l) w) (hlen : l.length + s.size ≤ 140737488355328) (hBw : B ≤ w.heap.size) :
    Calls Try.prog 66 #[.pointer (some ⟨b, 0, none⟩), .string s] w fun e w' => e = .returned (.tuple #[.int .i64 s.size, .nilIface]) ∧ Go.Lib.IsBuilder 104 5 B b (Go.Lib.byteCells (l ++ s.data.toList)) w' ∧ Below B w w' := by
  refine Calls.mono (Any.Builder_WriteString (ρ := Try.lays105_ren) { Try.lays105 with } Try.Builder_Extra_105 B b (Go.Lib.byteCells l) s w h (by rw [Go.Lib.byteCells_length]; exact hlen) hBw) ?_
  rintro e w' ⟨he, h1, h2⟩
  refine ⟨he, .inr ?_, h2⟩
  rw [Go.Lib.byteCells_append, ← Go.Lib.strCells_eq]
  exact h1
theorem eq_any (w : World) (v1 v2 : Value) (xs ys : List ByteArray) (h1 : RM.SV w v1 xs) (h2 : RM.SV w v2 ys) (b1 : xs.length ≤ 9223372036854775807) (b2 : ys.length ≤ 9223372036854775807) :
    Calls Try.prog 68 #[v1, v2] w fun e w' => e = .returned (.bool (decide (xs = ys))) ∧ ∃ q, w' = w.drewN q := by
  obtain ⟨a1, c1, rfl, h1⟩ := h1
  obtain ⟨a2, c2, rfl, h2⟩ := h2
  by_cases hn : xs.length = ys.length
  · by_cases h0 : xs.length = 0
    · have e1 : xs = [] := List.length_eq_zero_iff.1 h0
      have e2 : ys = [] := List.length_eq_zero_iff.1 (by omega)
      subst e1 e2
      refine (Try.slices_Equal_string_empty a1 a2 c1 0 c2 w (by omega)).mono ?_
      rintro e w' ⟨rfl, rfl⟩
      exact ⟨rfl, 0, rfl⟩
    · obtain ⟨g1, o1, rfl, _, k1⟩ := h1 (by omega)
      obtain ⟨g2, o2, rfl, _, k2⟩ := h2 (by omega)
      refine (Try.slices_Equal_string g1 o1 xs.length c1 g2 o2 ys.length c2 xs ys w (Nat.le_refl _) (Nat.le_refl _) b1 b2 (fun j hj => by rw [k1 j hj]; simp [List.getD, hj]) (fun j hj => by rw [k2 j hj]; simp [List.getD, hj])).mono ?_
      rintro e w' ⟨rfl, q, rfl⟩
      exact ⟨by rw [List.take_length, List.take_length], q, rfl⟩
  · refine (Try.slices_Equal_string_lens a1 a2 xs.length c1 ys.length c2 w hn).mono ?_
    rintro e w' ⟨rfl, rfl⟩
    exact ⟨by rw [decide_eq_false (by rintro rfl; exact hn rfl)], 0, rfl⟩
set_option maxHeartbeats 3200000 in
set_option maxRecDepth 100000 in
theorem join_any (l : List ByteArray) (v : Value) (size : Int) (w : World) (hv : RM.SV w v l) (hl : l.length ≤ 1000) (hb : -9223372036854775808 ≤ size ∧ size ≤ 9223372036854775807) :
    Calls Try.prog 53 #[v, .int .i64 size] w fun e w' => e = .returned (.tuple #[.string (RM.joinB l size), .bool (decide (RM.joinOk l size))]) ∧ Below w.heap.size w w' := by
  obtain ⟨a, cap, rfl, hcells⟩ := hv
  by_cases hc : (l.length : Int) = RM.countF size
  · obtain ⟨h1, h2, h3, h4⟩ := RM.count_in l.length size hc
    obtain ⟨n, rfl⟩ : ∃ n : Nat, size = n := ⟨size.toNat, by omega⟩
    have hcc : RM.countF (n : Int) = (l.length : Int) := hc.symm
    have HC := Lib.hid hc; clear hc
    have hJ : Hid (RM.joinS l (n : Int) = RM.str ((RM.allL l).take n)) := Lib.hid rfl
    go_enter Try.func53, Try.ntmps53
    go_wp2_with fail
    refine (count_any _ _ (by omega)).mono ?_; rintro e w' ⟨rfl, rfl⟩
    go_wp2_with fail
    have hnew := Go.Lib.fresh_isBuilder 104 5 w
    go_loopw [17] (fun i wr => ∃ k : Nat, k ≤ l.length ∧ i = .int .i64 k ∧ Go.Lib.IsBuilder 104 5 w.heap.size w.heap.size (Go.Lib.byteCells (RM.allL (l.take k))) wr ∧ (∀ j (h : j < l.length), j < k → l[j].size = 32) ∧ Below w.heap.size w wr) (fun i _ => l.length - (intOf i).toNat)
    case atStart => exact ⟨0, Nat.zero_le _, rfl, hnew, fun j _ h => by omega, (Below.refl _ _).alloc (Nat.le_refl _) _⟩
    case round =>
      obtain ⟨k, hk, rfl, hbld, hall, hbel⟩ := hrel
      by_cases hkl : k < l.length
      · obtain ⟨g, off, rfl, hg, hcs⟩ := hcells (by omega)
        have hcx : wr.cell? ⟨g, off + k, none⟩ = some (.string l[k]) := (hbel.cell (p := ⟨g, off + k, none⟩) hg).trans (hcs k hkl)
        have hsnoc := Lib.hid (RM.allL_snoc l k hkl)
        have hHall := Lib.hid hall
        have hHbld := Lib.hid hbld
        have hlen31 : (RM.allL (l.take k)).length ≤ 31000 := by
          rw [RM.allL_length (l.take k) (RM.all32 _ (fun j hj => by
            have hj' : j < k ∧ j < l.length := by simp at hj; omega
            rw [List.getElem_take]; exact hall j hj'.2 hj'.1))]
          simp; omega
        have hbs := hbel.size
        clear hall hbld
        by_cases h32 : l[k].size = 32
        · have hx1 := Lib.hid (RM.tail1 l[k] h32)
          have hex : Hid ((l[k].extract 1 32).size = 31) := by apply Lib.hid; rw [ByteArray.size_extract]; omega
          have h32i : (l[k].size : Int) = 32 := by omega
          have hH32 := Lib.hid h32
          generalize hx : l[k] = x at *
          have HX := Lib.hid hx; clear hx
          go_wp2_with fail
          refine (write_any w.heap.size w.heap.size (RM.allL (l.take k)) (x.extract 1 32) _ hHbld.out (by rw [hex.out]; omega) hbs).mono ?_
          rintro e w2 ⟨rfl, hb2, hbel2⟩
          rw [hx1.out, ← hsnoc.out] at hb2
          have hbel3 := hbel.trans hbel2
          clear hbel hbel2 hx1 hex hsnoc
          have hHb2 := Lib.hid hb2; clear hb2
          go_wp2_with fail
          go_roundw
          case rel => exact ⟨k + 1, by omega, by go_num, hHb2.out, fun j hj hjk => by
            by_cases e : j = k
            · subst e; rw [HX.out]; exact hH32.out
            · exact hHall.out j hj (by omega), hbel3⟩
          case measure => simp [intOf]; omega
        · have hno := RM.joinOk_not l (n : Int) k hkl h32
          have HN := Lib.hid hno
          have h32i : ¬ (l[k].size : Int) = 32 := by omega
          generalize hx : l[k] = x at *
          clear hno h32 hx hsnoc
          go_wp2_with fail
          go_ret2
          exact ⟨by rw [RM.joinB_no l _ HN.out, decide_eq_false HN.out]; rfl, hbel⟩
      · have hkk : k = l.length := by omega
        subst hkk
        rw [List.take_length] at hbld
        have hA := Lib.hid (RM.all32 l (fun j hj => hall j hj hj))
        have hlen := RM.allL_length l hA.out
        have hbs := hbel.size
        have hHbld := Lib.hid hbld
        clear hall hbld hnew
        go_wp2_with fail
        refine (Try.Builder_String_any w.heap.size w.heap.size (RM.allL l) _ hHbld.out hbs).mono ?_
        rintro e w2 ⟨rfl, hbel2⟩
        have hbel3 := hbel.trans hbel2
        have hn1 : (n : Int) ≤ ((RM.allL l).length : Int) := by omega
        clear hbel hbel2
        go_wp2_with fail
        have hE : (⟨(RM.allL l).toArray⟩ : ByteArray).extract 0 n = RM.joinS l (n : Int) := RM.extract0 (RM.allL l) n
        rw [hE]
        have hjs : Hid ((RM.joinS l (n : Int)).size ≤ maxLen) := by
          apply Lib.hid; unfold RM.joinS maxLen; rw [RM.str_size]; simp; omega
        have hbs3 := hbel3.size
        have hSVl : RM.SV w (.slice a l.length cap) l := ⟨a, cap, rfl, hcells⟩
        have HSV := Lib.hid hSVl; clear hSVl
        clear hE hn1
        generalize hP : RM.joinS l (n : Int) = p at *
        have HP := Lib.hid hP; clear hP
        refine (cut_any p _ hjs.out).mono ?_
        rintro e w3 ⟨v3, rfl, hown3, hbel4⟩
        have hbel5 := hbel3.trans (hbel4.mono hbs3)
        have hSV3 := Lib.hid (RM.SV.of_owns (RM.cutL_length p).symm hown3)
        have hcl := RM.cutN_le p
        clear hown3 hbel3 hbel4
        go_wp2_with fail
        refine (eq_any _ _ _ _ _ hSV3.out (HSV.out.below hbel5) (by rw [RM.cutL_length]; omega) (by omega)).mono ?_
        rintro e w4 ⟨rfl, m, rfl⟩
        by_cases hcmp : RM.cutL p = l
        · have hok : RM.joinOk l (n : Int) := ⟨HC.out, hA.out, by rw [HP.out]; exact hcmp⟩
          have hd : decide (RM.cutL p = l) = true := decide_eq_true hcmp
          rw [hd]
          clear hcmp hd
          have HOK := Lib.hid hok; clear hok
          go_wp2_with fail
          go_ret2
          exact ⟨by rw [RM.joinB_yes l _ HOK.out, decide_eq_true HOK.out, HP.out]; rfl, Lib.below_drewN hbel5 _⟩
        · have hok : ¬ RM.joinOk l (n : Int) := fun x => hcmp (by rw [← HP.out]; exact x.2.2)
          have hd : decide (RM.cutL p = l) = false := decide_eq_false hcmp
          rw [hd]
          clear hcmp hd
          have HOK := Lib.hid hok; clear hok
          go_wp2_with fail
          go_ret2
          exact ⟨by rw [RM.joinB_no l _ HOK.out, decide_eq_false HOK.out]; rfl, Lib.below_drewN hbel5 _⟩
  · have hno : ¬ RM.joinOk l size := fun x => hc x.1
    rw [RM.joinB_no l size hno, decide_eq_false hno]
    clear hno
    go_enter Try.func53, Try.ntmps53
    go_wp2_with fail
    refine (count_any _ _ hb).mono ?_; rintro e w' ⟨rfl, rfl⟩
    go_wp2_with fail
    go_ret2
    exact ⟨rfl, Below.refl _ _⟩
end RecW
end Go.Proofs.Ytabmdijfholakaa

/- The contracts of disk's Get and Same. -/
namespace Go.Proofs.Ytabmdijfholakaa
open Go.RowKit
set_option linter.unusedVariables false
namespace DM
end DM
namespace DiskW
end DiskW
end Go.Proofs.Ytabmdijfholakaa

/- The contract of the document's joiner. -/
namespace Go.Proofs.Ytabmdijfholakaa
open Go.RowKit
namespace RecW
theorem lists_eq {a b : List ByteArray} (hn : a.length = b.length) (h : ∀ j (h1 : j < a.length) (h2 : j < b.length), a[j] = b[j]) : a = b := List.ext_getElem hn h
end RecW
end Go.Proofs.Ytabmdijfholakaa

/- The contracts of disk's Same. -/
namespace Go.Proofs.Ytabmdijfholakaa
open Go.RowKit
set_option linter.unusedVariables false
namespace DM
theorem WV.drewN {w : World} {v : Value} {l : List Wr} (h : WV w v l) (n : Nat) : WV (w.drewN n) v l := h
end DM
namespace DiskW
theorem wlists_eq {a b : List DM.Wr} (hn : a.length = b.length) (h : ∀ j (h1 : j < a.length) (h2 : j < b.length), a[j] = b[j]) : a = b := List.ext_getElem hn h
end DiskW
end Go.Proofs.Ytabmdijfholakaa

/- The contract of disk's Same. -/
namespace Go.Proofs.Ytabmdijfholakaa
open Go.RowKit
set_option linter.unusedVariables false
namespace DiskW
theorem dk_eq (x y : DM.Dk) : x = y ↔ x.secs = y.secs ∧ x.cache = y.cache := by cases x; cases y; simp
end DiskW
end Go.Proofs.Ytabmdijfholakaa

/- The contract of disk's New. -/
namespace Go.Proofs.Ytabmdijfholakaa
open Go.RowKit
set_option linter.unusedVariables false
namespace DM
def zeroS : ByteArray := fillB ⟨#[]⟩
def newOk (n : Int) : Prop := 1 ≤ n ∧ n ≤ 512
instance (n : Int) : Decidable (newOk n) := by unfold newOk; infer_instance
def newD (n : Int) : Dk := if newOk n then ⟨List.replicate n.toNat zeroS, []⟩ else ⟨[], []⟩
end DM
namespace DiskW
end DiskW
end Go.Proofs.Ytabmdijfholakaa
