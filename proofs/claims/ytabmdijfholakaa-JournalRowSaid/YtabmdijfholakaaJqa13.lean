/- The contracts of disk's settle and flush. -/
import Derived.Test.YtabmdijfholakaaJqa12
namespace Go.Proofs.Ytabmdijfholakaa
open Go.RowKit
set_option linter.unusedVariables false
namespace DiskW
set_option maxHeartbeats 800000 in
set_option maxRecDepth 100000 in
theorem write_no (a1 a2 : Option Addr) (n k1 m k2 : Nat) (i : Int) (s : ByteArray) (w : World) (hn : n ≤ 9223372036854775807) (hs : s.size ≤ maxLen) (he : DM.writeE n i s ≠ 0) :
    Calls Try.prog 39 #[.agg #[.slice a1 n k1, .slice a2 m k2], .int .i64 i, .string s] w fun e w' => e = .returned (.tuple #[.agg #[.slice a1 n k1, .slice a2 m k2], .int .i64 (DM.writeE n i s)]) ∧ Below w.heap.size w w' := by
  unfold maxLen at hs
  have hcase : ∃ x : Bool, (x = false ∧ DM.writeE n i s = 1 ∨ x = true ∧ (32 : Int) < (s.size : Int) ∧ DM.writeE n i s = 2) ∧ ∀ w, Calls Try.prog 58 #[.agg #[.slice a1 n k1, .slice a2 m k2], .int .i64 i] w fun e w' => e = .returned (.bool x) ∧ Below w.heap.size w w' := by
    by_cases hin : DM.inD n i
    · refine ⟨true, Or.inr ⟨rfl, ?_⟩, fun w => has_any a1 n k1 _ i w true (decide_eq_true hin) hn⟩
      unfold DM.writeE at he ⊢
      rw [if_pos hin] at he ⊢
      by_cases h : 32 < s.size
      · exact ⟨by omega, if_pos h⟩
      · rw [if_neg h] at he; exact absurd rfl he
    · refine ⟨false, Or.inl ⟨rfl, ?_⟩, fun w => has_any a1 n k1 _ i w false (decide_eq_false hin) hn⟩
      unfold DM.writeE
      rw [if_neg hin]
  clear he
  obtain ⟨x, hx, hc⟩ := hcase
  have HC := Lib.hid hc; clear hc
  rcases hx with ⟨rfl, he⟩ | ⟨rfl, h32, he⟩
  all_goals
    rw [he]
    clear he
    go_enter Try.func39, Try.ntmps39
    go_wp2_with fail
    refine (HC.out _).mono ?_; rintro e w1 ⟨rfl, B1⟩
    have BW1 : Below w.heap.size w w1 := (((Below.refl _ _).alloc (Nat.le_refl _) _).alloc (by simp) _).trans (B1.mono (by simp; omega))
    have K1 : Hid (DM.Var w1 w.heap.size (.slice a1 n k1) (.slice a2 m k2)) := Lib.hid (((DM.Var.made w _ _ _).below ((Below.refl _ _).alloc (Nat.le_refl _) _)).below B1)
    have R1 : Hid (DM.Var w1 (w.heap.size + 1) (.slice none 0 0) (.slice none 0 0)) := Lib.hid (by
      have := (DM.Var.made (w.alloc (.cells #[.slice a1 n k1, .slice a2 m k2] 25)) (.slice none 0 0) (.slice none 0 0) 25).below B1
      simpa using this)
    have c0 := K1.out.c0
    have c1 := K1.out.c1
    have r0 := R1.out.c0
    have r1 := R1.out.c1
    have f0 := R1.out.f0
    have f1 := R1.out.f1
    clear B1
    go_wp2_with fail
    refine bodyPost_ret (results_dke rfl _ _ (w.heap.size + 1) a1 a2 n k1 m k2 rfl (by go_simp) (by go_simp)) rfl ⟨rfl, ?_⟩
    exact (BW1.setCell (by simp) _).setCell (by simp) _
theorem flush1_any (i : Int) (w : World) : Calls Try.prog 59 #[.int .i64 i] w fun e w' => e = .returned (.bool true) ∧ w = w' := by
  go_enter Try.func59, Try.ntmps59
  go_wp2_with fail
  go_ret
  exact ⟨rfl, rfl⟩
/-- a list of bools, in a world -/
def BV (w : World) (v : Value) (l : List Bool) : Prop := ∃ a cap, v = .slice a l.length cap ∧ (0 < l.length → ∃ b off, a = some ⟨b, off, none⟩ ∧ b < w.heap.size ∧ ∀ j (h : j < l.length), w.cell? ⟨b, off + j, none⟩ = some (.bool l[j]))
set_option maxHeartbeats 800000 in
theorem crash1_any (l : List Bool) (v : Value) (b : Nat) (k : Nat) (w : World) (hv : BV w v l) (hb : w.cell? ⟨b, 0, none⟩ = some v) (hl : l.length ≤ 9223372036854775807) :
    Calls Try.prog 40 #[.int .i64 (k : Int), .pointer (some ⟨b, 0, none⟩)] w fun e w' => e = .returned (.bool (l.getD k false)) ∧ w = w' := by
  obtain ⟨a, cap, rfl, hc⟩ := hv
  by_cases hk : k < l.length
  · obtain ⟨g, off, rfl, hg, hcs⟩ := hc (by omega)
    have x := hcs k hk
    have hgd : l.getD k false = l[k] := by simp [List.getD, hk]
    rw [hgd]
    generalize l[k] = y at x
    have hki : (k : Int) < (l.length : Int) := by omega
    have hk0 : (0 : Int) ≤ (k : Int) := by omega
    clear hcs hc hgd
    go_enter Try.func40, Try.ntmps40
    go_wp2_with fail
    go_ret
    exact ⟨rfl, rfl⟩
  · have hgd : l.getD k false = false := by simp [List.getD, hk]
    rw [hgd]
    have hki : ¬ (k : Int) < (l.length : Int) := by omega
    clear hc hgd
    go_enter Try.func40, Try.ntmps40
    go_wp2_with fail
    go_ret
    exact ⟨rfl, rfl⟩
set_option maxHeartbeats 3200000 in
set_option maxRecDepth 100000 in
theorem settle_flush (keep : Nat → Bool) (base : Nat) (a1 a2 : Option Addr) (k1 k2 : Nat) (d : DM.Dk) (w : World) (h : DM.OD w base 9 62 (.slice a1 d.secs.length k1) (.slice a2 d.cache.length k2) d) (hbase : base ≤ w.heap.size)
    (hm : DM.mayD d) (b2 : d.cache.length ≤ 1000000)
    (hf : ∀ w', DM.But (DM.own2 (.slice a1 d.secs.length k1) (.slice a2 d.cache.length k2)) w w' → ∀ j, j < d.cache.length → Calls Try.prog 59 #[.int .i64 (j : Int)] w' fun e w'' => e = .returned (.bool (keep j)) ∧ w' = w'') :
    Calls Try.prog 41 #[.agg #[.slice a1 d.secs.length k1, .slice a2 d.cache.length k2], .func (.func 59) #[] #[]] w fun e w' => e = .returned (.agg #[.slice a1 d.secs.length k1, .slice none 0 0]) ∧
      DM.OD w' base 9 62 (.slice a1 d.secs.length k1) (.slice none 0 0) (DM.settleD keep d) ∧ DM.But (DM.own2 (.slice a1 d.secs.length k1) (.slice a2 d.cache.length k2)) w w' := by
  have HF := Lib.hid hf; clear hf
  have HMAY := Lib.hid hm; clear hm
  have H := Lib.hid h; clear h
  obtain ⟨n, hn⟩ : ∃ n, d.secs.length = n := ⟨_, rfl⟩
  obtain ⟨m, hm⟩ : ∃ m, d.cache.length = m := ⟨_, rfl⟩
  have HN := Lib.hid hn
  have HM := Lib.hid hm
  simp only [hn, hm] at H HF b2 ⊢
  clear hn hm
  go_enter Try.func41, Try.ntmps41
  go_wp2_with fail
  have hn1 : 1 ≤ n := by have := HMAY.out.1; rw [HN.out] at this; exact this
  obtain ⟨g1, hg1⟩ : ∃ g1, a1 = some ⟨g1, 0, none⟩ := by
    rcases H.out.secs.2 with ⟨_, h⟩ | ⟨g, cap, cur, h, _⟩
    · have := HN.out; omega
    · simp only [Value.slice.injEq] at h; exact ⟨g, h.1⟩
  subst hg1
  have hg1l : g1 < w.heap.size := (H.out.ge g1 (Or.inl rfl)).2
  have hap : ¬ (Value.slice a2 m k2).ownBlock = some g1 := H.out.apart g1 rfl
  have V0 : DM.Var ((w.alloc (.cells #[.slice (some ⟨g1, 0, none⟩) n k1, .slice a2 m k2] 25)).alloc (.cells #[.slice none 0 0, .slice none 0 0] 25)) w.heap.size (.slice (some ⟨g1, 0, none⟩) n k1) (.slice a2 m k2) := (DM.Var.made w _ _ _).below ((Below.refl _ _).alloc (Nat.le_refl _) _)
  have V1 : DM.Var ((w.alloc (.cells #[.slice (some ⟨g1, 0, none⟩) n k1, .slice a2 m k2] 25)).alloc (.cells #[.slice none 0 0, .slice none 0 0] 25)) (w.heap.size + 1) (.slice none 0 0) (.slice none 0 0) := by
    have := DM.Var.made (w.alloc (.cells #[.slice (some ⟨g1, 0, none⟩) n k1, .slice a2 m k2] 25)) (.slice none 0 0) (.slice none 0 0) 25
    simpa using this
  have B0 : Below w.heap.size w ((w.alloc (.cells #[.slice (some ⟨g1, 0, none⟩) n k1, .slice a2 m k2] 25)).alloc (.cells #[.slice none 0 0, .slice none 0 0] 25)) := ((Below.refl _ _).alloc (Nat.le_refl _) _).alloc (by simp) _
  have HV0 := Lib.hid V0
  have HV1 := Lib.hid V1
  clear V0 V1
  go_loopw [10] (fun i wr => ∃ q : Nat, q ≤ m ∧ i = .int .i64 q ∧ DM.Var wr w.heap.size (.slice (some ⟨g1, 0, none⟩) n k1) (.slice a2 m k2) ∧ DM.Var wr (w.heap.size + 1) (.slice none 0 0) (.slice none 0 0) ∧ DM.OD wr base 9 62 (.slice (some ⟨g1, 0, none⟩) n k1) (.slice a2 m k2) ⟨DM.settleK keep d.secs d.cache q, d.cache⟩ ∧ DM.But (DM.own2 (.slice (some ⟨g1, 0, none⟩) n k1) (.slice a2 m k2)) w wr) (fun i _ => m - (intOf i).toNat)
  case atStart => exact ⟨0, Nat.zero_le _, rfl, HV0.out, HV1.out, H.out.below B0, DM.But.of_below B0⟩
  case round =>
    clear HV0 HV1 B0
    obtain ⟨q, hq, rfl, VA, VB, O, BU⟩ := hrel
    have HVA := Lib.hid VA
    have HVB := Lib.hid VB
    have HO := Lib.hid O
    have c0 := VA.c0
    have c1 := VA.c1
    have l0 := VA.lt
    have l1 := VB.lt
    clear VA VB O
    by_cases hqm : q < m
    · have hqd : q < d.cache.length := by rw [HM.out]; exact hqm
      obtain ⟨aw, cw, hev, hcw⟩ := HO.out.dv.2
      simp only [Value.slice.injEq] at hev
      obtain ⟨g2, off2, hg2, hg2l, hcs⟩ := hcw (by show 0 < d.cache.length; omega)
      rw [hg2] at hev
      obtain ⟨hev1, hev2, hev3⟩ := hev
      clear hev2 hev3 hcw hg2
      subst hev1
      have hw := hcs q hqd
      have x4 : wr.cell? ⟨g2, off2 + q * 2, none⟩ = some (.int .i64 d.cache[q].1) := hw.1
      have x5 : wr.cell? ⟨g2, off2 + q * 2 + 1, none⟩ = some (.string d.cache[q].2) := hw.2
      clear hw hcs
      have hok := HMAY.out.2.2.2 _ (List.getElem_mem hqd)
      rw [HN.out] at hok
      have hgd : d.cache.getD q (0, ⟨#[]⟩) = d.cache[q] := by simp [List.getD, hqd]
      generalize hP : d.cache[q] = P at x4 x5 hok hgd
      obtain ⟨i1, s1⟩ := P
      simp only at x4 x5
      obtain ⟨hk1, hk2, hk3⟩ := hok
      simp only at hk1 hk2 hk3
      obtain ⟨p, rfl⟩ : ∃ p : Nat, i1 = (p : Int) := ⟨i1.toNat, by omega⟩
      have HGD := Lib.hid hgd; clear hgd hP
      have hqi : (q : Int) < (m : Int) := by omega
      have BUA : DM.But (DM.own2 (.slice (some ⟨g1, 0, none⟩) n k1) (.slice (some ⟨g2, off2, none⟩) m k2)) w (wr.alloc (.cells #[.int .i64 (p : Int), .string s1] 62)) := BU.alloc _
      obtain ⟨z, hz⟩ : ∃ z, keep q = z := ⟨_, rfl⟩
      have CK := HF.out _ BUA q hqm
      rw [hz] at CK
      have HCK := Lib.hid CK; clear CK
      have HZ := Lib.hid hz; clear hz
      have HBUA := Lib.hid BUA; clear BUA
      have HBU := Lib.hid BU; clear BU
      have BA : Below wr.heap.size wr (wr.alloc (.cells #[.int .i64 (p : Int), .string s1] 62)) := (Below.refl _ _).alloc (Nat.le_refl _) _
      have HBA := Lib.hid BA; clear BA
      cases z
      · go_wp2_with fail
        refine HCK.out.mono ?_; rintro e w2 ⟨rfl, rfl⟩
        go_wp2_with fail
        go_roundw
        case rel =>
          refine ⟨q + 1, by omega, by go_num, HVA.out.below HBA.out, HVB.out.below HBA.out, ?_, HBUA.out⟩
          have : DM.settleK keep d.secs d.cache (q + 1) = DM.settleK keep d.secs d.cache q := by simp [DM.settleK, HZ.out]
          rw [this]
          exact HO.out.below HBA.out
        case measure => simp [intOf]; omega
      · have hpn : (p : Int) < (n : Int) := hk2
        have hp0 : (0 : Int) ≤ (p : Int) := hk1
        have OSEC : wr.ownsRow base 9 1 (.slice (some ⟨g1, 0, none⟩) n k1) n ((DM.settleK keep d.secs d.cache q).map Value.string) := by
          have := HO.out.secs
          rw [show (⟨DM.settleK keep d.secs d.cache q, d.cache⟩ : DM.Dk).secs.length = n from by show (DM.settleK keep d.secs d.cache q).length = n; rw [DM.settleK_length, HN.out]] at this
          exact this
        have fz' : wr.frozen? ⟨g1, p, none⟩ = false := OSEC.frozenAt p
        have xz' : ∃ v, wr.cell? ⟨g1, p, none⟩ = some v := by
          have := OSEC.cellAt p (by omega)
          rw [this]
          have hl : p < ((DM.settleK keep d.secs d.cache q).map Value.string).length := by rw [List.length_map, DM.settleK_length, HN.out]; omega
          exact ⟨_, List.getElem?_eq_getElem hl⟩
        obtain ⟨vz, xz'⟩ := xz'
        have HST := Lib.hid (OSEC.stored p (.string s1))
        clear OSEC
        have hgw : g1 < wr.heap.size := by omega
        go_wp2_with fail
        refine HCK.out.mono ?_; rintro e w2 ⟨rfl, rfl⟩
        go_wp2_with fail
        have F : DM.But (· = g1) wr ((wr.setCell ⟨g1, p, none⟩ (.string s1)).alloc (.cells #[.int .i64 (p : Int), .string s1] 62)) := ((DM.But.refl (· = g1) wr).setCell (p := ⟨g1, p, none⟩) (Or.inl rfl) _).alloc _
        have HF1 := Lib.hid F; clear F
        go_roundw
        case rel =>
          refine ⟨q + 1, by omega, by go_num, HF1.out.var HVA.out (by omega), HF1.out.var HVB.out (by omega), ?_, (HBU.out.setCell (p := ⟨g1, p, none⟩) (Or.inl (Or.inl rfl)) _).alloc _⟩
          have e1 : DM.settleK keep d.secs d.cache (q + 1) = (DM.settleK keep d.secs d.cache q).set p s1 := by simp only [DM.settleK, HZ.out, HGD.out, if_true]; rfl
          rw [e1]
          refine ⟨?_, HF1.out.owns HO.out.cache (fun g hg h => by subst h; exact hap hg), HO.out.apart⟩
          have := HST.out.1.alloc (.cells #[.int .i64 (p : Int), .string s1] 62)
          rw [← List.map_set] at this
          rw [show (⟨(DM.settleK keep d.secs d.cache q).set p s1, d.cache⟩ : DM.Dk).secs.length = n from by show ((DM.settleK keep d.secs d.cache q).set p s1).length = n; rw [List.length_set, DM.settleK_length, HN.out]]
          exact this
        case measure => simp [intOf]; omega
    · have hqq : q = m := by omega
      subst hqq
      have f1 := HVA.out.f1
      have r0 := HVB.out.c0
      have r1 := HVB.out.c1
      have g0 := HVB.out.f0
      have g1' := HVB.out.f1
      go_wp2_with fail
      refine bodyPost_ret (results_dk rfl _ _ (w.heap.size + 1) (some ⟨g1, 0, none⟩) none n k1 0 0 rfl (by go_simp) (by go_simp)) rfl ⟨rfl, ?_, ?_⟩
      · have F : DM.But (fun k => w.heap.size ≤ k) wr (((wr.setCell ⟨w.heap.size, 1, none⟩ (.slice none 0 0)).setCell ⟨w.heap.size + 1, 0, none⟩ (.slice (some ⟨g1, 0, none⟩) n k1)).setCell ⟨w.heap.size + 1, 1, none⟩ (.slice none 0 0)) :=
          (((DM.But.refl (fun k => w.heap.size ≤ k) _).setCell (p := ⟨w.heap.size, 1, none⟩) (Or.inl (Nat.le_refl _)) _).setCell (p := ⟨w.heap.size + 1, 0, none⟩) (Or.inl (Nat.le_succ _)) _).setCell (p := ⟨w.heap.size + 1, 1, none⟩) (Or.inl (Nat.le_succ _)) _
        refine ⟨?_, World.ownsRow_nil _ _ _ _, fun g _ h => by cases h⟩
        have := F.owns HO.out.secs (fun g hg h => by have := (H.out.ge g (Or.inl hg)).2; omega)
        unfold DM.settleD
        rw [HM.out]
        exact this
      · exact ((BU.setCell (p := ⟨w.heap.size, 1, none⟩) (Or.inr (Nat.le_refl _)) _).setCell (p := ⟨w.heap.size + 1, 0, none⟩) (Or.inr (Nat.le_succ _)) _).setCell (p := ⟨w.heap.size + 1, 1, none⟩) (Or.inr (Nat.le_succ _)) _
set_option maxHeartbeats 3200000 in
set_option maxRecDepth 100000 in
theorem settle_crash (kb : Nat) (keep : Nat → Bool) (base : Nat) (a1 a2 : Option Addr) (k1 k2 : Nat) (d : DM.Dk) (w : World) (h : DM.OD w base 9 62 (.slice a1 d.secs.length k1) (.slice a2 d.cache.length k2) d) (hbase : base ≤ w.heap.size)
    (hm : DM.mayD d) (b2 : d.cache.length ≤ 1000000)
    (hf : ∀ w', DM.But (DM.own2 (.slice a1 d.secs.length k1) (.slice a2 d.cache.length k2)) w w' → ∀ j, j < d.cache.length → Calls Try.prog 40 #[.int .i64 (j : Int), .pointer (some ⟨kb, 0, none⟩)] w' fun e w'' => e = .returned (.bool (keep j)) ∧ w' = w'') :
    Calls Try.prog 41 #[.agg #[.slice a1 d.secs.length k1, .slice a2 d.cache.length k2], .func (.func 40) #[] #[.pointer (some ⟨kb, 0, none⟩)]] w fun e w' => e = .returned (.agg #[.slice a1 d.secs.length k1, .slice none 0 0]) ∧
      DM.OD w' base 9 62 (.slice a1 d.secs.length k1) (.slice none 0 0) (DM.settleD keep d) ∧ DM.But (DM.own2 (.slice a1 d.secs.length k1) (.slice a2 d.cache.length k2)) w w' := by
  have HF := Lib.hid hf; clear hf
  have HMAY := Lib.hid hm; clear hm
  have H := Lib.hid h; clear h
  obtain ⟨n, hn⟩ : ∃ n, d.secs.length = n := ⟨_, rfl⟩
  obtain ⟨m, hm⟩ : ∃ m, d.cache.length = m := ⟨_, rfl⟩
  have HN := Lib.hid hn
  have HM := Lib.hid hm
  simp only [hn, hm] at H HF b2 ⊢
  clear hn hm
  go_enter Try.func41, Try.ntmps41
  go_wp2_with fail
  have hn1 : 1 ≤ n := by have := HMAY.out.1; rw [HN.out] at this; exact this
  obtain ⟨g1, hg1⟩ : ∃ g1, a1 = some ⟨g1, 0, none⟩ := by
    rcases H.out.secs.2 with ⟨_, h⟩ | ⟨g, cap, cur, h, _⟩
    · have := HN.out; omega
    · simp only [Value.slice.injEq] at h; exact ⟨g, h.1⟩
  subst hg1
  have hg1l : g1 < w.heap.size := (H.out.ge g1 (Or.inl rfl)).2
  have hap : ¬ (Value.slice a2 m k2).ownBlock = some g1 := H.out.apart g1 rfl
  have V0 : DM.Var ((w.alloc (.cells #[.slice (some ⟨g1, 0, none⟩) n k1, .slice a2 m k2] 25)).alloc (.cells #[.slice none 0 0, .slice none 0 0] 25)) w.heap.size (.slice (some ⟨g1, 0, none⟩) n k1) (.slice a2 m k2) := (DM.Var.made w _ _ _).below ((Below.refl _ _).alloc (Nat.le_refl _) _)
  have V1 : DM.Var ((w.alloc (.cells #[.slice (some ⟨g1, 0, none⟩) n k1, .slice a2 m k2] 25)).alloc (.cells #[.slice none 0 0, .slice none 0 0] 25)) (w.heap.size + 1) (.slice none 0 0) (.slice none 0 0) := by
    have := DM.Var.made (w.alloc (.cells #[.slice (some ⟨g1, 0, none⟩) n k1, .slice a2 m k2] 25)) (.slice none 0 0) (.slice none 0 0) 25
    simpa using this
  have B0 : Below w.heap.size w ((w.alloc (.cells #[.slice (some ⟨g1, 0, none⟩) n k1, .slice a2 m k2] 25)).alloc (.cells #[.slice none 0 0, .slice none 0 0] 25)) := ((Below.refl _ _).alloc (Nat.le_refl _) _).alloc (by simp) _
  have HV0 := Lib.hid V0
  have HV1 := Lib.hid V1
  clear V0 V1
  go_loopw [10] (fun i wr => ∃ q : Nat, q ≤ m ∧ i = .int .i64 q ∧ DM.Var wr w.heap.size (.slice (some ⟨g1, 0, none⟩) n k1) (.slice a2 m k2) ∧ DM.Var wr (w.heap.size + 1) (.slice none 0 0) (.slice none 0 0) ∧ DM.OD wr base 9 62 (.slice (some ⟨g1, 0, none⟩) n k1) (.slice a2 m k2) ⟨DM.settleK keep d.secs d.cache q, d.cache⟩ ∧ DM.But (DM.own2 (.slice (some ⟨g1, 0, none⟩) n k1) (.slice a2 m k2)) w wr) (fun i _ => m - (intOf i).toNat)
  case atStart => exact ⟨0, Nat.zero_le _, rfl, HV0.out, HV1.out, H.out.below B0, DM.But.of_below B0⟩
  case round =>
    clear HV0 HV1 B0
    obtain ⟨q, hq, rfl, VA, VB, O, BU⟩ := hrel
    have HVA := Lib.hid VA
    have HVB := Lib.hid VB
    have HO := Lib.hid O
    have c0 := VA.c0
    have c1 := VA.c1
    have l0 := VA.lt
    have l1 := VB.lt
    clear VA VB O
    by_cases hqm : q < m
    · have hqd : q < d.cache.length := by rw [HM.out]; exact hqm
      obtain ⟨aw, cw, hev, hcw⟩ := HO.out.dv.2
      simp only [Value.slice.injEq] at hev
      obtain ⟨g2, off2, hg2, hg2l, hcs⟩ := hcw (by show 0 < d.cache.length; omega)
      rw [hg2] at hev
      obtain ⟨hev1, hev2, hev3⟩ := hev
      clear hev2 hev3 hcw hg2
      subst hev1
      have hw := hcs q hqd
      have x4 : wr.cell? ⟨g2, off2 + q * 2, none⟩ = some (.int .i64 d.cache[q].1) := hw.1
      have x5 : wr.cell? ⟨g2, off2 + q * 2 + 1, none⟩ = some (.string d.cache[q].2) := hw.2
      clear hw hcs
      have hok := HMAY.out.2.2.2 _ (List.getElem_mem hqd)
      rw [HN.out] at hok
      have hgd : d.cache.getD q (0, ⟨#[]⟩) = d.cache[q] := by simp [List.getD, hqd]
      generalize hP : d.cache[q] = P at x4 x5 hok hgd
      obtain ⟨i1, s1⟩ := P
      simp only at x4 x5
      obtain ⟨hk1, hk2, hk3⟩ := hok
      simp only at hk1 hk2 hk3
      obtain ⟨p, rfl⟩ : ∃ p : Nat, i1 = (p : Int) := ⟨i1.toNat, by omega⟩
      have HGD := Lib.hid hgd; clear hgd hP
      have hqi : (q : Int) < (m : Int) := by omega
      have BUA : DM.But (DM.own2 (.slice (some ⟨g1, 0, none⟩) n k1) (.slice (some ⟨g2, off2, none⟩) m k2)) w (wr.alloc (.cells #[.int .i64 (p : Int), .string s1] 62)) := BU.alloc _
      obtain ⟨z, hz⟩ : ∃ z, keep q = z := ⟨_, rfl⟩
      have CK := HF.out _ BUA q hqm
      rw [hz] at CK
      have HCK := Lib.hid CK; clear CK
      have HZ := Lib.hid hz; clear hz
      have HBUA := Lib.hid BUA; clear BUA
      have HBU := Lib.hid BU; clear BU
      have BA : Below wr.heap.size wr (wr.alloc (.cells #[.int .i64 (p : Int), .string s1] 62)) := (Below.refl _ _).alloc (Nat.le_refl _) _
      have HBA := Lib.hid BA; clear BA
      cases z
      · go_wp2_with fail
        refine HCK.out.mono ?_; rintro e w2 ⟨rfl, rfl⟩
        go_wp2_with fail
        go_roundw
        case rel =>
          refine ⟨q + 1, by omega, by go_num, HVA.out.below HBA.out, HVB.out.below HBA.out, ?_, HBUA.out⟩
          have : DM.settleK keep d.secs d.cache (q + 1) = DM.settleK keep d.secs d.cache q := by simp [DM.settleK, HZ.out]
          rw [this]
          exact HO.out.below HBA.out
        case measure => simp [intOf]; omega
      · have hpn : (p : Int) < (n : Int) := hk2
        have hp0 : (0 : Int) ≤ (p : Int) := hk1
        have OSEC : wr.ownsRow base 9 1 (.slice (some ⟨g1, 0, none⟩) n k1) n ((DM.settleK keep d.secs d.cache q).map Value.string) := by
          have := HO.out.secs
          rw [show (⟨DM.settleK keep d.secs d.cache q, d.cache⟩ : DM.Dk).secs.length = n from by show (DM.settleK keep d.secs d.cache q).length = n; rw [DM.settleK_length, HN.out]] at this
          exact this
        have fz' : wr.frozen? ⟨g1, p, none⟩ = false := OSEC.frozenAt p
        have xz' : ∃ v, wr.cell? ⟨g1, p, none⟩ = some v := by
          have := OSEC.cellAt p (by omega)
          rw [this]
          have hl : p < ((DM.settleK keep d.secs d.cache q).map Value.string).length := by rw [List.length_map, DM.settleK_length, HN.out]; omega
          exact ⟨_, List.getElem?_eq_getElem hl⟩
        obtain ⟨vz, xz'⟩ := xz'
        have HST := Lib.hid (OSEC.stored p (.string s1))
        clear OSEC
        have hgw : g1 < wr.heap.size := by omega
        go_wp2_with fail
        refine HCK.out.mono ?_; rintro e w2 ⟨rfl, rfl⟩
        go_wp2_with fail
        have F : DM.But (· = g1) wr ((wr.setCell ⟨g1, p, none⟩ (.string s1)).alloc (.cells #[.int .i64 (p : Int), .string s1] 62)) := ((DM.But.refl (· = g1) wr).setCell (p := ⟨g1, p, none⟩) (Or.inl rfl) _).alloc _
        have HF1 := Lib.hid F; clear F
        go_roundw
        case rel =>
          refine ⟨q + 1, by omega, by go_num, HF1.out.var HVA.out (by omega), HF1.out.var HVB.out (by omega), ?_, (HBU.out.setCell (p := ⟨g1, p, none⟩) (Or.inl (Or.inl rfl)) _).alloc _⟩
          have e1 : DM.settleK keep d.secs d.cache (q + 1) = (DM.settleK keep d.secs d.cache q).set p s1 := by simp only [DM.settleK, HZ.out, HGD.out, if_true]; rfl
          rw [e1]
          refine ⟨?_, HF1.out.owns HO.out.cache (fun g hg h => by subst h; exact hap hg), HO.out.apart⟩
          have := HST.out.1.alloc (.cells #[.int .i64 (p : Int), .string s1] 62)
          rw [← List.map_set] at this
          rw [show (⟨(DM.settleK keep d.secs d.cache q).set p s1, d.cache⟩ : DM.Dk).secs.length = n from by show ((DM.settleK keep d.secs d.cache q).set p s1).length = n; rw [List.length_set, DM.settleK_length, HN.out]]
          exact this
        case measure => simp [intOf]; omega
    · have hqq : q = m := by omega
      subst hqq
      have f1 := HVA.out.f1
      have r0 := HVB.out.c0
      have r1 := HVB.out.c1
      have g0 := HVB.out.f0
      have g1' := HVB.out.f1
      go_wp2_with fail
      refine bodyPost_ret (results_dk rfl _ _ (w.heap.size + 1) (some ⟨g1, 0, none⟩) none n k1 0 0 rfl (by go_simp) (by go_simp)) rfl ⟨rfl, ?_, ?_⟩
      · have F : DM.But (fun k => w.heap.size ≤ k) wr (((wr.setCell ⟨w.heap.size, 1, none⟩ (.slice none 0 0)).setCell ⟨w.heap.size + 1, 0, none⟩ (.slice (some ⟨g1, 0, none⟩) n k1)).setCell ⟨w.heap.size + 1, 1, none⟩ (.slice none 0 0)) :=
          (((DM.But.refl (fun k => w.heap.size ≤ k) _).setCell (p := ⟨w.heap.size, 1, none⟩) (Or.inl (Nat.le_refl _)) _).setCell (p := ⟨w.heap.size + 1, 0, none⟩) (Or.inl (Nat.le_succ _)) _).setCell (p := ⟨w.heap.size + 1, 1, none⟩) (Or.inl (Nat.le_succ _)) _
        refine ⟨?_, World.ownsRow_nil _ _ _ _, fun g _ h => by cases h⟩
        have := F.owns HO.out.secs (fun g hg h => by have := (H.out.ge g (Or.inl hg)).2; omega)
        unfold DM.settleD
        rw [HM.out]
        exact this
      · exact ((BU.setCell (p := ⟨w.heap.size, 1, none⟩) (Or.inr (Nat.le_refl _)) _).setCell (p := ⟨w.heap.size + 1, 0, none⟩) (Or.inr (Nat.le_succ _)) _).setCell (p := ⟨w.heap.size + 1, 1, none⟩) (Or.inr (Nat.le_succ _)) _
end DiskW
end Go.Proofs.Ytabmdijfholakaa
