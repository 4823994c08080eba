/- Run once more: the lists that come out have room as lists have. -/
import Derived.Test.YtabmdijfholakaaJqs17
namespace Go.Proofs.Ytabmdijfholakaa
open Go.RowKit
set_option linter.unusedVariables false
theorem DM.OD.caps {w : World} {base : Nat} {T1 T2 : TypeId} {a1 a2 : Option Addr} {n k1 m k2 : Nat} {d : DM.Dk} (h : DM.OD w base T1 T2 (.slice a1 n k1) (.slice a2 m k2) d) : n ≤ k1 ∧ k1 ≤ maxLen ∧ m ≤ k2 ∧ k2 ≤ maxLen := by
  have f : ∀ {e : TypeId} {size : Nat} {a : Option Addr} {n k j : Nat} {xs : List Value}, w.ownsRow base e size (.slice a n k) j xs → n ≤ k ∧ k ≤ maxLen := by
    intro e size a n k j xs hx
    rcases hx.2 with ⟨h1, h2⟩ | ⟨g, cap, cur, h1, h2, h3, h4, h5, h6⟩
    · simp only [Value.slice.injEq] at h1
      exact ⟨by omega, by rw [h1.2.2]; exact Nat.zero_le _⟩
    · simp only [Value.slice.injEq] at h1
      exact ⟨by omega, by rw [h1.2.2]; exact h5⟩
  exact ⟨(f h.secs).1, (f h.secs).2, (f h.cache).1, (f h.cache).2⟩
namespace DiskW
set_option maxHeartbeats 6400000 in
set_option maxRecDepth 100000 in
theorem run_cap (a1 a2 : Option Addr) (k1 k2 n m : Nat) (d : DM.Dk) (a3 : Option Addr) (k3 : Nat) (l : List DM.Ac) (x : Int) (N : Nat) (w : World) (h : DM.DV w (.slice a1 n k1) (.slice a2 m k2) d) (hn : d.secs.length = n) (hm : d.cache.length = m) (b1 : n ≤ 100000) (b2 : m ≤ 100000)
    (hl : DM.AV w (.slice a3 l.length k3) l) (b3 : l.length ≤ 100000) (hsz : ∀ a ∈ l, a.2.2.size ≤ maxLen) (hN : min (max x 0) (l.length : Int) = (N : Int)) :
    Calls Try.prog 12 #[.agg #[.slice a1 n k1, .slice a2 m k2], .slice a3 l.length k3, .int .i64 x] w fun e w' => ∃ a3 n3 k3 a4 n4 k4, e = .returned (.tuple #[.agg #[.slice a3 n3 k3, .slice a4 n4 k4], .int .i64 (DM.runE d (l.take N))]) ∧
      DM.DV w' (.slice a3 n3 k3) (.slice a4 n4 k4) (DM.runD d (l.take N)) ∧ Below w.heap.size w w' ∧ (∀ k, DM.own2 (.slice a3 n3 k3) (.slice a4 n4 k4) k → w.heap.size ≤ k) ∧ (n3 ≤ k3 ∧ k3 ≤ maxLen ∧ n4 ≤ k4 ∧ k4 ≤ maxLen) := by
  have hNl : N ≤ l.length := by omega
  obtain ⟨L, hL⟩ : ∃ L, l.take N = L := ⟨_, rfl⟩
  have hLl : L.length = N := by rw [← hL]; simp; omega
  have hLs : ∀ a ∈ L, a.2.2.size ≤ maxLen := fun a ha => hsz a (by rw [← hL] at ha; exact List.mem_of_mem_take ha)
  have hcap : l.length ≤ k3 ∧ k3 ≤ 9223372036854775807 ∧ (0 < N → ∃ b off, a3 = some ⟨b, off, none⟩ ∧ b < w.heap.size ∧ ∀ k (h : k < L.length), w.cell? ⟨b, off + k * 3, none⟩ = some (.bool L[k].1) ∧ w.cell? ⟨b, off + k * 3 + 1, none⟩ = some (.int .i64 L[k].2.1) ∧ w.cell? ⟨b, off + k * 3 + 2, none⟩ = some (.string L[k].2.2)) := by
    obtain ⟨a, c, e, g1, g2, g3⟩ := hl
    simp only [Value.slice.injEq] at e
    obtain ⟨e1, e2, e3⟩ := e
    refine ⟨by omega, by omega, fun h0 => ?_⟩
    obtain ⟨b, off, g4, g5, g6⟩ := g3 (by omega)
    refine ⟨b, off, e1.trans g4, g5, fun k hk => ?_⟩
    have := g6 k (by omega)
    have hlk : L[k] = l[k]'(by omega) := by simp only [← hL]; rw [List.getElem_take]
    rw [hlk]
    exact this
  obtain ⟨hcap1, hcap2, hacts⟩ := hcap
  rw [hL]
  clear hl hsz hL
  have C1 : Hid (∀ w', DM.DV w' (.slice a1 n k1) (.slice a2 m k2) d → Calls Try.prog 36 #[.agg #[.slice a1 n k1, .slice a2 m k2]] w' fun e w'' => ∃ a1 k1 a2 k2, e = .returned (.agg #[.slice a1 n k1, .slice a2 m k2]) ∧ DM.OD w'' w'.heap.size 9 62 (.slice a1 n k1) (.slice a2 m k2) d ∧ Below w'.heap.size w' w'') := Lib.hid (fun w' h => by
    have := clone_any _ _ d w' h (by omega) (by omega)
    rw [hn, hm] at this
    exact this)
  obtain ⟨z, hz⟩ : ∃ z, decide (DM.mayD d) = z := ⟨_, rfl⟩
  have C2 : Hid (∀ w', DM.DV w' (.slice a1 n k1) (.slice a2 m k2) d → Calls Try.prog 37 #[.agg #[.slice a1 n k1, .slice a2 m k2]] w' fun e w'' => e = .returned (.bool z) ∧ Below w'.heap.size w' w'') := Lib.hid (fun w' h => by
    have := may_any _ _ d w' h (by omega) (by omega)
    rw [hz] at this
    exact this)
  have C3 : Hid (∀ i s, s.size ≤ maxLen → DM.writeE n i s ≠ 0 → ∀ a1 k1 a2 m2 k2 w', Calls Try.prog 39 #[.agg #[.slice a1 n k1, .slice a2 m2 k2], .int .i64 i, .string s] w' fun e w'' => e = .returned (.tuple #[.agg #[.slice a1 n k1, .slice a2 m2 k2], .int .i64 (DM.writeE n i s)]) ∧ Below w'.heap.size w' w'') := Lib.hid (fun i s hs he a1 k1 a2 m2 k2 w' => write_no a1 a2 n k1 m2 k2 i s w' (by omega) hs he)
  have C4 : Hid (∀ D : DM.Dk, D.secs.length = n → ∀ i s, DM.writeE n i s = 0 → ∀ base a1 k1 a2 m2 k2 w', m2 ≤ 1000000 → DM.OD w' base 9 62 (.slice a1 n k1) (.slice a2 m2 k2) D → base ≤ w'.heap.size → Calls Try.prog 39 #[.agg #[.slice a1 n k1, .slice a2 m2 k2], .int .i64 i, .string s] w' fun e w'' => ∃ a3 k3, e = .returned (.tuple #[.agg #[.slice a1 n k1, .slice a3 (m2 + 1) k3], .int .i64 0]) ∧
      DM.OD w'' base 9 62 (.slice a1 n k1) (.slice a3 (m2 + 1) k3) (DM.addW D i s) ∧ DM.But (DM.own2 (.slice a1 n k1) (.slice a2 m2 k2)) w' w'' ∧ (∀ k, DM.own2 (.slice a1 n k1) (.slice a3 (m2 + 1) k3) k → DM.own2 (.slice a1 n k1) (.slice a2 m2 k2) k ∨ w'.heap.size ≤ k)) := Lib.hid (fun D hD i s he base a1 k1 a2 m2 k2 w' hm2 h hb => by
    obtain ⟨hi, hs⟩ := DM.writeE_ok he
    obtain rfl : D.secs.length = n := hD
    have hm2' : D.cache.length = m2 := (DM.DV.len h.dv).2
    subst hm2'
    exact write_yes base a1 a2 k1 k2 D i s w' h hb (by omega) hm2 hi hs)
  have C5 : Hid (∀ D : DM.Dk, D.secs.length = n → DM.mayD D → ∀ base a1 k1 a2 m2 k2 w', m2 ≤ 1000000 → DM.OD w' base 9 62 (.slice a1 n k1) (.slice a2 m2 k2) D → base ≤ w'.heap.size → Calls Try.prog 38 #[.agg #[.slice a1 n k1, .slice a2 m2 k2]] w' fun e w'' => e = .returned (.agg #[.slice a1 n k1, .slice none 0 0]) ∧
      DM.OD w'' base 9 62 (.slice a1 n k1) (.slice none 0 0) (DM.settleD (fun _ => true) D) ∧ DM.But (DM.own2 (.slice a1 n k1) (.slice a2 m2 k2)) w' w'') := Lib.hid (fun D hD hmay base a1 k1 a2 m2 k2 w' hm2 h hb => flush_any base a1 a2 k1 k2 n m2 D w' h hb hD (DM.DV.len h.dv).2 hmay hm2)
  have H := Lib.hid h; clear h
  have HN := Lib.hid hn; clear hn
  have HM := Lib.hid hm; clear hm
  have HLS := Lib.hid hLs; clear hLs
  have HLL := Lib.hid hLl; clear hLl
  have HACT := Lib.hid hacts; clear hacts
  have HZ := Lib.hid hz; clear hz
  obtain ⟨E, hE⟩ : ∃ E, DM.runE d L = E := ⟨_, rfl⟩
  obtain ⟨R, hR⟩ : ∃ R, DM.runD d L = R := ⟨_, rfl⟩
  rw [hE, hR]
  have HE := Lib.hid hE; clear hE
  have HR := Lib.hid hR; clear hR
  cases z
  all_goals
    go_enter Try.func12, Try.ntmps12
    go_wp2_with fail
    have V := Lib.hid (DM.Var.two w (.slice a1 n k1) (.slice a2 m k2) (.slice none 0 0) (.slice none 0 0) 25)
    have B0 := Lib.hid (DM.below_two w (.cells #[.slice a1 n k1, .slice a2 m k2] 25) (.cells #[.slice none 0 0, .slice none 0 0] 25))
    have hz0 : w.heap.size + 1 < ((w.alloc (.cells #[.slice a1 n k1, .slice a2 m k2] 25)).alloc (.cells #[.slice none 0 0, .slice none 0 0] 25)).heap.size := by simp
    generalize hW0 : (w.alloc (.cells #[.slice a1 n k1, .slice a2 m k2] 25)).alloc (.cells #[.slice none 0 0, .slice none 0 0] 25) = W0 at *
    clear hW0
    refine (C1.out _ (H.out.below B0.out)).mono ?_; rintro e w1 ⟨b1', q1, b2', q2, rfl, O1, B1⟩
    have hnot : Hid (¬ DM.own2 (.slice b1' n q1) (.slice b2' m q2) w1.heap.size) := Lib.hid (fun h => by have := (O1.ge _ h).2; omega)
    have O1 := Lib.hid O1
    have A1 := Lib.hid (V.out.1.below B1)
    have R1 := Lib.hid (V.out.2.below B1)
    have BW1 : Below w.heap.size w w1 := B0.out.trans (B1.mono B0.out.size)
    have D1 := Lib.hid (H.out.below BW1)
    have c0 := A1.out.c0
    have c1 := A1.out.c1
    have l0 := A1.out.lt
    have z1 := B1.size
    have HB1 := Lib.hid B1; clear B1
    go_wp2_with fail
    have BA : Below w1.heap.size w1 (w1.alloc (.cells #[.slice b1' n q1, .slice b2' m q2] 25)) := (Below.refl _ _).alloc (Nat.le_refl _) _
    refine (C2.out _ (D1.out.below BA)).mono ?_; rintro e w2 ⟨rfl, B2⟩
    have O2 := Lib.hid ((O1.out.below BA).below B2)
    have A2 := Lib.hid ((A1.out.below BA).below B2)
    have R2 := Lib.hid ((R1.out.below BA).below B2)
    have S2 := Lib.hid ((DM.Var.made w1 (.slice b1' n q1) (.slice b2' m q2) 25).below B2)
    have BW2 : Below w.heap.size w w2 := (BW1.trans (BA.mono BW1.size)).trans (B2.mono (by have := BW1.size; simp; omega))
    have z2 : W0.heap.size ≤ w2.heap.size := by have := B2.size; simp at this; omega
    have s0 := S2.out.c0
    have s1 := S2.out.c1
    have r0 := R2.out.c0
    have r1 := R2.out.c1
    have g0 := R2.out.f0
    have g1 := R2.out.f1
    have l2 := S2.out.lt
    have l3 := R2.out.lt
    clear B2 BA c0 c1 l0 D1 O1 A1 R1
  · have eE : E = 1 := by rw [← HE.out]; exact if_neg (of_decide_eq_false HZ.out)
    have eR : R = d := by rw [← HR.out]; exact if_neg (fun h => of_decide_eq_false HZ.out h.1)
    subst eE eR
    go_wp2_with fail
    refine bodyPost_ret (results_dke rfl _ _ (w.heap.size + 1) b1' b2' n q1 m q2 rfl (by go_simp) (by go_simp)) rfl ⟨b1', n, q1, b2', m, q2, rfl, ?_, ?_, ?_, ?_⟩
    · exact DM.DV.but O2.out (DM.set2 (B := w.heap.size + 1) (u := .slice b1' n q1) (v := .slice b2' m q2)) (fun k hk => by omega)
    · exact (BW2.setCell (by simp) _).setCell (by simp) _
    · exact fun j hj => by have := (O2.out.ge j hj).1; omega
    · exact DM.OD.caps O2.out
  · have HMAY : Hid (DM.mayD d) := Lib.hid (of_decide_eq_true HZ.out)
    have hNi : (N : Int) ≤ (l.length : Int) := by omega
    have hNk : (N : Int) ≤ (k3 : Int) := by omega
    clear s0 s1 r0 r1 g0 g1
    go_wp2_with fail
    go_loopw [26] (fun i wr => ∃ k : Nat, k ≤ N ∧ i = .int .i64 k ∧ (∀ j (h : j < L.length), j < k → DM.actOk n L[j]) ∧ DM.Var wr w.heap.size (.slice a1 n k1) (.slice a2 m k2) ∧ DM.Var wr (w.heap.size + 1) (.slice none 0 0) (.slice none 0 0) ∧
      (∃ p1 t1 p2 m2 t2, DM.Var wr w1.heap.size (.slice p1 n t1) (.slice p2 m2 t2) ∧ DM.OD wr W0.heap.size 9 62 (.slice p1 n t1) (.slice p2 m2 t2) (DM.runK d (L.take k)) ∧ ¬ DM.own2 (.slice p1 n t1) (.slice p2 m2 t2) w1.heap.size) ∧ Below w.heap.size w wr) (fun i _ => N - (intOf i).toNat)
    case atStart => exact ⟨0, Nat.zero_le _, rfl, fun j _ h => by omega, A2.out, R2.out, ⟨_, _, _, _, _, S2.out, O2.out, hnot.out⟩, BW2⟩
    case round =>
      clear A2 R2 S2 O2 hnot BW2 l2 l3 z2
      obtain ⟨k, hk, rfl, hall, VA, VR, ⟨p1, t1, p2, m2, t2, VS, O, hno⟩, BU⟩ := hrel
      have HALL := Lib.hid hall; clear hall
      have HVA := Lib.hid VA
      have HVR := Lib.hid VR
      have HVS := Lib.hid VS
      have HO := Lib.hid O
      have HNO := Lib.hid hno; clear hno
      have hm2 : m2 ≤ 200000 := by
        have h1 := (DM.DV.len O.dv).2
        have h2 := DM.runK_cache d (L.take k)
        have h3 := HM.out
        have h4 : (L.take k).length ≤ N := by simp; omega
        omega
      have HD : Hid ((DM.runK d (L.take k)).secs.length = n) := Lib.hid (by rw [DM.runK_len, HN.out])
      have s0 := VS.c0
      have s1 := VS.c1
      have sf0 := VS.f0
      have sf1 := VS.f1
      have ls := VS.lt
      clear VA VR VS O
      by_cases hkN : k < N
      · have hkL : k < L.length := by rw [HLL.out]; exact hkN
        obtain ⟨g, off, rfl, hg, hcs⟩ := HACT.out (by omega)
        have x0 : wr.cell? ⟨g, off + k * 3, none⟩ = some (.bool L[k].1) := (BU.cell (p := ⟨g, off + k * 3, none⟩) hg).trans (hcs k hkL).1
        have x1 : wr.cell? ⟨g, off + k * 3 + 1, none⟩ = some (.int .i64 L[k].2.1) := (BU.cell (p := ⟨g, off + k * 3 + 1, none⟩) hg).trans (hcs k hkL).2.1
        have x2 : wr.cell? ⟨g, off + k * 3 + 2, none⟩ = some (.string L[k].2.2) := (BU.cell (p := ⟨g, off + k * 3 + 2, none⟩) hg).trans (hcs k hkL).2.2
        have hsn := DM.runK_snoc d L k hkL
        have hss := HLS.out _ (List.getElem_mem hkL)
        have hbad : ¬ DM.actOk n L[k] → DM.actsE n L = DM.writeE n L[k].2.1 L[k].2.2 ∧ DM.actsE n L ≠ 0 := DM.actsE_bad n L k hkL HALL.out
        have hpre : ∀ a ∈ L.take k, DM.actOk n a := fun a ha => by
          obtain ⟨j, hj, rfl⟩ := List.getElem_of_mem ha
          have hj' : j < k ∧ j < L.length := by simp at hj; omega
          rw [List.getElem_take]
          exact HALL.out j hj'.2 hj'.1
        have HMK : Hid (DM.mayD (DM.runK d (L.take k))) := Lib.hid (DM.may_run HMAY.out (fun a ha => by rw [HN.out]; exact hpre a ha))
        have hki : (k : Int) < (N : Int) := by omega
        clear hcs hpre
        obtain ⟨P, hP⟩ : ∃ P, L[k] = P := ⟨_, rfl⟩
        rw [hP] at x0 x1 x2 hsn hss hbad
        have HP := Lib.hid hP; clear hP
        obtain ⟨f, i, s⟩ := P
        simp only at x0 x1 x2 hss hbad
        have HSN := Lib.hid hsn; clear hsn
        have HBAD := Lib.hid hbad; clear hbad
        have HSS := Lib.hid hss; clear hss
        have BA : Below wr.heap.size wr (wr.alloc (.cells #[.bool f, .int .i64 i, .string s] 82)) := (Below.refl _ _).alloc (Nat.le_refl _) _
        have HBA := Lib.hid BA; clear BA
        have zW : W0.heap.size ≤ wr.heap.size := by omega
        cases f
        · by_cases he : DM.writeE n i s = 0
          · have HE0 := Lib.hid he; clear he
            go_wp2_with fail
            refine (C4.out _ HD.out i s HE0.out W0.heap.size p1 t1 p2 m2 t2 _ (by omega) (HO.out.below HBA.out) (by simp; omega)).mono ?_; rintro e w3 ⟨p3, t3, rfl, O3, BU3, hsub⟩
            have hb : ∀ b, b < W0.heap.size → ¬ DM.own2 (.slice p1 n t1) (.slice p2 m2 t2) b := fun b hb h => by have := (HO.out.ge b h).1; omega
            have HVA3 := Lib.hid (BU3.var (HVA.out.below HBA.out) (hb _ (by omega)))
            have HVR3 := Lib.hid (BU3.var (HVR.out.below HBA.out) (hb _ (by omega)))
            have HVS3 := Lib.hid (BU3.var (HVS.out.below HBA.out) HNO.out)
            have hno3 : Hid (¬ DM.own2 (.slice p1 n t1) (.slice p3 (m2 + 1) t3) w1.heap.size) := Lib.hid (fun h => by
              rcases hsub _ h with h1 | h1
              · exact HNO.out h1
              · simp at h1; omega)
            have HO3 := Lib.hid O3
            have BW3 : Below w.heap.size w w3 := (BU.trans (HBA.out.mono BU.size)).trans (BU3.to_below (by have := BU.size; simp; omega) (fun j hj => by have := (HO.out.ge j hj).1; omega))
            clear hsub BU3 O3 hb s0 s1 sf0 sf1 x0 x1 x2
            have s0 := HVS3.out.c0
            have s1 := HVS3.out.c1
            have sf0 := HVS3.out.f0
            have sf1 := HVS3.out.f1
            go_wp2_with fail
            have F := Lib.hid (DM.set2 (w := w3) (B := w1.heap.size) (u := .slice p1 n t1) (v := .slice p3 (m2 + 1) t3))
            go_roundw
            case rel =>
              refine ⟨k + 1, by omega, by go_num, fun j hj hjk => ?_, F.out.var HVA3.out (by omega), F.out.var HVR3.out (by omega), ⟨p1, t1, p3, m2 + 1, t3, HVS3.out.set2, ?_, hno3.out⟩, (BW3.setCell (by show w.heap.size ≤ w1.heap.size; omega) _).setCell (by show w.heap.size ≤ w1.heap.size; omega) _⟩
              · by_cases e : j = k
                · subst e; rw [HP.out]; exact Or.inr HE0.out
                · exact HALL.out j hj (by omega)
              · rw [HSN.out]
                exact HO3.out.but F.out (fun b hb e => by subst e; exact hno3.out hb)
            case measure => simp [intOf]; omega
          · have HE0 := Lib.hid he; clear he
            go_wp2_with fail
            refine (C3.out i s HSS.out HE0.out p1 t1 p2 m2 t2 _).mono ?_; rintro e w3 ⟨rfl, B3⟩
            have eE : E = DM.writeE n i s ∧ DM.actsE n L ≠ 0 := by
              have hb := HBAD.out (fun h => by rcases h with h | h; cases h; exact HE0.out h)
              refine ⟨?_, hb.2⟩
              rw [← HE.out]; unfold DM.runE; rw [if_pos HMAY.out, HN.out]; exact hb.1
            have eR : R = d := by rw [← HR.out]; exact if_neg (fun h => eE.2 (by have := h.2; rw [HN.out] at this; exact this))
            rw [← eE.1]
            have e0 : (E == 0) = false := by have := HE0.out; rw [← eE.1] at this; simpa using this
            have HER := Lib.hid eR; clear eR eE
            have HVA3 := Lib.hid ((HVA.out.below HBA.out).below B3)
            have HVR3 := Lib.hid ((HVR.out.below HBA.out).below B3)
            have HVS3 := Lib.hid ((HVS.out.below HBA.out).below B3)
            have BW3 : Below w.heap.size w w3 := (BU.trans (HBA.out.mono BU.size)).trans (B3.mono (by have := BU.size; simp; omega))
            clear B3 s0 s1 sf0 sf1 x0 x1 x2
            have s0 := HVS3.out.c0
            have s1 := HVS3.out.c1
            have sf0 := HVS3.out.f0
            have sf1 := HVS3.out.f1
            have v0 := HVA3.out.c0
            have v1 := HVA3.out.c1
            have lv := HVA3.out.lt
            have ls3 := HVS3.out.lt
            go_wp2_with fail
            have F := Lib.hid (DM.set2 (w := w3) (B := w1.heap.size) (u := .slice p1 n t1) (v := .slice p2 m2 t2))
            have BW4 : Below w.heap.size w ((w3.setCell ⟨w1.heap.size, 0, none⟩ (.slice p1 n t1)).setCell ⟨w1.heap.size, 1, none⟩ (.slice p2 m2 t2)) := (BW3.setCell (by show w.heap.size ≤ w1.heap.size; omega) _).setCell (by show w.heap.size ≤ w1.heap.size; omega) _
            have HVR4 := Lib.hid (F.out.var HVR3.out (by omega))
            refine (C1.out _ (H.out.below BW4)).mono ?_; rintro e w5 ⟨b5, q5, b6, q6, rfl, O5, B5⟩
            have O5 := Lib.hid O5
            have HVR5 := Lib.hid (HVR4.out.below B5)
            have BW5 : Below w.heap.size w w5 := BW4.trans (B5.mono BW4.size)
            have zz : w.heap.size + 1 < ((w3.setCell ⟨w1.heap.size, 0, none⟩ (.slice p1 n t1)).setCell ⟨w1.heap.size, 1, none⟩ (.slice p2 m2 t2)).heap.size := HVR4.out.lt
            clear B5 s0 s1 sf0 sf1 v0 v1
            have r0 := HVR5.out.c0
            have r1 := HVR5.out.c1
            have rf0 := HVR5.out.f0
            have rf1 := HVR5.out.f1
            go_wp2_with fail
            refine bodyPost_ret (results_dke rfl _ _ (w.heap.size + 1) b5 b6 n q5 m q6 rfl (by go_simp) (by go_simp)) rfl ⟨b5, n, q5, b6, m, q6, rfl, ?_, ?_, ?_, ?_⟩
            · rw [HER.out]
              exact DM.DV.but O5.out (DM.set2 (B := w.heap.size + 1) (u := .slice b5 n q5) (v := .slice b6 m q6)) (fun j hj => by omega)
            · exact (BW5.setCell (by simp) _).setCell (by simp) _
            · exact fun j hj => by have := (O5.out.ge j hj).1; omega
            · exact DM.OD.caps O5.out
        · go_wp2_with fail
          refine (C5.out _ HD.out HMK.out W0.heap.size p1 t1 p2 m2 t2 _ (by omega) (HO.out.below HBA.out) (by simp; omega)).mono ?_; rintro e w3 ⟨rfl, O3, BU3⟩
          have hb : ∀ b, b < W0.heap.size → ¬ DM.own2 (.slice p1 n t1) (.slice p2 m2 t2) b := fun b hb h => by have := (HO.out.ge b h).1; omega
          have HVA3 := Lib.hid (BU3.var (HVA.out.below HBA.out) (hb _ (by omega)))
          have HVR3 := Lib.hid (BU3.var (HVR.out.below HBA.out) (hb _ (by omega)))
          have HVS3 := Lib.hid (BU3.var (HVS.out.below HBA.out) HNO.out)
          have hno3 : Hid (¬ DM.own2 (.slice p1 n t1) (.slice none 0 0) w1.heap.size) := Lib.hid (fun h => by
            rcases h with h1 | h1
            · exact HNO.out (Or.inl h1)
            · cases h1)
          have HO3 := Lib.hid O3
          have BW3 : Below w.heap.size w w3 := (BU.trans (HBA.out.mono BU.size)).trans (BU3.to_below (by have := BU.size; simp; omega) (fun j hj => by have := (HO.out.ge j hj).1; omega))
          clear BU3 O3 hb s0 s1 sf0 sf1 x0 x1 x2
          have s0 := HVS3.out.c0
          have s1 := HVS3.out.c1
          have sf0 := HVS3.out.f0
          have sf1 := HVS3.out.f1
          go_wp2_with fail
          have F := Lib.hid (DM.set2 (w := w3) (B := w1.heap.size) (u := .slice p1 n t1) (v := .slice none 0 0))
          go_roundw
          case rel =>
            refine ⟨k + 1, by omega, by go_num, fun j hj hjk => ?_, F.out.var HVA3.out (by omega), F.out.var HVR3.out (by omega), ⟨p1, t1, none, 0, 0, HVS3.out.set2, ?_, hno3.out⟩, (BW3.setCell (by show w.heap.size ≤ w1.heap.size; omega) _).setCell (by show w.heap.size ≤ w1.heap.size; omega) _⟩
            · by_cases e : j = k
              · subst e; rw [HP.out]; exact Or.inl rfl
              · exact HALL.out j hj (by omega)
            · rw [HSN.out]
              exact HO3.out.but F.out (fun b hb e => by subst e; exact hno3.out hb)
          case measure => simp [intOf]; omega
      · have hkk : k = N := by omega
        subst hkk
        have hall : ∀ a ∈ L, DM.actOk n a := fun a ha => by
          obtain ⟨j, hj, rfl⟩ := List.getElem_of_mem ha
          exact HALL.out j hj (by rw [← HLL.out]; exact hj)
        have h0 := DM.actsE_good n L hall
        have eE : E = 0 := by rw [← HE.out]; unfold DM.runE; rw [if_pos HMAY.out, HN.out]; exact h0
        have eR : R = DM.runK d (L.take k) := by
          rw [← HR.out, List.take_of_length_le (by rw [HLL.out]; exact Nat.le_refl _)]
          exact if_pos ⟨HMAY.out, by rw [HN.out]; exact h0⟩
        have HER := Lib.hid eR
        subst eE
        clear eR hall h0 sf0 sf1
        have r0 := HVR.out.c0
        have r1 := HVR.out.c1
        have rf0 := HVR.out.f0
        have rf1 := HVR.out.f1
        go_wp2_with fail
        refine bodyPost_ret (results_dke rfl _ _ (w.heap.size + 1) p1 p2 n t1 m2 t2 rfl (by go_simp) (by go_simp)) rfl ⟨p1, n, t1, p2, m2, t2, rfl, ?_, ?_, ?_, ?_⟩
        · rw [HER.out]
          exact DM.DV.but HO.out (DM.set2 (B := w.heap.size + 1) (u := .slice p1 n t1) (v := .slice p2 m2 t2)) (fun j hj => by omega)
        · exact (BU.setCell (by simp) _).setCell (by simp) _
        · exact fun j hj => by have := (HO.out.ge j hj).1; omega
        · exact DM.OD.caps HO.out
end DiskW
end Go.Proofs.Ytabmdijfholakaa
