/- One text of DiskX, Glue1, Glue2, Ref3, Ref4, Ref5, Ref7, DiskW, Glue3 (mk/merge.py). -/
import Derived.Test.YtnoegkhkeeameaaDiskT
import Derived.Test.YtnoegkhkeeameaaRef2
import Derived.Test.YtnoegkhkeeameaaDiskS
import Derived.Test.YtnoegkhkeeameaaDiskL
import Derived.Test.YtnoegkhkeeameaaDiskN
import Derived.Test.YtnoegkhkeeameaaDiskO
import Derived.Test.YtnoegkhkeeameaaDiskU
import Derived.Test.YtnoegkhkeeameaaDiskP
import Derived.Test.YtnoegkhkeeameaaDiskJ
/- Run once more: the lists that come out have room as lists have. -/
namespace Go.Proofs.Ytnoegkhkeeameaa
open Go.RowKit
set_option linter.unusedVariables false
theorem DM.OD.caps {w : World} {base : Nat} {T1 T2 : TypeId} {a1 a2 : Option Addr} {n k1 m k2 : Nat} {d : DM.Dk} (h : DM.OD w base T1 T2 (.slice a1 n k1) (.slice a2 m k2) d) : n ≤ k1 ∧ k1 ≤ maxLen ∧ m ≤ k2 ∧ k2 ≤ maxLen := by
  have f : ∀ {e : TypeId} {size : Nat} {a : Option Addr} {n k j : Nat} {xs : List Value}, w.ownsRow base e size (.slice a n k) j xs → n ≤ k ∧ k ≤ maxLen := by
    intro e size a n k j xs hx
    rcases hx.2 with ⟨h1, h2⟩ | ⟨g, cap, cur, h1, h2, h3, h4, h5, h6⟩
    · simp only [Value.slice.injEq] at h1
      exact ⟨by omega, by rw [h1.2.2]; exact Nat.zero_le _⟩
    · simp only [Value.slice.injEq] at h1
      exact ⟨by omega, by rw [h1.2.2]; exact h5⟩
  exact ⟨(f h.secs).1, (f h.secs).2, (f h.cache).1, (f h.cache).2⟩
namespace DiskW
set_option maxHeartbeats 6400000 in
set_option maxRecDepth 100000 in
theorem run_cap (a1 a2 : Option Addr) (k1 k2 n m : Nat) (d : DM.Dk) (a3 : Option Addr) (k3 : Nat) (l : List DM.Ac) (x : Int) (N : Nat) (w : World) (h : DM.DV w (.slice a1 n k1) (.slice a2 m k2) d) (hn : d.secs.length = n) (hm : d.cache.length = m) (b1 : n ≤ 100000) (b2 : m ≤ 100000)
    (hl : DM.AV w (.slice a3 l.length k3) l) (b3 : l.length ≤ 100000) (hsz : ∀ a ∈ l, a.2.2.size ≤ maxLen) (hN : min (max x 0) (l.length : Int) = (N : Int)) :
    Calls Try.prog 14 #[.agg #[.slice a1 n k1, .slice a2 m k2], .slice a3 l.length k3, .int .i64 x] w fun e w' => ∃ a3 n3 k3 a4 n4 k4, e = .returned (.tuple #[.agg #[.slice a3 n3 k3, .slice a4 n4 k4], .int .i64 (DM.runE d (l.take N))]) ∧
      DM.DV w' (.slice a3 n3 k3) (.slice a4 n4 k4) (DM.runD d (l.take N)) ∧ Below w.heap.size w w' ∧ (∀ k, DM.own2 (.slice a3 n3 k3) (.slice a4 n4 k4) k → w.heap.size ≤ k) ∧ (n3 ≤ k3 ∧ k3 ≤ maxLen ∧ n4 ≤ k4 ∧ k4 ≤ maxLen) := by
  have hNl : N ≤ l.length := by omega
  obtain ⟨L, hL⟩ : ∃ L, l.take N = L := ⟨_, rfl⟩
  have hLl : L.length = N := by rw [← hL]; simp; omega
  have hLs : ∀ a ∈ L, a.2.2.size ≤ maxLen := fun a ha => hsz a (by rw [← hL] at ha; exact List.mem_of_mem_take ha)
  have hcap : l.length ≤ k3 ∧ k3 ≤ 9223372036854775807 ∧ (0 < N → ∃ b off, a3 = some ⟨b, off, none⟩ ∧ b < w.heap.size ∧ ∀ k (h : k < L.length), w.cell? ⟨b, off + k * 3, none⟩ = some (.bool L[k].1) ∧ w.cell? ⟨b, off + k * 3 + 1, none⟩ = some (.int .i64 L[k].2.1) ∧ w.cell? ⟨b, off + k * 3 + 2, none⟩ = some (.string L[k].2.2)) := by
    obtain ⟨a, c, e, g1, g2, g3⟩ := hl
    simp only [Value.slice.injEq] at e
    obtain ⟨e1, e2, e3⟩ := e
    refine ⟨by omega, by omega, fun h0 => ?_⟩
    obtain ⟨b, off, g4, g5, g6⟩ := g3 (by omega)
    refine ⟨b, off, e1.trans g4, g5, fun k hk => ?_⟩
    have := g6 k (by omega)
    have hlk : L[k] = l[k]'(by omega) := by simp only [← hL]; rw [List.getElem_take]
    rw [hlk]
    exact this
  obtain ⟨hcap1, hcap2, hacts⟩ := hcap
  rw [hL]
  clear hl hsz hL
  have C1 : Hid (∀ w', DM.DV w' (.slice a1 n k1) (.slice a2 m k2) d → Calls Try.prog 48 #[.agg #[.slice a1 n k1, .slice a2 m k2]] w' fun e w'' => ∃ a1 k1 a2 k2, e = .returned (.agg #[.slice a1 n k1, .slice a2 m k2]) ∧ DM.OD w'' w'.heap.size 9 62 (.slice a1 n k1) (.slice a2 m k2) d ∧ Below w'.heap.size w' w'') := Lib.hid (fun w' h => by
    have := clone_any _ _ d w' h (by omega) (by omega)
    rw [hn, hm] at this
    exact this)
  obtain ⟨z, hz⟩ : ∃ z, decide (DM.mayD d) = z := ⟨_, rfl⟩
  have C2 : Hid (∀ w', DM.DV w' (.slice a1 n k1) (.slice a2 m k2) d → Calls Try.prog 30 #[.agg #[.slice a1 n k1, .slice a2 m k2]] w' fun e w'' => e = .returned (.bool z) ∧ Below w'.heap.size w' w'') := Lib.hid (fun w' h => by
    have := may_any _ _ d w' h (by omega) (by omega)
    rw [hz] at this
    exact this)
  have C3 : Hid (∀ i s, s.size ≤ maxLen → DM.writeE n i s ≠ 0 → ∀ a1 k1 a2 m2 k2 w', Calls Try.prog 50 #[.agg #[.slice a1 n k1, .slice a2 m2 k2], .int .i64 i, .string s] w' fun e w'' => e = .returned (.tuple #[.agg #[.slice a1 n k1, .slice a2 m2 k2], .int .i64 (DM.writeE n i s)]) ∧ Below w'.heap.size w' w'') := Lib.hid (fun i s hs he a1 k1 a2 m2 k2 w' => write_no a1 a2 n k1 m2 k2 i s w' (by omega) hs he)
  have C4 : Hid (∀ D : DM.Dk, D.secs.length = n → ∀ i s, DM.writeE n i s = 0 → ∀ base a1 k1 a2 m2 k2 w', m2 ≤ 1000000 → DM.OD w' base 9 62 (.slice a1 n k1) (.slice a2 m2 k2) D → base ≤ w'.heap.size → Calls Try.prog 50 #[.agg #[.slice a1 n k1, .slice a2 m2 k2], .int .i64 i, .string s] w' fun e w'' => ∃ a3 k3, e = .returned (.tuple #[.agg #[.slice a1 n k1, .slice a3 (m2 + 1) k3], .int .i64 0]) ∧
      DM.OD w'' base 9 62 (.slice a1 n k1) (.slice a3 (m2 + 1) k3) (DM.addW D i s) ∧ DM.But (DM.own2 (.slice a1 n k1) (.slice a2 m2 k2)) w' w'' ∧ (∀ k, DM.own2 (.slice a1 n k1) (.slice a3 (m2 + 1) k3) k → DM.own2 (.slice a1 n k1) (.slice a2 m2 k2) k ∨ w'.heap.size ≤ k)) := Lib.hid (fun D hD i s he base a1 k1 a2 m2 k2 w' hm2 h hb => by
    obtain ⟨hi, hs⟩ := DM.writeE_ok he
    obtain rfl : D.secs.length = n := hD
    have hm2' : D.cache.length = m2 := (DM.DV.len h.dv).2
    subst hm2'
    exact write_yes base a1 a2 k1 k2 D i s w' h hb (by omega) hm2 hi hs)
  have C5 : Hid (∀ D : DM.Dk, D.secs.length = n → DM.mayD D → ∀ base a1 k1 a2 m2 k2 w', m2 ≤ 1000000 → DM.OD w' base 9 62 (.slice a1 n k1) (.slice a2 m2 k2) D → base ≤ w'.heap.size → Calls Try.prog 49 #[.agg #[.slice a1 n k1, .slice a2 m2 k2]] w' fun e w'' => e = .returned (.agg #[.slice a1 n k1, .slice none 0 0]) ∧
      DM.OD w'' base 9 62 (.slice a1 n k1) (.slice none 0 0) (DM.settleD (fun _ => true) D) ∧ DM.But (DM.own2 (.slice a1 n k1) (.slice a2 m2 k2)) w' w'') := Lib.hid (fun D hD hmay base a1 k1 a2 m2 k2 w' hm2 h hb => flush_any base a1 a2 k1 k2 n m2 D w' h hb hD (DM.DV.len h.dv).2 hmay hm2)
  have H := Lib.hid h; clear h
  have HN := Lib.hid hn; clear hn
  have HM := Lib.hid hm; clear hm
  have HLS := Lib.hid hLs; clear hLs
  have HLL := Lib.hid hLl; clear hLl
  have HACT := Lib.hid hacts; clear hacts
  have HZ := Lib.hid hz; clear hz
  obtain ⟨E, hE⟩ : ∃ E, DM.runE d L = E := ⟨_, rfl⟩
  obtain ⟨R, hR⟩ : ∃ R, DM.runD d L = R := ⟨_, rfl⟩
  rw [hE, hR]
  have HE := Lib.hid hE; clear hE
  have HR := Lib.hid hR; clear hR
  cases z
  all_goals
    go_enter Try.func14, Try.ntmps14
    go_wp2_with fail
    have V := Lib.hid (DM.Var.two w (.slice a1 n k1) (.slice a2 m k2) (.slice none 0 0) (.slice none 0 0) 25)
    have B0 := Lib.hid (DM.below_two w (.cells #[.slice a1 n k1, .slice a2 m k2] 25) (.cells #[.slice none 0 0, .slice none 0 0] 25))
    have hz0 : w.heap.size + 1 < ((w.alloc (.cells #[.slice a1 n k1, .slice a2 m k2] 25)).alloc (.cells #[.slice none 0 0, .slice none 0 0] 25)).heap.size := by simp
    generalize hW0 : (w.alloc (.cells #[.slice a1 n k1, .slice a2 m k2] 25)).alloc (.cells #[.slice none 0 0, .slice none 0 0] 25) = W0 at *
    clear hW0
    refine (C1.out _ (H.out.below B0.out)).mono ?_; rintro e w1 ⟨b1', q1, b2', q2, rfl, O1, B1⟩
    have hnot : Hid (¬ DM.own2 (.slice b1' n q1) (.slice b2' m q2) w1.heap.size) := Lib.hid (fun h => by have := (O1.ge _ h).2; omega)
    have O1 := Lib.hid O1
    have A1 := Lib.hid (V.out.1.below B1)
    have R1 := Lib.hid (V.out.2.below B1)
    have BW1 : Below w.heap.size w w1 := B0.out.trans (B1.mono B0.out.size)
    have D1 := Lib.hid (H.out.below BW1)
    have c0 := A1.out.c0
    have c1 := A1.out.c1
    have l0 := A1.out.lt
    have z1 := B1.size
    have HB1 := Lib.hid B1; clear B1
    go_wp2_with fail
    have BA : Below w1.heap.size w1 (w1.alloc (.cells #[.slice b1' n q1, .slice b2' m q2] 25)) := (Below.refl _ _).alloc (Nat.le_refl _) _
    refine (C2.out _ (D1.out.below BA)).mono ?_; rintro e w2 ⟨rfl, B2⟩
    have O2 := Lib.hid ((O1.out.below BA).below B2)
    have A2 := Lib.hid ((A1.out.below BA).below B2)
    have R2 := Lib.hid ((R1.out.below BA).below B2)
    have S2 := Lib.hid ((DM.Var.made w1 (.slice b1' n q1) (.slice b2' m q2) 25).below B2)
    have BW2 : Below w.heap.size w w2 := (BW1.trans (BA.mono BW1.size)).trans (B2.mono (by have := BW1.size; simp; omega))
    have z2 : W0.heap.size ≤ w2.heap.size := by have := B2.size; simp at this; omega
    have s0 := S2.out.c0
    have s1 := S2.out.c1
    have r0 := R2.out.c0
    have r1 := R2.out.c1
    have g0 := R2.out.f0
    have g1 := R2.out.f1
    have l2 := S2.out.lt
    have l3 := R2.out.lt
    clear B2 BA c0 c1 l0 D1 O1 A1 R1
  · have eE : E = 1 := by rw [← HE.out]; exact if_neg (of_decide_eq_false HZ.out)
    have eR : R = d := by rw [← HR.out]; exact if_neg (fun h => of_decide_eq_false HZ.out h.1)
    subst eE eR
    go_wp2_with fail
    refine bodyPost_ret (results_dke rfl _ _ (w.heap.size + 1) b1' b2' n q1 m q2 rfl (by go_simp) (by go_simp)) rfl ⟨b1', n, q1, b2', m, q2, rfl, ?_, ?_, ?_, ?_⟩
    · exact DM.DV.but O2.out (DM.set2 (B := w.heap.size + 1) (u := .slice b1' n q1) (v := .slice b2' m q2)) (fun k hk => by omega)
    · exact (BW2.setCell (by simp) _).setCell (by simp) _
    · exact fun j hj => by have := (O2.out.ge j hj).1; omega
    · exact DM.OD.caps O2.out
  · have HMAY : Hid (DM.mayD d) := Lib.hid (of_decide_eq_true HZ.out)
    have hNi : (N : Int) ≤ (l.length : Int) := by omega
    have hNk : (N : Int) ≤ (k3 : Int) := by omega
    clear s0 s1 r0 r1 g0 g1
    go_wp2_with fail
    go_loopw [26] (fun i wr => ∃ k : Nat, k ≤ N ∧ i = .int .i64 k ∧ (∀ j (h : j < L.length), j < k → DM.actOk n L[j]) ∧ DM.Var wr w.heap.size (.slice a1 n k1) (.slice a2 m k2) ∧ DM.Var wr (w.heap.size + 1) (.slice none 0 0) (.slice none 0 0) ∧
      (∃ p1 t1 p2 m2 t2, DM.Var wr w1.heap.size (.slice p1 n t1) (.slice p2 m2 t2) ∧ DM.OD wr W0.heap.size 9 62 (.slice p1 n t1) (.slice p2 m2 t2) (DM.runK d (L.take k)) ∧ ¬ DM.own2 (.slice p1 n t1) (.slice p2 m2 t2) w1.heap.size) ∧ Below w.heap.size w wr) (fun i _ => N - (intOf i).toNat)
    case atStart => exact ⟨0, Nat.zero_le _, rfl, fun j _ h => by omega, A2.out, R2.out, ⟨_, _, _, _, _, S2.out, O2.out, hnot.out⟩, BW2⟩
    case round =>
      clear A2 R2 S2 O2 hnot BW2 l2 l3 z2
      obtain ⟨k, hk, rfl, hall, VA, VR, ⟨p1, t1, p2, m2, t2, VS, O, hno⟩, BU⟩ := hrel
      have HALL := Lib.hid hall; clear hall
      have HVA := Lib.hid VA
      have HVR := Lib.hid VR
      have HVS := Lib.hid VS
      have HO := Lib.hid O
      have HNO := Lib.hid hno; clear hno
      have hm2 : m2 ≤ 200000 := by
        have h1 := (DM.DV.len O.dv).2
        have h2 := DM.runK_cache d (L.take k)
        have h3 := HM.out
        have h4 : (L.take k).length ≤ N := by simp; omega
        omega
      have HD : Hid ((DM.runK d (L.take k)).secs.length = n) := Lib.hid (by rw [DM.runK_len, HN.out])
      have s0 := VS.c0
      have s1 := VS.c1
      have sf0 := VS.f0
      have sf1 := VS.f1
      have ls := VS.lt
      clear VA VR VS O
      by_cases hkN : k < N
      · have hkL : k < L.length := by rw [HLL.out]; exact hkN
        obtain ⟨g, off, rfl, hg, hcs⟩ := HACT.out (by omega)
        have x0 : wr.cell? ⟨g, off + k * 3, none⟩ = some (.bool L[k].1) := (BU.cell (p := ⟨g, off + k * 3, none⟩) hg).trans (hcs k hkL).1
        have x1 : wr.cell? ⟨g, off + k * 3 + 1, none⟩ = some (.int .i64 L[k].2.1) := (BU.cell (p := ⟨g, off + k * 3 + 1, none⟩) hg).trans (hcs k hkL).2.1
        have x2 : wr.cell? ⟨g, off + k * 3 + 2, none⟩ = some (.string L[k].2.2) := (BU.cell (p := ⟨g, off + k * 3 + 2, none⟩) hg).trans (hcs k hkL).2.2
        have hsn := DM.runK_snoc d L k hkL
        have hss := HLS.out _ (List.getElem_mem hkL)
        have hbad : ¬ DM.actOk n L[k] → DM.actsE n L = DM.writeE n L[k].2.1 L[k].2.2 ∧ DM.actsE n L ≠ 0 := DM.actsE_bad n L k hkL HALL.out
        have hpre : ∀ a ∈ L.take k, DM.actOk n a := fun a ha => by
          obtain ⟨j, hj, rfl⟩ := List.getElem_of_mem ha
          have hj' : j < k ∧ j < L.length := by simp at hj; omega
          rw [List.getElem_take]
          exact HALL.out j hj'.2 hj'.1
        have HMK : Hid (DM.mayD (DM.runK d (L.take k))) := Lib.hid (DM.may_run HMAY.out (fun a ha => by rw [HN.out]; exact hpre a ha))
        have hki : (k : Int) < (N : Int) := by omega
        clear hcs hpre
        obtain ⟨P, hP⟩ : ∃ P, L[k] = P := ⟨_, rfl⟩
        rw [hP] at x0 x1 x2 hsn hss hbad
        have HP := Lib.hid hP; clear hP
        obtain ⟨f, i, s⟩ := P
        simp only at x0 x1 x2 hss hbad
        have HSN := Lib.hid hsn; clear hsn
        have HBAD := Lib.hid hbad; clear hbad
        have HSS := Lib.hid hss; clear hss
        have BA : Below wr.heap.size wr (wr.alloc (.cells #[.bool f, .int .i64 i, .string s] 86)) := (Below.refl _ _).alloc (Nat.le_refl _) _
        have HBA := Lib.hid BA; clear BA
        have zW : W0.heap.size ≤ wr.heap.size := by omega
        cases f
        · by_cases he : DM.writeE n i s = 0
          · have HE0 := Lib.hid he; clear he
            go_wp2_with fail
            refine (C4.out _ HD.out i s HE0.out W0.heap.size p1 t1 p2 m2 t2 _ (by omega) (HO.out.below HBA.out) (by simp; omega)).mono ?_; rintro e w3 ⟨p3, t3, rfl, O3, BU3, hsub⟩
            have hb : ∀ b, b < W0.heap.size → ¬ DM.own2 (.slice p1 n t1) (.slice p2 m2 t2) b := fun b hb h => by have := (HO.out.ge b h).1; omega
            have HVA3 := Lib.hid (BU3.var (HVA.out.below HBA.out) (hb _ (by omega)))
            have HVR3 := Lib.hid (BU3.var (HVR.out.below HBA.out) (hb _ (by omega)))
            have HVS3 := Lib.hid (BU3.var (HVS.out.below HBA.out) HNO.out)
            have hno3 : Hid (¬ DM.own2 (.slice p1 n t1) (.slice p3 (m2 + 1) t3) w1.heap.size) := Lib.hid (fun h => by
              rcases hsub _ h with h1 | h1
              · exact HNO.out h1
              · simp at h1; omega)
            have HO3 := Lib.hid O3
            have BW3 : Below w.heap.size w w3 := (BU.trans (HBA.out.mono BU.size)).trans (BU3.to_below (by have := BU.size; simp; omega) (fun j hj => by have := (HO.out.ge j hj).1; omega))
            clear hsub BU3 O3 hb s0 s1 sf0 sf1 x0 x1 x2
            have s0 := HVS3.out.c0
            have s1 := HVS3.out.c1
            have sf0 := HVS3.out.f0
            have sf1 := HVS3.out.f1
            go_wp2_with fail
            have F := Lib.hid (DM.set2 (w := w3) (B := w1.heap.size) (u := .slice p1 n t1) (v := .slice p3 (m2 + 1) t3))
            go_roundw
            case rel =>
              refine ⟨k + 1, by omega, by go_num, fun j hj hjk => ?_, F.out.var HVA3.out (by omega), F.out.var HVR3.out (by omega), ⟨p1, t1, p3, m2 + 1, t3, HVS3.out.set2, ?_, hno3.out⟩, (BW3.setCell (by show w.heap.size ≤ w1.heap.size; omega) _).setCell (by show w.heap.size ≤ w1.heap.size; omega) _⟩
              · by_cases e : j = k
                · subst e; rw [HP.out]; exact Or.inr HE0.out
                · exact HALL.out j hj (by omega)
              · rw [HSN.out]
                exact HO3.out.but F.out (fun b hb e => by subst e; exact hno3.out hb)
            case measure => simp [intOf]; omega
          · have HE0 := Lib.hid he; clear he
            go_wp2_with fail
            refine (C3.out i s HSS.out HE0.out p1 t1 p2 m2 t2 _).mono ?_; rintro e w3 ⟨rfl, B3⟩
            have eE : E = DM.writeE n i s ∧ DM.actsE n L ≠ 0 := by
              have hb := HBAD.out (fun h => by rcases h with h | h; cases h; exact HE0.out h)
              refine ⟨?_, hb.2⟩
              rw [← HE.out]; unfold DM.runE; rw [if_pos HMAY.out, HN.out]; exact hb.1
            have eR : R = d := by rw [← HR.out]; exact if_neg (fun h => eE.2 (by have := h.2; rw [HN.out] at this; exact this))
            rw [← eE.1]
            have e0 : (E == 0) = false := by have := HE0.out; rw [← eE.1] at this; simpa using this
            have HER := Lib.hid eR; clear eR eE
            have HVA3 := Lib.hid ((HVA.out.below HBA.out).below B3)
            have HVR3 := Lib.hid ((HVR.out.below HBA.out).below B3)
            have HVS3 := Lib.hid ((HVS.out.below HBA.out).below B3)
            have BW3 : Below w.heap.size w w3 := (BU.trans (HBA.out.mono BU.size)).trans (B3.mono (by have := BU.size; simp; omega))
            clear B3 s0 s1 sf0 sf1 x0 x1 x2
            have s0 := HVS3.out.c0
            have s1 := HVS3.out.c1
            have sf0 := HVS3.out.f0
            have sf1 := HVS3.out.f1
            have v0 := HVA3.out.c0
            have v1 := HVA3.out.c1
            have lv := HVA3.out.lt
            have ls3 := HVS3.out.lt
            go_wp2_with fail
            have F := Lib.hid (DM.set2 (w := w3) (B := w1.heap.size) (u := .slice p1 n t1) (v := .slice p2 m2 t2))
            have BW4 : Below w.heap.size w ((w3.setCell ⟨w1.heap.size, 0, none⟩ (.slice p1 n t1)).setCell ⟨w1.heap.size, 1, none⟩ (.slice p2 m2 t2)) := (BW3.setCell (by show w.heap.size ≤ w1.heap.size; omega) _).setCell (by show w.heap.size ≤ w1.heap.size; omega) _
            have HVR4 := Lib.hid (F.out.var HVR3.out (by omega))
            refine (C1.out _ (H.out.below BW4)).mono ?_; rintro e w5 ⟨b5, q5, b6, q6, rfl, O5, B5⟩
            have O5 := Lib.hid O5
            have HVR5 := Lib.hid (HVR4.out.below B5)
            have BW5 : Below w.heap.size w w5 := BW4.trans (B5.mono BW4.size)
            have zz : w.heap.size + 1 < ((w3.setCell ⟨w1.heap.size, 0, none⟩ (.slice p1 n t1)).setCell ⟨w1.heap.size, 1, none⟩ (.slice p2 m2 t2)).heap.size := HVR4.out.lt
            clear B5 s0 s1 sf0 sf1 v0 v1
            have r0 := HVR5.out.c0
            have r1 := HVR5.out.c1
            have rf0 := HVR5.out.f0
            have rf1 := HVR5.out.f1
            go_wp2_with fail
            refine bodyPost_ret (results_dke rfl _ _ (w.heap.size + 1) b5 b6 n q5 m q6 rfl (by go_simp) (by go_simp)) rfl ⟨b5, n, q5, b6, m, q6, rfl, ?_, ?_, ?_, ?_⟩
            · rw [HER.out]
              exact DM.DV.but O5.out (DM.set2 (B := w.heap.size + 1) (u := .slice b5 n q5) (v := .slice b6 m q6)) (fun j hj => by omega)
            · exact (BW5.setCell (by simp) _).setCell (by simp) _
            · exact fun j hj => by have := (O5.out.ge j hj).1; omega
            · exact DM.OD.caps O5.out
        · go_wp2_with fail
          refine (C5.out _ HD.out HMK.out W0.heap.size p1 t1 p2 m2 t2 _ (by omega) (HO.out.below HBA.out) (by simp; omega)).mono ?_; rintro e w3 ⟨rfl, O3, BU3⟩
          have hb : ∀ b, b < W0.heap.size → ¬ DM.own2 (.slice p1 n t1) (.slice p2 m2 t2) b := fun b hb h => by have := (HO.out.ge b h).1; omega
          have HVA3 := Lib.hid (BU3.var (HVA.out.below HBA.out) (hb _ (by omega)))
          have HVR3 := Lib.hid (BU3.var (HVR.out.below HBA.out) (hb _ (by omega)))
          have HVS3 := Lib.hid (BU3.var (HVS.out.below HBA.out) HNO.out)
          have hno3 : Hid (¬ DM.own2 (.slice p1 n t1) (.slice none 0 0) w1.heap.size) := Lib.hid (fun h => by
            rcases h with h1 | h1
            · exact HNO.out (Or.inl h1)
            · cases h1)
          have HO3 := Lib.hid O3
          have BW3 : Below w.heap.size w w3 := (BU.trans (HBA.out.mono BU.size)).trans (BU3.to_below (by have := BU.size; simp; omega) (fun j hj => by have := (HO.out.ge j hj).1; omega))
          clear BU3 O3 hb s0 s1 sf0 sf1 x0 x1 x2
          have s0 := HVS3.out.c0
          have s1 := HVS3.out.c1
          have sf0 := HVS3.out.f0
          have sf1 := HVS3.out.f1
          go_wp2_with fail
          have F := Lib.hid (DM.set2 (w := w3) (B := w1.heap.size) (u := .slice p1 n t1) (v := .slice none 0 0))
          go_roundw
          case rel =>
            refine ⟨k + 1, by omega, by go_num, fun j hj hjk => ?_, F.out.var HVA3.out (by omega), F.out.var HVR3.out (by omega), ⟨p1, t1, none, 0, 0, HVS3.out.set2, ?_, hno3.out⟩, (BW3.setCell (by show w.heap.size ≤ w1.heap.size; omega) _).setCell (by show w.heap.size ≤ w1.heap.size; omega) _⟩
            · by_cases e : j = k
              · subst e; rw [HP.out]; exact Or.inl rfl
              · exact HALL.out j hj (by omega)
            · rw [HSN.out]
              exact HO3.out.but F.out (fun b hb e => by subst e; exact hno3.out hb)
          case measure => simp [intOf]; omega
      · have hkk : k = N := by omega
        subst hkk
        have hall : ∀ a ∈ L, DM.actOk n a := fun a ha => by
          obtain ⟨j, hj, rfl⟩ := List.getElem_of_mem ha
          exact HALL.out j hj (by rw [← HLL.out]; exact hj)
        have h0 := DM.actsE_good n L hall
        have eE : E = 0 := by rw [← HE.out]; unfold DM.runE; rw [if_pos HMAY.out, HN.out]; exact h0
        have eR : R = DM.runK d (L.take k) := by
          rw [← HR.out, List.take_of_length_le (by rw [HLL.out]; exact Nat.le_refl _)]
          exact if_pos ⟨HMAY.out, by rw [HN.out]; exact h0⟩
        have HER := Lib.hid eR
        subst eE
        clear eR hall h0 sf0 sf1
        have r0 := HVR.out.c0
        have r1 := HVR.out.c1
        have rf0 := HVR.out.f0
        have rf1 := HVR.out.f1
        go_wp2_with fail
        refine bodyPost_ret (results_dke rfl _ _ (w.heap.size + 1) p1 p2 n t1 m2 t2 rfl (by go_simp) (by go_simp)) rfl ⟨p1, n, t1, p2, m2, t2, rfl, ?_, ?_, ?_, ?_⟩
        · rw [HER.out]
          exact DM.DV.but HO.out (DM.set2 (B := w.heap.size + 1) (u := .slice p1 n t1) (v := .slice p2 m2 t2)) (fun j hj => by omega)
        · exact (BU.setCell (by simp) _).setCell (by simp) _
        · exact fun j hj => by have := (HO.out.ge j hj).1; omega
        · exact DM.OD.caps HO.out
end DiskW
end Go.Proofs.Ytnoegkhkeeameaa

/- Layer 1's data, as values and as arguments. -/
namespace Go.Proofs.Ytnoegkhkeeameaa.AM
open Go.RowKit Go.ChangeShapes Go.WideShapes Go.ChangeAt
set_option linter.unusedVariables false
def actD (l : List DM.Ac) : List (List Dat) := l.map fun a => [.v (.bool a.1), .v (.int .i64 a.2.1), .v (.string a.2.2)]
def bolD (l : List Bool) : List (List Dat) := l.map fun b => [.v (.bool b)]
@[push_cast] theorem actD_len (l : List DM.Ac) : (actD l).length = l.length := by simp [actD]
@[push_cast] theorem bolD_len (l : List Bool) : (bolD l).length = l.length := by simp [bolD]
theorem actD_get {l : List DM.Ac} {k : Nat} (h : k < l.length) : (actD l).getD k [] = [.v (.bool l[k].1), .v (.int .i64 l[k].2.1), .v (.string l[k].2.2)] := by simp [actD, List.getD, h]
theorem bolD_get {l : List Bool} {k : Nat} (h : k < l.length) : (bolD l).getD k [] = [.v (.bool l[k])] := by simp [bolD, List.getD, h]
abbrev lstD (sz : Nat) (xs : List (List Dat)) : D := .one (.c (.d (.lst sz xs)))
abbrev outD (d : DM.Dk) (x : Int) : D := .tup [dk1 d, .c (valC (.int .i64 x))]

/-! ### out of data -/
section
variable {Pc : Nat → Nat → Prop} {w : World}
theorem lst_inv {v : Value} {sz : Nat} {xs : List (List Dat)} (hlt : ∀ b o, Pc b o → b < w.heap.size) (hsz : 0 < sz) (h : DatRep Pc w v (.lst sz xs)) :
    ∃ a cap, v = .slice a xs.length cap ∧ xs.length ≤ cap ∧ cap ≤ maxLen ∧ (0 < xs.length → ∃ b off, a = some ⟨b, off, none⟩ ∧ b < w.heap.size ∧
      ∀ k j (hk : k < xs.length) (hj : j < (xs[k]).length), ∃ c, w.cell? ⟨b, off + k * sz + j, none⟩ = some c ∧ DatRep Pc w c ((xs[k])[j])) := by
  cases h with
  | lst a n cap _ _ b off c hn hcap hmax hsz' ha hc hr =>
    subst hn
    exact ⟨a, cap, rfl, hcap, hmax, fun h0 => ⟨b, off, ha h0, hlt _ _ (hc 0 0 h0 hsz).1, fun k j hk hj => ⟨c k j, (hc k j hk (by rw [hsz' _ (List.getElem_mem hk)] at hj; exact hj)).2.1, hr k j hk hj⟩⟩⟩
theorem v_inv {v x : Value} (h : DatRep Pc w v (.v x)) : v = x := by cases h; rfl
theorem sv_of {v : Value} {l : List ByteArray} (hlt : ∀ b o, Pc b o → b < w.heap.size) (h : DatRep Pc w v (.lst 1 (secD l))) : ∃ a cap, v = .slice a l.length cap ∧ l.length ≤ cap ∧ cap ≤ maxLen ∧ RM.SV w v l := by
  obtain ⟨a, cap, e, h1, h2, h3⟩ := lst_inv hlt (by decide) h
  have hl := secD_len l
  rw [hl] at e h1
  refine ⟨a, cap, e, h1, h2, a, cap, e, fun h0 => ?_⟩
  obtain ⟨b, off, ea, hb, hc⟩ := h3 (by omega)
  refine ⟨b, off, ea, hb, fun j hj => ?_⟩
  obtain ⟨c, g1, g2⟩ := hc j 0 (by omega) (by simp [secD])
  simp only [secD, List.getElem_map, List.getElem_cons_zero] at g2
  rw [v_inv g2] at g1
  simpa using g1
theorem wv_of {v : Value} {l : List DM.Wr} (hlt : ∀ b o, Pc b o → b < w.heap.size) (h : DatRep Pc w v (.lst 2 (cacD l))) : ∃ a cap, v = .slice a l.length cap ∧ l.length ≤ cap ∧ cap ≤ maxLen ∧ DM.WV w v l := by
  obtain ⟨a, cap, e, h1, h2, h3⟩ := lst_inv hlt (by decide) h
  have hl := cacD_len l
  rw [hl] at e h1
  refine ⟨a, cap, e, h1, h2, a, cap, e, fun h0 => ?_⟩
  obtain ⟨b, off, ea, hb, hc⟩ := h3 (by omega)
  refine ⟨b, off, ea, hb, fun j hj => ⟨?_, ?_⟩⟩
  · obtain ⟨c, g1, g2⟩ := hc j 0 (by omega) (by simp [cacD])
    simp only [cacD, List.getElem_map, List.getElem_cons_zero] at g2
    rw [v_inv g2] at g1
    simpa using g1
  · obtain ⟨c, g1, g2⟩ := hc j 1 (by omega) (by simp [cacD])
    simp only [cacD, List.getElem_map, List.getElem_cons_succ, List.getElem_cons_zero] at g2
    rw [v_inv g2] at g1
    exact g1
theorem av_of {v : Value} {l : List DM.Ac} (hlt : ∀ b o, Pc b o → b < w.heap.size) (h : DatRep Pc w v (.lst 3 (actD l))) : ∃ a cap, v = .slice a l.length cap ∧ DM.AV w v l := by
  obtain ⟨a, cap, e, h1, h2, h3⟩ := lst_inv hlt (by decide) h
  have hl := actD_len l
  rw [hl] at e h1
  refine ⟨a, cap, e, a, cap, e, h1, h2, fun h0 => ?_⟩
  obtain ⟨b, off, ea, hb, hc⟩ := h3 (by omega)
  refine ⟨b, off, ea, hb, fun j hj => ⟨?_, ?_, ?_⟩⟩
  · obtain ⟨c, g1, g2⟩ := hc j 0 (by omega) (by simp [actD])
    simp only [actD, List.getElem_map, List.getElem_cons_zero] at g2
    rw [v_inv g2] at g1
    simpa using g1
  · obtain ⟨c, g1, g2⟩ := hc j 1 (by omega) (by simp [actD])
    simp only [actD, List.getElem_map, List.getElem_cons_succ, List.getElem_cons_zero] at g2
    rw [v_inv g2] at g1
    exact g1
  · obtain ⟨c, g1, g2⟩ := hc j 2 (by omega) (by simp [actD])
    simp only [actD, List.getElem_map, List.getElem_cons_succ, List.getElem_cons_zero] at g2
    rw [v_inv g2] at g1
    exact g1
theorem dv_of {v : Value} {d : DM.Dk} (hlt : ∀ b o, Pc b o → b < w.heap.size) (h : DRep (noEnv Pc) noSt w v (.one (dk1 d))) :
    ∃ a1 k1 a2 k2, v = .agg #[.slice a1 d.secs.length k1, .slice a2 d.cache.length k2] ∧ DM.DV w (.slice a1 d.secs.length k1) (.slice a2 d.cache.length k2) d ∧ d.secs.length ≤ maxLen ∧ d.cache.length ≤ maxLen := by
  obtain ⟨vs, rfl, hv⟩ := h
  obtain ⟨l⟩ := vs
  match l, hv with
  | [x, y], ⟨h1, h2, _⟩ =>
    obtain ⟨a1, k1, rfl, c1, c2, s1⟩ := sv_of hlt h1
    obtain ⟨a2, k2, rfl, c3, c4, s2⟩ := wv_of hlt h2
    exact ⟨a1, k1, a2, k2, rfl, ⟨s1, s2⟩, by omega, by omega⟩
theorem args1 {r : Value → D → Prop} {vs : Array Value} {d : D} (h : All2 r vs.toList [d]) : ∃ v, vs = #[v] ∧ r v d := by
  obtain ⟨l⟩ := vs
  match l, h with
  | [x], ⟨h1, _⟩ => exact ⟨x, rfl, h1⟩
theorem args2 {r : Value → D → Prop} {vs : Array Value} {d d' : D} (h : All2 r vs.toList [d, d']) : ∃ v v', vs = #[v, v'] ∧ r v d ∧ r v' d' := by
  obtain ⟨l⟩ := vs
  match l, h with
  | [x, y], ⟨h1, h2, _⟩ => exact ⟨x, y, rfl, h1, h2⟩
theorem args3 {r : Value → D → Prop} {vs : Array Value} {d d' d'' : D} (h : All2 r vs.toList [d, d', d'']) : ∃ v v' v'', vs = #[v, v', v''] ∧ r v d ∧ r v' d' ∧ r v'' d'' := by
  obtain ⟨l⟩ := vs
  match l, h with
  | [x, y, z], ⟨h1, h2, h3, _⟩ => exact ⟨x, y, z, rfl, h1, h2, h3⟩

/-! ### into data -/
theorem dat_sv {a : Option Addr} {n k : Nat} {l : List ByteArray} (h : RM.SV w (.slice a n k) l) (h1 : n ≤ k) (h2 : k ≤ maxLen) (hP : ∀ g, (Value.slice a n k).ownBlock = some g → ∀ o, g < w.heap.size → Pc g o) : DatRep Pc w (.slice a n k) (.lst 1 (secD l)) := by
  obtain ⟨a', c', e, h⟩ := h
  simp only [Value.slice.injEq] at e
  obtain ⟨rfl, rfl, rfl⟩ := e
  have hl := secD_len l
  have hx : ∀ x ∈ secD l, x.length = 1 := fun x hx => by
    unfold secD at hx
    obtain ⟨s, _, rfl⟩ := List.mem_map.1 hx
    rfl
  by_cases h0 : 0 < l.length
  · obtain ⟨b, off, rfl, hb, hc⟩ := h h0
    refine .lst _ _ _ 1 _ b off (fun k _ => .string (l.getD k ⟨#[]⟩)) hl.symm h1 h2 hx (fun _ => rfl) (fun k j hk hj => ?_) (fun k j hk hj => ?_)
    · have hk' : k < l.length := by omega
      obtain rfl : j = 0 := by omega
      refine ⟨hP b rfl _ hb, ?_, rfl⟩
      simp only [Nat.mul_one, Nat.add_zero, List.getD, List.getElem?_eq_getElem hk', Option.getD_some]
      exact hc k hk'
    · have hk' : k < l.length := by omega
      have hj' := hx _ (List.getElem_mem hk)
      obtain rfl : j = 0 := by omega
      simp only [secD, List.getElem_map, List.getElem_cons_zero, List.getD, List.getElem?_eq_getElem hk', Option.getD_some]
      exact .v _
  · exact .lst _ _ _ 1 _ 0 0 (fun _ _ => undef) hl.symm h1 h2 hx (fun h => by omega) (fun k j hk => by omega) (fun k j hk => by omega)
theorem dat_wv {a : Option Addr} {n k : Nat} {l : List DM.Wr} (h : DM.WV w (.slice a n k) l) (h1 : n ≤ k) (h2 : k ≤ maxLen) (hP : ∀ g, (Value.slice a n k).ownBlock = some g → ∀ o, g < w.heap.size → Pc g o) : DatRep Pc w (.slice a n k) (.lst 2 (cacD l)) := by
  obtain ⟨a', c', e, h⟩ := h
  simp only [Value.slice.injEq] at e
  obtain ⟨rfl, rfl, rfl⟩ := e
  have hl := cacD_len l
  have hx : ∀ x ∈ cacD l, x.length = 2 := fun x hx => by
    unfold cacD at hx
    obtain ⟨s, _, rfl⟩ := List.mem_map.1 hx
    rfl
  by_cases h0 : 0 < l.length
  · obtain ⟨b, off, rfl, hb, hc⟩ := h h0
    refine .lst _ _ _ 2 _ b off (fun k j => if j = 0 then .int .i64 (l.getD k (0, ⟨#[]⟩)).1 else .string (l.getD k (0, ⟨#[]⟩)).2) hl.symm h1 h2 hx (fun _ => rfl) (fun k j hk hj => ?_) (fun k j hk hj => ?_)
    · have hk' : k < l.length := by omega
      obtain rfl | rfl : j = 0 ∨ j = 1 := by omega
      · refine ⟨hP b rfl _ hb, ?_, rfl⟩
        simp only [if_true, Nat.add_zero, List.getD, List.getElem?_eq_getElem hk', Option.getD_some]
        exact (hc k hk').1
      · refine ⟨hP b rfl _ hb, ?_, rfl⟩
        simp only [Nat.one_ne_zero, if_false, List.getD, List.getElem?_eq_getElem hk', Option.getD_some]
        exact (hc k hk').2
    · have hk' : k < l.length := by omega
      have hj' := hx _ (List.getElem_mem hk)
      obtain rfl | rfl : j = 0 ∨ j = 1 := by omega
      · simp only [cacD, List.getElem_map, List.getElem_cons_zero, if_true, List.getD, List.getElem?_eq_getElem hk', Option.getD_some]
        exact .v _
      · simp only [cacD, List.getElem_map, List.getElem_cons_succ, List.getElem_cons_zero, Nat.one_ne_zero, if_false, List.getD, List.getElem?_eq_getElem hk', Option.getD_some]
        exact .v _
  · exact .lst _ _ _ 2 _ 0 0 (fun _ _ => undef) hl.symm h1 h2 hx (fun h => by omega) (fun k j hk => by omega) (fun k j hk => by omega)
end

/-! ### arguments that come in -/
theorem map_of {α β : Type} {p : α → Prop} {f : α → β} : ∀ {xs : List β}, (∀ x ∈ xs, ∃ s, p s ∧ x = f s) → ∃ l : List α, xs = l.map f ∧ ∀ s ∈ l, p s
  | [], _ => ⟨[], rfl, fun s h => by cases h⟩
  | x :: xs, h => by
    obtain ⟨s, h1, rfl⟩ := h x (List.mem_cons_self ..)
    obtain ⟨l, rfl, h2⟩ := map_of (fun y hy => h y (List.mem_cons_of_mem _ hy))
    exact ⟨s :: l, rfl, fun t ht => by
      rcases List.mem_cons.1 ht with rfl | ht
      · exact h1
      · exact h2 t ht⟩
theorem typ_int {k : IntKind} {x : Dat} (h : Typ (.int k) x) : ∃ n, x = .v (.int k n) ∧ (Lit.int k n).wf = true := by
  cases x with
  | v x => unfold Typ at h; obtain ⟨n, rfl, h⟩ := h; exact ⟨n, rfl, h⟩
  | lst sz xs => unfold Typ at h; exact h.elim
theorem typ_bool {x : Dat} (h : Typ .bool x) : ∃ b, x = .v (.bool b) := by
  cases x with
  | v x => unfold Typ at h; obtain ⟨n, rfl⟩ := h; exact ⟨n, rfl⟩
  | lst sz xs => unfold Typ at h; exact h.elim
theorem typ_str {x : Dat} (h : Typ .str x) : ∃ s : ByteArray, x = .v (.string s) ∧ s.size ≤ maxLen := by
  cases x with
  | v x => unfold Typ at h; obtain ⟨n, rfl, h⟩ := h; exact ⟨n, rfl, h⟩
  | lst sz xs => unfold Typ at h; exact h.elim
theorem typ_lst {e : List Sh} {x : Dat} (h : Typ (.lst e) x) : ∃ xs, x = .lst e.length xs ∧ xs.length ≤ maxLen ∧ ∀ x ∈ xs, TypL e x := by
  cases x with
  | v x => unfold Typ at h; exact h.elim
  | lst sz xs => unfold Typ at h; obtain ⟨rfl, h⟩ := h; exact ⟨xs, rfl, h⟩
theorem typL1 {a : Sh} {ds : List Dat} (h : TypL [a] ds) : ∃ x, ds = [x] ∧ Typ a x := by
  match ds, h with
  | [x], h => unfold TypL at h; exact ⟨x, rfl, h.1⟩
  | [], h => unfold TypL at h; exact h.elim
  | _ :: _ :: _, h => unfold TypL TypL at h; exact h.2.elim
theorem typL2 {a b : Sh} {ds : List Dat} (h : TypL [a, b] ds) : ∃ x y, ds = [x, y] ∧ Typ a x ∧ Typ b y := by
  match ds, h with
  | x :: l, h => unfold TypL at h; obtain ⟨y, rfl, h2⟩ := typL1 h.2; exact ⟨x, y, rfl, h.1, h2⟩
  | [], h => unfold TypL at h; exact h.elim
theorem typL3 {a b c : Sh} {ds : List Dat} (h : TypL [a, b, c] ds) : ∃ x y z, ds = [x, y, z] ∧ Typ a x ∧ Typ b y ∧ Typ c z := by
  match ds, h with
  | x :: l, h => unfold TypL at h; obtain ⟨y, z, rfl, h2⟩ := typL2 h.2; exact ⟨x, y, z, rfl, h.1, h2⟩
  | [], h => unfold TypL at h; exact h.elim
theorem typ_secs {x : Dat} (h : Typ (.lst [.str]) x) : ∃ l, x = .lst 1 (secD l) ∧ l.length ≤ maxLen ∧ ∀ s ∈ l, s.size ≤ maxLen := by
  obtain ⟨xs, rfl, h1, h2⟩ := typ_lst h
  obtain ⟨l, rfl, h3⟩ := map_of (p := fun s : ByteArray => s.size ≤ maxLen) (f := fun s => [Dat.v (.string s)]) (fun x hx => by
    obtain ⟨y, rfl, hy⟩ := typL1 (h2 x hx)
    obtain ⟨s, rfl, hs⟩ := typ_str hy
    exact ⟨s, hs, rfl⟩)
  exact ⟨l, rfl, by simpa using h1, h3⟩
theorem typ_caches {x : Dat} (h : Typ (.lst [.int .i64, .str]) x) : ∃ l, x = .lst 2 (cacD l) ∧ l.length ≤ maxLen ∧ ∀ p ∈ l, p.2.size ≤ maxLen := by
  obtain ⟨xs, rfl, h1, h2⟩ := typ_lst h
  obtain ⟨l, rfl, h3⟩ := map_of (p := fun p : DM.Wr => p.2.size ≤ maxLen) (f := fun p => [Dat.v (.int .i64 p.1), Dat.v (.string p.2)]) (fun x hx => by
    obtain ⟨y, z, rfl, hy, hz⟩ := typL2 (h2 x hx)
    obtain ⟨n, rfl, _⟩ := typ_int hy
    obtain ⟨s, rfl, hs⟩ := typ_str hz
    exact ⟨(n, s), hs, rfl⟩)
  exact ⟨l, rfl, by simpa using h1, h3⟩
theorem typ_acts {x : Dat} (h : Typ (.lst [.bool, .int .i64, .str]) x) : ∃ l, x = .lst 3 (actD l) ∧ l.length ≤ maxLen ∧ ∀ a ∈ l, a.2.2.size ≤ maxLen := by
  obtain ⟨xs, rfl, h1, h2⟩ := typ_lst h
  obtain ⟨l, rfl, h3⟩ := map_of (p := fun p : DM.Ac => p.2.2.size ≤ maxLen) (f := fun a => [Dat.v (.bool a.1), Dat.v (.int .i64 a.2.1), Dat.v (.string a.2.2)]) (fun x hx => by
    obtain ⟨y, z, t, rfl, hy, hz, ht⟩ := typL3 (h2 x hx)
    obtain ⟨b, rfl⟩ := typ_bool hy
    obtain ⟨n, rfl, _⟩ := typ_int hz
    obtain ⟨s, rfl, hs⟩ := typ_str ht
    exact ⟨(b, n, s), hs, rfl⟩)
  exact ⟨l, rfl, by simpa using h1, h3⟩
/-- a disk, and acts, that come in -/
def IsDk (w : World) (v : Value) : Prop := ∃ d : DM.Dk, (d.secs.length ≤ maxLen ∧ d.cache.length ≤ maxLen) ∧ DRep (noEnv (Old w)) noSt w v (.one (dk1 d))
def IsAc (w : World) (v : Value) : Prop := ∃ l : List DM.Ac, (l.length ≤ maxLen ∧ ∀ a ∈ l, a.2.2.size ≤ maxLen) ∧ DRep (noEnv (Old w)) noSt w v (lstD 3 (actD l))
section
variable {H : Type} {enc : TypeId × Value → H} {W : World} {base : Nat} {v : Value} {d : DataW H} {p : List MemPlace}
set_option maxRecDepth 100000 in
theorem open_dk (hv : Value.okWide Try.prog W .any base 25 v) (h : DataW.Trod enc Try.prog W 0 (fun _ => true) true 25 v d p) : IsDk W v := by
  obtain ⟨ds, h1, h2⟩ := open_agg (n := 8) (sh := [.lst [.str], .lst [.int .i64, .str]]) (by kernel_rfl) Try.underlying25 hv h
  obtain ⟨x, y, rfl, hx, hy⟩ := typL2 h1
  obtain ⟨l, rfl, b1, _⟩ := typ_secs hx
  obtain ⟨m, rfl, b2, _⟩ := typ_caches hy
  exact ⟨⟨l, m⟩, ⟨b1, b2⟩, h2⟩
set_option maxRecDepth 100000 in
theorem open_ac (hv : Value.okWide Try.prog W .any base 40 v) (h : DataW.Trod enc Try.prog W 0 (fun _ => true) true 40 v d p) : IsAc W v := by
  obtain ⟨x, h1, h2⟩ := open_cell (n := 8) (s := .lst [.bool, .int .i64, .str]) (by kernel_rfl) (by kernel_rfl) hv h
  obtain ⟨l, rfl, b⟩ := typ_acts h1
  exact ⟨l, b, h2⟩
end
end Go.Proofs.Ytnoegkhkeeameaa.AM

/- Layer 1's contracts, for the plain machine. -/
namespace Go.Proofs.Ytnoegkhkeeameaa.AM
open Go.RowKit
set_option linter.unusedVariables false
variable {G : World → Prop}
theorem pc_bool {f : FuncId} {ds : List D} {x : Bool} (h : ∀ (Pc : Nat → Nat → Prop) w vs, (∀ b o, Pc b o → b < w.heap.size) → All2 (DRep (noEnv Pc) noSt w) vs.toList ds → Calls Try.prog f vs w fun e w' => e = .returned (.bool x) ∧ Below w.heap.size w w') : PCalls Try.prog G f ds (valD (.bool x)) :=
  fun Pc w vs _ hlt hv => (h Pc w vs hlt hv).mono fun e w' ⟨he, hb⟩ => ⟨_, Pc, he, hb, fun _ _ h => h, fun _ _ h => Or.inl h, drep_val _⟩
theorem max_eq : maxLen = 9223372036854775807 := by decide
theorem live_pc : PCalls Try.prog G 26 [] (valD (.bool true)) := pc_bool fun Pc w vs hlt hv => by
  obtain ⟨l⟩ := vs
  match l, hv with
  | [], _ => exact DiskW.live_any w
theorem small_pc (d : DM.Dk) : PCalls Try.prog G 9 [.one (dk1 d)] (valD (.bool (decide (DM.smallD d)))) := pc_bool fun Pc w vs hlt hv => by
  obtain ⟨v, rfl, h⟩ := args1 hv
  obtain ⟨a1, k1, a2, k2, rfl, hd, b1, b2⟩ := dv_of hlt h
  have := max_eq
  exact DiskW.small_any _ _ _ _ _ _ d w hd (by omega) (by omega)
theorem may_pc (d : DM.Dk) : PCalls Try.prog G 30 [.one (dk1 d)] (valD (.bool (decide (DM.mayD d)))) := pc_bool fun Pc w vs hlt hv => by
  obtain ⟨v, rfl, h⟩ := args1 hv
  obtain ⟨a1, k1, a2, k2, rfl, hd, b1, b2⟩ := dv_of hlt h
  have := max_eq
  exact DiskW.may_any _ _ d w hd (by omega) (by omega)
theorem rsame_pc (d1 d2 : DM.Dk) (b1 : d1.secs.length ≤ 1000000) (b2 : d1.cache.length ≤ 1000000) (b3 : d2.secs.length ≤ 1000000) (b4 : d2.cache.length ≤ 1000000) : PCalls Try.prog G 29 [.one (dk1 d1), .one (dk1 d2)] (valD (.bool (decide (d1 = d2)))) := pc_bool fun Pc w vs hlt hv => by
  obtain ⟨v, v', rfl, h, h'⟩ := args2 hv
  obtain ⟨a1, k1, a2, k2, rfl, hd, _, _⟩ := dv_of hlt h
  obtain ⟨a3, k3, a4, k4, rfl, hd', _, _⟩ := dv_of hlt h'
  exact DiskW.rsame_any _ _ _ _ _ _ _ _ _ _ _ _ d1 d2 w hd hd' b1 b2 b3 b4
theorem dk_of {Pc : Nat → Nat → Prop} {w : World} {base n k1 m k2 : Nat} {a1 a2 : Option Addr} {d : DM.Dk} (h : DM.DV w (.slice a1 n k1) (.slice a2 m k2) d) (c1 : n ≤ k1) (c2 : k1 ≤ maxLen) (c3 : m ≤ k2) (c4 : k2 ≤ maxLen)
    (hP : ∀ g o, base ≤ g → g < w.heap.size → Pc g o) (ho : ∀ k, DM.own2 (.slice a1 n k1) (.slice a2 m k2) k → base ≤ k) : Rep1 (noEnv Pc) noSt w (.agg #[.slice a1 n k1, .slice a2 m k2]) (dk1 d) :=
  ⟨_, rfl, dat_sv h.1 c1 c2 (fun g hg o hlt => hP g o (ho g (Or.inl hg)) hlt), dat_wv h.2 c3 c4 (fun g hg o hlt => hP g o (ho g (Or.inr hg)) hlt), trivial⟩
theorem run_pc (d : DM.Dk) (l : List DM.Ac) (x : Int) (N : Nat) (b1 : d.secs.length ≤ 100000) (b2 : d.cache.length ≤ 100000) (b3 : l.length ≤ 100000) (hsz : ∀ a ∈ l, a.2.2.size ≤ maxLen) (hN : min (max x 0) (l.length : Int) = (N : Int)) :
    PCalls Try.prog G 14 [.one (dk1 d), lstD 3 (actD l), valD (.int .i64 x)] (outD (DM.runD d (l.take N)) (DM.runE d (l.take N))) := by
  intro Pc w vs _ hlt hv
  obtain ⟨v, v', v'', rfl, h, h', h''⟩ := args3 hv
  obtain ⟨a1, k1, a2, k2, rfl, hd, _, _⟩ := dv_of hlt h
  obtain ⟨a3, k3, rfl, hl⟩ := av_of hlt h'
  obtain rfl := of_val h''
  refine (DiskW.run_cap a1 a2 k1 k2 _ _ d a3 k3 l x N w hd rfl rfl b1 b2 hl b3 hsz hN).mono ?_
  rintro e w' ⟨a5, n5, k5, a6, n6, k6, rfl, h1, h2, h3, c1, c2, c3, c4⟩
  refine ⟨_, fun b o => Pc b o ∨ (w.heap.size ≤ b ∧ b < w'.heap.size), rfl, h2, fun _ _ h => Or.inl h, fun _ _ h => h, _, rfl, dk_of h1 c1 c2 c3 c4 (fun g o h1 h2 => Or.inr ⟨h1, h2⟩) h3, crep_val (σ := noSt) _, trivial⟩
end Go.Proofs.Ytnoegkhkeeameaa.AM

/- The document's answers of layer 1, by the plain machine: Put, Get. -/
namespace Go.Proofs.Ytnoegkhkeeameaa.AM
open Go.RowKit
set_option linter.unusedVariables false
set_option linter.unusedSimpArgs false
theorem cacD_snoc (l : List DM.Wr) (i : Int) (s : ByteArray) : cacD l ++ [[.v (.int .i64 i), .v (.string s)]] = cacD (l ++ [(i, s)]) := by simp [cacD]

set_option maxHeartbeats 1600000 in
theorem rput_pc {G : World → Prop} (hG : Stab G) (d : DM.Dk) (i : Int) (s : ByteArray) (b1 : d.secs.length ≤ 1000000) (b2 : d.cache.length ≤ 1000000) (hs : s.size ≤ 1000) : PCalls Try.prog G 27 [.one (dk1 d), valD (.int .i64 i), valD (.string s)] (outD (DM.putD d i s) (DM.putE d i s)) := by
  unfold outD
  unfold dk1
  refine pcalls_of Try.func27 rfl (by simp [Try.ntmps27]) hG ?_; intro F hF hFG Q hQ; rw [Try.ntmps27] at hF; rw [Try.results27] at hQ
  repeat (first | (refine acode_region_seq (by rw [hF]; kernel_rfl) ?_; (repeat (refine aops_step fun K1 hK1 => ?_; simp only [push_cast, Nat.reduceEqDiff, reduceCtorEq, Nat.reduceAdd, Nat.reduceMul, Nat.reduceSub, Nat.reduceLeDiff, Nat.reduceLT, Nat.reduceBEq, Nat.reducePow, Int.reduceEq, Int.reduceLT, Int.reduceLE, Int.reduceNeg, Int.reduceAdd, Int.reduceToNat, reduceIte, decide_true, decide_false]; (try simp (disch := omega) only [wrap64, wrap8]); (first | (refine hK1 _ ?_) | (refine ⟨by omega, hK1 _ ?_⟩) | (refine ⟨⟨by omega, by omega⟩, hK1 _ ?_⟩) | (refine ⟨⟨by omega, by omega, by omega⟩, hK1 _ ?_⟩)); clear hK1 K1)); refine aops_nil ?_) | (refine acode_region (by rw [hF]; kernel_rfl) ?_; (repeat (refine aops_step fun K1 hK1 => ?_; simp only [push_cast, Nat.reduceEqDiff, reduceCtorEq, Nat.reduceAdd, Nat.reduceMul, Nat.reduceSub, Nat.reduceLeDiff, Nat.reduceLT, Nat.reduceBEq, Nat.reducePow, Int.reduceEq, Int.reduceLT, Int.reduceLE, Int.reduceNeg, Int.reduceAdd, Int.reduceToNat, reduceIte, decide_true, decide_false]; (try simp (disch := omega) only [wrap64, wrap8]); (first | (refine hK1 _ ?_) | (refine ⟨by omega, hK1 _ ?_⟩) | (refine ⟨⟨by omega, by omega⟩, hK1 _ ?_⟩) | (refine ⟨⟨by omega, by omega, by omega⟩, hK1 _ ?_⟩)); clear hK1 K1)); refine aops_nil ?_) | (refine acode_seq ?_) | (refine acode_block ?_) | (refine acode_skip ?_) | (refine acode_exit ?_) | (refine acode_ret ?_) | (refine andThen_normal ?_) | (refine andThen_exit ?_) | (refine andThen_ret ?_) | (refine inBlock_normal ?_) | (refine inBlock_ret ?_) | (refine inBlock_same ?_) | (refine inBlock_other rfl ?_))
  (first | (refine acode_region_seq (by rw [hF]; kernel_rfl) ?_) | (refine acode_region (by rw [hF]; kernel_rfl) ?_)); (repeat (refine aops_step fun K1 hK1 => ?_; simp only [push_cast, Nat.reduceEqDiff, reduceCtorEq, Nat.reduceAdd, Nat.reduceMul, Nat.reduceSub, Nat.reduceLeDiff, Nat.reduceLT, Nat.reduceBEq, Nat.reducePow, Int.reduceEq, Int.reduceLT, Int.reduceLE, Int.reduceNeg, Int.reduceAdd, Int.reduceToNat, reduceIte, decide_true, decide_false]; (try simp (disch := omega) only [wrap64, wrap8]); (first | (refine hK1 _ ?_) | (refine ⟨by omega, hK1 _ ?_⟩) | (refine ⟨⟨by omega, by omega⟩, hK1 _ ?_⟩) | (refine ⟨⟨by omega, by omega, by omega⟩, hK1 _ ?_⟩)); clear hK1 K1))
  refine aops_call (by simp only [push_cast, Nat.reduceEqDiff, reduceCtorEq, Nat.reduceAdd, Nat.reduceMul, Nat.reduceSub, Nat.reduceLeDiff, Nat.reduceLT, Nat.reduceBEq, Nat.reducePow, Int.reduceEq, Int.reduceLT, Int.reduceLE, Int.reduceNeg, Int.reduceAdd, Int.reduceToNat, reduceIte, decide_true, decide_false, dk1]) rfl (by simp only [push_cast, Nat.reduceEqDiff, reduceCtorEq, Nat.reduceAdd, Nat.reduceMul, Nat.reduceSub, Nat.reduceLeDiff, Nat.reduceLT, Nat.reduceBEq, Nat.reducePow, Int.reduceEq, Int.reduceLT, Int.reduceLE, Int.reduceNeg, Int.reduceAdd, Int.reduceToNat, reduceIte, decide_true, decide_false, dk1]) (by kernel_rfl) (by simp only [push_cast, Nat.reduceEqDiff, reduceCtorEq, Nat.reduceAdd, Nat.reduceMul, Nat.reduceSub, Nat.reduceLeDiff, Nat.reduceLT, Nat.reduceBEq, Nat.reducePow, Int.reduceEq, Int.reduceLT, Int.reduceLE, Int.reduceNeg, Int.reduceAdd, Int.reduceToNat, reduceIte, decide_true, decide_false, dk1]) (rmay_pc F.gst d b1 b2) ?_
  by_cases c0 : DM.mayD d
  · have e0 : decide (DM.mayD d) = true := decide_eq_true c0
    by_cases c1 : i < 0
    · (repeat (refine aops_step fun K1 hK1 => ?_; simp only [push_cast, Nat.reduceEqDiff, reduceCtorEq, Nat.reduceAdd, Nat.reduceMul, Nat.reduceSub, Nat.reduceLeDiff, Nat.reduceLT, Nat.reduceBEq, Nat.reducePow, Int.reduceEq, Int.reduceLT, Int.reduceLE, Int.reduceNeg, Int.reduceAdd, Int.reduceToNat, reduceIte, decide_true, decide_false, e0, c1]; (try simp (disch := omega) only [wrap64, wrap8]); (first | (refine hK1 _ ?_) | (refine ⟨by omega, hK1 _ ?_⟩) | (refine ⟨⟨by omega, by omega⟩, hK1 _ ?_⟩) | (refine ⟨⟨by omega, by omega, by omega⟩, hK1 _ ?_⟩)); clear hK1 K1)); refine aops_nil ?_
      repeat (first | (refine acode_region_seq (by rw [hF]; kernel_rfl) ?_; (repeat (refine aops_step fun K1 hK1 => ?_; simp only [push_cast, Nat.reduceEqDiff, reduceCtorEq, Nat.reduceAdd, Nat.reduceMul, Nat.reduceSub, Nat.reduceLeDiff, Nat.reduceLT, Nat.reduceBEq, Nat.reducePow, Int.reduceEq, Int.reduceLT, Int.reduceLE, Int.reduceNeg, Int.reduceAdd, Int.reduceToNat, reduceIte, decide_true, decide_false]; (try simp (disch := omega) only [wrap64, wrap8]); (first | (refine hK1 _ ?_) | (refine ⟨by omega, hK1 _ ?_⟩) | (refine ⟨⟨by omega, by omega⟩, hK1 _ ?_⟩) | (refine ⟨⟨by omega, by omega, by omega⟩, hK1 _ ?_⟩)); clear hK1 K1)); refine aops_nil ?_) | (refine acode_region (by rw [hF]; kernel_rfl) ?_; (repeat (refine aops_step fun K1 hK1 => ?_; simp only [push_cast, Nat.reduceEqDiff, reduceCtorEq, Nat.reduceAdd, Nat.reduceMul, Nat.reduceSub, Nat.reduceLeDiff, Nat.reduceLT, Nat.reduceBEq, Nat.reducePow, Int.reduceEq, Int.reduceLT, Int.reduceLE, Int.reduceNeg, Int.reduceAdd, Int.reduceToNat, reduceIte, decide_true, decide_false]; (try simp (disch := omega) only [wrap64, wrap8]); (first | (refine hK1 _ ?_) | (refine ⟨by omega, hK1 _ ?_⟩) | (refine ⟨⟨by omega, by omega⟩, hK1 _ ?_⟩) | (refine ⟨⟨by omega, by omega, by omega⟩, hK1 _ ?_⟩)); clear hK1 K1)); refine aops_nil ?_) | (refine acode_seq ?_) | (refine acode_block ?_) | (refine acode_skip ?_) | (refine acode_exit ?_) | (refine acode_ret ?_) | (refine andThen_normal ?_) | (refine andThen_exit ?_) | (refine andThen_ret ?_) | (refine inBlock_normal ?_) | (refine inBlock_ret ?_) | (refine inBlock_same ?_) | (refine inBlock_other rfl ?_))
      refine acode_true (by simp only [push_cast, Nat.reduceEqDiff, reduceCtorEq, Nat.reduceAdd, Nat.reduceMul, Nat.reduceSub, Nat.reduceLeDiff, Nat.reduceLT, Nat.reduceBEq, Nat.reducePow, Int.reduceEq, Int.reduceLT, Int.reduceLE, Int.reduceNeg, Int.reduceAdd, Int.reduceToNat, reduceIte, decide_true, decide_false, c1]) ?_
      repeat (first | (refine acode_region_seq (by rw [hF]; kernel_rfl) ?_; (repeat (refine aops_step fun K1 hK1 => ?_; simp only [push_cast, Nat.reduceEqDiff, reduceCtorEq, Nat.reduceAdd, Nat.reduceMul, Nat.reduceSub, Nat.reduceLeDiff, Nat.reduceLT, Nat.reduceBEq, Nat.reducePow, Int.reduceEq, Int.reduceLT, Int.reduceLE, Int.reduceNeg, Int.reduceAdd, Int.reduceToNat, reduceIte, decide_true, decide_false]; (try simp (disch := omega) only [wrap64, wrap8]); (first | (refine hK1 _ ?_) | (refine ⟨by omega, hK1 _ ?_⟩) | (refine ⟨⟨by omega, by omega⟩, hK1 _ ?_⟩) | (refine ⟨⟨by omega, by omega, by omega⟩, hK1 _ ?_⟩)); clear hK1 K1)); refine aops_nil ?_) | (refine acode_region (by rw [hF]; kernel_rfl) ?_; (repeat (refine aops_step fun K1 hK1 => ?_; simp only [push_cast, Nat.reduceEqDiff, reduceCtorEq, Nat.reduceAdd, Nat.reduceMul, Nat.reduceSub, Nat.reduceLeDiff, Nat.reduceLT, Nat.reduceBEq, Nat.reducePow, Int.reduceEq, Int.reduceLT, Int.reduceLE, Int.reduceNeg, Int.reduceAdd, Int.reduceToNat, reduceIte, decide_true, decide_false]; (try simp (disch := omega) only [wrap64, wrap8]); (first | (refine hK1 _ ?_) | (refine ⟨by omega, hK1 _ ?_⟩) | (refine ⟨⟨by omega, by omega⟩, hK1 _ ?_⟩) | (refine ⟨⟨by omega, by omega, by omega⟩, hK1 _ ?_⟩)); clear hK1 K1)); refine aops_nil ?_) | (refine acode_seq ?_) | (refine acode_block ?_) | (refine acode_skip ?_) | (refine acode_exit ?_) | (refine acode_ret ?_) | (refine andThen_normal ?_) | (refine andThen_exit ?_) | (refine andThen_ret ?_) | (refine inBlock_normal ?_) | (refine inBlock_ret ?_) | (refine inBlock_same ?_) | (refine inBlock_other rfl ?_))
      refine (hQ _ ?_).2
      have h1 : ¬ DM.inD d.secs.length i := fun h => by have := h.1; omega
      simp only [DM.putD, DM.putE, DM.writeD, DM.writeE, c0, h1, if_true, if_false]
      simp only [push_cast, Nat.reduceEqDiff, reduceCtorEq, Nat.reduceAdd, Nat.reduceMul, Nat.reduceSub, Nat.reduceLeDiff, Nat.reduceLT, Nat.reduceBEq, Nat.reducePow, Int.reduceEq, Int.reduceLT, Int.reduceLE, Int.reduceNeg, Int.reduceAdd, Int.reduceToNat, reduceIte, decide_true, decide_false, c1]
    · by_cases c2 : (d.secs.length : Int) ≤ i
      · (repeat (refine aops_step fun K1 hK1 => ?_; simp only [push_cast, Nat.reduceEqDiff, reduceCtorEq, Nat.reduceAdd, Nat.reduceMul, Nat.reduceSub, Nat.reduceLeDiff, Nat.reduceLT, Nat.reduceBEq, Nat.reducePow, Int.reduceEq, Int.reduceLT, Int.reduceLE, Int.reduceNeg, Int.reduceAdd, Int.reduceToNat, reduceIte, decide_true, decide_false, e0, c1, c2]; (try simp (disch := omega) only [wrap64, wrap8]); (first | (refine hK1 _ ?_) | (refine ⟨by omega, hK1 _ ?_⟩) | (refine ⟨⟨by omega, by omega⟩, hK1 _ ?_⟩) | (refine ⟨⟨by omega, by omega, by omega⟩, hK1 _ ?_⟩)); clear hK1 K1)); refine aops_nil ?_
        repeat (first | (refine acode_region_seq (by rw [hF]; kernel_rfl) ?_; (repeat (refine aops_step fun K1 hK1 => ?_; simp only [push_cast, Nat.reduceEqDiff, reduceCtorEq, Nat.reduceAdd, Nat.reduceMul, Nat.reduceSub, Nat.reduceLeDiff, Nat.reduceLT, Nat.reduceBEq, Nat.reducePow, Int.reduceEq, Int.reduceLT, Int.reduceLE, Int.reduceNeg, Int.reduceAdd, Int.reduceToNat, reduceIte, decide_true, decide_false]; (try simp (disch := omega) only [wrap64, wrap8]); (first | (refine hK1 _ ?_) | (refine ⟨by omega, hK1 _ ?_⟩) | (refine ⟨⟨by omega, by omega⟩, hK1 _ ?_⟩) | (refine ⟨⟨by omega, by omega, by omega⟩, hK1 _ ?_⟩)); clear hK1 K1)); refine aops_nil ?_) | (refine acode_region (by rw [hF]; kernel_rfl) ?_; (repeat (refine aops_step fun K1 hK1 => ?_; simp only [push_cast, Nat.reduceEqDiff, reduceCtorEq, Nat.reduceAdd, Nat.reduceMul, Nat.reduceSub, Nat.reduceLeDiff, Nat.reduceLT, Nat.reduceBEq, Nat.reducePow, Int.reduceEq, Int.reduceLT, Int.reduceLE, Int.reduceNeg, Int.reduceAdd, Int.reduceToNat, reduceIte, decide_true, decide_false]; (try simp (disch := omega) only [wrap64, wrap8]); (first | (refine hK1 _ ?_) | (refine ⟨by omega, hK1 _ ?_⟩) | (refine ⟨⟨by omega, by omega⟩, hK1 _ ?_⟩) | (refine ⟨⟨by omega, by omega, by omega⟩, hK1 _ ?_⟩)); clear hK1 K1)); refine aops_nil ?_) | (refine acode_seq ?_) | (refine acode_block ?_) | (refine acode_skip ?_) | (refine acode_exit ?_) | (refine acode_ret ?_) | (refine andThen_normal ?_) | (refine andThen_exit ?_) | (refine andThen_ret ?_) | (refine inBlock_normal ?_) | (refine inBlock_ret ?_) | (refine inBlock_same ?_) | (refine inBlock_other rfl ?_))
        refine acode_true (by simp only [push_cast, Nat.reduceEqDiff, reduceCtorEq, Nat.reduceAdd, Nat.reduceMul, Nat.reduceSub, Nat.reduceLeDiff, Nat.reduceLT, Nat.reduceBEq, Nat.reducePow, Int.reduceEq, Int.reduceLT, Int.reduceLE, Int.reduceNeg, Int.reduceAdd, Int.reduceToNat, reduceIte, decide_true, decide_false, c1]) ?_
        repeat (first | (refine acode_region_seq (by rw [hF]; kernel_rfl) ?_; (repeat (refine aops_step fun K1 hK1 => ?_; simp only [push_cast, Nat.reduceEqDiff, reduceCtorEq, Nat.reduceAdd, Nat.reduceMul, Nat.reduceSub, Nat.reduceLeDiff, Nat.reduceLT, Nat.reduceBEq, Nat.reducePow, Int.reduceEq, Int.reduceLT, Int.reduceLE, Int.reduceNeg, Int.reduceAdd, Int.reduceToNat, reduceIte, decide_true, decide_false]; (try simp (disch := omega) only [wrap64, wrap8]); (first | (refine hK1 _ ?_) | (refine ⟨by omega, hK1 _ ?_⟩) | (refine ⟨⟨by omega, by omega⟩, hK1 _ ?_⟩) | (refine ⟨⟨by omega, by omega, by omega⟩, hK1 _ ?_⟩)); clear hK1 K1)); refine aops_nil ?_) | (refine acode_region (by rw [hF]; kernel_rfl) ?_; (repeat (refine aops_step fun K1 hK1 => ?_; simp only [push_cast, Nat.reduceEqDiff, reduceCtorEq, Nat.reduceAdd, Nat.reduceMul, Nat.reduceSub, Nat.reduceLeDiff, Nat.reduceLT, Nat.reduceBEq, Nat.reducePow, Int.reduceEq, Int.reduceLT, Int.reduceLE, Int.reduceNeg, Int.reduceAdd, Int.reduceToNat, reduceIte, decide_true, decide_false]; (try simp (disch := omega) only [wrap64, wrap8]); (first | (refine hK1 _ ?_) | (refine ⟨by omega, hK1 _ ?_⟩) | (refine ⟨⟨by omega, by omega⟩, hK1 _ ?_⟩) | (refine ⟨⟨by omega, by omega, by omega⟩, hK1 _ ?_⟩)); clear hK1 K1)); refine aops_nil ?_) | (refine acode_seq ?_) | (refine acode_block ?_) | (refine acode_skip ?_) | (refine acode_exit ?_) | (refine acode_ret ?_) | (refine andThen_normal ?_) | (refine andThen_exit ?_) | (refine andThen_ret ?_) | (refine inBlock_normal ?_) | (refine inBlock_ret ?_) | (refine inBlock_same ?_) | (refine inBlock_other rfl ?_))
        refine (hQ _ ?_).2
        have h1 : ¬ DM.inD d.secs.length i := fun h => by have := h.2; omega
        simp only [DM.putD, DM.putE, DM.writeD, DM.writeE, c0, h1, if_true, if_false]
        simp only [push_cast, Nat.reduceEqDiff, reduceCtorEq, Nat.reduceAdd, Nat.reduceMul, Nat.reduceSub, Nat.reduceLeDiff, Nat.reduceLT, Nat.reduceBEq, Nat.reducePow, Int.reduceEq, Int.reduceLT, Int.reduceLE, Int.reduceNeg, Int.reduceAdd, Int.reduceToNat, reduceIte, decide_true, decide_false, c1]
      · (repeat (refine aops_step fun K1 hK1 => ?_; simp only [push_cast, Nat.reduceEqDiff, reduceCtorEq, Nat.reduceAdd, Nat.reduceMul, Nat.reduceSub, Nat.reduceLeDiff, Nat.reduceLT, Nat.reduceBEq, Nat.reducePow, Int.reduceEq, Int.reduceLT, Int.reduceLE, Int.reduceNeg, Int.reduceAdd, Int.reduceToNat, reduceIte, decide_true, decide_false, e0, c1, c2]; (try simp (disch := omega) only [wrap64, wrap8]); (first | (refine hK1 _ ?_) | (refine ⟨by omega, hK1 _ ?_⟩) | (refine ⟨⟨by omega, by omega⟩, hK1 _ ?_⟩) | (refine ⟨⟨by omega, by omega, by omega⟩, hK1 _ ?_⟩)); clear hK1 K1)); refine aops_nil ?_
        repeat (first | (refine acode_region_seq (by rw [hF]; kernel_rfl) ?_; (repeat (refine aops_step fun K1 hK1 => ?_; simp only [push_cast, Nat.reduceEqDiff, reduceCtorEq, Nat.reduceAdd, Nat.reduceMul, Nat.reduceSub, Nat.reduceLeDiff, Nat.reduceLT, Nat.reduceBEq, Nat.reducePow, Int.reduceEq, Int.reduceLT, Int.reduceLE, Int.reduceNeg, Int.reduceAdd, Int.reduceToNat, reduceIte, decide_true, decide_false]; (try simp (disch := omega) only [wrap64, wrap8]); (first | (refine hK1 _ ?_) | (refine ⟨by omega, hK1 _ ?_⟩) | (refine ⟨⟨by omega, by omega⟩, hK1 _ ?_⟩) | (refine ⟨⟨by omega, by omega, by omega⟩, hK1 _ ?_⟩)); clear hK1 K1)); refine aops_nil ?_) | (refine acode_region (by rw [hF]; kernel_rfl) ?_; (repeat (refine aops_step fun K1 hK1 => ?_; simp only [push_cast, Nat.reduceEqDiff, reduceCtorEq, Nat.reduceAdd, Nat.reduceMul, Nat.reduceSub, Nat.reduceLeDiff, Nat.reduceLT, Nat.reduceBEq, Nat.reducePow, Int.reduceEq, Int.reduceLT, Int.reduceLE, Int.reduceNeg, Int.reduceAdd, Int.reduceToNat, reduceIte, decide_true, decide_false]; (try simp (disch := omega) only [wrap64, wrap8]); (first | (refine hK1 _ ?_) | (refine ⟨by omega, hK1 _ ?_⟩) | (refine ⟨⟨by omega, by omega⟩, hK1 _ ?_⟩) | (refine ⟨⟨by omega, by omega, by omega⟩, hK1 _ ?_⟩)); clear hK1 K1)); refine aops_nil ?_) | (refine acode_seq ?_) | (refine acode_block ?_) | (refine acode_skip ?_) | (refine acode_exit ?_) | (refine acode_ret ?_) | (refine andThen_normal ?_) | (refine andThen_exit ?_) | (refine andThen_ret ?_) | (refine inBlock_normal ?_) | (refine inBlock_ret ?_) | (refine inBlock_same ?_) | (refine inBlock_other rfl ?_))
        refine acode_false (by simp only [push_cast, Nat.reduceEqDiff, reduceCtorEq, Nat.reduceAdd, Nat.reduceMul, Nat.reduceSub, Nat.reduceLeDiff, Nat.reduceLT, Nat.reduceBEq, Nat.reducePow, Int.reduceEq, Int.reduceLT, Int.reduceLE, Int.reduceNeg, Int.reduceAdd, Int.reduceToNat, reduceIte, decide_true, decide_false, c1]) ?_
        have h1 : DM.inD d.secs.length i := ⟨by omega, by omega⟩
        by_cases c3 : (32 : Int) < (s.size : Int)
        · repeat (first | (refine acode_region_seq (by rw [hF]; kernel_rfl) ?_; (repeat (refine aops_step fun K1 hK1 => ?_; simp only [push_cast, Nat.reduceEqDiff, reduceCtorEq, Nat.reduceAdd, Nat.reduceMul, Nat.reduceSub, Nat.reduceLeDiff, Nat.reduceLT, Nat.reduceBEq, Nat.reducePow, Int.reduceEq, Int.reduceLT, Int.reduceLE, Int.reduceNeg, Int.reduceAdd, Int.reduceToNat, reduceIte, decide_true, decide_false, c3]; (try simp (disch := omega) only [wrap64, wrap8]); (first | (refine hK1 _ ?_) | (refine ⟨by omega, hK1 _ ?_⟩) | (refine ⟨⟨by omega, by omega⟩, hK1 _ ?_⟩) | (refine ⟨⟨by omega, by omega, by omega⟩, hK1 _ ?_⟩)); clear hK1 K1)); refine aops_nil ?_) | (refine acode_region (by rw [hF]; kernel_rfl) ?_; (repeat (refine aops_step fun K1 hK1 => ?_; simp only [push_cast, Nat.reduceEqDiff, reduceCtorEq, Nat.reduceAdd, Nat.reduceMul, Nat.reduceSub, Nat.reduceLeDiff, Nat.reduceLT, Nat.reduceBEq, Nat.reducePow, Int.reduceEq, Int.reduceLT, Int.reduceLE, Int.reduceNeg, Int.reduceAdd, Int.reduceToNat, reduceIte, decide_true, decide_false, c3]; (try simp (disch := omega) only [wrap64, wrap8]); (first | (refine hK1 _ ?_) | (refine ⟨by omega, hK1 _ ?_⟩) | (refine ⟨⟨by omega, by omega⟩, hK1 _ ?_⟩) | (refine ⟨⟨by omega, by omega, by omega⟩, hK1 _ ?_⟩)); clear hK1 K1)); refine aops_nil ?_) | (refine acode_seq ?_) | (refine acode_block ?_) | (refine acode_skip ?_) | (refine acode_exit ?_) | (refine acode_ret ?_) | (refine andThen_normal ?_) | (refine andThen_exit ?_) | (refine andThen_ret ?_) | (refine inBlock_normal ?_) | (refine inBlock_ret ?_) | (refine inBlock_same ?_) | (refine inBlock_other rfl ?_))
          refine acode_true (by simp only [push_cast, Nat.reduceEqDiff, reduceCtorEq, Nat.reduceAdd, Nat.reduceMul, Nat.reduceSub, Nat.reduceLeDiff, Nat.reduceLT, Nat.reduceBEq, Nat.reducePow, Int.reduceEq, Int.reduceLT, Int.reduceLE, Int.reduceNeg, Int.reduceAdd, Int.reduceToNat, reduceIte, decide_true, decide_false, c3]) ?_
          repeat (first | (refine acode_region_seq (by rw [hF]; kernel_rfl) ?_; (repeat (refine aops_step fun K1 hK1 => ?_; simp only [push_cast, Nat.reduceEqDiff, reduceCtorEq, Nat.reduceAdd, Nat.reduceMul, Nat.reduceSub, Nat.reduceLeDiff, Nat.reduceLT, Nat.reduceBEq, Nat.reducePow, Int.reduceEq, Int.reduceLT, Int.reduceLE, Int.reduceNeg, Int.reduceAdd, Int.reduceToNat, reduceIte, decide_true, decide_false]; (try simp (disch := omega) only [wrap64, wrap8]); (first | (refine hK1 _ ?_) | (refine ⟨by omega, hK1 _ ?_⟩) | (refine ⟨⟨by omega, by omega⟩, hK1 _ ?_⟩) | (refine ⟨⟨by omega, by omega, by omega⟩, hK1 _ ?_⟩)); clear hK1 K1)); refine aops_nil ?_) | (refine acode_region (by rw [hF]; kernel_rfl) ?_; (repeat (refine aops_step fun K1 hK1 => ?_; simp only [push_cast, Nat.reduceEqDiff, reduceCtorEq, Nat.reduceAdd, Nat.reduceMul, Nat.reduceSub, Nat.reduceLeDiff, Nat.reduceLT, Nat.reduceBEq, Nat.reducePow, Int.reduceEq, Int.reduceLT, Int.reduceLE, Int.reduceNeg, Int.reduceAdd, Int.reduceToNat, reduceIte, decide_true, decide_false]; (try simp (disch := omega) only [wrap64, wrap8]); (first | (refine hK1 _ ?_) | (refine ⟨by omega, hK1 _ ?_⟩) | (refine ⟨⟨by omega, by omega⟩, hK1 _ ?_⟩) | (refine ⟨⟨by omega, by omega, by omega⟩, hK1 _ ?_⟩)); clear hK1 K1)); refine aops_nil ?_) | (refine acode_seq ?_) | (refine acode_block ?_) | (refine acode_skip ?_) | (refine acode_exit ?_) | (refine acode_ret ?_) | (refine andThen_normal ?_) | (refine andThen_exit ?_) | (refine andThen_ret ?_) | (refine inBlock_normal ?_) | (refine inBlock_ret ?_) | (refine inBlock_same ?_) | (refine inBlock_other rfl ?_))
          refine (hQ _ ?_).2
          have h2 : 32 < s.size := by omega
          simp only [DM.putD, DM.putE, DM.writeD, DM.writeE, c0, h1, h2, if_true]
          simp only [push_cast, Nat.reduceEqDiff, reduceCtorEq, Nat.reduceAdd, Nat.reduceMul, Nat.reduceSub, Nat.reduceLeDiff, Nat.reduceLT, Nat.reduceBEq, Nat.reducePow, Int.reduceEq, Int.reduceLT, Int.reduceLE, Int.reduceNeg, Int.reduceAdd, Int.reduceToNat, reduceIte, decide_true, decide_false, c1]
        · repeat (first | (refine acode_region_seq (by rw [hF]; kernel_rfl) ?_; (repeat (refine aops_step fun K1 hK1 => ?_; simp only [push_cast, Nat.reduceEqDiff, reduceCtorEq, Nat.reduceAdd, Nat.reduceMul, Nat.reduceSub, Nat.reduceLeDiff, Nat.reduceLT, Nat.reduceBEq, Nat.reducePow, Int.reduceEq, Int.reduceLT, Int.reduceLE, Int.reduceNeg, Int.reduceAdd, Int.reduceToNat, reduceIte, decide_true, decide_false, c3]; (try simp (disch := omega) only [wrap64, wrap8]); (first | (refine hK1 _ ?_) | (refine ⟨by omega, hK1 _ ?_⟩) | (refine ⟨⟨by omega, by omega⟩, hK1 _ ?_⟩) | (refine ⟨⟨by omega, by omega, by omega⟩, hK1 _ ?_⟩)); clear hK1 K1)); refine aops_nil ?_) | (refine acode_region (by rw [hF]; kernel_rfl) ?_; (repeat (refine aops_step fun K1 hK1 => ?_; simp only [push_cast, Nat.reduceEqDiff, reduceCtorEq, Nat.reduceAdd, Nat.reduceMul, Nat.reduceSub, Nat.reduceLeDiff, Nat.reduceLT, Nat.reduceBEq, Nat.reducePow, Int.reduceEq, Int.reduceLT, Int.reduceLE, Int.reduceNeg, Int.reduceAdd, Int.reduceToNat, reduceIte, decide_true, decide_false, c3]; (try simp (disch := omega) only [wrap64, wrap8]); (first | (refine hK1 _ ?_) | (refine ⟨by omega, hK1 _ ?_⟩) | (refine ⟨⟨by omega, by omega⟩, hK1 _ ?_⟩) | (refine ⟨⟨by omega, by omega, by omega⟩, hK1 _ ?_⟩)); clear hK1 K1)); refine aops_nil ?_) | (refine acode_seq ?_) | (refine acode_block ?_) | (refine acode_skip ?_) | (refine acode_exit ?_) | (refine acode_ret ?_) | (refine andThen_normal ?_) | (refine andThen_exit ?_) | (refine andThen_ret ?_) | (refine inBlock_normal ?_) | (refine inBlock_ret ?_) | (refine inBlock_same ?_) | (refine inBlock_other rfl ?_))
          refine acode_false (by simp only [push_cast, Nat.reduceEqDiff, reduceCtorEq, Nat.reduceAdd, Nat.reduceMul, Nat.reduceSub, Nat.reduceLeDiff, Nat.reduceLT, Nat.reduceBEq, Nat.reducePow, Int.reduceEq, Int.reduceLT, Int.reduceLE, Int.reduceNeg, Int.reduceAdd, Int.reduceToNat, reduceIte, decide_true, decide_false, c3]) ?_
          repeat (first | (refine acode_region_seq (by rw [hF]; kernel_rfl) ?_; (repeat (refine aops_step fun K1 hK1 => ?_; simp only [push_cast, Nat.reduceEqDiff, reduceCtorEq, Nat.reduceAdd, Nat.reduceMul, Nat.reduceSub, Nat.reduceLeDiff, Nat.reduceLT, Nat.reduceBEq, Nat.reducePow, Int.reduceEq, Int.reduceLT, Int.reduceLE, Int.reduceNeg, Int.reduceAdd, Int.reduceToNat, reduceIte, decide_true, decide_false]; (try simp (disch := omega) only [wrap64, wrap8]); (first | (refine hK1 _ ?_) | (refine ⟨by omega, hK1 _ ?_⟩) | (refine ⟨⟨by omega, by omega⟩, hK1 _ ?_⟩) | (refine ⟨⟨by omega, by omega, by omega⟩, hK1 _ ?_⟩)); clear hK1 K1)); refine aops_nil ?_) | (refine acode_region (by rw [hF]; kernel_rfl) ?_; (repeat (refine aops_step fun K1 hK1 => ?_; simp only [push_cast, Nat.reduceEqDiff, reduceCtorEq, Nat.reduceAdd, Nat.reduceMul, Nat.reduceSub, Nat.reduceLeDiff, Nat.reduceLT, Nat.reduceBEq, Nat.reducePow, Int.reduceEq, Int.reduceLT, Int.reduceLE, Int.reduceNeg, Int.reduceAdd, Int.reduceToNat, reduceIte, decide_true, decide_false]; (try simp (disch := omega) only [wrap64, wrap8]); (first | (refine hK1 _ ?_) | (refine ⟨by omega, hK1 _ ?_⟩) | (refine ⟨⟨by omega, by omega⟩, hK1 _ ?_⟩) | (refine ⟨⟨by omega, by omega, by omega⟩, hK1 _ ?_⟩)); clear hK1 K1)); refine aops_nil ?_) | (refine acode_seq ?_) | (refine acode_block ?_) | (refine acode_skip ?_) | (refine acode_exit ?_) | (refine acode_ret ?_) | (refine andThen_normal ?_) | (refine andThen_exit ?_) | (refine andThen_ret ?_) | (refine inBlock_normal ?_) | (refine inBlock_ret ?_) | (refine inBlock_same ?_) | (refine inBlock_other rfl ?_))
          (first | (refine acode_region_seq (by rw [hF]; kernel_rfl) ?_) | (refine acode_region (by rw [hF]; kernel_rfl) ?_)); (repeat (refine aops_step fun K1 hK1 => ?_; simp only [push_cast, Nat.reduceEqDiff, reduceCtorEq, Nat.reduceAdd, Nat.reduceMul, Nat.reduceSub, Nat.reduceLeDiff, Nat.reduceLT, Nat.reduceBEq, Nat.reducePow, Int.reduceEq, Int.reduceLT, Int.reduceLE, Int.reduceNeg, Int.reduceAdd, Int.reduceToNat, reduceIte, decide_true, decide_false]; (try simp (disch := omega) only [wrap64, wrap8]); (first | (refine hK1 _ ?_) | (refine ⟨by omega, hK1 _ ?_⟩) | (refine ⟨⟨by omega, by omega⟩, hK1 _ ?_⟩) | (refine ⟨⟨by omega, by omega, by omega⟩, hK1 _ ?_⟩)); clear hK1 K1))
          refine aops_call (by simp only [push_cast, Nat.reduceEqDiff, reduceCtorEq, Nat.reduceAdd, Nat.reduceMul, Nat.reduceSub, Nat.reduceLeDiff, Nat.reduceLT, Nat.reduceBEq, Nat.reducePow, Int.reduceEq, Int.reduceLT, Int.reduceLE, Int.reduceNeg, Int.reduceAdd, Int.reduceToNat, reduceIte, decide_true, decide_false]) rfl (by simp only [push_cast, Nat.reduceEqDiff, reduceCtorEq, Nat.reduceAdd, Nat.reduceMul, Nat.reduceSub, Nat.reduceLeDiff, Nat.reduceLT, Nat.reduceBEq, Nat.reducePow, Int.reduceEq, Int.reduceLT, Int.reduceLE, Int.reduceNeg, Int.reduceAdd, Int.reduceToNat, reduceIte, decide_true, decide_false]) (by kernel_rfl) (by simp only [push_cast, Nat.reduceEqDiff, reduceCtorEq, Nat.reduceAdd, Nat.reduceMul, Nat.reduceSub, Nat.reduceLeDiff, Nat.reduceLT, Nat.reduceBEq, Nat.reducePow, Int.reduceEq, Int.reduceLT, Int.reduceLE, Int.reduceNeg, Int.reduceAdd, Int.reduceToNat, reduceIte, decide_true, decide_false]) (rfill_pc F.gst s hs) ?_
          (repeat (refine aops_step fun K1 hK1 => ?_; simp only [push_cast, Nat.reduceEqDiff, reduceCtorEq, Nat.reduceAdd, Nat.reduceMul, Nat.reduceSub, Nat.reduceLeDiff, Nat.reduceLT, Nat.reduceBEq, Nat.reducePow, Int.reduceEq, Int.reduceLT, Int.reduceLE, Int.reduceNeg, Int.reduceAdd, Int.reduceToNat, reduceIte, decide_true, decide_false]; (try simp (disch := omega) only [wrap64, wrap8]); (first | (refine hK1 _ ?_) | (refine ⟨by omega, hK1 _ ?_⟩) | (refine ⟨⟨by omega, by omega⟩, hK1 _ ?_⟩) | (refine ⟨⟨by omega, by omega, by omega⟩, hK1 _ ?_⟩)); clear hK1 K1)); refine aops_nil ?_
          repeat (first | (refine acode_region_seq (by rw [hF]; kernel_rfl) ?_; (repeat (refine aops_step fun K1 hK1 => ?_; simp only [push_cast, Nat.reduceEqDiff, reduceCtorEq, Nat.reduceAdd, Nat.reduceMul, Nat.reduceSub, Nat.reduceLeDiff, Nat.reduceLT, Nat.reduceBEq, Nat.reducePow, Int.reduceEq, Int.reduceLT, Int.reduceLE, Int.reduceNeg, Int.reduceAdd, Int.reduceToNat, reduceIte, decide_true, decide_false]; (try simp (disch := omega) only [wrap64, wrap8]); (first | (refine hK1 _ ?_) | (refine ⟨by omega, hK1 _ ?_⟩) | (refine ⟨⟨by omega, by omega⟩, hK1 _ ?_⟩) | (refine ⟨⟨by omega, by omega, by omega⟩, hK1 _ ?_⟩)); clear hK1 K1)); refine aops_nil ?_) | (refine acode_region (by rw [hF]; kernel_rfl) ?_; (repeat (refine aops_step fun K1 hK1 => ?_; simp only [push_cast, Nat.reduceEqDiff, reduceCtorEq, Nat.reduceAdd, Nat.reduceMul, Nat.reduceSub, Nat.reduceLeDiff, Nat.reduceLT, Nat.reduceBEq, Nat.reducePow, Int.reduceEq, Int.reduceLT, Int.reduceLE, Int.reduceNeg, Int.reduceAdd, Int.reduceToNat, reduceIte, decide_true, decide_false]; (try simp (disch := omega) only [wrap64, wrap8]); (first | (refine hK1 _ ?_) | (refine ⟨by omega, hK1 _ ?_⟩) | (refine ⟨⟨by omega, by omega⟩, hK1 _ ?_⟩) | (refine ⟨⟨by omega, by omega, by omega⟩, hK1 _ ?_⟩)); clear hK1 K1)); refine aops_nil ?_) | (refine acode_seq ?_) | (refine acode_block ?_) | (refine acode_skip ?_) | (refine acode_exit ?_) | (refine acode_ret ?_) | (refine andThen_normal ?_) | (refine andThen_exit ?_) | (refine andThen_ret ?_) | (refine inBlock_normal ?_) | (refine inBlock_ret ?_) | (refine inBlock_same ?_) | (refine inBlock_other rfl ?_))
          refine (hQ _ ?_).2
          have h2 : ¬ 32 < s.size := by omega
          simp only [DM.putD, DM.putE, DM.writeD, DM.writeE, c0, h1, h2, if_true, if_false, DM.addW, ← cacD_snoc]
          simp only [push_cast, Nat.reduceEqDiff, reduceCtorEq, Nat.reduceAdd, Nat.reduceMul, Nat.reduceSub, Nat.reduceLeDiff, Nat.reduceLT, Nat.reduceBEq, Nat.reducePow, Int.reduceEq, Int.reduceLT, Int.reduceLE, Int.reduceNeg, Int.reduceAdd, Int.reduceToNat, reduceIte, decide_true, decide_false, c1]
  · have e0 : decide (DM.mayD d) = false := decide_eq_false c0
    (repeat (refine aops_step fun K1 hK1 => ?_; simp only [push_cast, Nat.reduceEqDiff, reduceCtorEq, Nat.reduceAdd, Nat.reduceMul, Nat.reduceSub, Nat.reduceLeDiff, Nat.reduceLT, Nat.reduceBEq, Nat.reducePow, Int.reduceEq, Int.reduceLT, Int.reduceLE, Int.reduceNeg, Int.reduceAdd, Int.reduceToNat, reduceIte, decide_true, decide_false, e0]; (try simp (disch := omega) only [wrap64, wrap8]); (first | (refine hK1 _ ?_) | (refine ⟨by omega, hK1 _ ?_⟩) | (refine ⟨⟨by omega, by omega⟩, hK1 _ ?_⟩) | (refine ⟨⟨by omega, by omega, by omega⟩, hK1 _ ?_⟩)); clear hK1 K1)); refine aops_nil ?_
    repeat (first | (refine acode_region_seq (by rw [hF]; kernel_rfl) ?_; (repeat (refine aops_step fun K1 hK1 => ?_; simp only [push_cast, Nat.reduceEqDiff, reduceCtorEq, Nat.reduceAdd, Nat.reduceMul, Nat.reduceSub, Nat.reduceLeDiff, Nat.reduceLT, Nat.reduceBEq, Nat.reducePow, Int.reduceEq, Int.reduceLT, Int.reduceLE, Int.reduceNeg, Int.reduceAdd, Int.reduceToNat, reduceIte, decide_true, decide_false]; (try simp (disch := omega) only [wrap64, wrap8]); (first | (refine hK1 _ ?_) | (refine ⟨by omega, hK1 _ ?_⟩) | (refine ⟨⟨by omega, by omega⟩, hK1 _ ?_⟩) | (refine ⟨⟨by omega, by omega, by omega⟩, hK1 _ ?_⟩)); clear hK1 K1)); refine aops_nil ?_) | (refine acode_region (by rw [hF]; kernel_rfl) ?_; (repeat (refine aops_step fun K1 hK1 => ?_; simp only [push_cast, Nat.reduceEqDiff, reduceCtorEq, Nat.reduceAdd, Nat.reduceMul, Nat.reduceSub, Nat.reduceLeDiff, Nat.reduceLT, Nat.reduceBEq, Nat.reducePow, Int.reduceEq, Int.reduceLT, Int.reduceLE, Int.reduceNeg, Int.reduceAdd, Int.reduceToNat, reduceIte, decide_true, decide_false]; (try simp (disch := omega) only [wrap64, wrap8]); (first | (refine hK1 _ ?_) | (refine ⟨by omega, hK1 _ ?_⟩) | (refine ⟨⟨by omega, by omega⟩, hK1 _ ?_⟩) | (refine ⟨⟨by omega, by omega, by omega⟩, hK1 _ ?_⟩)); clear hK1 K1)); refine aops_nil ?_) | (refine acode_seq ?_) | (refine acode_block ?_) | (refine acode_skip ?_) | (refine acode_exit ?_) | (refine acode_ret ?_) | (refine andThen_normal ?_) | (refine andThen_exit ?_) | (refine andThen_ret ?_) | (refine inBlock_normal ?_) | (refine inBlock_ret ?_) | (refine inBlock_same ?_) | (refine inBlock_other rfl ?_))
    refine acode_true (by simp only [push_cast, Nat.reduceEqDiff, reduceCtorEq, Nat.reduceAdd, Nat.reduceMul, Nat.reduceSub, Nat.reduceLeDiff, Nat.reduceLT, Nat.reduceBEq, Nat.reducePow, Int.reduceEq, Int.reduceLT, Int.reduceLE, Int.reduceNeg, Int.reduceAdd, Int.reduceToNat, reduceIte, decide_true, decide_false, e0]) ?_
    repeat (first | (refine acode_region_seq (by rw [hF]; kernel_rfl) ?_; (repeat (refine aops_step fun K1 hK1 => ?_; simp only [push_cast, Nat.reduceEqDiff, reduceCtorEq, Nat.reduceAdd, Nat.reduceMul, Nat.reduceSub, Nat.reduceLeDiff, Nat.reduceLT, Nat.reduceBEq, Nat.reducePow, Int.reduceEq, Int.reduceLT, Int.reduceLE, Int.reduceNeg, Int.reduceAdd, Int.reduceToNat, reduceIte, decide_true, decide_false]; (try simp (disch := omega) only [wrap64, wrap8]); (first | (refine hK1 _ ?_) | (refine ⟨by omega, hK1 _ ?_⟩) | (refine ⟨⟨by omega, by omega⟩, hK1 _ ?_⟩) | (refine ⟨⟨by omega, by omega, by omega⟩, hK1 _ ?_⟩)); clear hK1 K1)); refine aops_nil ?_) | (refine acode_region (by rw [hF]; kernel_rfl) ?_; (repeat (refine aops_step fun K1 hK1 => ?_; simp only [push_cast, Nat.reduceEqDiff, reduceCtorEq, Nat.reduceAdd, Nat.reduceMul, Nat.reduceSub, Nat.reduceLeDiff, Nat.reduceLT, Nat.reduceBEq, Nat.reducePow, Int.reduceEq, Int.reduceLT, Int.reduceLE, Int.reduceNeg, Int.reduceAdd, Int.reduceToNat, reduceIte, decide_true, decide_false]; (try simp (disch := omega) only [wrap64, wrap8]); (first | (refine hK1 _ ?_) | (refine ⟨by omega, hK1 _ ?_⟩) | (refine ⟨⟨by omega, by omega⟩, hK1 _ ?_⟩) | (refine ⟨⟨by omega, by omega, by omega⟩, hK1 _ ?_⟩)); clear hK1 K1)); refine aops_nil ?_) | (refine acode_seq ?_) | (refine acode_block ?_) | (refine acode_skip ?_) | (refine acode_exit ?_) | (refine acode_ret ?_) | (refine andThen_normal ?_) | (refine andThen_exit ?_) | (refine andThen_ret ?_) | (refine inBlock_normal ?_) | (refine inBlock_ret ?_) | (refine inBlock_same ?_) | (refine inBlock_other rfl ?_))
    refine (hQ _ ?_).2
    simp only [DM.putD, DM.putE, c0, if_false]
    simp only [push_cast, Nat.reduceEqDiff, reduceCtorEq, Nat.reduceAdd, Nat.reduceMul, Nat.reduceSub, Nat.reduceLeDiff, Nat.reduceLT, Nat.reduceBEq, Nat.reducePow, Int.reduceEq, Int.reduceLT, Int.reduceLE, Int.reduceNeg, Int.reduceAdd, Int.reduceToNat, reduceIte, decide_true, decide_false, c0]
set_option maxHeartbeats 1600000 in
theorem rget_pc {G : World → Prop} (hG : Stab G) (d : DM.Dk) (i : Int) (b1 : d.secs.length ≤ 1000000) (b2 : d.cache.length ≤ 1000000) : PCalls Try.prog G 19 [.one (dk1 d), valD (.int .i64 i)] (.tup [.c (valC (.string (DM.getB d i))), .c (valC (.int .i64 (DM.getE d i)))]) := by
  unfold dk1
  refine pcalls_of Try.func19 rfl (by simp [Try.ntmps19]) hG ?_; intro F hF hFG Q hQ; rw [Try.ntmps19] at hF; rw [Try.results19] at hQ
  repeat (first | (refine acode_region_seq (by rw [hF]; kernel_rfl) ?_; (repeat (refine aops_step fun K1 hK1 => ?_; simp only [push_cast, Nat.reduceEqDiff, reduceCtorEq, Nat.reduceAdd, Nat.reduceMul, Nat.reduceSub, Nat.reduceLeDiff, Nat.reduceLT, Nat.reduceBEq, Nat.reducePow, Int.reduceEq, Int.reduceLT, Int.reduceLE, Int.reduceNeg, Int.reduceAdd, Int.reduceToNat, reduceIte, decide_true, decide_false]; (try simp (disch := omega) only [wrap64, wrap8]); (first | (refine hK1 _ ?_) | (refine ⟨by omega, hK1 _ ?_⟩) | (refine ⟨⟨by omega, by omega⟩, hK1 _ ?_⟩) | (refine ⟨⟨by omega, by omega, by omega⟩, hK1 _ ?_⟩)); clear hK1 K1)); refine aops_nil ?_) | (refine acode_region (by rw [hF]; kernel_rfl) ?_; (repeat (refine aops_step fun K1 hK1 => ?_; simp only [push_cast, Nat.reduceEqDiff, reduceCtorEq, Nat.reduceAdd, Nat.reduceMul, Nat.reduceSub, Nat.reduceLeDiff, Nat.reduceLT, Nat.reduceBEq, Nat.reducePow, Int.reduceEq, Int.reduceLT, Int.reduceLE, Int.reduceNeg, Int.reduceAdd, Int.reduceToNat, reduceIte, decide_true, decide_false]; (try simp (disch := omega) only [wrap64, wrap8]); (first | (refine hK1 _ ?_) | (refine ⟨by omega, hK1 _ ?_⟩) | (refine ⟨⟨by omega, by omega⟩, hK1 _ ?_⟩) | (refine ⟨⟨by omega, by omega, by omega⟩, hK1 _ ?_⟩)); clear hK1 K1)); refine aops_nil ?_) | (refine acode_seq ?_) | (refine acode_block ?_) | (refine acode_skip ?_) | (refine acode_exit ?_) | (refine acode_ret ?_) | (refine andThen_normal ?_) | (refine andThen_exit ?_) | (refine andThen_ret ?_) | (refine inBlock_normal ?_) | (refine inBlock_ret ?_) | (refine inBlock_same ?_) | (refine inBlock_other rfl ?_))
  (first | (refine acode_region_seq (by rw [hF]; kernel_rfl) ?_) | (refine acode_region (by rw [hF]; kernel_rfl) ?_)); (repeat (refine aops_step fun K1 hK1 => ?_; simp only [push_cast, Nat.reduceEqDiff, reduceCtorEq, Nat.reduceAdd, Nat.reduceMul, Nat.reduceSub, Nat.reduceLeDiff, Nat.reduceLT, Nat.reduceBEq, Nat.reducePow, Int.reduceEq, Int.reduceLT, Int.reduceLE, Int.reduceNeg, Int.reduceAdd, Int.reduceToNat, reduceIte, decide_true, decide_false]; (try simp (disch := omega) only [wrap64, wrap8]); (first | (refine hK1 _ ?_) | (refine ⟨by omega, hK1 _ ?_⟩) | (refine ⟨⟨by omega, by omega⟩, hK1 _ ?_⟩) | (refine ⟨⟨by omega, by omega, by omega⟩, hK1 _ ?_⟩)); clear hK1 K1))
  refine aops_call (by simp only [push_cast, Nat.reduceEqDiff, reduceCtorEq, Nat.reduceAdd, Nat.reduceMul, Nat.reduceSub, Nat.reduceLeDiff, Nat.reduceLT, Nat.reduceBEq, Nat.reducePow, Int.reduceEq, Int.reduceLT, Int.reduceLE, Int.reduceNeg, Int.reduceAdd, Int.reduceToNat, reduceIte, decide_true, decide_false, dk1]) rfl (by simp only [push_cast, Nat.reduceEqDiff, reduceCtorEq, Nat.reduceAdd, Nat.reduceMul, Nat.reduceSub, Nat.reduceLeDiff, Nat.reduceLT, Nat.reduceBEq, Nat.reducePow, Int.reduceEq, Int.reduceLT, Int.reduceLE, Int.reduceNeg, Int.reduceAdd, Int.reduceToNat, reduceIte, decide_true, decide_false, dk1]) (by kernel_rfl) (by simp only [push_cast, Nat.reduceEqDiff, reduceCtorEq, Nat.reduceAdd, Nat.reduceMul, Nat.reduceSub, Nat.reduceLeDiff, Nat.reduceLT, Nat.reduceBEq, Nat.reducePow, Int.reduceEq, Int.reduceLT, Int.reduceLE, Int.reduceNeg, Int.reduceAdd, Int.reduceToNat, reduceIte, decide_true, decide_false, dk1]) (rmay_pc F.gst d b1 b2) ?_
  by_cases c0 : DM.mayD d
  · have e0 : decide (DM.mayD d) = true := decide_eq_true c0
    by_cases c1 : i < 0
    · (repeat (refine aops_step fun K1 hK1 => ?_; simp only [push_cast, Nat.reduceEqDiff, reduceCtorEq, Nat.reduceAdd, Nat.reduceMul, Nat.reduceSub, Nat.reduceLeDiff, Nat.reduceLT, Nat.reduceBEq, Nat.reducePow, Int.reduceEq, Int.reduceLT, Int.reduceLE, Int.reduceNeg, Int.reduceAdd, Int.reduceToNat, reduceIte, decide_true, decide_false, e0, c1]; (try simp (disch := omega) only [wrap64, wrap8]); (first | (refine hK1 _ ?_) | (refine ⟨by omega, hK1 _ ?_⟩) | (refine ⟨⟨by omega, by omega⟩, hK1 _ ?_⟩) | (refine ⟨⟨by omega, by omega, by omega⟩, hK1 _ ?_⟩)); clear hK1 K1)); refine aops_nil ?_
      repeat (first | (refine acode_region_seq (by rw [hF]; kernel_rfl) ?_; (repeat (refine aops_step fun K1 hK1 => ?_; simp only [push_cast, Nat.reduceEqDiff, reduceCtorEq, Nat.reduceAdd, Nat.reduceMul, Nat.reduceSub, Nat.reduceLeDiff, Nat.reduceLT, Nat.reduceBEq, Nat.reducePow, Int.reduceEq, Int.reduceLT, Int.reduceLE, Int.reduceNeg, Int.reduceAdd, Int.reduceToNat, reduceIte, decide_true, decide_false]; (try simp (disch := omega) only [wrap64, wrap8]); (first | (refine hK1 _ ?_) | (refine ⟨by omega, hK1 _ ?_⟩) | (refine ⟨⟨by omega, by omega⟩, hK1 _ ?_⟩) | (refine ⟨⟨by omega, by omega, by omega⟩, hK1 _ ?_⟩)); clear hK1 K1)); refine aops_nil ?_) | (refine acode_region (by rw [hF]; kernel_rfl) ?_; (repeat (refine aops_step fun K1 hK1 => ?_; simp only [push_cast, Nat.reduceEqDiff, reduceCtorEq, Nat.reduceAdd, Nat.reduceMul, Nat.reduceSub, Nat.reduceLeDiff, Nat.reduceLT, Nat.reduceBEq, Nat.reducePow, Int.reduceEq, Int.reduceLT, Int.reduceLE, Int.reduceNeg, Int.reduceAdd, Int.reduceToNat, reduceIte, decide_true, decide_false]; (try simp (disch := omega) only [wrap64, wrap8]); (first | (refine hK1 _ ?_) | (refine ⟨by omega, hK1 _ ?_⟩) | (refine ⟨⟨by omega, by omega⟩, hK1 _ ?_⟩) | (refine ⟨⟨by omega, by omega, by omega⟩, hK1 _ ?_⟩)); clear hK1 K1)); refine aops_nil ?_) | (refine acode_seq ?_) | (refine acode_block ?_) | (refine acode_skip ?_) | (refine acode_exit ?_) | (refine acode_ret ?_) | (refine andThen_normal ?_) | (refine andThen_exit ?_) | (refine andThen_ret ?_) | (refine inBlock_normal ?_) | (refine inBlock_ret ?_) | (refine inBlock_same ?_) | (refine inBlock_other rfl ?_))
      refine acode_true (by simp only [push_cast, Nat.reduceEqDiff, reduceCtorEq, Nat.reduceAdd, Nat.reduceMul, Nat.reduceSub, Nat.reduceLeDiff, Nat.reduceLT, Nat.reduceBEq, Nat.reducePow, Int.reduceEq, Int.reduceLT, Int.reduceLE, Int.reduceNeg, Int.reduceAdd, Int.reduceToNat, reduceIte, decide_true, decide_false, c1]) ?_
      repeat (first | (refine acode_region_seq (by rw [hF]; kernel_rfl) ?_; (repeat (refine aops_step fun K1 hK1 => ?_; simp only [push_cast, Nat.reduceEqDiff, reduceCtorEq, Nat.reduceAdd, Nat.reduceMul, Nat.reduceSub, Nat.reduceLeDiff, Nat.reduceLT, Nat.reduceBEq, Nat.reducePow, Int.reduceEq, Int.reduceLT, Int.reduceLE, Int.reduceNeg, Int.reduceAdd, Int.reduceToNat, reduceIte, decide_true, decide_false]; (try simp (disch := omega) only [wrap64, wrap8]); (first | (refine hK1 _ ?_) | (refine ⟨by omega, hK1 _ ?_⟩) | (refine ⟨⟨by omega, by omega⟩, hK1 _ ?_⟩) | (refine ⟨⟨by omega, by omega, by omega⟩, hK1 _ ?_⟩)); clear hK1 K1)); refine aops_nil ?_) | (refine acode_region (by rw [hF]; kernel_rfl) ?_; (repeat (refine aops_step fun K1 hK1 => ?_; simp only [push_cast, Nat.reduceEqDiff, reduceCtorEq, Nat.reduceAdd, Nat.reduceMul, Nat.reduceSub, Nat.reduceLeDiff, Nat.reduceLT, Nat.reduceBEq, Nat.reducePow, Int.reduceEq, Int.reduceLT, Int.reduceLE, Int.reduceNeg, Int.reduceAdd, Int.reduceToNat, reduceIte, decide_true, decide_false]; (try simp (disch := omega) only [wrap64, wrap8]); (first | (refine hK1 _ ?_) | (refine ⟨by omega, hK1 _ ?_⟩) | (refine ⟨⟨by omega, by omega⟩, hK1 _ ?_⟩) | (refine ⟨⟨by omega, by omega, by omega⟩, hK1 _ ?_⟩)); clear hK1 K1)); refine aops_nil ?_) | (refine acode_seq ?_) | (refine acode_block ?_) | (refine acode_skip ?_) | (refine acode_exit ?_) | (refine acode_ret ?_) | (refine andThen_normal ?_) | (refine andThen_exit ?_) | (refine andThen_ret ?_) | (refine inBlock_normal ?_) | (refine inBlock_ret ?_) | (refine inBlock_same ?_) | (refine inBlock_other rfl ?_))
      refine (hQ _ ?_).2
      have h1 : ¬ DM.getOk d i := fun h => by have := h.2.1; omega
      simp only [DM.getB, DM.getE, h1, if_false]
      simp only [push_cast, Nat.reduceEqDiff, reduceCtorEq, Nat.reduceAdd, Nat.reduceMul, Nat.reduceSub, Nat.reduceLeDiff, Nat.reduceLT, Nat.reduceBEq, Nat.reducePow, Int.reduceEq, Int.reduceLT, Int.reduceLE, Int.reduceNeg, Int.reduceAdd, Int.reduceToNat, reduceIte, decide_true, decide_false, c1]
    · by_cases c2 : (d.secs.length : Int) ≤ i
      · (repeat (refine aops_step fun K1 hK1 => ?_; simp only [push_cast, Nat.reduceEqDiff, reduceCtorEq, Nat.reduceAdd, Nat.reduceMul, Nat.reduceSub, Nat.reduceLeDiff, Nat.reduceLT, Nat.reduceBEq, Nat.reducePow, Int.reduceEq, Int.reduceLT, Int.reduceLE, Int.reduceNeg, Int.reduceAdd, Int.reduceToNat, reduceIte, decide_true, decide_false, e0, c1, c2]; (try simp (disch := omega) only [wrap64, wrap8]); (first | (refine hK1 _ ?_) | (refine ⟨by omega, hK1 _ ?_⟩) | (refine ⟨⟨by omega, by omega⟩, hK1 _ ?_⟩) | (refine ⟨⟨by omega, by omega, by omega⟩, hK1 _ ?_⟩)); clear hK1 K1)); refine aops_nil ?_
        repeat (first | (refine acode_region_seq (by rw [hF]; kernel_rfl) ?_; (repeat (refine aops_step fun K1 hK1 => ?_; simp only [push_cast, Nat.reduceEqDiff, reduceCtorEq, Nat.reduceAdd, Nat.reduceMul, Nat.reduceSub, Nat.reduceLeDiff, Nat.reduceLT, Nat.reduceBEq, Nat.reducePow, Int.reduceEq, Int.reduceLT, Int.reduceLE, Int.reduceNeg, Int.reduceAdd, Int.reduceToNat, reduceIte, decide_true, decide_false]; (try simp (disch := omega) only [wrap64, wrap8]); (first | (refine hK1 _ ?_) | (refine ⟨by omega, hK1 _ ?_⟩) | (refine ⟨⟨by omega, by omega⟩, hK1 _ ?_⟩) | (refine ⟨⟨by omega, by omega, by omega⟩, hK1 _ ?_⟩)); clear hK1 K1)); refine aops_nil ?_) | (refine acode_region (by rw [hF]; kernel_rfl) ?_; (repeat (refine aops_step fun K1 hK1 => ?_; simp only [push_cast, Nat.reduceEqDiff, reduceCtorEq, Nat.reduceAdd, Nat.reduceMul, Nat.reduceSub, Nat.reduceLeDiff, Nat.reduceLT, Nat.reduceBEq, Nat.reducePow, Int.reduceEq, Int.reduceLT, Int.reduceLE, Int.reduceNeg, Int.reduceAdd, Int.reduceToNat, reduceIte, decide_true, decide_false]; (try simp (disch := omega) only [wrap64, wrap8]); (first | (refine hK1 _ ?_) | (refine ⟨by omega, hK1 _ ?_⟩) | (refine ⟨⟨by omega, by omega⟩, hK1 _ ?_⟩) | (refine ⟨⟨by omega, by omega, by omega⟩, hK1 _ ?_⟩)); clear hK1 K1)); refine aops_nil ?_) | (refine acode_seq ?_) | (refine acode_block ?_) | (refine acode_skip ?_) | (refine acode_exit ?_) | (refine acode_ret ?_) | (refine andThen_normal ?_) | (refine andThen_exit ?_) | (refine andThen_ret ?_) | (refine inBlock_normal ?_) | (refine inBlock_ret ?_) | (refine inBlock_same ?_) | (refine inBlock_other rfl ?_))
        refine acode_true (by simp only [push_cast, Nat.reduceEqDiff, reduceCtorEq, Nat.reduceAdd, Nat.reduceMul, Nat.reduceSub, Nat.reduceLeDiff, Nat.reduceLT, Nat.reduceBEq, Nat.reducePow, Int.reduceEq, Int.reduceLT, Int.reduceLE, Int.reduceNeg, Int.reduceAdd, Int.reduceToNat, reduceIte, decide_true, decide_false, c1]) ?_
        repeat (first | (refine acode_region_seq (by rw [hF]; kernel_rfl) ?_; (repeat (refine aops_step fun K1 hK1 => ?_; simp only [push_cast, Nat.reduceEqDiff, reduceCtorEq, Nat.reduceAdd, Nat.reduceMul, Nat.reduceSub, Nat.reduceLeDiff, Nat.reduceLT, Nat.reduceBEq, Nat.reducePow, Int.reduceEq, Int.reduceLT, Int.reduceLE, Int.reduceNeg, Int.reduceAdd, Int.reduceToNat, reduceIte, decide_true, decide_false]; (try simp (disch := omega) only [wrap64, wrap8]); (first | (refine hK1 _ ?_) | (refine ⟨by omega, hK1 _ ?_⟩) | (refine ⟨⟨by omega, by omega⟩, hK1 _ ?_⟩) | (refine ⟨⟨by omega, by omega, by omega⟩, hK1 _ ?_⟩)); clear hK1 K1)); refine aops_nil ?_) | (refine acode_region (by rw [hF]; kernel_rfl) ?_; (repeat (refine aops_step fun K1 hK1 => ?_; simp only [push_cast, Nat.reduceEqDiff, reduceCtorEq, Nat.reduceAdd, Nat.reduceMul, Nat.reduceSub, Nat.reduceLeDiff, Nat.reduceLT, Nat.reduceBEq, Nat.reducePow, Int.reduceEq, Int.reduceLT, Int.reduceLE, Int.reduceNeg, Int.reduceAdd, Int.reduceToNat, reduceIte, decide_true, decide_false]; (try simp (disch := omega) only [wrap64, wrap8]); (first | (refine hK1 _ ?_) | (refine ⟨by omega, hK1 _ ?_⟩) | (refine ⟨⟨by omega, by omega⟩, hK1 _ ?_⟩) | (refine ⟨⟨by omega, by omega, by omega⟩, hK1 _ ?_⟩)); clear hK1 K1)); refine aops_nil ?_) | (refine acode_seq ?_) | (refine acode_block ?_) | (refine acode_skip ?_) | (refine acode_exit ?_) | (refine acode_ret ?_) | (refine andThen_normal ?_) | (refine andThen_exit ?_) | (refine andThen_ret ?_) | (refine inBlock_normal ?_) | (refine inBlock_ret ?_) | (refine inBlock_same ?_) | (refine inBlock_other rfl ?_))
        refine (hQ _ ?_).2
        have h1 : ¬ DM.getOk d i := fun h => by have := h.2.2; omega
        simp only [DM.getB, DM.getE, h1, if_false]
        simp only [push_cast, Nat.reduceEqDiff, reduceCtorEq, Nat.reduceAdd, Nat.reduceMul, Nat.reduceSub, Nat.reduceLeDiff, Nat.reduceLT, Nat.reduceBEq, Nat.reducePow, Int.reduceEq, Int.reduceLT, Int.reduceLE, Int.reduceNeg, Int.reduceAdd, Int.reduceToNat, reduceIte, decide_true, decide_false, c1]
      · (repeat (refine aops_step fun K1 hK1 => ?_; simp only [push_cast, Nat.reduceEqDiff, reduceCtorEq, Nat.reduceAdd, Nat.reduceMul, Nat.reduceSub, Nat.reduceLeDiff, Nat.reduceLT, Nat.reduceBEq, Nat.reducePow, Int.reduceEq, Int.reduceLT, Int.reduceLE, Int.reduceNeg, Int.reduceAdd, Int.reduceToNat, reduceIte, decide_true, decide_false, e0, c1, c2]; (try simp (disch := omega) only [wrap64, wrap8]); (first | (refine hK1 _ ?_) | (refine ⟨by omega, hK1 _ ?_⟩) | (refine ⟨⟨by omega, by omega⟩, hK1 _ ?_⟩) | (refine ⟨⟨by omega, by omega, by omega⟩, hK1 _ ?_⟩)); clear hK1 K1)); refine aops_nil ?_
        repeat (first | (refine acode_region_seq (by rw [hF]; kernel_rfl) ?_; (repeat (refine aops_step fun K1 hK1 => ?_; simp only [push_cast, Nat.reduceEqDiff, reduceCtorEq, Nat.reduceAdd, Nat.reduceMul, Nat.reduceSub, Nat.reduceLeDiff, Nat.reduceLT, Nat.reduceBEq, Nat.reducePow, Int.reduceEq, Int.reduceLT, Int.reduceLE, Int.reduceNeg, Int.reduceAdd, Int.reduceToNat, reduceIte, decide_true, decide_false]; (try simp (disch := omega) only [wrap64, wrap8]); (first | (refine hK1 _ ?_) | (refine ⟨by omega, hK1 _ ?_⟩) | (refine ⟨⟨by omega, by omega⟩, hK1 _ ?_⟩) | (refine ⟨⟨by omega, by omega, by omega⟩, hK1 _ ?_⟩)); clear hK1 K1)); refine aops_nil ?_) | (refine acode_region (by rw [hF]; kernel_rfl) ?_; (repeat (refine aops_step fun K1 hK1 => ?_; simp only [push_cast, Nat.reduceEqDiff, reduceCtorEq, Nat.reduceAdd, Nat.reduceMul, Nat.reduceSub, Nat.reduceLeDiff, Nat.reduceLT, Nat.reduceBEq, Nat.reducePow, Int.reduceEq, Int.reduceLT, Int.reduceLE, Int.reduceNeg, Int.reduceAdd, Int.reduceToNat, reduceIte, decide_true, decide_false]; (try simp (disch := omega) only [wrap64, wrap8]); (first | (refine hK1 _ ?_) | (refine ⟨by omega, hK1 _ ?_⟩) | (refine ⟨⟨by omega, by omega⟩, hK1 _ ?_⟩) | (refine ⟨⟨by omega, by omega, by omega⟩, hK1 _ ?_⟩)); clear hK1 K1)); refine aops_nil ?_) | (refine acode_seq ?_) | (refine acode_block ?_) | (refine acode_skip ?_) | (refine acode_exit ?_) | (refine acode_ret ?_) | (refine andThen_normal ?_) | (refine andThen_exit ?_) | (refine andThen_ret ?_) | (refine inBlock_normal ?_) | (refine inBlock_ret ?_) | (refine inBlock_same ?_) | (refine inBlock_other rfl ?_))
        refine acode_false (by simp only [push_cast, Nat.reduceEqDiff, reduceCtorEq, Nat.reduceAdd, Nat.reduceMul, Nat.reduceSub, Nat.reduceLeDiff, Nat.reduceLT, Nat.reduceBEq, Nat.reducePow, Int.reduceEq, Int.reduceLT, Int.reduceLE, Int.reduceNeg, Int.reduceAdd, Int.reduceToNat, reduceIte, decide_true, decide_false, c1]) ?_
        have h1 : DM.getOk d i := ⟨c0, by omega, by omega⟩
        obtain ⟨p, rfl⟩ : ∃ p : Nat, i = (p : Int) := ⟨i.toNat, by omega⟩
        have hp : p < d.secs.length := by omega
        have hg := secD_get hp
        repeat (first | (refine acode_region_seq (by rw [hF]; kernel_rfl) ?_; (repeat (refine aops_step fun K1 hK1 => ?_; simp only [push_cast, Nat.reduceEqDiff, reduceCtorEq, Nat.reduceAdd, Nat.reduceMul, Nat.reduceSub, Nat.reduceLeDiff, Nat.reduceLT, Nat.reduceBEq, Nat.reducePow, Int.reduceEq, Int.reduceLT, Int.reduceLE, Int.reduceNeg, Int.reduceAdd, Int.reduceToNat, reduceIte, decide_true, decide_false, hg]; (try simp (disch := omega) only [wrap64, wrap8]); (first | (refine hK1 _ ?_) | (refine ⟨by omega, hK1 _ ?_⟩) | (refine ⟨⟨by omega, by omega⟩, hK1 _ ?_⟩) | (refine ⟨⟨by omega, by omega, by omega⟩, hK1 _ ?_⟩)); clear hK1 K1)); refine aops_nil ?_) | (refine acode_region (by rw [hF]; kernel_rfl) ?_; (repeat (refine aops_step fun K1 hK1 => ?_; simp only [push_cast, Nat.reduceEqDiff, reduceCtorEq, Nat.reduceAdd, Nat.reduceMul, Nat.reduceSub, Nat.reduceLeDiff, Nat.reduceLT, Nat.reduceBEq, Nat.reducePow, Int.reduceEq, Int.reduceLT, Int.reduceLE, Int.reduceNeg, Int.reduceAdd, Int.reduceToNat, reduceIte, decide_true, decide_false, hg]; (try simp (disch := omega) only [wrap64, wrap8]); (first | (refine hK1 _ ?_) | (refine ⟨by omega, hK1 _ ?_⟩) | (refine ⟨⟨by omega, by omega⟩, hK1 _ ?_⟩) | (refine ⟨⟨by omega, by omega, by omega⟩, hK1 _ ?_⟩)); clear hK1 K1)); refine aops_nil ?_) | (refine acode_seq ?_) | (refine acode_block ?_) | (refine acode_skip ?_) | (refine acode_exit ?_) | (refine acode_ret ?_) | (refine andThen_normal ?_) | (refine andThen_exit ?_) | (refine andThen_ret ?_) | (refine inBlock_normal ?_) | (refine inBlock_ret ?_) | (refine inBlock_same ?_) | (refine inBlock_other rfl ?_))
        have hB : DM.getB d (p : Int) = DM.lastOf d.secs[p] d.cache (p : Int) := by
          unfold DM.getB; rw [if_pos h1]; simp [List.getD, hp]
        have hE : DM.getE d (p : Int) = 0 := if_pos h1
        refine acode_loop (fun n σ => ∃ k : Nat, k ≤ d.cache.length ∧ n = d.cache.length - k ∧ σ = St.of [(2, .one (.c (.box 2 0))), (1, valD (.int .i64 p)), (7, valD (.int .i64 k)), (6, valD (.string (DM.lastOf d.secs[p] (d.cache.take k) (p : Int))))] [(2, (25, dkC d))] []) d.cache.length (St.of [(2, .one (.c (.box 2 0))), (1, valD (.int .i64 p)), (7, valD (.int .i64 0)), (6, valD (.string d.secs[p]))] [(2, (25, dkC d))] []) ⟨0, Nat.zero_le _, by simp, by simp [DM.lastOf]⟩ (by (refine Le.of ?_ ?_ ?_ <;> simp only [List.not_mem_nil, false_implies, implies_true, and_true, true_and, push_cast, Nat.reduceEqDiff, reduceCtorEq, Nat.reduceAdd, Nat.reduceMul, Nat.reduceSub, Nat.reduceLeDiff, Nat.reduceLT, Nat.reduceBEq, Nat.reducePow, Int.reduceEq, Int.reduceLT, Int.reduceLE, Int.reduceNeg, Int.reduceAdd, Int.reduceToNat, reduceIte, decide_true, decide_false])) ?_
        rintro n σ ⟨k, hk, rfl, rfl⟩
        by_cases hkn : (k : Int) < (d.cache.length : Int)
        · have hkd : k < d.cache.length := by omega
          have hg := cacD_get hkd
          have htk : DM.lastOf d.secs[p] (d.cache.take (k + 1)) (p : Int) = if d.cache[k].1 = (p : Int) then d.cache[k].2 else DM.lastOf d.secs[p] (d.cache.take k) (p : Int) := by
            unfold DM.lastOf; rw [← List.take_append_getElem hkd, List.foldl_append]; rfl
          repeat (first | (refine acode_region_seq (by rw [hF]; kernel_rfl) ?_; (repeat (refine aops_step fun K1 hK1 => ?_; simp only [push_cast, Nat.reduceEqDiff, reduceCtorEq, Nat.reduceAdd, Nat.reduceMul, Nat.reduceSub, Nat.reduceLeDiff, Nat.reduceLT, Nat.reduceBEq, Nat.reducePow, Int.reduceEq, Int.reduceLT, Int.reduceLE, Int.reduceNeg, Int.reduceAdd, Int.reduceToNat, reduceIte, decide_true, decide_false, hkn]; (try simp (disch := omega) only [wrap64, wrap8]); (first | (refine hK1 _ ?_) | (refine ⟨by omega, hK1 _ ?_⟩) | (refine ⟨⟨by omega, by omega⟩, hK1 _ ?_⟩) | (refine ⟨⟨by omega, by omega, by omega⟩, hK1 _ ?_⟩)); clear hK1 K1)); refine aops_nil ?_) | (refine acode_region (by rw [hF]; kernel_rfl) ?_; (repeat (refine aops_step fun K1 hK1 => ?_; simp only [push_cast, Nat.reduceEqDiff, reduceCtorEq, Nat.reduceAdd, Nat.reduceMul, Nat.reduceSub, Nat.reduceLeDiff, Nat.reduceLT, Nat.reduceBEq, Nat.reducePow, Int.reduceEq, Int.reduceLT, Int.reduceLE, Int.reduceNeg, Int.reduceAdd, Int.reduceToNat, reduceIte, decide_true, decide_false, hkn]; (try simp (disch := omega) only [wrap64, wrap8]); (first | (refine hK1 _ ?_) | (refine ⟨by omega, hK1 _ ?_⟩) | (refine ⟨⟨by omega, by omega⟩, hK1 _ ?_⟩) | (refine ⟨⟨by omega, by omega, by omega⟩, hK1 _ ?_⟩)); clear hK1 K1)); refine aops_nil ?_) | (refine acode_seq ?_) | (refine acode_block ?_) | (refine acode_skip ?_) | (refine acode_exit ?_) | (refine acode_ret ?_) | (refine andThen_normal ?_) | (refine andThen_exit ?_) | (refine andThen_ret ?_) | (refine inBlock_normal ?_) | (refine inBlock_ret ?_) | (refine inBlock_same ?_) | (refine inBlock_other rfl ?_))
          refine acode_true (by simp only [push_cast, Nat.reduceEqDiff, reduceCtorEq, Nat.reduceAdd, Nat.reduceMul, Nat.reduceSub, Nat.reduceLeDiff, Nat.reduceLT, Nat.reduceBEq, Nat.reducePow, Int.reduceEq, Int.reduceLT, Int.reduceLE, Int.reduceNeg, Int.reduceAdd, Int.reduceToNat, reduceIte, decide_true, decide_false, hkn]) ?_
          by_cases c : d.cache[k].1 = (p : Int)
          · rw [if_pos c] at htk
            repeat (first | (refine acode_region_seq (by rw [hF]; kernel_rfl) ?_; (repeat (refine aops_step fun K1 hK1 => ?_; simp only [push_cast, Nat.reduceEqDiff, reduceCtorEq, Nat.reduceAdd, Nat.reduceMul, Nat.reduceSub, Nat.reduceLeDiff, Nat.reduceLT, Nat.reduceBEq, Nat.reducePow, Int.reduceEq, Int.reduceLT, Int.reduceLE, Int.reduceNeg, Int.reduceAdd, Int.reduceToNat, reduceIte, decide_true, decide_false, hg, c]; (try simp (disch := omega) only [wrap64, wrap8]); (first | (refine hK1 _ ?_) | (refine ⟨by omega, hK1 _ ?_⟩) | (refine ⟨⟨by omega, by omega⟩, hK1 _ ?_⟩) | (refine ⟨⟨by omega, by omega, by omega⟩, hK1 _ ?_⟩)); clear hK1 K1)); refine aops_nil ?_) | (refine acode_region (by rw [hF]; kernel_rfl) ?_; (repeat (refine aops_step fun K1 hK1 => ?_; simp only [push_cast, Nat.reduceEqDiff, reduceCtorEq, Nat.reduceAdd, Nat.reduceMul, Nat.reduceSub, Nat.reduceLeDiff, Nat.reduceLT, Nat.reduceBEq, Nat.reducePow, Int.reduceEq, Int.reduceLT, Int.reduceLE, Int.reduceNeg, Int.reduceAdd, Int.reduceToNat, reduceIte, decide_true, decide_false, hg, c]; (try simp (disch := omega) only [wrap64, wrap8]); (first | (refine hK1 _ ?_) | (refine ⟨by omega, hK1 _ ?_⟩) | (refine ⟨⟨by omega, by omega⟩, hK1 _ ?_⟩) | (refine ⟨⟨by omega, by omega, by omega⟩, hK1 _ ?_⟩)); clear hK1 K1)); refine aops_nil ?_) | (refine acode_seq ?_) | (refine acode_block ?_) | (refine acode_skip ?_) | (refine acode_exit ?_) | (refine acode_ret ?_) | (refine andThen_normal ?_) | (refine andThen_exit ?_) | (refine andThen_ret ?_) | (refine inBlock_normal ?_) | (refine inBlock_ret ?_) | (refine inBlock_same ?_) | (refine inBlock_other rfl ?_))
            refine acode_true (by simp only [push_cast, Nat.reduceEqDiff, reduceCtorEq, Nat.reduceAdd, Nat.reduceMul, Nat.reduceSub, Nat.reduceLeDiff, Nat.reduceLT, Nat.reduceBEq, Nat.reducePow, Int.reduceEq, Int.reduceLT, Int.reduceLE, Int.reduceNeg, Int.reduceAdd, Int.reduceToNat, reduceIte, decide_true, decide_false, c]) ?_
            repeat (first | (refine acode_region_seq (by rw [hF]; kernel_rfl) ?_; (repeat (refine aops_step fun K1 hK1 => ?_; simp only [push_cast, Nat.reduceEqDiff, reduceCtorEq, Nat.reduceAdd, Nat.reduceMul, Nat.reduceSub, Nat.reduceLeDiff, Nat.reduceLT, Nat.reduceBEq, Nat.reducePow, Int.reduceEq, Int.reduceLT, Int.reduceLE, Int.reduceNeg, Int.reduceAdd, Int.reduceToNat, reduceIte, decide_true, decide_false, hg, c]; (try simp (disch := omega) only [wrap64, wrap8]); (first | (refine hK1 _ ?_) | (refine ⟨by omega, hK1 _ ?_⟩) | (refine ⟨⟨by omega, by omega⟩, hK1 _ ?_⟩) | (refine ⟨⟨by omega, by omega, by omega⟩, hK1 _ ?_⟩)); clear hK1 K1)); refine aops_nil ?_) | (refine acode_region (by rw [hF]; kernel_rfl) ?_; (repeat (refine aops_step fun K1 hK1 => ?_; simp only [push_cast, Nat.reduceEqDiff, reduceCtorEq, Nat.reduceAdd, Nat.reduceMul, Nat.reduceSub, Nat.reduceLeDiff, Nat.reduceLT, Nat.reduceBEq, Nat.reducePow, Int.reduceEq, Int.reduceLT, Int.reduceLE, Int.reduceNeg, Int.reduceAdd, Int.reduceToNat, reduceIte, decide_true, decide_false, hg, c]; (try simp (disch := omega) only [wrap64, wrap8]); (first | (refine hK1 _ ?_) | (refine ⟨by omega, hK1 _ ?_⟩) | (refine ⟨⟨by omega, by omega⟩, hK1 _ ?_⟩) | (refine ⟨⟨by omega, by omega, by omega⟩, hK1 _ ?_⟩)); clear hK1 K1)); refine aops_nil ?_) | (refine acode_seq ?_) | (refine acode_block ?_) | (refine acode_skip ?_) | (refine acode_exit ?_) | (refine acode_ret ?_) | (refine andThen_normal ?_) | (refine andThen_exit ?_) | (refine andThen_ret ?_) | (refine inBlock_normal ?_) | (refine inBlock_ret ?_) | (refine inBlock_same ?_) | (refine inBlock_other rfl ?_))
            refine ⟨_, _, ?_, ⟨k + 1, hkd, rfl, rfl⟩, by (refine Le.of ?_ ?_ ?_ <;> simp only [List.not_mem_nil, false_implies, implies_true, and_true, true_and, push_cast, Nat.reduceEqDiff, reduceCtorEq, Nat.reduceAdd, Nat.reduceMul, Nat.reduceSub, Nat.reduceLeDiff, Nat.reduceLT, Nat.reduceBEq, Nat.reducePow, Int.reduceEq, Int.reduceLT, Int.reduceLE, Int.reduceNeg, Int.reduceAdd, Int.reduceToNat, reduceIte, decide_true, decide_false, htk])⟩
            omega
          · rw [if_neg c] at htk
            repeat (first | (refine acode_region_seq (by rw [hF]; kernel_rfl) ?_; (repeat (refine aops_step fun K1 hK1 => ?_; simp only [push_cast, Nat.reduceEqDiff, reduceCtorEq, Nat.reduceAdd, Nat.reduceMul, Nat.reduceSub, Nat.reduceLeDiff, Nat.reduceLT, Nat.reduceBEq, Nat.reducePow, Int.reduceEq, Int.reduceLT, Int.reduceLE, Int.reduceNeg, Int.reduceAdd, Int.reduceToNat, reduceIte, decide_true, decide_false, hg, c]; (try simp (disch := omega) only [wrap64, wrap8]); (first | (refine hK1 _ ?_) | (refine ⟨by omega, hK1 _ ?_⟩) | (refine ⟨⟨by omega, by omega⟩, hK1 _ ?_⟩) | (refine ⟨⟨by omega, by omega, by omega⟩, hK1 _ ?_⟩)); clear hK1 K1)); refine aops_nil ?_) | (refine acode_region (by rw [hF]; kernel_rfl) ?_; (repeat (refine aops_step fun K1 hK1 => ?_; simp only [push_cast, Nat.reduceEqDiff, reduceCtorEq, Nat.reduceAdd, Nat.reduceMul, Nat.reduceSub, Nat.reduceLeDiff, Nat.reduceLT, Nat.reduceBEq, Nat.reducePow, Int.reduceEq, Int.reduceLT, Int.reduceLE, Int.reduceNeg, Int.reduceAdd, Int.reduceToNat, reduceIte, decide_true, decide_false, hg, c]; (try simp (disch := omega) only [wrap64, wrap8]); (first | (refine hK1 _ ?_) | (refine ⟨by omega, hK1 _ ?_⟩) | (refine ⟨⟨by omega, by omega⟩, hK1 _ ?_⟩) | (refine ⟨⟨by omega, by omega, by omega⟩, hK1 _ ?_⟩)); clear hK1 K1)); refine aops_nil ?_) | (refine acode_seq ?_) | (refine acode_block ?_) | (refine acode_skip ?_) | (refine acode_exit ?_) | (refine acode_ret ?_) | (refine andThen_normal ?_) | (refine andThen_exit ?_) | (refine andThen_ret ?_) | (refine inBlock_normal ?_) | (refine inBlock_ret ?_) | (refine inBlock_same ?_) | (refine inBlock_other rfl ?_))
            refine acode_false (by simp only [push_cast, Nat.reduceEqDiff, reduceCtorEq, Nat.reduceAdd, Nat.reduceMul, Nat.reduceSub, Nat.reduceLeDiff, Nat.reduceLT, Nat.reduceBEq, Nat.reducePow, Int.reduceEq, Int.reduceLT, Int.reduceLE, Int.reduceNeg, Int.reduceAdd, Int.reduceToNat, reduceIte, decide_true, decide_false, c]) ?_
            repeat (first | (refine acode_region_seq (by rw [hF]; kernel_rfl) ?_; (repeat (refine aops_step fun K1 hK1 => ?_; simp only [push_cast, Nat.reduceEqDiff, reduceCtorEq, Nat.reduceAdd, Nat.reduceMul, Nat.reduceSub, Nat.reduceLeDiff, Nat.reduceLT, Nat.reduceBEq, Nat.reducePow, Int.reduceEq, Int.reduceLT, Int.reduceLE, Int.reduceNeg, Int.reduceAdd, Int.reduceToNat, reduceIte, decide_true, decide_false, hg, c]; (try simp (disch := omega) only [wrap64, wrap8]); (first | (refine hK1 _ ?_) | (refine ⟨by omega, hK1 _ ?_⟩) | (refine ⟨⟨by omega, by omega⟩, hK1 _ ?_⟩) | (refine ⟨⟨by omega, by omega, by omega⟩, hK1 _ ?_⟩)); clear hK1 K1)); refine aops_nil ?_) | (refine acode_region (by rw [hF]; kernel_rfl) ?_; (repeat (refine aops_step fun K1 hK1 => ?_; simp only [push_cast, Nat.reduceEqDiff, reduceCtorEq, Nat.reduceAdd, Nat.reduceMul, Nat.reduceSub, Nat.reduceLeDiff, Nat.reduceLT, Nat.reduceBEq, Nat.reducePow, Int.reduceEq, Int.reduceLT, Int.reduceLE, Int.reduceNeg, Int.reduceAdd, Int.reduceToNat, reduceIte, decide_true, decide_false, hg, c]; (try simp (disch := omega) only [wrap64, wrap8]); (first | (refine hK1 _ ?_) | (refine ⟨by omega, hK1 _ ?_⟩) | (refine ⟨⟨by omega, by omega⟩, hK1 _ ?_⟩) | (refine ⟨⟨by omega, by omega, by omega⟩, hK1 _ ?_⟩)); clear hK1 K1)); refine aops_nil ?_) | (refine acode_seq ?_) | (refine acode_block ?_) | (refine acode_skip ?_) | (refine acode_exit ?_) | (refine acode_ret ?_) | (refine andThen_normal ?_) | (refine andThen_exit ?_) | (refine andThen_ret ?_) | (refine inBlock_normal ?_) | (refine inBlock_ret ?_) | (refine inBlock_same ?_) | (refine inBlock_other rfl ?_))
            refine ⟨_, _, ?_, ⟨k + 1, hkd, rfl, rfl⟩, by (refine Le.of ?_ ?_ ?_ <;> simp only [List.not_mem_nil, false_implies, implies_true, and_true, true_and, push_cast, Nat.reduceEqDiff, reduceCtorEq, Nat.reduceAdd, Nat.reduceMul, Nat.reduceSub, Nat.reduceLeDiff, Nat.reduceLT, Nat.reduceBEq, Nat.reducePow, Int.reduceEq, Int.reduceLT, Int.reduceLE, Int.reduceNeg, Int.reduceAdd, Int.reduceToNat, reduceIte, decide_true, decide_false, htk])⟩
            omega
        · have htk : d.cache.take k = d.cache := List.take_of_length_le (by omega)
          repeat (first | (refine acode_region_seq (by rw [hF]; kernel_rfl) ?_; (repeat (refine aops_step fun K1 hK1 => ?_; simp only [push_cast, Nat.reduceEqDiff, reduceCtorEq, Nat.reduceAdd, Nat.reduceMul, Nat.reduceSub, Nat.reduceLeDiff, Nat.reduceLT, Nat.reduceBEq, Nat.reducePow, Int.reduceEq, Int.reduceLT, Int.reduceLE, Int.reduceNeg, Int.reduceAdd, Int.reduceToNat, reduceIte, decide_true, decide_false, hkn]; (try simp (disch := omega) only [wrap64, wrap8]); (first | (refine hK1 _ ?_) | (refine ⟨by omega, hK1 _ ?_⟩) | (refine ⟨⟨by omega, by omega⟩, hK1 _ ?_⟩) | (refine ⟨⟨by omega, by omega, by omega⟩, hK1 _ ?_⟩)); clear hK1 K1)); refine aops_nil ?_) | (refine acode_region (by rw [hF]; kernel_rfl) ?_; (repeat (refine aops_step fun K1 hK1 => ?_; simp only [push_cast, Nat.reduceEqDiff, reduceCtorEq, Nat.reduceAdd, Nat.reduceMul, Nat.reduceSub, Nat.reduceLeDiff, Nat.reduceLT, Nat.reduceBEq, Nat.reducePow, Int.reduceEq, Int.reduceLT, Int.reduceLE, Int.reduceNeg, Int.reduceAdd, Int.reduceToNat, reduceIte, decide_true, decide_false, hkn]; (try simp (disch := omega) only [wrap64, wrap8]); (first | (refine hK1 _ ?_) | (refine ⟨by omega, hK1 _ ?_⟩) | (refine ⟨⟨by omega, by omega⟩, hK1 _ ?_⟩) | (refine ⟨⟨by omega, by omega, by omega⟩, hK1 _ ?_⟩)); clear hK1 K1)); refine aops_nil ?_) | (refine acode_seq ?_) | (refine acode_block ?_) | (refine acode_skip ?_) | (refine acode_exit ?_) | (refine acode_ret ?_) | (refine andThen_normal ?_) | (refine andThen_exit ?_) | (refine andThen_ret ?_) | (refine inBlock_normal ?_) | (refine inBlock_ret ?_) | (refine inBlock_same ?_) | (refine inBlock_other rfl ?_))
          refine acode_false (by simp only [push_cast, Nat.reduceEqDiff, reduceCtorEq, Nat.reduceAdd, Nat.reduceMul, Nat.reduceSub, Nat.reduceLeDiff, Nat.reduceLT, Nat.reduceBEq, Nat.reducePow, Int.reduceEq, Int.reduceLT, Int.reduceLE, Int.reduceNeg, Int.reduceAdd, Int.reduceToNat, reduceIte, decide_true, decide_false, hkn]) ?_
          repeat (first | (refine acode_region_seq (by rw [hF]; kernel_rfl) ?_; (repeat (refine aops_step fun K1 hK1 => ?_; simp only [push_cast, Nat.reduceEqDiff, reduceCtorEq, Nat.reduceAdd, Nat.reduceMul, Nat.reduceSub, Nat.reduceLeDiff, Nat.reduceLT, Nat.reduceBEq, Nat.reducePow, Int.reduceEq, Int.reduceLT, Int.reduceLE, Int.reduceNeg, Int.reduceAdd, Int.reduceToNat, reduceIte, decide_true, decide_false]; (try simp (disch := omega) only [wrap64, wrap8]); (first | (refine hK1 _ ?_) | (refine ⟨by omega, hK1 _ ?_⟩) | (refine ⟨⟨by omega, by omega⟩, hK1 _ ?_⟩) | (refine ⟨⟨by omega, by omega, by omega⟩, hK1 _ ?_⟩)); clear hK1 K1)); refine aops_nil ?_) | (refine acode_region (by rw [hF]; kernel_rfl) ?_; (repeat (refine aops_step fun K1 hK1 => ?_; simp only [push_cast, Nat.reduceEqDiff, reduceCtorEq, Nat.reduceAdd, Nat.reduceMul, Nat.reduceSub, Nat.reduceLeDiff, Nat.reduceLT, Nat.reduceBEq, Nat.reducePow, Int.reduceEq, Int.reduceLT, Int.reduceLE, Int.reduceNeg, Int.reduceAdd, Int.reduceToNat, reduceIte, decide_true, decide_false]; (try simp (disch := omega) only [wrap64, wrap8]); (first | (refine hK1 _ ?_) | (refine ⟨by omega, hK1 _ ?_⟩) | (refine ⟨⟨by omega, by omega⟩, hK1 _ ?_⟩) | (refine ⟨⟨by omega, by omega, by omega⟩, hK1 _ ?_⟩)); clear hK1 K1)); refine aops_nil ?_) | (refine acode_seq ?_) | (refine acode_block ?_) | (refine acode_skip ?_) | (refine acode_exit ?_) | (refine acode_ret ?_) | (refine andThen_normal ?_) | (refine andThen_exit ?_) | (refine andThen_ret ?_) | (refine inBlock_normal ?_) | (refine inBlock_ret ?_) | (refine inBlock_same ?_) | (refine inBlock_other rfl ?_))
          refine (hQ _ ?_).2
          simp only [push_cast, Nat.reduceEqDiff, reduceCtorEq, Nat.reduceAdd, Nat.reduceMul, Nat.reduceSub, Nat.reduceLeDiff, Nat.reduceLT, Nat.reduceBEq, Nat.reducePow, Int.reduceEq, Int.reduceLT, Int.reduceLE, Int.reduceNeg, Int.reduceAdd, Int.reduceToNat, reduceIte, decide_true, decide_false, hB, hE, htk]
  · have e0 : decide (DM.mayD d) = false := decide_eq_false c0
    (repeat (refine aops_step fun K1 hK1 => ?_; simp only [push_cast, Nat.reduceEqDiff, reduceCtorEq, Nat.reduceAdd, Nat.reduceMul, Nat.reduceSub, Nat.reduceLeDiff, Nat.reduceLT, Nat.reduceBEq, Nat.reducePow, Int.reduceEq, Int.reduceLT, Int.reduceLE, Int.reduceNeg, Int.reduceAdd, Int.reduceToNat, reduceIte, decide_true, decide_false, e0]; (try simp (disch := omega) only [wrap64, wrap8]); (first | (refine hK1 _ ?_) | (refine ⟨by omega, hK1 _ ?_⟩) | (refine ⟨⟨by omega, by omega⟩, hK1 _ ?_⟩) | (refine ⟨⟨by omega, by omega, by omega⟩, hK1 _ ?_⟩)); clear hK1 K1)); refine aops_nil ?_
    repeat (first | (refine acode_region_seq (by rw [hF]; kernel_rfl) ?_; (repeat (refine aops_step fun K1 hK1 => ?_; simp only [push_cast, Nat.reduceEqDiff, reduceCtorEq, Nat.reduceAdd, Nat.reduceMul, Nat.reduceSub, Nat.reduceLeDiff, Nat.reduceLT, Nat.reduceBEq, Nat.reducePow, Int.reduceEq, Int.reduceLT, Int.reduceLE, Int.reduceNeg, Int.reduceAdd, Int.reduceToNat, reduceIte, decide_true, decide_false]; (try simp (disch := omega) only [wrap64, wrap8]); (first | (refine hK1 _ ?_) | (refine ⟨by omega, hK1 _ ?_⟩) | (refine ⟨⟨by omega, by omega⟩, hK1 _ ?_⟩) | (refine ⟨⟨by omega, by omega, by omega⟩, hK1 _ ?_⟩)); clear hK1 K1)); refine aops_nil ?_) | (refine acode_region (by rw [hF]; kernel_rfl) ?_; (repeat (refine aops_step fun K1 hK1 => ?_; simp only [push_cast, Nat.reduceEqDiff, reduceCtorEq, Nat.reduceAdd, Nat.reduceMul, Nat.reduceSub, Nat.reduceLeDiff, Nat.reduceLT, Nat.reduceBEq, Nat.reducePow, Int.reduceEq, Int.reduceLT, Int.reduceLE, Int.reduceNeg, Int.reduceAdd, Int.reduceToNat, reduceIte, decide_true, decide_false]; (try simp (disch := omega) only [wrap64, wrap8]); (first | (refine hK1 _ ?_) | (refine ⟨by omega, hK1 _ ?_⟩) | (refine ⟨⟨by omega, by omega⟩, hK1 _ ?_⟩) | (refine ⟨⟨by omega, by omega, by omega⟩, hK1 _ ?_⟩)); clear hK1 K1)); refine aops_nil ?_) | (refine acode_seq ?_) | (refine acode_block ?_) | (refine acode_skip ?_) | (refine acode_exit ?_) | (refine acode_ret ?_) | (refine andThen_normal ?_) | (refine andThen_exit ?_) | (refine andThen_ret ?_) | (refine inBlock_normal ?_) | (refine inBlock_ret ?_) | (refine inBlock_same ?_) | (refine inBlock_other rfl ?_))
    refine acode_true (by simp only [push_cast, Nat.reduceEqDiff, reduceCtorEq, Nat.reduceAdd, Nat.reduceMul, Nat.reduceSub, Nat.reduceLeDiff, Nat.reduceLT, Nat.reduceBEq, Nat.reducePow, Int.reduceEq, Int.reduceLT, Int.reduceLE, Int.reduceNeg, Int.reduceAdd, Int.reduceToNat, reduceIte, decide_true, decide_false, e0]) ?_
    repeat (first | (refine acode_region_seq (by rw [hF]; kernel_rfl) ?_; (repeat (refine aops_step fun K1 hK1 => ?_; simp only [push_cast, Nat.reduceEqDiff, reduceCtorEq, Nat.reduceAdd, Nat.reduceMul, Nat.reduceSub, Nat.reduceLeDiff, Nat.reduceLT, Nat.reduceBEq, Nat.reducePow, Int.reduceEq, Int.reduceLT, Int.reduceLE, Int.reduceNeg, Int.reduceAdd, Int.reduceToNat, reduceIte, decide_true, decide_false]; (try simp (disch := omega) only [wrap64, wrap8]); (first | (refine hK1 _ ?_) | (refine ⟨by omega, hK1 _ ?_⟩) | (refine ⟨⟨by omega, by omega⟩, hK1 _ ?_⟩) | (refine ⟨⟨by omega, by omega, by omega⟩, hK1 _ ?_⟩)); clear hK1 K1)); refine aops_nil ?_) | (refine acode_region (by rw [hF]; kernel_rfl) ?_; (repeat (refine aops_step fun K1 hK1 => ?_; simp only [push_cast, Nat.reduceEqDiff, reduceCtorEq, Nat.reduceAdd, Nat.reduceMul, Nat.reduceSub, Nat.reduceLeDiff, Nat.reduceLT, Nat.reduceBEq, Nat.reducePow, Int.reduceEq, Int.reduceLT, Int.reduceLE, Int.reduceNeg, Int.reduceAdd, Int.reduceToNat, reduceIte, decide_true, decide_false]; (try simp (disch := omega) only [wrap64, wrap8]); (first | (refine hK1 _ ?_) | (refine ⟨by omega, hK1 _ ?_⟩) | (refine ⟨⟨by omega, by omega⟩, hK1 _ ?_⟩) | (refine ⟨⟨by omega, by omega, by omega⟩, hK1 _ ?_⟩)); clear hK1 K1)); refine aops_nil ?_) | (refine acode_seq ?_) | (refine acode_block ?_) | (refine acode_skip ?_) | (refine acode_exit ?_) | (refine acode_ret ?_) | (refine andThen_normal ?_) | (refine andThen_exit ?_) | (refine andThen_ret ?_) | (refine inBlock_normal ?_) | (refine inBlock_ret ?_) | (refine inBlock_same ?_) | (refine inBlock_other rfl ?_))
    refine (hQ _ ?_).2
    have h1 : ¬ DM.getOk d i := fun h => c0 h.1
    simp only [DM.getB, DM.getE, h1, if_false]
    simp only [push_cast, Nat.reduceEqDiff, reduceCtorEq, Nat.reduceAdd, Nat.reduceMul, Nat.reduceSub, Nat.reduceLeDiff, Nat.reduceLT, Nat.reduceBEq, Nat.reducePow, Int.reduceEq, Int.reduceLT, Int.reduceLE, Int.reduceNeg, Int.reduceAdd, Int.reduceToNat, reduceIte, decide_true, decide_false, c0]
end Go.Proofs.Ytnoegkhkeeameaa.AM

/- The document's answers of layer 1, by the plain machine: Crash. -/
namespace Go.Proofs.Ytnoegkhkeeameaa.AM
open Go.RowKit
set_option linter.unusedVariables false
set_option linter.unusedSimpArgs false
theorem secD_set {L : List ByteArray} {p : Nat} {s : ByteArray} (h : p < L.length) : (secD L).set p (Dat.v (Value.string s) :: List.drop 1 ((secD L).getD p [])) = secD (L.set p s) := by
  rw [secD_get h]; simp [secD, List.map_set]
theorem datRep_nil {Pc : Nat → Nat → Prop} {w : World} {v : Value} (sz : Nat) (h : DatRep Pc w v (.v (.slice none 0 0))) : DatRep Pc w v (.lst sz []) := by
  cases h
  exact .lst none 0 0 sz [] 0 0 (fun _ _ => undef) rfl (Nat.le_refl _) (Nat.zero_le _) (fun x hx => by cases hx) (fun h => by simp at h) (fun k j hk => by simp at hk) (fun k j hk => by simp at hk)
theorem PCalls.weak {P : Program} {G : World → Prop} {f : FuncId} {ds : List D} {d d' : D} (h : PCalls P G f ds d) (hd : ∀ Pc w v, DRep (noEnv Pc) noSt w v d → DRep (noEnv Pc) noSt w v d') : PCalls P G f ds d' :=
  fun Pc w vs hg hlt hv => (h Pc w vs hg hlt hv).mono fun e w' ⟨v, Pc', h1, h2, h3, h4, h5⟩ => ⟨v, Pc', h1, h2, h3, h4, hd _ _ _ h5⟩
abbrev rawD (l : List ByteArray) : D := .tup [.agg [.d (.lst 1 (secD l)), .d (.v (.slice none 0 0))], .c (valC (.int .i64 0))]
theorem raw_out {Pc : Nat → Nat → Prop} {w : World} {v : Value} {l : List ByteArray} (h : DRep (noEnv Pc) noSt w v (rawD l)) : DRep (noEnv Pc) noSt w v (outD ⟨l, []⟩ 0) := by
  obtain ⟨vs, rfl, h⟩ := h
  obtain ⟨L⟩ := vs
  match L, h with
  | [x, y], ⟨⟨us, e, h1⟩, h2, _⟩ =>
    obtain ⟨M⟩ := us
    match M, e, h1 with
    | [a, b], e, ⟨g1, g2, _⟩ => exact ⟨_, rfl, ⟨_, e, g1, datRep_nil 2 g2, trivial⟩, h2, trivial⟩
set_option maxHeartbeats 1600000 in
theorem rcrash_no {G : World → Prop} (hG : Stab G) (d : DM.Dk) (keep : List Bool) (b1 : d.secs.length ≤ 1000000) (b2 : d.cache.length ≤ 1000000) (hm : ¬ DM.mayD d) : PCalls Try.prog G 34 [.one (dk1 d), lstD 1 (bolD keep)] (outD d 1) := by
  have e0 : decide (DM.mayD d) = false := decide_eq_false hm
  unfold outD
  unfold dk1
  refine pcalls_of Try.func34 rfl (by simp [Try.ntmps34]) hG ?_; intro F hF hFG Q hQ; rw [Try.ntmps34] at hF; rw [Try.results34] at hQ
  repeat (first | (refine acode_region_seq (by rw [hF]; kernel_rfl) ?_; (repeat (refine aops_step fun K1 hK1 => ?_; simp only [push_cast, Nat.reduceEqDiff, reduceCtorEq, Nat.reduceAdd, Nat.reduceMul, Nat.reduceSub, Nat.reduceLeDiff, Nat.reduceLT, Nat.reduceBEq, Nat.reducePow, Int.reduceEq, Int.reduceLT, Int.reduceLE, Int.reduceNeg, Int.reduceAdd, Int.reduceToNat, reduceIte, decide_true, decide_false]; (try simp (disch := omega) only [wrap64, wrap8]); (first | (refine hK1 _ ?_) | (refine ⟨by omega, hK1 _ ?_⟩) | (refine ⟨⟨by omega, by omega⟩, hK1 _ ?_⟩) | (refine ⟨⟨by omega, by omega, by omega⟩, hK1 _ ?_⟩)); clear hK1 K1)); refine aops_nil ?_) | (refine acode_region (by rw [hF]; kernel_rfl) ?_; (repeat (refine aops_step fun K1 hK1 => ?_; simp only [push_cast, Nat.reduceEqDiff, reduceCtorEq, Nat.reduceAdd, Nat.reduceMul, Nat.reduceSub, Nat.reduceLeDiff, Nat.reduceLT, Nat.reduceBEq, Nat.reducePow, Int.reduceEq, Int.reduceLT, Int.reduceLE, Int.reduceNeg, Int.reduceAdd, Int.reduceToNat, reduceIte, decide_true, decide_false]; (try simp (disch := omega) only [wrap64, wrap8]); (first | (refine hK1 _ ?_) | (refine ⟨by omega, hK1 _ ?_⟩) | (refine ⟨⟨by omega, by omega⟩, hK1 _ ?_⟩) | (refine ⟨⟨by omega, by omega, by omega⟩, hK1 _ ?_⟩)); clear hK1 K1)); refine aops_nil ?_) | (refine acode_seq ?_) | (refine acode_block ?_) | (refine acode_skip ?_) | (refine acode_exit ?_) | (refine acode_ret ?_) | (refine andThen_normal ?_) | (refine andThen_exit ?_) | (refine andThen_ret ?_) | (refine inBlock_normal ?_) | (refine inBlock_ret ?_) | (refine inBlock_same ?_) | (refine inBlock_other rfl ?_))
  (first | (refine acode_region_seq (by rw [hF]; kernel_rfl) ?_) | (refine acode_region (by rw [hF]; kernel_rfl) ?_)); (repeat (refine aops_step fun K1 hK1 => ?_; simp only [push_cast, Nat.reduceEqDiff, reduceCtorEq, Nat.reduceAdd, Nat.reduceMul, Nat.reduceSub, Nat.reduceLeDiff, Nat.reduceLT, Nat.reduceBEq, Nat.reducePow, Int.reduceEq, Int.reduceLT, Int.reduceLE, Int.reduceNeg, Int.reduceAdd, Int.reduceToNat, reduceIte, decide_true, decide_false]; (try simp (disch := omega) only [wrap64, wrap8]); (first | (refine hK1 _ ?_) | (refine ⟨by omega, hK1 _ ?_⟩) | (refine ⟨⟨by omega, by omega⟩, hK1 _ ?_⟩) | (refine ⟨⟨by omega, by omega, by omega⟩, hK1 _ ?_⟩)); clear hK1 K1))
  refine aops_call (by simp only [push_cast, Nat.reduceEqDiff, reduceCtorEq, Nat.reduceAdd, Nat.reduceMul, Nat.reduceSub, Nat.reduceLeDiff, Nat.reduceLT, Nat.reduceBEq, Nat.reducePow, Int.reduceEq, Int.reduceLT, Int.reduceLE, Int.reduceNeg, Int.reduceAdd, Int.reduceToNat, reduceIte, decide_true, decide_false, dk1]) rfl (by simp only [push_cast, Nat.reduceEqDiff, reduceCtorEq, Nat.reduceAdd, Nat.reduceMul, Nat.reduceSub, Nat.reduceLeDiff, Nat.reduceLT, Nat.reduceBEq, Nat.reducePow, Int.reduceEq, Int.reduceLT, Int.reduceLE, Int.reduceNeg, Int.reduceAdd, Int.reduceToNat, reduceIte, decide_true, decide_false, dk1]) (by kernel_rfl) (by simp only [push_cast, Nat.reduceEqDiff, reduceCtorEq, Nat.reduceAdd, Nat.reduceMul, Nat.reduceSub, Nat.reduceLeDiff, Nat.reduceLT, Nat.reduceBEq, Nat.reducePow, Int.reduceEq, Int.reduceLT, Int.reduceLE, Int.reduceNeg, Int.reduceAdd, Int.reduceToNat, reduceIte, decide_true, decide_false, dk1]) (rmay_pc F.gst d b1 b2) ?_
  (repeat (refine aops_step fun K1 hK1 => ?_; simp only [push_cast, Nat.reduceEqDiff, reduceCtorEq, Nat.reduceAdd, Nat.reduceMul, Nat.reduceSub, Nat.reduceLeDiff, Nat.reduceLT, Nat.reduceBEq, Nat.reducePow, Int.reduceEq, Int.reduceLT, Int.reduceLE, Int.reduceNeg, Int.reduceAdd, Int.reduceToNat, reduceIte, decide_true, decide_false, e0]; (try simp (disch := omega) only [wrap64, wrap8]); (first | (refine hK1 _ ?_) | (refine ⟨by omega, hK1 _ ?_⟩) | (refine ⟨⟨by omega, by omega⟩, hK1 _ ?_⟩) | (refine ⟨⟨by omega, by omega, by omega⟩, hK1 _ ?_⟩)); clear hK1 K1)); refine aops_nil ?_
  repeat (first | (refine acode_region_seq (by rw [hF]; kernel_rfl) ?_; (repeat (refine aops_step fun K1 hK1 => ?_; simp only [push_cast, Nat.reduceEqDiff, reduceCtorEq, Nat.reduceAdd, Nat.reduceMul, Nat.reduceSub, Nat.reduceLeDiff, Nat.reduceLT, Nat.reduceBEq, Nat.reducePow, Int.reduceEq, Int.reduceLT, Int.reduceLE, Int.reduceNeg, Int.reduceAdd, Int.reduceToNat, reduceIte, decide_true, decide_false]; (try simp (disch := omega) only [wrap64, wrap8]); (first | (refine hK1 _ ?_) | (refine ⟨by omega, hK1 _ ?_⟩) | (refine ⟨⟨by omega, by omega⟩, hK1 _ ?_⟩) | (refine ⟨⟨by omega, by omega, by omega⟩, hK1 _ ?_⟩)); clear hK1 K1)); refine aops_nil ?_) | (refine acode_region (by rw [hF]; kernel_rfl) ?_; (repeat (refine aops_step fun K1 hK1 => ?_; simp only [push_cast, Nat.reduceEqDiff, reduceCtorEq, Nat.reduceAdd, Nat.reduceMul, Nat.reduceSub, Nat.reduceLeDiff, Nat.reduceLT, Nat.reduceBEq, Nat.reducePow, Int.reduceEq, Int.reduceLT, Int.reduceLE, Int.reduceNeg, Int.reduceAdd, Int.reduceToNat, reduceIte, decide_true, decide_false]; (try simp (disch := omega) only [wrap64, wrap8]); (first | (refine hK1 _ ?_) | (refine ⟨by omega, hK1 _ ?_⟩) | (refine ⟨⟨by omega, by omega⟩, hK1 _ ?_⟩) | (refine ⟨⟨by omega, by omega, by omega⟩, hK1 _ ?_⟩)); clear hK1 K1)); refine aops_nil ?_) | (refine acode_seq ?_) | (refine acode_block ?_) | (refine acode_skip ?_) | (refine acode_exit ?_) | (refine acode_ret ?_) | (refine andThen_normal ?_) | (refine andThen_exit ?_) | (refine andThen_ret ?_) | (refine inBlock_normal ?_) | (refine inBlock_ret ?_) | (refine inBlock_same ?_) | (refine inBlock_other rfl ?_))
  refine acode_true (by simp only [push_cast, Nat.reduceEqDiff, reduceCtorEq, Nat.reduceAdd, Nat.reduceMul, Nat.reduceSub, Nat.reduceLeDiff, Nat.reduceLT, Nat.reduceBEq, Nat.reducePow, Int.reduceEq, Int.reduceLT, Int.reduceLE, Int.reduceNeg, Int.reduceAdd, Int.reduceToNat, reduceIte, decide_true, decide_false]) ?_
  repeat (first | (refine acode_region_seq (by rw [hF]; kernel_rfl) ?_; (repeat (refine aops_step fun K1 hK1 => ?_; simp only [push_cast, Nat.reduceEqDiff, reduceCtorEq, Nat.reduceAdd, Nat.reduceMul, Nat.reduceSub, Nat.reduceLeDiff, Nat.reduceLT, Nat.reduceBEq, Nat.reducePow, Int.reduceEq, Int.reduceLT, Int.reduceLE, Int.reduceNeg, Int.reduceAdd, Int.reduceToNat, reduceIte, decide_true, decide_false]; (try simp (disch := omega) only [wrap64, wrap8]); (first | (refine hK1 _ ?_) | (refine ⟨by omega, hK1 _ ?_⟩) | (refine ⟨⟨by omega, by omega⟩, hK1 _ ?_⟩) | (refine ⟨⟨by omega, by omega, by omega⟩, hK1 _ ?_⟩)); clear hK1 K1)); refine aops_nil ?_) | (refine acode_region (by rw [hF]; kernel_rfl) ?_; (repeat (refine aops_step fun K1 hK1 => ?_; simp only [push_cast, Nat.reduceEqDiff, reduceCtorEq, Nat.reduceAdd, Nat.reduceMul, Nat.reduceSub, Nat.reduceLeDiff, Nat.reduceLT, Nat.reduceBEq, Nat.reducePow, Int.reduceEq, Int.reduceLT, Int.reduceLE, Int.reduceNeg, Int.reduceAdd, Int.reduceToNat, reduceIte, decide_true, decide_false]; (try simp (disch := omega) only [wrap64, wrap8]); (first | (refine hK1 _ ?_) | (refine ⟨by omega, hK1 _ ?_⟩) | (refine ⟨⟨by omega, by omega⟩, hK1 _ ?_⟩) | (refine ⟨⟨by omega, by omega, by omega⟩, hK1 _ ?_⟩)); clear hK1 K1)); refine aops_nil ?_) | (refine acode_seq ?_) | (refine acode_block ?_) | (refine acode_skip ?_) | (refine acode_exit ?_) | (refine acode_ret ?_) | (refine andThen_normal ?_) | (refine andThen_exit ?_) | (refine andThen_ret ?_) | (refine inBlock_normal ?_) | (refine inBlock_ret ?_) | (refine inBlock_same ?_) | (refine inBlock_other rfl ?_))
  refine (hQ _ ?_).2
  simp only [push_cast, Nat.reduceEqDiff, reduceCtorEq, Nat.reduceAdd, Nat.reduceMul, Nat.reduceSub, Nat.reduceLeDiff, Nat.reduceLT, Nat.reduceBEq, Nat.reducePow, Int.reduceEq, Int.reduceLT, Int.reduceLE, Int.reduceNeg, Int.reduceAdd, Int.reduceToNat, reduceIte, decide_true, decide_false]
set_option maxHeartbeats 3200000 in
theorem rcrash_yes {G : World → Prop} (hG : Stab G) (d : DM.Dk) (keep : List Bool) (b1 : d.secs.length ≤ 1000000) (b2 : d.cache.length ≤ 1000000) (b3 : keep.length ≤ 1000000) (hm : DM.mayD d) : PCalls Try.prog G 34 [.one (dk1 d), lstD 1 (bolD keep)] (rawD (DM.settleK (fun j => keep.getD j false) d.secs d.cache d.cache.length)) := by
  have e0 : decide (DM.mayD d) = true := decide_eq_true hm
  unfold rawD
  unfold dk1
  refine pcalls_of Try.func34 rfl (by simp [Try.ntmps34]) hG ?_; intro F hF hFG Q hQ; rw [Try.ntmps34] at hF; rw [Try.results34] at hQ
  repeat (first | (refine acode_region_seq (by rw [hF]; kernel_rfl) ?_; (repeat (refine aops_step fun K1 hK1 => ?_; simp only [push_cast, Nat.reduceEqDiff, reduceCtorEq, Nat.reduceAdd, Nat.reduceMul, Nat.reduceSub, Nat.reduceLeDiff, Nat.reduceLT, Nat.reduceBEq, Nat.reducePow, Int.reduceEq, Int.reduceLT, Int.reduceLE, Int.reduceNeg, Int.reduceAdd, Int.reduceToNat, reduceIte, decide_true, decide_false]; (try simp (disch := omega) only [wrap64, wrap8]); (first | (refine hK1 _ ?_) | (refine ⟨by omega, hK1 _ ?_⟩) | (refine ⟨⟨by omega, by omega⟩, hK1 _ ?_⟩) | (refine ⟨⟨by omega, by omega, by omega⟩, hK1 _ ?_⟩)); clear hK1 K1)); refine aops_nil ?_) | (refine acode_region (by rw [hF]; kernel_rfl) ?_; (repeat (refine aops_step fun K1 hK1 => ?_; simp only [push_cast, Nat.reduceEqDiff, reduceCtorEq, Nat.reduceAdd, Nat.reduceMul, Nat.reduceSub, Nat.reduceLeDiff, Nat.reduceLT, Nat.reduceBEq, Nat.reducePow, Int.reduceEq, Int.reduceLT, Int.reduceLE, Int.reduceNeg, Int.reduceAdd, Int.reduceToNat, reduceIte, decide_true, decide_false]; (try simp (disch := omega) only [wrap64, wrap8]); (first | (refine hK1 _ ?_) | (refine ⟨by omega, hK1 _ ?_⟩) | (refine ⟨⟨by omega, by omega⟩, hK1 _ ?_⟩) | (refine ⟨⟨by omega, by omega, by omega⟩, hK1 _ ?_⟩)); clear hK1 K1)); refine aops_nil ?_) | (refine acode_seq ?_) | (refine acode_block ?_) | (refine acode_skip ?_) | (refine acode_exit ?_) | (refine acode_ret ?_) | (refine andThen_normal ?_) | (refine andThen_exit ?_) | (refine andThen_ret ?_) | (refine inBlock_normal ?_) | (refine inBlock_ret ?_) | (refine inBlock_same ?_) | (refine inBlock_other rfl ?_))
  (first | (refine acode_region_seq (by rw [hF]; kernel_rfl) ?_) | (refine acode_region (by rw [hF]; kernel_rfl) ?_)); (repeat (refine aops_step fun K1 hK1 => ?_; simp only [push_cast, Nat.reduceEqDiff, reduceCtorEq, Nat.reduceAdd, Nat.reduceMul, Nat.reduceSub, Nat.reduceLeDiff, Nat.reduceLT, Nat.reduceBEq, Nat.reducePow, Int.reduceEq, Int.reduceLT, Int.reduceLE, Int.reduceNeg, Int.reduceAdd, Int.reduceToNat, reduceIte, decide_true, decide_false]; (try simp (disch := omega) only [wrap64, wrap8]); (first | (refine hK1 _ ?_) | (refine ⟨by omega, hK1 _ ?_⟩) | (refine ⟨⟨by omega, by omega⟩, hK1 _ ?_⟩) | (refine ⟨⟨by omega, by omega, by omega⟩, hK1 _ ?_⟩)); clear hK1 K1))
  refine aops_call (by simp only [push_cast, Nat.reduceEqDiff, reduceCtorEq, Nat.reduceAdd, Nat.reduceMul, Nat.reduceSub, Nat.reduceLeDiff, Nat.reduceLT, Nat.reduceBEq, Nat.reducePow, Int.reduceEq, Int.reduceLT, Int.reduceLE, Int.reduceNeg, Int.reduceAdd, Int.reduceToNat, reduceIte, decide_true, decide_false, dk1]) rfl (by simp only [push_cast, Nat.reduceEqDiff, reduceCtorEq, Nat.reduceAdd, Nat.reduceMul, Nat.reduceSub, Nat.reduceLeDiff, Nat.reduceLT, Nat.reduceBEq, Nat.reducePow, Int.reduceEq, Int.reduceLT, Int.reduceLE, Int.reduceNeg, Int.reduceAdd, Int.reduceToNat, reduceIte, decide_true, decide_false, dk1]) (by kernel_rfl) (by simp only [push_cast, Nat.reduceEqDiff, reduceCtorEq, Nat.reduceAdd, Nat.reduceMul, Nat.reduceSub, Nat.reduceLeDiff, Nat.reduceLT, Nat.reduceBEq, Nat.reducePow, Int.reduceEq, Int.reduceLT, Int.reduceLE, Int.reduceNeg, Int.reduceAdd, Int.reduceToNat, reduceIte, decide_true, decide_false, dk1]) (rmay_pc F.gst d b1 b2) ?_
  (repeat (refine aops_step fun K1 hK1 => ?_; simp only [push_cast, Nat.reduceEqDiff, reduceCtorEq, Nat.reduceAdd, Nat.reduceMul, Nat.reduceSub, Nat.reduceLeDiff, Nat.reduceLT, Nat.reduceBEq, Nat.reducePow, Int.reduceEq, Int.reduceLT, Int.reduceLE, Int.reduceNeg, Int.reduceAdd, Int.reduceToNat, reduceIte, decide_true, decide_false, e0]; (try simp (disch := omega) only [wrap64, wrap8]); (first | (refine hK1 _ ?_) | (refine ⟨by omega, hK1 _ ?_⟩) | (refine ⟨⟨by omega, by omega⟩, hK1 _ ?_⟩) | (refine ⟨⟨by omega, by omega, by omega⟩, hK1 _ ?_⟩)); clear hK1 K1)); refine aops_nil ?_
  repeat (first | (refine acode_region_seq (by rw [hF]; kernel_rfl) ?_; (repeat (refine aops_step fun K1 hK1 => ?_; simp only [push_cast, Nat.reduceEqDiff, reduceCtorEq, Nat.reduceAdd, Nat.reduceMul, Nat.reduceSub, Nat.reduceLeDiff, Nat.reduceLT, Nat.reduceBEq, Nat.reducePow, Int.reduceEq, Int.reduceLT, Int.reduceLE, Int.reduceNeg, Int.reduceAdd, Int.reduceToNat, reduceIte, decide_true, decide_false]; (try simp (disch := omega) only [wrap64, wrap8]); (first | (refine hK1 _ ?_) | (refine ⟨by omega, hK1 _ ?_⟩) | (refine ⟨⟨by omega, by omega⟩, hK1 _ ?_⟩) | (refine ⟨⟨by omega, by omega, by omega⟩, hK1 _ ?_⟩)); clear hK1 K1)); refine aops_nil ?_) | (refine acode_region (by rw [hF]; kernel_rfl) ?_; (repeat (refine aops_step fun K1 hK1 => ?_; simp only [push_cast, Nat.reduceEqDiff, reduceCtorEq, Nat.reduceAdd, Nat.reduceMul, Nat.reduceSub, Nat.reduceLeDiff, Nat.reduceLT, Nat.reduceBEq, Nat.reducePow, Int.reduceEq, Int.reduceLT, Int.reduceLE, Int.reduceNeg, Int.reduceAdd, Int.reduceToNat, reduceIte, decide_true, decide_false]; (try simp (disch := omega) only [wrap64, wrap8]); (first | (refine hK1 _ ?_) | (refine ⟨by omega, hK1 _ ?_⟩) | (refine ⟨⟨by omega, by omega⟩, hK1 _ ?_⟩) | (refine ⟨⟨by omega, by omega, by omega⟩, hK1 _ ?_⟩)); clear hK1 K1)); refine aops_nil ?_) | (refine acode_seq ?_) | (refine acode_block ?_) | (refine acode_skip ?_) | (refine acode_exit ?_) | (refine acode_ret ?_) | (refine andThen_normal ?_) | (refine andThen_exit ?_) | (refine andThen_ret ?_) | (refine inBlock_normal ?_) | (refine inBlock_ret ?_) | (refine inBlock_same ?_) | (refine inBlock_other rfl ?_))
  refine acode_false (by simp only [push_cast, Nat.reduceEqDiff, reduceCtorEq, Nat.reduceAdd, Nat.reduceMul, Nat.reduceSub, Nat.reduceLeDiff, Nat.reduceLT, Nat.reduceBEq, Nat.reducePow, Int.reduceEq, Int.reduceLT, Int.reduceLE, Int.reduceNeg, Int.reduceAdd, Int.reduceToNat, reduceIte, decide_true, decide_false]) ?_
  repeat (first | (refine acode_region_seq (by rw [hF]; kernel_rfl) ?_; (repeat (refine aops_step fun K1 hK1 => ?_; simp only [push_cast, Nat.reduceEqDiff, reduceCtorEq, Nat.reduceAdd, Nat.reduceMul, Nat.reduceSub, Nat.reduceLeDiff, Nat.reduceLT, Nat.reduceBEq, Nat.reducePow, Int.reduceEq, Int.reduceLT, Int.reduceLE, Int.reduceNeg, Int.reduceAdd, Int.reduceToNat, reduceIte, decide_true, decide_false]; (try simp (disch := omega) only [wrap64, wrap8]); (first | (refine hK1 _ ?_) | (refine ⟨by omega, hK1 _ ?_⟩) | (refine ⟨⟨by omega, by omega⟩, hK1 _ ?_⟩) | (refine ⟨⟨by omega, by omega, by omega⟩, hK1 _ ?_⟩)); clear hK1 K1)); refine aops_nil ?_) | (refine acode_region (by rw [hF]; kernel_rfl) ?_; (repeat (refine aops_step fun K1 hK1 => ?_; simp only [push_cast, Nat.reduceEqDiff, reduceCtorEq, Nat.reduceAdd, Nat.reduceMul, Nat.reduceSub, Nat.reduceLeDiff, Nat.reduceLT, Nat.reduceBEq, Nat.reducePow, Int.reduceEq, Int.reduceLT, Int.reduceLE, Int.reduceNeg, Int.reduceAdd, Int.reduceToNat, reduceIte, decide_true, decide_false]; (try simp (disch := omega) only [wrap64, wrap8]); (first | (refine hK1 _ ?_) | (refine ⟨by omega, hK1 _ ?_⟩) | (refine ⟨⟨by omega, by omega⟩, hK1 _ ?_⟩) | (refine ⟨⟨by omega, by omega, by omega⟩, hK1 _ ?_⟩)); clear hK1 K1)); refine aops_nil ?_) | (refine acode_seq ?_) | (refine acode_block ?_) | (refine acode_skip ?_) | (refine acode_exit ?_) | (refine acode_ret ?_) | (refine andThen_normal ?_) | (refine andThen_exit ?_) | (refine andThen_ret ?_) | (refine inBlock_normal ?_) | (refine inBlock_ret ?_) | (refine inBlock_same ?_) | (refine inBlock_other rfl ?_))
  refine acode_loop (fun n σ => ∃ k : Nat, k ≤ d.cache.length ∧ n = d.cache.length - k ∧ σ = St.of [(1, lstD 1 (bolD keep)), (2, .one (.c (.box 2 0))), (4, .one (.c (.box 4 0))), (6, .one (.c (.row 12 1))), (7, valD (.int .i64 k))] [(2, (25, dkC d)), (4, (25, [.d (.v (.slice none 0 0)), .d (.v (.slice none 0 0))]))] [(12, { gen := 1, E := 9, sz := 1, wr := true, xs := secD (DM.settleK (fun j => keep.getD j false) d.secs d.cache k) })])
    d.cache.length (St.of [(1, lstD 1 (bolD keep)), (2, .one (.c (.box 2 0))), (4, .one (.c (.box 4 0))), (6, .one (.c (.row 12 1))), (7, valD (.int .i64 0))] [(2, (25, dkC d)), (4, (25, [.d (.v (.slice none 0 0)), .d (.v (.slice none 0 0))]))] [(12, { gen := 1, E := 9, sz := 1, wr := true, xs := secD d.secs })]) ⟨0, Nat.zero_le _, by simp, rfl⟩ (by (refine Le.of ?_ ?_ ?_ <;> simp only [List.not_mem_nil, false_implies, implies_true, and_true, true_and, push_cast, Nat.reduceEqDiff, reduceCtorEq, Nat.reduceAdd, Nat.reduceMul, Nat.reduceSub, Nat.reduceLeDiff, Nat.reduceLT, Nat.reduceBEq, Nat.reducePow, Int.reduceEq, Int.reduceLT, Int.reduceLE, Int.reduceNeg, Int.reduceAdd, Int.reduceToNat, reduceIte, decide_true, decide_false, exists_eq_left', Nat.le_refl])) ?_
  rintro n σ ⟨k, hk, rfl, rfl⟩
  by_cases hkn : (k : Int) < (d.cache.length : Int)
  · have hkd : k < d.cache.length := by omega
    have hg := cacD_get hkd
    have hw := hm.2.2.2 _ (List.getElem_mem hkd)
    have hgd : d.cache.getD k (0, ⟨#[]⟩) = d.cache[k] := by simp [List.getD, hkd]
    obtain ⟨⟨at', s⟩, ha⟩ : ∃ a : DM.Wr, d.cache[k] = a := ⟨_, rfl⟩
    rw [ha] at hg hw hgd
    obtain ⟨hw0, hw1, hw2⟩ := hw
    obtain ⟨p, rfl⟩ : ∃ p : Nat, at' = (p : Int) := ⟨at'.toNat, by omega⟩
    have hp : p < (DM.settleK (fun j => keep.getD j false) d.secs d.cache k).length := by rw [DM.settleK_length]; omega
    obtain ⟨L, hL⟩ : ∃ L, DM.settleK (fun j => keep.getD j false) d.secs d.cache k = L := ⟨_, rfl⟩
    have hpl : p < L.length := by rw [← hL]; exact hp
    have hs1 : keep.getD k false = true → DM.settleK (fun j => keep.getD j false) d.secs d.cache (k + 1) = L.set p s := fun h => by
      unfold DM.settleK; rw [if_pos h, hgd, hL]; rfl
    have hs0 : keep.getD k false = false → DM.settleK (fun j => keep.getD j false) d.secs d.cache (k + 1) = L := fun h => by
      unfold DM.settleK; rw [if_neg (by rw [h]; decide), hL]
    rw [hL]
    repeat (first | (refine acode_region_seq (by rw [hF]; kernel_rfl) ?_; (repeat (refine aops_step fun K1 hK1 => ?_; simp only [push_cast, Nat.reduceEqDiff, reduceCtorEq, Nat.reduceAdd, Nat.reduceMul, Nat.reduceSub, Nat.reduceLeDiff, Nat.reduceLT, Nat.reduceBEq, Nat.reducePow, Int.reduceEq, Int.reduceLT, Int.reduceLE, Int.reduceNeg, Int.reduceAdd, Int.reduceToNat, reduceIte, decide_true, decide_false, hkn]; (try simp (disch := omega) only [wrap64, wrap8]); (first | (refine hK1 _ ?_) | (refine ⟨by omega, hK1 _ ?_⟩) | (refine ⟨⟨by omega, by omega⟩, hK1 _ ?_⟩) | (refine ⟨⟨by omega, by omega, by omega⟩, hK1 _ ?_⟩)); clear hK1 K1)); refine aops_nil ?_) | (refine acode_region (by rw [hF]; kernel_rfl) ?_; (repeat (refine aops_step fun K1 hK1 => ?_; simp only [push_cast, Nat.reduceEqDiff, reduceCtorEq, Nat.reduceAdd, Nat.reduceMul, Nat.reduceSub, Nat.reduceLeDiff, Nat.reduceLT, Nat.reduceBEq, Nat.reducePow, Int.reduceEq, Int.reduceLT, Int.reduceLE, Int.reduceNeg, Int.reduceAdd, Int.reduceToNat, reduceIte, decide_true, decide_false, hkn]; (try simp (disch := omega) only [wrap64, wrap8]); (first | (refine hK1 _ ?_) | (refine ⟨by omega, hK1 _ ?_⟩) | (refine ⟨⟨by omega, by omega⟩, hK1 _ ?_⟩) | (refine ⟨⟨by omega, by omega, by omega⟩, hK1 _ ?_⟩)); clear hK1 K1)); refine aops_nil ?_) | (refine acode_seq ?_) | (refine acode_block ?_) | (refine acode_skip ?_) | (refine acode_exit ?_) | (refine acode_ret ?_) | (refine andThen_normal ?_) | (refine andThen_exit ?_) | (refine andThen_ret ?_) | (refine inBlock_normal ?_) | (refine inBlock_ret ?_) | (refine inBlock_same ?_) | (refine inBlock_other rfl ?_))
    refine acode_true (by simp only [push_cast, Nat.reduceEqDiff, reduceCtorEq, Nat.reduceAdd, Nat.reduceMul, Nat.reduceSub, Nat.reduceLeDiff, Nat.reduceLT, Nat.reduceBEq, Nat.reducePow, Int.reduceEq, Int.reduceLT, Int.reduceLE, Int.reduceNeg, Int.reduceAdd, Int.reduceToNat, reduceIte, decide_true, decide_false]) ?_
    repeat (first | (refine acode_region_seq (by rw [hF]; kernel_rfl) ?_; (repeat (refine aops_step fun K1 hK1 => ?_; simp only [push_cast, Nat.reduceEqDiff, reduceCtorEq, Nat.reduceAdd, Nat.reduceMul, Nat.reduceSub, Nat.reduceLeDiff, Nat.reduceLT, Nat.reduceBEq, Nat.reducePow, Int.reduceEq, Int.reduceLT, Int.reduceLE, Int.reduceNeg, Int.reduceAdd, Int.reduceToNat, reduceIte, decide_true, decide_false]; (try simp (disch := omega) only [wrap64, wrap8]); (first | (refine hK1 _ ?_) | (refine ⟨by omega, hK1 _ ?_⟩) | (refine ⟨⟨by omega, by omega⟩, hK1 _ ?_⟩) | (refine ⟨⟨by omega, by omega, by omega⟩, hK1 _ ?_⟩)); clear hK1 K1)); refine aops_nil ?_) | (refine acode_region (by rw [hF]; kernel_rfl) ?_; (repeat (refine aops_step fun K1 hK1 => ?_; simp only [push_cast, Nat.reduceEqDiff, reduceCtorEq, Nat.reduceAdd, Nat.reduceMul, Nat.reduceSub, Nat.reduceLeDiff, Nat.reduceLT, Nat.reduceBEq, Nat.reducePow, Int.reduceEq, Int.reduceLT, Int.reduceLE, Int.reduceNeg, Int.reduceAdd, Int.reduceToNat, reduceIte, decide_true, decide_false]; (try simp (disch := omega) only [wrap64, wrap8]); (first | (refine hK1 _ ?_) | (refine ⟨by omega, hK1 _ ?_⟩) | (refine ⟨⟨by omega, by omega⟩, hK1 _ ?_⟩) | (refine ⟨⟨by omega, by omega, by omega⟩, hK1 _ ?_⟩)); clear hK1 K1)); refine aops_nil ?_) | (refine acode_seq ?_) | (refine acode_block ?_) | (refine acode_skip ?_) | (refine acode_exit ?_) | (refine acode_ret ?_) | (refine andThen_normal ?_) | (refine andThen_exit ?_) | (refine andThen_ret ?_) | (refine inBlock_normal ?_) | (refine inBlock_ret ?_) | (refine inBlock_same ?_) | (refine inBlock_other rfl ?_))
    by_cases ck : (k : Int) < (keep.length : Int)
    · have hkk : k < keep.length := by omega
      have hb := bolD_get hkk
      have hkg : keep.getD k false = keep[k] := by simp [List.getD, hkk]
      obtain ⟨b, hbk⟩ : ∃ b, keep[k] = b := ⟨_, rfl⟩
      rw [hbk] at hb hkg
      cases b
      · repeat (first | (refine acode_region_seq (by rw [hF]; kernel_rfl) ?_; (repeat (refine aops_step fun K1 hK1 => ?_; simp only [push_cast, Nat.reduceEqDiff, reduceCtorEq, Nat.reduceAdd, Nat.reduceMul, Nat.reduceSub, Nat.reduceLeDiff, Nat.reduceLT, Nat.reduceBEq, Nat.reducePow, Int.reduceEq, Int.reduceLT, Int.reduceLE, Int.reduceNeg, Int.reduceAdd, Int.reduceToNat, reduceIte, decide_true, decide_false, ck, hb]; (try simp (disch := omega) only [wrap64, wrap8]); (first | (refine hK1 _ ?_) | (refine ⟨by omega, hK1 _ ?_⟩) | (refine ⟨⟨by omega, by omega⟩, hK1 _ ?_⟩) | (refine ⟨⟨by omega, by omega, by omega⟩, hK1 _ ?_⟩)); clear hK1 K1)); refine aops_nil ?_) | (refine acode_region (by rw [hF]; kernel_rfl) ?_; (repeat (refine aops_step fun K1 hK1 => ?_; simp only [push_cast, Nat.reduceEqDiff, reduceCtorEq, Nat.reduceAdd, Nat.reduceMul, Nat.reduceSub, Nat.reduceLeDiff, Nat.reduceLT, Nat.reduceBEq, Nat.reducePow, Int.reduceEq, Int.reduceLT, Int.reduceLE, Int.reduceNeg, Int.reduceAdd, Int.reduceToNat, reduceIte, decide_true, decide_false, ck, hb]; (try simp (disch := omega) only [wrap64, wrap8]); (first | (refine hK1 _ ?_) | (refine ⟨by omega, hK1 _ ?_⟩) | (refine ⟨⟨by omega, by omega⟩, hK1 _ ?_⟩) | (refine ⟨⟨by omega, by omega, by omega⟩, hK1 _ ?_⟩)); clear hK1 K1)); refine aops_nil ?_) | (refine acode_seq ?_) | (refine acode_block ?_) | (refine acode_skip ?_) | (refine acode_exit ?_) | (refine acode_ret ?_) | (refine andThen_normal ?_) | (refine andThen_exit ?_) | (refine andThen_ret ?_) | (refine inBlock_normal ?_) | (refine inBlock_ret ?_) | (refine inBlock_same ?_) | (refine inBlock_other rfl ?_))
        refine acode_false (by simp only [push_cast, Nat.reduceEqDiff, reduceCtorEq, Nat.reduceAdd, Nat.reduceMul, Nat.reduceSub, Nat.reduceLeDiff, Nat.reduceLT, Nat.reduceBEq, Nat.reducePow, Int.reduceEq, Int.reduceLT, Int.reduceLE, Int.reduceNeg, Int.reduceAdd, Int.reduceToNat, reduceIte, decide_true, decide_false]) ?_
        repeat (first | (refine acode_region_seq (by rw [hF]; kernel_rfl) ?_; (repeat (refine aops_step fun K1 hK1 => ?_; simp only [push_cast, Nat.reduceEqDiff, reduceCtorEq, Nat.reduceAdd, Nat.reduceMul, Nat.reduceSub, Nat.reduceLeDiff, Nat.reduceLT, Nat.reduceBEq, Nat.reducePow, Int.reduceEq, Int.reduceLT, Int.reduceLE, Int.reduceNeg, Int.reduceAdd, Int.reduceToNat, reduceIte, decide_true, decide_false]; (try simp (disch := omega) only [wrap64, wrap8]); (first | (refine hK1 _ ?_) | (refine ⟨by omega, hK1 _ ?_⟩) | (refine ⟨⟨by omega, by omega⟩, hK1 _ ?_⟩) | (refine ⟨⟨by omega, by omega, by omega⟩, hK1 _ ?_⟩)); clear hK1 K1)); refine aops_nil ?_) | (refine acode_region (by rw [hF]; kernel_rfl) ?_; (repeat (refine aops_step fun K1 hK1 => ?_; simp only [push_cast, Nat.reduceEqDiff, reduceCtorEq, Nat.reduceAdd, Nat.reduceMul, Nat.reduceSub, Nat.reduceLeDiff, Nat.reduceLT, Nat.reduceBEq, Nat.reducePow, Int.reduceEq, Int.reduceLT, Int.reduceLE, Int.reduceNeg, Int.reduceAdd, Int.reduceToNat, reduceIte, decide_true, decide_false]; (try simp (disch := omega) only [wrap64, wrap8]); (first | (refine hK1 _ ?_) | (refine ⟨by omega, hK1 _ ?_⟩) | (refine ⟨⟨by omega, by omega⟩, hK1 _ ?_⟩) | (refine ⟨⟨by omega, by omega, by omega⟩, hK1 _ ?_⟩)); clear hK1 K1)); refine aops_nil ?_) | (refine acode_seq ?_) | (refine acode_block ?_) | (refine acode_skip ?_) | (refine acode_exit ?_) | (refine acode_ret ?_) | (refine andThen_normal ?_) | (refine andThen_exit ?_) | (refine andThen_ret ?_) | (refine inBlock_normal ?_) | (refine inBlock_ret ?_) | (refine inBlock_same ?_) | (refine inBlock_other rfl ?_))
        refine ⟨_, _, ?_, ⟨k + 1, hkd, rfl, rfl⟩, by rw [hs0 hkg]; (refine Le.of ?_ ?_ ?_ <;> simp only [List.not_mem_nil, false_implies, implies_true, and_true, true_and, push_cast, Nat.reduceEqDiff, reduceCtorEq, Nat.reduceAdd, Nat.reduceMul, Nat.reduceSub, Nat.reduceLeDiff, Nat.reduceLT, Nat.reduceBEq, Nat.reducePow, Int.reduceEq, Int.reduceLT, Int.reduceLE, Int.reduceNeg, Int.reduceAdd, Int.reduceToNat, reduceIte, decide_true, decide_false, exists_eq_left', Nat.le_refl])⟩
        omega
      · repeat (first | (refine acode_region_seq (by rw [hF]; kernel_rfl) ?_; (repeat (refine aops_step fun K1 hK1 => ?_; simp only [push_cast, Nat.reduceEqDiff, reduceCtorEq, Nat.reduceAdd, Nat.reduceMul, Nat.reduceSub, Nat.reduceLeDiff, Nat.reduceLT, Nat.reduceBEq, Nat.reducePow, Int.reduceEq, Int.reduceLT, Int.reduceLE, Int.reduceNeg, Int.reduceAdd, Int.reduceToNat, reduceIte, decide_true, decide_false, ck, hb]; (try simp (disch := omega) only [wrap64, wrap8]); (first | (refine hK1 _ ?_) | (refine ⟨by omega, hK1 _ ?_⟩) | (refine ⟨⟨by omega, by omega⟩, hK1 _ ?_⟩) | (refine ⟨⟨by omega, by omega, by omega⟩, hK1 _ ?_⟩)); clear hK1 K1)); refine aops_nil ?_) | (refine acode_region (by rw [hF]; kernel_rfl) ?_; (repeat (refine aops_step fun K1 hK1 => ?_; simp only [push_cast, Nat.reduceEqDiff, reduceCtorEq, Nat.reduceAdd, Nat.reduceMul, Nat.reduceSub, Nat.reduceLeDiff, Nat.reduceLT, Nat.reduceBEq, Nat.reducePow, Int.reduceEq, Int.reduceLT, Int.reduceLE, Int.reduceNeg, Int.reduceAdd, Int.reduceToNat, reduceIte, decide_true, decide_false, ck, hb]; (try simp (disch := omega) only [wrap64, wrap8]); (first | (refine hK1 _ ?_) | (refine ⟨by omega, hK1 _ ?_⟩) | (refine ⟨⟨by omega, by omega⟩, hK1 _ ?_⟩) | (refine ⟨⟨by omega, by omega, by omega⟩, hK1 _ ?_⟩)); clear hK1 K1)); refine aops_nil ?_) | (refine acode_seq ?_) | (refine acode_block ?_) | (refine acode_skip ?_) | (refine acode_exit ?_) | (refine acode_ret ?_) | (refine andThen_normal ?_) | (refine andThen_exit ?_) | (refine andThen_ret ?_) | (refine inBlock_normal ?_) | (refine inBlock_ret ?_) | (refine inBlock_same ?_) | (refine inBlock_other rfl ?_))
        refine acode_true (by simp only [push_cast, Nat.reduceEqDiff, reduceCtorEq, Nat.reduceAdd, Nat.reduceMul, Nat.reduceSub, Nat.reduceLeDiff, Nat.reduceLT, Nat.reduceBEq, Nat.reducePow, Int.reduceEq, Int.reduceLT, Int.reduceLE, Int.reduceNeg, Int.reduceAdd, Int.reduceToNat, reduceIte, decide_true, decide_false]) ?_
        (first | (refine acode_draw_seq (by kernel_rfl) (by rw [hF]; kernel_rfl) ?_) | (refine acode_draw_one (by kernel_rfl) (by rw [hF]; kernel_rfl) ?_)); (repeat (refine adraw_step fun K1 hK1 => ?_; simp only [push_cast, Nat.reduceEqDiff, reduceCtorEq, Nat.reduceAdd, Nat.reduceMul, Nat.reduceSub, Nat.reduceLeDiff, Nat.reduceLT, Nat.reduceBEq, Nat.reducePow, Int.reduceEq, Int.reduceLT, Int.reduceLE, Int.reduceNeg, Int.reduceAdd, Int.reduceToNat, reduceIte, decide_true, decide_false, hg, hpl]; (try simp (disch := omega) only [wrap64, wrap8]); (first | (refine hK1 _ _ ?_) | (refine ⟨by omega, hK1 _ _ ?_⟩) | (refine ⟨⟨by omega, by omega⟩, hK1 _ _ ?_⟩) | (refine ⟨⟨by omega, by omega, by omega⟩, hK1 _ _ ?_⟩)); clear hK1 K1)); refine adraw_nil (by kernel_rfl) ?_
        repeat (first | (refine acode_region_seq (by rw [hF]; kernel_rfl) ?_; (repeat (refine aops_step fun K1 hK1 => ?_; simp only [push_cast, Nat.reduceEqDiff, reduceCtorEq, Nat.reduceAdd, Nat.reduceMul, Nat.reduceSub, Nat.reduceLeDiff, Nat.reduceLT, Nat.reduceBEq, Nat.reducePow, Int.reduceEq, Int.reduceLT, Int.reduceLE, Int.reduceNeg, Int.reduceAdd, Int.reduceToNat, reduceIte, decide_true, decide_false]; (try simp (disch := omega) only [wrap64, wrap8]); (first | (refine hK1 _ ?_) | (refine ⟨by omega, hK1 _ ?_⟩) | (refine ⟨⟨by omega, by omega⟩, hK1 _ ?_⟩) | (refine ⟨⟨by omega, by omega, by omega⟩, hK1 _ ?_⟩)); clear hK1 K1)); refine aops_nil ?_) | (refine acode_region (by rw [hF]; kernel_rfl) ?_; (repeat (refine aops_step fun K1 hK1 => ?_; simp only [push_cast, Nat.reduceEqDiff, reduceCtorEq, Nat.reduceAdd, Nat.reduceMul, Nat.reduceSub, Nat.reduceLeDiff, Nat.reduceLT, Nat.reduceBEq, Nat.reducePow, Int.reduceEq, Int.reduceLT, Int.reduceLE, Int.reduceNeg, Int.reduceAdd, Int.reduceToNat, reduceIte, decide_true, decide_false]; (try simp (disch := omega) only [wrap64, wrap8]); (first | (refine hK1 _ ?_) | (refine ⟨by omega, hK1 _ ?_⟩) | (refine ⟨⟨by omega, by omega⟩, hK1 _ ?_⟩) | (refine ⟨⟨by omega, by omega, by omega⟩, hK1 _ ?_⟩)); clear hK1 K1)); refine aops_nil ?_) | (refine acode_seq ?_) | (refine acode_block ?_) | (refine acode_skip ?_) | (refine acode_exit ?_) | (refine acode_ret ?_) | (refine andThen_normal ?_) | (refine andThen_exit ?_) | (refine andThen_ret ?_) | (refine inBlock_normal ?_) | (refine inBlock_ret ?_) | (refine inBlock_same ?_) | (refine inBlock_other rfl ?_))
        refine ⟨_, _, ?_, ⟨k + 1, hkd, rfl, rfl⟩, ?_⟩
        · omega
        · rw [hs1 hkg]
          (refine Le.of ?_ ?_ ?_ <;> simp only [List.not_mem_nil, false_implies, implies_true, and_true, true_and, push_cast, Nat.reduceEqDiff, reduceCtorEq, Nat.reduceAdd, Nat.reduceMul, Nat.reduceSub, Nat.reduceLeDiff, Nat.reduceLT, Nat.reduceBEq, Nat.reducePow, Int.reduceEq, Int.reduceLT, Int.reduceLE, Int.reduceNeg, Int.reduceAdd, Int.reduceToNat, reduceIte, decide_true, decide_false, exists_eq_left', Nat.le_refl])
          rw [Row.mk.injEq]
          exact ⟨rfl, rfl, rfl, rfl, secD_set hpl⟩
    · have hkg : keep.getD k false = false := by simp [List.getD, show keep.length ≤ k by omega]
      repeat (first | (refine acode_region_seq (by rw [hF]; kernel_rfl) ?_; (repeat (refine aops_step fun K1 hK1 => ?_; simp only [push_cast, Nat.reduceEqDiff, reduceCtorEq, Nat.reduceAdd, Nat.reduceMul, Nat.reduceSub, Nat.reduceLeDiff, Nat.reduceLT, Nat.reduceBEq, Nat.reducePow, Int.reduceEq, Int.reduceLT, Int.reduceLE, Int.reduceNeg, Int.reduceAdd, Int.reduceToNat, reduceIte, decide_true, decide_false, ck]; (try simp (disch := omega) only [wrap64, wrap8]); (first | (refine hK1 _ ?_) | (refine ⟨by omega, hK1 _ ?_⟩) | (refine ⟨⟨by omega, by omega⟩, hK1 _ ?_⟩) | (refine ⟨⟨by omega, by omega, by omega⟩, hK1 _ ?_⟩)); clear hK1 K1)); refine aops_nil ?_) | (refine acode_region (by rw [hF]; kernel_rfl) ?_; (repeat (refine aops_step fun K1 hK1 => ?_; simp only [push_cast, Nat.reduceEqDiff, reduceCtorEq, Nat.reduceAdd, Nat.reduceMul, Nat.reduceSub, Nat.reduceLeDiff, Nat.reduceLT, Nat.reduceBEq, Nat.reducePow, Int.reduceEq, Int.reduceLT, Int.reduceLE, Int.reduceNeg, Int.reduceAdd, Int.reduceToNat, reduceIte, decide_true, decide_false, ck]; (try simp (disch := omega) only [wrap64, wrap8]); (first | (refine hK1 _ ?_) | (refine ⟨by omega, hK1 _ ?_⟩) | (refine ⟨⟨by omega, by omega⟩, hK1 _ ?_⟩) | (refine ⟨⟨by omega, by omega, by omega⟩, hK1 _ ?_⟩)); clear hK1 K1)); refine aops_nil ?_) | (refine acode_seq ?_) | (refine acode_block ?_) | (refine acode_skip ?_) | (refine acode_exit ?_) | (refine acode_ret ?_) | (refine andThen_normal ?_) | (refine andThen_exit ?_) | (refine andThen_ret ?_) | (refine inBlock_normal ?_) | (refine inBlock_ret ?_) | (refine inBlock_same ?_) | (refine inBlock_other rfl ?_))
      refine acode_false (by simp only [push_cast, Nat.reduceEqDiff, reduceCtorEq, Nat.reduceAdd, Nat.reduceMul, Nat.reduceSub, Nat.reduceLeDiff, Nat.reduceLT, Nat.reduceBEq, Nat.reducePow, Int.reduceEq, Int.reduceLT, Int.reduceLE, Int.reduceNeg, Int.reduceAdd, Int.reduceToNat, reduceIte, decide_true, decide_false]) ?_
      repeat (first | (refine acode_region_seq (by rw [hF]; kernel_rfl) ?_; (repeat (refine aops_step fun K1 hK1 => ?_; simp only [push_cast, Nat.reduceEqDiff, reduceCtorEq, Nat.reduceAdd, Nat.reduceMul, Nat.reduceSub, Nat.reduceLeDiff, Nat.reduceLT, Nat.reduceBEq, Nat.reducePow, Int.reduceEq, Int.reduceLT, Int.reduceLE, Int.reduceNeg, Int.reduceAdd, Int.reduceToNat, reduceIte, decide_true, decide_false]; (try simp (disch := omega) only [wrap64, wrap8]); (first | (refine hK1 _ ?_) | (refine ⟨by omega, hK1 _ ?_⟩) | (refine ⟨⟨by omega, by omega⟩, hK1 _ ?_⟩) | (refine ⟨⟨by omega, by omega, by omega⟩, hK1 _ ?_⟩)); clear hK1 K1)); refine aops_nil ?_) | (refine acode_region (by rw [hF]; kernel_rfl) ?_; (repeat (refine aops_step fun K1 hK1 => ?_; simp only [push_cast, Nat.reduceEqDiff, reduceCtorEq, Nat.reduceAdd, Nat.reduceMul, Nat.reduceSub, Nat.reduceLeDiff, Nat.reduceLT, Nat.reduceBEq, Nat.reducePow, Int.reduceEq, Int.reduceLT, Int.reduceLE, Int.reduceNeg, Int.reduceAdd, Int.reduceToNat, reduceIte, decide_true, decide_false]; (try simp (disch := omega) only [wrap64, wrap8]); (first | (refine hK1 _ ?_) | (refine ⟨by omega, hK1 _ ?_⟩) | (refine ⟨⟨by omega, by omega⟩, hK1 _ ?_⟩) | (refine ⟨⟨by omega, by omega, by omega⟩, hK1 _ ?_⟩)); clear hK1 K1)); refine aops_nil ?_) | (refine acode_seq ?_) | (refine acode_block ?_) | (refine acode_skip ?_) | (refine acode_exit ?_) | (refine acode_ret ?_) | (refine andThen_normal ?_) | (refine andThen_exit ?_) | (refine andThen_ret ?_) | (refine inBlock_normal ?_) | (refine inBlock_ret ?_) | (refine inBlock_same ?_) | (refine inBlock_other rfl ?_))
      refine ⟨_, _, ?_, ⟨k + 1, hkd, rfl, rfl⟩, by rw [hs0 hkg]; (refine Le.of ?_ ?_ ?_ <;> simp only [List.not_mem_nil, false_implies, implies_true, and_true, true_and, push_cast, Nat.reduceEqDiff, reduceCtorEq, Nat.reduceAdd, Nat.reduceMul, Nat.reduceSub, Nat.reduceLeDiff, Nat.reduceLT, Nat.reduceBEq, Nat.reducePow, Int.reduceEq, Int.reduceLT, Int.reduceLE, Int.reduceNeg, Int.reduceAdd, Int.reduceToNat, reduceIte, decide_true, decide_false, exists_eq_left', Nat.le_refl])⟩
      omega
  · have hkl : k = d.cache.length := by omega
    subst hkl
    repeat (first | (refine acode_region_seq (by rw [hF]; kernel_rfl) ?_; (repeat (refine aops_step fun K1 hK1 => ?_; simp only [push_cast, Nat.reduceEqDiff, reduceCtorEq, Nat.reduceAdd, Nat.reduceMul, Nat.reduceSub, Nat.reduceLeDiff, Nat.reduceLT, Nat.reduceBEq, Nat.reducePow, Int.reduceEq, Int.reduceLT, Int.reduceLE, Int.reduceNeg, Int.reduceAdd, Int.reduceToNat, reduceIte, decide_true, decide_false, hkn]; (try simp (disch := omega) only [wrap64, wrap8]); (first | (refine hK1 _ ?_) | (refine ⟨by omega, hK1 _ ?_⟩) | (refine ⟨⟨by omega, by omega⟩, hK1 _ ?_⟩) | (refine ⟨⟨by omega, by omega, by omega⟩, hK1 _ ?_⟩)); clear hK1 K1)); refine aops_nil ?_) | (refine acode_region (by rw [hF]; kernel_rfl) ?_; (repeat (refine aops_step fun K1 hK1 => ?_; simp only [push_cast, Nat.reduceEqDiff, reduceCtorEq, Nat.reduceAdd, Nat.reduceMul, Nat.reduceSub, Nat.reduceLeDiff, Nat.reduceLT, Nat.reduceBEq, Nat.reducePow, Int.reduceEq, Int.reduceLT, Int.reduceLE, Int.reduceNeg, Int.reduceAdd, Int.reduceToNat, reduceIte, decide_true, decide_false, hkn]; (try simp (disch := omega) only [wrap64, wrap8]); (first | (refine hK1 _ ?_) | (refine ⟨by omega, hK1 _ ?_⟩) | (refine ⟨⟨by omega, by omega⟩, hK1 _ ?_⟩) | (refine ⟨⟨by omega, by omega, by omega⟩, hK1 _ ?_⟩)); clear hK1 K1)); refine aops_nil ?_) | (refine acode_seq ?_) | (refine acode_block ?_) | (refine acode_skip ?_) | (refine acode_exit ?_) | (refine acode_ret ?_) | (refine andThen_normal ?_) | (refine andThen_exit ?_) | (refine andThen_ret ?_) | (refine inBlock_normal ?_) | (refine inBlock_ret ?_) | (refine inBlock_same ?_) | (refine inBlock_other rfl ?_))
    refine acode_false (by simp only [push_cast, Nat.reduceEqDiff, reduceCtorEq, Nat.reduceAdd, Nat.reduceMul, Nat.reduceSub, Nat.reduceLeDiff, Nat.reduceLT, Nat.reduceBEq, Nat.reducePow, Int.reduceEq, Int.reduceLT, Int.reduceLE, Int.reduceNeg, Int.reduceAdd, Int.reduceToNat, reduceIte, decide_true, decide_false]) ?_
    refine acode_frz ?_
    repeat (first | (refine acode_region_seq (by rw [hF]; kernel_rfl) ?_; (repeat (refine aops_step fun K1 hK1 => ?_; simp only [push_cast, Nat.reduceEqDiff, reduceCtorEq, Nat.reduceAdd, Nat.reduceMul, Nat.reduceSub, Nat.reduceLeDiff, Nat.reduceLT, Nat.reduceBEq, Nat.reducePow, Int.reduceEq, Int.reduceLT, Int.reduceLE, Int.reduceNeg, Int.reduceAdd, Int.reduceToNat, reduceIte, decide_true, decide_false]; (try simp (disch := omega) only [wrap64, wrap8]); (first | (refine hK1 _ ?_) | (refine ⟨by omega, hK1 _ ?_⟩) | (refine ⟨⟨by omega, by omega⟩, hK1 _ ?_⟩) | (refine ⟨⟨by omega, by omega, by omega⟩, hK1 _ ?_⟩)); clear hK1 K1)); refine aops_nil ?_) | (refine acode_region (by rw [hF]; kernel_rfl) ?_; (repeat (refine aops_step fun K1 hK1 => ?_; simp only [push_cast, Nat.reduceEqDiff, reduceCtorEq, Nat.reduceAdd, Nat.reduceMul, Nat.reduceSub, Nat.reduceLeDiff, Nat.reduceLT, Nat.reduceBEq, Nat.reducePow, Int.reduceEq, Int.reduceLT, Int.reduceLE, Int.reduceNeg, Int.reduceAdd, Int.reduceToNat, reduceIte, decide_true, decide_false]; (try simp (disch := omega) only [wrap64, wrap8]); (first | (refine hK1 _ ?_) | (refine ⟨by omega, hK1 _ ?_⟩) | (refine ⟨⟨by omega, by omega⟩, hK1 _ ?_⟩) | (refine ⟨⟨by omega, by omega, by omega⟩, hK1 _ ?_⟩)); clear hK1 K1)); refine aops_nil ?_) | (refine acode_seq ?_) | (refine acode_block ?_) | (refine acode_skip ?_) | (refine acode_exit ?_) | (refine acode_ret ?_) | (refine andThen_normal ?_) | (refine andThen_exit ?_) | (refine andThen_ret ?_) | (refine inBlock_normal ?_) | (refine inBlock_ret ?_) | (refine inBlock_same ?_) | (refine inBlock_other rfl ?_))
    refine (hQ _ ?_).2
    simp only [push_cast, Nat.reduceEqDiff, reduceCtorEq, Nat.reduceAdd, Nat.reduceMul, Nat.reduceSub, Nat.reduceLeDiff, Nat.reduceLT, Nat.reduceBEq, Nat.reducePow, Int.reduceEq, Int.reduceLT, Int.reduceLE, Int.reduceNeg, Int.reduceAdd, Int.reduceToNat, reduceIte, decide_true, decide_false, frz]
theorem rcrash_pc {G : World → Prop} (hG : Stab G) (d : DM.Dk) (keep : List Bool) (b1 : d.secs.length ≤ 1000000) (b2 : d.cache.length ≤ 1000000) (b3 : keep.length ≤ 1000000) : PCalls Try.prog G 34 [.one (dk1 d), lstD 1 (bolD keep)] (outD (DM.crashD (fun j => keep.getD j false) d) (DM.argE d)) := by
  by_cases hm : DM.mayD d
  · rw [DM.crashD, DM.argE, if_pos hm, if_pos hm]
    exact (rcrash_yes hG d keep b1 b2 b3 hm).weak fun _ _ _ h => raw_out h
  · rw [DM.crashD, DM.argE, if_neg hm, if_neg hm]
    exact rcrash_no hG d keep b1 b2 hm
theorem PCalls.args {P : Program} {G : World → Prop} {f : FuncId} {ds ds' : List D} {d : D} (h : PCalls P G f ds d) (ha : ∀ Pc w vs, All2 (DRep (noEnv Pc) noSt w) vs ds' → All2 (DRep (noEnv Pc) noSt w) vs ds) : PCalls P G f ds' d :=
  fun Pc w vs hg hlt hv => h Pc w vs hg hlt (ha _ _ _ hv)
theorem nil_args {Pc : Nat → Nat → Prop} {w : World} {d : D} {sz : Nat} (vs : List Value) (h : All2 (DRep (noEnv Pc) noSt w) vs [d, valD (.slice none 0 0)]) : All2 (DRep (noEnv Pc) noSt w) vs [d, lstD sz []] := by
  match vs, h with
  | [x, y], ⟨h1, h2, _⟩ => exact ⟨h1, datRep_nil sz h2, trivial⟩
end Go.Proofs.Ytnoegkhkeeameaa.AM

/- The document's answers of layer 1, by the plain machine: Flush. -/
namespace Go.Proofs.Ytnoegkhkeeameaa.AM
open Go.RowKit
set_option linter.unusedVariables false
set_option linter.unusedSimpArgs false
abbrev nilC : List C := [.d (.v (.slice none 0 0)), .d (.v (.slice none 0 0))]
def flS (d : DM.Dk) : Nat → St
  | 0 => St.of [(1, .one (.c (.box 1 0))), (2, .one (.c (.box 2 0))), (4, valD (.slice none 0 0)), (5, valD (.int .i64 0))] [(1, (25, dkC d)), (2, (25, nilC))] []
  | k + 1 => St.of [(1, .one (.c (.box 1 0))), (2, .one (.c (.box 2 0))), (4, .one (.c (.row 15 k))), (5, valD (.int .i64 ((k + 1 : Nat) : Int)))] [(1, (25, dkC d)), (2, (25, nilC))] [(15, { gen := k, E := 4, sz := 1, wr := true, xs := bolD (List.replicate (k + 1) true) })]
theorem flS_zero (d : DM.Dk) : flS d 0 = St.of [(1, .one (.c (.box 1 0))), (2, .one (.c (.box 2 0))), (4, valD (.slice none 0 0)), (5, valD (.int .i64 0))] [(1, (25, dkC d)), (2, (25, nilC))] [] := rfl
theorem flS_succ (d : DM.Dk) (k : Nat) : flS d (k + 1) = St.of [(1, .one (.c (.box 1 0))), (2, .one (.c (.box 2 0))), (4, .one (.c (.row 15 k))), (5, valD (.int .i64 ((k + 1 : Nat) : Int)))] [(1, (25, dkC d)), (2, (25, nilC))] [(15, { gen := k, E := 4, sz := 1, wr := true, xs := bolD (List.replicate (k + 1) true) })] := rfl
theorem bolD_snoc (k : Nat) : bolD (List.replicate k true) ++ [[.v (.bool true)]] = bolD (List.replicate (k + 1) true) := by simp [bolD, List.replicate_succ']
theorem crash_all (d : DM.Dk) : DM.crashD (fun j => (List.replicate d.cache.length true).getD j false) d = DM.crashD (fun _ => true) d := by
  unfold DM.crashD DM.settleD
  rw [DM.settleK_congr d.secs d.cache d.cache.length (f := fun j => (List.replicate d.cache.length true).getD j false) (g := fun _ => true) (fun j hj => by simp [List.getD, hj])]
set_option maxHeartbeats 1600000 in
theorem rflush_pc {G : World → Prop} (hG : Stab G) (d : DM.Dk) (b1 : d.secs.length ≤ 1000000) (b2 : d.cache.length ≤ 1000000) : PCalls Try.prog G 33 [.one (dk1 d)] (outD (DM.crashD (fun _ => true) d) (DM.argE d)) := by
  obtain ⟨D', hD'⟩ : ∃ D', DM.crashD (fun _ => true) d = D' := ⟨_, rfl⟩
  obtain ⟨X, hX⟩ : ∃ X, DM.argE d = X := ⟨_, rfl⟩
  have C0 : PCalls Try.prog G 34 [.one (dk1 d), lstD 1 (bolD (List.replicate d.cache.length true))] (outD D' X) := by
    have := rcrash_pc hG d (List.replicate d.cache.length true) b1 b2 (by simp; omega)
    rw [crash_all, hD', hX] at this
    exact this
  rw [hD', hX]
  unfold outD
  unfold dk1
  refine pcalls_of Try.func33 rfl (by simp [Try.ntmps33]) hG ?_; intro F hF hFG Q hQ; rw [Try.ntmps33] at hF; rw [Try.results33] at hQ
  subst hFG
  repeat (first | (refine acode_region_seq (by rw [hF]; kernel_rfl) ?_; (repeat (refine aops_step fun K1 hK1 => ?_; simp only [push_cast, Nat.reduceEqDiff, reduceCtorEq, Nat.reduceAdd, Nat.reduceMul, Nat.reduceSub, Nat.reduceLeDiff, Nat.reduceLT, Nat.reduceBEq, Nat.reducePow, Int.reduceEq, Int.reduceLT, Int.reduceLE, Int.reduceNeg, Int.reduceAdd, Int.reduceToNat, reduceIte, decide_true, decide_false]; (try simp (disch := omega) only [wrap64, wrap8]); (first | (refine hK1 _ ?_) | (refine ⟨by omega, hK1 _ ?_⟩) | (refine ⟨⟨by omega, by omega⟩, hK1 _ ?_⟩) | (refine ⟨⟨by omega, by omega, by omega⟩, hK1 _ ?_⟩)); clear hK1 K1)); refine aops_nil ?_) | (refine acode_region (by rw [hF]; kernel_rfl) ?_; (repeat (refine aops_step fun K1 hK1 => ?_; simp only [push_cast, Nat.reduceEqDiff, reduceCtorEq, Nat.reduceAdd, Nat.reduceMul, Nat.reduceSub, Nat.reduceLeDiff, Nat.reduceLT, Nat.reduceBEq, Nat.reducePow, Int.reduceEq, Int.reduceLT, Int.reduceLE, Int.reduceNeg, Int.reduceAdd, Int.reduceToNat, reduceIte, decide_true, decide_false]; (try simp (disch := omega) only [wrap64, wrap8]); (first | (refine hK1 _ ?_) | (refine ⟨by omega, hK1 _ ?_⟩) | (refine ⟨⟨by omega, by omega⟩, hK1 _ ?_⟩) | (refine ⟨⟨by omega, by omega, by omega⟩, hK1 _ ?_⟩)); clear hK1 K1)); refine aops_nil ?_) | (refine acode_seq ?_) | (refine acode_block ?_) | (refine acode_skip ?_) | (refine acode_exit ?_) | (refine acode_ret ?_) | (refine andThen_normal ?_) | (refine andThen_exit ?_) | (refine andThen_ret ?_) | (refine inBlock_normal ?_) | (refine inBlock_ret ?_) | (refine inBlock_same ?_) | (refine inBlock_other rfl ?_))
  refine acode_loop (fun n σ => ∃ k : Nat, k ≤ d.cache.length ∧ n = d.cache.length - k ∧ σ = flS d k) d.cache.length (flS d 0) ⟨0, Nat.zero_le _, by simp, rfl⟩ (by rw [flS_zero]; (refine Le.of ?_ ?_ ?_ <;> simp only [List.not_mem_nil, false_implies, implies_true, and_true, true_and, push_cast, Nat.reduceEqDiff, reduceCtorEq, Nat.reduceAdd, Nat.reduceMul, Nat.reduceSub, Nat.reduceLeDiff, Nat.reduceLT, Nat.reduceBEq, Nat.reducePow, Int.reduceEq, Int.reduceLT, Int.reduceLE, Int.reduceNeg, Int.reduceAdd, Int.reduceToNat, reduceIte, decide_true, decide_false])) ?_
  rintro n σ ⟨k, hk, rfl, rfl⟩
  cases k with
  | zero =>
    rw [flS_zero]
    by_cases hkn : (0 : Int) < (d.cache.length : Int)
    · repeat (first | (refine acode_region_seq (by rw [hF]; kernel_rfl) ?_; (repeat (refine aops_step fun K1 hK1 => ?_; simp only [push_cast, Nat.reduceEqDiff, reduceCtorEq, Nat.reduceAdd, Nat.reduceMul, Nat.reduceSub, Nat.reduceLeDiff, Nat.reduceLT, Nat.reduceBEq, Nat.reducePow, Int.reduceEq, Int.reduceLT, Int.reduceLE, Int.reduceNeg, Int.reduceAdd, Int.reduceToNat, reduceIte, decide_true, decide_false, hkn]; (try simp (disch := omega) only [wrap64, wrap8]); (first | (refine hK1 _ ?_) | (refine ⟨by omega, hK1 _ ?_⟩) | (refine ⟨⟨by omega, by omega⟩, hK1 _ ?_⟩) | (refine ⟨⟨by omega, by omega, by omega⟩, hK1 _ ?_⟩)); clear hK1 K1)); refine aops_nil ?_) | (refine acode_region (by rw [hF]; kernel_rfl) ?_; (repeat (refine aops_step fun K1 hK1 => ?_; simp only [push_cast, Nat.reduceEqDiff, reduceCtorEq, Nat.reduceAdd, Nat.reduceMul, Nat.reduceSub, Nat.reduceLeDiff, Nat.reduceLT, Nat.reduceBEq, Nat.reducePow, Int.reduceEq, Int.reduceLT, Int.reduceLE, Int.reduceNeg, Int.reduceAdd, Int.reduceToNat, reduceIte, decide_true, decide_false, hkn]; (try simp (disch := omega) only [wrap64, wrap8]); (first | (refine hK1 _ ?_) | (refine ⟨by omega, hK1 _ ?_⟩) | (refine ⟨⟨by omega, by omega⟩, hK1 _ ?_⟩) | (refine ⟨⟨by omega, by omega, by omega⟩, hK1 _ ?_⟩)); clear hK1 K1)); refine aops_nil ?_) | (refine acode_seq ?_) | (refine acode_block ?_) | (refine acode_skip ?_) | (refine acode_exit ?_) | (refine acode_ret ?_) | (refine andThen_normal ?_) | (refine andThen_exit ?_) | (refine andThen_ret ?_) | (refine inBlock_normal ?_) | (refine inBlock_ret ?_) | (refine inBlock_same ?_) | (refine inBlock_other rfl ?_))
      refine acode_true (by simp only [push_cast, Nat.reduceEqDiff, reduceCtorEq, Nat.reduceAdd, Nat.reduceMul, Nat.reduceSub, Nat.reduceLeDiff, Nat.reduceLT, Nat.reduceBEq, Nat.reducePow, Int.reduceEq, Int.reduceLT, Int.reduceLE, Int.reduceNeg, Int.reduceAdd, Int.reduceToNat, reduceIte, decide_true, decide_false]) ?_
      repeat (first | (refine acode_region_seq (by rw [hF]; kernel_rfl) ?_; (repeat (refine aops_step fun K1 hK1 => ?_; simp only [push_cast, Nat.reduceEqDiff, reduceCtorEq, Nat.reduceAdd, Nat.reduceMul, Nat.reduceSub, Nat.reduceLeDiff, Nat.reduceLT, Nat.reduceBEq, Nat.reducePow, Int.reduceEq, Int.reduceLT, Int.reduceLE, Int.reduceNeg, Int.reduceAdd, Int.reduceToNat, reduceIte, decide_true, decide_false]; (try simp (disch := omega) only [wrap64, wrap8]); (first | (refine hK1 _ ?_) | (refine ⟨by omega, hK1 _ ?_⟩) | (refine ⟨⟨by omega, by omega⟩, hK1 _ ?_⟩) | (refine ⟨⟨by omega, by omega, by omega⟩, hK1 _ ?_⟩)); clear hK1 K1)); refine aops_nil ?_) | (refine acode_region (by rw [hF]; kernel_rfl) ?_; (repeat (refine aops_step fun K1 hK1 => ?_; simp only [push_cast, Nat.reduceEqDiff, reduceCtorEq, Nat.reduceAdd, Nat.reduceMul, Nat.reduceSub, Nat.reduceLeDiff, Nat.reduceLT, Nat.reduceBEq, Nat.reducePow, Int.reduceEq, Int.reduceLT, Int.reduceLE, Int.reduceNeg, Int.reduceAdd, Int.reduceToNat, reduceIte, decide_true, decide_false]; (try simp (disch := omega) only [wrap64, wrap8]); (first | (refine hK1 _ ?_) | (refine ⟨by omega, hK1 _ ?_⟩) | (refine ⟨⟨by omega, by omega⟩, hK1 _ ?_⟩) | (refine ⟨⟨by omega, by omega, by omega⟩, hK1 _ ?_⟩)); clear hK1 K1)); refine aops_nil ?_) | (refine acode_seq ?_) | (refine acode_block ?_) | (refine acode_skip ?_) | (refine acode_exit ?_) | (refine acode_ret ?_) | (refine andThen_normal ?_) | (refine andThen_exit ?_) | (refine andThen_ret ?_) | (refine inBlock_normal ?_) | (refine inBlock_ret ?_) | (refine inBlock_same ?_) | (refine inBlock_other rfl ?_))
      refine ⟨_, _, ?_, ⟨0 + 1, by omega, rfl, rfl⟩, ?_⟩
      · omega
      · rw [flS_succ]
        (refine Le.of ?_ ?_ ?_ <;> simp only [List.not_mem_nil, false_implies, implies_true, and_true, true_and, push_cast, Nat.reduceEqDiff, reduceCtorEq, Nat.reduceAdd, Nat.reduceMul, Nat.reduceSub, Nat.reduceLeDiff, Nat.reduceLT, Nat.reduceBEq, Nat.reducePow, Int.reduceEq, Int.reduceLT, Int.reduceLE, Int.reduceNeg, Int.reduceAdd, Int.reduceToNat, reduceIte, decide_true, decide_false, exists_eq_left', Nat.le_refl, Row.mk.injEq])
        all_goals first | exact ⟨_, rfl⟩ | rfl
    · have hkl : d.cache.length = 0 := by omega
      rw [hkl] at C0
      repeat (first | (refine acode_region_seq (by rw [hF]; kernel_rfl) ?_; (repeat (refine aops_step fun K1 hK1 => ?_; simp only [push_cast, Nat.reduceEqDiff, reduceCtorEq, Nat.reduceAdd, Nat.reduceMul, Nat.reduceSub, Nat.reduceLeDiff, Nat.reduceLT, Nat.reduceBEq, Nat.reducePow, Int.reduceEq, Int.reduceLT, Int.reduceLE, Int.reduceNeg, Int.reduceAdd, Int.reduceToNat, reduceIte, decide_true, decide_false, hkn]; (try simp (disch := omega) only [wrap64, wrap8]); (first | (refine hK1 _ ?_) | (refine ⟨by omega, hK1 _ ?_⟩) | (refine ⟨⟨by omega, by omega⟩, hK1 _ ?_⟩) | (refine ⟨⟨by omega, by omega, by omega⟩, hK1 _ ?_⟩)); clear hK1 K1)); refine aops_nil ?_) | (refine acode_region (by rw [hF]; kernel_rfl) ?_; (repeat (refine aops_step fun K1 hK1 => ?_; simp only [push_cast, Nat.reduceEqDiff, reduceCtorEq, Nat.reduceAdd, Nat.reduceMul, Nat.reduceSub, Nat.reduceLeDiff, Nat.reduceLT, Nat.reduceBEq, Nat.reducePow, Int.reduceEq, Int.reduceLT, Int.reduceLE, Int.reduceNeg, Int.reduceAdd, Int.reduceToNat, reduceIte, decide_true, decide_false, hkn]; (try simp (disch := omega) only [wrap64, wrap8]); (first | (refine hK1 _ ?_) | (refine ⟨by omega, hK1 _ ?_⟩) | (refine ⟨⟨by omega, by omega⟩, hK1 _ ?_⟩) | (refine ⟨⟨by omega, by omega, by omega⟩, hK1 _ ?_⟩)); clear hK1 K1)); refine aops_nil ?_) | (refine acode_seq ?_) | (refine acode_block ?_) | (refine acode_skip ?_) | (refine acode_exit ?_) | (refine acode_ret ?_) | (refine andThen_normal ?_) | (refine andThen_exit ?_) | (refine andThen_ret ?_) | (refine inBlock_normal ?_) | (refine inBlock_ret ?_) | (refine inBlock_same ?_) | (refine inBlock_other rfl ?_))
      refine acode_false (by simp only [push_cast, Nat.reduceEqDiff, reduceCtorEq, Nat.reduceAdd, Nat.reduceMul, Nat.reduceSub, Nat.reduceLeDiff, Nat.reduceLT, Nat.reduceBEq, Nat.reducePow, Int.reduceEq, Int.reduceLT, Int.reduceLE, Int.reduceNeg, Int.reduceAdd, Int.reduceToNat, reduceIte, decide_true, decide_false]) ?_
      repeat (first | (refine acode_region_seq (by rw [hF]; kernel_rfl) ?_; (repeat (refine aops_step fun K1 hK1 => ?_; simp only [push_cast, Nat.reduceEqDiff, reduceCtorEq, Nat.reduceAdd, Nat.reduceMul, Nat.reduceSub, Nat.reduceLeDiff, Nat.reduceLT, Nat.reduceBEq, Nat.reducePow, Int.reduceEq, Int.reduceLT, Int.reduceLE, Int.reduceNeg, Int.reduceAdd, Int.reduceToNat, reduceIte, decide_true, decide_false]; (try simp (disch := omega) only [wrap64, wrap8]); (first | (refine hK1 _ ?_) | (refine ⟨by omega, hK1 _ ?_⟩) | (refine ⟨⟨by omega, by omega⟩, hK1 _ ?_⟩) | (refine ⟨⟨by omega, by omega, by omega⟩, hK1 _ ?_⟩)); clear hK1 K1)); refine aops_nil ?_) | (refine acode_region (by rw [hF]; kernel_rfl) ?_; (repeat (refine aops_step fun K1 hK1 => ?_; simp only [push_cast, Nat.reduceEqDiff, reduceCtorEq, Nat.reduceAdd, Nat.reduceMul, Nat.reduceSub, Nat.reduceLeDiff, Nat.reduceLT, Nat.reduceBEq, Nat.reducePow, Int.reduceEq, Int.reduceLT, Int.reduceLE, Int.reduceNeg, Int.reduceAdd, Int.reduceToNat, reduceIte, decide_true, decide_false]; (try simp (disch := omega) only [wrap64, wrap8]); (first | (refine hK1 _ ?_) | (refine ⟨by omega, hK1 _ ?_⟩) | (refine ⟨⟨by omega, by omega⟩, hK1 _ ?_⟩) | (refine ⟨⟨by omega, by omega, by omega⟩, hK1 _ ?_⟩)); clear hK1 K1)); refine aops_nil ?_) | (refine acode_seq ?_) | (refine acode_block ?_) | (refine acode_skip ?_) | (refine acode_exit ?_) | (refine acode_ret ?_) | (refine andThen_normal ?_) | (refine andThen_exit ?_) | (refine andThen_ret ?_) | (refine inBlock_normal ?_) | (refine inBlock_ret ?_) | (refine inBlock_same ?_) | (refine inBlock_other rfl ?_))
      (first | (refine acode_region_seq (by rw [hF]; kernel_rfl) ?_) | (refine acode_region (by rw [hF]; kernel_rfl) ?_)); (repeat (refine aops_step fun K1 hK1 => ?_; simp only [push_cast, Nat.reduceEqDiff, reduceCtorEq, Nat.reduceAdd, Nat.reduceMul, Nat.reduceSub, Nat.reduceLeDiff, Nat.reduceLT, Nat.reduceBEq, Nat.reducePow, Int.reduceEq, Int.reduceLT, Int.reduceLE, Int.reduceNeg, Int.reduceAdd, Int.reduceToNat, reduceIte, decide_true, decide_false]; (try simp (disch := omega) only [wrap64, wrap8]); (first | (refine hK1 _ ?_) | (refine ⟨by omega, hK1 _ ?_⟩) | (refine ⟨⟨by omega, by omega⟩, hK1 _ ?_⟩) | (refine ⟨⟨by omega, by omega, by omega⟩, hK1 _ ?_⟩)); clear hK1 K1))
      refine aops_call (by simp only [push_cast, Nat.reduceEqDiff, reduceCtorEq, Nat.reduceAdd, Nat.reduceMul, Nat.reduceSub, Nat.reduceLeDiff, Nat.reduceLT, Nat.reduceBEq, Nat.reducePow, Int.reduceEq, Int.reduceLT, Int.reduceLE, Int.reduceNeg, Int.reduceAdd, Int.reduceToNat, reduceIte, decide_true, decide_false, dk1]) rfl (by simp only [push_cast, Nat.reduceEqDiff, reduceCtorEq, Nat.reduceAdd, Nat.reduceMul, Nat.reduceSub, Nat.reduceLeDiff, Nat.reduceLT, Nat.reduceBEq, Nat.reducePow, Int.reduceEq, Int.reduceLT, Int.reduceLE, Int.reduceNeg, Int.reduceAdd, Int.reduceToNat, reduceIte, decide_true, decide_false, dk1]) (by kernel_rfl) (by simp only [push_cast, Nat.reduceEqDiff, reduceCtorEq, Nat.reduceAdd, Nat.reduceMul, Nat.reduceSub, Nat.reduceLeDiff, Nat.reduceLT, Nat.reduceBEq, Nat.reducePow, Int.reduceEq, Int.reduceLT, Int.reduceLE, Int.reduceNeg, Int.reduceAdd, Int.reduceToNat, reduceIte, decide_true, decide_false, dk1]) (C0.args (fun _ _ vs h => nil_args vs h)) ?_
      unfold outD dk1
      (repeat (refine aops_step fun K1 hK1 => ?_; simp only [push_cast, Nat.reduceEqDiff, reduceCtorEq, Nat.reduceAdd, Nat.reduceMul, Nat.reduceSub, Nat.reduceLeDiff, Nat.reduceLT, Nat.reduceBEq, Nat.reducePow, Int.reduceEq, Int.reduceLT, Int.reduceLE, Int.reduceNeg, Int.reduceAdd, Int.reduceToNat, reduceIte, decide_true, decide_false]; (try simp (disch := omega) only [wrap64, wrap8]); (first | (refine hK1 _ ?_) | (refine ⟨by omega, hK1 _ ?_⟩) | (refine ⟨⟨by omega, by omega⟩, hK1 _ ?_⟩) | (refine ⟨⟨by omega, by omega, by omega⟩, hK1 _ ?_⟩)); clear hK1 K1)); refine aops_nil ?_
      repeat (first | (refine acode_region_seq (by rw [hF]; kernel_rfl) ?_; (repeat (refine aops_step fun K1 hK1 => ?_; simp only [push_cast, Nat.reduceEqDiff, reduceCtorEq, Nat.reduceAdd, Nat.reduceMul, Nat.reduceSub, Nat.reduceLeDiff, Nat.reduceLT, Nat.reduceBEq, Nat.reducePow, Int.reduceEq, Int.reduceLT, Int.reduceLE, Int.reduceNeg, Int.reduceAdd, Int.reduceToNat, reduceIte, decide_true, decide_false]; (try simp (disch := omega) only [wrap64, wrap8]); (first | (refine hK1 _ ?_) | (refine ⟨by omega, hK1 _ ?_⟩) | (refine ⟨⟨by omega, by omega⟩, hK1 _ ?_⟩) | (refine ⟨⟨by omega, by omega, by omega⟩, hK1 _ ?_⟩)); clear hK1 K1)); refine aops_nil ?_) | (refine acode_region (by rw [hF]; kernel_rfl) ?_; (repeat (refine aops_step fun K1 hK1 => ?_; simp only [push_cast, Nat.reduceEqDiff, reduceCtorEq, Nat.reduceAdd, Nat.reduceMul, Nat.reduceSub, Nat.reduceLeDiff, Nat.reduceLT, Nat.reduceBEq, Nat.reducePow, Int.reduceEq, Int.reduceLT, Int.reduceLE, Int.reduceNeg, Int.reduceAdd, Int.reduceToNat, reduceIte, decide_true, decide_false]; (try simp (disch := omega) only [wrap64, wrap8]); (first | (refine hK1 _ ?_) | (refine ⟨by omega, hK1 _ ?_⟩) | (refine ⟨⟨by omega, by omega⟩, hK1 _ ?_⟩) | (refine ⟨⟨by omega, by omega, by omega⟩, hK1 _ ?_⟩)); clear hK1 K1)); refine aops_nil ?_) | (refine acode_seq ?_) | (refine acode_block ?_) | (refine acode_skip ?_) | (refine acode_exit ?_) | (refine acode_ret ?_) | (refine andThen_normal ?_) | (refine andThen_exit ?_) | (refine andThen_ret ?_) | (refine inBlock_normal ?_) | (refine inBlock_ret ?_) | (refine inBlock_same ?_) | (refine inBlock_other rfl ?_))
      refine (hQ _ ?_).2
      simp only [push_cast, Nat.reduceEqDiff, reduceCtorEq, Nat.reduceAdd, Nat.reduceMul, Nat.reduceSub, Nat.reduceLeDiff, Nat.reduceLT, Nat.reduceBEq, Nat.reducePow, Int.reduceEq, Int.reduceLT, Int.reduceLE, Int.reduceNeg, Int.reduceAdd, Int.reduceToNat, reduceIte, decide_true, decide_false]
  | succ k =>
    rw [flS_succ]
    have hl : (List.replicate (k + 1) true).length = k + 1 := List.length_replicate ..
    by_cases hkn : (k : Int) + 1 < (d.cache.length : Int)
    · repeat (first | (refine acode_region_seq (by rw [hF]; kernel_rfl) ?_; (repeat (refine aops_step fun K1 hK1 => ?_; simp only [push_cast, Nat.reduceEqDiff, reduceCtorEq, Nat.reduceAdd, Nat.reduceMul, Nat.reduceSub, Nat.reduceLeDiff, Nat.reduceLT, Nat.reduceBEq, Nat.reducePow, Int.reduceEq, Int.reduceLT, Int.reduceLE, Int.reduceNeg, Int.reduceAdd, Int.reduceToNat, reduceIte, decide_true, decide_false, hkn, hl]; (try simp (disch := omega) only [wrap64, wrap8]); (first | (refine hK1 _ ?_) | (refine ⟨by omega, hK1 _ ?_⟩) | (refine ⟨⟨by omega, by omega⟩, hK1 _ ?_⟩) | (refine ⟨⟨by omega, by omega, by omega⟩, hK1 _ ?_⟩)); clear hK1 K1)); refine aops_nil ?_) | (refine acode_region (by rw [hF]; kernel_rfl) ?_; (repeat (refine aops_step fun K1 hK1 => ?_; simp only [push_cast, Nat.reduceEqDiff, reduceCtorEq, Nat.reduceAdd, Nat.reduceMul, Nat.reduceSub, Nat.reduceLeDiff, Nat.reduceLT, Nat.reduceBEq, Nat.reducePow, Int.reduceEq, Int.reduceLT, Int.reduceLE, Int.reduceNeg, Int.reduceAdd, Int.reduceToNat, reduceIte, decide_true, decide_false, hkn, hl]; (try simp (disch := omega) only [wrap64, wrap8]); (first | (refine hK1 _ ?_) | (refine ⟨by omega, hK1 _ ?_⟩) | (refine ⟨⟨by omega, by omega⟩, hK1 _ ?_⟩) | (refine ⟨⟨by omega, by omega, by omega⟩, hK1 _ ?_⟩)); clear hK1 K1)); refine aops_nil ?_) | (refine acode_seq ?_) | (refine acode_block ?_) | (refine acode_skip ?_) | (refine acode_exit ?_) | (refine acode_ret ?_) | (refine andThen_normal ?_) | (refine andThen_exit ?_) | (refine andThen_ret ?_) | (refine inBlock_normal ?_) | (refine inBlock_ret ?_) | (refine inBlock_same ?_) | (refine inBlock_other rfl ?_))
      refine acode_true (by simp only [push_cast, Nat.reduceEqDiff, reduceCtorEq, Nat.reduceAdd, Nat.reduceMul, Nat.reduceSub, Nat.reduceLeDiff, Nat.reduceLT, Nat.reduceBEq, Nat.reducePow, Int.reduceEq, Int.reduceLT, Int.reduceLE, Int.reduceNeg, Int.reduceAdd, Int.reduceToNat, reduceIte, decide_true, decide_false]) ?_
      repeat (first | (refine acode_region_seq (by rw [hF]; kernel_rfl) ?_; (repeat (refine aops_step fun K1 hK1 => ?_; simp only [push_cast, Nat.reduceEqDiff, reduceCtorEq, Nat.reduceAdd, Nat.reduceMul, Nat.reduceSub, Nat.reduceLeDiff, Nat.reduceLT, Nat.reduceBEq, Nat.reducePow, Int.reduceEq, Int.reduceLT, Int.reduceLE, Int.reduceNeg, Int.reduceAdd, Int.reduceToNat, reduceIte, decide_true, decide_false, hl]; (try simp (disch := omega) only [wrap64, wrap8]); (first | (refine hK1 _ ?_) | (refine ⟨by omega, hK1 _ ?_⟩) | (refine ⟨⟨by omega, by omega⟩, hK1 _ ?_⟩) | (refine ⟨⟨by omega, by omega, by omega⟩, hK1 _ ?_⟩)); clear hK1 K1)); refine aops_nil ?_) | (refine acode_region (by rw [hF]; kernel_rfl) ?_; (repeat (refine aops_step fun K1 hK1 => ?_; simp only [push_cast, Nat.reduceEqDiff, reduceCtorEq, Nat.reduceAdd, Nat.reduceMul, Nat.reduceSub, Nat.reduceLeDiff, Nat.reduceLT, Nat.reduceBEq, Nat.reducePow, Int.reduceEq, Int.reduceLT, Int.reduceLE, Int.reduceNeg, Int.reduceAdd, Int.reduceToNat, reduceIte, decide_true, decide_false, hl]; (try simp (disch := omega) only [wrap64, wrap8]); (first | (refine hK1 _ ?_) | (refine ⟨by omega, hK1 _ ?_⟩) | (refine ⟨⟨by omega, by omega⟩, hK1 _ ?_⟩) | (refine ⟨⟨by omega, by omega, by omega⟩, hK1 _ ?_⟩)); clear hK1 K1)); refine aops_nil ?_) | (refine acode_seq ?_) | (refine acode_block ?_) | (refine acode_skip ?_) | (refine acode_exit ?_) | (refine acode_ret ?_) | (refine andThen_normal ?_) | (refine andThen_exit ?_) | (refine andThen_ret ?_) | (refine inBlock_normal ?_) | (refine inBlock_ret ?_) | (refine inBlock_same ?_) | (refine inBlock_other rfl ?_))
      refine ⟨_, _, ?_, ⟨k + 1 + 1, by omega, rfl, rfl⟩, ?_⟩
      · omega
      · rw [flS_succ]
        (refine Le.of ?_ ?_ ?_ <;> simp only [List.not_mem_nil, false_implies, implies_true, and_true, true_and, push_cast, Nat.reduceEqDiff, reduceCtorEq, Nat.reduceAdd, Nat.reduceMul, Nat.reduceSub, Nat.reduceLeDiff, Nat.reduceLT, Nat.reduceBEq, Nat.reducePow, Int.reduceEq, Int.reduceLT, Int.reduceLE, Int.reduceNeg, Int.reduceAdd, Int.reduceToNat, reduceIte, decide_true, decide_false, exists_eq_left', Nat.le_refl, Row.mk.injEq])
        all_goals first | exact ⟨_, rfl⟩ | exact bolD_snoc _
    · have hkl : k + 1 = d.cache.length := by omega
      rw [← hkl] at C0
      repeat (first | (refine acode_region_seq (by rw [hF]; kernel_rfl) ?_; (repeat (refine aops_step fun K1 hK1 => ?_; simp only [push_cast, Nat.reduceEqDiff, reduceCtorEq, Nat.reduceAdd, Nat.reduceMul, Nat.reduceSub, Nat.reduceLeDiff, Nat.reduceLT, Nat.reduceBEq, Nat.reducePow, Int.reduceEq, Int.reduceLT, Int.reduceLE, Int.reduceNeg, Int.reduceAdd, Int.reduceToNat, reduceIte, decide_true, decide_false, hkn]; (try simp (disch := omega) only [wrap64, wrap8]); (first | (refine hK1 _ ?_) | (refine ⟨by omega, hK1 _ ?_⟩) | (refine ⟨⟨by omega, by omega⟩, hK1 _ ?_⟩) | (refine ⟨⟨by omega, by omega, by omega⟩, hK1 _ ?_⟩)); clear hK1 K1)); refine aops_nil ?_) | (refine acode_region (by rw [hF]; kernel_rfl) ?_; (repeat (refine aops_step fun K1 hK1 => ?_; simp only [push_cast, Nat.reduceEqDiff, reduceCtorEq, Nat.reduceAdd, Nat.reduceMul, Nat.reduceSub, Nat.reduceLeDiff, Nat.reduceLT, Nat.reduceBEq, Nat.reducePow, Int.reduceEq, Int.reduceLT, Int.reduceLE, Int.reduceNeg, Int.reduceAdd, Int.reduceToNat, reduceIte, decide_true, decide_false, hkn]; (try simp (disch := omega) only [wrap64, wrap8]); (first | (refine hK1 _ ?_) | (refine ⟨by omega, hK1 _ ?_⟩) | (refine ⟨⟨by omega, by omega⟩, hK1 _ ?_⟩) | (refine ⟨⟨by omega, by omega, by omega⟩, hK1 _ ?_⟩)); clear hK1 K1)); refine aops_nil ?_) | (refine acode_seq ?_) | (refine acode_block ?_) | (refine acode_skip ?_) | (refine acode_exit ?_) | (refine acode_ret ?_) | (refine andThen_normal ?_) | (refine andThen_exit ?_) | (refine andThen_ret ?_) | (refine inBlock_normal ?_) | (refine inBlock_ret ?_) | (refine inBlock_same ?_) | (refine inBlock_other rfl ?_))
      refine acode_false (by simp only [push_cast, Nat.reduceEqDiff, reduceCtorEq, Nat.reduceAdd, Nat.reduceMul, Nat.reduceSub, Nat.reduceLeDiff, Nat.reduceLT, Nat.reduceBEq, Nat.reducePow, Int.reduceEq, Int.reduceLT, Int.reduceLE, Int.reduceNeg, Int.reduceAdd, Int.reduceToNat, reduceIte, decide_true, decide_false]) ?_
      repeat (first | (refine acode_region_seq (by rw [hF]; kernel_rfl) ?_; (repeat (refine aops_step fun K1 hK1 => ?_; simp only [push_cast, Nat.reduceEqDiff, reduceCtorEq, Nat.reduceAdd, Nat.reduceMul, Nat.reduceSub, Nat.reduceLeDiff, Nat.reduceLT, Nat.reduceBEq, Nat.reducePow, Int.reduceEq, Int.reduceLT, Int.reduceLE, Int.reduceNeg, Int.reduceAdd, Int.reduceToNat, reduceIte, decide_true, decide_false]; (try simp (disch := omega) only [wrap64, wrap8]); (first | (refine hK1 _ ?_) | (refine ⟨by omega, hK1 _ ?_⟩) | (refine ⟨⟨by omega, by omega⟩, hK1 _ ?_⟩) | (refine ⟨⟨by omega, by omega, by omega⟩, hK1 _ ?_⟩)); clear hK1 K1)); refine aops_nil ?_) | (refine acode_region (by rw [hF]; kernel_rfl) ?_; (repeat (refine aops_step fun K1 hK1 => ?_; simp only [push_cast, Nat.reduceEqDiff, reduceCtorEq, Nat.reduceAdd, Nat.reduceMul, Nat.reduceSub, Nat.reduceLeDiff, Nat.reduceLT, Nat.reduceBEq, Nat.reducePow, Int.reduceEq, Int.reduceLT, Int.reduceLE, Int.reduceNeg, Int.reduceAdd, Int.reduceToNat, reduceIte, decide_true, decide_false]; (try simp (disch := omega) only [wrap64, wrap8]); (first | (refine hK1 _ ?_) | (refine ⟨by omega, hK1 _ ?_⟩) | (refine ⟨⟨by omega, by omega⟩, hK1 _ ?_⟩) | (refine ⟨⟨by omega, by omega, by omega⟩, hK1 _ ?_⟩)); clear hK1 K1)); refine aops_nil ?_) | (refine acode_seq ?_) | (refine acode_block ?_) | (refine acode_skip ?_) | (refine acode_exit ?_) | (refine acode_ret ?_) | (refine andThen_normal ?_) | (refine andThen_exit ?_) | (refine andThen_ret ?_) | (refine inBlock_normal ?_) | (refine inBlock_ret ?_) | (refine inBlock_same ?_) | (refine inBlock_other rfl ?_))
      refine acode_frz ?_
      (first | (refine acode_region_seq (by rw [hF]; kernel_rfl) ?_) | (refine acode_region (by rw [hF]; kernel_rfl) ?_)); (repeat (refine aops_step fun K1 hK1 => ?_; simp only [push_cast, Nat.reduceEqDiff, reduceCtorEq, Nat.reduceAdd, Nat.reduceMul, Nat.reduceSub, Nat.reduceLeDiff, Nat.reduceLT, Nat.reduceBEq, Nat.reducePow, Int.reduceEq, Int.reduceLT, Int.reduceLE, Int.reduceNeg, Int.reduceAdd, Int.reduceToNat, reduceIte, decide_true, decide_false]; (try simp (disch := omega) only [wrap64, wrap8]); (first | (refine hK1 _ ?_) | (refine ⟨by omega, hK1 _ ?_⟩) | (refine ⟨⟨by omega, by omega⟩, hK1 _ ?_⟩) | (refine ⟨⟨by omega, by omega, by omega⟩, hK1 _ ?_⟩)); clear hK1 K1))
      refine aops_call (by simp only [push_cast, Nat.reduceEqDiff, reduceCtorEq, Nat.reduceAdd, Nat.reduceMul, Nat.reduceSub, Nat.reduceLeDiff, Nat.reduceLT, Nat.reduceBEq, Nat.reducePow, Int.reduceEq, Int.reduceLT, Int.reduceLE, Int.reduceNeg, Int.reduceAdd, Int.reduceToNat, reduceIte, decide_true, decide_false, dk1, frz]) rfl (by simp only [push_cast, Nat.reduceEqDiff, reduceCtorEq, Nat.reduceAdd, Nat.reduceMul, Nat.reduceSub, Nat.reduceLeDiff, Nat.reduceLT, Nat.reduceBEq, Nat.reducePow, Int.reduceEq, Int.reduceLT, Int.reduceLE, Int.reduceNeg, Int.reduceAdd, Int.reduceToNat, reduceIte, decide_true, decide_false, dk1, frz]) (by kernel_rfl) (by simp only [push_cast, Nat.reduceEqDiff, reduceCtorEq, Nat.reduceAdd, Nat.reduceMul, Nat.reduceSub, Nat.reduceLeDiff, Nat.reduceLT, Nat.reduceBEq, Nat.reducePow, Int.reduceEq, Int.reduceLT, Int.reduceLE, Int.reduceNeg, Int.reduceAdd, Int.reduceToNat, reduceIte, decide_true, decide_false, dk1, frz]) (C0) ?_
      unfold outD dk1
      (repeat (refine aops_step fun K1 hK1 => ?_; simp only [push_cast, Nat.reduceEqDiff, reduceCtorEq, Nat.reduceAdd, Nat.reduceMul, Nat.reduceSub, Nat.reduceLeDiff, Nat.reduceLT, Nat.reduceBEq, Nat.reducePow, Int.reduceEq, Int.reduceLT, Int.reduceLE, Int.reduceNeg, Int.reduceAdd, Int.reduceToNat, reduceIte, decide_true, decide_false]; (try simp (disch := omega) only [wrap64, wrap8]); (first | (refine hK1 _ ?_) | (refine ⟨by omega, hK1 _ ?_⟩) | (refine ⟨⟨by omega, by omega⟩, hK1 _ ?_⟩) | (refine ⟨⟨by omega, by omega, by omega⟩, hK1 _ ?_⟩)); clear hK1 K1)); refine aops_nil ?_
      repeat (first | (refine acode_region_seq (by rw [hF]; kernel_rfl) ?_; (repeat (refine aops_step fun K1 hK1 => ?_; simp only [push_cast, Nat.reduceEqDiff, reduceCtorEq, Nat.reduceAdd, Nat.reduceMul, Nat.reduceSub, Nat.reduceLeDiff, Nat.reduceLT, Nat.reduceBEq, Nat.reducePow, Int.reduceEq, Int.reduceLT, Int.reduceLE, Int.reduceNeg, Int.reduceAdd, Int.reduceToNat, reduceIte, decide_true, decide_false]; (try simp (disch := omega) only [wrap64, wrap8]); (first | (refine hK1 _ ?_) | (refine ⟨by omega, hK1 _ ?_⟩) | (refine ⟨⟨by omega, by omega⟩, hK1 _ ?_⟩) | (refine ⟨⟨by omega, by omega, by omega⟩, hK1 _ ?_⟩)); clear hK1 K1)); refine aops_nil ?_) | (refine acode_region (by rw [hF]; kernel_rfl) ?_; (repeat (refine aops_step fun K1 hK1 => ?_; simp only [push_cast, Nat.reduceEqDiff, reduceCtorEq, Nat.reduceAdd, Nat.reduceMul, Nat.reduceSub, Nat.reduceLeDiff, Nat.reduceLT, Nat.reduceBEq, Nat.reducePow, Int.reduceEq, Int.reduceLT, Int.reduceLE, Int.reduceNeg, Int.reduceAdd, Int.reduceToNat, reduceIte, decide_true, decide_false]; (try simp (disch := omega) only [wrap64, wrap8]); (first | (refine hK1 _ ?_) | (refine ⟨by omega, hK1 _ ?_⟩) | (refine ⟨⟨by omega, by omega⟩, hK1 _ ?_⟩) | (refine ⟨⟨by omega, by omega, by omega⟩, hK1 _ ?_⟩)); clear hK1 K1)); refine aops_nil ?_) | (refine acode_seq ?_) | (refine acode_block ?_) | (refine acode_skip ?_) | (refine acode_exit ?_) | (refine acode_ret ?_) | (refine andThen_normal ?_) | (refine andThen_exit ?_) | (refine andThen_ret ?_) | (refine inBlock_normal ?_) | (refine inBlock_ret ?_) | (refine inBlock_same ?_) | (refine inBlock_other rfl ?_))
      refine (hQ _ ?_).2
      simp only [push_cast, Nat.reduceEqDiff, reduceCtorEq, Nat.reduceAdd, Nat.reduceMul, Nat.reduceSub, Nat.reduceLeDiff, Nat.reduceLT, Nat.reduceBEq, Nat.reducePow, Int.reduceEq, Int.reduceLT, Int.reduceLE, Int.reduceNeg, Int.reduceAdd, Int.reduceToNat, reduceIte, decide_true, decide_false]
end Go.Proofs.Ytnoegkhkeeameaa.AM

/- The document's answers of layer 1, by the plain machine: New. -/
namespace Go.Proofs.Ytnoegkhkeeameaa.AM
open Go.RowKit
set_option linter.unusedVariables false
set_option linter.unusedSimpArgs false
abbrev okD (d : DM.Dk) (x : Bool) : D := .tup [dk1 d, .c (valC (.bool x))]
theorem new_out0 {Pc : Nat → Nat → Prop} {w : World} {v : Value} {x : Bool} (h : DRep (noEnv Pc) noSt w v (.tup [.agg nilC, .c (valC (.bool x))])) : DRep (noEnv Pc) noSt w v (okD ⟨[], []⟩ x) := by
  obtain ⟨vs, rfl, h⟩ := h
  obtain ⟨L⟩ := vs
  match L, h with
  | [x, y], ⟨⟨us, e, h1⟩, h2, _⟩ =>
    obtain ⟨M⟩ := us
    match M, e, h1 with
    | [a, b], e, ⟨g1, g2, _⟩ => exact ⟨_, rfl, ⟨_, e, datRep_nil 1 g1, datRep_nil 2 g2, trivial⟩, h2, trivial⟩
theorem new_out1 {Pc : Nat → Nat → Prop} {w : World} {v : Value} {l : List ByteArray} {x : Bool} (h : DRep (noEnv Pc) noSt w v (.tup [.agg [.d (.lst 1 (secD l)), .d (.v (.slice none 0 0))], .c (valC (.bool x))])) : DRep (noEnv Pc) noSt w v (okD ⟨l, []⟩ x) := by
  obtain ⟨vs, rfl, h⟩ := h
  obtain ⟨L⟩ := vs
  match L, h with
  | [x, y], ⟨⟨us, e, h1⟩, h2, _⟩ =>
    obtain ⟨M⟩ := us
    match M, e, h1 with
    | [a, b], e, ⟨g1, g2, _⟩ => exact ⟨_, rfl, ⟨_, e, g1, datRep_nil 2 g2, trivial⟩, h2, trivial⟩
theorem rnew_no {G : World → Prop} (hG : Stab G) (n : Int) (hn : ¬ DM.newOk n) : PCalls Try.prog G 21 [valD (.int .i64 n)] (.tup [.agg nilC, .c (valC (.bool false))]) := by
  have hc : n < 1 ∨ (¬ n < 1 ∧ 512 < n) := by unfold DM.newOk at hn; omega
  refine pcalls_of Try.func21 rfl (by simp [Try.ntmps21]) hG ?_; intro F hF hFG Q hQ; rw [Try.ntmps21] at hF; rw [Try.results21] at hQ
  rcases hc with h | ⟨h, h2⟩
  · repeat (first | (refine acode_region_seq (by rw [hF]; kernel_rfl) ?_; (repeat (refine aops_step fun K1 hK1 => ?_; simp only [push_cast, Nat.reduceEqDiff, reduceCtorEq, Nat.reduceAdd, Nat.reduceMul, Nat.reduceSub, Nat.reduceLeDiff, Nat.reduceLT, Nat.reduceBEq, Nat.reducePow, Int.reduceEq, Int.reduceLT, Int.reduceLE, Int.reduceNeg, Int.reduceAdd, Int.reduceToNat, reduceIte, decide_true, decide_false, h]; (try simp (disch := omega) only [wrap64, wrap8]); (first | (refine hK1 _ ?_) | (refine ⟨by omega, hK1 _ ?_⟩) | (refine ⟨⟨by omega, by omega⟩, hK1 _ ?_⟩) | (refine ⟨⟨by omega, by omega, by omega⟩, hK1 _ ?_⟩)); clear hK1 K1)); refine aops_nil ?_) | (refine acode_region (by rw [hF]; kernel_rfl) ?_; (repeat (refine aops_step fun K1 hK1 => ?_; simp only [push_cast, Nat.reduceEqDiff, reduceCtorEq, Nat.reduceAdd, Nat.reduceMul, Nat.reduceSub, Nat.reduceLeDiff, Nat.reduceLT, Nat.reduceBEq, Nat.reducePow, Int.reduceEq, Int.reduceLT, Int.reduceLE, Int.reduceNeg, Int.reduceAdd, Int.reduceToNat, reduceIte, decide_true, decide_false, h]; (try simp (disch := omega) only [wrap64, wrap8]); (first | (refine hK1 _ ?_) | (refine ⟨by omega, hK1 _ ?_⟩) | (refine ⟨⟨by omega, by omega⟩, hK1 _ ?_⟩) | (refine ⟨⟨by omega, by omega, by omega⟩, hK1 _ ?_⟩)); clear hK1 K1)); refine aops_nil ?_) | (refine acode_seq ?_) | (refine acode_block ?_) | (refine acode_skip ?_) | (refine acode_exit ?_) | (refine acode_ret ?_) | (refine andThen_normal ?_) | (refine andThen_exit ?_) | (refine andThen_ret ?_) | (refine inBlock_normal ?_) | (refine inBlock_ret ?_) | (refine inBlock_same ?_) | (refine inBlock_other rfl ?_))
    refine acode_true (by simp only [push_cast, Nat.reduceEqDiff, reduceCtorEq, Nat.reduceAdd, Nat.reduceMul, Nat.reduceSub, Nat.reduceLeDiff, Nat.reduceLT, Nat.reduceBEq, Nat.reducePow, Int.reduceEq, Int.reduceLT, Int.reduceLE, Int.reduceNeg, Int.reduceAdd, Int.reduceToNat, reduceIte, decide_true, decide_false]) ?_
    repeat (first | (refine acode_region_seq (by rw [hF]; kernel_rfl) ?_; (repeat (refine aops_step fun K1 hK1 => ?_; simp only [push_cast, Nat.reduceEqDiff, reduceCtorEq, Nat.reduceAdd, Nat.reduceMul, Nat.reduceSub, Nat.reduceLeDiff, Nat.reduceLT, Nat.reduceBEq, Nat.reducePow, Int.reduceEq, Int.reduceLT, Int.reduceLE, Int.reduceNeg, Int.reduceAdd, Int.reduceToNat, reduceIte, decide_true, decide_false]; (try simp (disch := omega) only [wrap64, wrap8]); (first | (refine hK1 _ ?_) | (refine ⟨by omega, hK1 _ ?_⟩) | (refine ⟨⟨by omega, by omega⟩, hK1 _ ?_⟩) | (refine ⟨⟨by omega, by omega, by omega⟩, hK1 _ ?_⟩)); clear hK1 K1)); refine aops_nil ?_) | (refine acode_region (by rw [hF]; kernel_rfl) ?_; (repeat (refine aops_step fun K1 hK1 => ?_; simp only [push_cast, Nat.reduceEqDiff, reduceCtorEq, Nat.reduceAdd, Nat.reduceMul, Nat.reduceSub, Nat.reduceLeDiff, Nat.reduceLT, Nat.reduceBEq, Nat.reducePow, Int.reduceEq, Int.reduceLT, Int.reduceLE, Int.reduceNeg, Int.reduceAdd, Int.reduceToNat, reduceIte, decide_true, decide_false]; (try simp (disch := omega) only [wrap64, wrap8]); (first | (refine hK1 _ ?_) | (refine ⟨by omega, hK1 _ ?_⟩) | (refine ⟨⟨by omega, by omega⟩, hK1 _ ?_⟩) | (refine ⟨⟨by omega, by omega, by omega⟩, hK1 _ ?_⟩)); clear hK1 K1)); refine aops_nil ?_) | (refine acode_seq ?_) | (refine acode_block ?_) | (refine acode_skip ?_) | (refine acode_exit ?_) | (refine acode_ret ?_) | (refine andThen_normal ?_) | (refine andThen_exit ?_) | (refine andThen_ret ?_) | (refine inBlock_normal ?_) | (refine inBlock_ret ?_) | (refine inBlock_same ?_) | (refine inBlock_other rfl ?_))
    refine (hQ _ ?_).2
    simp only [push_cast, Nat.reduceEqDiff, reduceCtorEq, Nat.reduceAdd, Nat.reduceMul, Nat.reduceSub, Nat.reduceLeDiff, Nat.reduceLT, Nat.reduceBEq, Nat.reducePow, Int.reduceEq, Int.reduceLT, Int.reduceLE, Int.reduceNeg, Int.reduceAdd, Int.reduceToNat, reduceIte, decide_true, decide_false]
  · repeat (first | (refine acode_region_seq (by rw [hF]; kernel_rfl) ?_; (repeat (refine aops_step fun K1 hK1 => ?_; simp only [push_cast, Nat.reduceEqDiff, reduceCtorEq, Nat.reduceAdd, Nat.reduceMul, Nat.reduceSub, Nat.reduceLeDiff, Nat.reduceLT, Nat.reduceBEq, Nat.reducePow, Int.reduceEq, Int.reduceLT, Int.reduceLE, Int.reduceNeg, Int.reduceAdd, Int.reduceToNat, reduceIte, decide_true, decide_false, h, h2]; (try simp (disch := omega) only [wrap64, wrap8]); (first | (refine hK1 _ ?_) | (refine ⟨by omega, hK1 _ ?_⟩) | (refine ⟨⟨by omega, by omega⟩, hK1 _ ?_⟩) | (refine ⟨⟨by omega, by omega, by omega⟩, hK1 _ ?_⟩)); clear hK1 K1)); refine aops_nil ?_) | (refine acode_region (by rw [hF]; kernel_rfl) ?_; (repeat (refine aops_step fun K1 hK1 => ?_; simp only [push_cast, Nat.reduceEqDiff, reduceCtorEq, Nat.reduceAdd, Nat.reduceMul, Nat.reduceSub, Nat.reduceLeDiff, Nat.reduceLT, Nat.reduceBEq, Nat.reducePow, Int.reduceEq, Int.reduceLT, Int.reduceLE, Int.reduceNeg, Int.reduceAdd, Int.reduceToNat, reduceIte, decide_true, decide_false, h, h2]; (try simp (disch := omega) only [wrap64, wrap8]); (first | (refine hK1 _ ?_) | (refine ⟨by omega, hK1 _ ?_⟩) | (refine ⟨⟨by omega, by omega⟩, hK1 _ ?_⟩) | (refine ⟨⟨by omega, by omega, by omega⟩, hK1 _ ?_⟩)); clear hK1 K1)); refine aops_nil ?_) | (refine acode_seq ?_) | (refine acode_block ?_) | (refine acode_skip ?_) | (refine acode_exit ?_) | (refine acode_ret ?_) | (refine andThen_normal ?_) | (refine andThen_exit ?_) | (refine andThen_ret ?_) | (refine inBlock_normal ?_) | (refine inBlock_ret ?_) | (refine inBlock_same ?_) | (refine inBlock_other rfl ?_))
    refine acode_true (by simp only [push_cast, Nat.reduceEqDiff, reduceCtorEq, Nat.reduceAdd, Nat.reduceMul, Nat.reduceSub, Nat.reduceLeDiff, Nat.reduceLT, Nat.reduceBEq, Nat.reducePow, Int.reduceEq, Int.reduceLT, Int.reduceLE, Int.reduceNeg, Int.reduceAdd, Int.reduceToNat, reduceIte, decide_true, decide_false]) ?_
    repeat (first | (refine acode_region_seq (by rw [hF]; kernel_rfl) ?_; (repeat (refine aops_step fun K1 hK1 => ?_; simp only [push_cast, Nat.reduceEqDiff, reduceCtorEq, Nat.reduceAdd, Nat.reduceMul, Nat.reduceSub, Nat.reduceLeDiff, Nat.reduceLT, Nat.reduceBEq, Nat.reducePow, Int.reduceEq, Int.reduceLT, Int.reduceLE, Int.reduceNeg, Int.reduceAdd, Int.reduceToNat, reduceIte, decide_true, decide_false]; (try simp (disch := omega) only [wrap64, wrap8]); (first | (refine hK1 _ ?_) | (refine ⟨by omega, hK1 _ ?_⟩) | (refine ⟨⟨by omega, by omega⟩, hK1 _ ?_⟩) | (refine ⟨⟨by omega, by omega, by omega⟩, hK1 _ ?_⟩)); clear hK1 K1)); refine aops_nil ?_) | (refine acode_region (by rw [hF]; kernel_rfl) ?_; (repeat (refine aops_step fun K1 hK1 => ?_; simp only [push_cast, Nat.reduceEqDiff, reduceCtorEq, Nat.reduceAdd, Nat.reduceMul, Nat.reduceSub, Nat.reduceLeDiff, Nat.reduceLT, Nat.reduceBEq, Nat.reducePow, Int.reduceEq, Int.reduceLT, Int.reduceLE, Int.reduceNeg, Int.reduceAdd, Int.reduceToNat, reduceIte, decide_true, decide_false]; (try simp (disch := omega) only [wrap64, wrap8]); (first | (refine hK1 _ ?_) | (refine ⟨by omega, hK1 _ ?_⟩) | (refine ⟨⟨by omega, by omega⟩, hK1 _ ?_⟩) | (refine ⟨⟨by omega, by omega, by omega⟩, hK1 _ ?_⟩)); clear hK1 K1)); refine aops_nil ?_) | (refine acode_seq ?_) | (refine acode_block ?_) | (refine acode_skip ?_) | (refine acode_exit ?_) | (refine acode_ret ?_) | (refine andThen_normal ?_) | (refine andThen_exit ?_) | (refine andThen_ret ?_) | (refine inBlock_normal ?_) | (refine inBlock_ret ?_) | (refine inBlock_same ?_) | (refine inBlock_other rfl ?_))
    refine (hQ _ ?_).2
    simp only [push_cast, Nat.reduceEqDiff, reduceCtorEq, Nat.reduceAdd, Nat.reduceMul, Nat.reduceSub, Nat.reduceLeDiff, Nat.reduceLT, Nat.reduceBEq, Nat.reducePow, Int.reduceEq, Int.reduceLT, Int.reduceLE, Int.reduceNeg, Int.reduceAdd, Int.reduceToNat, reduceIte, decide_true, decide_false]
def nwS (n : Nat) : Nat → St
  | 0 => St.of [(0, valD (.int .i64 n)), (2, .one (.c (.box 2 0))), (4, .one (.c (.box 4 0))), (5, valD (.int .i64 0))] [(2, (25, nilC)), (4, (25, nilC))] []
  | k + 1 => St.of [(0, valD (.int .i64 n)), (2, .one (.c (.box 2 0))), (4, .one (.c (.box 4 0))), (5, valD (.int .i64 ((k + 1 : Nat) : Int)))] [(2, (25, nilC)), (4, (25, [.row 24 k, .d (.v (.slice none 0 0))]))] [(24, { gen := k, E := 9, sz := 1, wr := true, xs := secD (List.replicate (k + 1) DM.zeroS) })]
theorem nwS_zero (n : Nat) : nwS n 0 = St.of [(0, valD (.int .i64 n)), (2, .one (.c (.box 2 0))), (4, .one (.c (.box 4 0))), (5, valD (.int .i64 0))] [(2, (25, nilC)), (4, (25, nilC))] [] := rfl
theorem nwS_succ (n k : Nat) : nwS n (k + 1) = St.of [(0, valD (.int .i64 n)), (2, .one (.c (.box 2 0))), (4, .one (.c (.box 4 0))), (5, valD (.int .i64 ((k + 1 : Nat) : Int)))] [(2, (25, nilC)), (4, (25, [.row 24 k, .d (.v (.slice none 0 0))]))] [(24, { gen := k, E := 9, sz := 1, wr := true, xs := secD (List.replicate (k + 1) DM.zeroS) })] := rfl
theorem secD_snoc (k : Nat) : secD (List.replicate k DM.zeroS) ++ [[.v (.string DM.zeroS)]] = secD (List.replicate (k + 1) DM.zeroS) := by simp [secD, List.replicate_succ']
set_option maxHeartbeats 1600000 in
theorem rnew_yes {G : World → Prop} (hG : Stab G) (n : Nat) (h1 : 1 ≤ n) (h2 : n ≤ 512) : PCalls Try.prog G 21 [valD (.int .i64 n)] (.tup [.agg [.d (.lst 1 (secD (List.replicate n DM.zeroS))), .d (.v (.slice none 0 0))], .c (valC (.bool true))]) := by
  have k1 : ¬ (n : Int) < 1 := by omega
  have k2 : ¬ (512 : Int) < (n : Int) := by omega
  refine pcalls_of Try.func21 rfl (by simp [Try.ntmps21]) hG ?_; intro F hF hFG Q hQ; rw [Try.ntmps21] at hF; rw [Try.results21] at hQ
  repeat (first | (refine acode_region_seq (by rw [hF]; kernel_rfl) ?_; (repeat (refine aops_step fun K1 hK1 => ?_; simp only [push_cast, Nat.reduceEqDiff, reduceCtorEq, Nat.reduceAdd, Nat.reduceMul, Nat.reduceSub, Nat.reduceLeDiff, Nat.reduceLT, Nat.reduceBEq, Nat.reducePow, Int.reduceEq, Int.reduceLT, Int.reduceLE, Int.reduceNeg, Int.reduceAdd, Int.reduceToNat, reduceIte, decide_true, decide_false, k1, k2]; (try simp (disch := omega) only [wrap64, wrap8]); (first | (refine hK1 _ ?_) | (refine ⟨by omega, hK1 _ ?_⟩) | (refine ⟨⟨by omega, by omega⟩, hK1 _ ?_⟩) | (refine ⟨⟨by omega, by omega, by omega⟩, hK1 _ ?_⟩)); clear hK1 K1)); refine aops_nil ?_) | (refine acode_region (by rw [hF]; kernel_rfl) ?_; (repeat (refine aops_step fun K1 hK1 => ?_; simp only [push_cast, Nat.reduceEqDiff, reduceCtorEq, Nat.reduceAdd, Nat.reduceMul, Nat.reduceSub, Nat.reduceLeDiff, Nat.reduceLT, Nat.reduceBEq, Nat.reducePow, Int.reduceEq, Int.reduceLT, Int.reduceLE, Int.reduceNeg, Int.reduceAdd, Int.reduceToNat, reduceIte, decide_true, decide_false, k1, k2]; (try simp (disch := omega) only [wrap64, wrap8]); (first | (refine hK1 _ ?_) | (refine ⟨by omega, hK1 _ ?_⟩) | (refine ⟨⟨by omega, by omega⟩, hK1 _ ?_⟩) | (refine ⟨⟨by omega, by omega, by omega⟩, hK1 _ ?_⟩)); clear hK1 K1)); refine aops_nil ?_) | (refine acode_seq ?_) | (refine acode_block ?_) | (refine acode_skip ?_) | (refine acode_exit ?_) | (refine acode_ret ?_) | (refine andThen_normal ?_) | (refine andThen_exit ?_) | (refine andThen_ret ?_) | (refine inBlock_normal ?_) | (refine inBlock_ret ?_) | (refine inBlock_same ?_) | (refine inBlock_other rfl ?_))
  refine acode_false (by simp only [push_cast, Nat.reduceEqDiff, reduceCtorEq, Nat.reduceAdd, Nat.reduceMul, Nat.reduceSub, Nat.reduceLeDiff, Nat.reduceLT, Nat.reduceBEq, Nat.reducePow, Int.reduceEq, Int.reduceLT, Int.reduceLE, Int.reduceNeg, Int.reduceAdd, Int.reduceToNat, reduceIte, decide_true, decide_false]) ?_
  repeat (first | (refine acode_region_seq (by rw [hF]; kernel_rfl) ?_; (repeat (refine aops_step fun K1 hK1 => ?_; simp only [push_cast, Nat.reduceEqDiff, reduceCtorEq, Nat.reduceAdd, Nat.reduceMul, Nat.reduceSub, Nat.reduceLeDiff, Nat.reduceLT, Nat.reduceBEq, Nat.reducePow, Int.reduceEq, Int.reduceLT, Int.reduceLE, Int.reduceNeg, Int.reduceAdd, Int.reduceToNat, reduceIte, decide_true, decide_false]; (try simp (disch := omega) only [wrap64, wrap8]); (first | (refine hK1 _ ?_) | (refine ⟨by omega, hK1 _ ?_⟩) | (refine ⟨⟨by omega, by omega⟩, hK1 _ ?_⟩) | (refine ⟨⟨by omega, by omega, by omega⟩, hK1 _ ?_⟩)); clear hK1 K1)); refine aops_nil ?_) | (refine acode_region (by rw [hF]; kernel_rfl) ?_; (repeat (refine aops_step fun K1 hK1 => ?_; simp only [push_cast, Nat.reduceEqDiff, reduceCtorEq, Nat.reduceAdd, Nat.reduceMul, Nat.reduceSub, Nat.reduceLeDiff, Nat.reduceLT, Nat.reduceBEq, Nat.reducePow, Int.reduceEq, Int.reduceLT, Int.reduceLE, Int.reduceNeg, Int.reduceAdd, Int.reduceToNat, reduceIte, decide_true, decide_false]; (try simp (disch := omega) only [wrap64, wrap8]); (first | (refine hK1 _ ?_) | (refine ⟨by omega, hK1 _ ?_⟩) | (refine ⟨⟨by omega, by omega⟩, hK1 _ ?_⟩) | (refine ⟨⟨by omega, by omega, by omega⟩, hK1 _ ?_⟩)); clear hK1 K1)); refine aops_nil ?_) | (refine acode_seq ?_) | (refine acode_block ?_) | (refine acode_skip ?_) | (refine acode_exit ?_) | (refine acode_ret ?_) | (refine andThen_normal ?_) | (refine andThen_exit ?_) | (refine andThen_ret ?_) | (refine inBlock_normal ?_) | (refine inBlock_ret ?_) | (refine inBlock_same ?_) | (refine inBlock_other rfl ?_))
  have C0 : PCalls Try.prog F.G 56 [valD (.string ⟨#[]⟩)] (valD (.string DM.zeroS)) := rfill_pc F.gst ⟨#[]⟩ (by decide)
  refine acode_loop (fun m σ => ∃ k : Nat, k ≤ n ∧ m = n - k ∧ σ = nwS n k) n (nwS n 0) ⟨0, Nat.zero_le _, rfl, rfl⟩ (by rw [nwS_zero]; (refine Le.of ?_ ?_ ?_ <;> simp only [List.not_mem_nil, false_implies, implies_true, and_true, true_and, push_cast, Nat.reduceEqDiff, reduceCtorEq, Nat.reduceAdd, Nat.reduceMul, Nat.reduceSub, Nat.reduceLeDiff, Nat.reduceLT, Nat.reduceBEq, Nat.reducePow, Int.reduceEq, Int.reduceLT, Int.reduceLE, Int.reduceNeg, Int.reduceAdd, Int.reduceToNat, reduceIte, decide_true, decide_false])) ?_
  rintro m σ ⟨k, hk, rfl, rfl⟩
  cases k with
  | zero =>
    rw [nwS_zero]
    have hkn : (0 : Int) < (n : Int) := by omega
    repeat (first | (refine acode_region_seq (by rw [hF]; kernel_rfl) ?_; (repeat (refine aops_step fun K1 hK1 => ?_; simp only [push_cast, Nat.reduceEqDiff, reduceCtorEq, Nat.reduceAdd, Nat.reduceMul, Nat.reduceSub, Nat.reduceLeDiff, Nat.reduceLT, Nat.reduceBEq, Nat.reducePow, Int.reduceEq, Int.reduceLT, Int.reduceLE, Int.reduceNeg, Int.reduceAdd, Int.reduceToNat, reduceIte, decide_true, decide_false, hkn]; (try simp (disch := omega) only [wrap64, wrap8]); (first | (refine hK1 _ ?_) | (refine ⟨by omega, hK1 _ ?_⟩) | (refine ⟨⟨by omega, by omega⟩, hK1 _ ?_⟩) | (refine ⟨⟨by omega, by omega, by omega⟩, hK1 _ ?_⟩)); clear hK1 K1)); refine aops_nil ?_) | (refine acode_region (by rw [hF]; kernel_rfl) ?_; (repeat (refine aops_step fun K1 hK1 => ?_; simp only [push_cast, Nat.reduceEqDiff, reduceCtorEq, Nat.reduceAdd, Nat.reduceMul, Nat.reduceSub, Nat.reduceLeDiff, Nat.reduceLT, Nat.reduceBEq, Nat.reducePow, Int.reduceEq, Int.reduceLT, Int.reduceLE, Int.reduceNeg, Int.reduceAdd, Int.reduceToNat, reduceIte, decide_true, decide_false, hkn]; (try simp (disch := omega) only [wrap64, wrap8]); (first | (refine hK1 _ ?_) | (refine ⟨by omega, hK1 _ ?_⟩) | (refine ⟨⟨by omega, by omega⟩, hK1 _ ?_⟩) | (refine ⟨⟨by omega, by omega, by omega⟩, hK1 _ ?_⟩)); clear hK1 K1)); refine aops_nil ?_) | (refine acode_seq ?_) | (refine acode_block ?_) | (refine acode_skip ?_) | (refine acode_exit ?_) | (refine acode_ret ?_) | (refine andThen_normal ?_) | (refine andThen_exit ?_) | (refine andThen_ret ?_) | (refine inBlock_normal ?_) | (refine inBlock_ret ?_) | (refine inBlock_same ?_) | (refine inBlock_other rfl ?_))
    refine acode_true (by simp only [push_cast, Nat.reduceEqDiff, reduceCtorEq, Nat.reduceAdd, Nat.reduceMul, Nat.reduceSub, Nat.reduceLeDiff, Nat.reduceLT, Nat.reduceBEq, Nat.reducePow, Int.reduceEq, Int.reduceLT, Int.reduceLE, Int.reduceNeg, Int.reduceAdd, Int.reduceToNat, reduceIte, decide_true, decide_false]) ?_
    repeat (first | (refine acode_region_seq (by rw [hF]; kernel_rfl) ?_; (repeat (refine aops_step fun K1 hK1 => ?_; simp only [push_cast, Nat.reduceEqDiff, reduceCtorEq, Nat.reduceAdd, Nat.reduceMul, Nat.reduceSub, Nat.reduceLeDiff, Nat.reduceLT, Nat.reduceBEq, Nat.reducePow, Int.reduceEq, Int.reduceLT, Int.reduceLE, Int.reduceNeg, Int.reduceAdd, Int.reduceToNat, reduceIte, decide_true, decide_false]; (try simp (disch := omega) only [wrap64, wrap8]); (first | (refine hK1 _ ?_) | (refine ⟨by omega, hK1 _ ?_⟩) | (refine ⟨⟨by omega, by omega⟩, hK1 _ ?_⟩) | (refine ⟨⟨by omega, by omega, by omega⟩, hK1 _ ?_⟩)); clear hK1 K1)); refine aops_nil ?_) | (refine acode_region (by rw [hF]; kernel_rfl) ?_; (repeat (refine aops_step fun K1 hK1 => ?_; simp only [push_cast, Nat.reduceEqDiff, reduceCtorEq, Nat.reduceAdd, Nat.reduceMul, Nat.reduceSub, Nat.reduceLeDiff, Nat.reduceLT, Nat.reduceBEq, Nat.reducePow, Int.reduceEq, Int.reduceLT, Int.reduceLE, Int.reduceNeg, Int.reduceAdd, Int.reduceToNat, reduceIte, decide_true, decide_false]; (try simp (disch := omega) only [wrap64, wrap8]); (first | (refine hK1 _ ?_) | (refine ⟨by omega, hK1 _ ?_⟩) | (refine ⟨⟨by omega, by omega⟩, hK1 _ ?_⟩) | (refine ⟨⟨by omega, by omega, by omega⟩, hK1 _ ?_⟩)); clear hK1 K1)); refine aops_nil ?_) | (refine acode_seq ?_) | (refine acode_block ?_) | (refine acode_skip ?_) | (refine acode_exit ?_) | (refine acode_ret ?_) | (refine andThen_normal ?_) | (refine andThen_exit ?_) | (refine andThen_ret ?_) | (refine inBlock_normal ?_) | (refine inBlock_ret ?_) | (refine inBlock_same ?_) | (refine inBlock_other rfl ?_))
    (first | (refine acode_region_seq (by rw [hF]; kernel_rfl) ?_) | (refine acode_region (by rw [hF]; kernel_rfl) ?_)); (repeat (refine aops_step fun K1 hK1 => ?_; simp only [push_cast, Nat.reduceEqDiff, reduceCtorEq, Nat.reduceAdd, Nat.reduceMul, Nat.reduceSub, Nat.reduceLeDiff, Nat.reduceLT, Nat.reduceBEq, Nat.reducePow, Int.reduceEq, Int.reduceLT, Int.reduceLE, Int.reduceNeg, Int.reduceAdd, Int.reduceToNat, reduceIte, decide_true, decide_false]; (try simp (disch := omega) only [wrap64, wrap8]); (first | (refine hK1 _ ?_) | (refine ⟨by omega, hK1 _ ?_⟩) | (refine ⟨⟨by omega, by omega⟩, hK1 _ ?_⟩) | (refine ⟨⟨by omega, by omega, by omega⟩, hK1 _ ?_⟩)); clear hK1 K1))
    refine aops_call (by simp only [push_cast, Nat.reduceEqDiff, reduceCtorEq, Nat.reduceAdd, Nat.reduceMul, Nat.reduceSub, Nat.reduceLeDiff, Nat.reduceLT, Nat.reduceBEq, Nat.reducePow, Int.reduceEq, Int.reduceLT, Int.reduceLE, Int.reduceNeg, Int.reduceAdd, Int.reduceToNat, reduceIte, decide_true, decide_false]) rfl (by simp only [push_cast, Nat.reduceEqDiff, reduceCtorEq, Nat.reduceAdd, Nat.reduceMul, Nat.reduceSub, Nat.reduceLeDiff, Nat.reduceLT, Nat.reduceBEq, Nat.reducePow, Int.reduceEq, Int.reduceLT, Int.reduceLE, Int.reduceNeg, Int.reduceAdd, Int.reduceToNat, reduceIte, decide_true, decide_false]) (by kernel_rfl) (by simp only [push_cast, Nat.reduceEqDiff, reduceCtorEq, Nat.reduceAdd, Nat.reduceMul, Nat.reduceSub, Nat.reduceLeDiff, Nat.reduceLT, Nat.reduceBEq, Nat.reducePow, Int.reduceEq, Int.reduceLT, Int.reduceLE, Int.reduceNeg, Int.reduceAdd, Int.reduceToNat, reduceIte, decide_true, decide_false]) (C0) ?_
    (repeat (refine aops_step fun K1 hK1 => ?_; simp only [push_cast, Nat.reduceEqDiff, reduceCtorEq, Nat.reduceAdd, Nat.reduceMul, Nat.reduceSub, Nat.reduceLeDiff, Nat.reduceLT, Nat.reduceBEq, Nat.reducePow, Int.reduceEq, Int.reduceLT, Int.reduceLE, Int.reduceNeg, Int.reduceAdd, Int.reduceToNat, reduceIte, decide_true, decide_false]; (try simp (disch := omega) only [wrap64, wrap8]); (first | (refine hK1 _ ?_) | (refine ⟨by omega, hK1 _ ?_⟩) | (refine ⟨⟨by omega, by omega⟩, hK1 _ ?_⟩) | (refine ⟨⟨by omega, by omega, by omega⟩, hK1 _ ?_⟩)); clear hK1 K1)); refine aops_nil ?_
    repeat (first | (refine acode_region_seq (by rw [hF]; kernel_rfl) ?_; (repeat (refine aops_step fun K1 hK1 => ?_; simp only [push_cast, Nat.reduceEqDiff, reduceCtorEq, Nat.reduceAdd, Nat.reduceMul, Nat.reduceSub, Nat.reduceLeDiff, Nat.reduceLT, Nat.reduceBEq, Nat.reducePow, Int.reduceEq, Int.reduceLT, Int.reduceLE, Int.reduceNeg, Int.reduceAdd, Int.reduceToNat, reduceIte, decide_true, decide_false]; (try simp (disch := omega) only [wrap64, wrap8]); (first | (refine hK1 _ ?_) | (refine ⟨by omega, hK1 _ ?_⟩) | (refine ⟨⟨by omega, by omega⟩, hK1 _ ?_⟩) | (refine ⟨⟨by omega, by omega, by omega⟩, hK1 _ ?_⟩)); clear hK1 K1)); refine aops_nil ?_) | (refine acode_region (by rw [hF]; kernel_rfl) ?_; (repeat (refine aops_step fun K1 hK1 => ?_; simp only [push_cast, Nat.reduceEqDiff, reduceCtorEq, Nat.reduceAdd, Nat.reduceMul, Nat.reduceSub, Nat.reduceLeDiff, Nat.reduceLT, Nat.reduceBEq, Nat.reducePow, Int.reduceEq, Int.reduceLT, Int.reduceLE, Int.reduceNeg, Int.reduceAdd, Int.reduceToNat, reduceIte, decide_true, decide_false]; (try simp (disch := omega) only [wrap64, wrap8]); (first | (refine hK1 _ ?_) | (refine ⟨by omega, hK1 _ ?_⟩) | (refine ⟨⟨by omega, by omega⟩, hK1 _ ?_⟩) | (refine ⟨⟨by omega, by omega, by omega⟩, hK1 _ ?_⟩)); clear hK1 K1)); refine aops_nil ?_) | (refine acode_seq ?_) | (refine acode_block ?_) | (refine acode_skip ?_) | (refine acode_exit ?_) | (refine acode_ret ?_) | (refine andThen_normal ?_) | (refine andThen_exit ?_) | (refine andThen_ret ?_) | (refine inBlock_normal ?_) | (refine inBlock_ret ?_) | (refine inBlock_same ?_) | (refine inBlock_other rfl ?_))
    refine ⟨_, _, ?_, ⟨0 + 1, by omega, rfl, rfl⟩, ?_⟩
    · omega
    · rw [nwS_succ]
      (refine Le.of ?_ ?_ ?_ <;> simp only [List.not_mem_nil, false_implies, implies_true, and_true, true_and, push_cast, Nat.reduceEqDiff, reduceCtorEq, Nat.reduceAdd, Nat.reduceMul, Nat.reduceSub, Nat.reduceLeDiff, Nat.reduceLT, Nat.reduceBEq, Nat.reducePow, Int.reduceEq, Int.reduceLT, Int.reduceLE, Int.reduceNeg, Int.reduceAdd, Int.reduceToNat, reduceIte, decide_true, decide_false, exists_eq_left', Nat.le_refl, Row.mk.injEq])
      all_goals first | exact ⟨_, rfl⟩ | rfl
  | succ k =>
    rw [nwS_succ]
    have hl : (List.replicate (k + 1) DM.zeroS).length = k + 1 := List.length_replicate ..
    by_cases hkn : (k : Int) + 1 < (n : Int)
    · repeat (first | (refine acode_region_seq (by rw [hF]; kernel_rfl) ?_; (repeat (refine aops_step fun K1 hK1 => ?_; simp only [push_cast, Nat.reduceEqDiff, reduceCtorEq, Nat.reduceAdd, Nat.reduceMul, Nat.reduceSub, Nat.reduceLeDiff, Nat.reduceLT, Nat.reduceBEq, Nat.reducePow, Int.reduceEq, Int.reduceLT, Int.reduceLE, Int.reduceNeg, Int.reduceAdd, Int.reduceToNat, reduceIte, decide_true, decide_false, hkn]; (try simp (disch := omega) only [wrap64, wrap8]); (first | (refine hK1 _ ?_) | (refine ⟨by omega, hK1 _ ?_⟩) | (refine ⟨⟨by omega, by omega⟩, hK1 _ ?_⟩) | (refine ⟨⟨by omega, by omega, by omega⟩, hK1 _ ?_⟩)); clear hK1 K1)); refine aops_nil ?_) | (refine acode_region (by rw [hF]; kernel_rfl) ?_; (repeat (refine aops_step fun K1 hK1 => ?_; simp only [push_cast, Nat.reduceEqDiff, reduceCtorEq, Nat.reduceAdd, Nat.reduceMul, Nat.reduceSub, Nat.reduceLeDiff, Nat.reduceLT, Nat.reduceBEq, Nat.reducePow, Int.reduceEq, Int.reduceLT, Int.reduceLE, Int.reduceNeg, Int.reduceAdd, Int.reduceToNat, reduceIte, decide_true, decide_false, hkn]; (try simp (disch := omega) only [wrap64, wrap8]); (first | (refine hK1 _ ?_) | (refine ⟨by omega, hK1 _ ?_⟩) | (refine ⟨⟨by omega, by omega⟩, hK1 _ ?_⟩) | (refine ⟨⟨by omega, by omega, by omega⟩, hK1 _ ?_⟩)); clear hK1 K1)); refine aops_nil ?_) | (refine acode_seq ?_) | (refine acode_block ?_) | (refine acode_skip ?_) | (refine acode_exit ?_) | (refine acode_ret ?_) | (refine andThen_normal ?_) | (refine andThen_exit ?_) | (refine andThen_ret ?_) | (refine inBlock_normal ?_) | (refine inBlock_ret ?_) | (refine inBlock_same ?_) | (refine inBlock_other rfl ?_))
      refine acode_true (by simp only [push_cast, Nat.reduceEqDiff, reduceCtorEq, Nat.reduceAdd, Nat.reduceMul, Nat.reduceSub, Nat.reduceLeDiff, Nat.reduceLT, Nat.reduceBEq, Nat.reducePow, Int.reduceEq, Int.reduceLT, Int.reduceLE, Int.reduceNeg, Int.reduceAdd, Int.reduceToNat, reduceIte, decide_true, decide_false]) ?_
      repeat (first | (refine acode_region_seq (by rw [hF]; kernel_rfl) ?_; (repeat (refine aops_step fun K1 hK1 => ?_; simp only [push_cast, Nat.reduceEqDiff, reduceCtorEq, Nat.reduceAdd, Nat.reduceMul, Nat.reduceSub, Nat.reduceLeDiff, Nat.reduceLT, Nat.reduceBEq, Nat.reducePow, Int.reduceEq, Int.reduceLT, Int.reduceLE, Int.reduceNeg, Int.reduceAdd, Int.reduceToNat, reduceIte, decide_true, decide_false]; (try simp (disch := omega) only [wrap64, wrap8]); (first | (refine hK1 _ ?_) | (refine ⟨by omega, hK1 _ ?_⟩) | (refine ⟨⟨by omega, by omega⟩, hK1 _ ?_⟩) | (refine ⟨⟨by omega, by omega, by omega⟩, hK1 _ ?_⟩)); clear hK1 K1)); refine aops_nil ?_) | (refine acode_region (by rw [hF]; kernel_rfl) ?_; (repeat (refine aops_step fun K1 hK1 => ?_; simp only [push_cast, Nat.reduceEqDiff, reduceCtorEq, Nat.reduceAdd, Nat.reduceMul, Nat.reduceSub, Nat.reduceLeDiff, Nat.reduceLT, Nat.reduceBEq, Nat.reducePow, Int.reduceEq, Int.reduceLT, Int.reduceLE, Int.reduceNeg, Int.reduceAdd, Int.reduceToNat, reduceIte, decide_true, decide_false]; (try simp (disch := omega) only [wrap64, wrap8]); (first | (refine hK1 _ ?_) | (refine ⟨by omega, hK1 _ ?_⟩) | (refine ⟨⟨by omega, by omega⟩, hK1 _ ?_⟩) | (refine ⟨⟨by omega, by omega, by omega⟩, hK1 _ ?_⟩)); clear hK1 K1)); refine aops_nil ?_) | (refine acode_seq ?_) | (refine acode_block ?_) | (refine acode_skip ?_) | (refine acode_exit ?_) | (refine acode_ret ?_) | (refine andThen_normal ?_) | (refine andThen_exit ?_) | (refine andThen_ret ?_) | (refine inBlock_normal ?_) | (refine inBlock_ret ?_) | (refine inBlock_same ?_) | (refine inBlock_other rfl ?_))
      (first | (refine acode_region_seq (by rw [hF]; kernel_rfl) ?_) | (refine acode_region (by rw [hF]; kernel_rfl) ?_)); (repeat (refine aops_step fun K1 hK1 => ?_; simp only [push_cast, Nat.reduceEqDiff, reduceCtorEq, Nat.reduceAdd, Nat.reduceMul, Nat.reduceSub, Nat.reduceLeDiff, Nat.reduceLT, Nat.reduceBEq, Nat.reducePow, Int.reduceEq, Int.reduceLT, Int.reduceLE, Int.reduceNeg, Int.reduceAdd, Int.reduceToNat, reduceIte, decide_true, decide_false]; (try simp (disch := omega) only [wrap64, wrap8]); (first | (refine hK1 _ ?_) | (refine ⟨by omega, hK1 _ ?_⟩) | (refine ⟨⟨by omega, by omega⟩, hK1 _ ?_⟩) | (refine ⟨⟨by omega, by omega, by omega⟩, hK1 _ ?_⟩)); clear hK1 K1))
      refine aops_call (by simp only [push_cast, Nat.reduceEqDiff, reduceCtorEq, Nat.reduceAdd, Nat.reduceMul, Nat.reduceSub, Nat.reduceLeDiff, Nat.reduceLT, Nat.reduceBEq, Nat.reducePow, Int.reduceEq, Int.reduceLT, Int.reduceLE, Int.reduceNeg, Int.reduceAdd, Int.reduceToNat, reduceIte, decide_true, decide_false]) rfl (by simp only [push_cast, Nat.reduceEqDiff, reduceCtorEq, Nat.reduceAdd, Nat.reduceMul, Nat.reduceSub, Nat.reduceLeDiff, Nat.reduceLT, Nat.reduceBEq, Nat.reducePow, Int.reduceEq, Int.reduceLT, Int.reduceLE, Int.reduceNeg, Int.reduceAdd, Int.reduceToNat, reduceIte, decide_true, decide_false]) (by kernel_rfl) (by simp only [push_cast, Nat.reduceEqDiff, reduceCtorEq, Nat.reduceAdd, Nat.reduceMul, Nat.reduceSub, Nat.reduceLeDiff, Nat.reduceLT, Nat.reduceBEq, Nat.reducePow, Int.reduceEq, Int.reduceLT, Int.reduceLE, Int.reduceNeg, Int.reduceAdd, Int.reduceToNat, reduceIte, decide_true, decide_false]) (C0) ?_
      (repeat (refine aops_step fun K1 hK1 => ?_; simp only [push_cast, Nat.reduceEqDiff, reduceCtorEq, Nat.reduceAdd, Nat.reduceMul, Nat.reduceSub, Nat.reduceLeDiff, Nat.reduceLT, Nat.reduceBEq, Nat.reducePow, Int.reduceEq, Int.reduceLT, Int.reduceLE, Int.reduceNeg, Int.reduceAdd, Int.reduceToNat, reduceIte, decide_true, decide_false, hl]; (try simp (disch := omega) only [wrap64, wrap8]); (first | (refine hK1 _ ?_) | (refine ⟨by omega, hK1 _ ?_⟩) | (refine ⟨⟨by omega, by omega⟩, hK1 _ ?_⟩) | (refine ⟨⟨by omega, by omega, by omega⟩, hK1 _ ?_⟩)); clear hK1 K1)); refine aops_nil ?_
      repeat (first | (refine acode_region_seq (by rw [hF]; kernel_rfl) ?_; (repeat (refine aops_step fun K1 hK1 => ?_; simp only [push_cast, Nat.reduceEqDiff, reduceCtorEq, Nat.reduceAdd, Nat.reduceMul, Nat.reduceSub, Nat.reduceLeDiff, Nat.reduceLT, Nat.reduceBEq, Nat.reducePow, Int.reduceEq, Int.reduceLT, Int.reduceLE, Int.reduceNeg, Int.reduceAdd, Int.reduceToNat, reduceIte, decide_true, decide_false]; (try simp (disch := omega) only [wrap64, wrap8]); (first | (refine hK1 _ ?_) | (refine ⟨by omega, hK1 _ ?_⟩) | (refine ⟨⟨by omega, by omega⟩, hK1 _ ?_⟩) | (refine ⟨⟨by omega, by omega, by omega⟩, hK1 _ ?_⟩)); clear hK1 K1)); refine aops_nil ?_) | (refine acode_region (by rw [hF]; kernel_rfl) ?_; (repeat (refine aops_step fun K1 hK1 => ?_; simp only [push_cast, Nat.reduceEqDiff, reduceCtorEq, Nat.reduceAdd, Nat.reduceMul, Nat.reduceSub, Nat.reduceLeDiff, Nat.reduceLT, Nat.reduceBEq, Nat.reducePow, Int.reduceEq, Int.reduceLT, Int.reduceLE, Int.reduceNeg, Int.reduceAdd, Int.reduceToNat, reduceIte, decide_true, decide_false]; (try simp (disch := omega) only [wrap64, wrap8]); (first | (refine hK1 _ ?_) | (refine ⟨by omega, hK1 _ ?_⟩) | (refine ⟨⟨by omega, by omega⟩, hK1 _ ?_⟩) | (refine ⟨⟨by omega, by omega, by omega⟩, hK1 _ ?_⟩)); clear hK1 K1)); refine aops_nil ?_) | (refine acode_seq ?_) | (refine acode_block ?_) | (refine acode_skip ?_) | (refine acode_exit ?_) | (refine acode_ret ?_) | (refine andThen_normal ?_) | (refine andThen_exit ?_) | (refine andThen_ret ?_) | (refine inBlock_normal ?_) | (refine inBlock_ret ?_) | (refine inBlock_same ?_) | (refine inBlock_other rfl ?_))
      refine ⟨_, _, ?_, ⟨k + 1 + 1, by omega, rfl, rfl⟩, ?_⟩
      · omega
      · rw [nwS_succ]
        (refine Le.of ?_ ?_ ?_ <;> simp only [List.not_mem_nil, false_implies, implies_true, and_true, true_and, push_cast, Nat.reduceEqDiff, reduceCtorEq, Nat.reduceAdd, Nat.reduceMul, Nat.reduceSub, Nat.reduceLeDiff, Nat.reduceLT, Nat.reduceBEq, Nat.reducePow, Int.reduceEq, Int.reduceLT, Int.reduceLE, Int.reduceNeg, Int.reduceAdd, Int.reduceToNat, reduceIte, decide_true, decide_false, exists_eq_left', Nat.le_refl, Row.mk.injEq])
        all_goals first | exact ⟨_, rfl⟩ | exact secD_snoc _
    · obtain rfl : k + 1 = n := by omega
      refine acode_frz ?_
      repeat (first | (refine acode_region_seq (by rw [hF]; kernel_rfl) ?_; (repeat (refine aops_step fun K1 hK1 => ?_; simp only [push_cast, Nat.reduceEqDiff, reduceCtorEq, Nat.reduceAdd, Nat.reduceMul, Nat.reduceSub, Nat.reduceLeDiff, Nat.reduceLT, Nat.reduceBEq, Nat.reducePow, Int.reduceEq, Int.reduceLT, Int.reduceLE, Int.reduceNeg, Int.reduceAdd, Int.reduceToNat, reduceIte, decide_true, decide_false, Int.lt_irrefl]; (try simp (disch := omega) only [wrap64, wrap8]); (first | (refine hK1 _ ?_) | (refine ⟨by omega, hK1 _ ?_⟩) | (refine ⟨⟨by omega, by omega⟩, hK1 _ ?_⟩) | (refine ⟨⟨by omega, by omega, by omega⟩, hK1 _ ?_⟩)); clear hK1 K1)); refine aops_nil ?_) | (refine acode_region (by rw [hF]; kernel_rfl) ?_; (repeat (refine aops_step fun K1 hK1 => ?_; simp only [push_cast, Nat.reduceEqDiff, reduceCtorEq, Nat.reduceAdd, Nat.reduceMul, Nat.reduceSub, Nat.reduceLeDiff, Nat.reduceLT, Nat.reduceBEq, Nat.reducePow, Int.reduceEq, Int.reduceLT, Int.reduceLE, Int.reduceNeg, Int.reduceAdd, Int.reduceToNat, reduceIte, decide_true, decide_false, Int.lt_irrefl]; (try simp (disch := omega) only [wrap64, wrap8]); (first | (refine hK1 _ ?_) | (refine ⟨by omega, hK1 _ ?_⟩) | (refine ⟨⟨by omega, by omega⟩, hK1 _ ?_⟩) | (refine ⟨⟨by omega, by omega, by omega⟩, hK1 _ ?_⟩)); clear hK1 K1)); refine aops_nil ?_) | (refine acode_seq ?_) | (refine acode_block ?_) | (refine acode_skip ?_) | (refine acode_exit ?_) | (refine acode_ret ?_) | (refine andThen_normal ?_) | (refine andThen_exit ?_) | (refine andThen_ret ?_) | (refine inBlock_normal ?_) | (refine inBlock_ret ?_) | (refine inBlock_same ?_) | (refine inBlock_other rfl ?_))
      refine acode_false (by simp only [push_cast, Nat.reduceEqDiff, reduceCtorEq, Nat.reduceAdd, Nat.reduceMul, Nat.reduceSub, Nat.reduceLeDiff, Nat.reduceLT, Nat.reduceBEq, Nat.reducePow, Int.reduceEq, Int.reduceLT, Int.reduceLE, Int.reduceNeg, Int.reduceAdd, Int.reduceToNat, reduceIte, decide_true, decide_false]) ?_
      repeat (first | (refine acode_region_seq (by rw [hF]; kernel_rfl) ?_; (repeat (refine aops_step fun K1 hK1 => ?_; simp only [push_cast, Nat.reduceEqDiff, reduceCtorEq, Nat.reduceAdd, Nat.reduceMul, Nat.reduceSub, Nat.reduceLeDiff, Nat.reduceLT, Nat.reduceBEq, Nat.reducePow, Int.reduceEq, Int.reduceLT, Int.reduceLE, Int.reduceNeg, Int.reduceAdd, Int.reduceToNat, reduceIte, decide_true, decide_false]; (try simp (disch := omega) only [wrap64, wrap8]); (first | (refine hK1 _ ?_) | (refine ⟨by omega, hK1 _ ?_⟩) | (refine ⟨⟨by omega, by omega⟩, hK1 _ ?_⟩) | (refine ⟨⟨by omega, by omega, by omega⟩, hK1 _ ?_⟩)); clear hK1 K1)); refine aops_nil ?_) | (refine acode_region (by rw [hF]; kernel_rfl) ?_; (repeat (refine aops_step fun K1 hK1 => ?_; simp only [push_cast, Nat.reduceEqDiff, reduceCtorEq, Nat.reduceAdd, Nat.reduceMul, Nat.reduceSub, Nat.reduceLeDiff, Nat.reduceLT, Nat.reduceBEq, Nat.reducePow, Int.reduceEq, Int.reduceLT, Int.reduceLE, Int.reduceNeg, Int.reduceAdd, Int.reduceToNat, reduceIte, decide_true, decide_false]; (try simp (disch := omega) only [wrap64, wrap8]); (first | (refine hK1 _ ?_) | (refine ⟨by omega, hK1 _ ?_⟩) | (refine ⟨⟨by omega, by omega⟩, hK1 _ ?_⟩) | (refine ⟨⟨by omega, by omega, by omega⟩, hK1 _ ?_⟩)); clear hK1 K1)); refine aops_nil ?_) | (refine acode_seq ?_) | (refine acode_block ?_) | (refine acode_skip ?_) | (refine acode_exit ?_) | (refine acode_ret ?_) | (refine andThen_normal ?_) | (refine andThen_exit ?_) | (refine andThen_ret ?_) | (refine inBlock_normal ?_) | (refine inBlock_ret ?_) | (refine inBlock_same ?_) | (refine inBlock_other rfl ?_))
      refine (hQ _ ?_).2
      simp only [push_cast, Nat.reduceEqDiff, reduceCtorEq, Nat.reduceAdd, Nat.reduceMul, Nat.reduceSub, Nat.reduceLeDiff, Nat.reduceLT, Nat.reduceBEq, Nat.reducePow, Int.reduceEq, Int.reduceLT, Int.reduceLE, Int.reduceNeg, Int.reduceAdd, Int.reduceToNat, reduceIte, decide_true, decide_false, frz]
theorem rnew_pc {G : World → Prop} (hG : Stab G) (n : Int) : PCalls Try.prog G 21 [valD (.int .i64 n)] (okD (DM.newD n) (decide (DM.newOk n))) := by
  by_cases h : DM.newOk n
  · obtain ⟨m, rfl⟩ : ∃ m : Nat, n = (m : Int) := ⟨n.toNat, by have := h.1; omega⟩
    have e : DM.newD (m : Int) = ⟨List.replicate m DM.zeroS, []⟩ := by rw [DM.newD, if_pos h]; rfl
    rw [decide_eq_true h, e]
    exact (rnew_yes hG m (by have := h.1; omega) (by have := h.2; omega)).weak fun _ _ _ h => new_out1 h
  · rw [decide_eq_false h, DM.newD, if_neg h]
    exact (rnew_no hG n h).weak fun _ _ _ h => new_out0 h
end Go.Proofs.Ytnoegkhkeeameaa.AM

/- Put, Flush, Crash: the lists that come out lie in new blocks. -/
namespace Go.Proofs.Ytnoegkhkeeameaa
open Go.RowKit
set_option linter.unusedVariables false
namespace DiskW
set_option maxHeartbeats 1600000 in
set_option maxRecDepth 100000 in
theorem put_own (a1 a2 : Option Addr) (k1 k2 n m : Nat) (d : DM.Dk) (i : Int) (s : ByteArray) (w : World) (h : DM.DV w (.slice a1 n k1) (.slice a2 m k2) d) (hn : d.secs.length = n) (hm : d.cache.length = m) (b1 : n ≤ 1000000) (b2 : m ≤ 1000000) (hs : s.size ≤ maxLen) :
    Calls Try.prog 23 #[.agg #[.slice a1 n k1, .slice a2 m k2], .int .i64 i, .string s] w fun e w' => ∃ a3 n3 k3 a4 n4 k4, e = .returned (.tuple #[.agg #[.slice a3 n3 k3, .slice a4 n4 k4], .int .i64 (DM.putE d i s)]) ∧
      DM.DV w' (.slice a3 n3 k3) (.slice a4 n4 k4) (DM.putD d i s) ∧ Below w.heap.size w w' ∧ (∀ k, DM.own2 (.slice a3 n3 k3) (.slice a4 n4 k4) k → w.heap.size ≤ k) ∧ (n3 ≤ k3 ∧ k3 ≤ maxLen ∧ n4 ≤ k4 ∧ k4 ≤ maxLen) := by
  have C1 : Hid (∀ w', DM.DV w' (.slice a1 n k1) (.slice a2 m k2) d → Calls Try.prog 48 #[.agg #[.slice a1 n k1, .slice a2 m k2]] w' fun e w'' => ∃ a1 k1 a2 k2, e = .returned (.agg #[.slice a1 n k1, .slice a2 m k2]) ∧ DM.OD w'' w'.heap.size 9 62 (.slice a1 n k1) (.slice a2 m k2) d ∧ Below w'.heap.size w' w'') := Lib.hid (fun w' h => by
    have := clone_any _ _ d w' h (by omega) (by omega)
    rw [hn, hm] at this
    exact this)
  obtain ⟨x, hx⟩ : ∃ x, decide (DM.mayD d) = x := ⟨_, rfl⟩
  have C2 : Hid (∀ w', DM.DV w' (.slice a1 n k1) (.slice a2 m k2) d → Calls Try.prog 30 #[.agg #[.slice a1 n k1, .slice a2 m k2]] w' fun e w'' => e = .returned (.bool x) ∧ Below w'.heap.size w' w'') := Lib.hid (fun w' h => by
    have := may_any _ _ d w' h (by omega) (by omega)
    rw [hx] at this
    exact this)
  have C3 : Hid (DM.writeE n i s ≠ 0 → ∀ a1 k1 a2 k2 w', Calls Try.prog 50 #[.agg #[.slice a1 n k1, .slice a2 m k2], .int .i64 i, .string s] w' fun e w'' => e = .returned (.tuple #[.agg #[.slice a1 n k1, .slice a2 m k2], .int .i64 (DM.writeE n i s)]) ∧ Below w'.heap.size w' w'') := Lib.hid (fun he a1 k1 a2 k2 w' => write_no a1 a2 n k1 m k2 i s w' (by omega) hs he)
  have C4 : Hid (DM.writeE n i s = 0 → ∀ base a1 k1 a2 k2 w', DM.OD w' base 9 62 (.slice a1 n k1) (.slice a2 m k2) d → base ≤ w'.heap.size → Calls Try.prog 50 #[.agg #[.slice a1 n k1, .slice a2 m k2], .int .i64 i, .string s] w' fun e w'' => ∃ a3 k3, e = .returned (.tuple #[.agg #[.slice a1 n k1, .slice a3 (m + 1) k3], .int .i64 0]) ∧
      DM.OD w'' base 9 62 (.slice a1 n k1) (.slice a3 (m + 1) k3) (DM.addW d i s) ∧ DM.But (DM.own2 (.slice a1 n k1) (.slice a2 m k2)) w' w'') := Lib.hid (fun he base a1 k1 a2 k2 w' h hb => by
    have hin : DM.inD n i ∧ s.size ≤ 32 := by
      unfold DM.writeE at he
      by_cases h1 : DM.inD n i
      · rw [if_pos h1] at he
        by_cases h2 : 32 < s.size
        · rw [if_pos h2] at he; omega
        · exact ⟨h1, by omega⟩
      · rw [if_neg h1] at he; omega
    subst hn hm
    refine (write_yes base a1 a2 k1 k2 d i s w' h hb b1 b2 hin.1 hin.2).mono ?_
    rintro e w'' ⟨a3, k3, rfl, h1, h2, _⟩
    exact ⟨a3, k3, rfl, h1, h2⟩)
  have H := Lib.hid h; clear h
  have hcase : (x = false ∧ DM.putE d i s = 1 ∧ DM.putD d i s = d) ∨ (x = true ∧ DM.writeE n i s ≠ 0 ∧ DM.putE d i s = DM.writeE n i s ∧ DM.putD d i s = d) ∨ (x = true ∧ DM.writeE n i s = 0 ∧ DM.putE d i s = 0 ∧ DM.putD d i s = DM.addW d i s) := by
    by_cases hmay : DM.mayD d
    · have hx1 : x = true := by rw [← hx]; exact decide_eq_true hmay
      unfold DM.putE DM.putD DM.writeD
      rw [if_pos hmay, if_pos hmay, hn]
      by_cases h0 : DM.writeE n i s = 0
      · rw [if_pos h0]; exact Or.inr (Or.inr ⟨hx1, h0, h0, rfl⟩)
      · rw [if_neg h0]; exact Or.inr (Or.inl ⟨hx1, h0, rfl, rfl⟩)
    · have hx1 : x = false := by rw [← hx]; exact decide_eq_false hmay
      unfold DM.putE DM.putD
      rw [if_neg hmay, if_neg hmay]
      exact Or.inl ⟨hx1, rfl, rfl⟩
  have HN := Lib.hid hn; clear hn
  have HM := Lib.hid hm; clear hm
  clear hx
  rcases hcase with ⟨rfl, e1, e2⟩ | ⟨rfl, he, e1, e2⟩ | ⟨rfl, he, e1, e2⟩
  all_goals
    rw [e1, e2]
    clear e1 e2
    go_enter Try.func23, Try.ntmps23
    go_wp2_with fail
    have V := Lib.hid (DM.Var.two w (.slice a1 n k1) (.slice a2 m k2) (.slice none 0 0) (.slice none 0 0) 25)
    have B0 := Lib.hid (DM.below_two w (.cells #[.slice a1 n k1, .slice a2 m k2] 25) (.cells #[.slice none 0 0, .slice none 0 0] 25))
    have hz0 : w.heap.size + 1 < ((w.alloc (.cells #[.slice a1 n k1, .slice a2 m k2] 25)).alloc (.cells #[.slice none 0 0, .slice none 0 0] 25)).heap.size := by simp
    generalize hW0 : (w.alloc (.cells #[.slice a1 n k1, .slice a2 m k2] 25)).alloc (.cells #[.slice none 0 0, .slice none 0 0] 25) = W0 at *
    clear hW0
    refine (C1.out _ (H.out.below B0.out)).mono ?_; rintro e w1 ⟨b1', q1, b2', q2, rfl, O1, B1⟩
    have O1 := Lib.hid O1
    have A1 := Lib.hid (V.out.1.below B1)
    have R1 := Lib.hid (V.out.2.below B1)
    have BW1 : Below w.heap.size w w1 := B0.out.trans (B1.mono B0.out.size)
    have D1 := Lib.hid (H.out.below BW1)
    have c0 := A1.out.c0
    have c1 := A1.out.c1
    have l0 := A1.out.lt
    have z1 := B1.size
    have HB1 := Lib.hid B1; clear B1
    go_wp2_with fail
    have BA : Below w1.heap.size w1 (w1.alloc (.cells #[.slice b1' n q1, .slice b2' m q2] 25)) := (Below.refl _ _).alloc (Nat.le_refl _) _
    refine (C2.out _ (D1.out.below BA)).mono ?_; rintro e w2 ⟨rfl, B2⟩
    have O2 := Lib.hid ((O1.out.below BA).below B2)
    have A2 := Lib.hid ((A1.out.below BA).below B2)
    have R2 := Lib.hid ((R1.out.below BA).below B2)
    have S2 := Lib.hid ((DM.Var.made w1 (.slice b1' n q1) (.slice b2' m q2) 25).below B2)
    have BW2 : Below w.heap.size w w2 := (BW1.trans (BA.mono BW1.size)).trans (B2.mono (by have := BW1.size; simp; omega))
    have z2 : W0.heap.size ≤ w2.heap.size := by have := B2.size; simp at this; omega
    have s0 := S2.out.c0
    have s1 := S2.out.c1
    have r0 := R2.out.c0
    have r1 := R2.out.c1
    have g0 := R2.out.f0
    have g1 := R2.out.f1
    have l2 := S2.out.lt
    have l3 := R2.out.lt
    clear B2 BA c0 c1 l0 D1 O1 A1 R1 A2
    go_wp2_with fail
  · refine bodyPost_ret (results_dke rfl _ _ (w.heap.size + 1) b1' b2' n q1 m q2 rfl (by go_simp) (by go_simp)) rfl ⟨b1', n, q1, b2', m, q2, rfl, ?_, ?_, fun k hk => by have := (O2.out.ge _ hk).1; omega, DM.OD.caps O2.out⟩
    · exact DM.DV.but O2.out (DM.set2 (B := w.heap.size + 1) (u := .slice b1' n q1) (v := .slice b2' m q2)) (fun k hk => by omega)
    · exact (BW2.setCell (by simp) _).setCell (by simp) _
  · refine (C3.out he b1' q1 b2' q2 _).mono ?_; rintro e w3 ⟨rfl, B3⟩
    have O3 := Lib.hid (O2.out.below B3)
    have R3 := Lib.hid (R2.out.below B3)
    have BW3 : Below w.heap.size w w3 := BW2.trans (B3.mono BW2.size)
    have HE := Lib.hid he
    clear B3 O2 R2 S2 s0 s1 r0 r1 g0 g1 he
    have r0 := R3.out.c0
    have r1 := R3.out.c1
    have g0 := R3.out.f0
    have g1 := R3.out.f1
    go_wp2_with fail
    refine bodyPost_ret (results_dke rfl _ _ (w.heap.size + 1) b1' b2' n q1 m q2 rfl (by go_simp) (by go_simp)) rfl ⟨b1', n, q1, b2', m, q2, rfl, ?_, ?_, fun k hk => by have := (O3.out.ge _ hk).1; omega, DM.OD.caps O3.out⟩
    · exact DM.DV.but O3.out (DM.set2 (B := w.heap.size + 1) (u := .slice b1' n q1) (v := .slice b2' m q2)) (fun k hk => by omega)
    · exact (BW3.setCell (by simp) _).setCell (by simp) _
  · refine (C4.out he W0.heap.size b1' q1 b2' q2 _ O2.out z2).mono ?_; rintro e w3 ⟨b3', q3, rfl, O3, BU3⟩
    have O3 := Lib.hid O3
    have R3 := Lib.hid (BU3.var R2.out (fun h => by have := (O2.out.ge _ h).1; omega))
    have BW3 : Below w.heap.size w w3 := BW2.trans (BU3.to_below BW2.size (fun k hk => by have := (O2.out.ge _ hk).1; omega))
    have HE := Lib.hid he
    clear BU3 O2 R2 S2 s0 s1 r0 r1 g0 g1 he
    have r0 := R3.out.c0
    have r1 := R3.out.c1
    have g0 := R3.out.f0
    have g1 := R3.out.f1
    go_wp2_with fail
    refine bodyPost_ret (results_dke rfl _ _ (w.heap.size + 1) b1' b3' n q1 (m + 1) q3 rfl (by go_simp) (by go_simp)) rfl ⟨b1', n, q1, b3', m + 1, q3, rfl, ?_, ?_, fun k hk => by have := (O3.out.ge _ hk).1; omega, DM.OD.caps O3.out⟩
    · exact DM.DV.but O3.out (DM.set2 (B := w.heap.size + 1) (u := .slice b1' n q1) (v := .slice b3' (m + 1) q3)) (fun k hk => by omega)
    · exact (BW3.setCell (by simp) _).setCell (by simp) _
set_option maxHeartbeats 1600000 in
set_option maxRecDepth 100000 in
theorem bflush_own (a1 a2 : Option Addr) (k1 k2 n m : Nat) (d : DM.Dk) (w : World) (h : DM.DV w (.slice a1 n k1) (.slice a2 m k2) d) (hn : d.secs.length = n) (hm : d.cache.length = m) (b1 : n ≤ 1000000) (b2 : m ≤ 1000000) :
    Calls Try.prog 32 #[.agg #[.slice a1 n k1, .slice a2 m k2]] w fun e w' => ∃ a3 n3 k3 a4 n4 k4, e = .returned (.tuple #[.agg #[.slice a3 n3 k3, .slice a4 n4 k4], .int .i64 (DM.argE d)]) ∧
      DM.DV w' (.slice a3 n3 k3) (.slice a4 n4 k4) (DM.crashD (fun _ => true) d) ∧ Below w.heap.size w w' ∧ (∀ k, DM.own2 (.slice a3 n3 k3) (.slice a4 n4 k4) k → w.heap.size ≤ k) ∧ (n3 ≤ k3 ∧ k3 ≤ maxLen ∧ n4 ≤ k4 ∧ k4 ≤ maxLen) := by
  have C1 : Hid (∀ w', DM.DV w' (.slice a1 n k1) (.slice a2 m k2) d → Calls Try.prog 48 #[.agg #[.slice a1 n k1, .slice a2 m k2]] w' fun e w'' => ∃ a1 k1 a2 k2, e = .returned (.agg #[.slice a1 n k1, .slice a2 m k2]) ∧ DM.OD w'' w'.heap.size 9 62 (.slice a1 n k1) (.slice a2 m k2) d ∧ Below w'.heap.size w' w'') := Lib.hid (fun w' h => by
    have := clone_any _ _ d w' h (by omega) (by omega)
    rw [hn, hm] at this
    exact this)
  obtain ⟨x, hx⟩ : ∃ x, decide (DM.mayD d) = x := ⟨_, rfl⟩
  have C2 : Hid (∀ w', DM.DV w' (.slice a1 n k1) (.slice a2 m k2) d → Calls Try.prog 30 #[.agg #[.slice a1 n k1, .slice a2 m k2]] w' fun e w'' => e = .returned (.bool x) ∧ Below w'.heap.size w' w'') := Lib.hid (fun w' h => by
    have := may_any _ _ d w' h (by omega) (by omega)
    rw [hx] at this
    exact this)
  have C4 : Hid (DM.mayD d → ∀ base a1 k1 a2 k2 w', DM.OD w' base 9 62 (.slice a1 n k1) (.slice a2 m k2) d → base ≤ w'.heap.size → Calls Try.prog 49 #[.agg #[.slice a1 n k1, .slice a2 m k2]] w' fun e w'' => e = .returned (.agg #[.slice a1 n k1, .slice none 0 0]) ∧
      DM.OD w'' base 9 62 (.slice a1 n k1) (.slice none 0 0) (DM.settleD (fun _ => true) d) ∧ DM.But (DM.own2 (.slice a1 n k1) (.slice a2 m k2)) w' w'') := Lib.hid (fun hmay base a1 k1 a2 k2 w' h hb => flush_any base a1 a2 k1 k2 n m d w' h hb hn hm hmay b2)
  have H := Lib.hid h; clear h
  have hcase : (x = false ∧ DM.argE d = 1 ∧ DM.crashD (fun _ => true) d = d) ∨ (x = true ∧ DM.mayD d ∧ DM.argE d = 0 ∧ DM.crashD (fun _ => true) d = DM.settleD (fun _ => true) d) := by
    by_cases hmay : DM.mayD d
    · refine Or.inr ⟨by rw [← hx]; exact decide_eq_true hmay, hmay, if_pos hmay, if_pos hmay⟩
    · refine Or.inl ⟨by rw [← hx]; exact decide_eq_false hmay, if_neg hmay, if_neg hmay⟩
  have HN := Lib.hid hn; clear hn
  have HM := Lib.hid hm; clear hm

  clear hx
  rcases hcase with ⟨rfl, e1, e2⟩ | ⟨rfl, hmay, e1, e2⟩
  all_goals
    rw [e1, e2]
    clear e1 e2
    go_enter Try.func32, Try.ntmps32
    go_wp2_with fail
    have V := Lib.hid (DM.Var.two w (.slice a1 n k1) (.slice a2 m k2) (.slice none 0 0) (.slice none 0 0) 25)
    have B0 : Hid (Below w.heap.size w ((w.alloc (.cells #[.slice a1 n k1, .slice a2 m k2] 25)).alloc (.cells #[.slice none 0 0, .slice none 0 0] 25))) := Lib.hid (DM.below_two w _ _)
    have hz0 : w.heap.size + 1 < ((w.alloc (.cells #[.slice a1 n k1, .slice a2 m k2] 25)).alloc (.cells #[.slice none 0 0, .slice none 0 0] 25)).heap.size := by simp
    generalize hW0 : (w.alloc (.cells #[.slice a1 n k1, .slice a2 m k2] 25)).alloc (.cells #[.slice none 0 0, .slice none 0 0] 25) = W0 at *
    clear hW0
    refine (C1.out _ (H.out.below B0.out)).mono ?_; rintro e w1 ⟨b1', q1, b2', q2, rfl, O1, B1⟩
    have O1 := Lib.hid O1
    have A1 := Lib.hid (V.out.1.below B1)
    have R1 := Lib.hid (V.out.2.below B1)
    have BW1 : Below w.heap.size w w1 := B0.out.trans (B1.mono B0.out.size)
    have D1 := Lib.hid (H.out.below BW1)

    have c0 := A1.out.c0
    have c1 := A1.out.c1
    have l0 := A1.out.lt
    have z1 := B1.size
    have HB1 := Lib.hid B1; clear B1
    go_wp2_with fail
    have BA : Below w1.heap.size w1 (w1.alloc (.cells #[.slice b1' n q1, .slice b2' m q2] 25)) := (Below.refl _ _).alloc (Nat.le_refl _) _
    refine (C2.out _ (D1.out.below BA)).mono ?_; rintro e w2 ⟨rfl, B2⟩
    have O2 := Lib.hid ((O1.out.below BA).below B2)
    have R2 := Lib.hid ((R1.out.below BA).below B2)
    have S2 := Lib.hid ((DM.Var.made w1 (.slice b1' n q1) (.slice b2' m q2) 25).below B2)
    have BW2 : Below w.heap.size w w2 := (BW1.trans (BA.mono BW1.size)).trans (B2.mono (by have := BW1.size; simp; omega))
    have z2 : W0.heap.size ≤ w2.heap.size := by have := B2.size; simp at this; omega

    have s0 := S2.out.c0
    have s1 := S2.out.c1
    have r0 := R2.out.c0
    have r1 := R2.out.c1
    have g0 := R2.out.f0
    have g1 := R2.out.f1
    have l2 := S2.out.lt
    have l3 := R2.out.lt
    clear B2 BA c0 c1 l0 D1 O1 A1 R1

    go_wp2_with fail
  · refine bodyPost_ret (results_dke rfl _ _ (w.heap.size + 1) b1' b2' n q1 m q2 rfl (by go_simp) (by go_simp)) rfl ⟨b1', n, q1, b2', m, q2, rfl, ?_, ?_, fun k hk => by have := (O2.out.ge _ hk).1; omega, DM.OD.caps O2.out⟩
    · exact DM.DV.but O2.out (DM.set2 (B := w.heap.size + 1) (u := .slice b1' n q1) (v := .slice b2' m q2)) (fun k hk => by omega)
    · exact (BW2.setCell (by simp <;> omega) _).setCell (by simp <;> omega) _
  · refine (C4.out hmay W0.heap.size b1' q1 b2' q2 _ O2.out z2).mono ?_; rintro e w3 ⟨rfl, O3, BU3⟩
    have O3 := Lib.hid O3
    have R3 := Lib.hid (BU3.var R2.out (fun h => by have := (O2.out.ge _ h).1; omega))
    have BW3 : Below w.heap.size w w3 := BW2.trans (BU3.to_below BW2.size (fun k hk => by have := (O2.out.ge _ hk).1; omega))
    clear BU3 O2 R2 S2 s0 s1 r0 r1 g0 g1 
    have r0 := R3.out.c0
    have r1 := R3.out.c1
    have g0 := R3.out.f0
    have g1 := R3.out.f1
    go_wp2_with fail
    refine bodyPost_ret (results_dke rfl _ _ (w.heap.size + 1) b1' none n q1 0 0 rfl (by go_simp) (by go_simp)) rfl ⟨b1', n, q1, none, 0, 0, rfl, ?_, ?_, fun k hk => by have := (O3.out.ge _ hk).1; omega, DM.OD.caps O3.out⟩
    · exact DM.DV.but O3.out (DM.set2 (B := w.heap.size + 1) (u := .slice b1' n q1) (v := .slice none 0 0)) (fun k hk => by omega)
    · exact (BW3.setCell (by simp <;> omega) _).setCell (by simp <;> omega) _
set_option maxHeartbeats 1600000 in
set_option maxRecDepth 100000 in
theorem crash_own (a1 a2 : Option Addr) (k1 k2 n m : Nat) (d : DM.Dk) (a3 : Option Addr) (k3 : Nat) (l : List Bool) (w : World) (h : DM.DV w (.slice a1 n k1) (.slice a2 m k2) d) (hn : d.secs.length = n) (hm : d.cache.length = m) (b1 : n ≤ 1000000) (b2 : m ≤ 1000000) (hv : BV w (.slice a3 l.length k3) l) (b3 : l.length ≤ 1000000) :
    Calls Try.prog 15 #[.agg #[.slice a1 n k1, .slice a2 m k2], .slice a3 l.length k3] w fun e w' => ∃ a3 n3 k3 a4 n4 k4, e = .returned (.tuple #[.agg #[.slice a3 n3 k3, .slice a4 n4 k4], .int .i64 (DM.argE d)]) ∧
      DM.DV w' (.slice a3 n3 k3) (.slice a4 n4 k4) (DM.crashD (fun j => l.getD j false) d) ∧ Below w.heap.size w w' ∧ (∀ k, DM.own2 (.slice a3 n3 k3) (.slice a4 n4 k4) k → w.heap.size ≤ k) ∧ (n3 ≤ k3 ∧ k3 ≤ maxLen ∧ n4 ≤ k4 ∧ k4 ≤ maxLen) := by
  have C1 : Hid (∀ w', DM.DV w' (.slice a1 n k1) (.slice a2 m k2) d → Calls Try.prog 48 #[.agg #[.slice a1 n k1, .slice a2 m k2]] w' fun e w'' => ∃ a1 k1 a2 k2, e = .returned (.agg #[.slice a1 n k1, .slice a2 m k2]) ∧ DM.OD w'' w'.heap.size 9 62 (.slice a1 n k1) (.slice a2 m k2) d ∧ Below w'.heap.size w' w'') := Lib.hid (fun w' h => by
    have := clone_any _ _ d w' h (by omega) (by omega)
    rw [hn, hm] at this
    exact this)
  obtain ⟨x, hx⟩ : ∃ x, decide (DM.mayD d) = x := ⟨_, rfl⟩
  have C2 : Hid (∀ w', DM.DV w' (.slice a1 n k1) (.slice a2 m k2) d → Calls Try.prog 30 #[.agg #[.slice a1 n k1, .slice a2 m k2]] w' fun e w'' => e = .returned (.bool x) ∧ Below w'.heap.size w' w'') := Lib.hid (fun w' h => by
    have := may_any _ _ d w' h (by omega) (by omega)
    rw [hx] at this
    exact this)
  have C4 : Hid (DM.mayD d → ∀ base a1 k1 a2 k2 w', DM.OD w' base 9 62 (.slice a1 n k1) (.slice a2 m k2) d → base ≤ w'.heap.size → BV w' (.slice a3 l.length k3) l → w'.cell? ⟨w.heap.size + 1, 0, none⟩ = some (.slice a3 l.length k3) → w.heap.size + 1 < base → Calls Try.prog 52 #[.agg #[.slice a1 n k1, .slice a2 m k2], .func (.func 51) #[] #[.pointer (some ⟨w.heap.size + 1, 0, none⟩)]] w' fun e w'' => e = .returned (.agg #[.slice a1 n k1, .slice none 0 0]) ∧
      DM.OD w'' base 9 62 (.slice a1 n k1) (.slice none 0 0) (DM.settleD (fun j => l.getD j false) d) ∧ DM.But (DM.own2 (.slice a1 n k1) (.slice a2 m k2)) w' w'') := Lib.hid (fun hmay base a1 k1 a2 k2 w' h hb hbv hcell hlt => by
    have hbl : ∀ b off, a3 = some ⟨b, off, none⟩ → 0 < l.length → b < w.heap.size := fun b off e h0 => by
      obtain ⟨a', c', h1, h2⟩ := hv
      simp only [Value.slice.injEq] at h1
      obtain ⟨b', off', h3, h4, _⟩ := h2 h0
      rw [← h1.1, e] at h3
      simp only [Option.some.injEq, Addr.mk.injEq] at h3
      omega
    subst hn hm
    refine settle_crash (w.heap.size + 1) (fun j => l.getD j false) base a1 a2 k1 k2 d w' h hb hmay b2 (fun w'' hbut j _ => ?_)
    have hnot : ∀ k, k < base → ¬ DM.own2 (.slice a1 d.secs.length k1) (.slice a2 d.cache.length k2) k := fun k hk ho => by have := (h.ge k ho).1; omega
    refine crash1_any l (.slice a3 l.length k3) (w.heap.size + 1) j w'' ?_ ?_ (by omega)
    · obtain ⟨a', c', h1, h2⟩ := hbv
      refine ⟨a', c', h1, fun h0 => ?_⟩
      obtain ⟨b', off', h3, h4, h5⟩ := h2 h0
      simp only [Value.slice.injEq] at h1
      have hb' := hbl b' off' (h1.1.trans h3) h0
      exact ⟨b', off', h3, Nat.lt_of_lt_of_le h4 hbut.size, fun q hq => (hbut.cell (p := ⟨b', off' + q, none⟩) h4 (hnot b' (by omega))).trans (h5 q hq)⟩
    · exact (hbut.cell (p := ⟨w.heap.size + 1, 0, none⟩) (by show w.heap.size + 1 < w'.heap.size; omega) (hnot _ hlt)).trans hcell)
  have H := Lib.hid h; clear h
  have hcase : (x = false ∧ DM.argE d = 1 ∧ DM.crashD (fun j => l.getD j false) d = d) ∨ (x = true ∧ DM.mayD d ∧ DM.argE d = 0 ∧ DM.crashD (fun j => l.getD j false) d = DM.settleD (fun j => l.getD j false) d) := by
    by_cases hmay : DM.mayD d
    · refine Or.inr ⟨by rw [← hx]; exact decide_eq_true hmay, hmay, if_pos hmay, if_pos hmay⟩
    · refine Or.inl ⟨by rw [← hx]; exact decide_eq_false hmay, if_neg hmay, if_neg hmay⟩
  have HN := Lib.hid hn; clear hn
  have HM := Lib.hid hm; clear hm
  have HV := Lib.hid hv; clear hv
  clear hx
  rcases hcase with ⟨rfl, e1, e2⟩ | ⟨rfl, hmay, e1, e2⟩
  all_goals
    rw [e1, e2]
    clear e1 e2
    go_enter Try.func15, Try.ntmps15
    go_wp2_with fail
    have V := Lib.hid (DM.Var.three w (.slice a1 n k1) (.slice a2 m k2) (.slice none 0 0) (.slice none 0 0) (.slice a3 l.length k3) 25 28)
    have B0 : Hid (Below w.heap.size w (((w.alloc (.cells #[.slice a1 n k1, .slice a2 m k2] 25)).alloc (.cells #[.slice a3 l.length k3] 28)).alloc (.cells #[.slice none 0 0, .slice none 0 0] 25))) := Lib.hid (DM.below_three w _ _ _)
    have hz0 : w.heap.size + 2 < (((w.alloc (.cells #[.slice a1 n k1, .slice a2 m k2] 25)).alloc (.cells #[.slice a3 l.length k3] 28)).alloc (.cells #[.slice none 0 0, .slice none 0 0] 25)).heap.size := by simp
    generalize hW0 : ((w.alloc (.cells #[.slice a1 n k1, .slice a2 m k2] 25)).alloc (.cells #[.slice a3 l.length k3] 28)).alloc (.cells #[.slice none 0 0, .slice none 0 0] 25) = W0 at *
    clear hW0
    refine (C1.out _ (H.out.below B0.out)).mono ?_; rintro e w1 ⟨b1', q1, b2', q2, rfl, O1, B1⟩
    have O1 := Lib.hid O1
    have A1 := Lib.hid (V.out.1.below B1)
    have R1 := Lib.hid (V.out.2.1.below B1)
    have BW1 : Below w.heap.size w w1 := B0.out.trans (B1.mono B0.out.size)
    have D1 := Lib.hid (H.out.below BW1)
    have X1 : w1.cell? ⟨w.heap.size + 1, 0, none⟩ = some (.slice a3 l.length k3) := (B1.cell (p := ⟨w.heap.size + 1, 0, none⟩) (by show w.heap.size + 1 < W0.heap.size; omega)).trans V.out.2.2
    have c0 := A1.out.c0
    have c1 := A1.out.c1
    have l0 := A1.out.lt
    have z1 := B1.size
    have HB1 := Lib.hid B1; clear B1
    go_wp2_with fail
    have BA : Below w1.heap.size w1 (w1.alloc (.cells #[.slice b1' n q1, .slice b2' m q2] 25)) := (Below.refl _ _).alloc (Nat.le_refl _) _
    refine (C2.out _ (D1.out.below BA)).mono ?_; rintro e w2 ⟨rfl, B2⟩
    have O2 := Lib.hid ((O1.out.below BA).below B2)
    have R2 := Lib.hid ((R1.out.below BA).below B2)
    have S2 := Lib.hid ((DM.Var.made w1 (.slice b1' n q1) (.slice b2' m q2) 25).below B2)
    have BW2 : Below w.heap.size w w2 := (BW1.trans (BA.mono BW1.size)).trans (B2.mono (by have := BW1.size; simp; omega))
    have z2 : W0.heap.size ≤ w2.heap.size := by have := B2.size; simp at this; omega
    have X2 : w2.cell? ⟨w.heap.size + 1, 0, none⟩ = some (.slice a3 l.length k3) := (B2.cell (p := ⟨w.heap.size + 1, 0, none⟩) (by simp; omega)).trans ((BA.cell (p := ⟨w.heap.size + 1, 0, none⟩) (by show w.heap.size + 1 < w1.heap.size; omega)).trans X1)
    have s0 := S2.out.c0
    have s1 := S2.out.c1
    have r0 := R2.out.c0
    have r1 := R2.out.c1
    have g0 := R2.out.f0
    have g1 := R2.out.f1
    have l2 := S2.out.lt
    have l3 := R2.out.lt
    clear B2 BA c0 c1 l0 D1 O1 A1 R1
    have hmf : ∀ (fn : Fn) (first cap : Array Value) (w : World), (Instr.makeFunc fn first cap).run Try.prog w = .ok (.func fn first cap) w := fun _ _ _ _ => rfl
    go_wp2_with fail
  · refine bodyPost_ret (results_dke rfl _ _ (w.heap.size + 2) b1' b2' n q1 m q2 rfl (by go_simp) (by go_simp)) rfl ⟨b1', n, q1, b2', m, q2, rfl, ?_, ?_, fun k hk => by have := (O2.out.ge _ hk).1; omega, DM.OD.caps O2.out⟩
    · exact DM.DV.but O2.out (DM.set2 (B := w.heap.size + 2) (u := .slice b1' n q1) (v := .slice b2' m q2)) (fun k hk => by omega)
    · exact (BW2.setCell (by simp <;> omega) _).setCell (by simp <;> omega) _
  · refine (C4.out hmay W0.heap.size b1' q1 b2' q2 _ O2.out z2 (HV.out.below BW2) X2 (by omega)).mono ?_; rintro e w3 ⟨rfl, O3, BU3⟩
    have O3 := Lib.hid O3
    have R3 := Lib.hid (BU3.var R2.out (fun h => by have := (O2.out.ge _ h).1; omega))
    have BW3 : Below w.heap.size w w3 := BW2.trans (BU3.to_below BW2.size (fun k hk => by have := (O2.out.ge _ hk).1; omega))
    clear BU3 O2 R2 S2 s0 s1 r0 r1 g0 g1 hmf
    have r0 := R3.out.c0
    have r1 := R3.out.c1
    have g0 := R3.out.f0
    have g1 := R3.out.f1
    go_wp2_with fail
    refine bodyPost_ret (results_dke rfl _ _ (w.heap.size + 2) b1' none n q1 0 0 rfl (by go_simp) (by go_simp)) rfl ⟨b1', n, q1, none, 0, 0, rfl, ?_, ?_, fun k hk => by have := (O3.out.ge _ hk).1; omega, DM.OD.caps O3.out⟩
    · exact DM.DV.but O3.out (DM.set2 (B := w.heap.size + 2) (u := .slice b1' n q1) (v := .slice none 0 0)) (fun k hk => by omega)
    · exact (BW3.setCell (by simp <;> omega) _).setCell (by simp <;> omega) _
set_option maxHeartbeats 1600000 in
set_option maxRecDepth 100000 in
theorem new_own (n : Nat) (w : World) (h1 : 1 ≤ n) (h2 : n ≤ 512) :
    Calls Try.prog 35 #[.int .i64 (n : Int)] w fun e w' => ∃ g, e = .returned (.tuple #[.agg #[.slice (some ⟨g, 0, none⟩) n n, .slice none 0 0], .bool true]) ∧ DM.DV w' (.slice (some ⟨g, 0, none⟩) n n) (.slice none 0 0) ⟨List.replicate n DM.zeroS, []⟩ ∧ Below w.heap.size w w' ∧ w.heap.size ≤ g := by
  obtain ⟨i0, hi, hz0, hz1, hz2⟩ := info_parts RecW.info_str
  obtain ⟨w1, hmk, hown, hgrow⟩ := run_makeSlice_full (P := Try.prog) (w.alloc (.cells #[.slice none 0 0, .slice none 0 0] 25)) w.heap.size 22 9 i0 (.string ⟨#[]⟩) 1 Try.underlying22 hi hz0 hz1 .i64 .i64 n (by omega) (by rw [hz2]; omega) (by unfold maxLen; omega) (by simp)
  have B1 : Below w.heap.size w w1 := ((Below.refl _ _).alloc (Nat.le_refl _) _).grown hgrow (by simp) (fun k hk => by cases hk)
  have hrow : (madeCells (Value.string ⟨#[]⟩).cells (n * 1)).toList = (DM.rowN n 0).map Value.string := by
    rw [Nat.mul_one, show (Value.string ⟨#[]⟩).cells = #[.string ⟨#[]⟩] from rfl, toList_madeCells_one]
    simp [DM.rowN]
  rw [hrow] at hown
  have R1 : DM.Var w1 w.heap.size (.slice none 0 0) (.slice none 0 0) := (DM.Var.made w _ _ _).set ((Below.refl _ _).grown hgrow (Nat.le_refl _) (fun k hk => by cases hk)) (by simp)
  have HO := Lib.hid hown
  have HR := Lib.hid R1
  have HB := Lib.hid B1
  have z1 : w.heap.size + 1 < w1.heap.size := by
    have := (hown.lt (w.heap.size + 1) (by simp [Value.ownBlock])).2
    exact this
  clear hown R1 B1 hgrow hrow
  have CF : Hid (∀ w, Calls Try.prog 58 #[.string ⟨#[]⟩] w fun e w' => e = .returned (.string DM.zeroS) ∧ Below w.heap.size w w') := Lib.hid (fun w => fill_any ⟨#[]⟩ w (by decide))
  have hn1 : ¬ (n : Int) < 1 := by omega
  have hn2 : ¬ (512 : Int) < (n : Int) := by omega
  simp at hmk
  go_enter Try.func35, Try.ntmps35
  go_wp2_with fail
  have HO1 : Hid (w1.ownsRow w.heap.size 9 1 (.slice (some ⟨w.heap.size + 1, 0, none⟩) n n) n ((DM.rowN n 0).map Value.string)) := Lib.hid (by have := HO.out; simpa using this)
  have HA := Lib.hid (DM.Var.made w1 (.slice (some ⟨w.heap.size + 1, 0, none⟩) n n) (.slice none 0 0) 25)
  have BA : Below w1.heap.size w1 (w1.alloc (.cells #[.slice (some ⟨w.heap.size + 1, 0, none⟩) n n, .slice none 0 0] 25)) := (Below.refl _ _).alloc (Nat.le_refl _) _
  have HBA := Lib.hid BA; clear BA hmk HO
  go_loopw [19] (fun i wr => ∃ q : Nat, q ≤ n ∧ i = .int .i64 q ∧ wr.ownsRow w.heap.size 9 1 (.slice (some ⟨w.heap.size + 1, 0, none⟩) n n) n ((DM.rowN n q).map Value.string) ∧ DM.Var wr w1.heap.size (.slice (some ⟨w.heap.size + 1, 0, none⟩) n n) (.slice none 0 0) ∧ DM.Var wr w.heap.size (.slice none 0 0) (.slice none 0 0) ∧ Below w.heap.size w wr) (fun i _ => n - (intOf i).toNat)
  case atStart => exact ⟨0, Nat.zero_le _, rfl, HO1.out.alloc _, HA.out, HR.out.below HBA.out, HB.out.trans (HBA.out.mono HB.out.size)⟩
  case round =>
    clear HO1 HA HR HBA HB
    obtain ⟨q, hq, rfl, O, VA, VB, BU⟩ := hrel
    have HO := Lib.hid O
    have HVA := Lib.hid VA
    have HVB := Lib.hid VB
    have c0 := VA.c0
    have l0 := VA.lt
    clear O VA VB
    by_cases hqn : q < n
    · have hqi : (q : Int) < (n : Int) := by omega
      have hq0 : (0 : Int) ≤ (q : Int) := by omega
      go_wp2_with fail
      go_region_law (first
        | (go_simp; go_at_call 58; refine (CF.out _).mono ?_; rintro e w2 ⟨rfl, B2⟩; have BB : Below wr.heap.size wr w2 := (Below.refl _ _).drew.trans B2; have HO2 := Lib.hid (Lib.owns_below HO.out BB); have HVA2 := Lib.hid (HVA.out.below BB); have HVB2 := Lib.hid (HVB.out.below BB); have BU2 : Below w.heap.size w w2 := BU.trans (BB.mono BU.size); have f2 : w2.frozen? ⟨w.heap.size + 1, q, none⟩ = false := HO2.out.frozenAt q; have x2 : w2.cell? ⟨w.heap.size + 1, q, none⟩ = some (.string ((DM.rowN n q)[q]'(by rw [DM.rowN_length n q hq]; exact hqn))) := (by rw [HO2.out.cellAt q (by omega)]; simp [DM.rowN_length n q hq, hqn]); have c20 := HVA2.out.c0; dsimp only))
      all_goals
        go_wp2_with fail
        have F : DM.But (· = w.heap.size + 1) w2 (w2.setCell ⟨w.heap.size + 1, q, none⟩ (.string DM.zeroS)) := (DM.But.refl (· = w.heap.size + 1) _).setCell (p := ⟨w.heap.size + 1, q, none⟩) (Or.inl rfl) _
        have HF := Lib.hid F; clear F
        go_roundw
        case rel =>
          refine ⟨q + 1, by omega, by go_num, ?_, HF.out.var HVA2.out (by omega), HF.out.var HVB2.out (by omega), BU2.setCell (by simp) _⟩
          have := (HO2.out.stored q (.string DM.zeroS)).1
          rw [← List.map_set, DM.rowN_set n q hqn] at this
          exact this
        case measure => simp [intOf]; omega
    · have hqq : q = n := by omega
      subst hqq
      have c1 := HVA.out.c1
      have r0 := HVB.out.c0
      have r1 := HVB.out.c1
      have g0 := HVB.out.f0
      have g1 := HVB.out.f1
      go_wp2_with fail
      refine bodyPost_ret (results_dke rfl _ _ w.heap.size (some ⟨w.heap.size + 1, 0, none⟩) none q q 0 0 rfl (by go_simp) (by go_simp)) rfl ⟨w.heap.size + 1, rfl, ⟨?_, DM.WV.nil _ _ _⟩, (BU.setCell (by simp) _).setCell (by simp) _, Nat.le_succ _⟩
      have F : DM.But (· = w.heap.size) wr ((wr.setCell ⟨w.heap.size, 0, none⟩ (.slice (some ⟨w.heap.size + 1, 0, none⟩) q q)).setCell ⟨w.heap.size, 1, none⟩ (.slice none 0 0)) := DM.set2
      have := F.owns HO.out (fun g hg h => by simp [Value.ownBlock] at hg; omega)
      rw [DM.rowN_all] at this
      exact RM.SV.of_owns (by simp) this
end DiskW
end Go.Proofs.Ytnoegkhkeeameaa

/- Layer 1's contracts, for the plain machine: New, Put, Get, Flush, Crash, Same. -/
namespace Go.Proofs.Ytnoegkhkeeameaa.AM
open Go.RowKit Go.ChangeShapes Go.WideShapes Go.ChangeAt
set_option linter.unusedVariables false
theorem bv_of {Pc : Nat → Nat → Prop} {w : World} {v : Value} {l : List Bool} (hlt : ∀ b o, Pc b o → b < w.heap.size) (h : DatRep Pc w v (.lst 1 (bolD l))) : ∃ a cap, v = .slice a l.length cap ∧ DiskW.BV w v l := by
  obtain ⟨a, cap, e, h1, h2, h3⟩ := lst_inv hlt (by decide) h
  have hl := bolD_len l
  rw [hl] at e h1
  refine ⟨a, cap, e, a, cap, e, fun h0 => ?_⟩
  obtain ⟨b, off, ea, hb, hc⟩ := h3 (by omega)
  refine ⟨b, off, ea, hb, fun j hj => ?_⟩
  obtain ⟨c, g1, g2⟩ := hc j 0 (by omega) (by simp [bolD])
  simp only [bolD, List.getElem_map, List.getElem_cons_zero] at g2
  rw [v_inv g2] at g1
  simpa using g1
variable {G : World → Prop}
theorem put_pc (d : DM.Dk) (i : Int) (s : ByteArray) (b1 : d.secs.length ≤ 1000000) (b2 : d.cache.length ≤ 1000000) (hs : s.size ≤ maxLen) : PCalls Try.prog G 23 [.one (dk1 d), valD (.int .i64 i), valD (.string s)] (outD (DM.putD d i s) (DM.putE d i s)) := by
  intro Pc w vs _ hlt hv
  obtain ⟨v, v', v'', rfl, h, h', h''⟩ := args3 hv
  obtain ⟨a1, k1, a2, k2, rfl, hd, _, _⟩ := dv_of hlt h
  obtain rfl := of_val h'
  obtain rfl := of_val h''
  refine (DiskW.put_own a1 a2 k1 k2 _ _ d i s w hd rfl rfl b1 b2 hs).mono ?_
  rintro e w' ⟨a5, n5, k5, a6, n6, k6, rfl, h1, h2, h3, c1, c2, c3, c4⟩
  exact ⟨_, fun b o => Pc b o ∨ (w.heap.size ≤ b ∧ b < w'.heap.size), rfl, h2, fun _ _ h => Or.inl h, fun _ _ h => h, _, rfl, dk_of h1 c1 c2 c3 c4 (fun g o h1 h2 => Or.inr ⟨h1, h2⟩) h3, crep_val (σ := noSt) _, trivial⟩
theorem flush_pc (d : DM.Dk) (b1 : d.secs.length ≤ 1000000) (b2 : d.cache.length ≤ 1000000) : PCalls Try.prog G 32 [.one (dk1 d)] (outD (DM.crashD (fun _ => true) d) (DM.argE d)) := by
  intro Pc w vs _ hlt hv
  obtain ⟨v, rfl, h⟩ := args1 hv
  obtain ⟨a1, k1, a2, k2, rfl, hd, _, _⟩ := dv_of hlt h
  refine (DiskW.bflush_own a1 a2 k1 k2 _ _ d w hd rfl rfl b1 b2).mono ?_
  rintro e w' ⟨a5, n5, k5, a6, n6, k6, rfl, h1, h2, h3, c1, c2, c3, c4⟩
  exact ⟨_, fun b o => Pc b o ∨ (w.heap.size ≤ b ∧ b < w'.heap.size), rfl, h2, fun _ _ h => Or.inl h, fun _ _ h => h, _, rfl, dk_of h1 c1 c2 c3 c4 (fun g o h1 h2 => Or.inr ⟨h1, h2⟩) h3, crep_val (σ := noSt) _, trivial⟩
theorem crash_pc (d : DM.Dk) (keep : List Bool) (b1 : d.secs.length ≤ 1000000) (b2 : d.cache.length ≤ 1000000) (b3 : keep.length ≤ 1000000) : PCalls Try.prog G 15 [.one (dk1 d), lstD 1 (bolD keep)] (outD (DM.crashD (fun j => keep.getD j false) d) (DM.argE d)) := by
  intro Pc w vs _ hlt hv
  obtain ⟨v, v', rfl, h, h'⟩ := args2 hv
  obtain ⟨a1, k1, a2, k2, rfl, hd, _, _⟩ := dv_of hlt h
  obtain ⟨a3, k3, rfl, hk⟩ := bv_of hlt h'
  refine (DiskW.crash_own a1 a2 k1 k2 _ _ d a3 k3 keep w hd rfl rfl b1 b2 hk b3).mono ?_
  rintro e w' ⟨a5, n5, k5, a6, n6, k6, rfl, h1, h2, h3, c1, c2, c3, c4⟩
  exact ⟨_, fun b o => Pc b o ∨ (w.heap.size ≤ b ∧ b < w'.heap.size), rfl, h2, fun _ _ h => Or.inl h, fun _ _ h => h, _, rfl, dk_of h1 c1 c2 c3 c4 (fun g o h1 h2 => Or.inr ⟨h1, h2⟩) h3, crep_val (σ := noSt) _, trivial⟩
abbrev getO (s : ByteArray) (x : Int) : D := .tup [.c (valC (.string s)), .c (valC (.int .i64 x))]
theorem get_pc (d : DM.Dk) (i : Int) (b1 : d.secs.length ≤ 1000000) (b2 : d.cache.length ≤ 1000000) : PCalls Try.prog G 28 [.one (dk1 d), valD (.int .i64 i)] (getO (DM.getB d i) (DM.getE d i)) := by
  intro Pc w vs _ hlt hv
  obtain ⟨v, v', rfl, h, h'⟩ := args2 hv
  obtain ⟨a1, k1, a2, k2, rfl, hd, _, _⟩ := dv_of hlt h
  obtain rfl := of_val h'
  refine (DiskW.get_any a1 a2 k1 k2 _ _ d i w hd rfl rfl b1 b2).mono ?_
  rintro e w' ⟨rfl, h2⟩
  exact ⟨_, Pc, rfl, h2, fun _ _ h => h, fun _ _ h => Or.inl h, _, rfl, crep_val (σ := noSt) _, crep_val (σ := noSt) _, trivial⟩
theorem same_pc (d1 d2 : DM.Dk) (b1 : d1.secs.length ≤ 1000000) (b2 : d1.cache.length ≤ 1000000) (b3 : d2.secs.length ≤ 1000000) (b4 : d2.cache.length ≤ 1000000) : PCalls Try.prog G 36 [.one (dk1 d1), .one (dk1 d2)] (valD (.bool (decide (d1 = d2)))) := pc_bool fun Pc w vs hlt hv => by
  obtain ⟨v, v', rfl, h, h'⟩ := args2 hv
  obtain ⟨a1, k1, a2, k2, rfl, hd, _, _⟩ := dv_of hlt h
  obtain ⟨a3, k3, a4, k4, rfl, hd', _, _⟩ := dv_of hlt h'
  exact DiskW.same_any _ _ _ _ _ _ _ _ _ _ _ _ d1 d2 w hd hd' b1 b2 b3 b4
theorem new_pc (n : Int) : PCalls Try.prog G 35 [valD (.int .i64 n)] (okD (DM.newD n) (decide (DM.newOk n))) := by
  intro Pc w vs _ hlt hv
  obtain ⟨v, rfl, h⟩ := args1 hv
  obtain rfl := of_val h
  have hM := max_eq
  by_cases hn : DM.newOk n
  · obtain ⟨m, rfl⟩ : ∃ m : Nat, n = (m : Int) := ⟨n.toNat, by have := hn.1; omega⟩
    have e : DM.newD (m : Int) = ⟨List.replicate m DM.zeroS, []⟩ := by rw [DM.newD, if_pos hn]; rfl
    have q1 := hn.1
    have q2 := hn.2
    rw [decide_eq_true hn, e]
    refine (DiskW.new_own m w (by omega) (by omega)).mono ?_
    rintro e w' ⟨g, rfl, h1, h2, h3⟩
    refine ⟨_, fun b o => Pc b o ∨ (w.heap.size ≤ b ∧ b < w'.heap.size), rfl, h2, fun _ _ h => Or.inl h, fun _ _ h => h, _, rfl, dk_of (base := w.heap.size) h1 (Nat.le_refl _) (by omega) (Nat.le_refl _) (Nat.zero_le _) (fun g o h1 h2 => Or.inr ⟨h1, h2⟩) (fun k hk => ?_), crep_val (σ := noSt) _, trivial⟩
    rcases hk with hk | hk
    · simp only [Value.ownBlock, Option.some.injEq] at hk; omega
    · cases hk
  · rw [decide_eq_false hn, DM.newD, if_neg hn]
    refine (DiskW.new_no n w hn).mono ?_
    rintro e w' ⟨rfl, h2⟩
    exact ⟨_, Pc, rfl, h2, fun _ _ h => h, fun _ _ h => Or.inl h, _, rfl, ⟨_, rfl, datRep_nil 1 (.v _), datRep_nil 2 (.v _), trivial⟩, crep_val (σ := noSt) _, trivial⟩
/-! ### arguments that come in -/
theorem typ_bools {x : Dat} (h : Typ (.lst [.bool]) x) : ∃ l, x = .lst 1 (bolD l) ∧ l.length ≤ maxLen := by
  obtain ⟨xs, rfl, h1, h2⟩ := typ_lst h
  obtain ⟨l, rfl, h3⟩ := map_of (p := fun _ : Bool => True) (f := fun s => [Dat.v (.bool s)]) (fun x hx => by
    obtain ⟨y, rfl, hy⟩ := typL1 (h2 x hx)
    obtain ⟨s, rfl⟩ := typ_bool hy
    exact ⟨s, trivial, rfl⟩)
  exact ⟨l, rfl, by simpa using h1⟩
def wr1 (p : DM.Wr) : D1 := .agg [.d (.v (.int .i64 p.1)), .d (.v (.string p.2))]
def IsWr (w : World) (v : Value) : Prop := ∃ p : DM.Wr, (p.2.size ≤ maxLen ∧ -9223372036854775808 ≤ p.1 ∧ p.1 ≤ 9223372036854775807) ∧ DRep (noEnv (Old w)) noSt w v (.one (wr1 p))
def IsBo (w : World) (v : Value) : Prop := ∃ l : List Bool, l.length ≤ maxLen ∧ DRep (noEnv (Old w)) noSt w v (lstD 1 (bolD l))
section
variable {H : Type} {enc : TypeId × Value → H} {W : World} {base : Nat} {v : Value} {d : DataW H} {p : List MemPlace}
set_option maxRecDepth 100000 in
theorem open_wr (hv : Value.okWide Try.prog W .any base 62 v) (h : DataW.Trod enc Try.prog W 0 (fun _ => true) true 62 v d p) : IsWr W v := by
  obtain ⟨ds, h1, h2⟩ := open_agg (n := 8) (sh := [.int .i64, .str]) (by kernel_rfl) Try.underlying62 hv h
  obtain ⟨x, y, rfl, hx, hy⟩ := typL2 h1
  obtain ⟨i, rfl, b1⟩ := typ_int hx
  obtain ⟨s, rfl, b2⟩ := typ_str hy
  exact ⟨(i, s), ⟨b2, bounds_i64 b1⟩, h2⟩
set_option maxRecDepth 100000 in
theorem open_bo (hv : Value.okWide Try.prog W .any base 28 v) (h : DataW.Trod enc Try.prog W 0 (fun _ => true) true 28 v d p) : IsBo W v := by
  obtain ⟨x, h1, h2⟩ := open_cell (n := 8) (s := .lst [.bool]) (by kernel_rfl) (by kernel_rfl) hv h
  obtain ⟨l, rfl, b⟩ := typ_bools h1
  exact ⟨l, b, h2⟩
end
end Go.Proofs.Ytnoegkhkeeameaa.AM
