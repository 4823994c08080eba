/- The contracts of disk's write, settle, flush. -/
import Derived.Test.YtabmdijfholakaaJqs11
import Derived.Deep.AppendLies
namespace Go.Proofs.Ytabmdijfholakaa
open Go.RowKit
set_option linter.unusedVariables false
namespace DiskW
set_option maxHeartbeats 3200000 in
set_option maxRecDepth 100000 in
theorem write_yes (base : Nat) (a1 a2 : Option Addr) (k1 k2 : Nat) (d : DM.Dk) (i : Int) (s : ByteArray) (w : World) (h : DM.OD w base 9 62 (.slice a1 d.secs.length k1) (.slice a2 d.cache.length k2) d) (hbase : base ≤ w.heap.size)
    (b1 : d.secs.length ≤ 1000000) (b2 : d.cache.length ≤ 1000000) (hin : DM.inD d.secs.length i) (hs : s.size ≤ 32) :
    Calls Try.prog 39 #[.agg #[.slice a1 d.secs.length k1, .slice a2 d.cache.length k2], .int .i64 i, .string s] w fun e w' => ∃ a3 k3, e = .returned (.tuple #[.agg #[.slice a1 d.secs.length k1, .slice a3 (d.cache.length + 1) k3], .int .i64 0]) ∧
      DM.OD w' base 9 62 (.slice a1 d.secs.length k1) (.slice a3 (d.cache.length + 1) k3) (DM.addW d i s) ∧ DM.But (DM.own2 (.slice a1 d.secs.length k1) (.slice a2 d.cache.length k2)) w w' ∧ (∀ k, DM.own2 (.slice a1 d.secs.length k1) (.slice a3 (d.cache.length + 1) k3) k → DM.own2 (.slice a1 d.secs.length k1) (.slice a2 d.cache.length k2) k ∨ w.heap.size ≤ k) := by
  obtain ⟨i0, hi, hz0, hz1, hz2⟩ := info_parts info_wr
  have HIN := Lib.hid hin
  have C1 : Hid (∀ w, Calls Try.prog 58 #[.agg #[.slice a1 d.secs.length k1, .slice a2 d.cache.length k2], .int .i64 i] w fun e w' => e = .returned (.bool true) ∧ Below w.heap.size w w') := Lib.hid (fun w => has_any a1 _ k1 _ i w true (decide_eq_true hin) (by omega))
  have C2 : Hid (∀ w, Calls Try.prog 60 #[.string s] w fun e w' => e = .returned (.string (DM.fillB s)) ∧ Below w.heap.size w w') := Lib.hid (fun w => fill_any s w hs)
  have H := Lib.hid h; clear h hin
  have hsi : ¬ (32 : Int) < (s.size : Int) := by omega
  obtain ⟨n, hn⟩ : ∃ n, d.secs.length = n := ⟨_, rfl⟩
  obtain ⟨m, hm⟩ : ∃ m, d.cache.length = m := ⟨_, rfl⟩
  have HN := Lib.hid hn
  have HM := Lib.hid hm
  simp only [hn, hm] at H C1 b1 b2 ⊢
  clear hn hm
  go_enter Try.func39, Try.ntmps39
  go_wp2_with fail
  refine (C1.out _).mono ?_; rintro e w1 ⟨rfl, B1⟩
  have BW1 : Below w.heap.size w w1 := (((Below.refl _ _).alloc (Nat.le_refl _) _).alloc (by simp) _).trans (B1.mono (by simp; omega))
  have K1 : Hid (DM.Var w1 w.heap.size (.slice a1 n k1) (.slice a2 m k2)) := Lib.hid (((DM.Var.made w _ _ _).below ((Below.refl _ _).alloc (Nat.le_refl _) _)).below B1)
  have R1 : Hid (DM.Var w1 (w.heap.size + 1) (.slice none 0 0) (.slice none 0 0)) := Lib.hid (by
    have := (DM.Var.made (w.alloc (.cells #[.slice a1 n k1, .slice a2 m k2] 25)) (.slice none 0 0) (.slice none 0 0) 25).below B1
    simpa using this)
  have O1 := Lib.hid (H.out.below BW1)
  have BU1 : DM.But (DM.own2 (.slice a1 n k1) (.slice a2 m k2)) w w1 := DM.But.of_below BW1
  have c0 := K1.out.c0
  have c1 := K1.out.c1
  have l0 := K1.out.lt
  have l1 := R1.out.lt
  clear B1
  go_wp2_with fail
  have O1D : Hid (DM.OD w1.drew base 9 62 (.slice a1 n k1) (.slice a2 m k2) d) := Lib.hid (O1.out.but ((DM.But.refl (fun _ => False) _).drew) (fun _ _ h => h))
  have HNE : Hid (¬ (Value.slice a2 m k2).ownBlock = some w.heap.size) := Lib.hid (fun h => by have := (H.out.ge w.heap.size (Or.inr h)).2; omega)
  have HNE1 : Hid (¬ (Value.slice a2 m k2).ownBlock = some (w.heap.size + 1)) := Lib.hid (fun h => by have := (H.out.ge (w.heap.size + 1) (Or.inr h)).2; omega)
  go_region_law (first
    | (go_simp; go_at_call 60; refine (C2.out _).mono ?_; rintro e w2 ⟨rfl, B2⟩; have O2 := Lib.hid (O1D.out.below B2); have BB2 : Below w1.heap.size w1 w2 := (Below.refl _ _).drew.trans B2; have K2 := Lib.hid (K1.out.below BB2); have R2 := Lib.hid (R1.out.below BB2); have c20 := K2.out.c0; have c21 := K2.out.c1; have f21 := K2.out.f1; have l2 := K2.out.lt; have l21 := R2.out.lt; have BU2 : DM.But (DM.own2 (.slice a1 n k1) (.slice a2 m k2)) w w2 := (BU1.drew).below B2; have OC2 : Hid (w2.ownsRow base 62 2 (.slice a2 m k2) m (DM.cellsW d.cache)) := Lib.hid (by have := O2.out.cache; rw [HM.out] at this; exact this); dsimp only)
    | (refine step_append_lies _ (by rfl) _ _ _ (by rfl) base 62 i0 _ 2 24 Try.underlying23 hi hz0 hz1 hz2 rfl (by omega) (.slice a2 m k2) m (DM.cellsW d.cache) (by rfl) (OC2.out.alloc _) ⟨w2.heap.size, 0, none⟩ 1 1 [.int .i64 i, .string (DM.fillB s)] (by rfl) (by rfl) (World.news_of_block (cs := #[.int .i64 i, .string (DM.fillB s)]) (t := 62) (fr := (0, 0)) (heap_alloc_new w2 _)) (by simp [Value.oneCell']) (by omega) (by unfold maxLen; omega) (by omega) (by simp; omega) (w2.heap.size + 1) (by simp) ?_; intro gg cap w3 hown3 hgrow hat hlt; have BA := (DM.But.refl (fun k => (Value.slice a2 m k2).ownBlock = some k) _).grown hgrow (fun k hk => Or.inl hk); have K3 := Lib.hid (BA.var (K2.out.below ((Below.refl _ _).alloc (Nat.le_refl _) _)) HNE.out); have R3 := Lib.hid (BA.var (R2.out.below ((Below.refl _ _).alloc (Nat.le_refl _) _)) HNE1.out); have c30 := K3.out.c0; have c31 := K3.out.c1; have f31 := K3.out.f1; have r30 := R3.out.c0; have r31 := R3.out.c1; have f30 := R3.out.f0; have f33 := R3.out.f1; clear BA c20 c21 f21))
  all_goals
    go_wp2_with fail
    have hfin := DM.write_fin (u := .slice (some ⟨gg, 0, none⟩) (m + 1) cap) (u2 := .slice a1 n k1) (u3 := .slice (some ⟨gg, 0, none⟩) (m + 1) cap) H.out HN.out HM.out BU2 O2.out l21 hown3 hgrow hat
    refine bodyPost_ret (results_dke rfl _ _ (w.heap.size + 1) a1 (some ⟨gg, 0, none⟩) n k1 (m + 1) cap rfl (by go_simp) (by go_simp)) rfl ⟨some ⟨gg, 0, none⟩, cap, rfl, ?_⟩
    exact hfin
end DiskW
end Go.Proofs.Ytabmdijfholakaa
