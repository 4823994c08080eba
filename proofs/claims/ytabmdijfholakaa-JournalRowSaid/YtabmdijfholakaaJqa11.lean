/- One text of RecG, DiskB (mk/pack.py). -/
import Derived.Test.YtabmdijfholakaaJqa10
import Derived.Test.YtabmdijfholakaaJqa3
import Derived.Test.YtabmdijfholakaaJqa8
import Derived.Deep.RegionHeld3
/- The contracts of the cutters of payloads. -/
namespace Go.Proofs.Ytabmdijfholakaa
open Go.RowKit
namespace Lib
theorem owns_below {w w' : World} {base : Nat} {e : TypeId} {size : Nat} {v : Value} {n : Nat} {xs : List Value} (h : w.ownsRow base e size v n xs) (hb : Below w.heap.size w w') : w'.ownsRow base e size v n xs := by
  obtain ⟨h0, h1⟩ := h
  refine ⟨h0, ?_⟩
  rcases h1 with h1 | ⟨g, cap, cur, h1, h2, h3, h4⟩
  · exact .inl h1
  · exact .inr ⟨g, cap, cur, h1, h2, (hb.block g (Array.getElem?_eq_some_iff.1 h3).1).trans h3, h4⟩
theorem owns_base {w : World} {base base' : Nat} {e : TypeId} {size : Nat} {v : Value} {n : Nat} {xs : List Value} (h : w.ownsRow base e size v n xs) (hb : base' ≤ base) : w.ownsRow base' e size v n xs := by
  obtain ⟨h0, h1⟩ := h
  refine ⟨h0, ?_⟩
  rcases h1 with h1 | ⟨g, cap, cur, h1, h2, h3⟩
  · exact .inl h1
  · exact .inr ⟨g, cap, cur, h1, Nat.le_trans hb h2, h3⟩
end Lib
namespace RecW
theorem info_str : (Try.prog.info? 9).map (fun i => (i.zero, i.size, i.bytes)) = some (some (.string ⟨#[]⟩), 1, 16) := by kernel_rfl
set_option maxHeartbeats 3200000 in
set_option maxRecDepth 100000 in
theorem cut_any (s : ByteArray) (w : World) (hs : s.size ≤ maxLen) :
    Calls Try.prog 35 #[.string s] w fun e w' => ∃ v, e = .returned v ∧ w'.ownsRow w.heap.size 9 1 v (RM.cutN s) ((RM.cutL s).map Value.string) ∧ Below w.heap.size w w' := by
  obtain ⟨i0, hi, hz0, hz1, hz2⟩ := info_parts info_str
  unfold maxLen at hs
  have hC := Lib.hid (RM.cutN_count s)
  have hle := RM.cutN_le s
  go_enter Try.func35, Try.ntmps35
  go_wp2_with fail
  refine (count_any _ _ (by omega)).mono ?_; rintro e w' ⟨rfl, rfl⟩
  go_wp2_with fail
  rw [hC.out]
  go_loopw [3, 10] (fun v i wr => ∃ k : Nat, k ≤ RM.cutN s ∧ i = .int .i64 k ∧ wr.ownsRow w.heap.size 9 1 v k (RM.cutV s k) ∧ Below w.heap.size w wr) (fun _ i _ => RM.cutN s - (intOf i).toNat)
  case atStart => exact ⟨0, Nat.zero_le _, rfl, World.ownsRow_nil _ _ _ _, Below.refl _ _⟩
  case round =>
    obtain ⟨k, hk, rfl, hown, hbel⟩ := hrel
    by_cases hlt : k < RM.cutN s
    · have hin := RM.cutN_in s k hlt
      obtain ⟨hin1, hin2⟩ := hin
      have hsz := hbel.size
      have hlt' : (k : Int) < (RM.cutN s : Int) := by omega
      obtain ⟨b0, hb0⟩ : ∃ b0, b0 = 31 * k := ⟨_, rfl⟩
      obtain ⟨e0, he0⟩ : ∃ e0, e0 = min (31 * k + 31) s.size := ⟨_, rfl⟩
      have he1 : b0 ≤ e0 := by omega
      have he2 : e0 ≤ s.size := by omega
      have hmin : min (((k : Int) + 1) * 31) (s.size : Int) = (e0 : Int) := by omega
      have hmul : (k : Int) * 31 = (b0 : Int) := by omega
      have hfs : Hid (((⟨#[68]⟩ : ByteArray) ++ s.extract b0 e0).size ≤ 32) := by
        apply Lib.hid; rw [ByteArray.size_append, ByteArray.size_extract]; show 1 + _ ≤ 32; omega
      have hsec := Lib.hid (RM.sec_of s k e0 he0)
      have hsec2 : Hid (RM.str (RM.fillL (((⟨#[68]⟩ : ByteArray) ++ s.extract b0 e0).data.toList)) = RM.sec s k) := by
        apply Lib.hid; rw [hb0]; exact hsec.out
      have hel : e0 - b0 ≤ 31 := by omega
      have HE := Lib.hid he0; clear he0
      have HB := Lib.hid hb0; clear hb0
      go_wp2_with fail
      refine (fill_any _ _ hfs.out).mono ?_; rintro e w2 ⟨rfl, hb2⟩
      rw [hsec2.out]
      have hown2 := Lib.owns_below hown hb2
      have hbel2 : Below w.heap.size w w2 := hbel.trans (hb2.mono hsz)
      have hsz2 := hbel2.size
      clear hown hbel hb2
      go_wp2_with (at_builtin; refine wpList_append_own _ rfl _ _ 22 rfl w.heap.size 9 i0 (.string ⟨#[]⟩) 1 16 Try.underlying22 hi hz0 hz1 hz2 rfl (by decide) _ _ _ rfl (hown2.alloc _) ⟨w2.heap.size, 0, none⟩ 1 1 [.string (RM.sec s k)] rfl ?c0 ?c1 ?c2 ?c3 ?c4 ?c5 ?_)
      case c0 => rfl
      case c1 => intro j u hj; exact World.news_of_block (heap_alloc_new w2 _) j u hj
      case c2 => intro u hu; simp at hu; subst hu; rfl
      case c3 => unfold maxLen; omega
      case c4 => omega
      case c5 => simp; omega
      intro v' w3 hown' hgrow _
      have hbel' : Below w.heap.size w w3 := (hbel2.alloc hsz2 _).grown hgrow (by simp; omega) (fun j hj => (hown2.lt j hj).1)
      rw [RM.cutV_snoc] at hown'
      clear hgrow hown2 hbel2 hsec hsec2 hfs HE HB
      go_wp2
      go_roundw
      case rel => exact ⟨k + 1, by omega, by go_num, hown', hbel'⟩
      case measure => simp [intOf]; omega
    · have hkk : k = RM.cutN s := by omega
      subst hkk
      go_wp2
      go_ret
      rw [← RM.cutV_all]
      exact ⟨_, rfl, hown, hbel⟩
end RecW
end Go.Proofs.Ytabmdijfholakaa

/- The contracts of disk's copies. -/
namespace Go.Proofs.Ytabmdijfholakaa
open Go.RowKit
set_option linter.unusedVariables false
namespace DiskW
theorem info_wr : (Try.prog.info? 62).map (fun i => (i.zero, i.size, i.bytes)) = some (some (.agg #[.int .i64 0, .string ⟨#[]⟩]), 2, 24) := by kernel_rfl
theorem cloneS_any (v : Value) (l : List ByteArray) (w : World) (h : RM.SV w v l) (hl : l.length ≤ 1000000) :
    Calls Try.prog 56 #[v] w fun e w' => ∃ v', e = .returned v' ∧ w'.ownsRow w.heap.size 9 1 v' l.length (l.map Value.string) ∧ Below w.heap.size w w' := by
  obtain ⟨a, cap, rfl, hc⟩ := h
  by_cases h0 : l.length = 0
  · have e : l = [] := List.length_eq_zero_iff.1 h0
    subst e
    cases a with
    | none =>
      refine (Try.slices_Clone_string_nil 0 cap w).mono ?_
      rintro e w' ⟨rfl, rfl⟩
      exact ⟨_, rfl, World.ownsRow_nil _ _ _ _, Below.refl _ _⟩
    | some a =>
      refine (Try.slices_Clone_string_zero a cap w).mono ?_
      rintro e w' ⟨v', rfl, h1, _, h2⟩
      exact ⟨v', rfl, h1, h2⟩
  · obtain ⟨g, off, rfl, hg, k1⟩ := hc (by omega)
    refine (Try.slices_Clone_string g off l.length cap l w (Nat.le_refl _) (by omega) (fun j hj => by rw [k1 j hj]; simp [List.getD, hj])).mono ?_
    rintro e w' ⟨v', rfl, h1, _, h2⟩
    rw [List.take_length] at h1
    exact ⟨v', rfl, h1, h2⟩
set_option maxHeartbeats 1600000 in
set_option maxRecDepth 100000 in
theorem cloneW_any (v : Value) (l : List DM.Wr) (w : World) (h : DM.WV w v l) (hl : l.length ≤ 1000000) :
    Calls Try.prog 57 #[v] w fun e w' => ∃ v', e = .returned v' ∧ w'.ownsRow w.heap.size 62 2 v' l.length (DM.cellsW l) ∧ Below w.heap.size w w' := by
  obtain ⟨i0, hi, hz0, hz1, hz2⟩ := info_parts info_wr
  obtain ⟨a, cap, rfl, hc⟩ := h
  obtain ⟨n, hn⟩ : ∃ n, l.length = n := ⟨_, rfl⟩
  rw [hn] at hl ⊢
  have HN := Lib.hid hn; clear hn
  have HC := Lib.hid hc; clear hc
  have q22 : ∀ (w : World) (a : Option Addr) (n c n' c' : Nat), (binOp .eql 23 (.slice a n c) (.slice none n' c')).run Try.prog w = .ok (.bool a.isNone) w := fun w a n c n' c' => Lib.run_eql_slice_nil w _ _ a n c n' c' Try.underlying23
  cases a with
  | none =>
    have h0 : n = 0 := by
      rcases Nat.eq_zero_or_pos n with h | h
      · exact h
      · obtain ⟨b, off, h3, _⟩ := HC.out (by rw [HN.out]; exact h)
        cases h3
    have e : l = [] := List.length_eq_zero_iff.1 (by rw [HN.out]; exact h0)
    subst e
    subst h0
    go_enter Try.func57, Try.ntmps57
    go_wp2_with fail
    go_ret
    exact ⟨_, rfl, World.ownsRow_nil _ _ _ _, Below.refl _ _⟩
  | some a =>
    have hnews : Hid (∀ j u, (DM.cellsW l)[j]? = some u → (w.alloc (.cells #[] 62)).cell? (a.add j) = some u) := Lib.hid (by
      intro j u hj
      have hjl := (List.getElem?_eq_some_iff.1 hj).1
      rw [DM.cellsW_length] at hjl
      obtain ⟨b, off, h3, hb, h5⟩ := HC.out (by omega)
      simp only [Option.some.injEq] at h3
      subst h3
      have h6 := h5 (j / 2) (by omega)
      have h7 := DM.cellsW_at l (j / 2) (by omega)
      refine Lib.cell?_alloc_some _ ?_
      rcases Nat.mod_two_eq_zero_or_one j with hm | hm
      · rw [Addr.add_lit, show off + j = off + j / 2 * 2 from by omega, h6.1, ← h7.1, show j / 2 * 2 = j from by omega, hj]
      · rw [Addr.add_lit, show off + j = off + j / 2 * 2 + 1 from by omega, h6.2, ← h7.2, show j / 2 * 2 + 1 = j from by omega, hj])
    go_enter Try.func57, Try.ntmps57
    go_wp2_with (at_builtin; refine wpList_append_own _ rfl _ _ 23 rfl w.heap.size 62 i0 (.agg #[.int .i64 0, .string ⟨#[]⟩]) 2 24 Try.underlying23 hi hz0 hz1 hz2 rfl (by decide) _ _ _ rfl (World.ownsRow_made w #[] 0 (Nat.le_refl _) (Nat.zero_le _) rfl) a n cap (DM.cellsW l) rfl ?qc1 ?qc2 ?qc3 ?qc4 ?qc5 ?qc6 ?_)
    case qc1 => rw [DM.cellsW_length, HN.out]
    case qc2 => exact hnews.out
    case qc3 => intro u hu; unfold DM.cellsW at hu; simp at hu; obtain ⟨x, y, _, h | h⟩ := hu <;> subst h <;> rfl
    case qc4 => unfold maxLen; omega
    case qc5 => omega
    case qc6 => simp
    intro v' w1 hown hgrow _
    have hb : Below w.heap.size w w1 := ((Below.refl _ _).alloc (Nat.le_refl _) _).grown hgrow (by simp) (fun k hk => by simp [Value.ownBlock] at hk; omega)
    clear hgrow hnews q22
    go_wp2
    go_ret
    refine ⟨_, rfl, ?_, hb⟩
    simpa using hown
theorem own_slice {w : World} {base : Nat} {e : TypeId} {size : Nat} {v : Value} {n : Nat} {xs : List Value} (h : w.ownsRow base e size v n xs) : ∃ a cap, v = .slice a n cap := by
  rcases h.2 with ⟨rfl, rfl⟩ | ⟨g, cap, cur, rfl, _⟩
  · exact ⟨none, 0, rfl⟩
  · exact ⟨_, cap, rfl⟩
theorem od_two {wa wb wf : World} {base b0 p : Nat} {T1 T2 : TypeId} {v1 v2 : Value} {d : DM.Dk} (ha : wa.ownsRow b0 T1 1 v1 d.secs.length (d.secs.map Value.string)) (hb : wb.ownsRow wa.heap.size T2 2 v2 d.cache.length (DM.cellsW d.cache)) (Bb : Below wa.heap.size wa wb)
    (hf : DM.But (· = p) wb wf) (hp : p < b0) (h0 : base ≤ b0) (h1 : b0 ≤ wa.heap.size) : DM.OD wf base T1 T2 v1 v2 d :=
  ⟨hf.owns (Lib.owns_base ((DM.But.of_below (R := fun _ => False) Bb).owns ha (fun _ _ h => h)) h0) (fun g hg h => by have := (ha.lt g hg).1; omega),
   hf.owns (Lib.owns_base hb (by omega)) (fun g hg h => by have := (hb.lt g hg).1; omega),
   fun g hg h2 => by have := (ha.lt g hg).2; have := (hb.lt g h2).1; omega⟩
theorem results_dk {fn : Func} {p : Tmp} (h : fn.results = #[.cell p 25]) (tmps : Array Value) (w : World) (b : Nat) (a1 a2 : Option Addr) (n1 k1 n2 k2 : Nat) (hp : tmps.getD p undef = .pointer (some ⟨b, 0, none⟩))
    (c0 : w.cell? ⟨b, 0, none⟩ = some (.slice a1 n1 k1)) (c1 : w.cell? ⟨b, 1, none⟩ = some (.slice a2 n2 k2)) : (results fn tmps).run Try.prog w = .ok (.agg #[.slice a1 n1 k1, .slice a2 n2 k2]) w := by
  unfold results
  rw [h]
  simp at hp
  simp [hp, loadVar, go_sem, Result.andThen, c0, c1]
theorem results_dke {fn : Func} {p u : Tmp} (h : fn.results = #[.cell p 25, .tmp u]) (tmps : Array Value) (w : World) (b : Nat) (a1 a2 : Option Addr) (n1 k1 n2 k2 : Nat) (hp : tmps.getD p undef = .pointer (some ⟨b, 0, none⟩))
    (c0 : w.cell? ⟨b, 0, none⟩ = some (.slice a1 n1 k1)) (c1 : w.cell? ⟨b, 1, none⟩ = some (.slice a2 n2 k2)) : (results fn tmps).run Try.prog w = .ok (.tuple #[.agg #[.slice a1 n1 k1, .slice a2 n2 k2], tmps.getD u undef]) w := by
  rw [results_cell_tmp h, hp]
  simp [loadVar, go_sem, Result.andThen, c0, c1]
theorem box_set2 {w : World} {b : Nat} {x y u v : Value} (h0 : w.cell? ⟨b, 0, none⟩ = some x) (h1 : w.cell? ⟨b, 1, none⟩ = some y) : DM.Box ((w.setCell ⟨b, 0, none⟩ u).setCell ⟨b, 1, none⟩ v) b u v := by
  have hb : b < w.heap.size := World.block_lt_of_cell? w _ h0
  refine ⟨by simpa using hb, ?_, ?_⟩
  · rw [World.cell?_setCell_other _ _ _ _ (by simp), World.cell?_setCell_same _ _ _ h0]
  · exact World.cell?_setCell_same _ _ _ ((World.cell?_setCell_other _ _ _ _ (by simp)).trans h1)
set_option maxHeartbeats 3200000 in
set_option maxRecDepth 100000 in
theorem clone_any (v1 v2 : Value) (d : DM.Dk) (w : World) (h : DM.DV w v1 v2 d) (b1 : d.secs.length ≤ 1000000) (b2 : d.cache.length ≤ 1000000) :
    Calls Try.prog 36 #[.agg #[v1, v2]] w fun e w' => ∃ a1 k1 a2 k2, e = .returned (.agg #[.slice a1 d.secs.length k1, .slice a2 d.cache.length k2]) ∧ DM.OD w' w.heap.size 9 62 (.slice a1 d.secs.length k1) (.slice a2 d.cache.length k2) d ∧ Below w.heap.size w w' := by
  have H := Lib.hid h; clear h
  have C1 : Hid (∀ w', DM.DV w' v1 v2 d → Calls Try.prog 56 #[v1] w' fun e w'' => ∃ a k, e = .returned (.slice a d.secs.length k) ∧ w''.ownsRow w'.heap.size 9 1 (.slice a d.secs.length k) d.secs.length (d.secs.map Value.string) ∧ Below w'.heap.size w' w'') := Lib.hid (fun w' h => (cloneS_any v1 d.secs w' h.1 b1).mono (by rintro e w'' ⟨v', rfl, h1, h2⟩; obtain ⟨a, k, rfl⟩ := own_slice h1; exact ⟨a, k, rfl, h1, h2⟩))
  have C2 : Hid (∀ w', DM.DV w' v1 v2 d → Calls Try.prog 57 #[v2] w' fun e w'' => ∃ a k, e = .returned (.slice a d.cache.length k) ∧ w''.ownsRow w'.heap.size 62 2 (.slice a d.cache.length k) d.cache.length (DM.cellsW d.cache) ∧ Below w'.heap.size w' w'') := Lib.hid (fun w' h => (cloneW_any v2 d.cache w' h.2 b2).mono (by rintro e w'' ⟨v', rfl, h1, h2⟩; obtain ⟨a, k, rfl⟩ := own_slice h1; exact ⟨a, k, rfl, h1, h2⟩))
  go_enter Try.func36, Try.ntmps36
  go_wp2_with fail
  have HW : Hid (Below w.heap.size w ((w.alloc (.cells #[v1, v2] 25)).alloc (.cells #[.slice none 0 0, .slice none 0 0] 25))) := Lib.hid (((Below.refl _ _).alloc (Nat.le_refl _) _).alloc (by simp) _)
  have c0 : ((w.alloc (.cells #[v1, v2] 25)).alloc (.cells #[.slice none 0 0, .slice none 0 0] 25)).cell? ⟨w.heap.size, 0, none⟩ = some v1 := by go_simp
  have c1 : ((w.alloc (.cells #[v1, v2] 25)).alloc (.cells #[.slice none 0 0, .slice none 0 0] 25)).cell? ⟨w.heap.size, 1, none⟩ = some v2 := by go_simp
  have e0 : ((w.alloc (.cells #[v1, v2] 25)).alloc (.cells #[.slice none 0 0, .slice none 0 0] 25)).cell? ⟨w.heap.size + 1, 0, none⟩ = some (.slice none 0 0) := by go_simp
  have e1 : ((w.alloc (.cells #[v1, v2] 25)).alloc (.cells #[.slice none 0 0, .slice none 0 0] 25)).cell? ⟨w.heap.size + 1, 1, none⟩ = some (.slice none 0 0) := by go_simp
  have f0 : ((w.alloc (.cells #[v1, v2] 25)).alloc (.cells #[.slice none 0 0, .slice none 0 0] 25)).frozen? ⟨w.heap.size + 1, 0, none⟩ = false := by go_simp
  have f1 : ((w.alloc (.cells #[v1, v2] 25)).alloc (.cells #[.slice none 0 0, .slice none 0 0] 25)).frozen? ⟨w.heap.size + 1, 1, none⟩ = false := by go_simp
  have z0 : w.heap.size + 1 < ((w.alloc (.cells #[v1, v2] 25)).alloc (.cells #[.slice none 0 0, .slice none 0 0] 25)).heap.size := by simp
  generalize hW0 : (w.alloc (.cells #[v1, v2] 25)).alloc (.cells #[.slice none 0 0, .slice none 0 0] 25) = W0 at *
  obtain ⟨B, hB⟩ : ∃ B, w.heap.size = B := ⟨_, rfl⟩
  rw [hB] at c0 c1 z0 e0 e1 f0 f1
  have HB := Lib.hid hB
  simp only [hB]
  have l0 : B < W0.heap.size := by omega
  have HWD : Hid (Below w.heap.size w W0.drew) := Lib.hid HW.out.drew
  clear hW0 hB
  go_region_held3 (fun w' => Below w.heap.size w w' ∧ w'.cell? ⟨B, 0, none⟩ = some v1 ∧ w'.cell? ⟨B, 1, none⟩ = some v2)
    (first
      | exact ⟨HWD.out, c0, c1⟩
      | exact ⟨hSa, qa0, qa1⟩
      | exact ⟨hSb, qb0, qb1⟩
      | exact ⟨(hSa.setCell (by simp [HB.out]) _).setCell (by simp [HB.out]) _, by go_simp, by go_simp⟩
      | exact ⟨(hSb.setCell (by simp [HB.out]) _).setCell (by simp [HB.out]) _, by go_simp, by go_simp⟩)
    (first
      | (go_at_call 56; refine (C1.out _ (H.out.below (by first | exact hSb | exact HWD.out))).mono ?_; rintro e wa ⟨va, ka, rfl, ha, Ba⟩; have hSa : Below w.heap.size w wa := (by first | exact hSb.trans (Ba.mono hSb.size) | exact HWD.out.trans (Ba.mono HWD.out.size)); have qa0 : wa.cell? ⟨B, 0, none⟩ = some v1 := (by first | exact (Ba.cell (p := ⟨B, 0, none⟩) (Nat.lt_of_succ_lt lb)).trans qb0 | exact (Ba.cell (p := ⟨B, 0, none⟩) l0).trans c0); have qa1 : wa.cell? ⟨B, 1, none⟩ = some v2 := (by first | exact (Ba.cell (p := ⟨B, 1, none⟩) (Nat.lt_of_succ_lt lb)).trans qb1 | exact (Ba.cell (p := ⟨B, 1, none⟩) l0).trans c1); have la : B + 1 < wa.heap.size := (by first | exact Nat.lt_of_lt_of_le lb Ba.size | exact Nat.lt_of_lt_of_le z0 Ba.size); have ra0 : wa.cell? ⟨B + 1, 0, none⟩ = some (.slice none 0 0) := (by first | exact (Ba.cell (p := ⟨B + 1, 0, none⟩) lb).trans rb0 | exact (Ba.cell (p := ⟨B + 1, 0, none⟩) z0).trans e0); have ra1 : wa.cell? ⟨B + 1, 1, none⟩ = some (.slice none 0 0) := (by first | exact (Ba.cell (p := ⟨B + 1, 1, none⟩) lb).trans rb1 | exact (Ba.cell (p := ⟨B + 1, 1, none⟩) z0).trans e1); have ga0 : wa.frozen? ⟨B + 1, 0, none⟩ = false := (by first | exact (Ba.frozen (p := ⟨B + 1, 0, none⟩) lb).trans gb0 | exact (Ba.frozen (p := ⟨B + 1, 0, none⟩) z0).trans f0); have ga1 : wa.frozen? ⟨B + 1, 1, none⟩ = false := (by first | exact (Ba.frozen (p := ⟨B + 1, 1, none⟩) lb).trans gb1 | exact (Ba.frozen (p := ⟨B + 1, 1, none⟩) z0).trans f1))
      | (go_at_call 57; refine (C2.out _ (H.out.below (by first | exact hSa | exact HWD.out))).mono ?_; rintro e wb ⟨vb, kb, rfl, hb, Bb⟩; have hSb : Below w.heap.size w wb := (by first | exact hSa.trans (Bb.mono hSa.size) | exact HWD.out.trans (Bb.mono HWD.out.size)); have qb0 : wb.cell? ⟨B, 0, none⟩ = some v1 := (by first | exact (Bb.cell (p := ⟨B, 0, none⟩) (Nat.lt_of_succ_lt la)).trans qa0 | exact (Bb.cell (p := ⟨B, 0, none⟩) l0).trans c0); have qb1 : wb.cell? ⟨B, 1, none⟩ = some v2 := (by first | exact (Bb.cell (p := ⟨B, 1, none⟩) (Nat.lt_of_succ_lt la)).trans qa1 | exact (Bb.cell (p := ⟨B, 1, none⟩) l0).trans c1); have lb : B + 1 < wb.heap.size := (by first | exact Nat.lt_of_lt_of_le la Bb.size | exact Nat.lt_of_lt_of_le z0 Bb.size); have rb0 : wb.cell? ⟨B + 1, 0, none⟩ = some (.slice none 0 0) := (by first | exact (Bb.cell (p := ⟨B + 1, 0, none⟩) la).trans ra0 | exact (Bb.cell (p := ⟨B + 1, 0, none⟩) z0).trans e0); have rb1 : wb.cell? ⟨B + 1, 1, none⟩ = some (.slice none 0 0) := (by first | exact (Bb.cell (p := ⟨B + 1, 1, none⟩) la).trans ra1 | exact (Bb.cell (p := ⟨B + 1, 1, none⟩) z0).trans e1); have gb0 : wb.frozen? ⟨B + 1, 0, none⟩ = false := (by first | exact (Bb.frozen (p := ⟨B + 1, 0, none⟩) la).trans ga0 | exact (Bb.frozen (p := ⟨B + 1, 0, none⟩) z0).trans f0); have gb1 : wb.frozen? ⟨B + 1, 1, none⟩ = false := (by first | exact (Bb.frozen (p := ⟨B + 1, 1, none⟩) la).trans ga1 | exact (Bb.frozen (p := ⟨B + 1, 1, none⟩) z0).trans f1)))
  all_goals go_wp2_with fail
  · refine bodyPost_ret (results_dk rfl _ _ (B + 1) va vb d.secs.length ka d.cache.length kb rfl (box_set2 rb0 rb1).2.1 (box_set2 rb0 rb1).2.2) rfl ⟨va, ka, vb, kb, rfl, ?_, (hSb.setCell (by simp [HB.out]) _).setCell (by simp [HB.out]) _⟩
    exact od_two (p := B + 1) (b0 := W0.drew.heap.size) ha hb Bb (((DM.But.refl (· = B + 1) _).setCell (p := ⟨B + 1, 0, none⟩) (Or.inl rfl) _).setCell (p := ⟨B + 1, 1, none⟩) (Or.inl rfl) _) (by simp; omega) (by simp [HB.out]; omega) Ba.size
end DiskW
end Go.Proofs.Ytabmdijfholakaa
