/- The walk of the law on what was written last. -/
import Derived.Test.YtlideclkieadbaaDiskL
import Derived.Test.YtlideclkieadbaaDiskN
import Derived.Test.YtlideclkieadbaaDiskO
namespace Go.Proofs.Ytlideclkieadbaa
open Go.RowKit
set_option linter.unusedVariables false
namespace DM
theorem Var.two2 (w : World) (v1 v2 v3 v4 : Value) (T T2 : TypeId) : Var ((w.alloc (.cells #[v1, v2] T)).alloc (.cells #[v3, v4] T2)) w.heap.size v1 v2 ∧ Var ((w.alloc (.cells #[v1, v2] T)).alloc (.cells #[v3, v4] T2)) (w.heap.size + 1) v3 v4 := by
  refine ⟨(Var.made w _ _ _).below ((Below.refl _ _).alloc (Nat.le_refl _) _), ?_⟩
  have := Var.made (w.alloc (.cells #[v1, v2] T)) v3 v4 T2
  simpa using this
/-! what follows -/
theorem put_zero {d : Dk} {i : Int} {s : ByteArray} (h : putE d i s = 0) : mayD d ∧ inD d.secs.length i ∧ s.size ≤ 32 ∧ putD d i s = addW d i s := by
  unfold putE at h
  by_cases hm : mayD d
  · rw [if_pos hm] at h
    have hd : putD d i s = addW d i s := by unfold putD writeD; rw [if_pos hm, if_pos h]
    unfold writeE at h
    by_cases h1 : inD d.secs.length i
    · rw [if_pos h1] at h
      by_cases h2 : 32 < s.size
      · rw [if_pos h2] at h; omega
      · exact ⟨hm, h1, by omega, hd⟩
    · rw [if_neg h1] at h; omega
  · rw [if_neg hm] at h; omega
theorem put_ne {d : Dk} {i : Int} {s : ByteArray} (h : putE d i s ≠ 0) : putD d i s = d := by
  unfold putE at h
  unfold putD writeD
  by_cases hm : mayD d
  · rw [if_pos hm] at h ⊢; rw [if_neg h]
  · rw [if_neg hm]
theorem may_add {d : Dk} {i : Int} {s : ByteArray} (hm : mayD d) (hi : inD d.secs.length i) (hs : s.size ≤ 32) : mayD (addW d i s) := by
  refine ⟨hm.1, hm.2.1, hm.2.2.1, fun p hp => ?_⟩
  rcases List.mem_append.1 hp with h | h
  · exact hm.2.2.2 p h
  · obtain rfl : p = (i, fillB s) := by simpa using h
    exact ⟨hi.1, hi.2, fillB_size s hs⟩
theorem last_add (x : ByteArray) (l : List Wr) (i j : Int) (t : ByteArray) : lastOf x (l ++ [(i, t)]) j = if i = j then t else lastOf x l j := by
  unfold lastOf; rw [List.foldl_append]; rfl
theorem get_add_same {d : Dk} {i : Int} {s : ByteArray} (hm : mayD d) (hi : inD d.secs.length i) (hs : s.size ≤ 32) : getB (addW d i s) i = fillB s ∧ getE (addW d i s) i = 0 := by
  have hok : getOk (addW d i s) i := ⟨may_add hm hi hs, hi⟩
  refine ⟨?_, if_pos hok⟩
  unfold getB
  rw [if_pos hok]
  show lastOf _ (d.cache ++ [(i, fillB s)]) i = _
  rw [last_add, if_pos rfl]
theorem get_add_other {d : Dk} {i j : Int} {s : ByteArray} (hm : mayD d) (hi : inD d.secs.length i) (hs : s.size ≤ 32) : getE (addW d i s) j = getE d j ∧ (j ≠ i → getB (addW d i s) j = getB d j) := by
  have hok : getOk (addW d i s) j ↔ getOk d j := ⟨fun h => ⟨hm, h.2⟩, fun h => ⟨may_add hm hi hs, h.2⟩⟩
  refine ⟨?_, fun hne => ?_⟩
  · unfold getE; simp only [hok]
  · unfold getB
    simp only [hok]
    by_cases h : getOk d j
    · rw [if_pos h, if_pos h]
      show lastOf _ (d.cache ++ [(i, fillB s)]) j = _
      rw [last_add, if_neg (fun e => hne e.symm)]; rfl
    · rw [if_neg h, if_neg h]
theorem settleK_congr {f g : Nat → Bool} (secs : List ByteArray) (cache : List Wr) (k : Nat) (h : ∀ j, j < k → f j = g j) : settleK f secs cache k = settleK g secs cache k := by
  induction k with
  | zero => rfl
  | succ k ih =>
    unfold settleK
    rw [ih (fun j hj => h j (by omega)), h k (by omega)]
theorem crash_congr {f g : Nat → Bool} (d : Dk) (h : ∀ j, j < d.cache.length → f j = g j) : crashD f d = crashD g d := by
  unfold crashD settleD
  rw [settleK_congr d.secs d.cache d.cache.length h]
theorem fill_extract (s : ByteArray) : (fillB s).extract 0 s.size = s := by
  unfold fillB
  rw [RM.extract0]
  unfold RM.fillL
  have h : s.data.toList.length = s.size := by simp
  rw [← h, List.take_left]
  exact RM.str_self s
theorem argE_may {d : Dk} (h : mayD d) : argE d = 0 := if_pos h
end DM
namespace DiskW
theorem BV.of_owns {w : World} {base : Nat} {e : TypeId} {v : Value} {l : List Bool} {n : Nat} (hn : n = l.length) (h : w.ownsRow base e 1 v n (l.map Value.bool)) : BV w v l := by
  subst hn
  have h' := h
  obtain ⟨h0, h1 | ⟨g, cap, cur, h1, h2, h3, h4⟩⟩ := h
  · exact ⟨none, 0, by rw [h1.1, h1.2], fun hp => absurd h1.2 (by omega)⟩
  · refine ⟨_, cap, h1, fun hp => ⟨g, 0, rfl, (Array.getElem?_eq_some_iff.1 h3).1, fun j hj => ?_⟩⟩
    subst h1
    rw [show (⟨g, 0 + j, none⟩ : Addr) = ⟨g, j, none⟩ from by simp, h'.cellAt j (by omega)]
    simp [hj]
theorem info_bool : (Try.prog.info? 4).map (fun i => (i.zero, i.size, i.bytes)) = some (some (.bool false), 1, 1) := by kernel_rfl
set_option maxHeartbeats 1600000 in
set_option maxRecDepth 100000 in
theorem last_out (a1 : Option Addr) (n k1 : Nat) (a2 : Option Addr) (m k2 : Nat) (d : DM.Dk) (i : Int) (s : ByteArray) (at2 : Int) (w : World) (H0 : DM.DV w (.slice a1 n k1) (.slice a2 m k2) d) (b1 : n ≤ 9223372036854775807) (b2 : m ≤ 9223372036854775807) (hno : ¬ DM.smallD d ∨ (100 : Int) < (s.size : Int)) :
    Calls Try.prog 13 #[.agg #[.slice a1 n k1, .slice a2 m k2], .agg #[.int .i64 i, .string s], .int .i64 at2] w fun e w' => e = .returned (.bool true) ∧ Below w.heap.size w w' := by
  obtain ⟨x, hx⟩ : ∃ x, decide (DM.smallD d) = x := ⟨_, rfl⟩
  have CS : Hid (∀ w', DM.DV w' (.slice a1 n k1) (.slice a2 m k2) d → Calls Try.prog 21 #[.agg #[.slice a1 n k1, .slice a2 m k2]] w' fun e w'' => e = .returned (.bool x) ∧ Below w'.heap.size w' w'') := Lib.hid (fun w' h => by
    have := small_any a1 a2 n k1 m k2 d w' h b1 b2
    rw [hx] at this
    exact this)
  have H := Lib.hid H0; clear H0
  have hc : x = false ∨ (x = true ∧ (100 : Int) < (s.size : Int)) := by
    cases x
    · exact Or.inl rfl
    · rcases hno with h | h
      · exact absurd (of_decide_eq_true hx) h
      · exact Or.inr ⟨rfl, h⟩
  clear hno hx
  rcases hc with rfl | ⟨rfl, h100⟩
  all_goals
    go_enter Try.func13, Try.ntmps13
    go_wp2_with fail
    have Z0 : Below w.heap.size w ((w.alloc (.cells #[.slice a1 n k1, .slice a2 m k2] 40)).alloc (.cells #[.int .i64 i, .string s] 73)) := DM.below_two w _ _
    have Xd_0 := Lib.hid ((DM.Var.two2 w (.slice a1 n k1) (.slice a2 m k2) (.int .i64 i) (.string s) 40 73).1.box)
    have Yd_0 := Lib.hid (H.out.below Z0)
    have Xu_0 := Lib.hid ((DM.Var.two2 w (.slice a1 n k1) (.slice a2 m k2) (.int .i64 i) (.string s) 40 73).2.box)
    generalize hW0 : (w.alloc (.cells #[.slice a1 n k1, .slice a2 m k2] 40)).alloc (.cells #[.int .i64 i, .string s] 73) = w0 at *
    clear hW0
    have cd0 := Xd_0.out.2.1; have cd1 := Xd_0.out.2.2; have ld := Xd_0.out.1
    go_wp2_with fail
    refine (CS.out _ Yd_0.out).mono ?_; rintro e w1 ⟨rfl, B⟩
    have T : Below w0.heap.size w0 w1 := B
    have Z1 : Below w.heap.size w w1 := Z0.trans (T.mono Z0.size)
    have Xd_1 := Lib.hid (Xd_0.out.below T); have Yd_1 := Lib.hid (Yd_0.out.below T)
    have Xu_1 := Lib.hid (Xu_0.out.below T)
    clear B T cd0 cd1 ld Xd_0 Yd_0 Xu_0
    have cu0 := Xu_1.out.2.1; have cu1 := Xu_1.out.2.2; have lu := Xu_1.out.1
    go_wp2_with fail
    refine (live_any _).mono ?_; rintro e w2 ⟨rfl, B⟩
    have T : Below w1.heap.size w1 w2 := B
    have Z2 : Below w.heap.size w w2 := Z1.trans (T.mono Z1.size)
    have Xd_2 := Lib.hid (Xd_1.out.below T); have Yd_2 := Lib.hid (Yd_1.out.below T)
    have Xu_2 := Lib.hid (Xu_1.out.below T)
    clear B T cu0 cu1 lu Xd_1 Yd_1 Xu_1
    go_wp2_with fail
    go_ret
    exact ⟨rfl, Z2⟩
set_option maxHeartbeats 1600000 in
set_option maxRecDepth 100000 in
theorem last_err (a1 : Option Addr) (n k1 : Nat) (a2 : Option Addr) (m k2 : Nat) (d : DM.Dk) (i : Int) (s : ByteArray) (at2 : Int) (w : World) (H0 : DM.DV w (.slice a1 n k1) (.slice a2 m k2) d) (hsm : DM.smallD d) (hs : s.size ≤ 100) (he : DM.putE d i s ≠ 0) :
    Calls Try.prog 13 #[.agg #[.slice a1 n k1, .slice a2 m k2], .agg #[.int .i64 i, .string s], .int .i64 at2] w fun e w' => e = .returned (.bool true) ∧ Below w.heap.size w w' := by
  have hn := (DM.DV.len H0).1
  have hm := (DM.DV.len H0).2
  have b1 : n ≤ 600 := by have := hsm.1.1; omega
  have b2 : m ≤ 200 := by have := hsm.2.1; omega
  have CS : Hid (∀ w', DM.DV w' (.slice a1 n k1) (.slice a2 m k2) d → Calls Try.prog 21 #[.agg #[.slice a1 n k1, .slice a2 m k2]] w' fun e w'' => e = .returned (.bool true) ∧ Below w'.heap.size w' w'') := Lib.hid (fun w' h => by
    have := small_any a1 a2 n k1 m k2 d w' h (by omega) (by omega)
    rw [decide_eq_true hsm] at this
    exact this)
  obtain ⟨x, hx⟩ : ∃ x, DM.putE d i s = x := ⟨_, rfl⟩
  have CP : Hid (∀ w', DM.DV w' (.slice a1 n k1) (.slice a2 m k2) d → Calls Try.prog 35 #[.agg #[.slice a1 n k1, .slice a2 m k2], .int .i64 i, .string s] w' fun e w'' => ∃ a3 n3 k3 a4 n4 k4, e = .returned (.tuple #[.agg #[.slice a3 n3 k3, .slice a4 n4 k4], .int .i64 x]) ∧ DM.DV w'' (.slice a3 n3 k3) (.slice a4 n4 k4) d ∧ Below w'.heap.size w' w'') := Lib.hid (fun w' h => by
    have := put_any a1 a2 k1 k2 n m d i s w' h hn hm (by omega) (by omega) (by unfold maxLen; omega)
    rw [DM.put_ne he, hx] at this
    exact this)
  have CM : Hid (∀ a3 n3 k3 a4 n4 k4 w', DM.DV w' (.slice a3 n3 k3) (.slice a4 n4 k4) d → DM.DV w' (.slice a1 n k1) (.slice a2 m k2) d → Calls Try.prog 41 #[.agg #[.slice a3 n3 k3, .slice a4 n4 k4], .agg #[.slice a1 n k1, .slice a2 m k2]] w' fun e w'' => e = .returned (.bool true) ∧ Below w'.heap.size w' w'') := Lib.hid (fun a3 n3 k3 a4 n4 k4 w' h1 h2 => by
    have hl := DM.DV.len h1
    have := rsame_any a3 a4 a1 a2 n3 k3 n4 k4 n k1 m k2 d d w' h1 h2 (by omega) (by omega) (by omega) (by omega)
    rw [decide_eq_true (rfl : d = d)] at this
    exact this)
  have hx0 : (x == 0) = false := by rw [← hx]; simpa using he
  have H := Lib.hid H0; clear H0
  have hsi : ¬ (100 : Int) < (s.size : Int) := by omega
  clear hsm he hx hn hm
  go_enter Try.func13, Try.ntmps13
  go_wp2_with fail
  have Z0 : Below w.heap.size w ((w.alloc (.cells #[.slice a1 n k1, .slice a2 m k2] 40)).alloc (.cells #[.int .i64 i, .string s] 73)) := DM.below_two w _ _
  have Xd_0 := Lib.hid ((DM.Var.two2 w (.slice a1 n k1) (.slice a2 m k2) (.int .i64 i) (.string s) 40 73).1.box)
  have Yd_0 := Lib.hid (H.out.below Z0)
  have Xu_0 := Lib.hid ((DM.Var.two2 w (.slice a1 n k1) (.slice a2 m k2) (.int .i64 i) (.string s) 40 73).2.box)
  generalize hW0 : (w.alloc (.cells #[.slice a1 n k1, .slice a2 m k2] 40)).alloc (.cells #[.int .i64 i, .string s] 73) = w0 at *
  clear hW0
  have cd0 := Xd_0.out.2.1; have cd1 := Xd_0.out.2.2; have ld := Xd_0.out.1
  go_wp2_with fail
  refine (CS.out _ Yd_0.out).mono ?_; rintro e w1 ⟨rfl, B⟩
  have T : Below w0.heap.size w0 w1 := B
  have Z1 : Below w.heap.size w w1 := Z0.trans (T.mono Z0.size)
  have Xd_1 := Lib.hid (Xd_0.out.below T); have Yd_1 := Lib.hid (Yd_0.out.below T)
  have Xu_1 := Lib.hid (Xu_0.out.below T)
  clear B T cd0 cd1 ld Xd_0 Yd_0 Xu_0
  have cd0 := Xd_1.out.2.1; have cd1 := Xd_1.out.2.2; have ld := Xd_1.out.1
  have cu0 := Xu_1.out.2.1; have cu1 := Xu_1.out.2.2; have lu := Xu_1.out.1
  go_wp2_with fail
  refine (CP.out _ Yd_1.out).mono ?_; rintro e w2 ⟨a3, n3, k3, a4, n4, k4, rfl, D, B⟩
  have T : Below w1.heap.size w1 w2 := B
  have Z2 : Below w.heap.size w w2 := Z1.trans (T.mono Z1.size)
  have Xd_2 := Lib.hid (Xd_1.out.below T); have Yd_2 := Lib.hid (Yd_1.out.below T)
  have Xu_2 := Lib.hid (Xu_1.out.below T)
  clear B T cd0 cd1 ld cu0 cu1 lu Xd_1 Yd_1 Xu_1
  have Yx_2 := Lib.hid D; clear D
  have cd0 := Xd_2.out.2.1; have cd1 := Xd_2.out.2.2; have ld := Xd_2.out.1
  go_wp2_with fail
  refine (CM.out _ _ _ _ _ _ _ (Yx_2.out.below ((Below.refl _ _).alloc (Nat.le_refl _) _)) (Yd_2.out.below ((Below.refl _ _).alloc (Nat.le_refl _) _))).mono ?_; rintro e w3 ⟨rfl, B⟩
  have T : Below w2.heap.size w2 w3 := ((Below.refl _ _).alloc (Nat.le_refl _) _).trans (B.mono (by simp))
  have Z3 : Below w.heap.size w w3 := Z2.trans (T.mono Z2.size)
  have Xd_3 := Lib.hid (Xd_2.out.below T); have Yd_3 := Lib.hid (Yd_2.out.below T)
  have Xu_3 := Lib.hid (Xu_2.out.below T)
  have Xx_3 := Lib.hid ((DiskW.box_alloc w2 (.slice a3 n3 k3) (.slice a4 n4 k4) 40).below B); have Yx_3 := Lib.hid (Yx_2.out.below T)
  clear B T cd0 cd1 ld Xd_2 Yd_2 Xu_2 Yx_2
  go_wp2_with fail
  refine (live_any _).mono ?_; rintro e w4 ⟨rfl, B⟩
  have T : Below w3.heap.size w3 w4 := B
  have Z4 : Below w.heap.size w w4 := Z3.trans (T.mono Z3.size)
  have Xd_4 := Lib.hid (Xd_3.out.below T); have Yd_4 := Lib.hid (Yd_3.out.below T)
  have Xu_4 := Lib.hid (Xu_3.out.below T)
  have Xx_4 := Lib.hid (Xx_3.out.below T); have Yx_4 := Lib.hid (Yx_3.out.below T)
  clear B T  Xd_3 Yd_3 Xu_3 Xx_3 Yx_3
  go_wp2_with fail
  go_ret
  exact ⟨rfl, Z4⟩
set_option maxHeartbeats 3200000 in
set_option maxRecDepth 100000 in
theorem last_ok (a1 : Option Addr) (n k1 : Nat) (a2 : Option Addr) (m k2 : Nat) (d : DM.Dk) (i : Int) (s : ByteArray) (at2 : Int) (w : World) (H0 : DM.DV w (.slice a1 n k1) (.slice a2 m k2) d) (hsm : DM.smallD d) (hs : s.size ≤ 100) (he : DM.putE d i s = 0) :
    Calls Try.prog 13 #[.agg #[.slice a1 n k1, .slice a2 m k2], .agg #[.int .i64 i, .string s], .int .i64 at2] w fun e w' => e = .returned (.bool true) ∧ Below w.heap.size w w' := by
  have hn := (DM.DV.len H0).1
  have hm := (DM.DV.len H0).2
  have b1 : n ≤ 600 := by have := hsm.1.1; omega
  have b2 : m ≤ 200 := by have := hsm.2.1; omega
  have CS : Hid (∀ w', DM.DV w' (.slice a1 n k1) (.slice a2 m k2) d → Calls Try.prog 21 #[.agg #[.slice a1 n k1, .slice a2 m k2]] w' fun e w'' => e = .returned (.bool true) ∧ Below w'.heap.size w' w'') := Lib.hid (fun w' h => by
    have := small_any a1 a2 n k1 m k2 d w' h (by omega) (by omega)
    rw [decide_eq_true hsm] at this
    exact this)
  obtain ⟨hmay, hin, hs32, hpd⟩ := DM.put_zero he
  obtain ⟨A, hA⟩ : ∃ A, DM.addW d i s = A := ⟨_, rfl⟩
  have hmA : DM.mayD A := by rw [← hA]; exact DM.may_add hmay hin hs32
  have hA1 : A.secs.length = n := by rw [← hA]; exact hn
  have hA2 : A.cache.length = m + 1 := by rw [← hA]; show (d.cache ++ [(i, DM.fillB s)]).length = m + 1; rw [List.length_append, hm]; rfl
  have CP : Hid (∀ w', DM.DV w' (.slice a1 n k1) (.slice a2 m k2) d → Calls Try.prog 35 #[.agg #[.slice a1 n k1, .slice a2 m k2], .int .i64 i, .string s] w' fun e w'' => ∃ a3 k3 a4 k4, e = .returned (.tuple #[.agg #[.slice a3 n k3, .slice a4 (m + 1) k4], .int .i64 0]) ∧ DM.DV w'' (.slice a3 n k3) (.slice a4 (m + 1) k4) A ∧ Below w'.heap.size w' w'') := Lib.hid (fun w' h => by
    refine (put_any a1 a2 k1 k2 n m d i s w' h hn hm (by omega) (by omega) (by unfold maxLen; omega)).mono ?_
    rintro e w'' ⟨a3, n3, k3, a4, n4, k4, rfl, h1, h2⟩
    rw [hpd, hA] at h1
    obtain ⟨g1, g2⟩ := DM.DV.len h1
    obtain rfl : n3 = n := by omega
    obtain rfl : n4 = m + 1 := by omega
    rw [he]
    exact ⟨a3, k3, a4, k4, rfl, h1, h2⟩)
  obtain ⟨F, hF⟩ : ∃ F, DM.fillB s = F := ⟨_, rfl⟩
  have hF1 : F.size = 32 := by rw [← hF]; exact DM.fillB_size s hs32
  have hF2 : F.extract 0 s.size = s := by rw [← hF]; exact DM.fill_extract s
  have CG1 : Hid (∀ a3 k3 a4 k4 w', DM.DV w' (.slice a3 n k3) (.slice a4 (m + 1) k4) A → Calls Try.prog 40 #[.agg #[.slice a3 n k3, .slice a4 (m + 1) k4], .int .i64 i] w' fun e w'' => e = .returned (.tuple #[.string F, .int .i64 0]) ∧ Below w'.heap.size w' w'') := Lib.hid (fun a3 k3 a4 k4 w' h => by
    have := get_any a3 a4 k3 k4 n (m + 1) A i w' h hA1 hA2 (by omega) (by omega)
    have hg := DM.get_add_same hmay hin hs32
    rw [hA] at hg
    rw [hg.1, hg.2, hF] at this
    exact this)
  obtain ⟨G, hG⟩ : ∃ G, DM.getB d at2 = G := ⟨_, rfl⟩
  obtain ⟨G', hG'⟩ : ∃ G, DM.getB A at2 = G := ⟨_, rfl⟩
  obtain ⟨E2, hE2⟩ : ∃ E, DM.getE d at2 = E := ⟨_, rfl⟩
  have hother := DM.get_add_other (j := at2) hmay hin hs32
  rw [hA] at hother
  have CG2 : Hid (∀ w', DM.DV w' (.slice a1 n k1) (.slice a2 m k2) d → Calls Try.prog 40 #[.agg #[.slice a1 n k1, .slice a2 m k2], .int .i64 at2] w' fun e w'' => e = .returned (.tuple #[.string G, .int .i64 E2]) ∧ Below w'.heap.size w' w'') := Lib.hid (fun w' h => by
    have := get_any a1 a2 k1 k2 n m d at2 w' h hn hm (by omega) (by omega)
    rw [hG, hE2] at this
    exact this)
  have CG3 : Hid (∀ a3 k3 a4 k4 w', DM.DV w' (.slice a3 n k3) (.slice a4 (m + 1) k4) A → Calls Try.prog 40 #[.agg #[.slice a3 n k3, .slice a4 (m + 1) k4], .int .i64 at2] w' fun e w'' => e = .returned (.tuple #[.string G', .int .i64 E2]) ∧ Below w'.heap.size w' w'') := Lib.hid (fun a3 k3 a4 k4 w' h => by
    have := get_any a3 a4 k3 k4 n (m + 1) A at2 w' h hA1 hA2 (by omega) (by omega)
    rw [hG', hother.1, hE2] at this
    exact this)
  have hcase : i = at2 ∨ ((at2 == i) = false ∧ G' = G) := by
    by_cases h : i = at2
    · exact Or.inl h
    · exact Or.inr ⟨by simpa using fun e => h (Eq.symm e), by rw [← hG', ← hG, hother.2 (fun e => h e.symm)]⟩
  obtain ⟨K, hK⟩ : ∃ K, DM.crashD (fun _ => true) A = K := ⟨_, rfl⟩
  have hKl : K.secs.length = n ∧ K.cache.length = 0 := by
    rw [← hK]
    unfold DM.crashD
    rw [if_pos hmA]
    exact ⟨by show (DM.settleK _ _ _ _).length = n; rw [DM.settleK_length, hA1], rfl⟩
  have CC : Hid (∀ a3 k3 a4 k4 a5 k5 w', DM.DV w' (.slice a3 n k3) (.slice a4 (m + 1) k4) A → BV w' (.slice a5 (m + 1) k5) (List.replicate (m + 1) true) → Calls Try.prog 27 #[.agg #[.slice a3 n k3, .slice a4 (m + 1) k4], .slice a5 (m + 1) k5] w' fun e w'' => ∃ a3 n3 k3 a4 n4 k4, e = .returned (.tuple #[.agg #[.slice a3 n3 k3, .slice a4 n4 k4], .int .i64 0]) ∧ DM.DV w'' (.slice a3 n3 k3) (.slice a4 n4 k4) K ∧ Below w'.heap.size w' w'') := Lib.hid (fun a3 k3 a4 k4 a5 k5 w' h hv => by
    have hlr : (List.replicate (m + 1) true).length = m + 1 := by simp
    have := crash_any a3 a4 k3 k4 n (m + 1) A a5 k5 (List.replicate (m + 1) true) w' h hA1 hA2 (by omega) (by omega) (by rw [hlr]; exact hv) (by rw [hlr]; omega)
    rw [hlr, DM.argE_may hmA, DM.crash_congr (g := fun _ => true) A (fun j hj => by rw [hA2] at hj; simp [List.getD, hj]), hK] at this
    exact this)
  have CF : Hid (∀ a3 k3 a4 k4 w', DM.DV w' (.slice a3 n k3) (.slice a4 (m + 1) k4) A → Calls Try.prog 44 #[.agg #[.slice a3 n k3, .slice a4 (m + 1) k4]] w' fun e w'' => ∃ a3 n3 k3 a4 n4 k4, e = .returned (.tuple #[.agg #[.slice a3 n3 k3, .slice a4 n4 k4], .int .i64 0]) ∧ DM.DV w'' (.slice a3 n3 k3) (.slice a4 n4 k4) K ∧ Below w'.heap.size w' w'') := Lib.hid (fun a3 k3 a4 k4 w' h => by
    have := bflush_any a3 a4 k3 k4 n (m + 1) A w' h hA1 hA2 (by omega) (by omega)
    rw [DM.argE_may hmA, hK] at this
    exact this)
  have CM : Hid (∀ a3 n3 k3 a4 n4 k4 a5 n5 k5 a6 n6 k6 w', DM.DV w' (.slice a3 n3 k3) (.slice a4 n4 k4) K → DM.DV w' (.slice a5 n5 k5) (.slice a6 n6 k6) K → Calls Try.prog 41 #[.agg #[.slice a3 n3 k3, .slice a4 n4 k4], .agg #[.slice a5 n5 k5, .slice a6 n6 k6]] w' fun e w'' => e = .returned (.bool true) ∧ Below w'.heap.size w' w'') := Lib.hid (fun a3 n3 k3 a4 n4 k4 a5 n5 k5 a6 n6 k6 w' h1 h2 => by
    have g1 := DM.DV.len h1
    have g2 := DM.DV.len h2
    have := rsame_any a3 a4 a5 a6 n3 k3 n4 k4 n5 k5 n6 k6 K K w' h1 h2 (by omega) (by omega) (by omega) (by omega)
    rw [decide_eq_true (rfl : K = K)] at this
    exact this)
  have H := Lib.hid H0; clear H0
  have hsi : ¬ (100 : Int) < (s.size : Int) := by omega
  have hsz : (s.size : Int) ≤ 32 := by omega
  have hsz0 : (0 : Int) ≤ (s.size : Int) := by omega
  have hF3 : (F.size : Int) = 32 := by omega
  obtain ⟨i0, hi, hz0, hz1, hz2⟩ := info_parts info_bool
  clear hsm he hn hm hpd hA hmA hA1 hA2 hF hG hG' hE2 hother hK hKl hmay hin
  rcases hcase with rfl | ⟨hne, rfl⟩
  rotate_left
  have hne2 : ¬ at2 = i := by simpa using hne
  rotate_left
  all_goals
    go_enter Try.func13, Try.ntmps13
    go_wp2_with fail
    have Z0 : Below w.heap.size w ((w.alloc (.cells #[.slice a1 n k1, .slice a2 m k2] 40)).alloc (.cells #[.int .i64 i, .string s] 73)) := DM.below_two w _ _
    have Xd_0 := Lib.hid ((DM.Var.two2 w (.slice a1 n k1) (.slice a2 m k2) (.int .i64 i) (.string s) 40 73).1.box)
    have Yd_0 := Lib.hid (H.out.below Z0)
    have Xu_0 := Lib.hid ((DM.Var.two2 w (.slice a1 n k1) (.slice a2 m k2) (.int .i64 i) (.string s) 40 73).2.box)
    generalize hW0 : (w.alloc (.cells #[.slice a1 n k1, .slice a2 m k2] 40)).alloc (.cells #[.int .i64 i, .string s] 73) = w0 at *
    clear hW0
    have cd0 := Xd_0.out.2.1; have cd1 := Xd_0.out.2.2; have ld := Xd_0.out.1
    go_wp2_with fail
    refine (CS.out _ Yd_0.out).mono ?_; rintro e w1 ⟨rfl, B⟩
    have T : Below w0.heap.size w0 w1 := B
    have Z1 : Below w.heap.size w w1 := Z0.trans (T.mono Z0.size)
    have Xd_1 := Lib.hid (Xd_0.out.below T); have Yd_1 := Lib.hid (Yd_0.out.below T)
    have Xu_1 := Lib.hid (Xu_0.out.below T)
    clear B T cd0 cd1 ld Xd_0 Yd_0 Xu_0
    have cd0 := Xd_1.out.2.1; have cd1 := Xd_1.out.2.2; have ld := Xd_1.out.1
    have cu0 := Xu_1.out.2.1; have cu1 := Xu_1.out.2.2; have lu := Xu_1.out.1
    go_wp2_with fail
    refine (CP.out _ Yd_1.out).mono ?_; rintro e w2 ⟨a3, k3, a4, k4, rfl, D, B⟩
    have T : Below w1.heap.size w1 w2 := B
    have Z2 : Below w.heap.size w w2 := Z1.trans (T.mono Z1.size)
    have Xd_2 := Lib.hid (Xd_1.out.below T); have Yd_2 := Lib.hid (Yd_1.out.below T)
    have Xu_2 := Lib.hid (Xu_1.out.below T)
    clear B T cd0 cd1 ld cu0 cu1 lu Xd_1 Yd_1 Xu_1
    have Yx_2 := Lib.hid D; clear D
    have cu0 := Xu_2.out.2.1; have cu1 := Xu_2.out.2.2; have lu := Xu_2.out.1
    go_wp2_with fail
    refine (CG1.out _ _ _ _ _ (Yx_2.out.below ((Below.refl _ _).alloc (Nat.le_refl _) _))).mono ?_; rintro e w3 ⟨rfl, B⟩
    have T : Below w2.heap.size w2 w3 := ((Below.refl _ _).alloc (Nat.le_refl _) _).trans (B.mono (by simp))
    have Z3 : Below w.heap.size w w3 := Z2.trans (T.mono Z2.size)
    have Xd_3 := Lib.hid (Xd_2.out.below T); have Yd_3 := Lib.hid (Yd_2.out.below T)
    have Xu_3 := Lib.hid (Xu_2.out.below T)
    have Xx_3 := Lib.hid ((DiskW.box_alloc w2 (.slice a3 n k3) (.slice a4 (m + 1) k4) 40).below B); have Yx_3 := Lib.hid (Yx_2.out.below T)
    clear B T cu0 cu1 lu Xd_2 Yd_2 Xu_2 Yx_2
    have cu0 := Xu_3.out.2.1; have cu1 := Xu_3.out.2.2; have lu := Xu_3.out.1
    go_wp2_with fail
    go_quiet (fail)
    have B : Below w3.heap.size w3 (w3.drewN nq) := Lib.below_drewN (Below.refl _ _) _
    generalize hq : w3.drewN nq = w4 at *
    clear hq
    have T : Below w3.heap.size w3 w4 := B
    have Z4 : Below w.heap.size w w4 := Z3.trans (T.mono Z3.size)
    have Xd_4 := Lib.hid (Xd_3.out.below T); have Yd_4 := Lib.hid (Yd_3.out.below T)
    have Xu_4 := Lib.hid (Xu_3.out.below T)
    have Xx_4 := Lib.hid (Xx_3.out.below T); have Yx_4 := Lib.hid (Yx_3.out.below T)
    clear B T cu0 cu1 lu Xd_3 Yd_3 Xu_3 Xx_3 Yx_3
    have cd0 := Xd_4.out.2.1; have cd1 := Xd_4.out.2.2; have ld := Xd_4.out.1
    go_wp2_with fail
    refine (CG2.out _ Yd_4.out).mono ?_; rintro e w5 ⟨rfl, B⟩
    have T : Below w4.heap.size w4 w5 := B
    have Z5 : Below w.heap.size w w5 := Z4.trans (T.mono Z4.size)
    have Xd_5 := Lib.hid (Xd_4.out.below T); have Yd_5 := Lib.hid (Yd_4.out.below T)
    have Xu_5 := Lib.hid (Xu_4.out.below T)
    have Xx_5 := Lib.hid (Xx_4.out.below T); have Yx_5 := Lib.hid (Yx_4.out.below T)
    clear B T cd0 cd1 ld Xd_4 Yd_4 Xu_4 Xx_4 Yx_4
    have cx0 := Xx_5.out.2.1; have cx1 := Xx_5.out.2.2; have lx := Xx_5.out.1
    go_wp2_with fail
    refine (CG3.out _ _ _ _ _ Yx_5.out).mono ?_; rintro e w6 ⟨rfl, B⟩
    have T : Below w5.heap.size w5 w6 := B
    have Z6 : Below w.heap.size w w6 := Z5.trans (T.mono Z5.size)
    have Xd_6 := Lib.hid (Xd_5.out.below T); have Yd_6 := Lib.hid (Yd_5.out.below T)
    have Xu_6 := Lib.hid (Xu_5.out.below T)
    have Xx_6 := Lib.hid (Xx_5.out.below T); have Yx_6 := Lib.hid (Yx_5.out.below T)
    clear B T cx0 cx1 lx Xd_5 Yd_5 Xu_5 Xx_5 Yx_5
    have cu0 := Xu_6.out.2.1; have cu1 := Xu_6.out.2.2; have lu := Xu_6.out.1
    have cx0 := Xx_6.out.2.1; have cx1 := Xx_6.out.2.2; have lx := Xx_6.out.1
    go_wp2_with fail
    clear cu0 cu1 lu
    go_loopw [15, 16] (fun v c wr => ∃ q : Nat, q ≤ m + 1 ∧ c = .int .i64 q ∧ wr.ownsRow w6.heap.size 4 1 v q (List.replicate q (Value.bool true)) ∧ Below w6.heap.size w6 wr) (fun _ c _ => m + 1 - (intOf c).toNat)
    case atStart => exact ⟨0, Nat.zero_le _, rfl, World.ownsRow_nil _ _ _ _, Below.refl _ _⟩
    case round =>
      obtain ⟨q, hq, rfl, hown, BU⟩ := hrel
      have hsz6 := BU.size
      have dx1 : wr.cell? ⟨w2.heap.size, 1, none⟩ = some (.slice a4 (m + 1) k4) := (BU.cell (p := ⟨w2.heap.size, 1, none⟩) lx).trans cx1
      by_cases hqm : q < m + 1
      · have hqi : (q : Int) < ((m + 1 : Nat) : Int) := by omega
        have hqi2 : (q : Int) < (m : Int) + 1 := by omega
        go_wp2_with (at_builtin; refine wpList_append_own _ rfl _ _ 43 rfl w6.heap.size 4 i0 (.bool false) 1 1 Try.underlying43 hi hz0 hz1 hz2 rfl (by decide) _ _ _ rfl (hown.alloc _) ⟨wr.heap.size, 0, none⟩ 1 1 [.bool true] rfl ?c0 ?c1 ?c2 ?c3 ?c4 ?c5 ?_)
        case c0 => rfl
        case c1 => intro j u hj; exact World.news_of_block (heap_alloc_new wr _) j u hj
        case c2 => intro u hu; simp at hu; subst hu; rfl
        case c3 => unfold maxLen; omega
        case c4 => omega
        case c5 => simp; omega
        intro v' w9 hown' hgrow _
        have hbel' : Below w6.heap.size w6 w9 := (BU.alloc hsz6 _).grown hgrow (by simp; omega) (fun j hj => (hown.lt j hj).1)
        have hrow : List.replicate q (Value.bool true) ++ [.bool true] = List.replicate (q + 1) (Value.bool true) := List.replicate_succ'.symm
        rw [hrow] at hown'
        clear hgrow hown BU dx1 hrow
        go_wp2
        go_roundw
        case rel => exact ⟨q + 1, by omega, by go_num, hown', hbel'⟩
        case measure => simp [intOf]; omega
      · have hqq : q = m + 1 := by omega
        subst hqq
        obtain ⟨a5, k5, rfl⟩ := own_slice hown
        have HV := BV.of_owns (l := List.replicate (m + 1) true) (n := m + 1) (by rw [List.length_replicate]) (by rw [List.map_replicate]; exact hown)
        clear hown dx1
        have B := BU; clear BU
        obtain ⟨w7, hw⟩ : ∃ x, x = wr := ⟨_, rfl⟩
        subst hw
        have T : Below w6.heap.size w6 w7 := B
        have Z7 : Below w.heap.size w w7 := Z6.trans (T.mono Z6.size)
        have Xd_7 := Lib.hid (Xd_6.out.below T); have Yd_7 := Lib.hid (Yd_6.out.below T)
        have Xu_7 := Lib.hid (Xu_6.out.below T)
        have Xx_7 := Lib.hid (Xx_6.out.below T); have Yx_7 := Lib.hid (Yx_6.out.below T)
        clear B T cx0 cx1 lx Xd_6 Yd_6 Xu_6 Xx_6 Yx_6
        have cx0 := Xx_7.out.2.1; have cx1 := Xx_7.out.2.2; have lx := Xx_7.out.1
        go_wp2_with fail
        refine (CC.out _ _ _ _ _ _ _ Yx_7.out HV).mono ?_; rintro e w8 ⟨a6, n6, k6, a7, n7, k7, rfl, D, B⟩
        have T : Below w7.heap.size w7 w8 := B
        have Z8 : Below w.heap.size w w8 := Z7.trans (T.mono Z7.size)
        have Xd_8 := Lib.hid (Xd_7.out.below T); have Yd_8 := Lib.hid (Yd_7.out.below T)
        have Xu_8 := Lib.hid (Xu_7.out.below T)
        have Xx_8 := Lib.hid (Xx_7.out.below T); have Yx_8 := Lib.hid (Yx_7.out.below T)
        clear B T cx0 cx1 lx Xd_7 Yd_7 Xu_7 Xx_7 Yx_7
        have Yc_8 := Lib.hid D; clear D
        have cx0 := Xx_8.out.2.1; have cx1 := Xx_8.out.2.2; have lx := Xx_8.out.1
        go_wp2_with fail
        refine (CF.out _ _ _ _ _ (Yx_8.out.below ((Below.refl _ _).alloc (Nat.le_refl _) _))).mono ?_; rintro e w9 ⟨a8, n8, k8, a9, n9, k9, rfl, D, B⟩
        have T : Below w8.heap.size w8 w9 := ((Below.refl _ _).alloc (Nat.le_refl _) _).trans (B.mono (by simp))
        have Z9 : Below w.heap.size w w9 := Z8.trans (T.mono Z8.size)
        have Xd_9 := Lib.hid (Xd_8.out.below T); have Yd_9 := Lib.hid (Yd_8.out.below T)
        have Xu_9 := Lib.hid (Xu_8.out.below T)
        have Xx_9 := Lib.hid (Xx_8.out.below T); have Yx_9 := Lib.hid (Yx_8.out.below T)
        have Xc_9 := Lib.hid ((DiskW.box_alloc w8 (.slice a6 n6 k6) (.slice a7 n7 k7) 40).below B); have Yc_9 := Lib.hid (Yc_8.out.below T)
        clear B T cx0 cx1 lx Xd_8 Yd_8 Xu_8 Xx_8 Yx_8 Yc_8
        have Yk_9 := Lib.hid D; clear D
        have cc0 := Xc_9.out.2.1; have cc1 := Xc_9.out.2.2; have lc := Xc_9.out.1
        go_wp2_with fail
        refine (CM.out _ _ _ _ _ _ _ _ _ _ _ _ _ (Yc_9.out.below ((Below.refl _ _).alloc (Nat.le_refl _) _)) (Yk_9.out.below ((Below.refl _ _).alloc (Nat.le_refl _) _))).mono ?_; rintro e w10 ⟨rfl, B⟩
        have T : Below w9.heap.size w9 w10 := ((Below.refl _ _).alloc (Nat.le_refl _) _).trans (B.mono (by simp))
        have Z10 : Below w.heap.size w w10 := Z9.trans (T.mono Z9.size)
        have Xd_10 := Lib.hid (Xd_9.out.below T); have Yd_10 := Lib.hid (Yd_9.out.below T)
        have Xu_10 := Lib.hid (Xu_9.out.below T)
        have Xx_10 := Lib.hid (Xx_9.out.below T); have Yx_10 := Lib.hid (Yx_9.out.below T)
        have Xc_10 := Lib.hid (Xc_9.out.below T); have Yc_10 := Lib.hid (Yc_9.out.below T)
        have Xk_10 := Lib.hid ((DiskW.box_alloc w9 (.slice a8 n8 k8) (.slice a9 n9 k9) 40).below B); have Yk_10 := Lib.hid (Yk_9.out.below T)
        clear B T cc0 cc1 lc Xd_9 Yd_9 Xu_9 Xx_9 Yx_9 Xc_9 Yc_9 Yk_9
        go_wp2_with fail
        refine (live_any _).mono ?_; rintro e w11 ⟨rfl, B⟩
        have T : Below w10.heap.size w10 w11 := B
        have Z11 : Below w.heap.size w w11 := Z10.trans (T.mono Z10.size)
        have Xd_11 := Lib.hid (Xd_10.out.below T); have Yd_11 := Lib.hid (Yd_10.out.below T)
        have Xu_11 := Lib.hid (Xu_10.out.below T)
        have Xx_11 := Lib.hid (Xx_10.out.below T); have Yx_11 := Lib.hid (Yx_10.out.below T)
        have Xc_11 := Lib.hid (Xc_10.out.below T); have Yc_11 := Lib.hid (Yc_10.out.below T)
        have Xk_11 := Lib.hid (Xk_10.out.below T); have Yk_11 := Lib.hid (Yk_10.out.below T)
        clear B T  Xd_10 Yd_10 Xu_10 Xx_10 Yx_10 Xc_10 Yc_10 Xk_10 Yk_10
        go_wp2_with fail
        go_ret
        exact ⟨rfl, Z11⟩
theorem last_walk (a1 : Option Addr) (n k1 : Nat) (a2 : Option Addr) (m k2 : Nat) (d : DM.Dk) (i : Int) (s : ByteArray) (at2 : Int) (w : World) (H0 : DM.DV w (.slice a1 n k1) (.slice a2 m k2) d) (b1 : n ≤ 9223372036854775807) (b2 : m ≤ 9223372036854775807) :
    Calls Try.prog 13 #[.agg #[.slice a1 n k1, .slice a2 m k2], .agg #[.int .i64 i, .string s], .int .i64 at2] w fun e w' => e = .returned (.bool true) ∧ Below w.heap.size w w' := by
  by_cases hno : ¬ DM.smallD d ∨ (100 : Int) < (s.size : Int)
  · exact last_out a1 n k1 a2 m k2 d i s at2 w H0 b1 b2 hno
  · have hsm : DM.smallD d := Classical.byContradiction fun h => hno (Or.inl h)
    have hs : ¬ (100 : Int) < (s.size : Int) := fun h => hno (Or.inr h)
    by_cases he : DM.putE d i s = 0
    · exact last_ok a1 n k1 a2 m k2 d i s at2 w H0 hsm (by omega) he
    · exact last_err a1 n k1 a2 m k2 d i s at2 w H0 hsm (by omega) he
end DiskW
end Go.Proofs.Ytlideclkieadbaa
