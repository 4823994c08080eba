/- One text of FilA0, FilA, FilAp, FilEn, FilDe, FilDf (mk/merge.py). -/
import Derived.Test.YtaglhmoldbndkaaDoorSp13
import Derived.Test.YtaglhmoldbndkaaDoorSp14
import Derived.Lib.SliceRun
import Derived.Test.YtaglhmoldbndkaaDoorSp9
/- Layer 5: files.change: one op, in the memory of its caller's list. -/
namespace Go.Proofs
open Go.RowKit Go.Shelf Go.Lib
attribute [local go_sem] Oper.semAt_some
set_option linter.unusedVariables false
set_option linter.unusedSimpArgs false
namespace YtaglhmoldbndkaaDoor.AM
theorem bs_one {l L R : List FD} {p : List UInt8} (h : Spl l L R p) (v : Value) (w : World) (B : Nat) (hI : Inv w) (hown : w.ownsRow B 43 2 v l.length (fcells l)) (hl : l.length ≤ 1000000) :
    Calls Tryd.prog 65 #[v, .string (ba p), .func (.func 66) #[] #[]] w fun e w' =>
      e = .returned (.tuple #[.int .i64 (L.length : Nat), .bool (hasS R p)]) ∧ Below w.heap.size w w' := by
  have hh := (fBs_ok 1000001 Inv know_inv).1.2 (l, (p, ())) _ (fBs_spec 1000001 h hl (by omega) ())
  refine (hh (Old w) w #[v, .string (ba p), .func (.func 66) #[] #[]] hI (fun b o h => h) ⟨own_dat hown, drep_val _, drep_val _, trivial⟩).mono ?_
  rintro e w' ⟨u, Pc, rfl, hb, _, _, hv⟩
  obtain ⟨us, rfl, hd⟩ := hv
  obtain ⟨us⟩ := us
  match us, hd with
  | [a, b], ⟨h1, h2, _⟩ =>
    obtain rfl : a = .int .i64 (L.length : Nat) := of_val (σ := noSt) h1
    obtain rfl : b = .bool (hasS R p) := of_val (σ := noSt) h2
    exact ⟨rfl, hb⟩
theorem own_below {w w' : World} {B E sz n : Nat} {v : Value} {xs : List Value} (h : w.ownsRow B E sz v n xs) (hb : Below w.heap.size w w') : w'.ownsRow B E sz v n xs := by
  refine ⟨h.1, ?_⟩
  rcases h.2 with h3 | ⟨g, cap, cur, h3, h4, h5, h6⟩
  · exact .inl h3
  · exact .inr ⟨g, cap, cur, h3, h4, (hb.block g (heapLt h5)).trans h5, h6⟩
set_option maxHeartbeats 4000000 in
set_option maxRecDepth 1000000 in
theorem change_calls (w : World) (B : Nat) (v : Value) (l : List FD) (o : OD) (hI : Inv w) (hown : w.ownsRow B 43 2 v l.length (fcells l)) (hB : B ≤ w.heap.size) (hr : Rise l) (hl : l.length ≤ 40) :
    Calls Tryd.prog 55 #[v, .agg #[.bool o.1, .string (ba o.2.1), .string (ba o.2.2)]] w fun e w' =>
      Below B w w' ∧ (((stepS l o).2 = 0 ∧ ∃ v', e = .returned (.tuple #[v', .int .i64 0]) ∧ w'.ownsRow B 43 2 v' (stepS l o).1.length (fcells (stepS l o).1)) ∨
        ((stepS l o).2 ≠ 0 ∧ ∃ v', e = .returned (.tuple #[v', .int .i64 (stepS l o).2]))) := by
  obtain ⟨gone, p, d⟩ := o
  obtain ⟨L, R, hspl⟩ := spl_of p hr
  have hLl : L.length ≤ l.length := by rw [hspl.eq]; simp
  go_enter Tryd.func55, Tryd.ntmps55
  generalize hW0 : w.alloc (Obj.cells #[Value.bool gone, Value.string (ba p), Value.string (ba d)] 41) = W0
  have hbl0 : Below w.heap.size w W0 := by rw [← hW0]; exact (Below.refl _ _).alloc (Nat.le_refl _) _
  have hk0 : W0.heap[w.heap.size]? = some (.cells #[Value.bool gone, Value.string (ba p), Value.string (ba d)] 41 (0, 0)) := by rw [← hW0]; exact heap_alloc_new w _
  have box3 : ∀ W : World, W.heap[w.heap.size]? = some (.cells #[Value.bool gone, Value.string (ba p), Value.string (ba d)] 41 (0, 0)) → W.cell? ⟨w.heap.size, 0, none⟩ = some (.bool gone) ∧ W.cell? ⟨w.heap.size, 1, none⟩ = some (.string (ba p)) ∧ W.cell? ⟨w.heap.size, 2, none⟩ = some (.string (ba d)) := fun W h => by
    refine ⟨?_, ?_, ?_⟩ <;> rw [cell_of_row W _ _ _ _ _ h] <;> rfl
  obtain ⟨a0, a1, a2⟩ := box3 W0 hk0
  have hP := fPath_calls p W0 (hI.below hbl0)
  have hlt0 := heapLt hk0
  go_wp2_with (go_at_call 56; refine hP.mono ?_)
  rintro e W1 ⟨rfl, hb1⟩
  clear hP a0 a1 a2 hW0
  have hk1 := (hb1.block _ hlt0).trans hk0
  have hbl1 : Below w.heap.size w W1 := hbl0.trans (hb1.mono hbl0.size)
  have hdl : (ba d).size = d.length := ba_len d
  obtain ⟨a0, a1, a2⟩ := box3 W1 hk1
  clear hb1 hk0 hbl0 hlt0
  cases hpp : pathS p with
  | false =>
    go_wp2
    go_ret2
    refine ⟨hbl1.mono hB, .inr ⟨by unfold stepS; simp [hpp], .slice none 0 0, ?_⟩⟩
    unfold stepS; simp [hpp]
  | true =>
    have hI1 := hI.below hbl1
    have hown1 := own_below hown hbl1
    have hlt1 := heapLt hk1
    have hBs := bs_one hspl v W1 B hI1 hown1 (by omega)
    go_wp2_with (go_at_call 65; refine hBs.mono ?_)
    rintro e W2 ⟨rfl, hb2⟩
    clear hBs a0 a1 a2
    have hk2 := (hb2.block _ hlt1).trans hk1
    have hbl2 : Below w.heap.size w W2 := hbl1.trans (hb2.mono hbl1.size)
    have hown2 := own_below hown hbl2
    have hBW2 : B ≤ W2.heap.size := Nat.le_trans hB hbl2.size
    obtain ⟨a0, a1, a2⟩ := box3 W2 hk2
    have hkl : w.heap.size < W2.heap.size := heapLt hk2
    clear hb2 hk1 hlt1 hbl1 hown1 hI1 hown
    cases hh : hasS R p with
    | false =>
      obtain ⟨n1, n2, n3⟩ := step_not (o := (gone, (p, d))) hspl hr hh
      cases gone with
      | true =>
        go_wp2
        go_ret2
        refine ⟨hbl2.mono hB, .inr ⟨by unfold stepS; simp [hpp, n1], .slice none 0 0, ?_⟩⟩
        unfold stepS; simp [hpp, n1]
      | false =>
        by_cases hd4 : 4096 < d.length
        · go_wp2
          go_ret2
          refine ⟨hbl2.mono hB, .inr ⟨by unfold stepS; simp [hpp, hd4], .slice none 0 0, ?_⟩⟩
          unfold stepS; simp [hpp, hd4]
        · obtain ⟨va, vc, rfl⟩ : ∃ va vc, v = .slice va l.length vc := by
            rcases hown2.2 with ⟨rfl, h0⟩ | ⟨g, cap, cur, rfl, _⟩
            · exact ⟨none, 0, by rw [h0]⟩
            · exact ⟨_, _, rfl⟩
          by_cases h40 : 40 ≤ l.length
          · go_wp2
            go_ret2
            refine ⟨hbl2.mono hB, .inr ⟨by unfold stepS; simp [hpp, hd4, n2, h40], .slice none 0 0, ?_⟩⟩
            unfold stepS; simp [hpp, hd4, n2, h40]
          · have hw3 : (W2.alloc (Obj.cells #[Value.string (ba p), Value.string (ba d)] 43)).heap[W2.heap.size]? = some (.cells #[Value.string (ba p), Value.string (ba d)] 43 (0, 0)) := heap_alloc_new W2 _
            have hbl3 : Below w.heap.size w (W2.alloc (Obj.cells #[Value.string (ba p), Value.string (ba d)] 43)) := hbl2.alloc hbl2.size _
            have hown3 := own_below hown2 ((Below.refl W2.heap.size W2).alloc (Nat.le_refl _) (Obj.cells #[Value.string (ba p), Value.string (ba d)] 43))
            have hIns := Insert_own _ B l.length L.length W2.heap.size _ _ (.string (ba p)) (.string (ba d)) hown3 hw3 (by
                intro he
                rcases hown2.2 with ⟨h5, _⟩ | ⟨g, cap, cur, h5, _, hg5, _⟩
                · rw [h5] at he; cases he
                · rw [h5] at he
                  have := heapLt hg5
                  simp [Value.ownBlock] at he
                  omega) hLl (by omega) (Nat.le_trans hBW2 (by simp)) (fcells_one l) rfl rfl
            clear hown3 hw3
            go_wp2_with (go_at_call 69; refine hIns.mono ?_)
            rintro e W4 ⟨v', rfl, ho4, hb4⟩
            obtain ⟨va', vn', vc', rfl⟩ : ∃ va n vc, v' = .slice va n vc := by
              rcases ho4.2 with ⟨rfl, h0⟩ | ⟨g, cap, cur, rfl, _⟩
              · exact ⟨_, _, _, rfl⟩
              · exact ⟨_, _, _, rfl⟩
            go_wp2
            go_ret2
            have e1 : stepS l (false, (p, d)) = (L ++ (p, d) :: R, 0) := by
              unfold stepS; simp [hpp, hd4]; rw [n2]; simp [h40]; exact n3
            rw [e1]
            refine ⟨(hbl3.mono hB).trans hb4, .inl ⟨rfl, _, rfl, ?_⟩⟩
            have e2 : (fcells l).take (L.length * 2) ++ ([.string (ba p), .string (ba d)] ++ (fcells l).drop (L.length * 2)) = fcells (L ++ (p, d) :: R) := by
              rw [hspl.eq, fcells_take, fcells_drop, fcells_app]; rfl
            have e3 : (L ++ (p, d) :: R).length = l.length + 1 := by rw [hspl.eq]; simp; omega
            rw [e3, ← e2]; exact ho4
    | true =>
      obtain ⟨x, R', rfl, hx⟩ : ∃ x R', R = x :: R' ∧ x.1 = p := by
        cases R with
        | nil => cases hh
        | cons x R' => exact ⟨x, R', rfl, of_decide_eq_true hh⟩
      obtain ⟨n1, n2, n3⟩ := step_has (o := (gone, (p, d))) hspl hr hx
      have hlt : L.length < l.length := by rw [hspl.eq]; simp
      rcases hown2.2 with ⟨_, h0⟩ | ⟨g, cap, cur, hvg, hbg, hg, hnc, hcm, hcs, htake⟩
      · omega
      cases gone with
      | true =>
        have hDel := Delete_own W2 B l.length L.length v _ hown2 hlt (fcells_one l)
        have hw1 : IntKind.i64.wrap ((L.length : Int) + 1) = (L.length : Int) + 1 := by rw [IntKind.wrap_i64]; omega
        subst hvg
        go_wp2_with (go_at_call 68; refine hDel.mono ?_)
        rintro e W4 ⟨v', rfl, ho4, hb4⟩
        obtain ⟨va', vn', vc', rfl⟩ : ∃ va n vc, v' = .slice va n vc := by
          rcases ho4.2 with ⟨rfl, h0⟩ | ⟨g, cap, cur, rfl, _⟩
          · exact ⟨_, _, _, rfl⟩
          · exact ⟨_, _, _, rfl⟩
        go_wp2
        go_ret2
        have e1 : stepS l (true, (p, d)) = (L ++ R', 0) := by
          unfold stepS; simp [hpp, n1]; exact n2
        rw [e1]
        refine ⟨(hbl2.mono hB).trans hb4, .inl ⟨rfl, _, rfl, ?_⟩⟩
        have e2 : (fcells l).take (L.length * 2) ++ (fcells l).drop ((L.length + 1) * 2) = fcells (L ++ R') := by
          have e5 : l = (L ++ [x]) ++ R' := by rw [hspl.eq]; simp
          have e6 : (L ++ [x]).length = L.length + 1 := by simp
          rw [← e6, e5, fcells_drop, List.append_assoc, fcells_take, fcells_app]
        have e3 : (L ++ R').length = l.length - 1 := by rw [hspl.eq]; simp
        rw [e3, ← e2]; exact ho4
      | false =>
        by_cases hd4 : 4096 < d.length
        · subst hvg
          go_wp2
          go_ret2
          refine ⟨hbl2.mono hB, .inr ⟨by unfold stepS; simp [hpp, hd4], .slice none 0 0, ?_⟩⟩
          unfold stepS; simp [hpp, hd4]
        · have hsz : cur.size = cap * 2 := hcs
          have c1 : ∃ u, W2.cell? ⟨g, L.length * 2 + 1, none⟩ = some u := by
            refine ⟨cur[L.length * 2 + 1]'(by omega), ?_⟩
            rw [cell_of_row W2 g _ cur _ _ hg]; simp
          have c2 : W2.frozen? ⟨g, L.length * 2 + 1, none⟩ = false := by simp [World.frozen?, hg]
          obtain ⟨u, c1⟩ := c1
          have hii : (L.length : Int) < (l.length : Int) := by omega
          subst hvg
          have hsc := setCell_eq_setRow W2 g (L.length * 2 + 1) cur 43 (0, 0) (.string (ba d)) hg
          have hrow := setRow_heap W2 g cur (cur.setIfInBounds (L.length * 2 + 1) (.string (ba d))) _ _ hg
          have hblr := below_setRow (Below.refl B W2) hbg (cur.setIfInBounds (L.length * 2 + 1) (.string (ba d)))
          rw [← hsc] at hrow hblr
          clear hsc
          go_wp2
          go_ret2
          have e1 : stepS l (false, (p, d)) = (L ++ (p, d) :: R', 0) := by
            have h40 : ¬ 40 ≤ (L ++ R').length := by
              have e5 : l.length = (L ++ R').length + 1 := by rw [hspl.eq]; simp; omega
              omega
            unfold stepS; simp only [hpp, if_true, Bool.false_eq_true, if_false, hd4]; rw [n2, if_neg h40]; exact congrArg (·, (0 : Int)) n3
          rw [e1]
          have e3 : (L ++ (p, d) :: R').length = l.length := by rw [hspl.eq]; simp
          refine ⟨(hbl2.mono hB).trans hblr, .inl ⟨rfl, _, rfl, ?_⟩⟩
          rw [e3]
          refine ⟨by rw [fcells_len, e3], .inr ⟨g, cap, _, rfl, hbg, hrow, hnc, hcm, by simp [hcs], ?_⟩⟩
          rw [Array.toList_setIfInBounds, List.take_set, htake]
          have e5 : fcells l = fcells L ++ ([.string (ba x.1), .string (ba x.2)] ++ fcells R') := by rw [hspl.eq, fcells_app]; rfl
          have e6 : fcells (L ++ (p, d) :: R') = fcells L ++ ([.string (ba p), .string (ba d)] ++ fcells R') := by rw [fcells_app]; rfl
          rw [e5, e6, ← hx, List.set_append_right _ _ (by rw [fcells_len]; omega), fcells_len, show L.length * 2 + 1 - L.length * 2 = 1 from by omega]
          rfl
end YtaglhmoldbndkaaDoor.AM
end Go.Proofs

/- Layer 5: files.Apply. -/
namespace Go.Proofs
open Go.RowKit Go.Shelf Go.Lib
attribute [local go_sem] Oper.semAt_some
set_option linter.unusedVariables false
set_option linter.unusedSimpArgs false
namespace YtaglhmoldbndkaaDoor.AM
abbrev FT : Ty := .prod .str .str
abbrev OT : Ty := .prod .bool (.prod .str .str)
/-- files that come in: their cells -/
theorem dat_cells {Pc : Nat → Nat → Prop} {w : World} {v : Value} {l : List FD} (h : DatRep Pc w v (.lst 2 (l.map (toDats FT)))) :
    ∃ a cap, v = .slice a l.length cap ∧ l.length ≤ cap ∧ cap ≤ maxLen ∧ (a = none → l = []) ∧ ∀ ad, a = some ad → ∀ j u, (fcells l)[j]? = some u → w.cell? (ad.add j) = some u := by
  obtain ⟨a, n, cap, b, off, c, rfl, hn, hcap, hmax, hsz, ha, hc, hr⟩ : ∃ (a : Option Addr) (n cap b off : Nat) (c : Nat → Nat → Value), v = .slice a n cap ∧ n = (l.map (toDats FT)).length ∧ n ≤ cap ∧ cap ≤ maxLen ∧ (∀ x ∈ l.map (toDats FT), x.length = 2) ∧ (0 < (l.map (toDats FT)).length → a = some ⟨b, off, none⟩) ∧
      (∀ k j, k < (l.map (toDats FT)).length → j < 2 → Pc b (off + k * 2 + j) ∧ w.cell? ⟨b, off + k * 2 + j, none⟩ = some (c k j) ∧ (c k j).oneCell' = true) ∧
      (∀ (k j : Nat) (hk : k < (l.map (toDats FT)).length) (hj : j < ((l.map (toDats FT))[k]).length), DatRep Pc w (c k j) (((l.map (toDats FT))[k])[j])) := by
    generalize hL : l.map (toDats FT) = L at h
    cases h with
    | lst a n cap sz xs b off c hn hcap hmax hsz ha hc hr => exact ⟨a, n, cap, b, off, c, rfl, hn, hcap, hmax, hsz, ha, hc, hr⟩
  rw [List.length_map] at hn ha hc
  subst hn
  refine ⟨a, cap, rfl, hcap, hmax, fun h0 => ?_, fun ad had j u hu => ?_⟩
  · by_cases hl : 0 < l.length
    · rw [h0] at ha; cases ha hl
    · exact List.eq_nil_of_length_eq_zero (by omega)
  · have hjl : j < (fcells l).length := (List.getElem?_eq_some_iff.1 hu).1
    rw [fcells_len] at hjl
    have hk : j / 2 < l.length := by omega
    have h2 := ha (by omega)
    rw [had] at h2
    obtain rfl := Option.some.inj h2
    have hcell := (hc (j / 2) (j % 2) hk (by omega)).2.1
    have hrep := hr (j / 2) (j % 2) (by rw [List.length_map]; exact hk) (by rw [List.getElem_map]; show j % 2 < 2; omega)
    have hg := fcells_get l (j / 2) hk
    rw [Addr.add_lit, show off + j = off + j / 2 * 2 + j % 2 from by omega, hcell]
    simp only [List.getElem_map] at hrep
    rcases Nat.mod_two_eq_zero_or_one j with h0 | h0
    · have ej : j = j / 2 * 2 := by omega
      rw [ej] at hu
      rw [hg.1] at hu
      have : c (j / 2) (j % 2) = .string (ba (l[j / 2]).1) := by
        simp only [h0] at hrep ⊢
        generalize c (j / 2) _ = u at hrep ⊢
        cases hrep with
        | v x => rfl
      rw [this]; exact hu
    · have ej : j = j / 2 * 2 + 1 := by omega
      rw [ej] at hu
      rw [hg.2] at hu
      have : c (j / 2) (j % 2) = .string (ba (l[j / 2]).2) := by
        simp only [h0] at hrep ⊢
        generalize c (j / 2) _ = u at hrep ⊢
        cases hrep with
        | v x => rfl
      rw [this]; exact hu
theorem ops_cells {Pc : Nat → Nat → Prop} {w : World} {v : Value} {l : List OD} (hP : ∀ b o, Pc b o → b < w.heap.size) (h : DatRep Pc w v (.lst 3 (l.map (toDats OT)))) :
    ∃ a cap, v = .slice a l.length cap ∧ l.length ≤ cap ∧ cap ≤ maxLen ∧ (0 < l.length → ∃ b off, a = some ⟨b, off, none⟩ ∧ b < w.heap.size ∧ ∀ k (hk : k < l.length), w.cell? ⟨b, off + k * 3, none⟩ = some (.bool l[k].1) ∧ w.cell? ⟨b, off + k * 3 + 1, none⟩ = some (.string (ba l[k].2.1)) ∧ w.cell? ⟨b, off + k * 3 + 2, none⟩ = some (.string (ba l[k].2.2))) := by
  obtain ⟨a, n, cap, b, off, c, rfl, hn, hcap, hmax, hsz, ha, hc, hr⟩ : ∃ (a : Option Addr) (n cap b off : Nat) (c : Nat → Nat → Value), v = .slice a n cap ∧ n = (l.map (toDats OT)).length ∧ n ≤ cap ∧ cap ≤ maxLen ∧ (∀ x ∈ l.map (toDats OT), x.length = 3) ∧ (0 < (l.map (toDats OT)).length → a = some ⟨b, off, none⟩) ∧
      (∀ k j, k < (l.map (toDats OT)).length → j < 3 → Pc b (off + k * 3 + j) ∧ w.cell? ⟨b, off + k * 3 + j, none⟩ = some (c k j) ∧ (c k j).oneCell' = true) ∧
      (∀ (k j : Nat) (hk : k < (l.map (toDats OT)).length) (hj : j < ((l.map (toDats OT))[k]).length), DatRep Pc w (c k j) (((l.map (toDats OT))[k])[j])) := by
    generalize hL : l.map (toDats OT) = L at h
    cases h with
    | lst a n cap sz xs b off c hn hcap hmax hsz ha hc hr => exact ⟨a, n, cap, b, off, c, rfl, hn, hcap, hmax, hsz, ha, hc, hr⟩
  rw [List.length_map] at hn ha hc
  subst hn
  refine ⟨a, cap, rfl, hcap, hmax, fun hl => ⟨b, off, ha hl, hP _ _ (hc 0 0 hl (by omega)).1, fun k hk => ?_⟩⟩
  have key : ∀ j (hj : j < 3), w.cell? ⟨b, off + k * 3 + j, none⟩ = some (c k j) := fun j hj => (hc k j hk hj).2.1
  have rep : ∀ j (hj : j < 3), DatRep Pc w (c k j) ((toDats OT l[k])[j]'(by rw [toDats_len]; exact hj)) := fun j hj => by
    have := hr k j (by rw [List.length_map]; exact hk) (by rw [List.getElem_map, toDats_len]; exact hj)
    simpa only [List.getElem_map] using this
  refine ⟨(key 0 (by omega)).trans ?_, (key 1 (by omega)).trans ?_, (key 2 (by omega)).trans ?_⟩
  · have h0 := rep 0 (by omega)
    have : c k 0 = .bool l[k].1 := by generalize c k 0 = u at h0; cases h0 with | v x => rfl
    rw [this]
  · have h0 := rep 1 (by omega)
    have : c k 1 = .string (ba l[k].2.1) := by generalize c k 1 = u at h0; cases h0 with | v x => rfl
    rw [this]
  · have h0 := rep 2 (by omega)
    have : c k 2 = .string (ba l[k].2.2) := by generalize c k 2 = u at h0; cases h0 with | v x => rfl
    rw [this]
theorem own_datP {w : World} {B : Nat} {v : Value} {l : List FD} {Pc : Nat → Nat → Prop} (h : w.ownsRow B 43 2 v l.length (fcells l)) (hP : ∀ b o, B ≤ b → b < w.heap.size → Pc b o) : DatRep Pc w v (.lst 2 (l.map (toDats (.prod .str .str)))) := by
  rcases h.2 with ⟨rfl, h0⟩ | ⟨g, cap, cur, rfl, hb, hg, hn, hc, hs, ht⟩
  · have : l = [] := List.eq_nil_of_length_eq_zero h0
    subst this
    exact DatRep.lst none 0 0 2 [] 0 0 (fun _ _ => undef) rfl (Nat.le_refl _) (by unfold maxLen; omega) (fun x hx => by cases hx) (fun h => by cases h) (fun k j hk => by cases hk) (fun k j hk => by cases hk)
  · refine DatRep.lst (some ⟨g, 0, none⟩) l.length cap 2 _ g 0 (fun k j => (fcells l)[k * 2 + j]?.getD undef) (by simp) hn hc (fun x hx => by obtain ⟨f, _, rfl⟩ := List.mem_map.1 hx; rfl) (fun _ => rfl) (fun k j hk hj => ?_) (fun k j hk hj => ?_)
    · have hk' : k < l.length := by simpa using hk
      have hlt : k * 2 + j < (fcells l).length := by rw [fcells_len]; omega
      refine ⟨hP _ _ hb (heapLt hg), ?_, ?_⟩
      · rw [cell_of_row w g _ cur _ _ hg, List.getElem?_eq_getElem hlt]
        have : cur.toList[k * 2 + j]? = some (fcells l)[k * 2 + j] := by
          have e : (cur.toList.take (l.length * 2))[k * 2 + j]? = some (fcells l)[k * 2 + j] := by rw [ht, List.getElem?_eq_getElem hlt]
          rw [List.getElem?_take] at e
          split at e
          · exact e
          · cases e
        rw [Nat.zero_add]
        simpa using this
      · rw [List.getElem?_eq_getElem hlt]; exact fcells_one l _ (List.getElem_mem hlt)
    · have hk' : k < l.length := by simpa using hk
      have hg2 := fcells_get l k hk'
      simp only [List.getElem_map] at hj ⊢
      have hj2 : j < 2 := hj
      match j, hj2 with
      | 0, _ => rw [Nat.add_zero, hg2.1]; exact .v _
      | 1, _ => rw [hg2.2]; exact .v _
set_option maxHeartbeats 2000000 in
set_option maxRecDepth 1000000 in
theorem Clone_calls {Pc : Nat → Nat → Prop} (w : World) (v : Value) (l : List FD) (hl : l.length ≤ 1000000) (h : DatRep Pc w v (.lst 2 (l.map (toDats FT)))) :
    Calls Tryd.prog 39 #[v] w fun e w' => ∃ v', e = .returned v' ∧ w'.ownsRow w.heap.size 43 2 v' l.length (fcells l) ∧ Below w.heap.size w w' := by
  obtain ⟨i0, hi0, hz, hby, z, hzz, hzs, hzl⟩ := fileInfo
  obtain ⟨a, cap, rfl, hlc, hcm, hnil, hcell⟩ := dat_cells h
  cases a with
  | none =>
    have : l = [] := hnil rfl
    subst this
    have heq : ∀ w, (binOp .eql 22 (.slice none 0 cap) (.slice none 0 0)).run Tryd.prog w = .ok (.bool true) w := fun w => Lib.run_eql_slice_nil w _ _ _ _ _ _ _ Tryd.underlying22
    go_enter Tryd.func39, Tryd.ntmps39
    go_wp2
    go_ret
    exact ⟨_, rfl, World.ownsRow_nil _ _ _ _, Below.refl _ _⟩
  | some ad =>
    have heq : ∀ w, (binOp .eql 22 (.slice (some ad) l.length cap) (.slice none 0 0)).run Tryd.prog w = .ok (.bool false) w := fun w => Lib.run_eql_slice_nil w _ _ _ _ _ _ _ Tryd.underlying22
    have hnew : (w.alloc (.cells #[] 43)).ownsRow w.heap.size 43 2 (.slice (some ⟨w.heap.size, 0, none⟩) 0 0) 0 [] := ⟨rfl, .inr ⟨w.heap.size, 0, #[], rfl, Nat.le_refl _, heap_alloc_new w _, Nat.le_refl _, by unfold maxLen; omega, rfl, rfl⟩⟩
    have hcell2 : ∀ j u, (fcells l)[j]? = some u → (w.alloc (.cells #[] 43)).cell? (ad.add j) = some u := fun j u hu => Lib.cell?_alloc_some _ (hcell ad rfl j u hu)
    obtain ⟨v', w', hr, h2, h3, h4⟩ := run_append_own (P := Tryd.prog) (w.alloc (.cells #[] 43)) w.heap.size 22 22 43 i0 z 2 32 Tryd.underlying22 hi0 hzz hz hby hzs (by omega) _ 0 [] hnew ad l.length cap (fcells l) (fcells_len l) hcell2 (fcells_one l) (by unfold maxLen; omega) (by omega) (by simp)
    rw [Nat.zero_add, List.nil_append] at h2
    clear hnew hcell2 hcell h
    go_enter Tryd.func39, Tryd.ntmps39
    go_wp2_with (at_builtin; refine wpList_append_runI _ rfl _ _ 22 22 rfl _ _ rfl rfl hr ?_)
    go_ret
    exact ⟨_, rfl, h2, ((Below.refl w.heap.size w).alloc (Nat.le_refl _) _).grown h3 (by simp) (fun k hk => by simp [Value.ownBlock] at hk; omega)⟩
end YtaglhmoldbndkaaDoor.AM
end Go.Proofs

/- Layer 5: files.Apply. -/
namespace Go.Proofs
open Go.RowKit Go.Shelf Go.Lib
attribute [local go_sem] Oper.semAt_some
set_option linter.unusedVariables false
set_option linter.unusedSimpArgs false
namespace YtaglhmoldbndkaaDoor.AM
theorem may_one {Pc : Nat → Nat → Prop} (l : List FD) (v : Value) (w : World) (hI : Inv w) (hP : ∀ b o, Pc b o → b < w.heap.size) (h : DatRep Pc w v (.lst 2 (l.map (toDats FT)))) (hl : l.length ≤ 1000000) :
    Calls Tryd.prog 37 #[v] w fun e w' => e = .returned (.bool (mayS l)) ∧ Below w.heap.size w w' := by
  have hh := (fMay_ok 1000001 Inv know_inv).1.2 l _ (fMay_spec 1000001 l hl (by omega))
  refine (hh Pc w #[v] hI hP ⟨h, trivial⟩).mono ?_
  rintro e w' ⟨u, Pc', rfl, hb, _, _, hv⟩
  have hv' : u = .bool (mayS l) := of_val (σ := noSt) hv
  rw [hv']
  exact ⟨rfl, hb⟩
theorem appL_step (l : List FD) (o : OD) (t : List OD) : appL l (o :: t) = if (stepS l o).2 = 0 then appL (stepS l o).1 t else ([], (stepS l o).2) := rfl
set_option maxHeartbeats 4000000 in
set_option maxRecDepth 1000000 in
theorem Apply_calls {Pc : Nat → Nat → Prop} (w : World) (v1 v2 : Value) (l : List FD) (ops : List OD) (hI : Inv w) (hP : ∀ b o, Pc b o → b < w.heap.size) (hl : l.length ≤ 1000000) (ho : ops.length ≤ 1000000)
    (h1 : DatRep Pc w v1 (.lst 2 (l.map (toDats FT)))) (h2 : DatRep Pc w v2 (.lst 3 (ops.map (toDats OT)))) :
    Calls Tryd.prog 36 #[v1, v2] w fun e w' => Below w.heap.size w w' ∧ ∃ v', e = .returned (.tuple #[v', .int .i64 (appS l ops).2]) ∧ w'.ownsRow w.heap.size 43 2 v' (appS l ops).1.length (fcells (appS l ops).1) := by
  have hM := may_one l v1 w hI hP h1 hl
  obtain ⟨a2, cap2, rfl, hlc2, hcm2, hop⟩ := ops_cells hP h2
  have hcm2' : cap2 ≤ 9223372036854775807 := by unfold maxLen at hcm2; omega
  have H1 : Hid (DatRep Pc w v1 (.lst 2 (l.map (toDats FT)))) := hid h1
  have HOP := hid hop
  clear h2 h1 hop
  cases hm : mayS l with
  | false =>
    rw [hm] at hM
    go_enter Tryd.func36, Tryd.ntmps36
    go_wp2_with (go_at_call 37; refine hM.mono ?_)
    rintro e W1 ⟨rfl, hb1⟩
    go_wp2
    go_ret2
    refine ⟨hb1, .slice none 0 0, ?_, ?_⟩
    · unfold appS; rw [hm]; rfl
    · unfold appS; rw [hm]; exact World.ownsRow_nil _ _ _ _
  | true =>
    rw [hm] at hM
    obtain ⟨A, E, hAE⟩ : ∃ A E, appS l ops = (A, E) := ⟨_, _, rfl⟩
    rw [hAE]
    have HAE := hid hAE
    clear hAE
    simp only
    go_enter Tryd.func36, Tryd.ntmps36
    go_wp2_with (go_at_call 37; refine hM.mono ?_)
    rintro e W1 ⟨rfl, hb1⟩
    clear hM
    have h1' : DatRep Pc W1 v1 (.lst 2 (l.map (toDats FT))) := H1.out.mono (fun _ _ h => h) (fun b o hp => hb1.cell (p := ⟨b, o, none⟩) (hP b o hp))
    have hC := Clone_calls W1 v1 l hl h1'
    clear h1'
    go_wp2_with (go_at_call 39; refine hC.mono ?_)
    rintro e W2 ⟨v', rfl, hown, hb2⟩
    clear hC
    have hbl2 : Below w.heap.size w W2 := hb1.trans (hb2.mono hb1.size)
    have hown2 : W2.ownsRow w.heap.size 43 2 v' l.length (fcells l) := by
      refine ⟨hown.1, ?_⟩
      rcases hown.2 with h3 | ⟨g, cap, cur, h3, h4, h5, h6⟩
      · exact .inl h3
      · exact .inr ⟨g, cap, cur, h3, Nat.le_trans hb1.size h4, h5, h6⟩
    clear hown hb1 hb2
    have HO2 := hid hown2
    clear hown2
    obtain ⟨va, vn, vc, rfl⟩ : ∃ va n vc, v' = .slice va n vc := by
      rcases HO2.out.2 with ⟨rfl, h0⟩ | ⟨g, cap, cur, rfl, _⟩
      · exact ⟨_, _, _, rfl⟩
      · exact ⟨_, _, _, rfl⟩
    go_wp2_with fail
    go_loopw [6, 17] (fun v i wr => ∃ (k : Nat) (lk : List FD), k ≤ ops.length ∧ i = .int .i64 k ∧ (∃ a n c, v = .slice a n c) ∧ wr.ownsRow w.heap.size 43 2 v lk.length (fcells lk) ∧ mayS lk = true ∧ appL lk (ops.drop k) = appL l ops ∧ Below w.heap.size w wr) (fun _ i _ => ops.length - (RowKit.intOf i).toNat)
    case atStart => exact ⟨0, l, Nat.zero_le _, rfl, ⟨_, _, _, rfl⟩, HO2.out, hm, rfl, hbl2⟩
    case round =>
      obtain ⟨k, lk, hk, rfl, ⟨ka, kn, kc, rfl⟩, hown, hmk, happ, hbel⟩ := hrel
      have HO := hid hown; have HM := hid hmk; have HA := hid happ
      clear hown hmk happ
      have hIr := hI.below hbel
      by_cases hkl : k < ops.length
      · obtain ⟨b, off, rfl, hbw, hcs⟩ := HOP.out (by omega)
        obtain ⟨c0, c1, c2⟩ := hcs k hkl
        have d0 := (hbel.cell (p := ⟨b, off + k * 3, none⟩) hbw).trans c0
        have d1 := (hbel.cell (p := ⟨b, off + k * 3 + 1, none⟩) hbw).trans c1
        have d2 := (hbel.cell (p := ⟨b, off + k * 3 + 2, none⟩) hbw).trans c2
        clear hcs c0 c1 c2
        have hkk : (k : Int) < (ops.length : Int) := by omega
        have hdrop : Hid (ops.drop k = ops[k] :: ops.drop (k + 1)) := hid (List.drop_eq_getElem_cons hkl)
        generalize ops[k] = o at *
        go_wp2_with fail
        obtain ⟨m1, m2, m3⟩ := (may_iff lk).1 HM.out
        have hB3 := hbel.alloc (o := Obj.cells #[Value.bool o.1, Value.string (ba o.2.1), Value.string (ba o.2.2)] 41) hbel.size
        have hCh := change_calls (wr.alloc (Obj.cells #[Value.bool o.1, Value.string (ba o.2.1), Value.string (ba o.2.2)] 41)) w.heap.size _ lk o (hI.below hB3)
          (own_below HO.out ((Below.refl wr.heap.size wr).alloc (Nat.le_refl _) _)) hB3.size m3 m1
        refine hCh.mono ?_
        clear hCh
        rintro e W4 ⟨hb4, hres⟩
        have hbel4 := hB3.trans hb4
        rcases hres with ⟨hz, v', rfl, ho4⟩ | ⟨hz, v', rfl⟩
        · have HO4 := hid ho4
          have HM4 := hid (step_may HM.out hz)
          have HA4 : Hid (appL (stepS lk o).1 (ops.drop (k + 1)) = appL l ops) := hid (by have := HA.out; rw [hdrop.out, appL_step, if_pos hz] at this; exact this)
          obtain ⟨va', vn', vc', rfl⟩ : ∃ va n vc, v' = .slice va n vc := by
            rcases ho4.2 with ⟨rfl, h0⟩ | ⟨g, cap, cur, rfl, _⟩
            · exact ⟨_, _, _, rfl⟩
            · exact ⟨_, _, _, rfl⟩
          clear ho4 hz d0 d1 d2
          go_wp2_with fail
          go_roundw
          case rel => exact ⟨k + 1, (stepS lk o).1, by omega, by go_num, ⟨_, _, _, rfl⟩, HO4.out, HM4.out, HA4.out, hbel4⟩
          case measure => simp [RowKit.intOf]; omega
        · have hA5 : appS l ops = ([], (stepS lk o).2) := by
            unfold appS; rw [hm, ← HA.out, hdrop.out, appL_step, if_neg hz]; rfl
          rw [HAE.out] at hA5
          obtain ⟨hA6, hE6⟩ : A = [] ∧ E = (stepS lk o).2 := by simpa using hA5
          rw [← hE6] at hz ⊢
          subst hA6
          have hq : ¬ E = 0 := hz
          clear d0 d1 d2 hA5 hz hE6
          go_wp2_with fail
          go_ret2
          exact ⟨hbel4, .slice none 0 0, rfl, World.ownsRow_nil _ _ _ _⟩
      · have : k = ops.length := by omega
        subst this
        have hA5 : appS l ops = (lk, 0) := by
          unfold appS; rw [hm, ← HA.out, List.drop_length]; rfl
        rw [HAE.out] at hA5
        obtain ⟨rfl, rfl⟩ : A = lk ∧ E = 0 := by simpa using hA5
        clear hA5
        go_wp2_with fail
        go_ret2
        exact ⟨hbel, _, rfl, HO.out⟩
def fApply_t (l : List FD) (ops : List OD) : Option (List FD × Int) := if l.length ≤ 1000000 ∧ ops.length ≤ 1000000 then some (appS l ops) else none
def fApply_fc : FC := { f := 36, args := [.one (.c (.d (.lst FT))), .one (.c (.d (.lst OT)))], res := .tup [.c (.d (.lst FT)), .c (.d (.int .i64))], F := fun p => fApply_t p.1 p.2 }
theorem fApply_ok : FCall Inv Tryd.prog fApply_fc := fun G hG => ⟨⟨by kernel_rfl, fun a r h => by
  obtain ⟨l, ops⟩ := a
  have h' : fApply_t l ops = some r := h
  unfold fApply_t at h'
  split at h'
  case isFalse => cases h'
  rename_i hc
  have hr : appS l ops = r := Option.some.inj h'
  intro Pc w vs hg hlt hv
  obtain ⟨vl⟩ := vs
  match vl, hv with
  | [x, y], ⟨h1, h2, _⟩ =>
    refine (Apply_calls w x y l ops (hG.im w hg) hlt hc.1 hc.2 h1 h2).mono ?_
    rintro e w' ⟨hb, v', rfl, hown⟩
    rw [hr] at hown ⊢
    refine ⟨_, fun b o => Pc b o ∨ (w.heap.size ≤ b ∧ b < w'.heap.size), rfl, hb, fun b o hp => Or.inl hp, fun b o hp => hp, #[v', .int .i64 r.2], rfl, own_datP hown (fun b o h1 h2 => Or.inr ⟨h1, h2⟩), drep_val (σ := noSt) (.int .i64 r.2), trivial⟩⟩, rfl⟩
end YtaglhmoldbndkaaDoor.AM
end Go.Proofs

/- Layer 5: files.Encode. -/
namespace Go.Proofs
open Go.RowKit Go.Shelf Go.Lib
attribute [local go_sem] Oper.semAt_some
set_option linter.unusedVariables false
set_option linter.unusedSimpArgs false
namespace YtaglhmoldbndkaaDoor.AM
/-- as the program goes on -/
def encP : List OD → List UInt8 → List UInt8 × Int
  | [], s => (s, 0)
  | o :: t, s => if chkS o = 0 then encP t (if s.length ≤ 4096 then s ++ layS o else s) else ([], chkS o)
theorem encP_snd : ∀ (t : List OD) (s : List UInt8), (encP t s).2 = (encL t).2
  | [], s => rfl
  | o :: t, s => by
    rw [encP, encL]
    by_cases hc : chkS o = 0
    · rw [if_pos hc, if_pos hc, encP_snd t]
      by_cases h2 : (encL t).2 = 0
      · rw [if_pos h2, h2]
      · rw [if_neg h2]
    · rw [if_neg hc, if_neg hc]
theorem encP_fst : ∀ (t : List OD) (s : List UInt8), (encL t).2 = 0 → (4096 < s.length → (encP t s).1 = s) ∧ (s.length ≤ 4096 → if (s ++ (encL t).1).length ≤ 4096 then (encP t s).1 = s ++ (encL t).1 else 4096 < (encP t s).1.length)
  | [], s, _ => ⟨fun _ => rfl, fun h => by
      have e : s ++ (encL []).1 = s := List.append_nil s
      rw [e, if_pos h]; rfl⟩
  | o :: t, s, h => by
    rw [encL] at h ⊢
    by_cases hc : chkS o = 0
    · rw [if_pos hc] at h ⊢
      by_cases h2 : (encL t).2 = 0
      · rw [if_pos h2] at h ⊢
        rw [encP, if_pos hc]
        refine ⟨fun hs => ?_, fun hs => ?_⟩
        · rw [if_neg (by omega)]; exact (encP_fst t s h2).1 hs
        · rw [if_pos hs]
          have ih := encP_fst t (s ++ layS o) h2
          show if (s ++ (layS o ++ (encL t).1)).length ≤ 4096 then (encP t (s ++ layS o)).1 = s ++ (layS o ++ (encL t).1) else _
          rw [← List.append_assoc]
          by_cases h3 : (s ++ layS o).length ≤ 4096
          · exact ih.2 h3
          · rw [if_neg (by rw [List.length_append]; omega), ih.1 (by omega)]; omega
      · rw [if_neg h2] at h; exact absurd h h2
    · rw [if_neg hc] at h; exact absurd h hc
theorem enc_same (ops : List OD) : encS ops = if (encP ops []).2 = 0 then (if 4096 < (encP ops []).1.length then ([], 2) else ((encP ops []).1, 0)) else ([], (encP ops []).2) := by
  unfold encS
  rw [encP_snd]
  by_cases h : (encL ops).2 = 0
  · rw [if_pos h, if_pos h]
    have := (encP_fst ops [] h).2 (by simp)
    rw [List.nil_append] at this
    by_cases h2 : (encL ops).1.length ≤ 4096
    · rw [if_pos h2] at this
      rw [this]
    · rw [if_neg h2] at this
      rw [if_pos (by omega), if_pos this]
  · rw [if_neg h, if_neg h]
def opV (o : OD) : Value := .agg #[.bool o.1, .string (ba o.2.1), .string (ba o.2.2)]
theorem opV_rep {Pc : Nat → Nat → Prop} {w : World} (o : OD) : DRep (noEnv Pc) noSt w (opV o) (.one (.agg [.d (.v (.bool o.1)), .d (.v (.string (ba o.2.1))), .d (.v (.string (ba o.2.2)))])) :=
  ⟨_, rfl, drep_val (σ := noSt) (.bool o.1), drep_val (σ := noSt) (.string (ba o.2.1)), drep_val (σ := noSt) (.string (ba o.2.2)), trivial⟩
theorem check_one (o : OD) (w : World) (hI : Inv w) : Calls Tryd.prog 47 #[.agg #[.bool o.1, .string (ba o.2.1), .string (ba o.2.2)]] w fun e w' => e = .returned (.int .i64 (chkS o)) ∧ Below w.heap.size w w' := by
  have hh := (fCheck_ok 1000001 Inv know_inv).1.2 o _ (fCheck_spec 1000001 o)
  refine (hh (fun _ _ => False) w #[opV o] hI (fun b o h => h.elim) ⟨opV_rep o, trivial⟩).mono ?_
  rintro e w' ⟨u, Pc', rfl, hb, _, _, hv⟩
  have hv' : u = .int .i64 (chkS o) := of_val (σ := noSt) hv
  rw [hv']
  exact ⟨rfl, hb⟩
theorem lay_one (o : OD) (w : World) (hI : Inv w) (h1 : o.2.1.length ≤ 1000000) (h2 : o.2.2.length ≤ 1000000) : Calls Tryd.prog 50 #[.agg #[.bool o.1, .string (ba o.2.1), .string (ba o.2.2)]] w fun e w' => e = .returned (.string (ba (layS o))) ∧ Below w.heap.size w w' := by
  have hh := (fLay_ok 1000001 Inv know_inv).1.2 o _ (fLay_spec 1000001 o h1 h2)
  refine (hh (fun _ _ => False) w #[opV o] hI (fun b o h => h.elim) ⟨opV_rep o, trivial⟩).mono ?_
  rintro e w' ⟨u, Pc', rfl, hb, _, _, hv⟩
  have hv' : u = .string (ba (layS o)) := of_val (σ := noSt) hv
  rw [hv']
  exact ⟨rfl, hb⟩
theorem write_one (B b : Nat) (l s : List UInt8) (w : World) (h : Lib.IsBuilder 64 5 B b (Lib.byteCells l) w) (hlen : l.length + s.length ≤ 140737488355328) (hBw : B ≤ w.heap.size) :
    Calls Tryd.prog 49 #[.pointer (some ⟨b, 0, none⟩), .string (ba s)] w fun e w' => e = .returned (.tuple #[.int .i64 (ba s).size, .nilIface]) ∧ Lib.IsBuilder 64 5 B b (Lib.byteCells (l ++ s)) w' ∧ Below B w w' := by
  refine Calls.mono (Any.Builder_WriteString (ρ := laysWs_ren) { laysWs with } extraWs B b (Lib.byteCells l) (ba s) w h (by rw [Lib.byteCells_length, ba_len]; exact hlen) hBw) ?_
  rintro e w' ⟨he, h1, h2⟩
  refine ⟨he, .inr ?_, h2⟩
  have e1 : (ba s).data.toList = s := by simp [ba]
  have e2 : Lib.byteCells s = Lib.strCells (ba s) := by rw [Lib.strCells_eq, e1]
  rw [Lib.byteCells_append, e2]
  exact h1
theorem lay_len (o : OD) : (layS o).length ≤ o.2.1.length + o.2.2.length + 4 := by
  unfold layS; cases o.1 <;> simp <;> omega
theorem builder_below {T e B b : Nat} {bs : List Value} {w w' : World} (h : Lib.IsBuilder T e B b bs w) (hb : Below w.heap.size w w') : Lib.IsBuilder T e B b bs w' := by
  have key : ∀ p, Lib.BuilderAt T e B b p bs w → Lib.BuilderAt T e B b p bs w' := fun p ⟨h1, v, h2, h3, h4⟩ => ⟨h1, v, (hb.block b (heapLt h2)).trans h2, by
    refine ⟨h3.1, ?_⟩
    rcases h3.2 with h5 | ⟨g, cap, cur, h5, h6, h7, h8⟩
    · exact .inl h5
    · exact .inr ⟨g, cap, cur, h5, h6, (hb.block g (heapLt h7)).trans h7, h8⟩, h4⟩
  rcases h with h | h
  · exact .inl (key _ h)
  · exact .inr (key _ h)
set_option maxHeartbeats 4000000 in
set_option maxRecDepth 1000000 in
theorem Encode_calls {Pc : Nat → Nat → Prop} (w : World) (v : Value) (ops : List OD) (hI : Inv w) (hP : ∀ b o, Pc b o → b < w.heap.size) (ho : ∀ o ∈ ops, o.2.1.length ≤ 1000000 ∧ o.2.2.length ≤ 1000000)
    (h2 : DatRep Pc w v (.lst 3 (ops.map (toDats OT)))) :
    Calls Tryd.prog 29 #[v] w fun e w' => e = .returned (.tuple #[.string (ba (encS ops).1), .int .i64 (encS ops).2]) ∧ Below w.heap.size w w' := by
  obtain ⟨a2, cap2, rfl, hlc2, hcm2, hop⟩ := ops_cells hP h2
  have hcm2' : cap2 ≤ 9223372036854775807 := by unfold maxLen at hcm2; omega
  have HOP := hid hop
  have HO := hid ho
  clear h2 hop ho
  obtain ⟨A, E, hAE⟩ : ∃ A E, encS ops = (A, E) := ⟨_, _, rfl⟩
  rw [hAE]
  have HAE := hid hAE
  clear hAE
  simp only
  go_enter Tryd.func29, Tryd.ntmps29
  go_wp2_with fail
  have hnew := Go.Lib.fresh_isBuilder 64 5 w
  go_loopw [10] (fun i wr => ∃ (k : Nat) (s : List UInt8), k ≤ ops.length ∧ i = .int .i64 k ∧ Lib.IsBuilder 64 5 w.heap.size w.heap.size (Lib.byteCells s) wr ∧ s.length ≤ 2004100 ∧ encP (ops.drop k) s = encP ops [] ∧ Below w.heap.size w wr) (fun i _ => ops.length - (RowKit.intOf i).toNat)
  case atStart => exact ⟨0, [], Nat.zero_le _, rfl, hnew, by simp, rfl, (Below.refl _ _).alloc (Nat.le_refl _) _⟩
  case round =>
    obtain ⟨k, s, hk, rfl, hbld, hsl, henc, hbel⟩ := hrel
    have HB := hid hbld; have HE := hid henc
    clear hbld henc hnew
    have hIr := hI.below hbel
    have hslc : (Lib.byteCells s).length = s.length := Lib.byteCells_length s
    by_cases hkl : k < ops.length
    · obtain ⟨b, off, rfl, hbw, hcs⟩ := HOP.out (by omega)
      obtain ⟨c0, c1, c2⟩ := hcs k hkl
      have d0 := (hbel.cell (p := ⟨b, off + k * 3, none⟩) hbw).trans c0
      have d1 := (hbel.cell (p := ⟨b, off + k * 3 + 1, none⟩) hbw).trans c1
      have d2 := (hbel.cell (p := ⟨b, off + k * 3 + 2, none⟩) hbw).trans c2
      clear hcs c0 c1 c2
      have hkk : (k : Int) < (ops.length : Int) := by omega
      have hdrop : Hid (ops.drop k = ops[k] :: ops.drop (k + 1)) := hid (List.drop_eq_getElem_cons hkl)
      obtain ⟨ho1, ho2⟩ := HO.out _ (List.getElem_mem hkl)
      generalize ops[k] = o at *
      have hB1 : Below wr.heap.size wr (wr.alloc (Obj.cells #[Value.bool o.1, Value.string (ba o.2.1), Value.string (ba o.2.2)] 41)) := (Below.refl _ _).alloc (Nat.le_refl _) _
      have hB2 := hbel.trans (hB1.mono hbel.size)
      have hkey := heap_alloc_new wr (Obj.cells #[Value.bool o.1, Value.string (ba o.2.1), Value.string (ba o.2.2)] 41)
      have hc := check_one o _ (hI.below hB2)
      have HBa := hid (builder_below HB.out hB1)
      go_wp2_with fail
      refine hc.mono ?_
      rintro e W1 ⟨rfl, hb1⟩
      clear hc
      have hB3 := hB2.trans (hb1.mono hB2.size)
      have HBb := hid (builder_below HBa.out hb1)
      have hkey1 := (hb1.block _ (heapLt hkey)).trans hkey
      have x0 : W1.cell? ⟨wr.heap.size, 0, none⟩ = some (.bool o.1) := by rw [cell_of_row W1 _ _ _ _ _ hkey1]; rfl
      have x1 : W1.cell? ⟨wr.heap.size, 1, none⟩ = some (.string (ba o.2.1)) := by rw [cell_of_row W1 _ _ _ _ _ hkey1]; rfl
      have x2 : W1.cell? ⟨wr.heap.size, 2, none⟩ = some (.string (ba o.2.2)) := by rw [cell_of_row W1 _ _ _ _ _ hkey1]; rfl
      clear d0 d1 d2 hkey hkey1 hB1 hB2
      by_cases hz : chkS o = 0
      · have hlen := Tryd.Builder_Len w.heap.size w.heap.size _ W1 HBb.out
        rw [hslc] at hlen
        rw [hz]
        have HE2 : Hid (encP (ops.drop (k + 1)) (if s.length ≤ 4096 then s ++ layS o else s) = encP ops []) := hid (by have := HE.out; rw [hdrop.out, encP, if_pos hz] at this; exact this)
        go_wp2_with (go_at_call 48; refine hlen.mono ?_)
        rintro e W2 ⟨rfl, rfl⟩
        clear hlen
        by_cases h4 : s.length ≤ 4096
        · have HE3 := HE2.out
          rw [if_pos h4] at HE3
          have HE4 := hid HE3
          clear HE3 HE2
          have hly := lay_one o W2 (hI.below hB3) ho1 ho2
          have h4' : (s.length : Int) ≤ 4096 := by omega
          go_wp2_with (go_at_call 50; refine hly.mono ?_)
          rintro e W3 ⟨rfl, hb3⟩
          clear hly x0 x1 x2
          have hB4 := hB3.trans (hb3.mono hB3.size)
          have hll := lay_len o
          have hwr := write_one w.heap.size w.heap.size s (layS o) W3 (builder_below HBb.out hb3) (by omega) hB4.size
          go_wp2_with fail
          refine hwr.mono ?_
          rintro e W4 ⟨rfl, hbld4, hb4⟩
          have HB4 := hid hbld4
          clear hwr hbld4
          have hB5 := hB4.trans hb4
          go_wp2_with fail
          go_roundw
          case rel => exact ⟨k + 1, s ++ layS o, by omega, by go_num, HB4.out, by rw [List.length_append]; omega, HE4.out, hB5⟩
          case measure => simp [RowKit.intOf]; omega
        · have HE3 := HE2.out
          rw [if_neg h4] at HE3
          have HE4 := hid HE3
          clear HE3 HE2 x0 x1 x2
          have h4' : ¬ (s.length : Int) ≤ 4096 := by omega
          go_wp2_with fail
          go_roundw
          case rel => exact ⟨k + 1, s, by omega, by go_num, HBb.out, hsl, HE4.out, hB3⟩
          case measure => simp [RowKit.intOf]; omega
      · have hA5 : encS ops = ([], chkS o) := by
          rw [enc_same, ← HE.out, hdrop.out, encP, if_neg hz]; simp [hz]
        rw [HAE.out] at hA5
        obtain ⟨hA6, hE6⟩ : A = [] ∧ E = chkS o := by simpa using hA5
        rw [← hE6] at hz ⊢
        subst hA6
        have hq : ¬ E = 0 := hz
        clear hA5 hz hE6 x0 x1 x2
        go_wp2_with fail
        go_ret2
        exact ⟨rfl, hB3⟩
    · have : k = ops.length := by omega
      subst this
      have hA5 : encS ops = if 4096 < s.length then ([], 2) else (s, 0) := by
        have := HE.out
        rw [List.drop_length] at this
        rw [enc_same, ← this]; rfl
      rw [HAE.out] at hA5
      have hlen := Tryd.Builder_Len w.heap.size w.heap.size _ wr HB.out
      rw [hslc] at hlen
      go_wp2_with (go_at_call 48; refine hlen.mono ?_)
      rintro e W2 ⟨rfl, rfl⟩
      clear hlen
      by_cases h4 : 4096 < s.length
      · rw [if_pos h4] at hA5
        obtain ⟨hA6, hE6⟩ : A = [] ∧ E = 2 := by simpa using hA5
        subst hA6 hE6
        have h4' : (4096 : Int) < (s.length : Int) := by omega
        clear hA5
        go_wp2_with fail
        go_ret2
        exact ⟨rfl, hbel⟩
      · rw [if_neg h4] at hA5
        obtain ⟨hA6, hE6⟩ : A = s ∧ E = 0 := by simpa using hA5
        subst hA6 hE6
        have h4' : ¬ (4096 : Int) < (A.length : Int) := by omega
        clear hA5
        have hst := Tryd.Builder_String_any w.heap.size w.heap.size A W2 HB.out hbel.size
        go_wp2_with (go_at_call 51; refine hst.mono ?_)
        rintro e W3 ⟨rfl, hb3⟩
        clear hst
        go_wp2
        go_ret2
        exact ⟨rfl, hbel.trans hb3⟩
end YtaglhmoldbndkaaDoor.AM
end Go.Proofs

/- Layer 5: files.Decode: a range over the program's own function files.laid. -/
namespace Go.Proofs
open Go.RowKit Go.Shelf Go.Lib
attribute [local go_sem] Oper.semAt_some
set_option linter.unusedVariables false
set_option linter.unusedSimpArgs false
namespace YtaglhmoldbndkaaDoor.AM
theorem first_one (r : List UInt8) (w : World) (hI : Inv w) (hr : r.length ≤ 1000000) : Calls Tryd.prog 64 #[.string (ba r)] w fun e w' => e = .returned (.tuple #[opV (firstR r).1, .int .i64 (firstR r).2.1, .bool (firstR r).2.2]) ∧ Below w.heap.size w w' := by
  have hh := (fFirst_ok 1000001 Inv know_inv).1.2 r _ (fFirst_spec 1000001 r hr)
  refine (hh (fun _ _ => False) w #[.string (ba r)] hI (fun b o h => h.elim) ⟨drep_val _, trivial⟩).mono ?_
  rintro e w' ⟨u, Pc', rfl, hb, _, _, hv⟩
  obtain ⟨us, rfl, hd⟩ := hv
  obtain ⟨us⟩ := us
  match us, hd with
  | [a, b, c], ⟨h1, h2, h3, _⟩ =>
    obtain rfl : b = .int .i64 (firstR r).2.1 := of_val (σ := noSt) h2
    obtain rfl : c = .bool (firstR r).2.2 := of_val (σ := noSt) h3
    obtain ⟨vs, rfl, h4⟩ := h1
    obtain ⟨vs⟩ := vs
    match vs, h4 with
    | [x, y, z], ⟨k1, k2, k3, _⟩ =>
      obtain rfl : x = .bool (firstR r).1.1 := of_val (σ := noSt) k1
      obtain rfl : y = .string (ba (firstR r).1.2.1) := of_val (σ := noSt) k2
      obtain rfl : z = .string (ba (firstR r).1.2.2) := of_val (σ := noSt) k3
      exact ⟨rfl, hb⟩
theorem laid_calls (s : List UInt8) (w : World) : Calls Tryd.prog 53 #[.string (ba s)] w fun e w' => e = .returned (.func (.func 63) #[] #[.pointer (some ⟨w.heap.size, 0, none⟩)]) ∧ w' = w.alloc (.cells #[.string (ba s)] 9) := by
  go_enter Tryd.func53, Tryd.ntmps53
  go_wp2
  go_ret
  exact ⟨rfl, rfl⟩
theorem firstR_ok {r : List UInt8} (h : (firstR r).2.2 = true) : ∃ k : Nat, (firstR r).2.1 = (k : Int) ∧ 2 ≤ k ∧ k ≤ r.length ∧ oneS r = some ((firstR r).1, k) := by
  unfold firstR at h ⊢
  split at h
  · rename_i o k ho
    obtain ⟨_, h2, h3⟩ := one_lay ho
    exact ⟨k, by simp [ho], h2, h3, by simp [ho]⟩
  · cases h
set_option maxHeartbeats 2000000 in
theorem laid_in (n l : Nat) (hn : 2 ≤ n) (pS : Nat) (s : List UInt8) (hs : s.length ≤ 1000000) (J : List OD × List UInt8 → World → Prop) (Jx : World → Prop)
    (hJb : ∀ q W W', J q W → Below W.heap.size W W' → J q W') (hJi : ∀ q W, J q W → Inv W)
    (hY : ∀ acc r W, r ≠ [] → r.length ≤ s.length → J (acc, r) W → YieldAt Fence.wide (n - 1) Tryd.prog l #[opV (firstR r).1, .bool (firstR r).2.2] W fun e W' =>
      (e = .returned (.bool true) ∧ (firstR r).2.2 = true ∧ J (acc ++ [(firstR r).1], r.drop (firstR r).2.1.toNat) W') ∨ (e = .returned (.bool false) ∧ Jx W'))
    (W : World) (hS : W.cell? ⟨pS, 0, none⟩ = some (.string (ba s))) (h0 : J ([], s) W) :
    CallsIn Fence.wide n Tryd.prog 63 #[.func (.yield l) #[] #[], .pointer (some ⟨pS, 0, none⟩)] W fun e W' => (∃ v, e = .returned v) ∧ ((∃ acc, J (acc, []) W') ∨ Jx W') := by
  refine callsIn_of_wp Tryd.func63 rfl trivial ?_ rfl
  simp only [Tryd.ntmps63, List.size_toArray, List.length_cons, List.length_nil, Nat.reduceAdd, Nat.reduceSub, Array.replicate_succ, Array.replicate_zero, List.push_toArray, List.append_toArray, List.nil_append, List.cons_append]
  gi_wp2
  gi_loopw [3] (fun v wr => ∃ (acc : List OD) (r : List UInt8), v = .string (ba r) ∧ r.length ≤ s.length ∧ J (acc, r) wr) (fun v wr => match v with | .string b => b.size | _ => 0)
  case atStart => exact ⟨[], s, rfl, Nat.le_refl _, h0⟩
  case round =>
    obtain ⟨acc, r, rfl, hrl, hJr⟩ := hrel
    have hbr : (ba r).size = r.length := ba_len r
    by_cases hr0 : r = []
    · subst hr0
      have he : (ba []).toList.isEmpty = true := by rw [ba_toList]; rfl
      gi_wp2
      go_end0
      exact ⟨⟨_, rfl⟩, .inl ⟨acc, hJr⟩⟩
    · have he : (ba r).toList.isEmpty = false := by rw [ba_toList]; cases r with | nil => exact absurd rfl hr0 | cons x r => rfl
      have hf := first_one r wr (hJi _ _ hJr) (by omega)
      have hyy := hY acc r
      have hfo := firstR_ok (r := r)
      obtain ⟨o, k, ok, hfr⟩ : ∃ o k ok, firstR r = (o, (k, ok)) := ⟨_, _, _, rfl⟩
      rw [hfr] at hf hyy hfo
      unfold opV at hf hyy
      simp only at hf hyy hfo
      clear hfr hY
      gi_wp2_with (refine ⟨trivial, fun h => (by cases h), ?_⟩; gi_at_call 64; refine (callsIn_wide.2 hf).mono ?_; rintro e W1 ⟨rfl, hb1⟩; have hlt1 := hb1.size; have hb2 := hb1.alloc hb1.size (Obj.cells #[Value.bool o.1, Value.string (ba o.2.1), Value.string (ba o.2.2)] 41); obtain ⟨fn, tmps, assign, body, hy, hR⟩ := hyy _ hr0 hrl (hJb _ _ _ hJr hb2))
      refine ⟨fun h => (by cases h), hR.mono ?_⟩
      rintro e W' (⟨rfl, hok, hJ3⟩ | ⟨rfl, hJx⟩)
      · obtain ⟨kk, hkk, k2, k3, _⟩ := hfo hok
        subst hok
        subst hkk
        have hkr : (kk : Int) ≤ (r.length : Int) := by omega
        have hk0 : (0 : Int) ≤ (kk : Int) := by omega
        have x2 : (ba r).extract kk r.length = ba (r.drop kk) := by
          rw [ba_extract, List.take_of_length_le (by rw [List.length_drop]; exact Nat.le_refl _)]
        clear hf hyy hfo hb2 hR hy
        gi_wp2
        refine ⟨⟨acc ++ [o], r.drop kk, rfl, by rw [List.length_drop]; omega, hJ3⟩, ?_⟩
        show (ba (r.drop kk)).size < (ba r).size
        rw [ba_len, ba_len, List.length_drop]; omega
      · clear hf hyy hfo hb2 hR hy
        gi_wp2
        refine bodyPost_ret (results_none rfl _ _ _) rfl ?_
        exact ⟨⟨_, rfl⟩, .inr hJx⟩
def partPostL (I : List OD × List UInt8 → World → Prop) (Ix : Unit → World → Prop) (ok : Bool) (q : List OD × List UInt8) (W : World) : Exit → Act → World → Prop
  | .normal, _, W' => KeepsOthers W W' ∧ ok = true ∧ I q W'
  | .ret, _, W' => KeepsOthers W W' ∧ Ix () W'
  | _, _, _ => False
def opO (o : OD) : Obj := .cells #[.bool o.1, .string (ba o.2.1), .string (ba o.2.2)] 41
theorem enters_laid : ∀ args w, (callFunc 63 args).run Tryd.prog w = .ok (.enter 63 args) w := enters_of Tryd.func63 (by kernel_rfl) rfl
/-- **A range over the ops that lie in some bytes.** -/
theorem range_laid {n : Nat} (hn : 4 ≤ n) {g : Operand} {p p' : Tmp} {assign body : Code} {Q : Exit → Act → World → Prop} {a : Act} {w : World} (pS : Nat) (s : List UInt8) (hs : s.length ≤ 1000000)
    (hg : a.eval g = .func (.func 63) #[] #[.pointer (some ⟨pS, 0, none⟩)]) (hS : w.cell? ⟨pS, 0, none⟩ = some (.string (ba s)))
    (I : List OD × List UInt8 → World → Prop) (Ix : Unit → World → Prop) (hI : OwnFrom w.heap.size I) (hIx : OwnFrom w.heap.size Ix) (hIb : ∀ q W W', I q W → Below W.heap.size W W' → I q W') (hIi : ∀ q W, I q W → Inv W) (h0 : I ([], s) w)
    (a₁ : Nat → OD → Bool → Act)
    (hassign : ∀ (l : Nat) (o : OD) (ok : Bool) (W : World) (K : Act → World → Prop), K (a₁ W.heap.size o ok) (W.alloc (opO o)) →
      assign.wpIn (Fence.wide.inRound l) (n - 1 - 1) Tryd.prog (Exit.then K (fun _ _ _ => False)) { tmps := (a.tmps.setIfInBounds p (opV o)).setIfInBounds p' (.bool ok), defers := [] } W)
    (hbody : ∀ (l : Nat) (acc : List OD) (r : List UInt8) (W : World) (b : Nat), r ≠ [] → r.length ≤ s.length → I (acc, r) W → W.heap[b]? = some (opO (firstR r).1) → body.wpIn (Fence.wide.inRound l) (n - 1 - 1) Tryd.prog (partPostL I Ix (firstR r).2.2 (acc ++ [(firstR r).1], r.drop (firstR r).2.1.toNat) W) (a₁ b (firstR r).1 (firstR r).2.2) W)
    (hdone : ∀ (D : Nat) (acc : List OD) (W : World), w.heap.size ≤ D → I (acc, []) W → W.heap[D]? = some (.deferred (some [])) → Q .normal { a with defers := { target := .collected D, args := #[] } :: a.defers } W)
    (hstop : ∀ (D : Nat) (W : World), w.heap.size ≤ D → Ix () W → W.heap[D]? = some (.deferred (some [])) → Q .ret { a with defers := { target := .collected D, args := #[] } :: a.defers } W) :
    (Code.rangeFunc g #[p, p'] assign body).wpIn Fence.wide n Tryd.prog Q a w := by
  refine wpIn_rangeFunc fun fn hfn => ?_
  generalize hrec : (fun st pe => ({ state := st, pending := pe, fn, tmps := a.tmps, params := #[p, p'], assign, body, defers := w.heap.size } : Loop)) = rec
  have hr1 : ∀ st pe, rec st pe = { state := st, pending := pe, fn, tmps := a.tmps, params := #[p, p'], assign, body, defers := w.heap.size } := fun st pe => by rw [← hrec]
  generalize hW1 : (w.alloc (.deferred (some []))).alloc (.loop (rec .ready none)) = W1
  have hk1 : W1.heap[w.heap.size]? = some (.deferred (some [])) := by
    rw [← hW1]; exact (Below.heap_alloc _ _ _ (by simp)).trans (World.alloc_heap_new w _)
  have hl1 : W1.heap[w.heap.size + 1]? = some (.loop (rec .ready none)) := by
    have := World.alloc_heap_new (w.alloc (.deferred (some []))) (.loop (rec .ready none))
    rw [World.size_alloc] at this
    rw [← hW1]; exact this
  have hi1 : I ([], s) W1 := by rw [← hW1]; exact hI.alloc _ (hI.alloc _ h0)
  have hS1 : W1.cell? ⟨pS, 0, none⟩ = some (.string (ba s)) := by
    rw [← hW1]
    exact below_cell (((Below.refl w.heap.size w).alloc (Nat.le_refl _) _).alloc (by simp) _) hS
  refine ⟨w.heap.size + 1, [{ target := .collected w.heap.size, args := #[] }], W1, { target := .fn (.func 63) #[.pointer (some ⟨pS, 0, none⟩)], args := #[.func (.yield (w.heap.size + 1)) #[] #[]] }, W1, 63,
    #[.func (.yield (w.heap.size + 1)) #[] #[], .pointer (some ⟨pS, 0, none⟩)], W1, ?_, ?_, fun _ _ => trivial, ?_, (fun h => by cases h), ?_⟩
  · rw [← hW1, hr1]; exact run_enterLoop_outer _ _ _ _ _
  · simp only [resolve, hg]
    simp [go_sem]
  · have eg := enters_laid
    simp [invoke, go_sem, eg]
  · refine (laid_in (n - 1) (w.heap.size + 1) (by omega) pS s hs
      (fun q W => I q W ∧ W.heap[w.heap.size + 1]? = some (.loop (rec .ready none)) ∧ W.heap[w.heap.size]? = some (.deferred (some [])))
      (fun W => Ix () W ∧ W.heap[w.heap.size + 1]? = some (.loop (rec .done (some .ret))) ∧ W.heap[w.heap.size]? = some (.deferred (some [])))
      (fun q W W' h hb => ⟨hIb q W W' h.1 hb, (hb.block _ (heapLt h.2.1)).trans h.2.1, (hb.block _ (heapLt h.2.2)).trans h.2.2⟩) (fun q W h => hIi q W h.1) ?_ W1 hS1 ⟨hi1, hl1, hk1⟩).mono ?_
    · rintro acc r W hr0 hrl ⟨hi, hl, hk⟩
      have hy := run_yield (P := Tryd.prog) (args := #[opV (firstR r).1, .bool (firstR r).2.2]) hl (by rw [hr1]; rfl)
      rw [hr1] at hy
      have hz : (Array.zip #[p, p'] #[opV (firstR r).1, Value.bool (firstR r).2.2]).foldl (fun tmps (t, a) => tmps.setIfInBounds t a) a.tmps = (a.tmps.setIfInBounds p (opV (firstR r).1)).setIfInBounds p' (.bool (firstR r).2.2) := by simp
      dsimp only at hy
      rw [hz] at hy
      have hbA : Below W.heap.size W (W.alloc (opO (firstR r).1)) := (Below.refl _ _).alloc (Nat.le_refl _) _
      have hlA := (hbA.block _ (heapLt hl)).trans hl
      have hkA := (hbA.block _ (heapLt hk)).trans hk
      have hiA := hIb _ _ _ hi hbA
      have hoA : (W.alloc (opO (firstR r).1)).heap[W.heap.size]? = some (opO (firstR r).1) := World.alloc_heap_new W _
      have hneA : W.heap.size ≠ w.heap.size + 1 := fun e => by have := heapLt hl; omega
      refine ⟨fn, _, assign, body, hy, roundIn_of_wpIn hfn (hassign _ (firstR r).1 (firstR r).2.2 W _ ?_)⟩
      generalize W.alloc (opO (firstR r).1) = WA at hlA hkA hiA hoA
      refine ⟨_, run_beginRound hlA (by rw [hr1]), ?_⟩
      have hlt : w.heap.size + 1 < WA.heap.size := heapLt hlA
      generalize hW2 : WA.putObj (w.heap.size + 1) (.loop { rec .ready none with state := .busy }) = W2
      have hl2 : W2.heap[w.heap.size + 1]? = some (.loop { rec .ready none with state := .busy }) := by rw [← hW2]; exact World.putObj_heap_same hlt
      have hk2 : W2.heap[w.heap.size]? = some (.deferred (some [])) := by rw [← hW2]; exact (World.putObj_heap_other (by omega)).trans hkA
      have ho2 : W2.heap[W.heap.size]? = some (opO (firstR r).1) := by rw [← hW2]; exact (World.putObj_heap_other hneA).trans hoA
      have hi2 : I (acc, r) W2 := by rw [← hW2]; exact hI.putObj _ hiA (by omega) hlA rfl
      have fin : ∀ (jump : Option Code) (W3 : World), KeepsOthers W2 W3 → (Instr.endRound (w.heap.size + 1) jump).run Tryd.prog W3 = .ok (.bool jump.isNone) (W3.putObj (w.heap.size + 1) (.loop (rec (if jump.isNone then .ready else .done) jump))) ∧
          W3.heap[w.heap.size + 1]? = some (.loop { rec .ready none with state := .busy }) ∧
          (W3.putObj (w.heap.size + 1) (.loop (rec (if jump.isNone then .ready else .done) jump))).heap[w.heap.size + 1]? = some (.loop (rec (if jump.isNone then .ready else .done) jump)) ∧
          (W3.putObj (w.heap.size + 1) (.loop (rec (if jump.isNone then .ready else .done) jump))).heap[w.heap.size]? = some (.deferred (some [])) := fun jump W3 hk3 => by
        have hl3 := hk3.same _ _ hl2 rfl
        have he := run_endRound (P := Tryd.prog) jump hl3
        rw [hr1] at he
        refine ⟨by rw [hr1]; exact he, hl3, World.putObj_heap_same (heapLt hl3), (World.putObj_heap_other (by omega)).trans (hk3.same _ _ hk2 rfl)⟩
      refine wpIn_mono (hbody _ acc r W2 W.heap.size hr0 hrl hi2 ho2) ?_
      rintro e a3 W3 hp
      cases e with
      | normal =>
        obtain ⟨q1, q2, q3⟩ := hp
        obtain ⟨f1, f2, f3, f4⟩ := fin none W3 q1
        exact ⟨_, _, f1, .inl ⟨rfl, q2, hI.putObj _ q3 (by omega) f2 rfl, f3, f4⟩⟩
      | ret =>
        obtain ⟨q1, q2⟩ := hp
        obtain ⟨f1, f2, f3, f4⟩ := fin (some .ret) W3 q1
        exact ⟨_, _, f1, .inr ⟨rfl, hIx.putObj _ q2 (by omega) f2 rfl, f3, f4⟩⟩
      | _ => exact hp.elim
    · rintro e W2 ⟨⟨v, rfl⟩, (⟨acc, hi, hl, hk⟩ | ⟨hi, hl, hk⟩)⟩
      · have he := run_endLoop (P := Tryd.prog) hl (by rw [hr1]; simp)
        rw [hr1] at he
        exact ⟨none, _, he, hdone _ _ _ (Nat.le_refl _) (hI.putObj _ hi (by omega) hl rfl) ((World.putObj_heap_other (by omega)).trans hk)⟩
      · have he := run_endLoop (P := Tryd.prog) hl (by rw [hr1]; simp)
        rw [hr1] at he
        exact ⟨some .ret, _, he, wpIn_ret (hstop _ _ (Nat.le_refl _) (hIx.putObj _ hi (by omega) hl rfl) ((World.putObj_heap_other (by omega)).trans hk))⟩
end YtaglhmoldbndkaaDoor.AM
end Go.Proofs

/- Layer 5: files.Decode. -/
namespace Go.Proofs
open Go.RowKit Go.Shelf Go.Lib
attribute [local go_sem] Oper.semAt_some
set_option linter.unusedVariables false
set_option linter.unusedSimpArgs false
namespace YtaglhmoldbndkaaDoor.AM
def ocells (l : List OD) : List Value := l.flatMap fun o => [.bool o.1, .string (ba o.2.1), .string (ba o.2.2)]
theorem ocells_len : ∀ l : List OD, (ocells l).length = l.length * 3
  | [] => rfl
  | f :: l => by
    have := ocells_len l
    unfold ocells at this ⊢
    rw [List.flatMap_cons, List.length_append, this]
    simp; omega
theorem ocells_app (a b : List OD) : ocells (a ++ b) = ocells a ++ ocells b := List.flatMap_append
theorem decP_more (m k : Nat) (s : List UInt8) (acc : List OD) (h1 : s.length < m) (h2 : s.length < k) : decP m s acc = decP k s acc := by
  rw [decP_eq m s acc h1, decP_eq k s acc h2, parse_more m k s h1 h2]
theorem decP_step {r : List UInt8} {acc : List OD} (hr : r ≠ []) : decP (r.length + 1) r acc = if (firstR r).2.2 = true ∧ chkS (firstR r).1 = 0 then decP ((r.drop (firstR r).2.1.toNat).length + 1) (r.drop (firstR r).2.1.toNat) (acc ++ [(firstR r).1]) else ([], 1) := by
  rw [decP, if_neg hr]
  cases h : oneS r with
  | none =>
    have e : firstR r = ((false, ([], [])), (0, false)) ∨ (firstR r).2.2 = false := by unfold firstR; rw [h]; exact .inr rfl
    have e2 : (firstR r).2.2 = false := by rcases e with e | e; rw [e]; exact e
    rw [e2]; simp
  | some q =>
    obtain ⟨o, k⟩ := q
    have e : firstR r = (o, ((k : Int), true)) := by unfold firstR; rw [h]
    obtain ⟨_, h3, h4⟩ := one_lay h
    rw [e]
    simp only [true_and, Int.toNat_natCast]
    by_cases hc : chkS o = 0
    · rw [if_pos hc, if_pos hc]
      exact decP_more _ _ _ _ (by rw [List.length_drop]; omega) (Nat.lt_succ_self _)
    · rw [if_neg hc, if_neg hc]
theorem opInfo : ∃ i : TypeInfo, Tryd.prog.info? 41 = some i ∧ i.size = 3 ∧ i.bytes = 40 ∧ ∃ z, i.zero = some z ∧ z.cells.size = 3 := by
  have h : (match Tryd.prog.info? 41 with
    | some i => decide (i.size = 3 ∧ i.bytes = 40) && (match i.zero with | some (.agg ⟨[_, _, _]⟩) => true | _ => false)
    | none => false) = true := by kernel_rfl
  split at h
  · rename_i i hi
    simp only [Bool.and_eq_true, decide_eq_true_eq] at h
    obtain ⟨⟨h1, h2⟩, h3⟩ := h
    split at h3
    · rename_i hz
      exact ⟨i, hi, h1, h2, _, hz, rfl⟩
    · cases h3
  · cases h
/-- between two rounds -/
structure DJ (w0 : World) (s : List UInt8) (b2 b3 b4 : Nat) (q : List OD × List UInt8) (W : World) : Prop where
  inv : Inv W
  res : W.heap[b2]? = some (.cells #[.slice none 0 0] 23 (0, 0))
  err : W.heap[b3]? = some (.cells #[.int .i64 0] 27 (0, 0))
  ops : ∃ v, W.heap[b4]? = some (.cells #[v] 23 (0, 0)) ∧ W.ownsRow w0.heap.size 41 3 v q.1.length (ocells q.1) ∧ v.ownBlock ≠ some b2 ∧ v.ownBlock ≠ some b3 ∧ v.ownBlock ≠ some b4 ∧ ∃ a n c, v = .slice a n c
  below : Below w0.heap.size w0 W
  dec : decP (q.2.length + 1) q.2 q.1 = decP (s.length + 1) s []
  len : q.1.length + q.2.length ≤ s.length
theorem heap_kept {B k : Nat} {W W' : World} {row : Option Nat} {vs : Array Value} {T : TypeId} {fr : Nat × Nat} (h : W.heap[k]? = some (.cells vs T fr)) (hg : W.grownBy W' row) (hr : ∀ r, row = some r → B ≤ r ∧ ∃ o : Obj, W.heap[r]? = some o ∧ o.isCells = false) : W'.heap[k]? = some (.cells vs T fr) := by
  rw [hg.block k (heapLt h) (fun e => ?_)]
  · exact h
  · obtain ⟨_, o, ho, hc⟩ := hr k e.symm
    rw [h] at ho
    obtain rfl := Option.some.inj ho
    cases hc
theorem own_kept {B B' k : Nat} {W W' : World} {row : Option Nat} {E sz n : Nat} {v : Value} {xs : List Value} (h : W.ownsRow B' E sz v n xs) (hg : W.grownBy W' row) (hr : ∀ r, row = some r → B ≤ r ∧ ∃ o : Obj, W.heap[r]? = some o ∧ o.isCells = false) : W'.ownsRow B' E sz v n xs := by
  refine ⟨h.1, ?_⟩
  rcases h.2 with h3 | ⟨g, cap, cur, h3, h4, h5, h6⟩
  · exact .inl h3
  · exact .inr ⟨g, cap, cur, h3, h4, heap_kept h5 hg hr, h6⟩
theorem dj_own {w0 : World} {s : List UInt8} {b2 b3 b4 B : Nat} (hB : w0.heap.size ≤ B) : OwnFrom B (DJ w0 s b2 b3 b4) := fun q W W' row h hg hr => by
  obtain ⟨v, h1, h2, h3, h4, h5, h6⟩ := h.ops
  obtain ⟨m, hm⟩ := h.inv.maxLen
  exact ⟨by first | exact ⟨m, own_cell hm hg hr⟩ | exact ⟨own_cell h.inv.errT hg hr, ⟨m, own_cell hm hg hr⟩⟩, heap_kept h.res hg hr, heap_kept h.err hg hr, ⟨v, heap_kept h1 hg hr, own_kept (k := 0) h2 hg hr, h3, h4, h5, h6⟩, h.below.grown hg h.below.size (fun k e => Nat.le_trans hB (hr k e).1), h.dec, h.len⟩
theorem dj_below {w0 : World} {s : List UInt8} {b2 b3 b4 : Nat} {q : List OD × List UInt8} {W W' : World} (h : DJ w0 s b2 b3 b4 q W) (hb : Below W.heap.size W W') : DJ w0 s b2 b3 b4 q W' := by
  obtain ⟨v, h1, h2, h3, h4, h5, h6⟩ := h.ops
  exact ⟨h.inv.below hb, (hb.block _ (heapLt h.res)).trans h.res, (hb.block _ (heapLt h.err)).trans h.err, ⟨v, (hb.block _ (heapLt h1)).trans h1, own_below h2 hb, h3, h4, h5, h6⟩, h.below.trans (hb.mono h.below.size), h.dec, h.len⟩
/-- it is left -/
structure DX (w0 : World) (s : List UInt8) (b2 b3 : Nat) (u : Unit) (W : World) : Prop where
  res : W.heap[b2]? = some (.cells #[.slice none 0 0] 23 (0, 0))
  err : W.heap[b3]? = some (.cells #[.int .i64 1] 27 (0, 0))
  below : Below w0.heap.size w0 W
  dec : decP (s.length + 1) s [] = ([], 1)
theorem dx_own {w0 : World} {s : List UInt8} {b2 b3 B : Nat} (hB : w0.heap.size ≤ B) : OwnFrom B (DX w0 s b2 b3) := fun q W W' row h hg hr =>
  ⟨heap_kept h.res hg hr, heap_kept h.err hg hr, h.below.grown hg h.below.size (fun k e => Nat.le_trans hB (hr k e).1), h.dec⟩
theorem ret_cell2 {P : Program} {fn : Func} {p1 p2 : Tmp} {t1 t2 : TypeId} {b1 b2 : Nat} {v1 v2 : Value} {tmps : Array Value} {w : World} (h : fn.results = #[.cell p1 t1, .cell p2 t2]) (hp1 : tmps.getD p1 undef = .pointer (some ⟨b1, 0, none⟩)) (hp2 : tmps.getD p2 undef = .pointer (some ⟨b2, 0, none⟩)) (ha1 : aggD P t1 = some false) (ha2 : aggD P t2 = some false)
    (hc1 : w.cell? ⟨b1, 0, none⟩ = some v1) (hc2 : w.cell? ⟨b2, 0, none⟩ = some v2) : (results fn tmps).run P w = .ok (.tuple #[v1, v2]) w := by
  have hp1' : tmps[p1]?.getD undef = .pointer (some ⟨b1, 0, none⟩) := by simpa using hp1
  have hp2' : tmps[p2]?.getD undef = .pointer (some ⟨b2, 0, none⟩) := by simpa using hp2
  simp only [results, h]
  simp [Sem.run_bind, hp1', hp2', asAddr, loadVar, run_isAgg' ha1 w, run_isAgg' ha2 w, go_sem, hc1, hc2]
theorem one_cell {W : World} {b : Nat} {v : Value} {T : TypeId} (h : W.heap[b]? = some (.cells #[v] T (0, 0))) : W.cell? ⟨b, 0, none⟩ = some v := by rw [cell_of_row W _ _ _ _ _ h]; rfl
theorem keeps_set {W : World} {b : Nat} {vs us : Array Value} {T : TypeId} {fr : Nat × Nat} (h : W.heap[b]? = some (.cells vs T fr)) : KeepsOthers W (W.setRow b us) := ⟨by simp, fun k o hk hc => by
  have : k ≠ b := fun e => by subst e; rw [h] at hk; obtain rfl := Option.some.inj hk; cases hc
  rw [setRow_other W b k us this]; exact hk⟩
theorem hag30 : aggD Tryd.prog 23 = some false := by kernel_rfl
theorem hag32 : aggD Tryd.prog 27 = some false := by kernel_rfl
theorem wpListIn_append_runI {F : Fence} {n : Nat} {P : Program} (w : World) {ops : Array Oper} {rest : List Oper} {o : Oper} {a : Act} {Q : Exit → Act → World → Prop}
    (hg : o.guard = none) (s x : Operand) (t t' : TypeId) (hop : o.op = Op.call { callee := Callee.builtin Builtin.append, args := #[s, x], argTypes := #[t, t'] })
    (v u : Value) (hs : a.eval s = v) (hx : a.eval x = u) {v' : Value} {w' : World} (hrun : (Builtin.append_ #[t, t'] o.type #[v, u]).run P w = .ok v' w') (hK : wpListIn F n P ops Q rest (a.put o.dst v') w') :
    wpListIn F n P ops Q (o :: rest) a w := by
  refine wpListIn_plain hg fun K hK' => ?_
  unfold Oper.wpIn
  refine ⟨?_, ?_⟩
  · simp [Oper.about, hop, resolve, Target.leads, Sem.run_pure]
  · rw [Oper.semAt_plain F _ _ (by rw [hop]; intro c hc'; cases hc')]
    simp [execOp, hop, resolve, invoke, builtin, hs, hx, hrun, Result.andThen]
    exact hK' _ _ hK
theorem app_op (w : World) (B : Nat) (v : Value) (acc : List OD) (o : OD) (vb : Nat) (hown : w.ownsRow B 41 3 v acc.length (ocells acc)) (hv : w.heap[vb]? = some (opO o)) (hn : acc.length ≤ 1000000) (hBw : B ≤ w.heap.size) (ty : TypeId) :
    ∃ v' w', (Builtin.append_ #[23, 23] ty #[v, .slice (some ⟨vb, 0, none⟩) 1 1]).run Tryd.prog w = .ok v' w' ∧ w'.ownsRow B 41 3 v' (acc ++ [o]).length (ocells (acc ++ [o])) ∧ w.grownBy w' v.ownBlock ∧ (∀ b, v'.ownBlock = some b → v.ownBlock = some b ∨ w.heap.size ≤ b) := by
  obtain ⟨i0, hi0, hz, hby, z, hzz, hzs⟩ := opInfo
  obtain ⟨v', w', hr, h2, h3, _, h5⟩ := append_more (P := Tryd.prog) w B 23 ty 41 i0 z 3 40 Tryd.underlying23 hi0 hzz hz hby hzs (by omega) v acc.length (ocells acc) hown (.slice (some ⟨vb, 0, none⟩) 1 1) 1 [.bool o.1, .string (ba o.2.1), .string (ba o.2.2)]
    (Or.inl ⟨⟨vb, 0, none⟩, 1, rfl, fun j u hu => by rw [Addr.add_lit, cell_of_row w vb _ _ _ _ hv]; simpa using hu⟩) rfl (by intro u hu; simp at hu; rcases hu with rfl | rfl | rfl <;> rfl) (by unfold maxLen; omega) (by omega) hBw
  refine ⟨v', w', hr, ?_, h3, h5⟩
  rw [ocells_app, List.length_append]
  exact h2
theorem dj_exit {w0 : World} {s : List UInt8} {b2 b3 b4 : Nat} {q : List OD × List UInt8} {W : World} (h : DJ w0 s b2 b3 b4 q W) (hne : b2 ≠ b3) (h2 : w0.heap.size ≤ b2) (h3 : w0.heap.size ≤ b3) (hd : decP (s.length + 1) s [] = ([], 1)) :
    KeepsOthers W ((W.setCell ⟨b2, 0, none⟩ (.slice none 0 0)).setCell ⟨b3, 0, none⟩ (.int .i64 1)) ∧ DX w0 s b2 b3 () ((W.setCell ⟨b2, 0, none⟩ (.slice none 0 0)).setCell ⟨b3, 0, none⟩ (.int .i64 1)) := by
  have e1 := setCell_eq_setRow W b2 0 _ _ _ (.slice none 0 0) h.res
  have hr2 := setRow_heap W b2 _ (#[Value.slice none 0 0].setIfInBounds 0 (.slice none 0 0)) _ _ h.res
  have he2 := (setRow_other W b2 b3 (#[Value.slice none 0 0].setIfInBounds 0 (.slice none 0 0)) (Ne.symm hne)).trans h.err
  have e2 := setCell_eq_setRow (W.setRow b2 (#[Value.slice none 0 0].setIfInBounds 0 (.slice none 0 0))) b3 0 _ _ _ (.int .i64 1) he2
  have hr3 := setRow_heap _ b3 _ (#[Value.int .i64 0].setIfInBounds 0 (.int .i64 1)) _ _ he2
  rw [e1, e2]
  refine ⟨(keeps_set h.res).trans (keeps_set he2), ?_, hr3, below_setRow (below_setRow h.below h2 _) h3 _, hd⟩
  rw [setRow_other _ b3 b2 _ hne]; exact hr2
theorem dj_step {w : World} {s : List UInt8} {b2 b3 b4 : Nat} {acc : List OD} {r : List UInt8} {o : OD} {kk : Nat} {WA W2 : World} {v v' : Value} (hI : Inv w) (hJA : DJ w s b2 b3 b4 (acc, r) WA) (n23 : b2 ≠ b4) (n34 : b3 ≠ b4) (h4 : w.heap.size ≤ b4)
    (hk4 : WA.heap[b4]? = some (.cells #[v] 23 (0, 0))) (hrow : WA.ownsRow w.heap.size 41 3 v acc.length (ocells acc)) (hv3 : v.ownBlock ≠ some b2) (hv4 : v.ownBlock ≠ some b3) (hv5 : v.ownBlock ≠ some b4)
    (ho2 : W2.ownsRow w.heap.size 41 3 v' (acc ++ [o]).length (ocells (acc ++ [o]))) (hg2 : WA.grownBy W2 v.ownBlock) (hblk : ∀ b, v'.ownBlock = some b → v.ownBlock = some b ∨ WA.heap.size ≤ b) (hvs : ∃ a n c, v' = .slice a n c)
    (hdec : decP ((r.drop kk).length + 1) (r.drop kk) (acc ++ [o]) = decP (s.length + 1) s []) (k2 : 1 ≤ kk) (k3 : kk ≤ r.length) :
    KeepsOthers WA (W2.setCell ⟨b4, 0, none⟩ v') ∧ DJ w s b2 b3 b4 (acc ++ [o], r.drop kk) (W2.setCell ⟨b4, 0, none⟩ v') := by
  have hk42 := (hg2.block _ (heapLt hk4) (fun e => hv5 e.symm)).trans hk4
  have e4 := setCell_eq_setRow W2 b4 0 _ _ _ v' hk42
  have hr4 := setRow_heap W2 b4 _ (#[v].setIfInBounds 0 v') _ _ hk42
  have hb2 : Below w.heap.size w W2 := hJA.below.grown hg2 hJA.below.size (fun k hk => (hrow.lt k hk).1)
  have hb3 := below_setRow hb2 h4 (#[v].setIfInBounds 0 v')
  have hl2 := heapLt hJA.res
  have hl3 := heapLt hJA.err
  have hl4 := heapLt hk4
  have r2 := (hg2.block _ hl2 (fun e => hv3 e.symm)).trans hJA.res
  have r3 := (hg2.block _ hl3 (fun e => hv4 e.symm)).trans hJA.err
  have nb : ∀ b, b < WA.heap.size → v.ownBlock ≠ some b → v'.ownBlock ≠ some b := fun b hb hn e => by
    rcases hblk b e with h | h
    · exact hn h
    · omega
  rw [e4]
  refine ⟨⟨by simpa using hg2.size, fun k ob hk hc => ?_⟩, hI.below hb3, (setRow_other W2 b4 b2 _ n23).trans r2, (setRow_other W2 b4 b3 _ n34).trans r3, ⟨v', hr4, ?_, nb _ hl2 hv3, nb _ hl3 hv4, nb _ hl4 hv5, hvs⟩, hb3, hdec, ?_⟩
  · have hne4 : k ≠ b4 := fun e => by subst e; rw [hk4] at hk; obtain rfl := Option.some.inj hk; cases hc
    rw [setRow_other W2 b4 k _ hne4, hg2.block k (heapLt hk) (fun e => ?_)]
    · exact hk
    · rcases hrow.2 with ⟨h5, _⟩ | ⟨g, cap, cur, h5, _, hg5, _⟩
      · rw [h5] at e; cases e
      · rw [h5] at e
        obtain rfl : k = g := by simpa [Value.ownBlock] using e
        rw [hg5] at hk; obtain rfl := Option.some.inj hk; cases hc
  · refine ⟨ho2.1, ?_⟩
    rcases ho2.2 with h5 | ⟨g, cap, cur, h5, h6, h7, h8⟩
    · exact .inl h5
    · have hgn : g ≠ b4 := fun e => nb _ hl4 hv5 (by rw [h5, e]; rfl)
      exact .inr ⟨g, cap, cur, h5, h6, (setRow_other W2 b4 g _ hgn).trans h7, h8⟩
  · have := hJA.len
    simp only [List.length_append, List.length_drop, List.length_cons, List.length_nil] at this ⊢
    omega
theorem dj_done {w : World} {s : List UInt8} {b2 b3 b4 : Nat} {acc : List OD} {W : World} {v : Value} (hJ : DJ w s b2 b3 b4 (acc, []) W) (n23 : b2 ≠ b3) (h2 : w.heap.size ≤ b2) (h3 : w.heap.size ≤ b3) (hrow : W.ownsRow w.heap.size 41 3 v acc.length (ocells acc)) (hv2 : v.ownBlock ≠ some b2) (hv3 : v.ownBlock ≠ some b3) :
    KeepsOthers W ((W.setCell ⟨b2, 0, none⟩ v).setCell ⟨b3, 0, none⟩ (.int .i64 0)) ∧ Below w.heap.size w ((W.setCell ⟨b2, 0, none⟩ v).setCell ⟨b3, 0, none⟩ (.int .i64 0)) ∧ ((W.setCell ⟨b2, 0, none⟩ v).setCell ⟨b3, 0, none⟩ (.int .i64 0)).heap[b2]? = some (.cells #[v] 23 (0, 0)) ∧
      ((W.setCell ⟨b2, 0, none⟩ v).setCell ⟨b3, 0, none⟩ (.int .i64 0)).heap[b3]? = some (.cells #[.int .i64 0] 27 (0, 0)) ∧ ((W.setCell ⟨b2, 0, none⟩ v).setCell ⟨b3, 0, none⟩ (.int .i64 0)).ownsRow w.heap.size 41 3 v acc.length (ocells acc) := by
  have e1 := setCell_eq_setRow W b2 0 _ _ _ v hJ.res
  have hr2 := setRow_heap W b2 _ (#[Value.slice none 0 0].setIfInBounds 0 v) _ _ hJ.res
  have he2 := (setRow_other W b2 b3 (#[Value.slice none 0 0].setIfInBounds 0 v) (Ne.symm n23)).trans hJ.err
  have e2 := setCell_eq_setRow (W.setRow b2 (#[Value.slice none 0 0].setIfInBounds 0 v)) b3 0 _ _ _ (.int .i64 0) he2
  have hr3 := setRow_heap _ b3 _ (#[Value.int .i64 0].setIfInBounds 0 (.int .i64 0)) _ _ he2
  rw [e1, e2]
  refine ⟨(keeps_set hJ.res).trans (keeps_set he2), below_setRow (below_setRow hJ.below h2 _) h3 _, (setRow_other _ b3 b2 _ n23).trans hr2, hr3, hrow.1, ?_⟩
  rcases hrow.2 with h5 | ⟨g, cap, cur, h5, h6, h7, h8⟩
  · exact .inl h5
  · have g2 : g ≠ b2 := fun e => hv2 (by rw [h5, e]; rfl)
    have g3 : g ≠ b3 := fun e => hv3 (by rw [h5, e]; rfl)
    exact .inr ⟨g, cap, cur, h5, h6, (setRow_other _ b3 g _ g3).trans ((setRow_other W b2 g _ g2).trans h7), h8⟩
set_option maxHeartbeats 4000000 in
set_option maxRecDepth 1000000 in
theorem Decode_calls (s : List UInt8) (w : World) (hI : Inv w) (hs : s.length ≤ 1000000) : Calls Tryd.prog 33 #[.string (ba s)] w fun e w' => ∃ v', e = .returned (.tuple #[v', .int .i64 (decS s).2]) ∧ w'.ownsRow w.heap.size 41 3 v' (decS s).1.length (ocells (decS s).1) ∧ Below w.heap.size w w' := by
  refine (callsIn_wide (n := 9)).1 ?_
  refine callsIn_of_wp_marks Tryd.func33 rfl trivial ?_ rfl
  simp only [Tryd.ntmps33, List.size_toArray, List.length_cons, List.length_nil, Nat.reduceAdd, Nat.reduceSub, Array.replicate_succ, Array.replicate_zero, List.push_toArray, List.append_toArray, List.nil_append, List.cons_append]
  have hsz : (ba s).size = s.length := ba_len s
  by_cases h2 : s.length ≤ 4096
  · skip
    have h2' : ¬ (4096 : Int) < (s.length : Int) := by omega
    have hds : decS s = decP (s.length + 1) s [] := by rw [dec_same, if_neg (by omega)]
    gi_wp2_with (refine ⟨trivial, ?_⟩; gi_at_call 53; refine (callsIn_wide.2 (laid_calls _ _)).mono ?_; rintro e w' ⟨rfl, rfl⟩)
    obtain ⟨W0, hW0, hs0, hb0, g0, g1, g2, g3⟩ := four w (Obj.cells #[Value.slice none 0 0] 23) (Obj.cells #[Value.int .i64 0] 27) (Obj.cells #[Value.slice none 0 0] 23) (Obj.cells #[Value.string (ba s)] 9)
    rw [hW0]
    clear hW0
    refine range_laid (n := 9) (by omega) (w.heap.size + 1 + 1 + 1) s hs rfl (one_cell g3)
      (DJ w s w.heap.size (w.heap.size + 1) (w.heap.size + 1 + 1)) (DX w s w.heap.size (w.heap.size + 1)) (dj_own (by omega)) (dx_own (by omega))
      (fun q W W' h hb => dj_below h hb) (fun q W h => h.inv) ⟨hI.below hb0, g0, g1, ⟨_, g2, World.ownsRow_nil _ _ _ _, by simp [Value.ownBlock], by simp [Value.ownBlock], by simp [Value.ownBlock], _, _, _, rfl⟩, hb0, rfl, by simp⟩
      (fun b o ok => { tmps := #[.string (ba s), undef, .pointer (some ⟨w.heap.size, 0, none⟩), .pointer (some ⟨w.heap.size + 1, 0, none⟩), .pointer (some ⟨w.heap.size + 1 + 1, 0, none⟩), .pointer (some ⟨b, 0, none⟩), .bool ok, .string (ba s), .int .i64 s.length, .bool false, .string (ba s),
        .func (.func 63) #[] #[.pointer (some ⟨w.heap.size + 1 + 1 + 1, 0, none⟩)], .agg #[.bool o.1, .string (ba o.2.1), .string (ba o.2.2)], .bool ok, undef, undef, undef, undef, undef, undef, undef, undef, undef, undef, undef, undef], defers := [] }) ?assign ?body ?done ?stop
    case assign =>
      intro l o ok W K hK
      unfold opV
      unfold opO at hK
      gi_wp2
      exact hK
    case body =>
      intro l acc r W b hr0 hrl hJ hob
      have hstep := decP_step (acc := acc) hr0
      have hfo := firstR_ok (r := r)
      obtain ⟨o, k, ok, hfr⟩ : ∃ o k ok, firstR r = (o, (k, ok)) := ⟨_, _, _, rfl⟩
      rw [hfr] at hob hstep hfo ⊢
      simp only at hob hstep hfo ⊢
      have hdec := hJ.dec
      simp only at hdec
      rw [hstep] at hdec
      clear hstep hfr
      unfold opO at hob
      cases ok with
      | false =>
        have c2 := one_cell hJ.res
        have c3 := one_cell hJ.err
        have f2 : W.frozen? ⟨w.heap.size, 0, none⟩ = false := by simp [World.frozen?, hJ.res]
        have f3 : W.frozen? ⟨w.heap.size + 1, 0, none⟩ = false := by simp [World.frozen?, hJ.err]
        gi_wp2_with (refine ⟨trivial, ?_⟩)
        exact dj_exit hJ (by omega) (by omega) (by omega) (by rw [← hdec]; simp)
      | true =>
        obtain ⟨kk, rfl, k2, k3, hone⟩ := hfo rfl
        have hc := check_one o W hJ.inv
        have x0 : W.cell? ⟨b, 0, none⟩ = some (.bool o.1) := by rw [cell_of_row W _ _ _ _ _ hob]; rfl
        have x1 : W.cell? ⟨b, 1, none⟩ = some (.string (ba o.2.1)) := by rw [cell_of_row W _ _ _ _ _ hob]; rfl
        have x2 : W.cell? ⟨b, 2, none⟩ = some (.string (ba o.2.2)) := by rw [cell_of_row W _ _ _ _ _ hob]; rfl
        have dummy := 0
        by_cases hz : chkS o = 0
        · rw [if_pos ⟨rfl, hz⟩] at hdec
          rw [hz] at hc
          gi_wp2_with (first
            | (refine ⟨trivial, ?_⟩; gi_at_call 47; refine (CallsIn.inRound l (callsIn_wide.2 hc)).mono ?_; rintro e W1 ⟨rfl, hb1⟩
               have hJ1 := dj_below hJ hb1
               obtain ⟨v, hv1, hv2, hv3, hv4, hv5, va, vn, vc, hvs⟩ := hJ1.ops
               have hob1 := (hb1.block _ (heapLt hob)).trans hob
               have c4 := one_cell hv1
               have y0 : W1.cell? ⟨b, 0, none⟩ = some (.bool o.1) := by { rw [cell_of_row W1 _ _ _ _ _ hob1]; rfl }
               have y1 : W1.cell? ⟨b, 1, none⟩ = some (.string (ba o.2.1)) := by { rw [cell_of_row W1 _ _ _ _ _ hob1]; rfl }
               have y2 : W1.cell? ⟨b, 2, none⟩ = some (.string (ba o.2.2)) := by { rw [cell_of_row W1 _ _ _ _ _ hob1]; rfl }
               have hbA : Below W1.heap.size W1 (W1.alloc (opO o)) := (Below.refl _ _).alloc (Nat.le_refl _) _
               have hJA := dj_below hJ1 hbA
               have hrow := own_below hv2 hbA
               have hal : acc.length ≤ 1000000 := by { have := hJ.len; simp only at this; omega }
               obtain ⟨v', W2, hr, ho2, hg2, hblk⟩ := app_op (W1.alloc (opO o)) w.heap.size v acc o W1.heap.size hrow (World.alloc_heap_new W1 _) hal hJA.below.size 23
               obtain ⟨va', vn', vc', hvs'⟩ : ∃ va n vc, v' = .slice va n vc := by { rcases ho2.2 with ⟨h5, _⟩ | ⟨g, cap, cur, h5, _⟩ <;> exact ⟨_, _, _, h5⟩ }
               subst hvs'
               unfold opO at hr
               subst hvs
               have hk4 := (hbA.block _ (heapLt hv1)).trans hv1
               have hk42 := (hg2.block _ (heapLt hk4) (fun e => hv5 e.symm)).trans hk4
               have c42 := one_cell hk42
               have f42 : W2.frozen? ⟨w.heap.size + 1 + 1, 0, none⟩ = false := by { simp [World.frozen?, hk42] })
            | (gi_at_builtin; refine wpListIn_append_runI _ rfl _ _ 23 23 rfl _ _ rfl rfl hr ?_))
          have hst := dj_step hI hJA (by omega) (by omega) (by omega) hk4 hrow hv3 hv4 hv5 ho2 hg2 hblk ⟨_, _, _, rfl⟩ (kk := kk) (by simpa using hdec) (by omega) k3
          exact ⟨((keeps_below hb1).trans (keeps_below hbA)).trans hst.1, rfl, hst.2⟩
        · rw [if_neg (fun h => hz h.2)] at hdec
          generalize chkS o = q at hc hz
          gi_wp2_with (refine ⟨trivial, ?_⟩; gi_at_call 47; refine (CallsIn.inRound l (callsIn_wide.2 hc)).mono ?_; rintro e W1 ⟨rfl, hb1⟩; have hJ1 := dj_below hJ hb1; have c2 := one_cell hJ1.res; have c3 := one_cell hJ1.err; have f2 : W1.frozen? ⟨w.heap.size, 0, none⟩ = false := by { simp [World.frozen?, hJ1.res] }; have f3 : W1.frozen? ⟨w.heap.size + 1, 0, none⟩ = false := by { simp [World.frozen?, hJ1.err] })
          exact (fun hx => ⟨(keeps_below hb1).trans hx.1, hx.2⟩) (dj_exit hJ1 (by omega) (by omega) (by omega) (by rw [← hdec]))
    case done =>
      intro D acc W hD hJ hK
      obtain ⟨v, hv1, hv2, hv3, hv4, hv5, va, vn, vc, rfl⟩ := hJ.ops
      have c4 := one_cell hv1
      have c2 := one_cell hJ.res
      have c3 := one_cell hJ.err
      have f2 : W.frozen? ⟨w.heap.size, 0, none⟩ = false := by simp [World.frozen?, hJ.res]
      have f3 : W.frozen? ⟨w.heap.size + 1, 0, none⟩ = false := by simp [World.frozen?, hJ.err]
      have hDw : w.heap.size ≤ D := by omega
      obtain ⟨k1, k2, k3, k4, k5⟩ := dj_done hJ (by omega) (by omega) (by omega) hv2 hv3 hv4
      gi_wp2
      generalize (W.setCell ⟨w.heap.size, 0, none⟩ (Value.slice va vn vc)).setCell ⟨w.heap.size + 1, 0, none⟩ (Value.int IntKind.i64 0) = W2 at k1 k2 k3 k4 k5 ⊢
      have hK' := k1.same D _ hK rfl
      refine ⟨by simp, .inl ⟨_, _, rfl, run_takeDeferred hK', ?_⟩⟩
      have hg := grownBy_putObj' W2 D (.deferred none)
      have hD2 : ∀ r, some D = some r → w.heap.size ≤ r ∧ ∃ o : Obj, W2.heap[r]? = some o ∧ o.isCells = false := fun r e => by cases e; exact ⟨hDw, _, hK', rfl⟩
      refine ⟨_, ret_cell2 (b1 := w.heap.size) (b2 := w.heap.size + 1) (v1 := .slice va vn vc) (v2 := .int .i64 0) rfl rfl rfl hag30 hag32 (one_cell (heap_kept k3 hg hD2)) (one_cell (heap_kept k4 hg hD2)), .slice va vn vc, ?_, ?_, k2.grown hg k2.size (fun k e => (hD2 k e).1)⟩
      · rw [← hJ.dec]; rfl
      · rw [← hJ.dec]; exact own_kept (k := 0) k5 hg hD2
    case stop =>
      intro D W hD hX hK
      have hDw : w.heap.size ≤ D := by omega
      refine ⟨by simp, .inl ⟨_, _, rfl, run_takeDeferred hK, ?_⟩⟩
      have hg := grownBy_putObj' W D (.deferred none)
      have hX' := dx_own (B := w.heap.size) (Nat.le_refl _) () W _ (some D) hX hg (fun r e => by cases e; exact ⟨hDw, _, hK, rfl⟩)
      refine ⟨_, ret_cell2 (b1 := w.heap.size) (b2 := w.heap.size + 1) (v1 := .slice none 0 0) (v2 := .int .i64 1) rfl rfl rfl hag30 hag32 (one_cell hX'.res) (one_cell hX'.err), .slice none 0 0, ?_, ?_, hX'.below⟩
      · rw [hds, hX.dec]
      · rw [hds, hX.dec]; exact World.ownsRow_nil _ _ _ _
  · have h2' : (4096 : Int) < (s.length : Int) := by omega
    have hds : decS s = ([], 1) := by rw [dec_same, if_pos (by omega)]
    gi_wp2
    refine ⟨_, ret_cell2 (b1 := w.heap.size) (b2 := w.heap.size + 1) (v1 := .slice none 0 0) (v2 := .int .i64 1) rfl rfl rfl hag30 hag32 (by simp) (by simp), .slice none 0 0, ?_, ?_, ?_⟩
    · rw [hds]
    · rw [hds]; exact World.ownsRow_nil _ _ _ _
    · exact ((Below.refl _ w).alloc (Nat.le_refl _) _).alloc (by simp) _
theorem ocells_get : ∀ (l : List OD) (k : Nat) (hk : k < l.length), (ocells l)[k * 3]? = some (.bool l[k].1) ∧ (ocells l)[k * 3 + 1]? = some (.string (ba l[k].2.1)) ∧ (ocells l)[k * 3 + 2]? = some (.string (ba l[k].2.2))
  | f :: l, 0, _ => ⟨rfl, rfl, rfl⟩
  | f :: l, k + 1, hk => by
    have := ocells_get l k (by simpa using hk)
    have e : ocells (f :: l) = [.bool f.1, .string (ba f.2.1), .string (ba f.2.2)] ++ ocells l := rfl
    rw [e]
    rw [List.getElem?_append_right (by simp; omega), List.getElem?_append_right (by simp; omega), List.getElem?_append_right (by simp; omega)]
    simp only [List.length_cons, List.length_nil, List.getElem_cons_succ]
    rw [show (k + 1) * 3 - (0 + 1 + 1 + 1) = k * 3 from by omega, show (k + 1) * 3 + 1 - (0 + 1 + 1 + 1) = k * 3 + 1 from by omega, show (k + 1) * 3 + 2 - (0 + 1 + 1 + 1) = k * 3 + 2 from by omega]
    exact this
theorem ocells_one : ∀ (l : List OD), ∀ u ∈ ocells l, u.oneCell' = true := fun l u hu => by
  obtain ⟨f, _, hu⟩ := List.mem_flatMap.1 hu
  simp at hu
  rcases hu with rfl | rfl | rfl <;> rfl
theorem own_datO {w : World} {B : Nat} {v : Value} {l : List OD} {Pc : Nat → Nat → Prop} (h : w.ownsRow B 41 3 v l.length (ocells l)) (hP : ∀ b o, B ≤ b → b < w.heap.size → Pc b o) : DatRep Pc w v (.lst 3 (l.map (toDats OT))) := by
  rcases h.2 with ⟨rfl, h0⟩ | ⟨g, cap, cur, rfl, hb, hg, hn, hc, hs, ht⟩
  · have : l = [] := List.eq_nil_of_length_eq_zero h0
    subst this
    exact DatRep.lst none 0 0 3 [] 0 0 (fun _ _ => undef) rfl (Nat.le_refl _) (by unfold maxLen; omega) (fun x hx => by cases hx) (fun h => by cases h) (fun k j hk => by cases hk) (fun k j hk => by cases hk)
  · refine DatRep.lst (some ⟨g, 0, none⟩) l.length cap 3 _ g 0 (fun k j => (ocells l)[k * 3 + j]?.getD undef) (by simp) hn hc (fun x hx => by obtain ⟨f, _, rfl⟩ := List.mem_map.1 hx; rfl) (fun _ => rfl) (fun k j hk hj => ?_) (fun k j hk hj => ?_)
    · have hk' : k < l.length := by simpa using hk
      have hlt : k * 3 + j < (ocells l).length := by rw [ocells_len]; omega
      refine ⟨hP _ _ hb (heapLt hg), ?_, ?_⟩
      · rw [cell_of_row w g _ cur _ _ hg, List.getElem?_eq_getElem hlt]
        have : cur.toList[k * 3 + j]? = some (ocells l)[k * 3 + j] := by
          have e : (cur.toList.take (l.length * 3))[k * 3 + j]? = some (ocells l)[k * 3 + j] := by rw [ht, List.getElem?_eq_getElem hlt]
          rw [List.getElem?_take] at e
          split at e
          · exact e
          · cases e
        rw [Nat.zero_add]
        simpa using this
      · rw [List.getElem?_eq_getElem hlt]; exact ocells_one l _ (List.getElem_mem hlt)
    · have hk' : k < l.length := by simpa using hk
      have hg2 := ocells_get l k hk'
      simp only [List.getElem_map] at hj ⊢
      have hj2 : j < 3 := hj
      match j, hj2 with
      | 0, _ => rw [Nat.add_zero, hg2.1]; exact .v _
      | 1, _ => rw [hg2.2.1]; exact .v _
      | 2, _ => rw [hg2.2.2]; exact .v _
def fDec_t (s : List UInt8) : Option (List OD × Int) := if s.length ≤ 1000000 then some (decS s) else none
def fDec_fc : FC := { f := 33, args := [.one (.c (.d .str))], res := .tup [.c (.d (.lst OT)), .c (.d (.int .i64))], F := fun p => fDec_t p }
theorem fDec_ok : FCall Inv Tryd.prog fDec_fc := fun G hG => ⟨⟨by kernel_rfl, fun (s : List UInt8) r h => by
  have h' : fDec_t s = some r := h
  unfold fDec_t at h'
  split at h'
  case isFalse => cases h'
  rename_i hc
  have hr : decS s = r := Option.some.inj h'
  intro Pc w vs hg hlt hv
  obtain ⟨vl⟩ := vs
  match vl, hv with
  | [x], ⟨h1, _⟩ =>
    obtain rfl : x = .string (ba s) := of_val h1
    refine (Decode_calls s w (hG.im w hg) hc).mono ?_
    rintro e w' ⟨v', rfl, hown, hb⟩
    rw [hr] at hown ⊢
    exact ⟨_, fun b o => Pc b o ∨ (w.heap.size ≤ b ∧ b < w'.heap.size), rfl, hb, fun b o hp => Or.inl hp, fun b o hp => hp, #[v', .int .i64 r.2], rfl, own_datO hown (fun b o h1 h2 => Or.inr ⟨h1, h2⟩), drep_val (σ := noSt) (.int .i64 r.2), trivial⟩⟩, rfl⟩
def fEnc_t (ops : List OD) : Option (List UInt8 × Int) := if (ops.all fun o => decide (o.2.1.length ≤ 1000000) && decide (o.2.2.length ≤ 1000000)) = true then some (encS ops) else none
def fEnc_fc : FC := { f := 29, args := [.one (.c (.d (.lst OT)))], res := .tup [.c (.d .str), .c (.d (.int .i64))], F := fun p => fEnc_t p }
theorem fEnc_ok : FCall Inv Tryd.prog fEnc_fc := fun G hG => ⟨⟨by kernel_rfl, fun (ops : List OD) r h => by
  have h' : fEnc_t ops = some r := h
  unfold fEnc_t at h'
  split at h'
  case isFalse => cases h'
  rename_i hc
  have hr : encS ops = r := Option.some.inj h'
  intro Pc w vs hg hlt hv
  obtain ⟨vl⟩ := vs
  match vl, hv with
  | [x], ⟨h1, _⟩ =>
    refine (Encode_calls w x ops (hG.im w hg) hlt (fun o ho => by have := List.all_eq_true.1 hc o ho; simpa using this) h1).mono ?_
    rintro e w' ⟨rfl, hb⟩
    rw [hr]
    exact ⟨_, Pc, rfl, hb, fun b o hp => hp, fun b o hp => Or.inl hp, #[.string (ba r.1), .int .i64 r.2], rfl, drep_val (σ := noSt) (.string (ba r.1)), drep_val (σ := noSt) (.int .i64 r.2), trivial⟩⟩, rfl⟩
end YtaglhmoldbndkaaDoor.AM
end Go.Proofs
