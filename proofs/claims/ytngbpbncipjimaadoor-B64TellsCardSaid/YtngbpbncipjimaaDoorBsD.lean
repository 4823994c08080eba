/- Layer 13: Decode. -/
import Derived.Test.YtngbpbncipjimaaDoorBsR
namespace Go.Proofs
open Go.RowKit Go.Shelf Go.Lib
attribute [local go_sem] Oper.semAt_some
set_option linter.unusedVariables false
set_option linter.unusedSimpArgs false
namespace YtngbpbncipjimaaDoor.AM
def joinD (u : List UInt8) (p : List UInt8 × Bool) : List UInt8 × Bool := if p.2 = true then (u ++ p.1, true) else ([], false)
theorem join_nil (t : List UInt8) : decS t = joinD [] (decS t) := by
  unfold joinD
  obtain ⟨⟨x, b⟩, hd⟩ : ∃ p, decS t = p := ⟨_, rfl⟩
  rw [hd]
  cases b with
  | true => rfl
  | false => rw [(dec_not hd).1]; rfl
theorem join_join (u g : List UInt8) (p : List UInt8 × Bool) : joinD u (joinD g p) = joinD (u ++ g) p := by
  unfold joinD
  by_cases h : p.2 = true
  · simp [h]
  · simp [h]
theorem dec_step {t g : List UInt8} (h : rdS (t.take 4) g) (h2 : g.length = 3 ∨ t.length = 4) : decS t = joinD g (decS (t.drop 4)) := by
  obtain ⟨⟨x, b⟩, hd⟩ : ∃ p, decS (t.drop 4) = p := ⟨_, rfl⟩
  rw [hd]
  unfold joinD
  cases b with
  | true =>
    have hx := dec_of hd
    refine dec_yes ?_
    rcases h2 with h2 | h2
    · rw [enc_app _ _ (by rw [h2]), h.2.2, hx, List.take_append_drop]
    · have hn : t.drop 4 = [] := List.drop_eq_nil_of_le (by omega)
      rw [hn] at hx
      rw [enc_nil hx, List.append_nil, h.2.2, List.take_of_length_le (by omega)]
  | false =>
    refine dec_no fun s hs => ?_
    have h4 : t ≠ [] := fun e => by
      have := rd_len h
      rw [e] at this
      simp at this
    obtain ⟨g', r, _, h5, _⟩ := enc_split hs h4
    exact (dec_not hd).2 r h5
set_option maxHeartbeats 4000000 in
set_option maxRecDepth 1000000 in
theorem dec_c (s : List UInt8) (hs : s.length ≤ 1000000) (w : World) : Calls Tryd.prog 8 #[.string (ba s)] w fun e w' => e = .returned (.tuple #[.string (ba (decS s).1), .bool (decS s).2]) ∧ Below w.heap.size w w' := by
  obtain ⟨A, hA⟩ : ∃ A, A = decS s := ⟨_, rfl⟩
  have hA0 := hA
  rw [join_nil] at hA0
  rw [← hA]
  have HA := hid hA0
  clear hA hA0
  have hsz : (ba s).size = s.length := ba_len s
  have hgr := Tryd.Builder_Grow_fresh w.heap.size w.heap.size (s.length / 4 * 3) (w.alloc (.cells #[.pointer none, .slice none 0 0] 33 (0, 0))) (Nat.le_refl _) (heap_alloc_new w _) (by simp) (by omega)
  have hq : (s.length : Int) / 4 * 3 = ((s.length / 4 * 3 : Nat) : Int) := by omega
  rw [← hq] at hgr
  clear hq
  go_enter Tryd.func8, Tryd.ntmps8
  go_wp2_with fail
  refine hgr.mono ?_
  rintro e W ⟨rfl, hb, hbel⟩
  have hB0 : Below w.heap.size w W := ((Below.refl _ _).alloc (Nat.le_refl _) _).trans hbel
  have HN := hid hb
  clear hgr hb hbel
  go_wp2_with fail
  go_loopw [0] (fun x wr => ∃ t : List UInt8, ∃ u : List UInt8, A = joinD u (decS t) ∧ u.length + t.length ≤ s.length ∧ x = .string (ba t) ∧ Lib.BuilderAt 33 5 w.heap.size w.heap.size (.pointer (some ⟨w.heap.size, 0, none⟩)) (Lib.byteCells u) wr ∧ Below w.heap.size w wr) (fun x _ => strLen x)
  case atStart => exact ⟨s, [], HA.out, by simp, rfl, HN.out, hB0⟩
  case round =>
    obtain ⟨t, u, hst, hu, rfl, hb, hbel⟩ := hrel
    clear hB0 HN HA
    have HBB := hid hb
    have HU := hid hu
    have HST := hid hst
    clear hb hu hst
    have htl : (ba t).size = t.length := ba_len t
    have hdat : (ba t).data.toList = t := by simp [ba]
    by_cases ht : t = []
    · subst ht
      have he : (ba []).toList.isEmpty = true := by rw [ByteArray.toList_eq]; rfl
      have hst2 := HST.out
      rw [dec_nil] at hst2
      have hA : A = (u ++ [], true) := hst2
      rw [List.append_nil] at hA
      subst hA
      have hs2 := Tryd.Builder_String_any w.heap.size w.heap.size u wr (.inr HBB.out) hbel.size
      clear HST hst2
      go_wp2_with fail
      refine hs2.mono ?_
      rintro e W2 ⟨rfl, hb2⟩
      clear hs2
      go_wp2_with fail
      go_ret2
      exact ⟨rfl, hbel.trans hb2⟩
    · have he : (ba t).toList.isEmpty = false := by rw [ByteArray.toList_eq, hdat]; simpa using ht
      by_cases h4 : t.length < 4
      · have h4' : (t.length : Int) < 4 := by omega
        have hst2 := HST.out
        rw [dec_short ht h4] at hst2
        have hA : A = ([], false) := hst2
        subst hA
        clear HST hst2
        go_wp2_with fail
        go_ret2
        exact ⟨rfl, hbel⟩
      · have h4' : ¬ (t.length : Int) < 4 := by omega
        have hge : (4 : Int) ≤ (t.length : Int) := by omega
        have hx1 : (ba t).extract 0 4 = ba (t.take 4) := by rw [ba_extract]; simp
        have hx2 : (ba t).extract 4 t.length = ba (t.drop 4) := by rw [ba_extract, List.take_of_length_le (by rw [List.length_drop]; omega)]
        have hrd := read_c (t.take 4) (by rw [List.length_take]; omega) wr
        have HH4 := hid h4
        clear h4
        go_wp2_with fail
        refine hrd.mono ?_
        rintro e W1 ⟨⟨a, b, c, n, ok, rfl, hok⟩, hb1⟩
        clear hrd
        have hbel1 := hbel.trans (hb1.mono hbel.size)
        have hbad : (ok = false ∨ n < 3 ∧ 4 < t.length) → A = ([], false) := fun hor => by
          rw [HST.out, dec_bad ht fun g hg => ?_]
          · rfl
          · rcases hok with ⟨h1, h2, h3, h5⟩ | ⟨h1, h2⟩
            · have h6 := hor.resolve_left (by rw [h1]; decide)
              have h7 := rd_uniq hg h5
              rw [h7, List.length_take]
              exact ⟨by simp; omega, h6.2⟩
            · exact absurd hg (h2 g)
        have HOK := hid hok
        have HBAD := hid hbad
        clear hok hbad
        cases ok with
        | false =>
          have hA := HBAD.out (.inl rfl)
          subst hA
          clear HBAD HST
          go_wp2_with fail
          go_ret2
          exact ⟨rfl, hbel1.alloc hbel1.size _⟩
        | true =>
          have hok : 1 ≤ n ∧ n ≤ 3 ∧ rdS (t.take 4) ([a, b, c].take n) := by
            rcases HOK.out with ⟨_, h⟩ | ⟨h, _⟩
            · exact h
            · cases h
          obtain ⟨hn1, hn3, hrs⟩ := hok
          have hn3' : (n : Int) ≤ 3 := by omega
          have hn0' : (0 : Int) ≤ (n : Int) := by omega
          by_cases hc : n < 3 ∧ 4 < t.length
          · have hA := HBAD.out (.inr hc)
            subst hA
            have hc1 : (n : Int) < 3 := by omega
            have hc2 : (4 : Int) < (t.length : Int) := by omega
            clear HBAD HST
            go_wp2_with fail
            go_ret2
            exact ⟨rfl, hbel1.alloc hbel1.size _⟩
          · have hstep := dec_step hrs (by
              have hh := HH4.out
              have hl : ([a, b, c].take n).length = n := by rw [List.length_take]; simp; omega
              rw [hl]; omega)
            have hlen : (([a, b, c] : List UInt8).take n).length = n := by rw [List.length_take]; simp; omega
            obtain ⟨O, hO⟩ : ∃ O : Obj, O = .cells #[.int .u8 (a.toNat : Int), .int .u8 (b.toNat : Int), .int .u8 (c.toNat : Int)] 35 (0, 0) := ⟨_, rfl⟩
            have hal : (W1.alloc O).heap[W1.heap.size]? = some O := heap_alloc_new W1 O
            have hbA : Below w.heap.size w (W1.alloc O) := hbel1.alloc hbel1.size O
            have hwr := write_c w.heap.size w.heap.size u (([a, b, c] : List UInt8).take n) ⟨W1.heap.size, 0, none⟩ n 3 (W1.alloc O)
              (bldAt_below (bldAt_below HBB.out hb1) ((Below.refl _ _).alloc (Nat.le_refl _) O)) hlen
              (fun j v hj => by
                rw [hO] at hal ⊢
                have hj3 : (Lib.byteCells ([a, b, c] : List UInt8))[j]? = some v := by
                  unfold Lib.byteCells at hj ⊢
                  rw [List.getElem?_map] at hj ⊢
                  rw [List.getElem?_take] at hj
                  split at hj
                  · exact hj
                  · cases hj
                match j, hj3 with
                | 0, hj => rw [← hj]; exact Lib.cell_of_heap hal 0
                | 1, hj => rw [← hj]; exact Lib.cell_of_heap hal 1
                | 2, hj => rw [← hj]; exact Lib.cell_of_heap hal 2)
              (by have h6 := HU.out; omega) hbA.size
            rw [hO] at hwr hbA
            have hst2 := HST.out
            rw [hstep, join_join] at hst2
            have HST2 := hid hst2
            have HHC := hid hc
            clear hO hal HST hst2 hstep HBAD hrs
            have hrel2 : u.length + n + (t.length - 4) ≤ s.length := by have h6 := HU.out; have hh := HH4.out; omega
            by_cases hc1 : n < 3
            · have hc1' : (n : Int) < 3 := by omega
              have hc2' : ¬ (4 : Int) < (t.length : Int) := by have := HHC.out; omega
              clear hc1 hc
              go_wp2_with fail
              refine hwr.mono ?_
              rintro e W2 ⟨rfl, hbw, hbelw⟩
              have HBW := hid hbw
              clear hbw hwr
              have hbel2 := hbA.trans hbelw
              go_wp2_with fail
              go_roundw
              case rel => exact ⟨t.drop 4, u ++ ([a, b, c] : List UInt8).take n, HST2.out, by rw [List.length_append, hlen, List.length_drop]; exact hrel2, rfl, HBW.out, hbel2⟩
              case measure => show (ba (t.drop 4)).size < (ba t).size; rw [ba_len, ba_len, List.length_drop]; have hh := HH4.out; omega
            · have hc1' : ¬ (n : Int) < 3 := by omega
              clear hc1 hc
              go_wp2_with fail
              refine hwr.mono ?_
              rintro e W2 ⟨rfl, hbw, hbelw⟩
              have HBW := hid hbw
              clear hbw hwr
              have hbel2 := hbA.trans hbelw
              go_wp2_with fail
              go_roundw
              case rel => exact ⟨t.drop 4, u ++ ([a, b, c] : List UInt8).take n, HST2.out, by rw [List.length_append, hlen, List.length_drop]; exact hrel2, rfl, HBW.out, hbel2⟩
              case measure => show (ba (t.drop 4)).size < (ba t).size; rw [ba_len, ba_len, List.length_drop]; have hh := HH4.out; omega
end YtngbpbncipjimaaDoor.AM
end Go.Proofs
