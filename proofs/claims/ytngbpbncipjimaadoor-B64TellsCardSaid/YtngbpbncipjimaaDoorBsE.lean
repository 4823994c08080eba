/- Layer 13: Encode. -/
import Derived.Test.YtngbpbncipjimaaDoorBsW
namespace Go.Proofs
open Go.RowKit Go.Shelf Go.Lib
attribute [local go_sem] Oper.semAt_some
set_option linter.unusedVariables false
set_option linter.unusedSimpArgs false
namespace YtngbpbncipjimaaDoor.AM
theorem size_spec (n x : Nat) (hx : x ≤ 1099511627776) : fsize13_t n (x : Int) = some (((x + 2) / 3 * 4 : Nat) : Int) := by
  unfold fsize13_t
  have e1 : IntKind.wrap .i64 ((x : Int) + (3 : Int)) = ((x + 3 : Nat) : Int) := by rw [wrap64 (by omega) (by omega)]; rfl
  have e2 : IntKind.wrap .i64 (((x + 3 : Nat) : Int) - (1 : Int)) = ((x + 2 : Nat) : Int) := by rw [wrap64 (by omega) (by omega)]; omega
  have e3 : quoO .i64 ((x + 2 : Nat) : Int) (3 : Int) = some (((x + 2) / 3 : Nat) : Int) := by
    unfold quoO
    rw [if_pos (by decide), show ((x + 2 : Nat) : Int).tdiv 3 = (((x + 2) / 3 : Nat) : Int) from rfl, wrap64 (by omega) (by omega)]
  have e4 : IntKind.wrap .i64 ((((x + 2) / 3 : Nat) : Int) * (4 : Int)) = (((x + 2) / 3 * 4 : Nat) : Int) := by rw [wrap64 (by omega) (by omega)]; rfl
  rw [e1, letO_some, e2, letO_some, e3, Option.bind_some, e4, letO_some]
theorem size_c (x : Nat) (hx : x ≤ 1099511627776) (w : World) : Calls Tryd.prog 19 #[.int .i64 (x : Int)] w fun e w' => e = .returned (.int .i64 (((x + 2) / 3 * 4 : Nat) : Int)) ∧ Below w.heap.size w w' := by
  have h := (fsize13_ok 9 AM.Inv AM.know_inv).1.2 (x : Int) _ (size_spec 9 x hx)
  refine (h (AM.Old w) w #[.int .i64 (x : Int)] trivial (fun b o h => h) ⟨drep_val (σ := noSt) (.int .i64 (x : Int)), trivial⟩).mono ?_
  rintro e w' ⟨v, Pc, rfl, hb, _, _, hv⟩
  rw [of_val (σ := noSt) hv]
  exact ⟨rfl, hb⟩
def strLen : Value → Nat
  | .string t => t.size
  | _ => 0
set_option maxHeartbeats 4000000 in
set_option maxRecDepth 1000000 in
theorem enc_c (s : List UInt8) (hs : s.length ≤ 1000000) (w : World) : Calls Tryd.prog 10 #[.string (ba s)] w fun e w' => e = .returned (.string (ba (encS s))) ∧ Below w.heap.size w w' := by
  obtain ⟨A, hA⟩ : ∃ A, A = encS s := ⟨_, rfl⟩
  rw [← hA]
  have HA := hid hA
  clear hA
  have hsz : (ba s).size = s.length := ba_len s
  have hl := size_c s.length (by omega)
  go_enter Tryd.func10, Tryd.ntmps10
  go_wp2_with fail
  refine (hl _).mono ?_
  rintro e W0 ⟨rfl, hb0⟩
  have hbk0 : W0.heap[w.heap.size]? = some (.cells #[.pointer none, .slice none 0 0] 33 (0, 0)) := (hb0.block _ (heapLt (heap_alloc_new w _))).trans (heap_alloc_new w _)
  have hB00 : Below w.heap.size w W0 := ((Below.refl _ _).alloc (Nat.le_refl _) _).trans (hb0.mono (Nat.le_of_lt (heapLt (heap_alloc_new w _))))
  have hgr := Tryd.Builder_Grow_fresh w.heap.size w.heap.size ((s.length + 2) / 3 * 4) W0 (Nat.le_refl _) hbk0 hB00.size (by omega)
  clear hl
  go_wp2_with fail
  refine hgr.mono ?_
  rintro e W ⟨rfl, hb, hbel⟩
  have hB0 : Below w.heap.size w W := hB00.trans hbel
  have HN := hid hb
  clear hgr hb hbel hbk0 hb0 hB00
  go_wp2_with fail
  go_loopw [0] (fun x wr => ∃ t : List UInt8, ∃ u : List UInt8, s = u ++ t ∧ (u.length % 3 = 0 ∨ t = []) ∧ x = .string (ba t) ∧ Lib.BuilderAt 33 5 w.heap.size w.heap.size (.pointer (some ⟨w.heap.size, 0, none⟩)) (Lib.byteCells (encS u)) wr ∧ Below w.heap.size w wr) (fun x _ => strLen x)
  case atStart => exact ⟨s, [], rfl, .inl rfl, rfl, HN.out, hB0⟩
  case round =>
    obtain ⟨t, u, hst, hu, rfl, hb, hbel⟩ := hrel
    clear hB0 HN
    have HBB := hid hb
    clear hb
    have HU := hid hu
    clear hu
    have htl : (ba t).size = t.length := ba_len t
    have hdat : (ba t).data.toList = t := by simp [ba]
    by_cases ht : t = []
    · subst ht
      have he : (ba []).toList.isEmpty = true := by rw [ByteArray.toList_eq]; rfl
      have hst2 := HBB.out
      rw [List.append_nil] at hst
      rw [← hst, ← HA.out] at hst2
      have hs2 := Tryd.Builder_String_any w.heap.size w.heap.size A wr (.inr hst2) hbel.size
      clear hst2 HBB HA htl hst HU
      go_wp2_with fail
      refine hs2.mono ?_
      rintro e W2 ⟨rfl, hb2⟩
      clear hs2
      go_wp2_with fail
      go_ret
      exact ⟨rfl, hbel.trans hb2⟩
    · have he : (ba t).toList.isEmpty = false := by rw [ByteArray.toList_eq, hdat]; simpa using ht
      have hpos : 0 < t.length := by cases t with | nil => exact absurd rfl ht | cons _ _ => simp
      obtain ⟨n, hn⟩ : ∃ n : Nat, n = min 3 t.length := ⟨_, rfl⟩
      have hn3 : n ≤ 3 := by omega
      have hnt : n ≤ t.length := by omega
      have hmin : min (3 : Int) (t.length : Int) = (n : Int) := by omega
      have hx1 : (ba t).extract 0 n = ba (t.take n) := by rw [ba_extract]; simp
      have hx2 : (ba t).extract n t.length = ba (t.drop n) := by rw [ba_extract, List.take_of_length_le (by rw [List.length_drop]; omega)]
      have htk : (t.take n).length = n := by rw [List.length_take]; omega
      have hne : t.take n ≠ [] := fun e => by
        rw [e] at htk
        have h5 : n = 0 := htk.symm
        omega
      obtain ⟨p, q, r, z, hpq, hlay⟩ := lay_c (t.take n) hne (by rw [htk]; exact hn3) wr
      clear hne htk
      have HPQ := hid hpq
      have HST := hid hst
      have HNN := hid hn
      clear hpq hst hn
      go_wp2_with fail
      refine hlay.mono ?_
      rintro e W1 ⟨rfl, hb1⟩
      clear hlay
      have hbel1 := hbel.trans (hb1.mono hbel.size)
      obtain ⟨O, hO⟩ : ∃ O : Obj, O = .cells #[.int .u8 (p.toNat : Int), .int .u8 (q.toNat : Int), .int .u8 (r.toNat : Int), .int .u8 (z.toNat : Int)] 44 (0, 0) := ⟨_, rfl⟩
      have hal : (W1.alloc O).heap[W1.heap.size]? = some O := heap_alloc_new W1 O
      have hbA : Below w.heap.size w (W1.alloc O) := hbel1.alloc hbel1.size O
      have hwr := write_c w.heap.size w.heap.size (encS u) [p, q, r, z] ⟨W1.heap.size, 0, none⟩ 4 4 (W1.alloc O)
        (bldAt_below (bldAt_below HBB.out hb1) ((Below.refl _ _).alloc (Nat.le_refl _) O)) rfl
        (fun j v hj => by
          rw [hO] at hal ⊢
          match j, hj with
          | 0, hj => rw [← hj]; exact Lib.cell_of_heap hal 0
          | 1, hj => rw [← hj]; exact Lib.cell_of_heap hal 1
          | 2, hj => rw [← hj]; exact Lib.cell_of_heap hal 2
          | 3, hj => rw [← hj]; exact Lib.cell_of_heap hal 3)
        (by
          have h6 : s.length = u.length + t.length := by rw [HST.out, List.length_append]
          rw [enc_len]; omega) hbA.size
      rw [hO] at hwr hbA
      clear hO hal
      have hu3 : u.length % 3 = 0 := HU.out.resolve_right ht
      have henc : encS u ++ [p, q, r, z] = encS (u ++ t.take n) := by rw [enc_app _ _ hu3, HPQ.out]
      rw [henc] at hwr
      have HU3 := hid hu3
      clear henc hu3
      go_wp2_with fail
      refine hwr.mono ?_
      rintro e W2 ⟨rfl, hbw, hbelw⟩
      have HBW := hid hbw
      clear hbw hwr
      have hbel2 := hbA.trans hbelw
      go_wp2_with fail
      go_roundw
      case rel =>
        refine ⟨t.drop n, u ++ t.take n, ?_, ?_, rfl, HBW.out, hbel2⟩
        · rw [HST.out, List.append_assoc, List.take_append_drop]
        · have h7 := HNN.out; have h8 := HU3.out
          by_cases c : 3 ≤ t.length
          · left; rw [List.length_append, List.length_take]; omega
          · right; exact List.drop_eq_nil_of_le (by omega)
      case measure => show (ba (t.drop n)).size < (ba t).size; rw [ba_len, ba_len, List.length_drop]; have h7 := HNN.out; omega
end YtngbpbncipjimaaDoor.AM
end Go.Proofs
