/- The contract of the document's joiner. -/
import Derived.Test.YtfagepkjpicieaaRecH
namespace Go.Proofs.Ytfagepkjpicieaa
open Go.RowKit
namespace RecW
theorem sv_len {w : World} {v : Value} {l : List ByteArray} {n : Nat} (hn : l.length = n) (h : RM.SV w v l) : ∃ a cap, v = .slice a n cap ∧ (0 < n → ∃ b off, a = some ⟨b, off, none⟩ ∧ ∀ j (h : j < l.length), w.cell? ⟨b, off + j, none⟩ = some (.string l[j])) := by
  subst hn
  obtain ⟨a, cap, h1, h2⟩ := h
  exact ⟨a, cap, h1, fun h0 => by obtain ⟨b, off, h3, _, h4⟩ := h2 h0; exact ⟨b, off, h3, h4⟩⟩
theorem lists_eq {a b : List ByteArray} (hn : a.length = b.length) (h : ∀ j (h1 : j < a.length) (h2 : j < b.length), a[j] = b[j]) : a = b := List.ext_getElem hn h
set_option maxHeartbeats 3200000 in
set_option maxRecDepth 100000 in
theorem rjoin_any (l : List ByteArray) (v : Value) (size : Int) (w : World) (hv : RM.SV w v l) (hl : l.length ≤ 1000) (hb : -9223372036854775808 ≤ size ∧ size ≤ 9223372036854775807) :
    Calls Try.prog 20 #[v, .int .i64 size] w fun e w' => e = .returned (.tuple #[.string (RM.joinB l size), .bool (decide (RM.joinOk l size))]) ∧ Below w.heap.size w w' := by
  obtain ⟨a, cap, rfl, hcells⟩ := hv
  by_cases hc : (l.length : Int) = RM.countF size
  · obtain ⟨h1, h2, h3, h4⟩ := RM.count_in l.length size hc
    obtain ⟨n, rfl⟩ : ∃ n : Nat, size = n := ⟨size.toNat, by omega⟩
    have hcc : RM.countF (n : Int) = (l.length : Int) := hc.symm
    have HC := Lib.hid hc; clear hc
    go_enter Try.func20, Try.ntmps20
    go_wp2_with fail
    refine (rcount_any _ _ (by omega)).mono ?_; rintro e w' ⟨rfl, rfl⟩
    go_wp2_with fail
    go_loop [6, 7] (fun x i => ∃ k : Nat, k ≤ l.length ∧ i = .int .i64 k ∧ x = .string (RM.str (RM.allL (l.take k))) ∧ (∀ j (h : j < l.length), j < k → l[j].size = 32)) (fun _ i => l.length - (intOf i).toNat)
    case atStart => exact ⟨0, Nat.zero_le _, rfl, rfl, fun j _ h => by omega⟩
    case round =>
      obtain ⟨k, hk, rfl, rfl, hall⟩ := hrel
      by_cases hkl : k < l.length
      · obtain ⟨g, off, rfl, hg, hcs⟩ := hcells (by omega)
        have hcx : w.cell? ⟨g, off + k, none⟩ = some (.string l[k]) := hcs k hkl
        clear hcs hcells
        have hsnoc := Lib.hid (RM.allL_snoc l k hkl)
        have hlen31 : (RM.allL (l.take k)).length ≤ 31000 := by
          rw [RM.allL_length (l.take k) (RM.all32 _ (fun j hj => by
            have hj' : j < k ∧ j < l.length := by simp at hj; omega
            rw [List.getElem_take]; exact hall j hj'.2 hj'.1))]
          simp; omega
        have hHall := Lib.hid hall
        clear hall
        by_cases h32 : l[k].size = 32
        · have hx1 := Lib.hid (RM.tail1 l[k] h32)
          have hex : (l[k].extract 1 32).size = 31 := by rw [ByteArray.size_extract]; omega
          have h32i : (l[k].size : Int) = 32 := by omega
          have hH32 := Lib.hid h32
          generalize hx : l[k] = x at *
          have HX := Lib.hid hx; clear hx
          have hap : Hid (RM.str (RM.allL (l.take k)) ++ x.extract 1 32 = RM.str (RM.allL (l.take (k + 1)))) := by
            apply Lib.hid
            apply ByteArray.ext
            rw [hsnoc.out, ByteArray.data_append, ← hx1.out]
            simp [RM.str]
          go_wp2_with fail
          go_round
          case rel => exact ⟨k + 1, by omega, by go_num, by rw [hap.out], fun j hj hjk => by
            by_cases e : j = k
            · subst e; rw [HX.out]; exact hH32.out
            · exact hHall.out j hj (by omega)⟩
          case measure => simp [intOf]; omega
        · have hno := RM.joinOk_not l (n : Int) k hkl h32
          have HN := Lib.hid hno
          have h32i : ¬ (l[k].size : Int) = 32 := by omega
          generalize hx : l[k] = x at *
          clear hno h32 hx hsnoc
          go_wp2_with fail
          go_ret2
          exact ⟨by rw [RM.joinB_no l _ HN.out, decide_eq_false HN.out]; rfl, Below.refl _ _⟩
      · have hkk : k = l.length := by omega
        subst hkk
        rw [List.take_length]
        have hA := Lib.hid (RM.all32 l (fun j hj => hall j hj hj))
        have hlen := RM.allL_length l hA.out
        have hn1 : (n : Int) ≤ ((RM.allL l).length : Int) := by omega
        clear hall
        go_wp2_with fail
        have hE : (RM.str (RM.allL l)).extract 0 n = RM.joinS l (n : Int) := RM.extract0 (RM.allL l) n
        rw [hE]
        have hjs : Hid ((RM.joinS l (n : Int)).size ≤ maxLen) := by
          apply Lib.hid; unfold RM.joinS maxLen; rw [RM.str_size]; simp; omega
        have hSVl : RM.SV w (.slice a l.length cap) l := ⟨a, cap, rfl, hcells⟩
        have HSV := Lib.hid hSVl; clear hSVl
        have hcn := RM.cutN_join l n hA.out HC.out
        clear hE hn1 hcells
        generalize hP : RM.joinS l (n : Int) = p at *
        have HP := Lib.hid hP; clear hP
        refine (rcut_any p _ hjs.out).mono ?_
        rintro e w3 ⟨v3, rfl, hown3, hbel3⟩
        obtain ⟨a3, cap3, rfl, h3⟩ := sv_len ((RM.cutL_length p).trans hcn) (RM.SV.of_owns (RM.cutL_length p).symm hown3)
        obtain ⟨a4, cap4, e4, h4'⟩ := sv_len rfl (HSV.out.below hbel3)
        simp only [Value.slice.injEq] at e4
        obtain ⟨rfl, _, rfl⟩ := e4
        have HB3 := Lib.hid hbel3
        have Hcl : Hid ((RM.cutL p).length = l.length) := Lib.hid ((RM.cutL_length p).trans hcn)
        clear hown3 hbel3 hcn hlen
        go_wp2_with fail
        go_loopw [9] (fun i wr => ∃ k : Nat, k ≤ l.length ∧ i = .int .i64 k ∧ (∀ j (h1 : j < (RM.cutL p).length) (h2 : j < l.length), j < k → (RM.cutL p)[j] = l[j]) ∧ ∃ m, wr = w3.drewN m) (fun i _ => l.length - (intOf i).toNat)
        case atStart => exact ⟨0, Nat.zero_le _, rfl, fun j _ _ h => by omega, 0, rfl⟩
        case round =>
          obtain ⟨k, hk, rfl, hall, m, rfl⟩ := hrel
          have HALL := Lib.hid hall; clear hall
          by_cases hkl : k < l.length
          · obtain ⟨g3, o3, rfl, hc3⟩ := h3 (by omega)
            obtain ⟨g4, o4, rfl, hc4⟩ := h4' (by omega)
            have hkc : k < (RM.cutL p).length := by rw [Hcl.out]; exact hkl
            have x3 : w3.cell? ⟨g3, o3 + k, none⟩ = some (.string (RM.cutL p)[k]) := hc3 k hkc
            have x4 : w3.cell? ⟨g4, o4 + k, none⟩ = some (.string l[k]) := hc4 k hkl
            clear hc3 hc4 h3 h4'
            have hki : (k : Int) < (l.length : Int) := by omega
            have hk0 : (0 : Int) ≤ (k : Int) := by omega
            go_wp2
            go_quiet (fail)
            go_wp2
            · have hne : (!(RM.cutL p)[k].toList == l[k].toList) = true := by assumption
              have hok : ¬ RM.joinOk l (n : Int) := fun x => by
                have e : RM.cutL p = l := by rw [← HP.out]; exact x.2.2
                have e2 : (RM.cutL p)[k] = l[k] := by simp only [e]
                rw [e2] at hne
                simp at hne
              have HOK := Lib.hid hok
              go_ret2
              exact ⟨by rw [RM.joinB_no l _ HOK.out, decide_eq_false HOK.out]; rfl, Lib.below_drewN (Lib.below_drewN HB3.out _) _⟩
            · have heq : (!(RM.cutL p)[k].toList == l[k].toList) = false := by assumption
              have he : (RM.cutL p)[k] = l[k] := RM.bytes_ext (by simpa using heq)
              have HE := Lib.hid he
              clear heq he x3 x4
              go_roundw
              case rel => exact ⟨k + 1, by omega, by go_num, fun j hj1 hj2 hjk => by
                by_cases e : j = k
                · subst e; exact HE.out
                · exact HALL.out j hj1 hj2 (by omega), _, rfl⟩
              case measure => simp [intOf]; omega
          · have hkk : k = l.length := by omega
            subst hkk
            have hok : RM.joinOk l (n : Int) := ⟨HC.out, hA.out, by
              rw [HP.out]
              exact lists_eq Hcl.out (fun j hj1 hj2 => HALL.out j hj1 hj2 hj2)⟩
            have HOK := Lib.hid hok; clear hok
            clear h3 h4'
            go_wp2
            go_ret2
            exact ⟨by rw [RM.joinB_yes l _ HOK.out, decide_eq_true HOK.out, HP.out]; rfl, Lib.below_drewN HB3.out _⟩
  · have hno : ¬ RM.joinOk l size := fun x => hc x.1
    rw [RM.joinB_no l size hno, decide_eq_false hno]
    clear hno
    go_enter Try.func20, Try.ntmps20
    go_wp2_with fail
    refine (rcount_any _ _ hb).mono ?_; rintro e w' ⟨rfl, rfl⟩
    go_wp2_with fail
    go_ret2
    exact ⟨rfl, Below.refl _ _⟩
end RecW
end Go.Proofs.Ytfagepkjpicieaa
