/- The contracts of the cutters of payloads. -/
import Derived.Test.YtnoegkhkeeameaaRecD
import Derived.Test.YtnoegkhkeeameaaRecMath3
namespace Go.Proofs.Ytnoegkhkeeameaa
open Go.RowKit
namespace Lib
theorem owns_below {w w' : World} {base : Nat} {e : TypeId} {size : Nat} {v : Value} {n : Nat} {xs : List Value} (h : w.ownsRow base e size v n xs) (hb : Below w.heap.size w w') : w'.ownsRow base e size v n xs := by
  obtain ⟨h0, h1⟩ := h
  refine ⟨h0, ?_⟩
  rcases h1 with h1 | ⟨g, cap, cur, h1, h2, h3, h4⟩
  · exact .inl h1
  · exact .inr ⟨g, cap, cur, h1, h2, (hb.block g (Array.getElem?_eq_some_iff.1 h3).1).trans h3, h4⟩
theorem owns_base {w : World} {base base' : Nat} {e : TypeId} {size : Nat} {v : Value} {n : Nat} {xs : List Value} (h : w.ownsRow base e size v n xs) (hb : base' ≤ base) : w.ownsRow base' e size v n xs := by
  obtain ⟨h0, h1⟩ := h
  refine ⟨h0, ?_⟩
  rcases h1 with h1 | ⟨g, cap, cur, h1, h2, h3⟩
  · exact .inl h1
  · exact .inr ⟨g, cap, cur, h1, Nat.le_trans hb h2, h3⟩
end Lib
namespace RecW
theorem info_str : (Try.prog.info? 9).map (fun i => (i.zero, i.size, i.bytes)) = some (some (.string ⟨#[]⟩), 1, 16) := by kernel_rfl
set_option maxHeartbeats 3200000 in
set_option maxRecDepth 100000 in
theorem cut_any (s : ByteArray) (w : World) (hs : s.size ≤ maxLen) :
    Calls Try.prog 47 #[.string s] w fun e w' => ∃ v, e = .returned v ∧ w'.ownsRow w.heap.size 9 1 v (RM.cutN s) ((RM.cutL s).map Value.string) ∧ Below w.heap.size w w' := by
  obtain ⟨i0, hi, hz0, hz1, hz2⟩ := info_parts info_str
  unfold maxLen at hs
  have hC := Lib.hid (RM.cutN_count s)
  have hle := RM.cutN_le s
  go_enter Try.func47, Try.ntmps47
  go_wp2_with fail
  refine (count_any _ _ (by omega)).mono ?_; rintro e w' ⟨rfl, rfl⟩
  go_wp2_with fail
  rw [hC.out]
  go_loopw [3, 10] (fun v i wr => ∃ k : Nat, k ≤ RM.cutN s ∧ i = .int .i64 k ∧ wr.ownsRow w.heap.size 9 1 v k (RM.cutV s k) ∧ Below w.heap.size w wr) (fun _ i _ => RM.cutN s - (intOf i).toNat)
  case atStart => exact ⟨0, Nat.zero_le _, rfl, World.ownsRow_nil _ _ _ _, Below.refl _ _⟩
  case round =>
    obtain ⟨k, hk, rfl, hown, hbel⟩ := hrel
    by_cases hlt : k < RM.cutN s
    · have hin := RM.cutN_in s k hlt
      obtain ⟨hin1, hin2⟩ := hin
      have hsz := hbel.size
      have hlt' : (k : Int) < (RM.cutN s : Int) := by omega
      obtain ⟨b0, hb0⟩ : ∃ b0, b0 = 31 * k := ⟨_, rfl⟩
      obtain ⟨e0, he0⟩ : ∃ e0, e0 = min (31 * k + 31) s.size := ⟨_, rfl⟩
      have he1 : b0 ≤ e0 := by omega
      have he2 : e0 ≤ s.size := by omega
      have hmin : min (((k : Int) + 1) * 31) (s.size : Int) = (e0 : Int) := by omega
      have hmul : (k : Int) * 31 = (b0 : Int) := by omega
      have hfs : Hid (((⟨#[68]⟩ : ByteArray) ++ s.extract b0 e0).size ≤ 32) := by
        apply Lib.hid; rw [ByteArray.size_append, ByteArray.size_extract]; show 1 + _ ≤ 32; omega
      have hsec := Lib.hid (RM.sec_of s k e0 he0)
      have hsec2 : Hid (RM.str (RM.fillL (((⟨#[68]⟩ : ByteArray) ++ s.extract b0 e0).data.toList)) = RM.sec s k) := by
        apply Lib.hid; rw [hb0]; exact hsec.out
      have hel : e0 - b0 ≤ 31 := by omega
      have HE := Lib.hid he0; clear he0
      have HB := Lib.hid hb0; clear hb0
      go_wp2_with fail
      refine (fill_any _ _ hfs.out).mono ?_; rintro e w2 ⟨rfl, hb2⟩
      rw [hsec2.out]
      have hown2 := Lib.owns_below hown hb2
      have hbel2 : Below w.heap.size w w2 := hbel.trans (hb2.mono hsz)
      have hsz2 := hbel2.size
      clear hown hbel hb2
      go_wp2_with (at_builtin; refine wpList_append_own _ rfl _ _ 22 rfl w.heap.size 9 i0 (.string ⟨#[]⟩) 1 16 Try.underlying22 hi hz0 hz1 hz2 rfl (by decide) _ _ _ rfl (hown2.alloc _) ⟨w2.heap.size, 0, none⟩ 1 1 [.string (RM.sec s k)] rfl ?c0 ?c1 ?c2 ?c3 ?c4 ?c5 ?_)
      case c0 => rfl
      case c1 => intro j u hj; exact World.news_of_block (heap_alloc_new w2 _) j u hj
      case c2 => intro u hu; simp at hu; subst hu; rfl
      case c3 => unfold maxLen; omega
      case c4 => omega
      case c5 => simp; omega
      intro v' w3 hown' hgrow _
      have hbel' : Below w.heap.size w w3 := (hbel2.alloc hsz2 _).grown hgrow (by simp; omega) (fun j hj => (hown2.lt j hj).1)
      rw [RM.cutV_snoc] at hown'
      clear hgrow hown2 hbel2 hsec hsec2 hfs HE HB
      go_wp2
      go_roundw
      case rel => exact ⟨k + 1, by omega, by go_num, hown', hbel'⟩
      case measure => simp [intOf]; omega
    · have hkk : k = RM.cutN s := by omega
      subst hkk
      go_wp2
      go_ret
      rw [← RM.cutV_all]
      exact ⟨_, rfl, hown, hbel⟩
end RecW
end Go.Proofs.Ytnoegkhkeeameaa
