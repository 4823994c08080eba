/- Records in sectors: what is cut is joined again; what is a head, and what is none. -/
import Derived.Test.YtgijhddmadaplaaRecMath4
namespace Go.Proofs.Ytgijhddmadaplaa
open Go.RowKit
namespace RM
theorem tail_sec (s : ByteArray) (i : Nat) : (sec s i).data.toList.drop 1 = (s.data.toList.drop (31 * i)).take 31 ++ List.replicate (32 - (68 :: (s.data.toList.drop (31 * i)).take 31).length) 0 := rfl
theorem allL_range (s : ByteArray) (k : Nat) (hk : 31 * k ≤ s.size + 30) : (allL ((List.range k).map (sec s))).take (min (31 * k) s.size) = s.data.toList.take (31 * k) := by
  have hs : s.data.toList.length = s.size := by simp
  induction k with
  | zero => simp
  | succ k ih =>
    have hlen : (allL ((List.range k).map (sec s))).length = 31 * k := by
      rw [allL_length _ (by intro x hx; obtain ⟨i, _, rfl⟩ := List.mem_map.1 hx; exact sec_size s i)]; simp
    have ih := ih (by omega)
    rw [Nat.min_eq_left (by omega), List.take_of_length_le (by omega)] at ih
    have e1 : allL ((List.range (k + 1)).map (sec s)) = allL ((List.range k).map (sec s)) ++ (sec s k).data.toList.drop 1 := by
      rw [cut_snoc]; unfold allL; simp
    rw [e1, tail_sec, ih, show 31 * (k + 1) = 31 * k + 31 from by omega, List.take_add, ← List.append_assoc]
    have hl2 : (List.take (31 * k) s.data.toList ++ List.take 31 (List.drop (31 * k) s.data.toList)).length = min (31 * k + 31) s.size := by
      simp; omega
    rw [← hl2, List.take_left]
theorem cutN_small (s : ByteArray) (h : s.size ≤ 4096) : cutN s = (s.size + 30) / 31 := by unfold cutN; rw [if_pos h]
theorem countF_cut (s : ByteArray) (h : s.size ≤ 4096) : countF (s.size : Int) = (cutN s : Int) := by
  unfold countF; rw [if_pos (by omega), cutN_small s h]; omega
theorem joinS_cut (s : ByteArray) (h : s.size ≤ 4096) : joinS (cutL s) (s.size : Int) = s := by
  have hs : s.data.toList.length = s.size := by simp
  have hn := cutN_small s h
  have e := allL_range s (cutN s) (by omega)
  unfold joinS
  rw [Nat.min_eq_right (by omega)] at e
  rw [show (s.size : Int).toNat = s.size from by omega]
  unfold cutL
  rw [e, List.take_of_length_le (by omega), str_self]
theorem joinOk_cut (s : ByteArray) (h : s.size ≤ 4096) : joinOk (cutL s) (s.size : Int) := by
  refine ⟨?_, ?_, ?_⟩
  · rw [cutL_length, countF_cut s h]
  · intro x hx; obtain ⟨i, _, rfl⟩ := List.mem_map.1 hx; exact sec_size s i
  · rw [joinS_cut s h]
theorem joinB_cut (s : ByteArray) (h : s.size ≤ 4096) : joinB (cutL s) (s.size : Int) = s := by rw [joinB_yes _ _ (joinOk_cut s h), joinS_cut s h]
theorem joinB_size (l : List ByteArray) (n : Int) (h : joinOk l n) : 0 ≤ n ∧ ((joinB l n).size : Int) = n ∧ countF n = (l.length : Int) := by
  have h1 := count_in l.length n h.1
  obtain ⟨m, rfl⟩ : ∃ m : Nat, n = (m : Int) := ⟨n.toNat, by omega⟩
  refine ⟨h1.1, ?_, h.1.symm⟩
  rw [joinB_yes _ _ h, joinS_size l m h.2.1 (by omega)]
theorem sec_first (s : ByteArray) (i : Nat) : (sec s i).data.toList.head? = some 68 := rfl
theorem text_first (k g q z m : Int) : (str (textL k g q z m)).data.toList.head? = some 72 := rfl
theorem sec_text (s : ByteArray) (i : Nat) (k g q z m : Int) : sec s i ≠ str (textL k g q z m) := by
  intro h
  have := sec_first s i
  rw [h, text_first] at this
  simp at this
theorem sec_not_head (s : ByteArray) (i : Nat) : ¬ readOk (sec s i) := fun h => sec_text s i _ _ _ _ _ h.2.2.symm
theorem cutL_not_head (s x : ByteArray) (h : x ∈ cutL s) : ¬ readOk x := by
  obtain ⟨i, _, rfl⟩ := List.mem_map.1 h; exact sec_not_head s i
theorem cutL_size32 (s x : ByteArray) (h : x ∈ cutL s) : x.size = 32 := by
  obtain ⟨i, _, rfl⟩ := List.mem_map.1 h; exact sec_size s i
theorem num_be4 (a b c d : UInt8) (l r : List UInt8) (k : Nat) (hl : l.length = k) : num (l ++ a :: b :: c :: d :: r) k = (a.toNat : Int) * 16777216 + (b.toNat : Int) * 65536 + (c.toNat : Int) * 256 + (d.toNat : Int) := by
  subst hl
  unfold num
  simp [List.getD]
theorem be4_num (n : Int) (h0 : 0 ≤ n) (h1 : n < 4294967296) : ((UInt8.ofNat (n / 16777216 % 256).toNat).toNat : Int) * 16777216 + ((UInt8.ofNat (n / 65536 % 256).toNat).toNat : Int) * 65536 + ((UInt8.ofNat (n / 256 % 256).toNat).toNat : Int) * 256 + ((UInt8.ofNat (n % 256).toNat).toNat : Int) = n := by
  rw [u8_ofNat _ (by omega) (by omega), u8_ofNat _ (by omega) (by omega), u8_ofNat _ (by omega) (by omega), u8_ofNat _ (by omega) (by omega)]
  omega
theorem textL_flat (k g q z m : Int) : ∃ r, textL k g q z m = [72, UInt8.ofNat k.toNat] ++ (be4 g ++ (be4 q ++ (be4 z ++ (be4 m ++ r)))) := ⟨_, rfl⟩
theorem text_nums (k g q z m : Int) (h : may k g q z m) : kindF (str (textL k g q z m)) = k ∧ numAt (str (textL k g q z m)) 2 = g ∧ numAt (str (textL k g q z m)) 6 = q ∧ numAt (str (textL k g q z m)) 10 = z ∧ numAt (str (textL k g q z m)) 14 = m := by
  obtain ⟨hk, hg, hq, hz, hm⟩ := h
  have hm2 := SM.isSum_lt hm
  obtain ⟨r, hr⟩ := textL_flat k g q z m
  unfold numAt kindF
  rw [str_list]
  refine ⟨?_, ?_, ?_, ?_, ?_⟩
  · rw [hr]
    show ((UInt8.ofNat k.toNat).toNat : Int) = k
    exact u8_ofNat k (by omega) (by omega)
  · rw [hr]
    exact (num_be4 _ _ _ _ [72, UInt8.ofNat k.toNat] _ 2 rfl).trans (be4_num g (by omega) (by omega))
  · rw [hr, ← List.append_assoc]
    exact (num_be4 _ _ _ _ ([72, UInt8.ofNat k.toNat] ++ be4 g) _ 6 rfl).trans (be4_num q (by omega) (by omega))
  · rw [hr, ← List.append_assoc, ← List.append_assoc]
    exact (num_be4 _ _ _ _ ([72, UInt8.ofNat k.toNat] ++ be4 g ++ be4 q) _ 10 rfl).trans (be4_num z (by omega) (by omega))
  · rw [hr, ← List.append_assoc, ← List.append_assoc, ← List.append_assoc]
    exact (num_be4 _ _ _ _ ([72, UInt8.ofNat k.toNat] ++ be4 g ++ be4 q ++ be4 z) _ 14 rfl).trans (be4_num m (by omega) (by omega))
theorem textL_length (k g q z m : Int) : (textL k g q z m).length = 32 := rfl
theorem textB_yes (k g q z m : Int) (h : may k g q z m) : textB k g q z m = str (textL k g q z m) := if_pos h
theorem textB_no (k g q z m : Int) (h : ¬ may k g q z m) : textB k g q z m = ByteArray.empty := if_neg h
theorem read_text (k g q z m : Int) (h : may k g q z m) : readOk (textB k g q z m) ∧ readV (textB k g q z m) = hd k g q z m := by
  obtain ⟨e1, e2, e3, e4, e5⟩ := text_nums k g q z m h
  have hr : readOk (str (textL k g q z m)) := by
    refine ⟨by rw [str_size]; rfl, ?_, ?_⟩
    · rw [e1, e2, e3, e4, e5]; exact h
    · rw [e1, e2, e3, e4, e5]
  rw [textB_yes _ _ _ _ _ h]
  refine ⟨hr, ?_⟩
  rw [readV_yes _ hr, e1, e2, e3, e4, e5]
theorem not_join (k g q z m : Int) (h : may k g q z m) : ¬ joinOk [textB k g q z m] 5 := by
  rintro ⟨_, _, h3⟩
  rw [textB_yes _ _ _ _ _ h] at h3
  have hm : str (textL k g q z m) ∈ cutL (joinS [str (textL k g q z m)] 5) := by rw [h3]; simp
  obtain ⟨i, _, hi⟩ := List.mem_map.1 hm
  exact sec_text _ i k g q z m hi
/-! one byte changed -/
theorem readOk_inj (s : ByteArray) (k g q z m : Int) (h : readOk s) (e : readV s = hd k g q z m) : str (textL k g q z m) = s := by
  rw [readV_yes s h] at e
  unfold hd at e
  simp at e
  obtain ⟨e1, e2, e3, e4, e5⟩ := e
  have := h.2.2
  rw [e1, e2, e3, e4, e5] at this
  exact this
theorem xor_ne (a b : Nat) (hb : b ≠ 0) : a ^^^ b ≠ a := by
  intro h
  have : a ^^^ (a ^^^ b) = a ^^^ a := by rw [h]
  rw [← Nat.xor_assoc, Nat.xor_self, Nat.zero_xor] at this
  exact hb this
theorem xor_lt (a b : Nat) (ha : a < 256) (hb : b < 256) : a ^^^ b < 256 := Nat.xor_lt_two_pow (n := 8) ha hb
theorem set_ne_self (l : List UInt8) (i : Nat) (h : i < l.length) (c : UInt8) (hc : c ≠ l[i]) : l.set i c ≠ l := by
  intro e
  have : (l.set i c)[i]'(by simpa using h) = l[i] := by simp only [e]
  rw [List.getElem_set_self] at this
  exact hc this
theorem ofNat_ne (c : UInt8) (n : Nat) (hn : n < 256) (h : n ≠ c.toNat) : UInt8.ofNat n ≠ c := by
  intro e; apply h; rw [← e]; simp [Nat.mod_eq_of_lt hn]
/-- the bytes of s, of which byte i is turned by x -/
def turned (s : ByteArray) (i x : Nat) : List UInt8 := s.data.toList.set i (UInt8.ofNat ((s.data.toList.getD i 0).toNat ^^^ x))
theorem turned_length (s : ByteArray) (i x : Nat) : (turned s i x).length = s.size := by unfold turned; simp
theorem turned_ne (s : ByteArray) (i x : Nat) (hi : i < s.size) (h1 : 1 ≤ x) (h2 : x < 256) : str (turned s i x) ≠ s := by
  intro e
  have hl : i < s.data.toList.length := by simpa using hi
  have e2 : turned s i x = s.data.toList := by
    have := congrArg (fun b : ByteArray => b.data.toList) e
    exact this
  unfold turned at e2
  refine set_ne_self s.data.toList i hl _ ?_ e2
  have hg : s.data.toList.getD i 0 = s.data.toList[i] := by simp [List.getD, List.getElem?_eq_getElem hl]
  rw [hg]
  exact ofNat_ne _ _ (xor_lt _ _ (UInt8.toNat_lt _) h2) (xor_ne _ _ (by omega))
/-- a turned head is another one, or none -/
theorem turned_head (s : ByteArray) (k g q z m : Int) (i x : Nat) (hs : s = str (textL k g q z m)) (hi : i < 32) (h1 : 1 ≤ x) (h2 : x < 256) (hr : readOk (str (turned s i x))) : readV (str (turned s i x)) ≠ hd k g q z m := by
  intro e
  have := readOk_inj _ k g q z m hr e
  rw [← hs] at this
  exact turned_ne s i x (by rw [hs]; exact hi) h1 h2 this.symm
/-- sectors of which the first is turned join to another payload, or to none -/
theorem turned_join (p : ByteArray) (i x : Nat) (hi : i < 32) (h1 : 1 ≤ x) (h2 : x < 256) (hp : 0 < (cutL p).length) (hj : joinOk ((cutL p).set 0 (str (turned (sec p 0) i x))) (p.size : Int)) : joinB ((cutL p).set 0 (str (turned (sec p 0) i x))) (p.size : Int) ≠ p := by
  intro e
  have h3 := hj.2.2
  rw [joinB_yes _ _ hj] at e
  rw [e] at h3
  have h4 : (cutL p)[0] = ((cutL p).set 0 (str (turned (sec p 0) i x)))[0]'(by simpa using hp) := by simp only [← h3]
  rw [List.getElem_set_self] at h4
  have h5 : (cutL p)[0] = sec p 0 := by simp [cutL]
  rw [h5] at h4
  exact turned_ne (sec p 0) i x (by rw [sec_size]; exact hi) h1 h2 h4.symm
end RM
end Go.Proofs.Ytgijhddmadaplaa
