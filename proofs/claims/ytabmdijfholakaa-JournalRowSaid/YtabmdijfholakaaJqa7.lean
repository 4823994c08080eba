/- The contracts of package rec: bytes and numbers. -/
import Derived.Test.YtabmdijfholakaaJqa6
import Derived.Test.YtabmdijfholakaaJqa3
import Derived.Deep.AppendLies
namespace Go.Proofs.Ytabmdijfholakaa
open Go.RowKit
namespace RecW
set_option maxHeartbeats 400000 in
theorem number_any (s : ByteArray) (w : World) (h0 : 4 ≤ s.size) :
    Calls Try.prog 50 #[.string s] w fun e w' => e = .returned (.int .i64 (RM.num s.data.toList 0)) ∧ ∃ m, w' = w.drewN m := by
  have i0 : (0 : Int) < (s.size : Int) := by omega
  have i1 : (1 : Int) < (s.size : Int) := by omega
  have i2 : (2 : Int) < (s.size : Int) := by omega
  have i3 : (3 : Int) < (s.size : Int) := by omega
  have j0 : 0 < s.size := by omega
  have j1 : 1 < s.size := by omega
  have j2 : 2 < s.size := by omega
  have j3 : 3 < s.size := by omega
  go_enter Try.func50, Try.ntmps50
  go_wp2
  go_quiet (fail)
  go_wp2
  go_ret
  refine ⟨SumW.ret_int ?_, _, rfl⟩
  rw [RM.or_four _ _ _ _ s[0].toNat_lt s[1].toNat_lt s[2].toNat_lt s[3].toNat_lt]
  unfold RM.num
  simp [List.getD, j0, j1, j2, j3]
  rfl
set_option maxHeartbeats 400000 in
theorem repeat0_any (n : Int) (w : World) (h0 : 0 ≤ n) (h1 : n ≤ 1000) :
    Calls Try.prog 70 #[.string ⟨#[0]⟩, .int .i64 n] w fun e w' => e = .returned (.string ⟨(List.replicate n.toNat 0).toArray⟩) ∧ Below w.heap.size w w' := by
  have hn : n = (n.toNat : Int) := by omega
  have h := Try.strings_Repeat ⟨#[0]⟩ n.toNat w (by omega) (show 1 * n.toNat ≤ _ by omega)
  have hl : ∀ k, Lib.repeatL [(0 : UInt8)] k = List.replicate k 0 := by
    intro k
    induction k with
    | zero => rfl
    | succ k ih => simp only [Lib.repeatL] at *; simp [ih, List.replicate_succ]
  rw [show (⟨#[0]⟩ : ByteArray).data.toList = [0] from rfl, hl, ← hn] at h
  exact h
set_option maxHeartbeats 400000 in
theorem fill_any (s : ByteArray) (w : World) (h0 : s.size ≤ 32) :
    Calls Try.prog 55 #[.string s] w fun e w' => e = .returned (.string (RM.str (RM.fillL s.data.toList))) ∧ Below w.heap.size w w' := by
  go_enter Try.func55, Try.ntmps55
  go_wp2_with fail
  refine (repeat0_any (32 - s.size) w (by omega) (by omega)).mono ?_
  rintro e w' ⟨rfl, hb⟩
  go_wp2_with fail
  go_ret
  refine ⟨?_, hb⟩
  simp only [RM.fillL, RM.str]
  congr 2
theorem info_u8 : (Try.prog.info? 5).map (fun i => (i.zero, i.size, i.bytes)) = some (some (.int .u8 0), 1, 1) := by kernel_rfl
set_option maxHeartbeats 1600000 in
theorem lay_any (ns : List Int) (hn : ∀ k (h : k < ns.length), 0 ≤ ns[k] ∧ ns[k] < 4294967296) (g : Nat) (w : World) (hne : 0 < ns.length) (hlen : ns.length ≤ 1000) (hc : ∀ j (h : j < ns.length), w.cell? ⟨g, j, none⟩ = some (.int .i64 ns[j])) (hg : g < w.heap.size) :
    Calls Try.prog 65 #[.slice (some ⟨g, 0, none⟩) ns.length ns.length] w fun e w' => e = .returned (.string (RM.str (RM.lays ns))) ∧ Below w.heap.size w w' := by
  obtain ⟨i0, hi, hz0, hz1, hz2⟩ := info_parts info_u8
  go_enter Try.func65, Try.ntmps65
  go_wp2
  go_loopw [3, 8] (fun v i wr => ∃ k : Nat, k ≤ ns.length ∧ i = .int .i64 k ∧ wr.ownsRow w.heap.size 5 1 v (4 * k) ((RM.lays (ns.take k)).map (fun b => Value.int .u8 (b.toNat : Int))) ∧ Below w.heap.size w wr) (fun _ i _ => ns.length - (intOf i).toNat)
  case atStart => exact ⟨0, Nat.zero_le _, rfl, World.ownsRow_nil _ _ _ _, Below.refl _ _⟩
  case round =>
    obtain ⟨k, hk, rfl, hown, hbel⟩ := hrel
    by_cases hlt : k < ns.length
    · have hcx : wr.cell? ⟨g, k, none⟩ = some (.int .i64 ns[k]) := (hbel.cell hg).trans (hc k hlt)
      have h01 := hn k hlt
      have hsz := hbel.size
      have hB := RM.be4_map ns[k] h01.1 h01.2
      generalize hN : ns[k] = n at *
      obtain ⟨h0, h1⟩ := h01
      have HN := Lib.hid hN; clear hN
      have HB := Lib.hid hB; clear hB
      go_wp2_with (at_builtin; refine wpList_append_own _ rfl _ _ 98 rfl w.heap.size 5 i0 (.int .u8 0) 1 1 Try.underlying98 hi hz0 hz1 hz2 rfl (by decide) _ _ _ rfl (hown.alloc _) ⟨wr.heap.size, 0, none⟩ 4 4 ((RM.be4 n).map (fun b => Value.int .u8 (b.toNat : Int))) rfl ?c0 ?c1 ?c2 ?c3 ?c4 ?c5 ?_)
      case c0 => rfl
      case c1 => intro j u hj; rw [HB.out] at hj; exact World.news_of_block (heap_alloc_new wr _) j u hj
      case c2 => intro u hu; rw [List.mem_map] at hu; obtain ⟨b, _, rfl⟩ := hu; rfl
      case c3 => unfold maxLen; omega
      case c4 => omega
      case c5 => simp; omega
      intro v' w1 hown' hgrow _
      have hbel' : Below w.heap.size w w1 := ((hbel.alloc hsz _).grown hgrow (by simp; omega) (fun j hj => (hown.lt j hj).1))
      rw [← List.map_append, ← HN.out, ← RM.lays_snoc ns k hlt] at hown'
      clear hgrow hown hbel hcx HB
      go_wp2
      go_roundw
      case rel => exact ⟨k + 1, by omega, by go_num, hown', hbel'⟩
      case measure => simp [intOf]; omega
    · have hkk : k = ns.length := by omega
      subst hkk
      rw [List.take_length] at hown
      obtain ⟨G, cap, cur, rfl, hge, hcells, hl1, hl2, hl3, hl4⟩ := hown.2.resolve_left (by rintro ⟨_, h⟩; omega)
      have hlen4 : Hid ((RM.lays ns).length = 4 * ns.length) := Lib.hid (RM.lays_length ns)
      have hrow : Lib.BRow wr G (RM.lays ns) := by
        have h := hown
        rw [← hlen4.out] at h
        exact Lib.BRow.of_owns h
      have hcv := Lib.run_string_of_row (P := Try.prog) wr 98 9 5 G cap (RM.lays ns) Try.underlying98 Try.underlying5 Try.underlying9 hrow
      rw [hlen4.out] at hcv
      clear hrow hcells hown hl1 hl2 hl3 hl4
      go_wp2
      go_ret
      exact ⟨rfl, hbel⟩
theorem lay4_any (a b c d : Int) (ha : 0 ≤ a ∧ a < 4294967296) (hb : 0 ≤ b ∧ b < 4294967296) (hc : 0 ≤ c ∧ c < 4294967296) (hd : 0 ≤ d ∧ d < 4294967296) (g : Nat) (w : World)
    (c0 : w.cell? ⟨g, 0, none⟩ = some (.int .i64 a)) (c1 : w.cell? ⟨g, 1, none⟩ = some (.int .i64 b)) (c2 : w.cell? ⟨g, 2, none⟩ = some (.int .i64 c)) (c3 : w.cell? ⟨g, 3, none⟩ = some (.int .i64 d)) (hg : g < w.heap.size) :
    Calls Try.prog 65 #[.slice (some ⟨g, 0, none⟩) 4 4] w fun e w' => e = .returned (.string (RM.str (RM.lays [a, b, c, d]))) ∧ Below w.heap.size w w' := by
  refine lay_any [a, b, c, d] ?_ g w (by simp) (by simp) ?_ hg
  · intro k hk
    match k, hk with
    | 0, _ => exact ha
    | 1, _ => exact hb
    | 2, _ => exact hc
    | 3, _ => exact hd
  · intro k hk
    match k, hk with
    | 0, _ => exact c0
    | 1, _ => exact c1
    | 2, _ => exact c2
    | 3, _ => exact c3
/-- 'string([]byte{x})' of a block that holds x -/
theorem conv1 (x : Int) (h0 : 0 ≤ x) (h1 : x < 256) (W : World) (b cap : Nat) (hc : W.cell? ⟨b, 0, none⟩ = some (.int .u8 x)) :
    Sem.run Try.prog (convert 98 9 (.slice (some ⟨b, 0, none⟩) 1 cap)) W = .ok (.string (RM.str [UInt8.ofNat x.toNat])) W := by
  refine run_convert_bytes_back W 98 9 5 ⟨b, 0, none⟩ cap [UInt8.ofNat x.toNat] Try.underlying98 Try.underlying5 Try.underlying9 (fun j hj => ?_)
  have h : j = 0 := by simp at hj; omega
  subst h
  refine Eq.trans (show W.cell? _ = W.cell? ⟨b, 0, none⟩ from rfl) (hc.trans ?_)
  have := RM.u8_ofNat x h0 h1
  simp only [List.getElem_cons_zero]; rw [this]
end RecW
end Go.Proofs.Ytabmdijfholakaa
