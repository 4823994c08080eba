/- One text of DigX, DigP, DigO, DigF, DigH, DigN, TreG2, TreP2, TreW (mk/pack.py). -/
import Derived.Test.YtngbpbncipjimabGreatDoorTq13
import Derived.Test.YtngbpbncipjimabGreatDoorTq10
import Derived.Test.YtngbpbncipjimabGreatDoorTq11
import Derived.Laws.AppendOwn
/- Layer 12: text, Hex. -/
namespace Go.Proofs
open Go.RowKit Go.Shelf Go.Lib
attribute [local go_sem] Oper.semAt_some
set_option linter.unusedVariables false
set_option linter.unusedSimpArgs false
namespace YtngbpbncipjimabGreatDoor.AM.Dg
theorem bld_below {T e B b : Nat} {bs : List Value} {w w' : World} (h : Lib.IsBuilder T e B b bs w) (hb : Below w.heap.size w w') : Lib.IsBuilder T e B b bs w' := by
  have key : ∀ p, Lib.BuilderAt T e B b p bs w → Lib.BuilderAt T e B b p bs w' := fun p ⟨h1, v, h2, h3, h4⟩ => ⟨h1, v, (hb.block b (heapLt h2)).trans h2, by
    refine ⟨h3.1, ?_⟩
    rcases h3.2 with h5 | ⟨g, cap, cur, h5, h6, h7, h8⟩
    · exact .inl h5
    · exact .inr ⟨g, cap, cur, h5, h6, (hb.block g (heapLt h7)).trans h7, h8⟩, h4⟩
  rcases h with h | h
  · exact .inl (key _ h)
  · exact .inr (key _ h)
theorem wstr_c (B b : Nat) (l s : List UInt8) (w : World) (h : Lib.IsBuilder 53 5 B b (Lib.byteCells l) w) (hlen : l.length + s.length ≤ 140737488355328) (hBw : B ≤ w.heap.size) :
    Calls Tryz.prog 29 #[.pointer (some ⟨b, 0, none⟩), .string (ba s)] w fun e w' => e = .returned (.tuple #[.int .i64 (ba s).size, .nilIface]) ∧ Lib.IsBuilder 53 5 B b (Lib.byteCells (l ++ s)) w' ∧ Below B w w' := by
  refine Calls.mono (Any.Builder_WriteString (ρ := Tryz.lays105_ren) { Tryz.lays105 with } Tryz.Builder_Extra_105 B b (Lib.byteCells l) (ba s) w h (by rw [Lib.byteCells_length, ba_len]; exact hlen) hBw) ?_
  rintro e w' ⟨he, h1, h2⟩
  refine ⟨he, .inr ?_, h2⟩
  have e1 : (ba s).data.toList = s := by simp [ba]
  have e2 : Lib.byteCells s = Lib.strCells (ba s) := by rw [Lib.strCells_eq, e1]
  rw [Lib.byteCells_append, e2]
  exact h1
theorem lay_c (x : Int) (w : World) (hI : Inv w) : Calls Tryz.prog 78 #[.int .u32 x] w fun e w' => e = .returned (.string (ba (layV x))) ∧ Below w.heap.size w w' := by
  have hh := (fLay12_ok 0 Inv know_inv).1.2 x _ (fLay12_any 0 x)
  refine (hh (fun _ _ => False) w #[.int .u32 x] hI (fun b o h => h.elim) ⟨drep_val (σ := noSt) (.int .u32 x), trivial⟩).mono ?_
  rintro e w' ⟨u, Pc', rfl, hb, _, _, hv⟩
  have hv' : u = .string (ba (layV x)) := of_val (σ := noSt) hv
  rw [hv']
  exact ⟨rfl, hb⟩
theorem run_index8 (w : World) (cl : Array Value) (k : Nat) (x : Int) (hk : k < 8) (h : cl[k]? = some (.int .u32 x)) : (Instr.index 71 (.agg cl) (.int .i64 (k : Int))).run Tryz.prog w = .ok (.int .u32 x) w := by
  have hkk : (k : Int) < 8 := by omega
  simp [Instr.index, Sem.run_bind, asIntOf, run_underlying Tryz.underlying71 w, hkk, part, Tryz.sizeOf69 w, Tryz.isAgg69 w, h, Result.andThen]
  intro h8
  omega
def textS (l : List Int) : List UInt8 := l.flatMap layV
theorem textS_length (l : List Int) : (textS l).length = 4 * l.length := by
  induction l with
  | nil => rfl
  | cons a t ih => rw [textS, List.flatMap_cons, List.length_append, layV_length]; unfold textS at ih; rw [ih, List.length_cons]; omega
theorem textS_succ {l : List Int} {k : Nat} (h : k < l.length) : textS (l.take (k + 1)) = textS (l.take k) ++ layV (l.getD k 0) := by
  rw [List.take_succ_eq_append_getElem h, textS, List.flatMap_append, List.getD_eq_getElem?_getD, List.getElem?_eq_getElem h]
  simp [textS]
set_option maxHeartbeats 4000000 in
set_option maxRecDepth 1000000 in
theorem text_c (l : List Int) (hl : l.length = 8) (w : World) (hI : Inv w) : Calls Tryz.prog 50 #[.agg (wV l).toArray] w fun e w' => e = .returned (.string (ba (textS l))) ∧ Below w.heap.size w w' := by
  obtain ⟨A, hA⟩ : ∃ A, A = textS l := ⟨_, rfl⟩
  rw [← hA]
  have HA := hid hA
  clear hA
  obtain ⟨cl, hcl⟩ : ∃ cl, (wV l).toArray = cl := ⟨_, rfl⟩
  rw [hcl]
  have HL := hid hcl
  have s1 : cl.size = 8 := by rw [← hcl, List.size_toArray, wV_length, hl]
  have o1 : cl.all (·.oneCell') = true := hcl ▸ wV_one l
  have hget : ∀ k : Nat, k < 8 → cl[k]? = some (.int .u32 (l.getD k 0)) := fun k hk => by
    rw [← hcl, List.getElem?_toArray, wV_get (by omega), List.getD_eq_getElem?_getD, List.getElem?_eq_getElem (by omega)]
    rfl
  clear hcl
  have HLL := hid hl
  clear hl
  go_enter Tryz.func50, Tryz.ntmps50
  go_upto_region 2 with (fail)
  have hnew := Go.Lib.fresh_isBuilder 53 5 (w.alloc (Obj.cells cl 71))
  rw [World.size_alloc] at hnew
  obtain ⟨W, hW⟩ : ∃ W, (w.alloc (Obj.cells cl 71)).alloc (Obj.cells #[Value.pointer none, Value.slice none 0 0] 53) = W := ⟨_, rfl⟩
  have a0 : HasArr W w.heap.size 71 l := hW ▸ (HL.out ▸ HasArr.new w _ _ : HasArr (w.alloc (Obj.cells cl 71)) w.heap.size 71 l).alloc _
  have hB0 : Below w.heap.size w W := hW ▸ ((Below.refl _ _).alloc (Nat.le_refl _) _).alloc (by simp) _
  have hBs : w.heap.size + 1 ≤ W.heap.size := by rw [← hW]; simp
  rw [hW] at hnew ⊢
  clear hW
  have hlen : (wV l).length = 8 := by rw [wV_length]; exact HLL.out
  refine wp_region_lit ?_
  refine wpList_load_mid rfl 71 (.tmp 1) rfl w.heap.size 0 rfl (wV l) _ a0.range Tryz.underlying71 rfl (by rw [hlen]; kernel_rfl) ?_
  rw [HL.out]
  have HN := hid hnew
  clear hnew a0
  go_wp2_with fail
  go_loopw [7] (fun i wr => ∃ k : Nat, k ≤ 8 ∧ i = .int .i64 k ∧ Lib.IsBuilder 53 5 (w.heap.size + 1) (w.heap.size + 1) (Lib.byteCells (textS (l.take k))) wr ∧ w.heap.size + 1 ≤ wr.heap.size ∧ Below w.heap.size w wr) (fun i _ => 8 - (RowKit.intOf i).toNat)
  case atStart => exact ⟨0, by omega, rfl, HN.out, hBs, hB0⟩
  case round =>
    obtain ⟨k, hk, rfl, hb, hsz, hbel⟩ := hrel
    clear hB0 hBs HN
    have hIr := hI.below hbel
    have HBB := hid hb
    clear hb
    have htl : (textS (l.take k)).length = 4 * k := by rw [textS_length, List.length_take, HLL.out, Nat.min_eq_left hk]
    by_cases hkl : k < 8
    · have hgk := hget k hkl
      have hly := lay_c (l.getD k 0) wr hIr
      have hsu := textS_succ (l := l) (k := k) (by rw [HLL.out]; exact hkl)
      obtain ⟨x, hx⟩ : ∃ x, l.getD k 0 = x := ⟨_, rfl⟩
      rw [hx] at hgk hly hsu
      have g0 : (k : Int) < 8 := by omega
      have hix := fun w => run_index8 w cl k x hkl hgk
      have HSU := hid hsu
      clear hx hsu
      clear hget
      go_wp2_with fail
      refine hly.mono ?_
      rintro e W1 ⟨rfl, hb1⟩
      have hB1 := hbel.trans (hb1.mono hbel.size)
      have hw := wstr_c (w.heap.size + 1) (w.heap.size + 1) (textS (l.take k)) (layV x) W1 (bld_below HBB.out hb1) (by rw [htl, layV_length]; omega) (Nat.le_trans hsz hb1.size)
      rw [← HSU.out] at hw
      clear hly hix
      go_wp2_with fail
      refine hw.mono ?_
      rintro e W2 ⟨rfl, hb2, hbb⟩
      have HB2 := hid hb2
      clear hw hb2
      go_wp2_with fail
      go_roundw
      case rel => exact ⟨k + 1, by omega, by go_num, HB2.out, Nat.le_trans hsz (Nat.le_trans hb1.size hbb.size), hB1.trans (hbb.mono (by omega))⟩
      case measure => simp [RowKit.intOf]; omega
    · obtain rfl : k = 8 := by omega
      have hst := HBB.out
      rw [List.take_of_length_le (by rw [HLL.out]; exact Nat.le_refl _), ← HA.out] at hst
      have hs := Tryz.Builder_String_any (w.heap.size + 1) (w.heap.size + 1) A wr hst hsz
      clear hst HBB HA hget htl
      go_wp2_with fail
      refine hs.mono ?_
      rintro e W2 ⟨rfl, hb2⟩
      clear hs
      go_wp2_with fail
      go_ret
      exact ⟨rfl, hbel.trans (hb2.mono (by omega))⟩
/-! ### Hex -/
def lays167_ren : Go.Shelf.Ren := ⟨fun | 167 => 47 | n => Tryz.lays105_ren.f n, Tryz.lays105_ren.t, Tryz.lays105_ren.g⟩
theorem lays167 : Go.Proofs.Lays.n167 Tryz.prog lays167_ren := { Tryz.lays105 with
  f167 := Tryz.func47.trans (congrArg some (by kernel_rfl))
  f240 := Tryz.func45.trans (congrArg some (by kernel_rfl))
  f276 := Tryz.func72.trans (congrArg some (by kernel_rfl)) }
set_option maxRecDepth 100000 in
theorem extra167 : Builder.Extra Tryz.prog lays167_ren := {
  sizeBuilder := by kernel_rfl
  liesBuilder := by kernel_rfl
  t5 := Tryz.underlying5
  a5 := Tryz.isAgg5
  z5 := Tryz.sizeOf5
  v5 := Tryz.zeroValue5
  infoByte := by kernel_rfl
  cellsByte := by kernel_rfl
  sizeByte := by kernel_rfl
  neB5 := by decide }
theorem wbyte_c (B b : Nat) (l : List UInt8) (c : UInt8) (w : World) (h : Lib.IsBuilder 53 5 B b (Lib.byteCells l) w) (hlen : l.length ≤ 1000000000) (hBw : B ≤ w.heap.size) :
    Calls Tryz.prog 47 #[.pointer (some ⟨b, 0, none⟩), .int .u8 (c.toNat : Int)] w fun e w' => e = .returned .nilIface ∧ Lib.IsBuilder 53 5 B b (Lib.byteCells (l ++ [c])) w' ∧ Below B w w' := by
  refine Calls.mono (Any.Builder_WriteByte (ρ := lays167_ren) lays167 extra167 B b (Lib.byteCells l) (c.toNat : Int) w h (by rw [Lib.byteCells_length]; omega) hBw) ?_
  rintro e w' ⟨he, h1, h2⟩
  refine ⟨he, .inr ?_, h2⟩
  rw [Lib.byteCells_append]
  exact h1
end YtngbpbncipjimabGreatDoor.AM.Dg
end Go.Proofs

/- Layer 12: Pad. -/
namespace Go.Proofs
open Go.RowKit Go.Shelf Go.Lib
attribute [local go_sem] Oper.semAt_some
set_option linter.unusedVariables false
set_option linter.unusedSimpArgs false
namespace YtngbpbncipjimabGreatDoor.AM.Dg
def zerosN (n : Nat) : Nat := (64 - (n + 9) % 64) % 64
def padS (n : Nat) : List UInt8 := [128] ++ List.replicate (zerosN n) 0 ++ layV ((8 * n / 4294967296 : Nat) : Int) ++ layV ((8 * n % 4294967296 : Nat) : Int)
def padI (n : Int) : List UInt8 := if n < 0 ∨ 1099511627776 < n then [] else padS n.toNat
theorem repeatL_zero : ∀ c : Nat, Lib.repeatL [0] c = List.replicate c 0
  | 0 => rfl
  | c + 1 => by
    have := repeatL_zero c
    show [0] ++ Lib.repeatL [0] c = _
    rw [this]
    rfl
theorem rep_zero (c : Nat) (hc : c ≤ 1000) (w : World) : Calls Tryz.prog 77 #[.string ⟨#[0]⟩, .int .i64 c] w fun e w' => e = .returned (.string (ba (List.replicate c 0))) ∧ Below w.heap.size w w' := by
  refine (Tryz.strings_Repeat ⟨#[0]⟩ c w (by omega) (by show 1 * c ≤ _; omega)).mono ?_
  rintro e w' ⟨he, hb⟩
  refine ⟨he.trans ?_, hb⟩
  show Ending.returned (.string ⟨(Lib.repeatL [0] c).toArray⟩) = _
  rw [repeatL_zero]
  rfl
set_option maxHeartbeats 4000000 in
set_option maxRecDepth 1000000 in
theorem pad_c (n : Int) (h0 : -9223372036854775808 ≤ n) (h1 : n ≤ 9223372036854775807) (w : World) (hI : Inv w) : Calls Tryz.prog 49 #[.int .i64 n] w fun e w' => e = .returned (.string (ba (padI n))) ∧ Below w.heap.size w w' := by
  obtain ⟨A, hA⟩ : ∃ A, A = padI n := ⟨_, rfl⟩
  rw [← hA]
  have HA := hid hA
  clear hA
  by_cases hn : n < 0
  · have hA := HA.out
    unfold padI at hA
    rw [if_pos (Or.inl hn)] at hA
    subst hA
    clear HA
    go_enter Tryz.func49, Tryz.ntmps49
    go_wp2_with fail
    go_ret
    exact ⟨rfl, Below.refl _ _⟩
  by_cases hn2 : 1099511627776 < n
  · have hA := HA.out
    unfold padI at hA
    rw [if_pos (Or.inr hn2)] at hA
    subst hA
    clear HA
    go_enter Tryz.func49, Tryz.ntmps49
    go_wp2_with fail
    go_ret
    exact ⟨rfl, Below.refl _ _⟩
  have hA := HA.out
  unfold padI at hA
  rw [if_neg (by omega)] at hA
  obtain ⟨m, rfl⟩ := Int.eq_ofNat_of_zero_le (show 0 ≤ n by omega)
  rw [Int.toNat_natCast] at hA
  have HA2 := hid hA
  clear hA HA h0 h1 hn
  have hm : m ≤ 1099511627776 := by omega
  go_enter Tryz.func49, Tryz.ntmps49
  go_wp2_with fail
  have e : (-(((m : Int) + 1 + 8) % 64) % 64) = ((zerosN m : Nat) : Int) := by unfold zerosN; omega
  simp only [e]
  have hz : zerosN m < 64 := by unfold zerosN; omega
  have hrp := rep_zero (zerosN m) (by omega) w
  obtain ⟨Z, hZ⟩ : ∃ Z, List.replicate (zerosN m) (0 : UInt8) = Z := ⟨_, rfl⟩
  have hzs : (ba Z).size = zerosN m := by rw [ba_len, ← hZ, List.length_replicate]
  rw [hZ] at hrp
  refine hrp.mono ?_
  rintro e1 W1 ⟨rfl, b1⟩
  clear e hrp
  obtain ⟨L1, hL1⟩ : ∃ L1, layV ((8 * m / 4294967296 : Nat) : Int) = L1 := ⟨_, rfl⟩
  obtain ⟨L2, hL2⟩ : ∃ L2, layV ((8 * m % 4294967296 : Nat) : Int) = L2 := ⟨_, rfl⟩
  have l1 : (ba L1).size = 4 := by rw [ba_len, ← hL1]; rfl
  have l2 : (ba L2).size = 4 := by rw [ba_len, ← hL2]; rfl
  have hy1 := lay_c ((8 * m / 4294967296 : Nat) : Int) W1 (hI.below b1)
  have x1 : ((8 * m / 4294967296 : Nat) : Int) = 8 * (m : Int) / 4294967296 := by omega
  have x2 : ((8 * m % 4294967296 : Nat) : Int) = 8 * (m : Int) % 4294967296 := by omega
  have hy2 := fun W hi => lay_c ((8 * m % 4294967296 : Nat) : Int) W hi
  rw [hL1, x1] at hy1
  rw [hL2, x2] at hy2
  have hA := HA2.out
  unfold padS at hA
  rw [hZ, hL1, hL2] at hA
  have HA3 := hid hA
  clear hA HA2 hZ hL1 hL2 x1 x2
  go_wp2_with fail
  refine hy1.mono ?_
  rintro e1 W2 ⟨rfl, b2⟩
  have B2 := b1.trans (b2.mono b1.size)
  clear hy1
  go_wp2_with fail
  refine (hy2 _ (hI.below B2)).mono ?_
  rintro e1 W3 ⟨rfl, b3⟩
  have B3 := B2.trans (b3.mono B2.size)
  clear hy2
  go_wp2_with fail
  go_ret
  refine ⟨?_, B3⟩
  rw [HA3.out]
  have e128 : (ByteArray.mk #[128]) = ba [128] := rfl
  rw [e128, ba_append, ba_append, ba_append]
  rfl
end YtngbpbncipjimabGreatDoor.AM.Dg
end Go.Proofs

/- Layer 12: Block, Of. -/
namespace Go.Proofs
open Go.RowKit Go.Shelf Go.Lib
attribute [local go_sem] Oper.semAt_some
set_option linter.unusedVariables false
set_option linter.unusedSimpArgs false
namespace YtngbpbncipjimabGreatDoor.AM.Dg
end YtngbpbncipjimabGreatDoor.AM.Dg
end Go.Proofs

/- Layer 12: Of. -/
namespace Go.Proofs
open Go.RowKit Go.Shelf Go.Lib
attribute [local go_sem] Oper.semAt_some
set_option linter.unusedVariables false
set_option linter.unusedSimpArgs false
namespace YtngbpbncipjimabGreatDoor.AM.Dg
def ofS (s : List UInt8) : List UInt8 := textS (thrS (thrS H8 (s.take (s.length / 64 * 64))) (s.drop (s.length / 64 * 64) ++ padS s.length))
theorem thrS_length {l : List Int} (h : l.length = 8) (s : List UInt8) : (thrS l s).length = 8 := thrN_length _ _ h
theorem padS_length (n : Nat) : (padS n).length = 9 + zerosN n := by unfold padS; simp [layV_length]; omega
set_option maxHeartbeats 4000000 in
set_option maxRecDepth 1000000 in
theorem of_c (s : List UInt8) (hs : s.length ≤ 900000) (w : World) (hI : Inv w) : Calls Tryz.prog 31 #[.string (ba s)] w fun e w' => e = .returned (.string (ba (ofS s))) ∧ Below w.heap.size w w' := by
  obtain ⟨A, hA⟩ : ∃ A, A = ofS s := ⟨_, rfl⟩
  rw [← hA]
  have HA := hid hA
  clear hA
  have hsz : (ba s).size = s.length := ba_len s
  obtain ⟨q, hq⟩ : ∃ q, s.length / 64 * 64 = q := ⟨_, rfl⟩
  have hq0 : q ≤ s.length := by omega
  obtain ⟨Y, hY⟩ : ∃ Y, thrS H8 (s.take q) = Y := ⟨_, rfl⟩
  have hYl : Y.length = 8 := by rw [← hY]; exact thrS_length rfl _
  obtain ⟨y0, y1, y2, y3, y4, y5, y6, y7, rfl⟩ := list8 hYl
  obtain ⟨P, hP⟩ : ∃ P, padS s.length = P := ⟨_, rfl⟩
  have hPl : P.length ≤ 73 := by rw [← hP, padS_length]; unfold zerosN; omega
  have hPI : padI (s.length : Int) = P := by unfold padI; rw [if_neg (by omega), Int.toNat_natCast, hP]
  obtain ⟨T, hT⟩ : ∃ T, s.drop q ++ P = T := ⟨_, rfl⟩
  have hTl : T.length ≤ 1000000 := by rw [← hT, List.length_append, List.length_drop]; omega
  obtain ⟨Z, hZ⟩ : ∃ Z, thrS [y0, y1, y2, y3, y4, y5, y6, y7] T = Z := ⟨_, rfl⟩
  have hZl : Z.length = 8 := by rw [← hZ]; exact thrS_length rfl _
  obtain ⟨x0, x1, x2, x3, x4, x5, x6, x7, rfl⟩ := list8 hZl
  have hA : A = textS [x0, x1, x2, x3, x4, x5, x6, x7] := by
    rw [HA.out, ← hZ, ← hT, ← hY, ← hP, ← hq]
    rfl
  have C1 : ∀ W, Inv W → Calls Tryz.prog 48 #[.agg #[.int .u32 1779033703, .int .u32 3144134277, .int .u32 1013904242, .int .u32 2773480762, .int .u32 1359893119, .int .u32 2600822924, .int .u32 528734635, .int .u32 1541459225], .string (ba (s.take q))] W fun e w' => e = .returned (.agg #[.int .u32 y0, .int .u32 y1, .int .u32 y2, .int .u32 y3, .int .u32 y4, .int .u32 y5, .int .u32 y6, .int .u32 y7]) ∧ Below W.heap.size W w' := fun W hi => by
    have := through_c H8 (s.take q) rfl (by rw [List.length_take]; omega) W hi
    rw [hY] at this
    exact this
  have C2 : ∀ W, Inv W → Calls Tryz.prog 48 #[.agg #[.int .u32 y0, .int .u32 y1, .int .u32 y2, .int .u32 y3, .int .u32 y4, .int .u32 y5, .int .u32 y6, .int .u32 y7], .string (ba T)] W fun e w' => e = .returned (.agg #[.int .u32 x0, .int .u32 x1, .int .u32 x2, .int .u32 x3, .int .u32 x4, .int .u32 x5, .int .u32 x6, .int .u32 x7]) ∧ Below W.heap.size W w' := fun W hi => by
    have := through_c [y0, y1, y2, y3, y4, y5, y6, y7] T rfl hTl W hi
    rw [hZ] at this
    exact this
  have C3 : ∀ W, Inv W → Calls Tryz.prog 49 #[.int .i64 s.length] W fun e w' => e = .returned (.string (ba P)) ∧ Below W.heap.size W w' := fun W hi => by
    have := pad_c s.length (by omega) (by omega) W hi
    rw [hPI] at this
    exact this
  have C4 : ∀ W, Inv W → Calls Tryz.prog 50 #[.agg #[.int .u32 x0, .int .u32 x1, .int .u32 x2, .int .u32 x3, .int .u32 x4, .int .u32 x5, .int .u32 x6, .int .u32 x7]] W fun e w' => e = .returned (.string (ba A)) ∧ Below W.heap.size W w' := fun W hi => by
    have := text_c [x0, x1, x2, x3, x4, x5, x6, x7] rfl W hi
    rw [← hA] at this
    exact this
  have K1 := hid C1; have K2 := hid C2; have K3 := hid C3; have K4 := hid C4
  have HT := hid hT
  have hPs : (ba P).size ≤ 73 := by rw [ba_len]; exact hPl
  have E1 : (ba s).extract 0 q = ba (s.take q) := by rw [ba_extract, List.drop_zero, Nat.sub_zero]
  have E2 : (ba s).extract q s.length = ba (s.drop q) := by rw [ba_extract, List.take_of_length_le (by rw [List.length_drop]; exact Nat.le_refl _)]
  have dsz : (ba (s.drop q)).size = s.length - q := by rw [ba_len, List.length_drop]
  have qi : (s.length : Int) / 64 * 64 = (q : Int) := by omega
  have qi2 : ((s.length : Int) / 64) * 64 = (q : Int) := qi
  clear C1 C2 C3 C4 hA hZ hZl hTl hT hPI hPl hP hY hYl HA
  have c0 : w.cell? ⟨0, 0, none⟩ = some (.int .u32 1779033703) := hI.squares 0 _ rfl
  have c1 : w.cell? ⟨0, 1, none⟩ = some (.int .u32 3144134277) := hI.squares 1 _ rfl
  have c2 : w.cell? ⟨0, 2, none⟩ = some (.int .u32 1013904242) := hI.squares 2 _ rfl
  have c3 : w.cell? ⟨0, 3, none⟩ = some (.int .u32 2773480762) := hI.squares 3 _ rfl
  have c4 : w.cell? ⟨0, 4, none⟩ = some (.int .u32 1359893119) := hI.squares 4 _ rfl
  have c5 : w.cell? ⟨0, 5, none⟩ = some (.int .u32 2600822924) := hI.squares 5 _ rfl
  have c6 : w.cell? ⟨0, 6, none⟩ = some (.int .u32 528734635) := hI.squares 6 _ rfl
  have c7 : w.cell? ⟨0, 7, none⟩ = some (.int .u32 1541459225) := hI.squares 7 _ rfl
  go_enter Tryz.func31, Tryz.ntmps31
  go_wp2_with fail
  clear c0 c1 c2 c3 c4 c5 c6 c7
  obtain ⟨W, hW⟩ : ∃ W, w.alloc (Obj.cells #[Value.int IntKind.u32 1779033703, Value.int IntKind.u32 3144134277, Value.int IntKind.u32 1013904242, Value.int IntKind.u32 2773480762, Value.int IntKind.u32 1359893119, Value.int IntKind.u32 2600822924, Value.int IntKind.u32 528734635, Value.int IntKind.u32 1541459225] 71) = W := ⟨_, rfl⟩
  have a0 : HasArr W w.heap.size 71 [1779033703, 3144134277, 1013904242, 2773480762, 1359893119, 2600822924, 528734635, 1541459225] := hW ▸ HasArr.new w 71 [1779033703, 3144134277, 1013904242, 2773480762, 1359893119, 2600822924, 528734635, 1541459225]
  have hB0 : Below w.heap.size w W := hW ▸ (Below.refl _ _).alloc (Nat.le_refl _) _
  rw [hW]
  clear hW
  have I0 := hI.below hB0
  have HA0 := hid a0
  obtain ⟨c0, c1, c2, c3, c4, c5, c6, c7⟩ := a0.cells8
  clear a0
  have qg : (q : Int) ≤ (s.length : Int) := by omega
  go_region_law (first
    | (go_simp; go_at_call 48; refine (K1.out _ I0.drew).mono ?_; rintro e W1 ⟨rfl, b1⟩; have B1 : Below W.heap.size W W1 := (Below.refl _ _).drew.trans b1; have H1 := hid (HA0.out.below B1 HA0.out.lt); obtain ⟨c10, c11, c12, c13, c14, c15, c16, c17⟩ := H1.out.cells8; have f10 := H1.out.frozen 0; have f11 := H1.out.frozen 1; have f12 := H1.out.frozen 2; have f13 := H1.out.frozen 3; have f14 := H1.out.frozen 4; have f15 := H1.out.frozen 5; have f16 := H1.out.frozen 6; have f17 := H1.out.frozen 7; dsimp only))
  all_goals go_wp2_with fail
  change Code.wp _ _ _ _ (put8 W1 w.heap.size y0 y1 y2 y3 y4 y5 y6 y7)
  obtain ⟨W2, hW2⟩ : ∃ W2, put8 W1 w.heap.size y0 y1 y2 y3 y4 y5 y6 y7 = W2 := ⟨_, rfl⟩
  have h2 : HasArr W2 w.heap.size 71 [y0, y1, y2, y3, y4, y5, y6, y7] := hW2 ▸ H1.out.set8 y0 y1 y2 y3 y4 y5 y6 y7
  have B2 : Below w.heap.size w W2 := hW2 ▸ put8_below (hB0.trans (B1.mono hB0.size)) (Nat.le_refl _) y0 y1 y2 y3 y4 y5 y6 y7
  rw [hW2]
  clear hW2 c0 c1 c2 c3 c4 c5 c6 c7 c10 c11 c12 c13 c14 c15 c16 c17 f10 f11 f12 f13 f14 f15 f16 f17 b1 B1 hB0 I0 HA0 H1
  have I2 := hI.below B2
  have HA2 := hid h2
  obtain ⟨c0, c1, c2, c3, c4, c5, c6, c7⟩ := h2.cells8
  clear h2
  have E3 : ba (s.drop q) ++ ba P = ba T := by rw [ba_append, HT.out]
  have hg2 : ¬ (9223372036854775807 < s.length - q + (ba P).size) := by omega
  go_region_law (first
    | (go_simp; go_at_call 49; refine (K3.out _ I2.drew).mono ?_; rintro e W3 ⟨rfl, b3⟩; have B3 : Below W2.heap.size W2 W3 := (Below.refl _ _).drew.trans b3; have I3 := I2.below B3; have H3 := hid (HA2.out.below B3 HA2.out.lt); obtain ⟨c30, c31, c32, c33, c34, c35, c36, c37⟩ := H3.out.cells8; dsimp only)
    | (go_simp; go_at_call 48; refine (K2.out _ I3).mono ?_; rintro e W4 ⟨rfl, b4⟩; have B4 : Below W2.heap.size W2 W4 := B3.trans (b4.mono B3.size); have H4 := hid (HA2.out.below B4 HA2.out.lt); obtain ⟨c40, c41, c42, c43, c44, c45, c46, c47⟩ := H4.out.cells8; have f40 := H4.out.frozen 0; have f41 := H4.out.frozen 1; have f42 := H4.out.frozen 2; have f43 := H4.out.frozen 3; have f44 := H4.out.frozen 4; have f45 := H4.out.frozen 5; have f46 := H4.out.frozen 6; have f47 := H4.out.frozen 7; dsimp only))
  all_goals
    go_wp2_with fail
    have B5 : Below w.heap.size w (put8 W4 w.heap.size x0 x1 x2 x3 x4 x5 x6 x7) := put8_below (B2.trans (B4.mono B2.size)) (Nat.le_refl _) x0 x1 x2 x3 x4 x5 x6 x7
    refine (K4.out (put8 W4 w.heap.size x0 x1 x2 x3 x4 x5 x6 x7) (hI.below B5)).mono ?_
    rintro e W6 ⟨rfl, b6⟩
    go_wp2_with fail
    go_ret
    exact ⟨rfl, B5.trans (b6.mono B5.size)⟩
end YtngbpbncipjimabGreatDoor.AM.Dg
end Go.Proofs

/- Layer 12: Hex. -/
namespace Go.Proofs
open Go.RowKit Go.Shelf Go.Lib
attribute [local go_sem] Oper.semAt_some
set_option linter.unusedVariables false
set_option linter.unusedSimpArgs false
namespace YtngbpbncipjimabGreatDoor.AM.Dg
def digT : List UInt8 := [48, 49, 50, 51, 52, 53, 54, 55, 56, 57, 97, 98, 99, 100, 101, 102]
def hexB (c : UInt8) : List UInt8 := [digT.getD (c.toNat / 16) 0, digT.getD (c.toNat % 16) 0]
def hexS (s : List UInt8) : List UInt8 := s.flatMap hexB
theorem hexS_length (s : List UInt8) : (hexS s).length = 2 * s.length := by
  induction s with
  | nil => rfl
  | cons a t ih => rw [hexS, List.flatMap_cons, List.length_append]; unfold hexS at ih; rw [ih, List.length_cons]; simp [hexB]; omega
theorem hexS_succ {s : List UInt8} {k : Nat} (h : k < s.length) : hexS (s.take (k + 1)) = (hexS (s.take k) ++ [digT.getD (s[k].toNat / 16) 0]) ++ [digT.getD (s[k].toNat % 16) 0] := by
  rw [List.take_succ_eq_append_getElem h, hexS, List.flatMap_append]
  simp [hexS, hexB]
theorem digT_at (n : Nat) (h : n < (ByteArray.mk #[48, 49, 50, 51, 52, 53, 54, 55, 56, 57, 97, 98, 99, 100, 101, 102]).size) : (ByteArray.mk #[48, 49, 50, 51, 52, 53, 54, 55, 56, 57, 97, 98, 99, 100, 101, 102])[n]'h = digT.getD n 0 := by
  have h2 : n < digT.length := h
  rw [List.getD_eq_getElem?_getD, List.getElem?_eq_getElem h2]
  rfl
set_option maxHeartbeats 4000000 in
set_option maxRecDepth 1000000 in
theorem hex_c (s : List UInt8) (hs : s.length ≤ 1000000) (w : World) : Calls Tryz.prog 30 #[.string (ba s)] w fun e w' => e = .returned (.string (ba (hexS s))) ∧ Below w.heap.size w w' := by
  obtain ⟨A, hA⟩ : ∃ A, A = hexS s := ⟨_, rfl⟩
  rw [← hA]
  have HA := hid hA
  clear hA
  have hsz : (ba s).size = s.length := ba_len s
  have hgr := Tryz.Builder_Grow_fresh w.heap.size w.heap.size (2 * s.length) (w.alloc (Obj.cells #[Value.pointer none, Value.slice none 0 0] 53)) (Nat.le_refl _) (heap_alloc_new w _) (by simp) (by omega)
  have e2 : (((2 * s.length : Nat) : Nat) : Int) = 2 * (s.length : Int) := by omega
  rw [e2] at hgr
  clear e2
  go_enter Tryz.func30, Tryz.ntmps30
  go_wp2_with fail
  refine hgr.mono ?_
  rintro e W ⟨rfl, hb, hbel⟩
  have hB0 : Below w.heap.size w W := ((Below.refl _ _).alloc (Nat.le_refl _) _).trans hbel
  have HN := hid (Or.inr hb : Lib.IsBuilder 53 5 w.heap.size w.heap.size (Lib.byteCells []) W)
  have hBs : w.heap.size ≤ W.heap.size := hB0.size
  clear hgr hb hbel
  go_wp2_with fail
  go_loopw [11] (fun i wr => ∃ k : Nat, k ≤ s.length ∧ i = .int .i64 k ∧ Lib.IsBuilder 53 5 w.heap.size w.heap.size (Lib.byteCells (hexS (s.take k))) wr ∧ Below w.heap.size w wr) (fun i _ => s.length - (RowKit.intOf i).toNat)
  case atStart => exact ⟨0, by omega, rfl, HN.out, hB0⟩
  case round =>
    obtain ⟨k, hk, rfl, hb, hbel⟩ := hrel
    clear hB0 hBs HN
    have HBB := hid hb
    clear hb
    have htl : (hexS (s.take k)).length = 2 * k := by rw [hexS_length, List.length_take, Nat.min_eq_left hk]
    by_cases hkl : k < s.length
    · have hsu := hexS_succ hkl
      have hgk : (ba s)[k]'(by rw [hsz]; exact hkl) = s[k] := by rfl
      obtain ⟨c, hc⟩ : ∃ c, s[k] = c := ⟨_, rfl⟩
      rw [hc] at hsu hgk
      have hcl := UInt8.toNat_lt c
      have g0 : (k : Int) < (s.length : Int) := by omega
      have g1 : k < (ba s).size := by omega
      have HSU := hid hsu
      clear hsu hc
      go_wp2_with fail
      refine (wbyte_c w.heap.size w.heap.size (hexS (s.take k)) _ wr HBB.out (by rw [htl]; omega) hbel.size).mono ?_
      rintro e W1 ⟨rfl, hb1, hbb1⟩
      rw [digT_at] at hb1
      have HB1 := hid hb1
      clear hb1
      have hB1 := hbel.trans hbb1
      go_wp2_with fail
      refine (wbyte_c w.heap.size w.heap.size _ _ W1 HB1.out (by rw [List.length_append, htl]; simp; omega) hB1.size).mono ?_
      rintro e W2 ⟨rfl, hb2, hbb2⟩
      rw [digT_at, ← HSU.out] at hb2
      have HB2 := hid hb2
      clear hb2
      have hB2 := hB1.trans hbb2
      go_wp2_with fail
      go_roundw
      case rel => exact ⟨k + 1, by omega, by go_num, HB2.out, hB2⟩
      case measure => simp [RowKit.intOf]; omega
    · obtain rfl : k = s.length := by omega
      have hst := HBB.out
      rw [List.take_length, ← HA.out] at hst
      have hs := Tryz.Builder_String_any w.heap.size w.heap.size A wr hst hbel.size
      clear hst HBB HA htl
      go_wp2_with fail
      refine hs.mono ?_
      rintro e W2 ⟨rfl, hb2⟩
      clear hs
      go_wp2_with fail
      go_ret
      exact ⟨rfl, hbel.trans hb2⟩
end YtngbpbncipjimabGreatDoor.AM.Dg
end Go.Proofs

/- Layer 12: the contracts of Of, Hex, Pad, Block as the machine takes them. -/
namespace Go.Proofs
open Go.RowKit Go.Shelf Go.Lib
set_option linter.unusedVariables false
set_option linter.unusedSimpArgs false
namespace YtngbpbncipjimabGreatDoor.AM.Dg
end YtngbpbncipjimabGreatDoor.AM.Dg
end Go.Proofs

/- Layer 14, second part: what functions come to, as plain functions of data: written by program (shal.py); the kernel checks it. -/
namespace Go.Proofs.YtngbpbncipjimabGreatDoor.AM
open Go.RowKit
set_option linter.unusedVariables false
set_option maxRecDepth 20000
/-! armada/tree.Owner -/
def tOwner_lts (n : Nat) : List LC := []
def tOwner_t (n : Nat) (a1 : List (List UInt8 × (List UInt8))) (a2 : List UInt8) : Option ((List UInt8) × (Bool)) :=
  (tDirs_t a1).bind fun (r1 : List (List UInt8)) => (towner_t n r1 a2).bind fun (r2 : (List UInt8) × (Bool)) => some r2
def tOwner_fc (n : Nat) : FC := { f := 12, args := [.one (.c (.d (.lst (.prod .str .str)))), .one (.c (.d .str))], res := .tup [.c (.d .str), .c (.d .bool)], F := fun p => tOwner_t n p.1 p.2 }
def tOwner_ct (n : Nat) : List FC := [tDirs_fc, towner_fc n]
theorem tOwner_ctok (n : Nat) {G : World → Prop} (hG : Know Inv G) : ∀ c ∈ tOwner_ct n, FCok Tryz.prog G c ∧ noTup c.args = true := List.forall_mem_cons.2 ⟨tDirs_ok G hG, List.forall_mem_cons.2 ⟨towner_ok n G hG, (fun _ h => by cases h)⟩⟩
def tOwner_dh : Hints := []
theorem tOwner_dr : drB tOwner_dh (bodyOf Tryz.f12) = true := by kernel_rfl
theorem tOwner_eq (n : Nat) : ∀ a, (tOwner_fc n).F a = main Tryz.prog 12 (tOwner_ct n) (tOwner_lts n) tOwner_dh (bodyOf Tryz.f12) [.tmp 4, .tmp 5] (tOwner_fc n).args (tOwner_fc n).res a := by intro a; kernel_rfl
theorem tOwner_ok (n : Nat) : FCall Inv Tryz.prog (tOwner_fc n) := fun G hG => ⟨⟨by kernel_rfl, fun a r h => main_ok (c := bodyOf Tryz.f12) Tryz.func12 (by kernel_rfl) (by kernel_rfl) (Nat.le_of_ble_eq_true (by kernel_rfl)) hG.st (by kernel_rfl) (rs := [.tmp 4, .tmp 5]) (by kernel_rfl) (tOwner_ctok n hG) (lts := tOwner_lts n) (fun F hF hFG => have hK : Know Inv F.G := hFG ▸ hG; (lok_of fun j L h1 h2 h3 => absurd h2 (Nat.not_lt.2 (Nat.le_trans (by decide +kernel) h1)))) tOwner_dr ((tOwner_eq n a).symm.trans h)⟩, rfl⟩
/-! armada/tree.Owned -/
@[reducible] def tOwned_sh0 : SSt := ⟨[(1, .one (.c (.d .str))), (5, .one (.c (.d (.lst .str)))), (6, .one (.c (.row 35))), (13, .one (.c (.d (.lst (.prod .str .str))))), (14, .one (.c (.d (.int .i64)))), (15, .one (.c (.d (.int .i64))))], [], [(35, ⟨31, true, (.prod .str .str)⟩)]⟩
@[reducible] def tOwned_outs0 : List (Exit × SSt) := [(.exit 0, ⟨[(6, .one (.c (.row 35)))], [], [(35, ⟨31, true, (.prod .str .str)⟩)]⟩)]
def tOwned_l0 (n : Nat) (rec : (List UInt8) → (List (List UInt8)) → (List (List UInt8 × (List UInt8))) → Int → Int → (List (List UInt8 × (List UInt8))) → Option ((Unit × (Unit)) × (Unit) × ((List (List UInt8 × (List UInt8))) × (Unit)))) (a1 : List UInt8) (a2 : List (List UInt8)) (a3 : List (List UInt8 × (List UInt8))) (a4 : Int) (a5 : Int) (a6 : List (List UInt8 × (List UInt8))) : Option ((Unit × (Unit)) × (Unit) × ((List (List UInt8 × (List UInt8))) × (Unit))) :=
  (bif decide (a5 < a4) then (idxL a3 a5).bind fun (x2 : List UInt8 × (List UInt8)) => (towner_t n a2 x2.1).bind fun (r3 : (List UInt8) × (Bool)) => (bif r3.2 then (bif decide (r3.1 = a1) then (appO 32 a6 ([x2] : List (List UInt8 × (List UInt8)))).bind fun (l4 : List (List UInt8 × (List UInt8))) => letO (IntKind.wrap .i64 (a5 + (1 : Int))) fun (n5 : Int) => rec a1 a2 a3 a4 n5 l4 else letO (IntKind.wrap .i64 (a5 + (1 : Int))) fun (n6 : Int) => rec a1 a2 a3 a4 n6 a6) else letO (IntKind.wrap .i64 (a5 + (1 : Int))) fun (n7 : Int) => rec a1 a2 a3 a4 n7 a6) else some ((((), ()), ((), (a6, ())))))
def tOwned_F0 (n : Nat) (rec : pSt tOwned_sh0 → Option (pOuts tOwned_outs0)) (p : pSt tOwned_sh0) : Option (pOuts tOwned_outs0) := tOwned_l0 n (fun a1 a2 a3 a4 a5 a6 => rec ((a1, (a2, ((), (a3, (a4, (a5, ())))))), ((), (a6, ())))) p.1.1 p.1.2.1 p.1.2.2.2.1 p.1.2.2.2.2.1 p.1.2.2.2.2.2.1 p.2.2.1
def tOwned_loop0 (n m : Nat) (a1 : List UInt8) (a2 : List (List UInt8)) (a3 : List (List UInt8 × (List UInt8))) (a4 : Int) (a5 : Int) (a6 : List (List UInt8 × (List UInt8))) : Option ((Unit × (Unit)) × (Unit) × ((List (List UInt8 × (List UInt8))) × (Unit))) := iterF (tOwned_F0 n) m ((a1, (a2, ((), (a3, (a4, (a5, ())))))), ((), (a6, ())))
theorem tOwned_loop0_succ (n m : Nat) (a1 : List UInt8) (a2 : List (List UInt8)) (a3 : List (List UInt8 × (List UInt8))) (a4 : Int) (a5 : Int) (a6 : List (List UInt8 × (List UInt8))) : tOwned_loop0 n (m + 1) a1 a2 a3 a4 a5 a6 = tOwned_l0 n (fun a1 a2 a3 a4 a5 a6 => tOwned_loop0 n m a1 a2 a3 a4 a5 a6) a1 a2 a3 a4 a5 a6 := rfl
def tOwned_L0 (n : Nat) : LC := { sh := tOwned_sh0, outs := tOwned_outs0, F := iterF (tOwned_F0 n) n }
def tOwned_lts (n : Nat) : List LC := [tOwned_L0 n]
def tOwned_t (n : Nat) (a1 : List (List UInt8 × (List UInt8))) (a2 : List UInt8) : Option (List (List UInt8 × (List UInt8))) :=
  (tDirs_t a1).bind fun (r1 : List (List UInt8)) => (tOwned_loop0 n n a2 r1 a1 ((List.length a1 : Nat) : Int) (0 : Int) []).bind fun (o8 : (Unit × (Unit)) × (Unit) × ((List (List UInt8 × (List UInt8))) × (Unit))) => some o8.2.2.1
def tOwned_fc (n : Nat) : FC := { f := 11, args := [.one (.c (.d (.lst (.prod .str .str)))), .one (.c (.d .str))], res := .one (.c (.d (.lst (.prod .str .str)))), F := fun p => tOwned_t n p.1 p.2 }
def tOwned_ct (n : Nat) : List FC := [tDirs_fc, towner_fc n]
theorem tOwned_ctok (n : Nat) {G : World → Prop} (hG : Know Inv G) : ∀ c ∈ tOwned_ct n, FCok Tryz.prog G c ∧ noTup c.args = true := List.forall_mem_cons.2 ⟨tDirs_ok G hG, List.forall_mem_cons.2 ⟨towner_ok n G hG, (fun _ h => by cases h)⟩⟩
def tOwned_dh : Hints := []
theorem tOwned_dr : drB tOwned_dh (bodyOf Tryz.f11) = true := by kernel_rfl
theorem tOwned_eq0 (n : Nat) : ∀ rec p, tOwned_F0 n rec p = round Tryz.prog 38 (tOwned_ct n) (tOwned_lts n) tOwned_dh 1 tOwned_sh0 tOwned_outs0 (bodyAt 0 0 (bodyOf Tryz.f11)) rec p := by intro rec p; kernel_rfl
theorem tOwned_lok0 (n : Nat) {F : Fr} (hF : F.n = 38) (hK : Know Inv F.G) : LCok Tryz.prog F (tOwned_L0 n) (bodyAt 0 0 (bodyOf Tryz.f11)) :=
  loop_ok hF (by kernel_rfl) (tOwned_ctok n hK) (tOwned_eq0 n) (fuel := n) (fun _ => rfl) (lok_of fun j L h1 h2 h3 => absurd h2 (Nat.not_lt.2 (Nat.le_trans (by decide +kernel) h1))) (drB_at tOwned_dr)
theorem tOwned_eq (n : Nat) : ∀ a, (tOwned_fc n).F a = main Tryz.prog 38 (tOwned_ct n) (tOwned_lts n) tOwned_dh (bodyOf Tryz.f11) [.tmp 4] (tOwned_fc n).args (tOwned_fc n).res a := by intro a; kernel_rfl
theorem tOwned_ok (n : Nat) : FCall Inv Tryz.prog (tOwned_fc n) := fun G hG => ⟨⟨by kernel_rfl, fun a r h => main_ok (c := bodyOf Tryz.f11) Tryz.func11 (by kernel_rfl) (by kernel_rfl) (Nat.le_of_ble_eq_true (by kernel_rfl)) hG.st (by kernel_rfl) (rs := [.tmp 4]) (by kernel_rfl) (tOwned_ctok n hG) (lts := tOwned_lts n) (fun F hF hFG => have hK : Know Inv F.G := hFG ▸ hG; (lok_of (c := (bodyOf Tryz.f11)) (fun j L h1 h2 h3 => by
    have h2' : j < 1 := Nat.lt_of_lt_of_le h2 (by decide +kernel)
    match j, h1, h2', h3 with
    | 0, _, _, h3 => obtain rfl := Option.some.inj h3; exact (show bodyAt 0 0 (bodyOf Tryz.f11) = bodyAt 0 0 (bodyOf Tryz.f11) by kernel_rfl) ▸ tOwned_lok0 n hF hK
    | j + 1, _, h2', _ => exact absurd h2' (by omega)))) tOwned_dr ((tOwned_eq n a).symm.trans h)⟩, rfl⟩
/-! armada/tree.IsHash -/
def tIsHash_lts (n : Nat) : List LC := []
def tIsHash_t (n : Nat) (a1 : List UInt8) : Option (Bool) :=
  (CutPrefix_t n a1 ([104, 49, 58] : List UInt8)).bind fun (r1 : (List UInt8) × (Bool)) => (bif !r1.2 then some false else (Bs.fDec13_t r1.1).bind fun (r2 : (List UInt8) × (Bool)) => (bif r2.2 then some (decide (((List.length r2.1 : Nat) : Int) = (32 : Int))) else some false))
def tIsHash_fc (n : Nat) : FC := { f := 19, args := [.one (.c (.d .str))], res := .one (.c (.d .bool)), F := fun p => tIsHash_t n p }
def tIsHash_ct (n : Nat) : List FC := [CutPrefix_fc n, Bs.fDec13_fc]
theorem tIsHash_ctok (n : Nat) {G : World → Prop} (hG : Know Inv G) : ∀ c ∈ tIsHash_ct n, FCok Tryz.prog G c ∧ noTup c.args = true := List.forall_mem_cons.2 ⟨CutPrefix_ok n G hG, List.forall_mem_cons.2 ⟨Bs.fDec13_ok G hG, (fun _ h => by cases h)⟩⟩
def tIsHash_dh : Hints := []
theorem tIsHash_dr : drB tIsHash_dh (bodyOf Tryz.f19) = true := by kernel_rfl
theorem tIsHash_eq (n : Nat) : ∀ a, (tIsHash_fc n).F a = main Tryz.prog 24 (tIsHash_ct n) (tIsHash_lts n) tIsHash_dh (bodyOf Tryz.f19) [.tmp 2] (tIsHash_fc n).args (tIsHash_fc n).res a := by intro a; kernel_rfl
theorem tIsHash_ok (n : Nat) : FCall Inv Tryz.prog (tIsHash_fc n) := fun G hG => ⟨⟨by kernel_rfl, fun a r h => main_ok (c := bodyOf Tryz.f19) Tryz.func19 (by kernel_rfl) (by kernel_rfl) (Nat.le_of_ble_eq_true (by kernel_rfl)) hG.st (by kernel_rfl) (rs := [.tmp 2]) (by kernel_rfl) (tIsHash_ctok n hG) (lts := tIsHash_lts n) (fun F hF hFG => have hK : Know Inv F.G := hFG ▸ hG; (lok_of fun j L h1 h2 h3 => absurd h2 (Nat.not_lt.2 (Nat.le_trans (by decide +kernel) h1)))) tIsHash_dr ((tIsHash_eq n a).symm.trans h)⟩, rfl⟩
end Go.Proofs.YtngbpbncipjimabGreatDoor.AM

/- Layer 14: Owner, Owned, IsHash. -/
namespace Go.Proofs.YtngbpbncipjimabGreatDoor.AM
open Go.RowKit
set_option linter.unusedVariables false
set_option linter.unusedSimpArgs false
theorem dirsL_mem {l : List FD} {d : List UInt8} (h : d ∈ dirsL l) : ∃ f ∈ l, isMod f = true ∧ baseS f.1 = d := by
  unfold dirsL at h
  obtain ⟨f, hf, rfl⟩ := List.mem_map.1 h
  obtain ⟨h1, h2⟩ := List.mem_filter.1 hf
  exact ⟨f, h1, h2, rfl⟩
theorem dirsS_mem {l : List FD} {d : List UInt8} : d ∈ dirsS l ↔ mayS l = true ∧ d ∈ dirsL l := by
  unfold dirsS
  split
  · rename_i h
    rw [List.mem_mergeSort]
    exact ⟨fun x => ⟨h, x⟩, fun x => x.2⟩
  · rename_i h
    exact ⟨fun x => absurd x List.not_mem_nil, fun x => absurd x.1 h⟩
theorem dirsS_len (l : List FD) : (dirsS l).length ≤ l.length := by
  unfold dirsS
  split
  · rw [List.length_mergeSort]; exact dirsL_len l
  · exact Nat.zero_le _
theorem dirs_short {l : List FD} {d : List UInt8} (h : d ∈ dirsS l) : d.length ≤ 60 := by
  obtain ⟨hm, hd⟩ := dirsS_mem.1 h
  obtain ⟨f, hf, _, rfl⟩ := dirsL_mem hd
  obtain ⟨_, m2, _⟩ := (may_iff l).1 hm
  have := (path_parts (okF_parts (m2 f hf)).1).1
  have := base_len f.1
  omega
theorem towner_l (n : Nat) (l : List FD) (p : List UInt8) (hl : l.length ≤ 1000000) (hp : p.length ≤ 100000) (hn : l.length < n) : towner_t n (dirsS l) p = some (ownS (dirsS l) p) :=
  towner_spec n _ p hp (fun d hd => by have := dirs_short hd; omega) (Nat.le_trans (dirsS_len l) hl) (Nat.lt_of_le_of_lt (dirsS_len l) hn)
theorem tOwner_spec (n : Nat) (l : List FD) (p : List UInt8) (hl : l.length ≤ 1000000) (hp : p.length ≤ 100000) (hn : l.length < n) : tOwner_t n l p = some (ownS (dirsS l) p) := by
  unfold tOwner_t
  rw [tDirs_some hl, Option.bind_some, towner_l n l p hl hp hn]
  rfl
def ownedD (dirs : List (List UInt8)) (l : List FD) (d : List UInt8) : List FD := l.filter fun f => (ownS dirs f.1).2 && decide ((ownS dirs f.1).1 = d)
def ownedS (l : List FD) (d : List UInt8) : List FD := ownedD (dirsS l) l d
theorem owned_loop (n : Nat) (dirs : List (List UInt8)) (d : List UInt8) (l : List FD) (hl : l.length ≤ 1000000) (ho : ∀ f ∈ l, towner_t n dirs f.1 = some (ownS dirs f.1)) : ∀ (m j : Nat) (acc : List FD), j ≤ l.length → l.length - j < m → acc.length ≤ j →
    tOwned_loop0 n m d dirs l ((l.length : Nat) : Int) (j : Int) acc = some ((((), ()), ((), (acc ++ ownedD dirs (l.drop j) d, ()))))
  | 0, j, acc, _, h, _ => absurd h (Nat.not_lt_zero _)
  | m + 1, j, acc, hj, h, ha => by
    rw [tOwned_loop0_succ]
    unfold tOwned_l0
    by_cases c : j < l.length
    · have ih := fun acc => owned_loop n dirs d l hl ho m (j + 1) acc (by omega) (by omega)
      rw [decide_eq_true (by omega), cond_true, idx_lt c, Option.bind_some, ho _ (List.getElem_mem c), Option.bind_some, List.drop_eq_getElem_cons c, wrap_succ (by omega)]
      unfold ownedD
      rw [List.filter_cons]
      cases h1 : (ownS dirs (l[j]).1).2 with
      | false =>
        rw [cond_false, letO_some, Bool.false_and, if_neg (by decide)]
        exact ih acc (by omega)
      | true =>
        rw [cond_true, Bool.true_and]
        by_cases h2 : (ownS dirs (l[j]).1).1 = d
        · rw [decide_eq_true h2, cond_true, if_pos rfl, app32 (by omega), Option.bind_some, letO_some]
          have := ih (acc ++ [l[j]]) (by simp; omega)
          rw [List.append_assoc] at this
          exact this
        · rw [decide_eq_false h2, cond_false, if_neg (by decide), letO_some]
          exact ih acc (by omega)
    · obtain rfl : j = l.length := by omega
      rw [decide_eq_false (by omega), cond_false, List.drop_length]
      show _ = some ((((), ()), ((), (acc ++ [], ()))))
      rw [List.append_nil]
theorem tOwned_spec (n : Nat) (l : List FD) (d : List UInt8) (hl : l.length ≤ 1000000) (hp : ∀ f ∈ l, f.1.length ≤ 100000) (hn : l.length < n) : tOwned_t n l d = some (ownedS l d) := by
  unfold tOwned_t
  have h := owned_loop n (dirsS l) d l hl (fun f hf => towner_l n l f.1 hl (hp f hf) hn) n 0 [] (Nat.zero_le _) (by omega) (Nat.le_refl _)
  rw [show ((0 : Nat) : Int) = (0 : Int) from rfl, List.drop_zero, List.nil_append] at h
  rw [tDirs_some hl, Option.bind_some, h]
  rfl
def h1L : List UInt8 := [104, 49, 58]
def isHashS (s : List UInt8) : Bool := decide (h1L <+: s) && ((Bs.decS (s.drop 3)).2 && decide ((Bs.decS (s.drop 3)).1.length = 32))
theorem tIsHash_spec (n : Nat) (s : List UInt8) (hs : s.length ≤ 100000) : tIsHash_t n s = some (isHashS s) := by
  unfold tIsHash_t isHashS
  have hc := CutPre_spec n s h1L (by omega) (by decide)
  unfold h1L at hc
  rw [hc, Option.bind_some]
  unfold h1L
  by_cases h : ([104, 49, 58] : List UInt8) <+: s
  · rw [if_pos h, decide_eq_true h, Bool.not_true, cond_false, Bs.fDec13_some (by show (s.drop 3).length ≤ 1000000; rw [List.length_drop]; omega), Option.bind_some, Bool.true_and]
    show (bif (Bs.decS (s.drop 3)).2 then some (decide ((((Bs.decS (s.drop 3)).1.length : Nat) : Int) = 32)) else some false) = _
    cases (Bs.decS (s.drop 3)).2 with
    | false => rfl
    | true =>
      rw [cond_true, Bool.true_and]
      congr 1
      exact decide_eq_decide.2 ⟨fun h => by omega, fun h => by omega⟩
  · rw [if_neg h, decide_eq_false h]
    rfl
end Go.Proofs.YtngbpbncipjimabGreatDoor.AM

/- Layer 14: a builder, and what lies above it. -/
namespace Go.Proofs
open Go.RowKit Go.Shelf Go.Lib
attribute [local go_sem] Oper.semAt_some
set_option linter.unusedVariables false
set_option linter.unusedSimpArgs false
namespace YtngbpbncipjimabGreatDoor.AM
/-- a builder at b, whose row (if any) lies from B on -/
def BldX (B b : Nat) (l : List UInt8) (w : World) : Prop := ∃ p v, (p = .pointer none ∨ p = .pointer (some ⟨b, 0, none⟩)) ∧ w.heap[b]? = some (.cells #[p, v] 53 (0, 0)) ∧ w.ownsRow B 5 1 v (Lib.byteCells l).length (Lib.byteCells l)
/-- all blocks below B stand, but b -/
structure KeptX (B b : Nat) (w w' : World) : Prop where
  os : w'.os = w.os
  tape : w'.tape = w.tape
  output : w'.output = w.output
  size : w.heap.size ≤ w'.heap.size
  block : ∀ k, k < B → k ≠ b → w'.heap[k]? = w.heap[k]?
theorem KeptX.refl (B b : Nat) (w : World) : KeptX B b w w := ⟨rfl, rfl, rfl, Nat.le_refl _, fun _ _ _ => rfl⟩
theorem KeptX.trans {B b : Nat} {u v w : World} (h : KeptX B b u v) (k : KeptX B b v w) : KeptX B b u w :=
  ⟨k.os.trans h.os, k.tape.trans h.tape, k.output.trans h.output, Nat.le_trans h.size k.size, fun j hj hn => (k.block j hj hn).trans (h.block j hj hn)⟩
theorem keptX_of {B C b : Nat} {w w' : World} (h : Below C w w') (hC : B ≤ C) : KeptX B b w w' :=
  ⟨h.os, h.tape, h.output, h.size, fun k hk _ => h.block k (Nat.lt_of_lt_of_le hk hC)⟩
theorem KeptX.below {B C b : Nat} {w w' : World} (h : KeptX B b w w') (hC : C ≤ B) (hb : C ≤ b) : Below C w w' :=
  ⟨h.os, h.tape, h.output, h.size, fun k hk => h.block k (Nat.lt_of_lt_of_le hk hC) (by omega)⟩
theorem KeptX.cell {B b : Nat} {w w' : World} (h : KeptX B b w w') {p : Addr} (hp : p.block < B) (hn : p.block ≠ b) : w'.cell? p = w.cell? p := World.cell?_of_block (h.block _ hp hn)
theorem BldX.below {B b : Nat} {l : List UInt8} {w w' : World} (h : BldX B b l w) (hb : Below w.heap.size w w') : BldX B b l w' := by
  obtain ⟨p, v, h1, h2, h3⟩ := h
  exact ⟨p, v, h1, (hb.block b (heapLt h2)).trans h2, own_below h3 hb⟩
theorem BldX.is {B b : Nat} {l : List UInt8} {w : World} (h : BldX B b l w) (hb : b < B) : Lib.IsBuilder 53 5 b b (Lib.byteCells l) w := by
  obtain ⟨p, v, h1, h2, h3⟩ := h
  have h4 : w.ownsRow b 5 1 v (Lib.byteCells l).length (Lib.byteCells l) := by
    refine ⟨h3.1, ?_⟩
    rcases h3.2 with h5 | ⟨g, cap, cur, h5, h6, h7⟩
    · exact .inl h5
    · exact .inr ⟨g, cap, cur, h5, by omega, h7⟩
  have h5 : v.ownBlock ≠ some b := fun e => by have := (h3.lt b e).1; omega
  rcases h1 with rfl | rfl
  · exact .inl ⟨Nat.le_refl _, v, h2, h4, h5⟩
  · exact .inr ⟨Nat.le_refl _, v, h2, h4, h5⟩
set_option maxHeartbeats 4000000 in
set_option maxRecDepth 1000000 in
theorem wstr_x (B b : Nat) (l s : List UInt8) (w : World) (h : BldX B b l w) (hbB : b < B) (hlen : l.length + s.length ≤ 140737488355328) (hBw : B ≤ w.heap.size) :
    Calls Tryz.prog 29 #[.pointer (some ⟨b, 0, none⟩), .string (ba s)] w fun e w' => (∃ v, e = .returned v) ∧ BldX B b (l ++ s) w' ∧ KeptX B b w w' := by
  have hib := Tryz.Builder_Extra_165.infoByte
  have hne5 := Tryz.Builder_Extra_165.neB5
  obtain ⟨i0, hi, hz0, hz1, hz2⟩ := info_parts hib
  have cC : Calls Tryz.prog 45 #[.pointer (some ⟨b, 0, none⟩)] w fun e w' => e = .returned (.tuple #[]) ∧ (∃ v, w'.heap[b]? = some (.cells #[.pointer (some ⟨b, 0, none⟩), v] 53 (0, 0)) ∧ w'.ownsRow B 5 1 v (Lib.byteCells l).length (Lib.byteCells l)) ∧ KeptX B b w w' := by
    obtain ⟨p, v, hp, hbk, hown⟩ := h
    have hlt := heapLt hbk
    rcases hp with rfl | rfl
    · have h0 : w.cell? ⟨b, 0, none⟩ = some (.pointer none) := by rw [Lib.cell_of_heap hbk]; rfl
      refine (Any.Builder_copyCheck_fresh (ρ := Tryz.lays165_ren) { Tryz.lays165 with } Tryz.Builder_Extra_165.toX72 b w h0 (by simp [World.shape?, hbk]; rfl) (Lib.frozen_of_heap hbk 0)).mono ?_
      rintro e w' ⟨rfl, rfl⟩
      refine ⟨rfl, ⟨v, ?_, ?_⟩, ?_⟩
      · have h1 : Lib.BuilderAt 53 5 b b (.pointer none) (Lib.byteCells l) w := by
          rcases (BldX.is ⟨_, v, .inl rfl, hbk, hown⟩ hbB : Lib.IsBuilder 53 5 b b (Lib.byteCells l) w) with h | h
          · exact h
          · obtain ⟨_, v2, h2, _⟩ := h
            rw [hbk] at h2
            cases h2
        obtain ⟨_, v2, h3, h4, _⟩ := h1.used (.pointer (some ⟨b, 0, none⟩))
        have h5 : (w.setCell ⟨b, 0, none⟩ (.pointer (some ⟨b, 0, none⟩))).cell? ⟨b, 1, none⟩ = some v2 := by rw [Lib.cell_of_heap h3]; rfl
        have h6 : (w.setCell ⟨b, 0, none⟩ (.pointer (some ⟨b, 0, none⟩))).cell? ⟨b, 1, none⟩ = some v := by
          have h7 : w.cell? ⟨b, 1, none⟩ = some v := by rw [Lib.cell_of_heap hbk]; rfl
          exact (World.cell?_setCell_other w ⟨b, 0, none⟩ ⟨b, 1, none⟩ _ (by simp)).trans h7
        rw [h5] at h6
        rw [Option.some.inj h6] at h3
        exact h3
      · refine ⟨hown.1, ?_⟩
        rcases hown.2 with h5 | ⟨g, cap, cur, h5, h6, h7, h8⟩
        · exact .inl h5
        · refine .inr ⟨g, cap, cur, h5, h6, ?_, h8⟩
          rw [Below.heap_setCell _ _ _ _ (show g ≠ b by omega)]
          exact h7
      · exact ⟨rfl, rfl, rfl, ((Below.refl 0 w).setCell (p := ⟨b, 0, none⟩) (Nat.zero_le _) _).size, fun k _ hn => Below.heap_setCell _ _ _ _ hn⟩
    · have h0 : w.cell? ⟨b, 0, none⟩ = some (.pointer (some ⟨b, 0, none⟩)) := by rw [Lib.cell_of_heap hbk]; rfl
      refine (Any.Builder_copyCheck_used (ρ := Tryz.lays165_ren) { Tryz.lays165 with } Tryz.Builder_Extra_165.toX72 b w h0).mono ?_
      rintro e w' ⟨rfl, rfl⟩
      exact ⟨rfl, ⟨v, hbk, hown⟩, KeptX.refl _ _ _⟩
  have hbl : (Lib.byteCells l).length = l.length := Lib.byteCells_length l
  have hsz : (ba s).size = s.length := ba_len s
  have hst : Lib.strCells (ba s) = Lib.byteCells s := by rw [Lib.strCells_eq]; simp [ba]
  have hls : (Lib.byteCells (l ++ s)).length = (Lib.byteCells l).length + s.length := by rw [Lib.byteCells_length, List.length_append, hbl]
  have happ : Lib.byteCells (l ++ s) = Lib.byteCells l ++ Lib.byteCells s := Lib.byteCells_append l s
  go_enter Tryz.func29, Tryz.ntmps29
  go_wp2_with fail
  refine cC.mono ?_
  rintro e w1 ⟨rfl, ⟨v, hbk, hown⟩, hk1⟩
  clear cC
  have c0 : w1.cell? ⟨b, 0, none⟩ = some (.pointer (some ⟨b, 0, none⟩)) := by rw [Lib.cell_of_heap hbk]; rfl
  have c1 : w1.cell? ⟨b, 1, none⟩ = some v := by rw [Lib.cell_of_heap hbk]; rfl
  go_wp2_with (at_builtin; refine Lib.wpList_append_own_string _ rfl _ _ 51 9 rfl B 5 i0 Tryz.underlying51 Tryz.underlying9 hi hz0 hz1 hz2 _ _ _ rfl hown (ba s) rfl ?c3 ?c4 ?c5 ?_)
  case c3 => unfold maxLen; omega
  case c4 => omega
  case c5 => have := hk1.size; omega
  intro v' w2 hown' hgrow _
  have hlt := heapLt hbk
  have hne : v.ownBlock ≠ some b := fun e => by have := (hown.lt b e).1; omega
  have hb2 : w2.heap[b]? = some (.cells #[.pointer (some ⟨b, 0, none⟩), v] 53 (0, 0)) := by
    rw [hgrow.block b hlt (fun e => hne e.symm)]
    exact hbk
  have d0 : w2.cell? ⟨b, 0, none⟩ = some (.pointer (some ⟨b, 0, none⟩)) := by rw [Lib.cell_of_heap hb2]; rfl
  have d1 : w2.cell? ⟨b, 1, none⟩ = some v := by rw [Lib.cell_of_heap hb2]; rfl
  have f1 : w2.frozen? ⟨b, 1, none⟩ = false := Lib.frozen_of_heap hb2 1
  obtain ⟨ao, n', cap, rfl⟩ : ∃ ao n' cap, v' = .slice ao n' cap := by
    rcases hown'.2 with ⟨hv, _⟩ | ⟨g, cap, cur, hv, _⟩
    · exact ⟨_, _, _, hv⟩
    · exact ⟨_, _, _, hv⟩
  have hk2 : KeptX B b w1 w2 := ⟨hgrow.os, hgrow.tape, hgrow.output, hgrow.size, fun k hk hn => by
    refine hgrow.block k (by have := hk1.size; omega) (fun e => ?_)
    have := (hown.lt k e.symm).1
    omega⟩
  have HO := hid hown'
  clear hown' hown hgrow hst
  go_wp2
  go_ret2
  refine ⟨⟨_, rfl⟩, ?_, ?_⟩
  · have ho := HO.out
    refine ⟨.pointer (some ⟨b, 0, none⟩), .slice ao n' cap, .inr rfl, ?_, ?_⟩
    · have h1 : Lib.BuilderAt 53 5 b b (.pointer (some ⟨b, 0, none⟩)) (Lib.byteCells (l ++ s)) (w2.setCell ⟨b, 1, none⟩ (.slice ao n' cap)) := by
        refine Lib.BuilderAt.put (Nat.le_refl b) hb2 ?_ hne5
        rw [hls, hbl, happ]
        refine ⟨ho.1, ?_⟩
        rcases ho.2 with h5 | ⟨g, cp, cur, h5, h6, h7⟩
        · exact .inl h5
        · exact .inr ⟨g, cp, cur, h5, by omega, h7⟩
      obtain ⟨_, v2, h3, h4, _⟩ := h1
      have h5 : (w2.setCell ⟨b, 1, none⟩ (.slice ao n' cap)).cell? ⟨b, 1, none⟩ = some v2 := by rw [Lib.cell_of_heap h3]; rfl
      have h6 : (w2.setCell ⟨b, 1, none⟩ (.slice ao n' cap)).cell? ⟨b, 1, none⟩ = some (.slice ao n' cap) := World.cell?_setCell_same' _ _ _ (by rw [d1]; rfl)
      rw [h5] at h6
      rw [Option.some.inj h6] at h3
      exact h3
    · rw [hls, hbl, happ]
      refine ⟨ho.1, ?_⟩
      rcases ho.2 with h5 | ⟨g, cp, cur, h5, h6, h7, h8⟩
      · exact .inl h5
      · refine .inr ⟨g, cp, cur, h5, h6, ?_, h8⟩
        rw [Below.heap_setCell _ _ _ _ (show g ≠ b by omega)]
        exact h7
  · refine (hk1.trans hk2).trans ⟨rfl, rfl, rfl, ((Below.refl 0 w2).setCell (p := ⟨b, 1, none⟩) (Nat.zero_le _) _).size, fun k _ hn => Below.heap_setCell _ _ _ _ hn⟩
end YtngbpbncipjimabGreatDoor.AM
end Go.Proofs
