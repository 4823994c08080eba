/- One text of BsD, BsN, DigC, DigG0, DigS, DigQ, DigA, DigB, DigR, DigT (mk/pack.py). -/
import Derived.Test.YtngbpbncipjimabGreatDoorTq12
import Derived.Test.YtngbpbncipjimabGreatDoorTq6
import Derived.Deep.QuietTactic
import Derived.BigQuiet
import Derived.Lib.AgreeV
import Derived.Deep.RegionHeld3
import Derived.Deep.Cut
import Derived.Lib.EndianMore
import Derived.Lib.Hide
import Derived.StillTailTactics
import Derived.Deep.AppendLies
/- Layer 13: Decode. -/
namespace Go.Proofs
open Go.RowKit Go.Shelf Go.Lib
attribute [local go_sem] Oper.semAt_some
set_option linter.unusedVariables false
set_option linter.unusedSimpArgs false
namespace YtngbpbncipjimabGreatDoor.AM.Bs
def joinD (u : List UInt8) (p : List UInt8 × Bool) : List UInt8 × Bool := if p.2 = true then (u ++ p.1, true) else ([], false)
theorem join_nil (t : List UInt8) : decS t = joinD [] (decS t) := by
  unfold joinD
  obtain ⟨⟨x, b⟩, hd⟩ : ∃ p, decS t = p := ⟨_, rfl⟩
  rw [hd]
  cases b with
  | true => rfl
  | false => rw [(dec_not hd).1]; rfl
theorem join_join (u g : List UInt8) (p : List UInt8 × Bool) : joinD u (joinD g p) = joinD (u ++ g) p := by
  unfold joinD
  by_cases h : p.2 = true
  · simp [h]
  · simp [h]
theorem dec_step {t g : List UInt8} (h : rdS (t.take 4) g) (h2 : g.length = 3 ∨ t.length = 4) : decS t = joinD g (decS (t.drop 4)) := by
  obtain ⟨⟨x, b⟩, hd⟩ : ∃ p, decS (t.drop 4) = p := ⟨_, rfl⟩
  rw [hd]
  unfold joinD
  cases b with
  | true =>
    have hx := dec_of hd
    refine dec_yes ?_
    rcases h2 with h2 | h2
    · rw [enc_app _ _ (by rw [h2]), h.2.2, hx, List.take_append_drop]
    · have hn : t.drop 4 = [] := List.drop_eq_nil_of_le (by omega)
      rw [hn] at hx
      rw [enc_nil hx, List.append_nil, h.2.2, List.take_of_length_le (by omega)]
  | false =>
    refine dec_no fun s hs => ?_
    have h4 : t ≠ [] := fun e => by
      have := rd_len h
      rw [e] at this
      simp at this
    obtain ⟨g', r, _, h5, _⟩ := enc_split hs h4
    exact (dec_not hd).2 r h5
set_option maxHeartbeats 4000000 in
set_option maxRecDepth 1000000 in
theorem dec_c (s : List UInt8) (hs : s.length ≤ 1000000) (w : World) (hI : Inv w) : Calls Tryz.prog 35 #[.string (ba s)] w fun e w' => e = .returned (.tuple #[.string (ba (decS s).1), .bool (decS s).2]) ∧ Below w.heap.size w w' := by
  obtain ⟨A, hA⟩ : ∃ A, A = decS s := ⟨_, rfl⟩
  have hA0 := hA
  rw [join_nil] at hA0
  rw [← hA]
  have HA := hid hA0
  clear hA hA0
  have hsz : (ba s).size = s.length := ba_len s
  have hgr := Tryz.Builder_Grow_fresh w.heap.size w.heap.size (s.length / 4 * 3) (w.alloc (.cells #[.pointer none, .slice none 0 0] 53 (0, 0))) (Nat.le_refl _) (heap_alloc_new w _) (by simp) (by omega)
  have hq : (s.length : Int) / 4 * 3 = ((s.length / 4 * 3 : Nat) : Int) := by omega
  rw [← hq] at hgr
  clear hq
  go_enter Tryz.func35, Tryz.ntmps35
  go_wp2_with fail
  refine hgr.mono ?_
  rintro e W ⟨rfl, hb, hbel⟩
  have hB0 : Below w.heap.size w W := ((Below.refl _ _).alloc (Nat.le_refl _) _).trans hbel
  have HN := hid hb
  clear hgr hb hbel
  go_wp2_with fail
  go_loopw [0] (fun x wr => ∃ t : List UInt8, ∃ u : List UInt8, A = joinD u (decS t) ∧ u.length + t.length ≤ s.length ∧ x = .string (ba t) ∧ Lib.BuilderAt 53 5 w.heap.size w.heap.size (.pointer (some ⟨w.heap.size, 0, none⟩)) (Lib.byteCells u) wr ∧ Below w.heap.size w wr) (fun x _ => strLen x)
  case atStart => exact ⟨s, [], HA.out, by simp, rfl, HN.out, hB0⟩
  case round =>
    obtain ⟨t, u, hst, hu, rfl, hb, hbel⟩ := hrel
    clear hB0 HN HA
    have HBB := hid hb
    have HU := hid hu
    have HST := hid hst
    clear hb hu hst
    have htl : (ba t).size = t.length := ba_len t
    have hdat : (ba t).data.toList = t := by simp [ba]
    by_cases ht : t = []
    · subst ht
      have he : (ba []).toList.isEmpty = true := by rw [ByteArray.toList_eq]; rfl
      have hst2 := HST.out
      rw [dec_nil] at hst2
      have hA : A = (u ++ [], true) := hst2
      rw [List.append_nil] at hA
      subst hA
      have hs2 := Tryz.Builder_String_any w.heap.size w.heap.size u wr (.inr HBB.out) hbel.size
      clear HST hst2
      go_wp2_with fail
      refine hs2.mono ?_
      rintro e W2 ⟨rfl, hb2⟩
      clear hs2
      go_wp2_with fail
      go_ret2
      exact ⟨rfl, hbel.trans hb2⟩
    · have he : (ba t).toList.isEmpty = false := by rw [ByteArray.toList_eq, hdat]; simpa using ht
      by_cases h4 : t.length < 4
      · have h4' : (t.length : Int) < 4 := by omega
        have hst2 := HST.out
        rw [dec_short ht h4] at hst2
        have hA : A = ([], false) := hst2
        subst hA
        clear HST hst2
        go_wp2_with fail
        go_ret2
        exact ⟨rfl, hbel⟩
      · have h4' : ¬ (t.length : Int) < 4 := by omega
        have hge : (4 : Int) ≤ (t.length : Int) := by omega
        have hx1 : (ba t).extract 0 4 = ba (t.take 4) := by rw [ba_extract]; simp
        have hx2 : (ba t).extract 4 t.length = ba (t.drop 4) := by rw [ba_extract, List.take_of_length_le (by rw [List.length_drop]; omega)]
        have hrd := read_c (t.take 4) (by rw [List.length_take]; omega) wr (hI.below hbel)
        have HH4 := hid h4
        clear h4
        go_wp2_with fail
        refine hrd.mono ?_
        rintro e W1 ⟨⟨a, b, c, n, ok, rfl, hok⟩, hb1⟩
        clear hrd
        have hbel1 := hbel.trans (hb1.mono hbel.size)
        have hbad : (ok = false ∨ n < 3 ∧ 4 < t.length) → A = ([], false) := fun hor => by
          rw [HST.out, dec_bad ht fun g hg => ?_]
          · rfl
          · rcases hok with ⟨h1, h2, h3, h5⟩ | ⟨h1, h2⟩
            · have h6 := hor.resolve_left (by rw [h1]; decide)
              have h7 := rd_uniq hg h5
              rw [h7, List.length_take]
              exact ⟨by simp; omega, h6.2⟩
            · exact absurd hg (h2 g)
        have HOK := hid hok
        have HBAD := hid hbad
        clear hok hbad
        cases ok with
        | false =>
          have hA := HBAD.out (.inl rfl)
          subst hA
          clear HBAD HST
          go_wp2_with fail
          go_ret2
          exact ⟨rfl, hbel1.alloc hbel1.size _⟩
        | true =>
          have hok : 1 ≤ n ∧ n ≤ 3 ∧ rdS (t.take 4) ([a, b, c].take n) := by
            rcases HOK.out with ⟨_, h⟩ | ⟨h, _⟩
            · exact h
            · cases h
          obtain ⟨hn1, hn3, hrs⟩ := hok
          have hn3' : (n : Int) ≤ 3 := by omega
          have hn0' : (0 : Int) ≤ (n : Int) := by omega
          by_cases hc : n < 3 ∧ 4 < t.length
          · have hA := HBAD.out (.inr hc)
            subst hA
            have hc1 : (n : Int) < 3 := by omega
            have hc2 : (4 : Int) < (t.length : Int) := by omega
            clear HBAD HST
            go_wp2_with fail
            go_ret2
            exact ⟨rfl, hbel1.alloc hbel1.size _⟩
          · have hstep := dec_step hrs (by
              have hh := HH4.out
              have hl : ([a, b, c].take n).length = n := by rw [List.length_take]; simp; omega
              rw [hl]; omega)
            have hlen : (([a, b, c] : List UInt8).take n).length = n := by rw [List.length_take]; simp; omega
            obtain ⟨O, hO⟩ : ∃ O : Obj, O = .cells #[.int .u8 (a.toNat : Int), .int .u8 (b.toNat : Int), .int .u8 (c.toNat : Int)] 79 (0, 0) := ⟨_, rfl⟩
            have hal : (W1.alloc O).heap[W1.heap.size]? = some O := heap_alloc_new W1 O
            have hbA : Below w.heap.size w (W1.alloc O) := hbel1.alloc hbel1.size O
            have hwr := write_c w.heap.size w.heap.size u (([a, b, c] : List UInt8).take n) ⟨W1.heap.size, 0, none⟩ n 3 (W1.alloc O)
              (bldAt_below (bldAt_below HBB.out hb1) ((Below.refl _ _).alloc (Nat.le_refl _) O)) hlen
              (fun j v hj => by
                rw [hO] at hal ⊢
                have hj3 : (Lib.byteCells ([a, b, c] : List UInt8))[j]? = some v := by
                  unfold Lib.byteCells at hj ⊢
                  rw [List.getElem?_map] at hj ⊢
                  rw [List.getElem?_take] at hj
                  split at hj
                  · exact hj
                  · cases hj
                match j, hj3 with
                | 0, hj => rw [← hj]; exact Lib.cell_of_heap hal 0
                | 1, hj => rw [← hj]; exact Lib.cell_of_heap hal 1
                | 2, hj => rw [← hj]; exact Lib.cell_of_heap hal 2)
              (by have h6 := HU.out; omega) hbA.size
            rw [hO] at hwr hbA
            have hst2 := HST.out
            rw [hstep, join_join] at hst2
            have HST2 := hid hst2
            have HHC := hid hc
            clear hO hal HST hst2 hstep HBAD hrs
            have hrel2 : u.length + n + (t.length - 4) ≤ s.length := by have h6 := HU.out; have hh := HH4.out; omega
            by_cases hc1 : n < 3
            · have hc1' : (n : Int) < 3 := by omega
              have hc2' : ¬ (4 : Int) < (t.length : Int) := by have := HHC.out; omega
              clear hc1 hc
              go_wp2_with fail
              refine hwr.mono ?_
              rintro e W2 ⟨rfl, hbw, hbelw⟩
              have HBW := hid hbw
              clear hbw hwr
              have hbel2 := hbA.trans hbelw
              go_wp2_with fail
              go_roundw
              case rel => exact ⟨t.drop 4, u ++ ([a, b, c] : List UInt8).take n, HST2.out, by rw [List.length_append, hlen, List.length_drop]; exact hrel2, rfl, HBW.out, hbel2⟩
              case measure => show (ba (t.drop 4)).size < (ba t).size; rw [ba_len, ba_len, List.length_drop]; have hh := HH4.out; omega
            · have hc1' : ¬ (n : Int) < 3 := by omega
              clear hc1 hc
              go_wp2_with fail
              refine hwr.mono ?_
              rintro e W2 ⟨rfl, hbw, hbelw⟩
              have HBW := hid hbw
              clear hbw hwr
              have hbel2 := hbA.trans hbelw
              go_wp2_with fail
              go_roundw
              case rel => exact ⟨t.drop 4, u ++ ([a, b, c] : List UInt8).take n, HST2.out, by rw [List.length_append, hlen, List.length_drop]; exact hrel2, rfl, HBW.out, hbel2⟩
              case measure => show (ba (t.drop 4)).size < (ba t).size; rw [ba_len, ba_len, List.length_drop]; have hh := HH4.out; omega
end YtngbpbncipjimabGreatDoor.AM.Bs
end Go.Proofs

/- Layer 13: the contracts of Encode, Decode as the machine takes them. -/
namespace Go.Proofs
open Go.RowKit Go.Shelf Go.Lib
set_option linter.unusedVariables false
set_option linter.unusedSimpArgs false
namespace YtngbpbncipjimabGreatDoor.AM.Bs
def fDec13_t (s : List UInt8) : Option (List UInt8 × Bool) := if s.length ≤ 1000000 then some (decS s) else none
def fDec13_fc : FC := { f := 35, args := [strA], res := .tup [.c (.d .str), .c (.d .bool)], F := fun p => fDec13_t p }
theorem fDec13_ok : FCall Inv Tryz.prog fDec13_fc := fun G hG => ⟨⟨by kernel_rfl, fun (s : List UInt8) r h => by
  have h' : fDec13_t s = some r := h
  unfold fDec13_t at h'
  split at h'
  case isFalse => cases h'
  rename_i hc
  have hr : decS s = r := Option.some.inj h'
  intro Pc w vs hg hlt hv
  obtain ⟨vl⟩ := vs
  match vl, hv with
  | [x], ⟨h1, _⟩ =>
    obtain rfl : x = .string (ba s) := of_val h1
    refine (dec_c s hc w (hG.im w hg)).mono ?_
    rintro e w' ⟨rfl, hb⟩
    rw [hr]
    exact ⟨_, Pc, rfl, hb, fun b o hp => hp, fun b o hp => Or.inl hp, #[.string (ba r.1), .bool r.2], rfl, drep_val (σ := noSt) (.string (ba r.1)), drep_val (σ := noSt) (.bool r.2), trivial⟩⟩, rfl⟩
theorem fDec13_some {s : List UInt8} (h : s.length ≤ 1000000) : fDec13_t s = some (decS s) := by unfold fDec13_t; rw [if_pos h]
end YtngbpbncipjimabGreatDoor.AM.Bs
end Go.Proofs

/- Layer 14: in the place of layer 12's. -/

/- Layer 12, first part: what functions come to, as plain functions of data: written by program (shal.py); the kernel checks it. -/
namespace Go.Proofs.YtngbpbncipjimabGreatDoor.AM.Dg
open Go.RowKit
set_option linter.unusedVariables false
set_option maxRecDepth 20000
/-! math/bits.RotateLeft32 -/
def fRotl_lts (n : Nat) : List LC := []
def fRotl_t (n : Nat) (a1 : Int) (a2 : Int) : Option (Int) :=
  letO (IntKind.wrap .u64 a2) fun (n1 : Int) => letO (andI .u64 n1 (31 : Int)) fun (n2 : Int) => (shlO .u32 a1 n2).bind fun (n3 : Int) => letO (IntKind.wrap .u64 ((32 : Int) - n2)) fun (n4 : Int) => (shrO .u32 a1 n4).bind fun (n5 : Int) => letO (orI .u32 n3 n5) fun (n6 : Int) => some n6
def fRotl_fc (n : Nat) : FC := { f := 115, args := [.one (.c (.d (.int .u32))), .one (.c (.d (.int .i64)))], res := .one (.c (.d (.int .u32))), F := fun p => fRotl_t n p.1 p.2 }
def fRotl_ct (n : Nat) : List FC := []
theorem fRotl_ctok (n : Nat) {G : World → Prop} (hG : Know Inv G) : ∀ c ∈ fRotl_ct n, FCok Tryz.prog G c ∧ noTup c.args = true := (fun _ h => by cases h)
def fRotl_dh : Hints := []
theorem fRotl_dr : drB fRotl_dh (bodyOf Tryz.f115) = true := by kernel_rfl
theorem fRotl_eq (n : Nat) : ∀ a, (fRotl_fc n).F a = main Tryz.prog 17 (fRotl_ct n) (fRotl_lts n) fRotl_dh (bodyOf Tryz.f115) [.tmp 4] (fRotl_fc n).args (fRotl_fc n).res a := by intro a; kernel_rfl
theorem fRotl_ok (n : Nat) : FCall Inv Tryz.prog (fRotl_fc n) := fun G hG => ⟨⟨by kernel_rfl, fun a r h => main_ok (c := bodyOf Tryz.f115) Tryz.func115 (by kernel_rfl) (by kernel_rfl) (Nat.le_of_ble_eq_true (by kernel_rfl)) hG.st (by kernel_rfl) (rs := [.tmp 4]) (by kernel_rfl) (fRotl_ctok n hG) (lts := fRotl_lts n) (fun F hF hFG => have hK : Know Inv F.G := hFG ▸ hG; (lok_of fun j L h1 h2 h3 => absurd h2 (Nat.not_lt.2 (Nat.le_trans (by decide +kernel) h1)))) fRotl_dr ((fRotl_eq n a).symm.trans h)⟩, rfl⟩
/-! armada/digest.turn -/
def fTurn_lts (n : Nat) : List LC := []
def fTurn_t (n : Nat) (a1 : Int) (a2 : Int) : Option (Int) :=
  (fRotl_t n a1 (IntKind.wrap .i64 (0 - a2))).bind fun (r1 : Int) => some r1
def fTurn_fc (n : Nat) : FC := { f := 106, args := [.one (.c (.d (.int .u32))), .one (.c (.d (.int .i64)))], res := .one (.c (.d (.int .u32))), F := fun p => fTurn_t n p.1 p.2 }
def fTurn_ct (n : Nat) : List FC := [fRotl_fc n]
theorem fTurn_ctok (n : Nat) {G : World → Prop} (hG : Know Inv G) : ∀ c ∈ fTurn_ct n, FCok Tryz.prog G c ∧ noTup c.args = true := List.forall_mem_cons.2 ⟨fRotl_ok n G hG, (fun _ h => by cases h)⟩
def fTurn_dh : Hints := []
theorem fTurn_dr : drB fTurn_dh (bodyOf Tryz.f106) = true := by kernel_rfl
theorem fTurn_eq (n : Nat) : ∀ a, (fTurn_fc n).F a = main Tryz.prog 9 (fTurn_ct n) (fTurn_lts n) fTurn_dh (bodyOf Tryz.f106) [.tmp 4] (fTurn_fc n).args (fTurn_fc n).res a := by intro a; kernel_rfl
theorem fTurn_ok (n : Nat) : FCall Inv Tryz.prog (fTurn_fc n) := fun G hG => ⟨⟨by kernel_rfl, fun a r h => main_ok (c := bodyOf Tryz.f106) Tryz.func106 (by kernel_rfl) (by kernel_rfl) (Nat.le_of_ble_eq_true (by kernel_rfl)) hG.st (by kernel_rfl) (rs := [.tmp 4]) (by kernel_rfl) (fTurn_ctok n hG) (lts := fTurn_lts n) (fun F hF hFG => have hK : Know Inv F.G := hFG ▸ hG; (lok_of fun j L h1 h2 h3 => absurd h2 (Nat.not_lt.2 (Nat.le_trans (by decide +kernel) h1)))) fTurn_dr ((fTurn_eq n a).symm.trans h)⟩, rfl⟩
/-! armada/digest.mix -/
/-! armada/digest.mixLow -/
/-! armada/digest.word -/
@[reducible] def fWord_sh0 : SSt := ⟨[(0, .one (.c (.d .str))), (1, .one (.c (.d (.int .i64)))), (5, .one (.c (.d (.int .u32)))), (7, .one (.c (.d (.int .i64))))], [], []⟩
@[reducible] def fWord_outs0 : List (Exit × SSt) := [(.exit 0, ⟨[(5, .one (.c (.d (.int .u32))))], [], []⟩)]
def fWord_l0 (n : Nat) (rec : (List UInt8) → Int → Int → Int → Option ((Int × (Unit)) × (Unit) × (Unit))) (a1 : List UInt8) (a2 : Int) (a3 : Int) (a4 : Int) : Option ((Int × (Unit)) × (Unit) × (Unit)) :=
  (bif decide (a4 < (4 : Int)) then (shlO .u32 a3 (8 : Int)).bind fun (n1 : Int) => letO (IntKind.wrap .i64 (a2 * (4 : Int))) fun (n2 : Int) => letO (IntKind.wrap .i64 (n2 + a4)) fun (n3 : Int) => (sAt a1 n3).bind fun (c4 : Int) => letO (IntKind.wrap .u32 c4) fun (n5 : Int) => letO (orI .u32 n1 n5) fun (n6 : Int) => letO (IntKind.wrap .i64 (a4 + (1 : Int))) fun (n7 : Int) => rec a1 a2 n6 n7 else some (((a3, ()), ((), ()))))
def fWord_F0 (n : Nat) (rec : pSt fWord_sh0 → Option (pOuts fWord_outs0)) (p : pSt fWord_sh0) : Option (pOuts fWord_outs0) := fWord_l0 n (fun a1 a2 a3 a4 => rec ((a1, (a2, (a3, (a4, ())))), ((), ()))) p.1.1 p.1.2.1 p.1.2.2.1 p.1.2.2.2.1
def fWord_loop0 (n m : Nat) (a1 : List UInt8) (a2 : Int) (a3 : Int) (a4 : Int) : Option ((Int × (Unit)) × (Unit) × (Unit)) := iterF (fWord_F0 n) m ((a1, (a2, (a3, (a4, ())))), ((), ()))
theorem fWord_loop0_succ (n m : Nat) (a1 : List UInt8) (a2 : Int) (a3 : Int) (a4 : Int) : fWord_loop0 n (m + 1) a1 a2 a3 a4 = fWord_l0 n (fun a1 a2 a3 a4 => fWord_loop0 n m a1 a2 a3 a4) a1 a2 a3 a4 := rfl
def fWord_L0 (n : Nat) : LC := { sh := fWord_sh0, outs := fWord_outs0, F := iterF (fWord_F0 n) n }
def fWord_lts (n : Nat) : List LC := [fWord_L0 n]
def fWord_t (n : Nat) (a1 : List UInt8) (a2 : Int) : Option (Int) :=
  (fWord_loop0 n n a1 a2 (0 : Int) (0 : Int)).bind fun (o8 : (Int × (Unit)) × (Unit) × (Unit)) => some o8.1.1
def fWord_fc (n : Nat) : FC := { f := 93, args := [.one (.c (.d .str)), .one (.c (.d (.int .i64)))], res := .one (.c (.d (.int .u32))), F := fun p => fWord_t n p.1 p.2 }
def fWord_ct (n : Nat) : List FC := []
theorem fWord_ctok (n : Nat) {G : World → Prop} (hG : Know Inv G) : ∀ c ∈ fWord_ct n, FCok Tryz.prog G c ∧ noTup c.args = true := (fun _ h => by cases h)
def fWord_dh : Hints := []
theorem fWord_dr : drB fWord_dh (bodyOf Tryz.f93) = true := by kernel_rfl
theorem fWord_eq0 (n : Nat) : ∀ rec p, fWord_F0 n rec p = round Tryz.prog 22 (fWord_ct n) (fWord_lts n) fWord_dh 1 fWord_sh0 fWord_outs0 (bodyAt 0 0 (bodyOf Tryz.f93)) rec p := by intro rec p; kernel_rfl
theorem fWord_lok0 (n : Nat) {F : Fr} (hF : F.n = 22) (hK : Know Inv F.G) : LCok Tryz.prog F (fWord_L0 n) (bodyAt 0 0 (bodyOf Tryz.f93)) :=
  loop_ok hF (by kernel_rfl) (fWord_ctok n hK) (fWord_eq0 n) (fuel := n) (fun _ => rfl) (lok_of fun j L h1 h2 h3 => absurd h2 (Nat.not_lt.2 (Nat.le_trans (by decide +kernel) h1))) (drB_at fWord_dr)
theorem fWord_eq (n : Nat) : ∀ a, (fWord_fc n).F a = main Tryz.prog 22 (fWord_ct n) (fWord_lts n) fWord_dh (bodyOf Tryz.f93) [.tmp 4] (fWord_fc n).args (fWord_fc n).res a := by intro a; kernel_rfl
theorem fWord_ok (n : Nat) : FCall Inv Tryz.prog (fWord_fc n) := fun G hG => ⟨⟨by kernel_rfl, fun a r h => main_ok (c := bodyOf Tryz.f93) Tryz.func93 (by kernel_rfl) (by kernel_rfl) (Nat.le_of_ble_eq_true (by kernel_rfl)) hG.st (by kernel_rfl) (rs := [.tmp 4]) (by kernel_rfl) (fWord_ctok n hG) (lts := fWord_lts n) (fun F hF hFG => have hK : Know Inv F.G := hFG ▸ hG; (lok_of (c := (bodyOf Tryz.f93)) (fun j L h1 h2 h3 => by
    have h2' : j < 1 := Nat.lt_of_lt_of_le h2 (by decide +kernel)
    match j, h1, h2', h3 with
    | 0, _, _, h3 => obtain rfl := Option.some.inj h3; exact (show bodyAt 0 0 (bodyOf Tryz.f93) = bodyAt 0 0 (bodyOf Tryz.f93) by kernel_rfl) ▸ fWord_lok0 n hF hK
    | j + 1, _, h2', _ => exact absurd h2' (by omega)))) fWord_dr ((fWord_eq n a).symm.trans h)⟩, rfl⟩
/-! armada/digest.lay -/
def fLay12_lts (n : Nat) : List LC := []
def fLay12_t (n : Nat) (a1 : Int) : Option (List UInt8) :=
  (shrO .u32 a1 (24 : Int)).bind fun (n1 : Int) => letO (IntKind.wrap .u8 n1) fun (n2 : Int) => (shrO .u32 a1 (16 : Int)).bind fun (n3 : Int) => letO (IntKind.wrap .u8 n3) fun (n4 : Int) => (shrO .u32 a1 (8 : Int)).bind fun (n5 : Int) => letO (IntKind.wrap .u8 n5) fun (n6 : Int) => letO (IntKind.wrap .u8 a1) fun (n7 : Int) => some (List.map (fun n : Int => UInt8.ofNat n.toNat) ([n2, n4, n6, n7] : List (Int)))
def fLay12_fc (n : Nat) : FC := { f := 78, args := [.one (.c (.d (.int .u32)))], res := .one (.c (.d .str)), F := fun p => fLay12_t n p }
def fLay12_ct (n : Nat) : List FC := []
theorem fLay12_ctok (n : Nat) {G : World → Prop} (hG : Know Inv G) : ∀ c ∈ fLay12_ct n, FCok Tryz.prog G c ∧ noTup c.args = true := (fun _ h => by cases h)
def fLay12_dh : Hints := []
theorem fLay12_dr : drB fLay12_dh (bodyOf Tryz.f78) = true := by kernel_rfl
theorem fLay12_eq (n : Nat) : ∀ a, (fLay12_fc n).F a = main Tryz.prog 16 (fLay12_ct n) (fLay12_lts n) fLay12_dh (bodyOf Tryz.f78) [.tmp 2] (fLay12_fc n).args (fLay12_fc n).res a := by intro a; kernel_rfl
theorem fLay12_ok (n : Nat) : FCall Inv Tryz.prog (fLay12_fc n) := fun G hG => ⟨⟨by kernel_rfl, fun a r h => main_ok (c := bodyOf Tryz.f78) Tryz.func78 (by kernel_rfl) (by kernel_rfl) (Nat.le_of_ble_eq_true (by kernel_rfl)) hG.st (by kernel_rfl) (rs := [.tmp 2]) (by kernel_rfl) (fLay12_ctok n hG) (lts := fLay12_lts n) (fun F hF hFG => have hK : Know Inv F.G := hFG ▸ hG; (lok_of fun j L h1 h2 h3 => absurd h2 (Nat.not_lt.2 (Nat.le_trans (by decide +kernel) h1)))) fLay12_dr ((fLay12_eq n a).symm.trans h)⟩, rfl⟩
end Go.Proofs.YtngbpbncipjimabGreatDoor.AM.Dg

/- Layer 12: what the small functions come to (turn, mix, mixLow, word, lay). -/
namespace Go.Proofs
open Go.RowKit Go.Shelf Go.Lib
set_option linter.unusedVariables false
set_option linter.unusedSimpArgs false
namespace YtngbpbncipjimabGreatDoor.AM.Dg
theorem some_getD {α : Type} {x : Option α} {d : α} (h : x.isSome = true) : x = some (x.getD d) := by cases x with | none => cases h | some v => rfl
theorem wrap_u64 (x : Int) : IntKind.wrap .u64 x = x % (2 ^ 64) := rfl
theorem wrap_u32 (x : Int) : IntKind.wrap .u32 x = x % (2 ^ 32) := rfl
theorem u64_nonneg (x : Int) : 0 ≤ IntKind.wrap .u64 x := by
  rw [wrap_u64]
  exact Int.emod_nonneg _ (by decide)
theorem shl_some {k : IntKind} {x y : Int} (h : 0 ≤ y) : (shlO k x y).isSome = true := by unfold shlO; rw [if_pos h]; rfl
theorem shr_some {k : IntKind} {x y : Int} (h : 0 ≤ y) : (shrO k x y).isSome = true := by unfold shrO; rw [if_pos h]; rfl
theorem letO_some {α β : Type} (x : α) (f : α → Option β) : letO x f = f x := rfl
theorem isSome_bind {α β : Type} {x : Option α} {f : α → Option β} (h : x.isSome = true) (h2 : ∀ v, x = some v → (f v).isSome = true) : (x.bind f).isSome = true := by
  cases x with | none => cases h | some v => exact h2 v rfl
def turnV (x k : Int) : Int := (fTurn_t 0 x k).getD 0
theorem fTurn_any (n : Nat) (x k : Int) : fTurn_t n x k = some (turnV x k) := by
  have e : fTurn_t n x k = fTurn_t 0 x k := rfl
  rw [e]
  refine some_getD ?_
  refine isSome_bind ?_ fun _ _ => rfl
  unfold fRotl_t
  simp only [letO_some]
  exact isSome_bind (shl_some (u64_nonneg _)) fun _ _ => isSome_bind (shr_some (u64_nonneg _)) fun _ _ => rfl
def mixV (x i j k : Int) : Int := xorI .u32 (xorI .u32 (turnV x i) (turnV x j)) (turnV x k)
def mixL (x i j k : Int) : Int := xorI .u32 (xorI .u32 (turnV x i) (turnV x j)) (x.fdiv (2 ^ (min k.toNat 32)))
/-- the word that four bytes are -/
def wordN (a b c d : UInt8) : Nat := ((a.toNat * 256 + b.toNat) * 256 + c.toNat) * 256 + d.toNat
def wordV (s : List UInt8) (i : Nat) : Int := (wordN (s.getD (4 * i) 0) (s.getD (4 * i + 1) 0) (s.getD (4 * i + 2) 0) (s.getD (4 * i + 3) 0) : Nat)
theorem or_byte (x c : Nat) (hx : x < 16777216) (hc : c < 256) : orI .u32 (IntKind.wrap .u32 ((x : Int) * 2 ^ 8)) (IntKind.wrap .u32 (c : Int)) = ((x * 256 + c : Nat) : Int) := by
  have e1 : IntKind.wrap .u32 ((x : Int) * 2 ^ 8) = ((x * 256 : Nat) : Int) := by
    have : ((x : Int) * 2 ^ 8) = ((x * 256 : Nat) : Int) := by rw [Int.natCast_mul, show ((2 : Int) ^ 8) = ((256 : Nat) : Int) from by decide]
    rw [this, wrap_u32]
    omega
  have e2 : IntKind.wrap .u32 (c : Int) = (c : Int) := by
    rw [wrap_u32]
    omega
  rw [e1, e2]
  unfold orI
  have e3 : (BitVec.ofInt 32 ((x * 256 : Nat) : Int) ||| BitVec.ofInt 32 (c : Int)).toNat = x * 256 + c := by
    rw [BitVec.toNat_or, BitVec.ofInt_natCast, BitVec.ofInt_natCast, BitVec.toNat_ofNat, BitVec.toNat_ofNat, Nat.mod_eq_of_lt (by omega), Nat.mod_eq_of_lt (by omega)]
    have h := Nat.shiftLeft_add_eq_or_of_lt (a := x) (b := c) (i := 8) (by omega)
    rw [Nat.shiftLeft_eq] at h
    exact h.symm
  have e4 : (BitVec.ofInt (IntKind.bits .u32) ((x * 256 : Nat) : Int) ||| BitVec.ofInt (IntKind.bits .u32) (c : Int)).toNat = x * 256 + c := e3
  rw [e4, wrap_u32]
  omega
theorem word_round (n m : Nat) (s : List UInt8) (i k : Nat) (x : Nat) (hk : k < 4) (hi : 4 * i + 3 < s.length) (hs : s.length ≤ 1000000) (hx : x < 16777216) :
    fWord_loop0 n (m + 1) s (i : Int) (x : Int) (k : Int) = fWord_loop0 n m s (i : Int) ((x * 256 + (s.getD (4 * i + k) 0).toNat : Nat) : Int) ((k + 1 : Nat) : Int) := by
  rw [fWord_loop0_succ]
  unfold fWord_l0
  have h1 : decide ((k : Int) < 4) = true := decide_eq_true (by omega)
  have h2 : IntKind.wrap .i64 ((i : Int) * 4) = ((4 * i : Nat) : Int) := by rw [wrap64 (by omega) (by omega)]; omega
  have h3 : IntKind.wrap .i64 (((4 * i : Nat) : Int) + (k : Int)) = ((4 * i + k : Nat) : Int) := by rw [wrap64 (by omega) (by omega)]; omega
  have h4 : s.getD (4 * i + k) 0 = s[4 * i + k]'(by omega) := by rw [List.getD_eq_getElem?_getD, List.getElem?_eq_getElem (by omega)]; rfl
  have h5 : IntKind.wrap .i64 ((k : Int) + 1) = ((k + 1 : Nat) : Int) := wrap_succ (by omega)
  have h6 : shlO .u32 (x : Int) 8 = some (IntKind.wrap .u32 ((x : Int) * 2 ^ 8)) := rfl
  simp only [h1, cond_true, letO_some, h6, Option.bind_some, h2, h3, sAt_lt (show 4 * i + k < s.length by omega), h5]
  rw [or_byte x _ hx (UInt8.toNat_lt _), h4]
theorem word_end (n m : Nat) (s : List UInt8) (i : Int) (x : Int) : fWord_loop0 n (m + 1) s i x ((4 : Nat) : Int) = some ((x, ()), ((), ())) := rfl
theorem fWord_spec (n : Nat) (s : List UInt8) (i : Nat) (hi : 4 * i + 3 < s.length) (hs : s.length ≤ 1000000) : fWord_t (n + 5) s (i : Int) = some (wordV s i) := by
  unfold fWord_t wordV wordN
  have b0 := UInt8.toNat_lt (s.getD (4 * i) 0)
  have b1 := UInt8.toNat_lt (s.getD (4 * i + 1) 0)
  have b2 := UInt8.toNat_lt (s.getD (4 * i + 2) 0)
  have r0 := word_round (n + 5) (n + 4) s i 0 0 (by omega) hi hs (by omega)
  rw [Nat.zero_mul, Nat.zero_add, Nat.add_zero] at r0
  generalize (s.getD (4 * i) 0).toNat = c0 at *
  have r1 := word_round (n + 5) (n + 3) s i 1 c0 (by omega) hi hs (by omega)
  generalize (s.getD (4 * i + 1) 0).toNat = c1 at *
  have r2 := word_round (n + 5) (n + 2) s i 2 (c0 * 256 + c1) (by omega) hi hs (by omega)
  generalize (s.getD (4 * i + 2) 0).toNat = c2 at *
  have r3 := word_round (n + 5) (n + 1) s i 3 ((c0 * 256 + c1) * 256 + c2) (by omega) hi hs (by omega)
  generalize (s.getD (4 * i + 3) 0).toNat = c3 at *
  have e : fWord_loop0 (n + 5) (n + 5) s (i : Int) 0 0 = some (((((((c0 * 256 + c1) * 256 + c2) * 256 + c3 : Nat) : Int)), ()), ((), ())) := by
    refine r0.trans (r1.trans (r2.trans (r3.trans ?_)))
    exact word_end _ _ _ _ _
  rw [e]
  rfl
def layV (x : Int) : List UInt8 := (fLay12_t 0 x).getD []
theorem fLay12_any (n : Nat) (x : Int) : fLay12_t n x = some (layV x) := rfl
theorem layV_length (x : Int) : (layV x).length = 4 := rfl
end YtngbpbncipjimabGreatDoor.AM.Dg
end Go.Proofs

/- Layer 12: turn, mix, mixLow are quiet: they only read. -/
namespace Go.Proofs
open Go.RowKit Go.Shelf Go.Lib
set_option linter.unusedVariables false
set_option linter.unusedSimpArgs false
namespace YtngbpbncipjimabGreatDoor.AM.Dg
def I (x : Int) : Value := .int .i64 x
theorem and31 (x : Int) : ∃ m : Int, bits .and .u64 (IntKind.u64.wrap x) 31 = m ∧ 0 ≤ m ∧ m < 32 := by
  refine ⟨_, rfl, ?_, ?_⟩
  · unfold bits; exact u64_nonneg _
  · have h : (BitVec.ofInt 64 (IntKind.u64.wrap x) &&& BitVec.ofInt 64 31).toNat < 32 := by
      rw [BitVec.toNat_and]
      exact Nat.lt_of_le_of_lt (Nat.and_le_right) (by decide)
    show IntKind.wrap .u64 (((BitVec.ofInt 64 (IntKind.u64.wrap x) &&& BitVec.ofInt 64 31).toNat : Nat) : Int) < 32
    rw [wrap_u64]
    generalize (BitVec.ofInt 64 (IntKind.u64.wrap x) &&& BitVec.ofInt 64 31).toNat = y at *
    omega
theorem rotl_q (x k : Int) : ∃ z, ∀ w, Calls Tryz.prog 115 #[.int .u32 x, .int .i64 k] w fun e w' => e = .returned (.int .u32 z) ∧ w' = w := by
  obtain ⟨m, e, h0, h1⟩ := and31 k
  have h2 : 0 ≤ 32 - m := by omega
  have h3 : IntKind.u64.wrap (32 - m) = 32 - m := by rw [wrap_u64]; omega
  refine ⟨bits BinOp.or IntKind.u32 (x * 2 ^ m.toNat % 4294967296) (x / 2 ^ (32 - m).toNat), fun w => ?_⟩
  · go_enter Tryz.func115, Tryz.ntmps115
    go_wp2_with fail
    go_ret
    exact ⟨rfl, rfl⟩
theorem turn_q (x k : Int) : ∃ z, ∀ w, Calls Tryz.prog 106 #[.int .u32 x, .int .i64 k] w fun e w' => e = .returned (.int .u32 z) ∧ w' = w := by
  obtain ⟨z, hz⟩ := rotl_q x (RowKit.wrap64 (-k))
  refine ⟨z, fun w => ?_⟩
  go_enter Tryz.func106, Tryz.ntmps106
  go_wp2_with fail
  refine (hz w).mono ?_
  rintro e w' ⟨rfl, rfl⟩
  go_wp2
  go_ret
  exact ⟨rfl, rfl⟩
theorem turn_v (x k : Int) (w : World) (hI : Inv w) : Calls Tryz.prog 106 #[.int .u32 x, .int .i64 k] w fun e w' => e = .returned (.int .u32 (turnV x k)) ∧ Below w.heap.size w w' := by
  have hh := (fTurn_ok 0 Inv know_inv).1.2 (x, k) _ (fTurn_any 0 x k)
  refine (hh (fun _ _ => False) w #[.int .u32 x, .int .i64 k] hI (fun b o h => h.elim) ⟨drep_val (σ := noSt) (.int .u32 x), drep_val (σ := noSt) (.int .i64 k), trivial⟩).mono ?_
  rintro e w' ⟨u, Pc', rfl, hb, _, _, hv⟩
  have hv' : u = .int .u32 (turnV x k) := of_val (σ := noSt) hv
  rw [hv']
  exact ⟨rfl, hb⟩
theorem turn_c (x k : Int) (w0 : World) (hI : Inv w0) (w : World) : Calls Tryz.prog 106 #[.int .u32 x, .int .i64 k] w fun e w' => e = .returned (.int .u32 (turnV x k)) ∧ w' = w := by
  obtain ⟨z, hz⟩ := turn_q x k
  have := Lib.agree (by kernel_rfl) (hz w0) (turn_v x k w0 hI)
  rw [← this]
  exact hz w
theorem mix_c (x i j k : Int) (w0 : World) (hI : Inv w0) (w : World) : Calls Tryz.prog 92 #[.int .u32 x, .int .i64 i, .int .i64 j, .int .i64 k] w fun e w' => e = .returned (.int .u32 (mixV x i j k)) ∧ w' = w := by
  go_enter Tryz.func92, Tryz.ntmps92
  go_wp2_with fail
  refine (turn_c _ _ w0 hI w).mono ?_
  rintro e w' ⟨rfl, rfl⟩
  go_wp2_with fail
  refine (turn_c _ _ w0 hI _).mono ?_
  rintro e w'' ⟨rfl, rfl⟩
  go_wp2_with fail
  refine (turn_c _ _ w0 hI _).mono ?_
  rintro e w'' ⟨rfl, rfl⟩
  go_wp2
  go_ret
  exact ⟨rfl, rfl⟩
set_option maxHeartbeats 1000000 in
set_option maxRecDepth 100000 in
theorem mixLow_c (x i j : Int) (k : Nat) (hk : k < 32) (w0 : World) (hI : Inv w0) (w : World) : Calls Tryz.prog 94 #[.int .u32 x, .int .i64 i, .int .i64 j, .int .i64 k] w fun e w' => e = .returned (.int .u32 (mixL x i j k)) ∧ ∃ m, w' = w.drewN m := by
  have hT := turn_c x
  have h0 : (0 : Int) ≤ (k : Int) := by omega
  have e : mixL x i j k = bits BinOp.xor IntKind.u32 (bits BinOp.xor IntKind.u32 (turnV x i) (turnV x j)) (x / 2 ^ k) := by
    unfold mixL
    rw [Int.toNat_natCast, Nat.min_eq_left (by omega), Int.fdiv_eq_ediv_of_nonneg _ (Int.le_of_lt (Int.pow_pos (by decide)))]
    rfl
  rw [e]
  clear e
  go_enter Tryz.func94, Tryz.ntmps94
  go_wp2_with fail
  go_quiet ((go_at_call 106; exact Calls.quiet_of_same (hT _ w0 hI _)))
  go_wp2
  go_ret
  exact ⟨rfl, _, rfl⟩
theorem mixLow_i (x i j k : Int) (h0 : 0 ≤ k) (h1 : k < 32) (w0 : World) (hI : Inv w0) (w : World) : Calls Tryz.prog 94 #[.int .u32 x, .int .i64 i, .int .i64 j, .int .i64 k] w fun e w' => e = .returned (.int .u32 (mixL x i j k)) ∧ ∃ m, w' = w.drewN m := by
  obtain ⟨n, rfl⟩ := Int.eq_ofNat_of_zero_le h0
  exact mixLow_c x i j n (by omega) w0 hI w
end YtngbpbncipjimabGreatDoor.AM.Dg
end Go.Proofs

/- Layer 12: arrays of words in memory; stretch. -/
namespace Go.Proofs
open Go.RowKit Go.Shelf Go.Lib
attribute [local go_sem] Oper.semAt_some
set_option linter.unusedVariables false
set_option linter.unusedSimpArgs false
namespace YtngbpbncipjimabGreatDoor.AM.Dg
/-- an array of words lies in a block of its own -/
def HasArr (w : World) (b T : Nat) (l : List Int) : Prop := w.heap[b]? = some (.cells (wV l).toArray T (0, 0))
theorem HasArr.cell {w : World} {b T : Nat} {l : List Int} (h : HasArr w b T l) {j : Nat} (hj : j < l.length) : w.cell? ⟨b, j, none⟩ = some (.int .u32 (l.getD j 0)) := by
  rw [cell_of_row w b j _ T (0, 0) h]
  rw [List.getElem?_toArray, wV_get hj, List.getD_eq_getElem?_getD, List.getElem?_eq_getElem hj]
  rfl
theorem HasArr.frozen {w : World} {b T : Nat} {l : List Int} (h : HasArr w b T l) (j : Nat) : w.frozen? ⟨b, j, none⟩ = false := by
  unfold HasArr at h
  simp [World.frozen?, h]
theorem HasArr.set {w : World} {b T : Nat} {l : List Int} (h : HasArr w b T l) (j : Nat) (x : Int) : HasArr (w.setCell ⟨b, j, none⟩ (.int .u32 x)) b T (l.set j x) := by
  have := heap_setCell_same w b j _ T (.int .u32 x) h
  unfold HasArr
  rw [this]
  simp [wV, List.map_set]
theorem HasArr.lt {w : World} {b T : Nat} {l : List Int} (h : HasArr w b T l) : b < w.heap.size := heapLt h
theorem HasArr.below {w w' : World} {b T B : Nat} {l : List Int} (h : HasArr w b T l) (hb : Below B w w') (hB : b < B) : HasArr w' b T l := (hb.block b hB).trans h
theorem HasArr.range {w : World} {b T : Nat} {l : List Int} (h : HasArr w b T l) : w.rangeAt b 0 (wV l) := fun j v hv => by
  rw [Nat.zero_add, cell_of_row w b j _ T (0, 0) h, List.getElem?_toArray, hv]
theorem HasArr.there {w : World} {b T : Nat} {l : List Int} (h : HasArr w b T l) : w.there b 0 l.length := fun j hj => by
  rw [Nat.zero_add]
  exact ⟨by rw [h.cell hj]; rfl, h.frozen j⟩
theorem HasArr.other {w : World} {b T : Nat} {l : List Int} (h : HasArr w b T l) {p : Addr} (hp : b ≠ p.block) (v : Value) : HasArr (w.setCell p v) b T l := (heap_setCell_other w p b v hp).trans h
theorem HasArr.new (w : World) (T : Nat) (l : List Int) : HasArr (w.alloc (.cells (wV l).toArray T)) w.heap.size T l := heap_alloc_new w _
theorem HasArr.alloc {w : World} {b T : Nat} {l : List Int} (h : HasArr w b T l) (o : Obj) : HasArr (w.alloc o) b T l := (Below.heap_alloc w o b h.lt).trans h
theorem word_c (s : List UInt8) (i : Nat) (hi : 4 * i + 3 < s.length) (hs : s.length ≤ 1000000) (w : World) (hI : Inv w) : Calls Tryz.prog 93 #[.string (ba s), .int .i64 i] w fun e w' => e = .returned (.int .u32 (wordV s i)) ∧ Below w.heap.size w w' := by
  have hh := (fWord_ok 5 Inv know_inv).1.2 (s, (i : Int)) _ (fWord_spec 0 s i hi hs)
  refine (hh (fun _ _ => False) w #[.string (ba s), .int .i64 i] hI (fun b o h => h.elim) ⟨drep_val (σ := noSt) (.string (ba s)), drep_val (σ := noSt) (.int .i64 i), trivial⟩).mono ?_
  rintro e w' ⟨u, Pc', rfl, hb, _, _, hv⟩
  have hv' : u = .int .u32 (wordV s i) := of_val (σ := noSt) hv
  rw [hv']
  exact ⟨rfl, hb⟩
theorem below_drewN {B : Nat} {w w' : World} (h : Below B w w') (n : Nat) : Below B w (w'.drewN n) := ⟨h.os, h.tape, h.output, h.size, h.block⟩
theorem results_arr {fn : Func} {p : Tmp} {T : TypeId} {tmps : Array Value} {w : World} {v : Value} {a : Addr} (h : fn.results = #[.cell p T]) (hp : tmps.getD p undef = .pointer (some a))
    (hv : (loadVar T a).run Tryz.prog w = .ok v w) : (results fn tmps).run Tryz.prog w = .ok v w := by
  unfold results
  rw [h]
  simp at hp
  simp [hp, asAddr, Result.andThen, hv]
/-! ### stretch -/
def add32 (a b : Int) : Int := IntKind.u32.wrap (a + b)
def wordsS (s : List UInt8) (k : Nat) : List Int := (List.range k).map (wordV s)
def nextW (l : List Int) : Int := add32 (add32 (add32 (mixL (l.getD (l.length - 2) 0) 17 19 10) (l.getD (l.length - 7) 0)) (mixL (l.getD (l.length - 15) 0) 7 18 3)) (l.getD (l.length - 16) 0)
def extS : Nat → List Int → List Int
  | 0, l => l
  | n + 1, l => extS n (l ++ [nextW l])
def stretchS (s : List UInt8) : List Int := extS 48 (wordsS s 16)
def padTo (n : Nat) (l : List Int) : List Int := l ++ List.replicate (n - l.length) 0
theorem padTo_length {n : Nat} {l : List Int} (h : l.length ≤ n) : (padTo n l).length = n := by simp [padTo]; omega
theorem padTo_getD {n : Nat} {l : List Int} {j : Nat} (h : j < l.length) : (padTo n l).getD j 0 = l.getD j 0 := by
  simp only [padTo, List.getD_eq_getElem?_getD, List.getElem?_append_left h]
theorem padTo_set {n : Nat} {l : List Int} (h : l.length < n) (x : Int) : (padTo n l).set l.length x = padTo n (l ++ [x]) := by
  unfold padTo
  obtain ⟨k, hk⟩ : ∃ k, n - l.length = k + 1 := ⟨n - l.length - 1, by omega⟩
  rw [hk, List.replicate_succ, List.length_append, List.length_singleton, show n - (l.length + 1) = k from by omega, List.set_append_right _ _ (Nat.le_refl _), Nat.sub_self, List.append_assoc]
  rfl
theorem padTo_full {n : Nat} {l : List Int} (h : l.length = n) : padTo n l = l := by simp [padTo, h]
theorem wordsS_length (s : List UInt8) (k : Nat) : (wordsS s k).length = k := by simp [wordsS]
theorem wordsS_succ (s : List UInt8) (k : Nat) : wordsS s (k + 1) = wordsS s k ++ [wordV s k] := by simp [wordsS, List.range_succ]
theorem extS_length : ∀ (n : Nat) (l : List Int), (extS n l).length = l.length + n
  | 0, l => rfl
  | n + 1, l => by rw [extS, extS_length n]; simp; omega
theorem stretchS_length (s : List UInt8) : (stretchS s).length = 64 := by unfold stretchS; rw [extS_length, wordsS_length]
set_option maxHeartbeats 4000000 in
set_option maxRecDepth 1000000 in
theorem stretch_c (s : List UInt8) (h0 : 64 ≤ s.length) (hs : s.length ≤ 1000000) (w : World) (hI : Inv w) : Calls Tryz.prog 76 #[.string (ba s)] w fun e w' => e = .returned (.agg (wV (stretchS s)).toArray) ∧ Below w.heap.size w w' := by
  have HS := hid h0
  obtain ⟨A, hA⟩ : ∃ A, A = stretchS s := ⟨_, rfl⟩
  rw [← hA]
  have HA := hid hA
  clear hA
  go_enter Tryz.func76, Tryz.ntmps76
  go_wp2_with fail
  have hz : (wV (List.replicate 64 0)).toArray = #[Value.int IntKind.u32 0, Value.int IntKind.u32 0, Value.int IntKind.u32 0, Value.int IntKind.u32 0, Value.int IntKind.u32 0, Value.int IntKind.u32 0, Value.int IntKind.u32 0, Value.int IntKind.u32 0, Value.int IntKind.u32 0, Value.int IntKind.u32 0, Value.int IntKind.u32 0, Value.int IntKind.u32 0, Value.int IntKind.u32 0, Value.int IntKind.u32 0, Value.int IntKind.u32 0, Value.int IntKind.u32 0, Value.int IntKind.u32 0, Value.int IntKind.u32 0, Value.int IntKind.u32 0, Value.int IntKind.u32 0, Value.int IntKind.u32 0, Value.int IntKind.u32 0, Value.int IntKind.u32 0, Value.int IntKind.u32 0, Value.int IntKind.u32 0, Value.int IntKind.u32 0, Value.int IntKind.u32 0, Value.int IntKind.u32 0, Value.int IntKind.u32 0, Value.int IntKind.u32 0, Value.int IntKind.u32 0, Value.int IntKind.u32 0, Value.int IntKind.u32 0, Value.int IntKind.u32 0, Value.int IntKind.u32 0, Value.int IntKind.u32 0, Value.int IntKind.u32 0, Value.int IntKind.u32 0, Value.int IntKind.u32 0, Value.int IntKind.u32 0, Value.int IntKind.u32 0, Value.int IntKind.u32 0, Value.int IntKind.u32 0, Value.int IntKind.u32 0, Value.int IntKind.u32 0, Value.int IntKind.u32 0, Value.int IntKind.u32 0, Value.int IntKind.u32 0, Value.int IntKind.u32 0, Value.int IntKind.u32 0, Value.int IntKind.u32 0, Value.int IntKind.u32 0, Value.int IntKind.u32 0, Value.int IntKind.u32 0, Value.int IntKind.u32 0, Value.int IntKind.u32 0, Value.int IntKind.u32 0, Value.int IntKind.u32 0, Value.int IntKind.u32 0, Value.int IntKind.u32 0, Value.int IntKind.u32 0, Value.int IntKind.u32 0, Value.int IntKind.u32 0, Value.int IntKind.u32 0] := rfl
  rw [← hz]
  clear hz
  obtain ⟨W, hW⟩ : ∃ W, (w.alloc (Obj.cells (wV (List.replicate 64 0)).toArray 100)).alloc (Obj.cells (wV (List.replicate 64 0)).toArray 100) = W := ⟨_, rfl⟩
  have hA0 : HasArr W w.heap.size 100 (List.replicate 64 0) := hW ▸ (HasArr.new w _ _).alloc _
  have hA1 : HasArr W (w.heap.size + 1) 100 (List.replicate 64 0) := by
    have := HasArr.new (w.alloc (Obj.cells (wV (List.replicate 64 0)).toArray 100)) 100 (List.replicate 64 0)
    rw [World.size_alloc, hW] at this
    exact this
  have hB0 : Below w.heap.size w W := hW ▸ ((Below.refl _ _).alloc (Nat.le_refl _) _).alloc (by simp) _
  rw [hW]
  clear hW
  go_loopw [6] (fun i wr => ∃ k : Nat, k ≤ 16 ∧ i = .int .i64 k ∧ HasArr wr w.heap.size 100 (List.replicate 64 0) ∧ HasArr wr (w.heap.size + 1) 100 (padTo 64 (wordsS s k)) ∧ Below w.heap.size w wr) (fun i _ => 16 - (RowKit.intOf i).toNat)
  case atStart => exact ⟨0, by omega, rfl, hA0, hA1, hB0⟩
  case round =>
    obtain ⟨k, hk, rfl, hr0, hr1, hbel⟩ := hrel
    clear hA0 hA1 hB0
    have hIr := hI.below hbel
    have hc := word_c s k
    by_cases hkl : k < 16
    · have hc' := hc (by omega) hs _ hIr
      clear hc
      have H1 := hid hr1; have H0 := hid hr0
      clear hr1 hr0
      go_wp2_with fail
      refine hc'.mono ?_
      rintro e W1 ⟨rfl, hb1⟩
      have hr1 := H1.out.below hb1 H1.out.lt
      have hr0 := H0.out.below hb1 H0.out.lt
      have hpl : (padTo 64 (wordsS s k)).length = 64 := padTo_length (by rw [wordsS_length]; omega)
      have c1 := hr1.cell (j := k) (by omega)
      have f1 := hr1.frozen k
      have H1' := hid hr1; have H0' := hid hr0
      clear hr1 hr0
      have hk64 : (k : Int) < 64 := by omega
      go_wp2_with fail
      have hst := H1'.out.set k (wordV s k)
      have hps := padTo_set (n := 64) (l := wordsS s k) (by rw [wordsS_length]; omega) (wordV s k)
      rw [wordsS_length] at hps
      rw [hps, ← wordsS_succ] at hst
      refine ⟨⟨k + 1, by omega, rfl, H0'.out.other (by show w.heap.size ≠ w.heap.size + 1; omega) _, hst, (hbel.trans (hb1.mono hbel.size)).setCell (by show w.heap.size ≤ w.heap.size + 1; omega) _⟩, ?_⟩
      show 16 - ((k : Int) + 1).toNat < 16 - (k : Int).toNat
      omega
    · obtain rfl : k = 16 := by omega
      have H1 := hid hr1; have H0 := hid hr0
      clear hr1 hr0 hc hk
      go_wp2_with fail
      go_loopw [5] (fun i wr => ∃ (l : List Int), 16 ≤ l.length ∧ l.length ≤ 64 ∧ i = .int .i64 l.length ∧ extS (64 - l.length) l = A ∧ HasArr wr w.heap.size 100 (List.replicate 64 0) ∧ HasArr wr (w.heap.size + 1) 100 (padTo 64 l) ∧ Below w.heap.size w wr) (fun i _ => 64 - (RowKit.intOf i).toNat)
      case atStart => exact ⟨wordsS s 16, by rw [wordsS_length]; omega, by rw [wordsS_length]; omega, by rw [wordsS_length]; rfl, by rw [HA.out, wordsS_length]; rfl, H0.out, H1.out, hbel⟩
      case round =>
        clear H0 H1 hbel hIr
        obtain ⟨l, hl1, hl2, rfl, hex, hr0, hr1, hbel⟩ := hrel
        have hIr := hI.below hbel
        have H1 := hid hr1; have H0 := hid hr0; have HE := hid hex
        clear hr1 hr0 hex
        by_cases hkl : l.length < 64
        · have hpl : (padTo 64 l).length = 64 := padTo_length (by omega)
          obtain ⟨k, hk⟩ : ∃ k, l.length = k := ⟨_, rfl⟩
          have hm : ∀ (x i j k : Int) (h0 : 0 ≤ k) (h1 : k < 32) (W : World), Calls Tryz.prog 94 #[.int .u32 x, .int .i64 i, .int .i64 j, .int .i64 k] W fun e w' => e = .returned (.int .u32 (mixL x i j k)) ∧ ∃ m, w' = W.drewN m := fun x i j k h0 h1 W => mixLow_i x i j k h0 h1 _ hIr W
          have c0 := H1.out.cell (j := k) (by omega)
          have c2 := H1.out.cell (j := k - 2) (by omega)
          have c7 := H1.out.cell (j := k - 7) (by omega)
          have c15 := H1.out.cell (j := k - 15) (by omega)
          have c16 := H1.out.cell (j := k - 16) (by omega)
          have f1 := H1.out.frozen k
          have HK := hid hk
          simp only [hk] at hkl hl1 hl2 HE ⊢
          clear hk
          have e2 : IntKind.i64.wrap ((k : Int) - 2) = ((k - 2 : Nat) : Int) := by rw [wrap64 (by omega) (by omega)]; omega
          have e7 : IntKind.i64.wrap ((k : Int) - 7) = ((k - 7 : Nat) : Int) := by rw [wrap64 (by omega) (by omega)]; omega
          have e15 : IntKind.i64.wrap ((k : Int) - 15) = ((k - 15 : Nat) : Int) := by rw [wrap64 (by omega) (by omega)]; omega
          have e16 : IntKind.i64.wrap ((k : Int) - 16) = ((k - 16 : Nat) : Int) := by rw [wrap64 (by omega) (by omega)]; omega
          have g0 : (k : Int) < 64 := by omega
          have g2 : ((k - 2 : Nat) : Int) < 64 := by omega
          have g7 : ((k - 7 : Nat) : Int) < 64 := by omega
          have g15 : ((k - 15 : Nat) : Int) < 64 := by omega
          have g16 : ((k - 16 : Nat) : Int) < 64 := by omega
          generalize hx2 : (padTo 64 l).getD (k - 2) 0 = x2 at c2
          generalize hx7 : (padTo 64 l).getD (k - 7) 0 = x7 at c7
          generalize hx15 : (padTo 64 l).getD (k - 15) 0 = x15 at c15
          generalize hx16 : (padTo 64 l).getD (k - 16) 0 = x16 at c16
          have HX := hid (And.intro hx2 (And.intro hx7 (And.intro hx15 hx16)))
          clear hx2 hx7 hx15 hx16
          have nn : ∀ d, 0 < d → d ≤ k → (⟨w.heap.size + 1, k, none⟩ : Addr) ≠ ⟨w.heap.size + 1, k - d, none⟩ := fun d h0 h1 h => by
            have := congrArg Addr.off h
            simp only at this
            omega
          have n2 := nn 2 (by omega) (by omega)
          have n7 := nn 7 (by omega) (by omega)
          have n15 := nn 15 (by omega) (by omega)
          have n16 := nn 16 (by omega) (by omega)
          clear nn
          go_wp2_with fail
          go_region_held3 (fun w' => w'.cell? ⟨w.heap.size + 1, k - 2, none⟩ = some (.int .u32 x2) ∧ w'.cell? ⟨w.heap.size + 1, k - 7, none⟩ = some (.int .u32 x7) ∧ w'.cell? ⟨w.heap.size + 1, k - 15, none⟩ = some (.int .u32 x15) ∧ w'.cell? ⟨w.heap.size + 1, k - 16, none⟩ = some (.int .u32 x16))
            (first
              | exact ⟨c2, c7, c15, c16⟩
              | exact ⟨(World.cell?_setCell_other (h := n2) ..).trans c2, (World.cell?_setCell_other (h := n7) ..).trans c7, (World.cell?_setCell_other (h := n15) ..).trans c15, (World.cell?_setCell_other (h := n16) ..).trans c16⟩)
            (first
              | (go_at_call 94; refine (hm _ _ _ _ (by decide) (by decide) _).mono ?_; rintro e wa ⟨rfl, m1, rfl⟩))
          go_wp2_with fail
          have hst := fun (x : Int) (m : Nat) => HasArr.set (w := wr.drewN m) H1.out k x
          have hps := fun x => padTo_set (n := 64) (l := l) (by rw [HK.out]; omega) x
          rw [HK.out] at hps
          simp only [hps] at hst
          obtain ⟨hx2, hx7, hx15, hx16⟩ := HX.out
          rw [padTo_getD (by rw [HK.out]; omega)] at hx2 hx7 hx15 hx16
          have hnx : add32 (add32 (add32 (mixL x2 17 19 10) x7) (mixL x15 7 18 3)) x16 = nextW l := by
            unfold nextW
            rw [HK.out, hx2, hx7, hx15, hx16]
          unfold add32 at hnx
          have hnx2 : ((((mixL x2 17 19 10 + x7) % 4294967296 + mixL x15 7 18 3) % 4294967296 + x16) % 4294967296) = nextW l := hnx
          simp only [hnx2]
          clear hnx2 hps hnx hx2 hx7 hx15 hx16
          refine ⟨⟨_, _, _, _, _, _, _, _, _, _, _, _, _, _, _, _, _, _, _, _, _, _, _, _, _, _, _, _, ⟨l ++ [nextW l], ?_, ?_, ?_, ?_, H0.out.other (by show w.heap.size ≠ w.heap.size + 1; omega) _, hst _ _, Below.setCell (p := ⟨w.heap.size + 1, k, none⟩) (below_drewN hbel _) (by show w.heap.size ≤ w.heap.size + 1; omega) _⟩, rfl⟩, ?_⟩
          · rw [List.length_append, HK.out]; simp; omega
          · rw [List.length_append, HK.out]; simp; omega
          · rw [List.length_append, HK.out]; rfl
          · rw [← HE.out, List.length_append, HK.out, show 64 - k = (64 - (k + 1)) + 1 from by omega]; rfl
          · show 64 - ((k : Int) + 1).toNat < 64 - (k : Int).toNat
            omega
        · have hl64 : l.length = 64 := by omega
          have hex := HE.out
          rw [hl64] at hex
          have hex : l = A := hex
          subst hex
          clear HA
          have hr1 := H1.out
          rw [padTo_full hl64] at hr1
          have hlen : (wV l).length = 64 := by rw [wV_length]; exact hl64
          have hld := run_loadAt_mid (P := Tryz.prog) wr (w.heap.size + 1) 0 100 (wV l) _ hr1.range Tryz.underlying100 rfl (by rw [hlen]; kernel_rfl)
          have hlen2 : (wV l).toArray.size = 64 := by rw [List.size_toArray]; exact hlen
          have hth : wr.there w.heap.size 0 (wV l).toArray.size := by
            have := H0.out.there
            rw [List.length_replicate] at this
            rw [hlen2]
            exact this
          have hone : (wV l).toArray.all (·.oneCell') = true := all_oneCell_toArray (by intro v hv; obtain ⟨x, _, rfl⟩ := List.mem_map.1 hv; rfl)
          clear hkl hl1 hl2 HE hld
          simp only [hl64]
          go_upto_region 11 with (fail)
          refine wp_region_lit ?_
          refine wpList_load_mid rfl 100 (.tmp 3) rfl (w.heap.size + 1) 0 rfl (wV l) _ hr1.range Tryz.underlying100 rfl (by rw [hlen]; kernel_rfl) ?_
          refine wpList_store_mid rfl 100 (.tmp 2) (.tmp 42) rfl w.heap.size 0 (wV l).toArray rfl rfl hth (by rw [hlen2]; kernel_rfl) hone ?_
          refine wpList_nil ?_
          go_wp2_with fail
          have hrs := World.rangeAt_setCells_same wr w.heap.size 0 (wV l) (by rw [hlen2, ← hlen] at hth; exact hth)
          refine bodyPost_ret (v := .agg (wV l).toArray) (results_arr rfl (a := ⟨w.heap.size, 0, none⟩) rfl (run_loadVar_mid _ _ _ _ _ _ hrs Tryz.underlying100 rfl (by rw [hlen]; kernel_rfl))) rfl ⟨rfl, ?_⟩
          exact hbel.trans ((below_setCells_w (Nat.le_refl _) _ 0 wr).mono (Nat.le_refl _))
end YtngbpbncipjimabGreatDoor.AM.Dg
end Go.Proofs

/- Layer 12: plus, rounds. -/
namespace Go.Proofs
open Go.RowKit Go.Shelf Go.Lib
attribute [local go_sem] Oper.semAt_some
set_option linter.unusedVariables false
set_option linter.unusedSimpArgs false
namespace YtngbpbncipjimabGreatDoor.AM.Dg
def plusS (l m : List Int) : List Int := List.zipWith add32 l m
def plusK (k : Nat) (l m : List Int) : List Int := List.zipWith add32 (l.take k) (m.take k) ++ l.drop k
theorem plusK_length {k : Nat} {l m : List Int} (h : l.length = m.length) (hk : k ≤ l.length) : (plusK k l m).length = l.length := by simp [plusK]; omega
theorem plusK_getD {k : Nat} {l m : List Int} (h : l.length = m.length) (hk : k < l.length) : (plusK k l m).getD k 0 = l.getD k 0 := by
  have e : (List.zipWith add32 (l.take k) (m.take k)).length = k := by simp; omega
  simp only [plusK, List.getD_eq_getElem?_getD]
  rw [List.getElem?_append_right (by omega), e, Nat.sub_self, List.getElem?_drop]
  rfl
theorem plusK_set {k : Nat} {l m : List Int} (h : l.length = m.length) (hk : k < l.length) : (plusK k l m).set k (add32 (l.getD k 0) (m.getD k 0)) = plusK (k + 1) l m := by
  have e : (List.zipWith add32 (l.take k) (m.take k)).length = k := by simp; omega
  unfold plusK
  rw [List.set_append_right _ _ (by omega), e, Nat.sub_self, List.drop_eq_getElem_cons hk, List.set_cons_zero, List.take_succ_eq_append_getElem hk, List.take_succ_eq_append_getElem (show k < m.length by omega), List.zipWith_append (by simp; omega)]
  simp only [List.getD_eq_getElem?_getD, List.getElem?_eq_getElem hk, List.getElem?_eq_getElem (show k < m.length by omega), Option.getD_some, List.zipWith_cons_cons, List.zipWith_nil_left, List.append_assoc, List.singleton_append, List.zipWith_nil_right]
theorem plusK_all {l m : List Int} (h : l.length = m.length) : plusK l.length l m = plusS l m := by
  unfold plusK plusS
  rw [List.take_length, h, List.take_length, ← h, List.drop_length, List.append_nil]
theorem wV_one (l : List Int) : (wV l).toArray.all (·.oneCell') = true := all_oneCell_toArray (by intro v hv; obtain ⟨x, _, rfl⟩ := List.mem_map.1 hv; rfl)
set_option maxHeartbeats 4000000 in
set_option maxRecDepth 1000000 in
theorem plus_c (l m : List Int) (hl : l.length = 8) (hm : m.length = 8) (w : World) : Calls Tryz.prog 74 #[.agg (wV l).toArray, .agg (wV m).toArray] w fun e w' => e = .returned (.agg (wV (plusS l m)).toArray) ∧ Below w.heap.size w w' := by
  obtain ⟨A, hA⟩ : ∃ A, A = plusS l m := ⟨_, rfl⟩
  rw [← hA]
  have HA := hid hA
  clear hA
  obtain ⟨cl, hcl⟩ : ∃ cl, (wV l).toArray = cl := ⟨_, rfl⟩
  obtain ⟨cm, hcm⟩ : ∃ cm, (wV m).toArray = cm := ⟨_, rfl⟩
  rw [hcl, hcm]
  have HL := hid hcl; have HM := hid hcm
  have s1 : cl.size = 8 := by rw [← hcl, List.size_toArray, wV_length, hl]
  have s2 : cm.size = 8 := by rw [← hcm, List.size_toArray, wV_length, hm]
  have o1 : cl.all (·.oneCell') = true := hcl ▸ wV_one l
  have o2 : cm.all (·.oneCell') = true := hcm ▸ wV_one m
  clear hcl hcm
  have HLL := hid hl; have HMM := hid hm
  clear hl hm
  go_enter Tryz.func74, Tryz.ntmps74
  go_wp2_with fail
  have hz : (wV (List.replicate 8 0)).toArray = #[Value.int IntKind.u32 0, Value.int IntKind.u32 0, Value.int IntKind.u32 0, Value.int IntKind.u32 0, Value.int IntKind.u32 0, Value.int IntKind.u32 0, Value.int IntKind.u32 0, Value.int IntKind.u32 0] := rfl
  rw [← hz]
  clear hz
  obtain ⟨W, hW⟩ : ∃ W, ((w.alloc (Obj.cells cl 71)).alloc (Obj.cells cm 71)).alloc (Obj.cells (wV (List.replicate 8 0)).toArray 71) = W := ⟨_, rfl⟩
  have a0 : HasArr W w.heap.size 71 l := hW ▸ ((HL.out ▸ HasArr.new w _ _ : HasArr (w.alloc (Obj.cells cl 71)) w.heap.size 71 l).alloc _).alloc _
  have a1 : HasArr W (w.heap.size + 1) 71 m := by
    have := HasArr.new (w.alloc (Obj.cells cl 71)) 71 m
    rw [World.size_alloc, HM.out] at this
    exact hW ▸ this.alloc _
  have a2 : HasArr W (w.heap.size + 1 + 1) 71 (List.replicate 8 0) := by
    have := HasArr.new ((w.alloc (Obj.cells cl 71)).alloc (Obj.cells cm 71)) 71 (List.replicate 8 0)
    rw [World.size_alloc, World.size_alloc, hW] at this
    exact this
  have hB0 : Below w.heap.size w W := hW ▸ (((Below.refl _ _).alloc (Nat.le_refl _) _).alloc (by simp) _).alloc (by simp; omega) _
  rw [hW]
  clear hW s1 s2 o1 o2 HL HM
  have a0' : HasArr W w.heap.size 71 (plusK 0 l m) := by unfold plusK; simp; exact a0
  clear a0
  go_loopw [6] (fun i wr => ∃ k : Nat, k ≤ 8 ∧ i = .int .i64 k ∧ HasArr wr w.heap.size 71 (plusK k l m) ∧ HasArr wr (w.heap.size + 1) 71 m ∧ HasArr wr (w.heap.size + 1 + 1) 71 (List.replicate 8 0) ∧ Below w.heap.size w wr) (fun i _ => 8 - (RowKit.intOf i).toNat)
  case atStart => exact ⟨0, by omega, rfl, a0', a1, a2, hB0⟩
  case round =>
    clear a0' a1 a2 hB0
    obtain ⟨k, hk, rfl, r0, r1, r2, hbel⟩ := hrel
    have R0 := hid r0; have R1 := hid r1; have R2 := hid r2
    clear r0 r1 r2
    have hlm : l.length = m.length := by rw [HLL.out, HMM.out]
    by_cases hkl : k < 8
    · have hpl : (plusK k l m).length = 8 := by rw [plusK_length hlm (by rw [HLL.out]; omega)]; exact HLL.out
      have c0 := R0.out.cell (j := k) (by omega)
      have c1 := R1.out.cell (j := k) (by rw [HMM.out]; omega)
      have f0 := R0.out.frozen k
      rw [plusK_getD hlm (by rw [HLL.out]; omega)] at c0
      have hst := HasArr.set (w := wr.drew) R0.out k (add32 (l.getD k 0) (m.getD k 0))
      rw [plusK_set hlm (by rw [HLL.out]; omega)] at hst
      have HST := hid hst
      clear hst
      obtain ⟨x, hx⟩ : ∃ x, l.getD k 0 = x := ⟨_, rfl⟩
      obtain ⟨y, hy⟩ : ∃ y, m.getD k 0 = y := ⟨_, rfl⟩
      rw [hx] at c0 HST
      rw [hy] at c1 HST
      clear hx hy
      have g0 : (k : Int) < 8 := by omega
      have n1 : w.heap.size + 1 ≠ w.heap.size := by omega
      have n2 : w.heap.size + 1 + 1 ≠ w.heap.size := by omega
      go_wp2_with fail
      go_still_tail 8, (by kernel_rfl)
      change wpList _ _ _ _ _ wr.drew
      go_wp2_with fail
      have HST2 : HasArr (wr.drew.setCell ⟨w.heap.size, k, none⟩ (.int .u32 ((x + y) % 4294967296))) w.heap.size 71 (plusK (k + 1) l m) := HST.out
      refine ⟨⟨k + 1, by omega, rfl, HST2, HasArr.other (w := wr.drew) R1.out n1 _, HasArr.other (w := wr.drew) R2.out n2 _, hbel.drew.setCell (Nat.le_refl _) _⟩, ?_⟩
      show 8 - ((k : Int) + 1).toNat < 8 - (k : Int).toNat
      omega
    · obtain rfl : k = 8 := by omega
      have hA := HA.out
      have r0 := R0.out
      have e : plusK 8 l m = A := by rw [hA, ← plusK_all hlm, HLL.out]
      rw [e] at r0
      have hlA : A.length = 8 := by rw [← e, plusK_length hlm (by rw [HLL.out]; omega)]; exact HLL.out
      clear hA e HA
      have hlen : (wV A).length = 8 := by rw [wV_length]; exact hlA
      have hlen2 : (wV A).toArray.size = 8 := by rw [List.size_toArray]; exact hlen
      have hth : wr.there (w.heap.size + 1 + 1) 0 (wV A).toArray.size := by
        have := R2.out.there
        rw [List.length_replicate] at this
        rw [hlen2]
        exact this
      clear R0
      go_upto_region 6 with (fail)
      refine wp_region_lit ?_
      refine wpList_load_mid rfl 71 (.tmp 2) rfl w.heap.size 0 rfl (wV A) _ r0.range Tryz.underlying71 rfl (by rw [hlen]; kernel_rfl) ?_
      refine wpList_store_mid rfl 71 (.tmp 4) (.tmp 18) rfl (w.heap.size + 1 + 1) 0 (wV A).toArray rfl rfl hth (by rw [hlen2]; kernel_rfl) (wV_one A) ?_
      refine wpList_nil ?_
      go_wp2_with fail
      have hrs := World.rangeAt_setCells_same wr (w.heap.size + 1 + 1) 0 (wV A) (by rw [hlen2, ← hlen] at hth; exact hth)
      refine bodyPost_ret (v := .agg (wV A).toArray) (results_arr rfl (a := ⟨w.heap.size + 1 + 1, 0, none⟩) rfl (run_loadVar_mid _ _ _ _ _ _ hrs Tryz.underlying71 rfl (by rw [hlen]; kernel_rfl))) rfl ⟨rfl, ?_⟩
      exact hbel.trans ((below_setCells_w (by omega) _ 0 wr).mono (Nat.le_refl _))
end YtngbpbncipjimabGreatDoor.AM.Dg
end Go.Proofs

/- Layer 12: rounds. -/
namespace Go.Proofs
open Go.RowKit Go.Shelf Go.Lib
attribute [local go_sem] Oper.semAt_some
set_option linter.unusedVariables false
set_option linter.unusedSimpArgs false
namespace YtngbpbncipjimabGreatDoor.AM.Dg
/-- the eight words of a round -/
structure V8 where
  a : Int
  b : Int
  c : Int
  d : Int
  e : Int
  f : Int
  g : Int
  z : Int
def V8.list (v : V8) : List Int := [v.a, v.b, v.c, v.d, v.e, v.f, v.g, v.z]
def V8.of (l : List Int) : V8 := ⟨l.getD 0 0, l.getD 1 0, l.getD 2 0, l.getD 3 0, l.getD 4 0, l.getD 5 0, l.getD 6 0, l.getD 7 0⟩
def not32 (x : Int) : Int := xorI .u32 IntKind.u32.max x
def tW (v : V8) (k x : Int) : Int := (v.z + mixV v.e 6 11 25 + xorI .u32 (andI .u32 v.e v.f) (andI .u32 (not32 v.e) v.g) + k + x) % 4294967296
def uW (v : V8) : Int := (mixV v.a 2 13 22 + xorI .u32 (xorI .u32 (andI .u32 v.a v.b) (andI .u32 v.a v.c)) (andI .u32 v.b v.c)) % 4294967296
def rnd (v : V8) (k x : Int) : V8 := ⟨add32 (tW v k x) (uW v), v.a, v.b, v.c, add32 v.d (tW v k x), v.e, v.f, v.g⟩
def rnds : Nat → List Int → V8 → V8
  | 0, _, v => v
  | n + 1, m, v => rnd (rnds n m v) (K64.getD n 0) (m.getD n 0)
def roundsS (l m : List Int) : List Int := (rnds 64 m (V8.of l)).list
set_option maxHeartbeats 4000000 in
set_option maxRecDepth 1000000 in
theorem rounds_c (l m : List Int) (hl : l.length = 8) (hm : m.length = 64) (w : World) (hI : Inv w) : Calls Tryz.prog 75 #[.agg (wV l).toArray, .agg (wV m).toArray] w fun e w' => e = .returned (.agg (wV (roundsS l m)).toArray) ∧ Below w.heap.size w w' := by
  obtain ⟨A, hA⟩ : ∃ A, A = roundsS l m := ⟨_, rfl⟩
  rw [← hA]
  have HA := hid hA
  clear hA
  obtain ⟨cl, hcl⟩ : ∃ cl, (wV l).toArray = cl := ⟨_, rfl⟩
  obtain ⟨cm, hcm⟩ : ∃ cm, (wV m).toArray = cm := ⟨_, rfl⟩
  rw [hcl, hcm]
  have HL := hid hcl; have HM := hid hcm
  have s1 : cl.size = 8 := by rw [← hcl, List.size_toArray, wV_length, hl]
  have s2 : cm.size = 64 := by rw [← hcm, List.size_toArray, wV_length, hm]
  have o1 : cl.all (·.oneCell') = true := hcl ▸ wV_one l
  have o2 : cm.all (·.oneCell') = true := hcm ▸ wV_one m
  clear hcl hcm
  have HLL := hid hl; have HMM := hid hm
  clear hl hm
  have hmix := fun x i j k W => mix_c x i j k w hI W
  go_enter Tryz.func75, Tryz.ntmps75
  go_wp2_with fail
  have hz : (wV (List.replicate 8 0)).toArray = #[Value.int IntKind.u32 0, Value.int IntKind.u32 0, Value.int IntKind.u32 0, Value.int IntKind.u32 0, Value.int IntKind.u32 0, Value.int IntKind.u32 0, Value.int IntKind.u32 0, Value.int IntKind.u32 0] := rfl
  rw [← hz]
  clear hz
  obtain ⟨W, hW⟩ : ∃ W, ((w.alloc (Obj.cells cl 71)).alloc (Obj.cells cm 100)).alloc (Obj.cells (wV (List.replicate 8 0)).toArray 71) = W := ⟨_, rfl⟩
  have a0 : HasArr W w.heap.size 71 l := hW ▸ ((HL.out ▸ HasArr.new w _ _ : HasArr (w.alloc (Obj.cells cl 71)) w.heap.size 71 l).alloc _).alloc _
  have a1 : HasArr W (w.heap.size + 1) 100 m := by
    have := HasArr.new (w.alloc (Obj.cells cl 71)) 100 m
    rw [World.size_alloc, HM.out] at this
    exact hW ▸ this.alloc _
  have a2 : HasArr W (w.heap.size + 1 + 1) 71 (List.replicate 8 0) := by
    have := HasArr.new ((w.alloc (Obj.cells cl 71)).alloc (Obj.cells cm 100)) 71 (List.replicate 8 0)
    rw [World.size_alloc, World.size_alloc, hW] at this
    exact this
  have hB0 : Below w.heap.size w W := hW ▸ (((Below.refl _ _).alloc (Nat.le_refl _) _).alloc (by simp) _).alloc (by simp; omega) _
  rw [hW]
  clear hW s1 s2 o1 o2 HL HM
  have c0 := a0.cell (j := 0) (by rw [HLL.out]; omega)
  have c1 := a0.cell (j := 1) (by rw [HLL.out]; omega)
  have c2 := a0.cell (j := 2) (by rw [HLL.out]; omega)
  have c3 := a0.cell (j := 3) (by rw [HLL.out]; omega)
  have c4 := a0.cell (j := 4) (by rw [HLL.out]; omega)
  have c5 := a0.cell (j := 5) (by rw [HLL.out]; omega)
  have c6 := a0.cell (j := 6) (by rw [HLL.out]; omega)
  have c7 := a0.cell (j := 7) (by rw [HLL.out]; omega)
  obtain ⟨v0, hv0⟩ : ∃ v, V8.of l = v := ⟨_, rfl⟩
  have e0 : l.getD 0 0 = v0.a := by rw [← hv0]; rfl
  have e1 : l.getD 1 0 = v0.b := by rw [← hv0]; rfl
  have e2 : l.getD 2 0 = v0.c := by rw [← hv0]; rfl
  have e3 : l.getD 3 0 = v0.d := by rw [← hv0]; rfl
  have e4 : l.getD 4 0 = v0.e := by rw [← hv0]; rfl
  have e5 : l.getD 5 0 = v0.f := by rw [← hv0]; rfl
  have e6 : l.getD 6 0 = v0.g := by rw [← hv0]; rfl
  have e7 : l.getD 7 0 = v0.z := by rw [← hv0]; rfl
  rw [e0] at c0
  rw [e1] at c1
  rw [e2] at c2
  rw [e3] at c3
  rw [e4] at c4
  rw [e5] at c5
  rw [e6] at c6
  rw [e7] at c7
  clear e0 e1 e2 e3 e4 e5 e6 e7
  have HV := hid hv0
  have A1 := hid a1; have A2 := hid a2
  clear hv0 a0 a1 a2
  go_quiet (fail)
  go_wp2_with fail
  go_loopw [5, 6, 7, 8, 9, 10, 11, 12, 32] (fun s5 s6 s7 s8 s9 s10 s11 s12 i wr => ∃ (k : Nat) (v : V8), k ≤ 64 ∧ i = .int .i64 k ∧ v = rnds k m v0 ∧ s5 = .int .u32 v.a ∧ s6 = .int .u32 v.b ∧ s7 = .int .u32 v.c ∧ s8 = .int .u32 v.d ∧ s9 = .int .u32 v.e ∧ s10 = .int .u32 v.f ∧ s11 = .int .u32 v.g ∧ s12 = .int .u32 v.z ∧ HasArr wr (w.heap.size + 1) 100 m ∧ HasArr wr (w.heap.size + 1 + 1) 71 (List.replicate 8 0) ∧ Below w.heap.size w wr) (fun _ _ _ _ _ _ _ _ i _ => 64 - (RowKit.intOf i).toNat)
  case atStart => exact ⟨0, v0, by omega, rfl, rfl, rfl, rfl, rfl, rfl, rfl, rfl, rfl, rfl, A1.out, A2.out, below_drewN hB0 _⟩
  case round =>
    clear c0 c1 c2 c3 c4 c5 c6 c7 A1 A2 hB0
    obtain ⟨k, v, hk, rfl, hv, rfl, rfl, rfl, rfl, rfl, rfl, rfl, rfl, r1, r2, hbel⟩ := hrel
    have R1 := hid r1; have R2 := hid r2; have HVV := hid hv
    clear r1 r2 hv
    have hIr := hI.below hbel
    by_cases hkl : k < 64
    · have c1 := R1.out.cell (j := k) (by rw [HMM.out]; omega)
      have cK := hIr.cubes k _ (wV_get (l := K64) (i := k) hkl)
      rw [Nat.zero_add] at cK
      have hKg : K64.getD k 0 = K64[k]'hkl := by rw [List.getD_eq_getElem?_getD, List.getElem?_eq_getElem (show k < K64.length from hkl)]; rfl
      rw [← hKg] at cK
      clear hKg
      obtain ⟨x, hx⟩ : ∃ x, m.getD k 0 = x := ⟨_, rfl⟩
      obtain ⟨y, hy⟩ : ∃ y, K64.getD k 0 = y := ⟨_, rfl⟩
      rw [hx] at c1
      rw [hy] at cK
      have HX := hid hx; have HY := hid hy
      clear hx hy
      have g0 : (k : Int) < 64 := by omega
      obtain ⟨va, vb, vc, vd, ve, vf, vg, vz⟩ := v
      simp only at *
      go_wp2_with fail
      go_quiet ((go_at_call 92; exact Calls.quiet_of_same (hmix _ _ _ _ _)))
      go_wp2_with fail
      refine (hmix _ _ _ _ _).mono ?_
      rintro e w' ⟨rfl, rfl⟩
      go_wp2_with fail
      have hv := HVV.out
      refine ⟨⟨k + 1, rnd ⟨va, vb, vc, vd, ve, vf, vg, vz⟩ y x, by omega, rfl, ?_, rfl, rfl, rfl, rfl, rfl, rfl, rfl, rfl, R1.out, R2.out, below_drewN hbel _⟩, ?_⟩
      · rw [hv, ← HX.out, ← HY.out]
        rfl
      · show 64 - ((k : Int) + 1).toNat < 64 - (k : Int).toNat
        omega
    · obtain rfl : k = 64 := by omega
      obtain ⟨va, vb, vc, vd, ve, vf, vg, vz⟩ := v
      have hA : A = [va, vb, vc, vd, ve, vf, vg, vz] := by
        rw [HA.out]
        unfold roundsS
        rw [HV.out, ← HVV.out]
        rfl
      clear HA HVV HV
      subst hA
      have hth : wr.there (w.heap.size + 1 + 1) 0 (wV [va, vb, vc, vd, ve, vf, vg, vz]).toArray.size := R2.out.there
      have hrs := World.rangeAt_setCells_same wr (w.heap.size + 1 + 1) 0 (wV [va, vb, vc, vd, ve, vf, vg, vz]) hth
      simp only at *
      clear hIr R1 R2 hmix
      go_wp2_with (refine wpList_store_mid rfl 71 (.tmp 4) (.tmp 91) rfl (w.heap.size + 1 + 1) 0 (wV [va, vb, vc, vd, ve, vf, vg, vz]).toArray rfl rfl hth (by kernel_rfl) (wV_one _) ?_)
      refine bodyPost_ret (v := .agg (wV [va, vb, vc, vd, ve, vf, vg, vz]).toArray) (results_arr rfl (a := ⟨w.heap.size + 1 + 1, 0, none⟩) rfl (run_loadVar_mid _ _ _ _ _ _ hrs Tryz.underlying71 rfl (by kernel_rfl))) rfl ⟨rfl, ?_⟩
      exact hbel.trans ((below_setCells_w (by omega) _ 0 wr).mono (Nat.le_refl _))
end YtngbpbncipjimabGreatDoor.AM.Dg
end Go.Proofs

/- Layer 12: through. -/
namespace Go.Proofs
open Go.RowKit Go.Shelf Go.Lib
attribute [local go_sem] Oper.semAt_some
set_option linter.unusedVariables false
set_option linter.unusedSimpArgs false
namespace YtngbpbncipjimabGreatDoor.AM.Dg
def stepS (l : List Int) (s : List UInt8) : List Int := plusS l (roundsS l (stretchS s))
def thrN : Nat → List Int → List UInt8 → List Int
  | 0, l, _ => l
  | n + 1, l, s => thrN n (stepS l s) (s.drop 64)
def thrS (l : List Int) (s : List UInt8) : List Int := thrN (s.length / 64) l s
theorem roundsS_length (l m : List Int) : (roundsS l m).length = 8 := rfl
theorem stepS_length {l : List Int} (h : l.length = 8) (s : List UInt8) : (stepS l s).length = 8 := by unfold stepS plusS; rw [List.length_zipWith, roundsS_length, h]; rfl
theorem thrN_length : ∀ (n : Nat) {l : List Int} (s : List UInt8), l.length = 8 → (thrN n l s).length = 8
  | 0, _, _, h => h
  | n + 1, l, s, h => thrN_length n _ (stepS_length h s)
theorem thrS_step {l : List Int} {s : List UInt8} (h : 64 ≤ s.length) : thrS l s = thrS (stepS l s) (s.drop 64) := by
  unfold thrS
  rw [List.length_drop]
  obtain ⟨n, hn⟩ : ∃ n, s.length / 64 = n + 1 := ⟨s.length / 64 - 1, by omega⟩
  rw [hn, show (s.length - 64) / 64 = n from by omega]
  rfl
theorem thrS_end {l : List Int} {s : List UInt8} (h : s.length < 64) : thrS l s = l := by unfold thrS; rw [Nat.div_eq_of_lt h]; rfl
theorem HasArr.drew {w : World} {b T : Nat} {l : List Int} (h : HasArr w b T l) : HasArr w.drew b T l := h
theorem list8 {l : List Int} (h : l.length = 8) : ∃ a b c d e f g z, l = [a, b, c, d, e, f, g, z] := by
  rcases l with _ | ⟨a, _ | ⟨b, _ | ⟨c, _ | ⟨d, _ | ⟨e, _ | ⟨f, _ | ⟨g, _ | ⟨z, _ | ⟨y, r⟩⟩⟩⟩⟩⟩⟩⟩⟩ <;> simp at h
  exact ⟨a, b, c, d, e, f, g, z, rfl⟩
theorem HasArr.cells8 {w : World} {B T : Nat} {a b c d e f g z : Int} (h : HasArr w B T [a, b, c, d, e, f, g, z]) :
    w.cell? ⟨B, 0, none⟩ = some (.int .u32 a) ∧ w.cell? ⟨B, 1, none⟩ = some (.int .u32 b) ∧ w.cell? ⟨B, 2, none⟩ = some (.int .u32 c) ∧ w.cell? ⟨B, 3, none⟩ = some (.int .u32 d) ∧
    w.cell? ⟨B, 4, none⟩ = some (.int .u32 e) ∧ w.cell? ⟨B, 5, none⟩ = some (.int .u32 f) ∧ w.cell? ⟨B, 6, none⟩ = some (.int .u32 g) ∧ w.cell? ⟨B, 7, none⟩ = some (.int .u32 z) :=
  ⟨h.cell (j := 0) (by simp), h.cell (j := 1) (by simp), h.cell (j := 2) (by simp), h.cell (j := 3) (by simp), h.cell (j := 4) (by simp), h.cell (j := 5) (by simp), h.cell (j := 6) (by simp), h.cell (j := 7) (by simp)⟩
theorem HasArr.set8 {w : World} {B T : Nat} {a b c d e f g z : Int} (h : HasArr w B T [a, b, c, d, e, f, g, z]) (a' b' c' d' e' f' g' z' : Int) :
    HasArr ((((((((w.setCell ⟨B, 0, none⟩ (.int .u32 a')).setCell ⟨B, 1, none⟩ (.int .u32 b')).setCell ⟨B, 2, none⟩ (.int .u32 c')).setCell ⟨B, 3, none⟩ (.int .u32 d')).setCell ⟨B, 4, none⟩ (.int .u32 e')).setCell ⟨B, 5, none⟩ (.int .u32 f')).setCell ⟨B, 6, none⟩ (.int .u32 g')).setCell ⟨B, 7, none⟩ (.int .u32 z')) B T [a', b', c', d', e', f', g', z'] :=
  (((((((h.set 0 a').set 1 b').set 2 c').set 3 d').set 4 e').set 5 f').set 6 g').set 7 z'
def put8 (w : World) (B : Nat) (a b c d e f g z : Int) : World := (((((((w.setCell ⟨B, 0, none⟩ (.int .u32 a)).setCell ⟨B, 1, none⟩ (.int .u32 b)).setCell ⟨B, 2, none⟩ (.int .u32 c)).setCell ⟨B, 3, none⟩ (.int .u32 d)).setCell ⟨B, 4, none⟩ (.int .u32 e)).setCell ⟨B, 5, none⟩ (.int .u32 f)).setCell ⟨B, 6, none⟩ (.int .u32 g)).setCell ⟨B, 7, none⟩ (.int .u32 z)
theorem put8_below {w0 w : World} {B b : Nat} (h : Below B w0 w) (hb : B ≤ b) (a' b' c' d' e' f' g' z' : Int) : Below B w0 (put8 w b a' b' c' d' e' f' g' z') :=
  (((((((h.setCell (p := ⟨b, 0, none⟩) hb _).setCell (p := ⟨b, 1, none⟩) hb _).setCell (p := ⟨b, 2, none⟩) hb _).setCell (p := ⟨b, 3, none⟩) hb _).setCell (p := ⟨b, 4, none⟩) hb _).setCell (p := ⟨b, 5, none⟩) hb _).setCell (p := ⟨b, 6, none⟩) hb _).setCell (p := ⟨b, 7, none⟩) hb _
theorem HasArr.put8 {w : World} {B B' T : Nat} {l : List Int} (h : HasArr w B T l) (hb : B ≠ B') (a' b' c' d' e' f' g' z' : Int) : HasArr (Dg.put8 w B' a' b' c' d' e' f' g' z') B T l :=
  (((((((h.other (p := ⟨B', 0, none⟩) hb _).other (p := ⟨B', 1, none⟩) hb _).other (p := ⟨B', 2, none⟩) hb _).other (p := ⟨B', 3, none⟩) hb _).other (p := ⟨B', 4, none⟩) hb _).other (p := ⟨B', 5, none⟩) hb _).other (p := ⟨B', 6, none⟩) hb _).other (p := ⟨B', 7, none⟩) hb _
set_option maxHeartbeats 4000000 in
set_option maxRecDepth 1000000 in
theorem through_c (l : List Int) (s : List UInt8) (hl : l.length = 8) (hs : s.length ≤ 1000000) (w : World) (hI : Inv w) : Calls Tryz.prog 48 #[.agg (wV l).toArray, .string (ba s)] w fun e w' => e = .returned (.agg (wV (thrS l s)).toArray) ∧ Below w.heap.size w w' := by
  obtain ⟨A, hA⟩ : ∃ A, A = thrS l s := ⟨_, rfl⟩
  rw [← hA]
  have HA := hid hA
  clear hA
  obtain ⟨cl, hcl⟩ : ∃ cl, (wV l).toArray = cl := ⟨_, rfl⟩
  rw [hcl]
  have HL := hid hcl
  have s1 : cl.size = 8 := by rw [← hcl, List.size_toArray, wV_length, hl]
  have o1 : cl.all (·.oneCell') = true := hcl ▸ wV_one l
  clear hcl
  have HLL := hid hl
  clear hl
  go_enter Tryz.func48, Tryz.ntmps48
  go_wp2_with fail
  have hz : (wV (List.replicate 8 0)).toArray = #[Value.int IntKind.u32 0, Value.int IntKind.u32 0, Value.int IntKind.u32 0, Value.int IntKind.u32 0, Value.int IntKind.u32 0, Value.int IntKind.u32 0, Value.int IntKind.u32 0, Value.int IntKind.u32 0] := rfl
  rw [← hz]
  clear hz
  obtain ⟨W, hW⟩ : ∃ W, (w.alloc (Obj.cells cl 71)).alloc (Obj.cells (wV (List.replicate 8 0)).toArray 71) = W := ⟨_, rfl⟩
  have a0 : HasArr W w.heap.size 71 l := hW ▸ (HL.out ▸ HasArr.new w _ _ : HasArr (w.alloc (Obj.cells cl 71)) w.heap.size 71 l).alloc _
  have a2 : HasArr W (w.heap.size + 1) 71 (List.replicate 8 0) := by
    have := HasArr.new (w.alloc (Obj.cells cl 71)) 71 (List.replicate 8 0)
    rw [World.size_alloc, hW] at this
    exact this
  have hB0 : Below w.heap.size w W := hW ▸ ((Below.refl _ _).alloc (Nat.le_refl _) _).alloc (by simp) _
  rw [hW]
  clear hW s1 o1 HL
  go_loopw [1] (fun t wr => ∃ (l' : List Int) (s' : List UInt8), t = .string (ba s') ∧ l'.length = 8 ∧ s'.length ≤ s.length ∧ thrS l' s' = A ∧ HasArr wr w.heap.size 71 l' ∧ HasArr wr (w.heap.size + 1) 71 (List.replicate 8 0) ∧ Below w.heap.size w wr) (fun t _ => (match t with | .string x => x.size | _ => 0))
  case atStart => exact ⟨l, s, rfl, HLL.out, Nat.le_refl _, HA.out.symm, a0, a2, hB0⟩
  case round =>
    clear a0 a2 hB0 HA HLL
    obtain ⟨l1, s1, rfl, hl1, hs1, hth, r0, r2, hbel⟩ := hrel
    have hIr := hI.below hbel
    have hsz : (ba s1).size = s1.length := ba_len s1
    have HT := hid hth
    clear hth
    by_cases hk : 64 ≤ s1.length
    · obtain ⟨a, b, c, d, e, f, g, z, rfl⟩ := list8 hl1
      obtain ⟨c0, c1, c2, c3, c4, c5, c6, c7⟩ := r0.cells8
      have hg : (64 : Int) ≤ ((ba s1).size : Int) := by omega
      have hth := HT.out
      rw [thrS_step hk] at hth
      obtain ⟨M, hM⟩ : ∃ M, stretchS s1 = M := ⟨_, rfl⟩
      obtain ⟨X, hX⟩ : ∃ X, roundsS [a, b, c, d, e, f, g, z] M = X := ⟨_, rfl⟩
      have hMl : M.length = 64 := by rw [← hM]; exact stretchS_length s1
      have hXl : X.length = 8 := by rw [← hX]; rfl
      obtain ⟨y0, y1, y2, y3, y4, y5, y6, y7, hY⟩ := list8 (stepS_length hl1 s1)
      have hPX : plusS [a, b, c, d, e, f, g, z] X = [y0, y1, y2, y3, y4, y5, y6, y7] := by rw [← hY, ← hX, ← hM]; rfl
      rw [hY] at hth
      have hS : ∀ W, Inv W → Calls Tryz.prog 76 #[.string (ba s1)] W fun e w' => e = .returned (.agg (wV M).toArray) ∧ Below W.heap.size W w' := fun W hi => by
        have := stretch_c s1 hk (by omega) W hi
        rw [hM] at this
        exact this
      have hR : ∀ W, Inv W → Calls Tryz.prog 75 #[.agg #[.int .u32 a, .int .u32 b, .int .u32 c, .int .u32 d, .int .u32 e, .int .u32 f, .int .u32 g, .int .u32 z], .agg (wV M).toArray] W fun e w' => e = .returned (.agg (wV X).toArray) ∧ Below W.heap.size W w' := fun W hi => by
        have := rounds_c [a, b, c, d, e, f, g, z] M rfl hMl W hi
        rw [hX] at this
        exact this
      have hP : ∀ W, Calls Tryz.prog 74 #[.agg #[.int .u32 a, .int .u32 b, .int .u32 c, .int .u32 d, .int .u32 e, .int .u32 f, .int .u32 g, .int .u32 z], .agg (wV X).toArray] W fun e w' => e = .returned (.agg #[.int .u32 y0, .int .u32 y1, .int .u32 y2, .int .u32 y3, .int .u32 y4, .int .u32 y5, .int .u32 y6, .int .u32 y7]) ∧ Below W.heap.size W w' := fun W => by
        have := plus_c [a, b, c, d, e, f, g, z] X rfl hXl W
        rw [hPX] at this
        exact this
      have HTH := hid hth; have CS := hid hS; have CR := hid hR; have CP := hid hP; have HR0 := hid r0; have HR2 := hid r2
      clear hth hS hR hP hPX hX hM hMl hXl hY HT hl1 r0 r2
      go_wp2_with fail
      go_region_law (first
        | (go_simp; go_at_call 76; refine (CS.out _ hIr.drew).mono ?_; rintro e W1 ⟨rfl, b1⟩; have B1 : Below wr.heap.size wr W1 := (Below.refl _ _).drew.trans b1; have I1 : Inv W1 := hIr.below B1; have H1 := hid (HR0.out.below B1 HR0.out.lt); obtain ⟨c10, c11, c12, c13, c14, c15, c16, c17⟩ := H1.out.cells8; dsimp only)
        | (go_simp; go_at_call 75; refine (CR.out _ I1).mono ?_; rintro e W2 ⟨rfl, b2⟩; have B2 : Below wr.heap.size wr W2 := B1.trans (b2.mono B1.size); have H2 := hid (HR0.out.below B2 HR0.out.lt); obtain ⟨c20, c21, c22, c23, c24, c25, c26, c27⟩ := H2.out.cells8; dsimp only)
        | (go_simp; go_at_call 74; refine (CP.out _).mono ?_; rintro e W3 ⟨rfl, b3⟩; have B3 : Below wr.heap.size wr W3 := B2.trans (b3.mono B2.size); have H3 := hid (HR0.out.below B3 HR0.out.lt); obtain ⟨c30, c31, c32, c33, c34, c35, c36, c37⟩ := H3.out.cells8; have f30 := H3.out.frozen 0; have f31 := H3.out.frozen 1; have f32 := H3.out.frozen 2; have f33 := H3.out.frozen 3; have f34 := H3.out.frozen 4; have f35 := H3.out.frozen 5; have f36 := H3.out.frozen 6; have f37 := H3.out.frozen 7; dsimp only))
      all_goals
        go_wp2_with fail
        have hex : (ba s1).extract 64 s1.length = ba (s1.drop 64) := by rw [ba_extract, List.take_of_length_le (by rw [List.length_drop]; exact Nat.le_refl _)]
        refine ⟨⟨[y0, y1, y2, y3, y4, y5, y6, y7], s1.drop 64, by rw [hex], rfl, by rw [List.length_drop]; omega, HTH.out, H3.out.set8 _ _ _ _ _ _ _ _, HasArr.put8 (HR2.out.below B3 HR2.out.lt) (by omega) _ _ _ _ _ _ _ _, put8_below (hbel.trans (B3.mono hbel.size)) (Nat.le_refl _) _ _ _ _ _ _ _ _⟩, ?_⟩
        show ((ba s1).extract 64 s1.length).size < (ba s1).size
        rw [hex, ba_len, ba_len, List.length_drop]
        omega
    · have hth := HT.out
      rw [thrS_end (by omega)] at hth
      subst hth
      obtain ⟨a, b, c, d, e, f, g, z, rfl⟩ := list8 hl1
      obtain ⟨c0, c1, c2, c3, c4, c5, c6, c7⟩ := r0.cells8
      have hg : ((ba s1).size : Int) < 64 := by omega
      have hth : wr.there (w.heap.size + 1) 0 (wV [a, b, c, d, e, f, g, z]).toArray.size := r2.there
      have hrs := World.rangeAt_setCells_same wr (w.heap.size + 1) 0 (wV [a, b, c, d, e, f, g, z]) hth
      clear HT
      have R0 := hid r0
      clear r0 r2 hIr
      go_upto_region 4 with (fail)
      refine wp_region_lit ?_
      refine wpList_load_mid rfl 71 (.tmp 2) rfl w.heap.size 0 rfl (wV [a, b, c, d, e, f, g, z]) _ R0.out.range Tryz.underlying71 rfl (by kernel_rfl) ?_
      refine wpList_store_mid rfl 71 (.tmp 4) (.tmp 16) rfl (w.heap.size + 1) 0 (wV [a, b, c, d, e, f, g, z]).toArray rfl rfl hth (by kernel_rfl) (wV_one _) ?_
      refine wpList_nil ?_
      go_wp2_with fail
      refine bodyPost_ret (v := .agg (wV [a, b, c, d, e, f, g, z]).toArray) (results_arr rfl (a := ⟨w.heap.size + 1, 0, none⟩) rfl (run_loadVar_mid _ _ _ _ _ _ hrs Tryz.underlying71 rfl (by kernel_rfl))) rfl ⟨rfl, ?_⟩
      exact hbel.trans ((below_setCells_w (by omega) _ 0 wr).mono (Nat.le_refl _))
end YtngbpbncipjimabGreatDoor.AM.Dg
end Go.Proofs
