/- One text of DigC, DigG0, DigS, DigQ, DigA, DigB, DigR, DigT, DigX, DigP, DigH, DigO, DigF, DigN (mk/merge.py). -/
import Derived.Shelf.Abstract
import Derived.Shelf.RegionOpen
import Derived.WalkKit
import Derived.OwnWalkIn
import Derived.TacticsInMore
import Derived.LoopNIn
import Derived.LoopIn
import Derived.Ground.NamesProg
import Derived.Shelf.Lay
import Derived.Shelf.LaysM
import Derived.Test.YtbcdlkapapajoaaDoorProg
import Derived.Test.YtbcdlkapapajoaaDoorSpl
import Derived.Test.YtbcdlkapapajoaaDoorArg
import Derived.Test.YtbcdlkapapajoaaDoorCard
import Derived.Test.YtbcdlkapapajoaaDoorRows
import Derived.LaidLaws
import Derived.Stop.LaidErr
import Derived.Lib.LaidTab
import Derived.Deep.MidRow
import Derived.Test.YtbcdlkapapajoaaDoorPure
import Derived.Deep.QuietTactic
import Derived.BigQuiet
import Derived.Lib.AgreeV
import Derived.Deep.RegionHeld3
import Derived.Deep.Cut
import Derived.Lib.EndianMore
import Derived.Lib.Hide
import Derived.StillTailTactics
import Derived.Deep.AppendLies
import Derived.Test.YtbcdlkapapajoaaDoorShelf
/- Layer 12: what is known of old memory (the two tables of roots); words in memory. -/
namespace Go.Proofs
open Go.RowKit Go.Shelf Go.Lib
set_option linter.unusedVariables false
set_option linter.unusedSimpArgs false
namespace YtbcdlkapapajoaaDoor.AM
def K64 : List Int := [1116352408, 1899447441, 3049323471, 3921009573, 961987163, 1508970993, 2453635748, 2870763221, 3624381080, 310598401, 607225278, 1426881987, 1925078388, 2162078206, 2614888103, 3248222580, 3835390401, 4022224774, 264347078, 604807628, 770255983, 1249150122, 1555081692, 1996064986, 2554220882, 2821834349, 2952996808, 3210313671, 3336571891, 3584528711, 113926993, 338241895, 666307205, 773529912, 1294757372, 1396182291, 1695183700, 1986661051, 2177026350, 2456956037, 2730485921, 2820302411, 3259730800, 3345764771, 3516065817, 3600352804, 4094571909, 275423344, 430227734, 506948616, 659060556, 883997877, 958139571, 1322822218, 1537002063, 1747873779, 1955562222, 2024104815, 2227730452, 2361852424, 2428436474, 2756734187, 3204031479, 3329325298]
def H8 : List Int := [1779033703, 3144134277, 1013904242, 2773480762, 1359893119, 2600822924, 528734635, 1541459225]
/-- words, as the program has them -/
def wV (l : List Int) : List Value := l.map (Value.int .u32)
theorem wV_length (l : List Int) : (wV l).length = l.length := by simp [wV]
theorem wV_get {l : List Int} {i : Nat} (h : i < l.length) : (wV l)[i]? = some (.int .u32 l[i]) := by simp [wV, List.getElem?_map, List.getElem?_eq_getElem h]
/-- what is known of old memory -/
structure Inv (w : World) : Prop where
  cubes : w.rangeAt 1 0 (wV K64)
  squares : w.rangeAt 0 0 (wV H8)
theorem range_below {w w' : World} {b o B : Nat} {cs : List Value} (h : w.rangeAt b o cs) (hb : Below B w w') (hB : b < B) : w'.rangeAt b o cs :=
  fun j v hv => (hb.cell (p := ⟨b, o + j, none⟩) hB).trans (h j v hv)
theorem range_lt {w : World} {b o : Nat} {cs : List Value} (h : w.rangeAt b o cs) (hn : 0 < cs.length) : b < w.heap.size :=
  World.block_lt_of_cell? w ⟨b, o + 0, none⟩ (h 0 _ (List.getElem?_eq_getElem hn))
theorem Inv.below {w w' : World} (h : Inv w) (hb : Below w.heap.size w w') : Inv w' :=
  ⟨range_below h.cubes hb (range_lt h.cubes (by decide)), range_below h.squares hb (range_lt h.squares (by decide))⟩
theorem know_inv : Know Inv Inv := ⟨fun w w' h hb => h.below hb, fun _ h => h⟩
theorem tab1_eq : (Rows.laid_armada_digest_cubeRoots : DataW Unit) = Lib.tabData .u32 K64 := by rfl
theorem tab2_eq : (Rows.laid_armada_digest_squareRoots : DataW Unit) = Lib.tabData .u32 H8 := by rfl
theorem gCub : Tryd.prog.globalNamed "armada/digest.cubeRoots" = some 1 ∧ (Tryd.prog.globals[(1 : Nat)]?).map (·.type) = some 58 := ⟨by kernel_rfl, by kernel_rfl⟩
theorem gSqu : Tryd.prog.globalNamed "armada/digest.squareRoots" = some 0 ∧ (Tryd.prog.globals[(0 : Nat)]?).map (·.type) = some 37 := ⟨by kernel_rfl, by kernel_rfl⟩
theorem range_of_var {w : World} {nm : String} {g : Nat} {l : List Int} (hg : Tryd.prog.globalNamed nm = some g) (h : Lib.TabIs Tryd.prog w nm .u32 l) : w.rangeAt g 0 (wV l) := by
  intro j v hv
  have h0 := World.var?_cell hg h j
  rw [Nat.zero_add, h0]
  simpa [wV] using hv
theorem inv_of {w : World} (hL : laidMet Tryd.prog [("armada/digest.cubeRoots", Rows.laid_armada_digest_cubeRoots), ("armada/digest.squareRoots", Rows.laid_armada_digest_squareRoots)] w) : Inv w := by
  have h2 := hL.tail
  rw [tab1_eq] at hL
  rw [tab2_eq] at h2
  exact ⟨range_of_var gCub.1 (Lib.tabIs_of_head gCub.1 gCub.2 (n := 64) (e := 36) (by kernel_rfl) (by kernel_rfl) (by kernel_rfl) (by kernel_rfl) hL),
    range_of_var gSqu.1 (Lib.tabIs_of_head gSqu.1 gSqu.2 (n := 8) (e := 36) (by kernel_rfl) (by kernel_rfl) (by kernel_rfl) (by kernel_rfl) h2)⟩
variable {P : Program}
theorem pc_done {Pc : Nat → Nat → Prop} {w w' : World} {v : Value} {d : D} {e : Ending} (he : e = .returned v) (hb : Below w.heap.size w w') (hv : DRep (noEnv Pc) noSt w' v d) :
    ∃ v' Pc', e = .returned v' ∧ Below w.heap.size w w' ∧ (∀ b o, Pc b o → Pc' b o) ∧ (∀ b o, Pc' b o → Pc b o ∨ (w.heap.size ≤ b ∧ b < w'.heap.size)) ∧ DRep (noEnv Pc') noSt w' v' d :=
  ⟨v, Pc, he, hb, fun _ _ h => h, fun _ _ h => Or.inl h, hv⟩
abbrev strA : SD := .one (.c (.d .str))
abbrev intA : SD := .one (.c (.d (.int .i64)))
abbrev boolA : SD := .one (.c (.d .bool))
abbrev u32A : SD := .one (.c (.d (.int .u32)))
end YtbcdlkapapajoaaDoor.AM
end Go.Proofs

/- Layer 12, first part: what functions come to, as plain functions of data: written by program (shal.py); the kernel checks it. -/
namespace Go.Proofs.YtbcdlkapapajoaaDoor.AM
open Go.RowKit
set_option linter.unusedVariables false
set_option maxRecDepth 20000
/-! math/bits.RotateLeft32 -/
def fRotl_lts (n : Nat) : List LC := []
def fRotl_t (n : Nat) (a1 : Int) (a2 : Int) : Option (Int) :=
  letO (IntKind.wrap .u64 a2) fun (n1 : Int) => letO (andI .u64 n1 (31 : Int)) fun (n2 : Int) => (shlO .u32 a1 n2).bind fun (n3 : Int) => letO (IntKind.wrap .u64 ((32 : Int) - n2)) fun (n4 : Int) => (shrO .u32 a1 n4).bind fun (n5 : Int) => letO (orI .u32 n3 n5) fun (n6 : Int) => some n6
def fRotl_fc (n : Nat) : FC := { f := 58, args := [.one (.c (.d (.int .u32))), .one (.c (.d (.int .i64)))], res := .one (.c (.d (.int .u32))), F := fun p => fRotl_t n p.1 p.2 }
def fRotl_ct (n : Nat) : List FC := []
theorem fRotl_ctok (n : Nat) {G : World → Prop} (hG : Know Inv G) : ∀ c ∈ fRotl_ct n, FCok Tryd.prog G c ∧ noTup c.args = true := (fun _ h => by cases h)
def fRotl_dh : Hints := []
theorem fRotl_dr : drB fRotl_dh (bodyOf Tryd.f58) = true := by kernel_rfl
theorem fRotl_eq (n : Nat) : ∀ a, (fRotl_fc n).F a = main Tryd.prog 17 (fRotl_ct n) (fRotl_lts n) fRotl_dh (bodyOf Tryd.f58) [.tmp 4] (fRotl_fc n).args (fRotl_fc n).res a := by intro a; kernel_rfl
theorem fRotl_ok (n : Nat) : FCall Inv Tryd.prog (fRotl_fc n) := fun G hG => ⟨⟨by kernel_rfl, fun a r h => main_ok (c := bodyOf Tryd.f58) Tryd.func58 (by kernel_rfl) (by kernel_rfl) (Nat.le_of_ble_eq_true (by kernel_rfl)) hG.st (by kernel_rfl) (rs := [.tmp 4]) (by kernel_rfl) (fRotl_ctok n hG) (lts := fRotl_lts n) (fun F hF hFG => have hK : Know Inv F.G := hFG ▸ hG; (lok_of fun j L h1 h2 h3 => absurd h2 (Nat.not_lt.2 (Nat.le_trans (by decide +kernel) h1)))) fRotl_dr ((fRotl_eq n a).symm.trans h)⟩, rfl⟩
/-! armada/digest.turn -/
def fTurn_lts (n : Nat) : List LC := []
def fTurn_t (n : Nat) (a1 : Int) (a2 : Int) : Option (Int) :=
  (fRotl_t n a1 (IntKind.wrap .i64 (0 - a2))).bind fun (r1 : Int) => some r1
def fTurn_fc (n : Nat) : FC := { f := 57, args := [.one (.c (.d (.int .u32))), .one (.c (.d (.int .i64)))], res := .one (.c (.d (.int .u32))), F := fun p => fTurn_t n p.1 p.2 }
def fTurn_ct (n : Nat) : List FC := [fRotl_fc n]
theorem fTurn_ctok (n : Nat) {G : World → Prop} (hG : Know Inv G) : ∀ c ∈ fTurn_ct n, FCok Tryd.prog G c ∧ noTup c.args = true := List.forall_mem_cons.2 ⟨fRotl_ok n G hG, (fun _ h => by cases h)⟩
def fTurn_dh : Hints := []
theorem fTurn_dr : drB fTurn_dh (bodyOf Tryd.f57) = true := by kernel_rfl
theorem fTurn_eq (n : Nat) : ∀ a, (fTurn_fc n).F a = main Tryd.prog 9 (fTurn_ct n) (fTurn_lts n) fTurn_dh (bodyOf Tryd.f57) [.tmp 4] (fTurn_fc n).args (fTurn_fc n).res a := by intro a; kernel_rfl
theorem fTurn_ok (n : Nat) : FCall Inv Tryd.prog (fTurn_fc n) := fun G hG => ⟨⟨by kernel_rfl, fun a r h => main_ok (c := bodyOf Tryd.f57) Tryd.func57 (by kernel_rfl) (by kernel_rfl) (Nat.le_of_ble_eq_true (by kernel_rfl)) hG.st (by kernel_rfl) (rs := [.tmp 4]) (by kernel_rfl) (fTurn_ctok n hG) (lts := fTurn_lts n) (fun F hF hFG => have hK : Know Inv F.G := hFG ▸ hG; (lok_of fun j L h1 h2 h3 => absurd h2 (Nat.not_lt.2 (Nat.le_trans (by decide +kernel) h1)))) fTurn_dr ((fTurn_eq n a).symm.trans h)⟩, rfl⟩
/-! armada/digest.mix -/
def fMix_lts (n : Nat) : List LC := []
def fMix_t (n : Nat) (a1 : Int) (a2 : Int) (a3 : Int) (a4 : Int) : Option (Int) :=
  (fTurn_t n a1 a2).bind fun (r1 : Int) => (fTurn_t n a1 a3).bind fun (r2 : Int) => letO (xorI .u32 r1 r2) fun (n3 : Int) => (fTurn_t n a1 a4).bind fun (r4 : Int) => letO (xorI .u32 n3 r4) fun (n5 : Int) => some n5
def fMix_fc (n : Nat) : FC := { f := 47, args := [.one (.c (.d (.int .u32))), .one (.c (.d (.int .i64))), .one (.c (.d (.int .i64))), .one (.c (.d (.int .i64)))], res := .one (.c (.d (.int .u32))), F := fun p => fMix_t n p.1 p.2.1 p.2.2.1 p.2.2.2 }
def fMix_ct (n : Nat) : List FC := [fTurn_fc n]
theorem fMix_ctok (n : Nat) {G : World → Prop} (hG : Know Inv G) : ∀ c ∈ fMix_ct n, FCok Tryd.prog G c ∧ noTup c.args = true := List.forall_mem_cons.2 ⟨fTurn_ok n G hG, (fun _ h => by cases h)⟩
def fMix_dh : Hints := []
theorem fMix_dr : drB fMix_dh (bodyOf Tryd.f47) = true := by kernel_rfl
theorem fMix_eq (n : Nat) : ∀ a, (fMix_fc n).F a = main Tryd.prog 20 (fMix_ct n) (fMix_lts n) fMix_dh (bodyOf Tryd.f47) [.tmp 8] (fMix_fc n).args (fMix_fc n).res a := by intro a; kernel_rfl
theorem fMix_ok (n : Nat) : FCall Inv Tryd.prog (fMix_fc n) := fun G hG => ⟨⟨by kernel_rfl, fun a r h => main_ok (c := bodyOf Tryd.f47) Tryd.func47 (by kernel_rfl) (by kernel_rfl) (Nat.le_of_ble_eq_true (by kernel_rfl)) hG.st (by kernel_rfl) (rs := [.tmp 8]) (by kernel_rfl) (fMix_ctok n hG) (lts := fMix_lts n) (fun F hF hFG => have hK : Know Inv F.G := hFG ▸ hG; (lok_of fun j L h1 h2 h3 => absurd h2 (Nat.not_lt.2 (Nat.le_trans (by decide +kernel) h1)))) fMix_dr ((fMix_eq n a).symm.trans h)⟩, rfl⟩
/-! armada/digest.mixLow -/
def fMixLow_lts (n : Nat) : List LC := []
def fMixLow_t (n : Nat) (a1 : Int) (a2 : Int) (a3 : Int) (a4 : Int) : Option (Int) :=
  (fTurn_t n a1 a2).bind fun (r1 : Int) => (fTurn_t n a1 a3).bind fun (r2 : Int) => letO (xorI .u32 r1 r2) fun (n3 : Int) => (shrO .u32 a1 a4).bind fun (n4 : Int) => letO (xorI .u32 n3 n4) fun (n5 : Int) => some n5
def fMixLow_fc (n : Nat) : FC := { f := 48, args := [.one (.c (.d (.int .u32))), .one (.c (.d (.int .i64))), .one (.c (.d (.int .i64))), .one (.c (.d (.int .i64)))], res := .one (.c (.d (.int .u32))), F := fun p => fMixLow_t n p.1 p.2.1 p.2.2.1 p.2.2.2 }
def fMixLow_ct (n : Nat) : List FC := [fTurn_fc n]
theorem fMixLow_ctok (n : Nat) {G : World → Prop} (hG : Know Inv G) : ∀ c ∈ fMixLow_ct n, FCok Tryd.prog G c ∧ noTup c.args = true := List.forall_mem_cons.2 ⟨fTurn_ok n G hG, (fun _ h => by cases h)⟩
def fMixLow_dh : Hints := [(1, [⟨805306369, 134217728, 0⟩, ⟨6442450952, 1073741824, 0⟩, ⟨52747567104, 8589934592, 3⟩, ⟨412316860417, 68719476736, 0⟩, ⟨3298534883392, 549755813888, 0⟩, ⟨27006754357248, 4398046511104, 31⟩, ⟨215512868978688, 35184372088832, 63⟩, ⟨1688849860263937, 281474976710656, 0⟩, ⟨13510798882112000, 2251799813685248, 0⟩, ⟨110619665847287808, 18014398509481984, 384⟩, ⟨882740711336706048, 144115188075855872, 1023⟩, ⟨144115188176519168, 16777216, 2047⟩])]
theorem fMixLow_dr : drB fMixLow_dh (bodyOf Tryd.f48) = true := by kernel_rfl
theorem fMixLow_eq (n : Nat) : ∀ a, (fMixLow_fc n).F a = main Tryd.prog 20 (fMixLow_ct n) (fMixLow_lts n) fMixLow_dh (bodyOf Tryd.f48) [.tmp 8] (fMixLow_fc n).args (fMixLow_fc n).res a := by intro a; kernel_rfl
theorem fMixLow_ok (n : Nat) : FCall Inv Tryd.prog (fMixLow_fc n) := fun G hG => ⟨⟨by kernel_rfl, fun a r h => main_ok (c := bodyOf Tryd.f48) Tryd.func48 (by kernel_rfl) (by kernel_rfl) (Nat.le_of_ble_eq_true (by kernel_rfl)) hG.st (by kernel_rfl) (rs := [.tmp 8]) (by kernel_rfl) (fMixLow_ctok n hG) (lts := fMixLow_lts n) (fun F hF hFG => have hK : Know Inv F.G := hFG ▸ hG; (lok_of fun j L h1 h2 h3 => absurd h2 (Nat.not_lt.2 (Nat.le_trans (by decide +kernel) h1)))) fMixLow_dr ((fMixLow_eq n a).symm.trans h)⟩, rfl⟩
/-! armada/digest.word -/
@[reducible] def fWord_sh0 : SSt := ⟨[(0, .one (.c (.d .str))), (1, .one (.c (.d (.int .i64)))), (5, .one (.c (.d (.int .u32)))), (7, .one (.c (.d (.int .i64))))], [], []⟩
@[reducible] def fWord_outs0 : List (Exit × SSt) := [(.exit 0, ⟨[(5, .one (.c (.d (.int .u32))))], [], []⟩)]
def fWord_l0 (n : Nat) (rec : (List UInt8) → Int → Int → Int → Option ((Int × (Unit)) × (Unit) × (Unit))) (a1 : List UInt8) (a2 : Int) (a3 : Int) (a4 : Int) : Option ((Int × (Unit)) × (Unit) × (Unit)) :=
  (bif decide (a4 < (4 : Int)) then (shlO .u32 a3 (8 : Int)).bind fun (n1 : Int) => letO (IntKind.wrap .i64 (a2 * (4 : Int))) fun (n2 : Int) => letO (IntKind.wrap .i64 (n2 + a4)) fun (n3 : Int) => (sAt a1 n3).bind fun (c4 : Int) => letO (IntKind.wrap .u32 c4) fun (n5 : Int) => letO (orI .u32 n1 n5) fun (n6 : Int) => letO (IntKind.wrap .i64 (a4 + (1 : Int))) fun (n7 : Int) => rec a1 a2 n6 n7 else some (((a3, ()), ((), ()))))
def fWord_F0 (n : Nat) (rec : pSt fWord_sh0 → Option (pOuts fWord_outs0)) (p : pSt fWord_sh0) : Option (pOuts fWord_outs0) := fWord_l0 n (fun a1 a2 a3 a4 => rec ((a1, (a2, (a3, (a4, ())))), ((), ()))) p.1.1 p.1.2.1 p.1.2.2.1 p.1.2.2.2.1
def fWord_loop0 (n m : Nat) (a1 : List UInt8) (a2 : Int) (a3 : Int) (a4 : Int) : Option ((Int × (Unit)) × (Unit) × (Unit)) := iterF (fWord_F0 n) m ((a1, (a2, (a3, (a4, ())))), ((), ()))
theorem fWord_loop0_succ (n m : Nat) (a1 : List UInt8) (a2 : Int) (a3 : Int) (a4 : Int) : fWord_loop0 n (m + 1) a1 a2 a3 a4 = fWord_l0 n (fun a1 a2 a3 a4 => fWord_loop0 n m a1 a2 a3 a4) a1 a2 a3 a4 := rfl
def fWord_L0 (n : Nat) : LC := { sh := fWord_sh0, outs := fWord_outs0, F := iterF (fWord_F0 n) n }
def fWord_lts (n : Nat) : List LC := [fWord_L0 n]
def fWord_t (n : Nat) (a1 : List UInt8) (a2 : Int) : Option (Int) :=
  (fWord_loop0 n n a1 a2 (0 : Int) (0 : Int)).bind fun (o8 : (Int × (Unit)) × (Unit) × (Unit)) => some o8.1.1
def fWord_fc (n : Nat) : FC := { f := 21, args := [.one (.c (.d .str)), .one (.c (.d (.int .i64)))], res := .one (.c (.d (.int .u32))), F := fun p => fWord_t n p.1 p.2 }
def fWord_ct (n : Nat) : List FC := []
theorem fWord_ctok (n : Nat) {G : World → Prop} (hG : Know Inv G) : ∀ c ∈ fWord_ct n, FCok Tryd.prog G c ∧ noTup c.args = true := (fun _ h => by cases h)
def fWord_dh : Hints := []
theorem fWord_dr : drB fWord_dh (bodyOf Tryd.f21) = true := by kernel_rfl
theorem fWord_eq0 (n : Nat) : ∀ rec p, fWord_F0 n rec p = round Tryd.prog 22 (fWord_ct n) (fWord_lts n) fWord_dh 1 fWord_sh0 fWord_outs0 (bodyAt 0 0 (bodyOf Tryd.f21)) rec p := by intro rec p; kernel_rfl
theorem fWord_lok0 (n : Nat) {F : Fr} (hF : F.n = 22) (hK : Know Inv F.G) : LCok Tryd.prog F (fWord_L0 n) (bodyAt 0 0 (bodyOf Tryd.f21)) :=
  loop_ok hF (by kernel_rfl) (fWord_ctok n hK) (fWord_eq0 n) (fuel := n) (fun _ => rfl) (lok_of fun j L h1 h2 h3 => absurd h2 (Nat.not_lt.2 (Nat.le_trans (by decide +kernel) h1))) (drB_at fWord_dr)
theorem fWord_eq (n : Nat) : ∀ a, (fWord_fc n).F a = main Tryd.prog 22 (fWord_ct n) (fWord_lts n) fWord_dh (bodyOf Tryd.f21) [.tmp 4] (fWord_fc n).args (fWord_fc n).res a := by intro a; kernel_rfl
theorem fWord_ok (n : Nat) : FCall Inv Tryd.prog (fWord_fc n) := fun G hG => ⟨⟨by kernel_rfl, fun a r h => main_ok (c := bodyOf Tryd.f21) Tryd.func21 (by kernel_rfl) (by kernel_rfl) (Nat.le_of_ble_eq_true (by kernel_rfl)) hG.st (by kernel_rfl) (rs := [.tmp 4]) (by kernel_rfl) (fWord_ctok n hG) (lts := fWord_lts n) (fun F hF hFG => have hK : Know Inv F.G := hFG ▸ hG; (lok_of (c := (bodyOf Tryd.f21)) (fun j L h1 h2 h3 => by
    have h2' : j < 1 := Nat.lt_of_lt_of_le h2 (by decide +kernel)
    match j, h1, h2', h3 with
    | 0, _, _, h3 => obtain rfl := Option.some.inj h3; exact (show bodyAt 0 0 (bodyOf Tryd.f21) = bodyAt 0 0 (bodyOf Tryd.f21) by kernel_rfl) ▸ fWord_lok0 n hF hK
    | j + 1, _, h2', _ => exact absurd h2' (by omega)))) fWord_dr ((fWord_eq n a).symm.trans h)⟩, rfl⟩
/-! armada/digest.lay -/
def fLay12_lts (n : Nat) : List LC := []
def fLay12_t (n : Nat) (a1 : Int) : Option (List UInt8) :=
  (shrO .u32 a1 (24 : Int)).bind fun (n1 : Int) => letO (IntKind.wrap .u8 n1) fun (n2 : Int) => (shrO .u32 a1 (16 : Int)).bind fun (n3 : Int) => letO (IntKind.wrap .u8 n3) fun (n4 : Int) => (shrO .u32 a1 (8 : Int)).bind fun (n5 : Int) => letO (IntKind.wrap .u8 n5) fun (n6 : Int) => letO (IntKind.wrap .u8 a1) fun (n7 : Int) => some (List.map (fun n : Int => UInt8.ofNat n.toNat) ([n2, n4, n6, n7] : List (Int)))
def fLay12_fc (n : Nat) : FC := { f := 30, args := [.one (.c (.d (.int .u32)))], res := .one (.c (.d .str)), F := fun p => fLay12_t n p }
def fLay12_ct (n : Nat) : List FC := []
theorem fLay12_ctok (n : Nat) {G : World → Prop} (hG : Know Inv G) : ∀ c ∈ fLay12_ct n, FCok Tryd.prog G c ∧ noTup c.args = true := (fun _ h => by cases h)
def fLay12_dh : Hints := []
theorem fLay12_dr : drB fLay12_dh (bodyOf Tryd.f30) = true := by kernel_rfl
theorem fLay12_eq (n : Nat) : ∀ a, (fLay12_fc n).F a = main Tryd.prog 16 (fLay12_ct n) (fLay12_lts n) fLay12_dh (bodyOf Tryd.f30) [.tmp 2] (fLay12_fc n).args (fLay12_fc n).res a := by intro a; kernel_rfl
theorem fLay12_ok (n : Nat) : FCall Inv Tryd.prog (fLay12_fc n) := fun G hG => ⟨⟨by kernel_rfl, fun a r h => main_ok (c := bodyOf Tryd.f30) Tryd.func30 (by kernel_rfl) (by kernel_rfl) (Nat.le_of_ble_eq_true (by kernel_rfl)) hG.st (by kernel_rfl) (rs := [.tmp 2]) (by kernel_rfl) (fLay12_ctok n hG) (lts := fLay12_lts n) (fun F hF hFG => have hK : Know Inv F.G := hFG ▸ hG; (lok_of fun j L h1 h2 h3 => absurd h2 (Nat.not_lt.2 (Nat.le_trans (by decide +kernel) h1)))) fLay12_dr ((fLay12_eq n a).symm.trans h)⟩, rfl⟩
end Go.Proofs.YtbcdlkapapajoaaDoor.AM

/- Layer 12: what the small functions come to (turn, mix, mixLow, word, lay). -/
namespace Go.Proofs
open Go.RowKit Go.Shelf Go.Lib
set_option linter.unusedVariables false
set_option linter.unusedSimpArgs false
namespace YtbcdlkapapajoaaDoor.AM
theorem some_getD {α : Type} {x : Option α} {d : α} (h : x.isSome = true) : x = some (x.getD d) := by cases x with | none => cases h | some v => rfl
theorem wrap_u64 (x : Int) : IntKind.wrap .u64 x = x % (2 ^ 64) := rfl
theorem wrap_u32 (x : Int) : IntKind.wrap .u32 x = x % (2 ^ 32) := rfl
theorem u64_nonneg (x : Int) : 0 ≤ IntKind.wrap .u64 x := by
  rw [wrap_u64]
  exact Int.emod_nonneg _ (by decide)
theorem shl_some {k : IntKind} {x y : Int} (h : 0 ≤ y) : (shlO k x y).isSome = true := by unfold shlO; rw [if_pos h]; rfl
theorem shr_some {k : IntKind} {x y : Int} (h : 0 ≤ y) : (shrO k x y).isSome = true := by unfold shrO; rw [if_pos h]; rfl
theorem letO_some {α β : Type} (x : α) (f : α → Option β) : letO x f = f x := rfl
theorem isSome_bind {α β : Type} {x : Option α} {f : α → Option β} (h : x.isSome = true) (h2 : ∀ v, x = some v → (f v).isSome = true) : (x.bind f).isSome = true := by
  cases x with | none => cases h | some v => exact h2 v rfl
def turnV (x k : Int) : Int := (fTurn_t 0 x k).getD 0
theorem fTurn_any (n : Nat) (x k : Int) : fTurn_t n x k = some (turnV x k) := by
  have e : fTurn_t n x k = fTurn_t 0 x k := rfl
  rw [e]
  refine some_getD ?_
  refine isSome_bind ?_ fun _ _ => rfl
  unfold fRotl_t
  simp only [letO_some]
  exact isSome_bind (shl_some (u64_nonneg _)) fun _ _ => isSome_bind (shr_some (u64_nonneg _)) fun _ _ => rfl
def mixV (x i j k : Int) : Int := xorI .u32 (xorI .u32 (turnV x i) (turnV x j)) (turnV x k)
theorem fMix_any (n : Nat) (x i j k : Int) : fMix_t n x i j k = some (mixV x i j k) := by
  unfold fMix_t letO
  rw [fTurn_any, fTurn_any, fTurn_any]
  rfl
def mixL (x i j k : Int) : Int := xorI .u32 (xorI .u32 (turnV x i) (turnV x j)) (x.fdiv (2 ^ (min k.toNat 32)))
theorem fMixLow_any (n : Nat) (x i j k : Int) (hk : 0 ≤ k) : fMixLow_t n x i j k = some (mixL x i j k) := by
  unfold fMixLow_t letO shrO
  rw [fTurn_any, fTurn_any, if_pos hk]
  rfl
/-- the word that four bytes are -/
def wordN (a b c d : UInt8) : Nat := ((a.toNat * 256 + b.toNat) * 256 + c.toNat) * 256 + d.toNat
def wordV (s : List UInt8) (i : Nat) : Int := (wordN (s.getD (4 * i) 0) (s.getD (4 * i + 1) 0) (s.getD (4 * i + 2) 0) (s.getD (4 * i + 3) 0) : Nat)
theorem or_byte (x c : Nat) (hx : x < 16777216) (hc : c < 256) : orI .u32 (IntKind.wrap .u32 ((x : Int) * 2 ^ 8)) (IntKind.wrap .u32 (c : Int)) = ((x * 256 + c : Nat) : Int) := by
  have e1 : IntKind.wrap .u32 ((x : Int) * 2 ^ 8) = ((x * 256 : Nat) : Int) := by
    have : ((x : Int) * 2 ^ 8) = ((x * 256 : Nat) : Int) := by rw [Int.natCast_mul, show ((2 : Int) ^ 8) = ((256 : Nat) : Int) from by decide]
    rw [this, wrap_u32]
    omega
  have e2 : IntKind.wrap .u32 (c : Int) = (c : Int) := by
    rw [wrap_u32]
    omega
  rw [e1, e2]
  unfold orI
  have e3 : (BitVec.ofInt 32 ((x * 256 : Nat) : Int) ||| BitVec.ofInt 32 (c : Int)).toNat = x * 256 + c := by
    rw [BitVec.toNat_or, BitVec.ofInt_natCast, BitVec.ofInt_natCast, BitVec.toNat_ofNat, BitVec.toNat_ofNat, Nat.mod_eq_of_lt (by omega), Nat.mod_eq_of_lt (by omega)]
    have h := Nat.shiftLeft_add_eq_or_of_lt (a := x) (b := c) (i := 8) (by omega)
    rw [Nat.shiftLeft_eq] at h
    exact h.symm
  have e4 : (BitVec.ofInt (IntKind.bits .u32) ((x * 256 : Nat) : Int) ||| BitVec.ofInt (IntKind.bits .u32) (c : Int)).toNat = x * 256 + c := e3
  rw [e4, wrap_u32]
  omega
theorem word_round (n m : Nat) (s : List UInt8) (i k : Nat) (x : Nat) (hk : k < 4) (hi : 4 * i + 3 < s.length) (hs : s.length ≤ 1000000) (hx : x < 16777216) :
    fWord_loop0 n (m + 1) s (i : Int) (x : Int) (k : Int) = fWord_loop0 n m s (i : Int) ((x * 256 + (s.getD (4 * i + k) 0).toNat : Nat) : Int) ((k + 1 : Nat) : Int) := by
  rw [fWord_loop0_succ]
  unfold fWord_l0
  have h1 : decide ((k : Int) < 4) = true := decide_eq_true (by omega)
  have h2 : IntKind.wrap .i64 ((i : Int) * 4) = ((4 * i : Nat) : Int) := by rw [wrap64 (by omega) (by omega)]; omega
  have h3 : IntKind.wrap .i64 (((4 * i : Nat) : Int) + (k : Int)) = ((4 * i + k : Nat) : Int) := by rw [wrap64 (by omega) (by omega)]; omega
  have h4 : s.getD (4 * i + k) 0 = s[4 * i + k]'(by omega) := by rw [List.getD_eq_getElem?_getD, List.getElem?_eq_getElem (by omega)]; rfl
  have h5 : IntKind.wrap .i64 ((k : Int) + 1) = ((k + 1 : Nat) : Int) := wrap_succ (by omega)
  have h6 : shlO .u32 (x : Int) 8 = some (IntKind.wrap .u32 ((x : Int) * 2 ^ 8)) := rfl
  simp only [h1, cond_true, letO_some, h6, Option.bind_some, h2, h3, sAt_lt (show 4 * i + k < s.length by omega), h5]
  rw [or_byte x _ hx (UInt8.toNat_lt _), h4]
theorem word_end (n m : Nat) (s : List UInt8) (i : Int) (x : Int) : fWord_loop0 n (m + 1) s i x ((4 : Nat) : Int) = some ((x, ()), ((), ())) := rfl
theorem fWord_spec (n : Nat) (s : List UInt8) (i : Nat) (hi : 4 * i + 3 < s.length) (hs : s.length ≤ 1000000) : fWord_t (n + 5) s (i : Int) = some (wordV s i) := by
  unfold fWord_t wordV wordN
  have b0 := UInt8.toNat_lt (s.getD (4 * i) 0)
  have b1 := UInt8.toNat_lt (s.getD (4 * i + 1) 0)
  have b2 := UInt8.toNat_lt (s.getD (4 * i + 2) 0)
  have r0 := word_round (n + 5) (n + 4) s i 0 0 (by omega) hi hs (by omega)
  rw [Nat.zero_mul, Nat.zero_add, Nat.add_zero] at r0
  generalize (s.getD (4 * i) 0).toNat = c0 at *
  have r1 := word_round (n + 5) (n + 3) s i 1 c0 (by omega) hi hs (by omega)
  generalize (s.getD (4 * i + 1) 0).toNat = c1 at *
  have r2 := word_round (n + 5) (n + 2) s i 2 (c0 * 256 + c1) (by omega) hi hs (by omega)
  generalize (s.getD (4 * i + 2) 0).toNat = c2 at *
  have r3 := word_round (n + 5) (n + 1) s i 3 ((c0 * 256 + c1) * 256 + c2) (by omega) hi hs (by omega)
  generalize (s.getD (4 * i + 3) 0).toNat = c3 at *
  have e : fWord_loop0 (n + 5) (n + 5) s (i : Int) 0 0 = some (((((((c0 * 256 + c1) * 256 + c2) * 256 + c3 : Nat) : Int)), ()), ((), ())) := by
    refine r0.trans (r1.trans (r2.trans (r3.trans ?_)))
    exact word_end _ _ _ _ _
  rw [e]
  rfl
def layV (x : Int) : List UInt8 := (fLay12_t 0 x).getD []
theorem fLay12_any (n : Nat) (x : Int) : fLay12_t n x = some (layV x) := rfl
theorem layV_length (x : Int) : (layV x).length = 4 := rfl
end YtbcdlkapapajoaaDoor.AM
end Go.Proofs

/- Layer 12: turn, mix, mixLow are quiet: they only read. -/
namespace Go.Proofs
open Go.RowKit Go.Shelf Go.Lib
set_option linter.unusedVariables false
set_option linter.unusedSimpArgs false
namespace YtbcdlkapapajoaaDoor.AM
def U (x : Int) : Value := .int .u32 x
def I (x : Int) : Value := .int .i64 x
/-- a call that only reads and draws -/
def QuietE (f : Nat) (args : Array Value) (w : World) : Prop := Calls Tryd.prog f args w fun e w' => ∃ v, e = .returned v ∧ ∃ m, w' = w.drewN m
theorem and31 (x : Int) : ∃ m : Int, bits .and .u64 (IntKind.u64.wrap x) 31 = m ∧ 0 ≤ m ∧ m < 32 := by
  refine ⟨_, rfl, ?_, ?_⟩
  · unfold bits; exact u64_nonneg _
  · have h : (BitVec.ofInt 64 (IntKind.u64.wrap x) &&& BitVec.ofInt 64 31).toNat < 32 := by
      rw [BitVec.toNat_and]
      exact Nat.lt_of_le_of_lt (Nat.and_le_right) (by decide)
    show IntKind.wrap .u64 (((BitVec.ofInt 64 (IntKind.u64.wrap x) &&& BitVec.ofInt 64 31).toNat : Nat) : Int) < 32
    rw [wrap_u64]
    generalize (BitVec.ofInt 64 (IntKind.u64.wrap x) &&& BitVec.ofInt 64 31).toNat = y at *
    omega
theorem rotl_q (x k : Int) : ∃ z, ∀ w, Calls Tryd.prog 58 #[.int .u32 x, .int .i64 k] w fun e w' => e = .returned (.int .u32 z) ∧ w' = w := by
  obtain ⟨m, e, h0, h1⟩ := and31 k
  have h2 : 0 ≤ 32 - m := by omega
  have h3 : IntKind.u64.wrap (32 - m) = 32 - m := by rw [wrap_u64]; omega
  refine ⟨bits BinOp.or IntKind.u32 (x * 2 ^ m.toNat % 4294967296) (x / 2 ^ (32 - m).toNat), fun w => ?_⟩
  · go_enter Tryd.func58, Tryd.ntmps58
    go_wp2_with fail
    go_ret
    exact ⟨rfl, rfl⟩
theorem turn_q (x k : Int) : ∃ z, ∀ w, Calls Tryd.prog 57 #[.int .u32 x, .int .i64 k] w fun e w' => e = .returned (.int .u32 z) ∧ w' = w := by
  obtain ⟨z, hz⟩ := rotl_q x (RowKit.wrap64 (-k))
  refine ⟨z, fun w => ?_⟩
  go_enter Tryd.func57, Tryd.ntmps57
  go_wp2_with fail
  refine (hz w).mono ?_
  rintro e w' ⟨rfl, rfl⟩
  go_wp2
  go_ret
  exact ⟨rfl, rfl⟩
theorem turn_v (x k : Int) (w : World) (hI : Inv w) : Calls Tryd.prog 57 #[.int .u32 x, .int .i64 k] w fun e w' => e = .returned (.int .u32 (turnV x k)) ∧ Below w.heap.size w w' := by
  have hh := (fTurn_ok 0 Inv know_inv).1.2 (x, k) _ (fTurn_any 0 x k)
  refine (hh (fun _ _ => False) w #[.int .u32 x, .int .i64 k] hI (fun b o h => h.elim) ⟨drep_val (σ := noSt) (.int .u32 x), drep_val (σ := noSt) (.int .i64 k), trivial⟩).mono ?_
  rintro e w' ⟨u, Pc', rfl, hb, _, _, hv⟩
  have hv' : u = .int .u32 (turnV x k) := of_val (σ := noSt) hv
  rw [hv']
  exact ⟨rfl, hb⟩
theorem turn_c (x k : Int) (w0 : World) (hI : Inv w0) (w : World) : Calls Tryd.prog 57 #[.int .u32 x, .int .i64 k] w fun e w' => e = .returned (.int .u32 (turnV x k)) ∧ w' = w := by
  obtain ⟨z, hz⟩ := turn_q x k
  have := Lib.agree (by kernel_rfl) (hz w0) (turn_v x k w0 hI)
  rw [← this]
  exact hz w
theorem xor_eq (a b : Int) : bits BinOp.xor IntKind.u32 a b = xorI .u32 a b := rfl
theorem mix_c (x i j k : Int) (w0 : World) (hI : Inv w0) (w : World) : Calls Tryd.prog 47 #[.int .u32 x, .int .i64 i, .int .i64 j, .int .i64 k] w fun e w' => e = .returned (.int .u32 (mixV x i j k)) ∧ w' = w := by
  go_enter Tryd.func47, Tryd.ntmps47
  go_wp2_with fail
  refine (turn_c _ _ w0 hI w).mono ?_
  rintro e w' ⟨rfl, rfl⟩
  go_wp2_with fail
  refine (turn_c _ _ w0 hI _).mono ?_
  rintro e w'' ⟨rfl, rfl⟩
  go_wp2_with fail
  refine (turn_c _ _ w0 hI _).mono ?_
  rintro e w'' ⟨rfl, rfl⟩
  go_wp2
  go_ret
  exact ⟨rfl, rfl⟩
set_option maxHeartbeats 1000000 in
set_option maxRecDepth 100000 in
theorem mixLow_c (x i j : Int) (k : Nat) (hk : k < 32) (w0 : World) (hI : Inv w0) (w : World) : Calls Tryd.prog 48 #[.int .u32 x, .int .i64 i, .int .i64 j, .int .i64 k] w fun e w' => e = .returned (.int .u32 (mixL x i j k)) ∧ ∃ m, w' = w.drewN m := by
  have hT := turn_c x
  have h0 : (0 : Int) ≤ (k : Int) := by omega
  have e : mixL x i j k = bits BinOp.xor IntKind.u32 (bits BinOp.xor IntKind.u32 (turnV x i) (turnV x j)) (x / 2 ^ k) := by
    unfold mixL
    rw [Int.toNat_natCast, Nat.min_eq_left (by omega), Int.fdiv_eq_ediv_of_nonneg _ (Int.le_of_lt (Int.pow_pos (by decide)))]
    rfl
  rw [e]
  clear e
  go_enter Tryd.func48, Tryd.ntmps48
  go_wp2_with fail
  go_quiet ((go_at_call 57; exact Calls.quiet_of_same (hT _ w0 hI _)))
  go_wp2
  go_ret
  exact ⟨rfl, _, rfl⟩
theorem mixLow_i (x i j k : Int) (h0 : 0 ≤ k) (h1 : k < 32) (w0 : World) (hI : Inv w0) (w : World) : Calls Tryd.prog 48 #[.int .u32 x, .int .i64 i, .int .i64 j, .int .i64 k] w fun e w' => e = .returned (.int .u32 (mixL x i j k)) ∧ ∃ m, w' = w.drewN m := by
  obtain ⟨n, rfl⟩ := Int.eq_ofNat_of_zero_le h0
  exact mixLow_c x i j n (by omega) w0 hI w
end YtbcdlkapapajoaaDoor.AM
end Go.Proofs

/- Layer 12: arrays of words in memory; stretch. -/
namespace Go.Proofs
open Go.RowKit Go.Shelf Go.Lib
attribute [local go_sem] Oper.semAt_some
set_option linter.unusedVariables false
set_option linter.unusedSimpArgs false
namespace YtbcdlkapapajoaaDoor.AM
/-- an array of words lies in a block of its own -/
def HasArr (w : World) (b T : Nat) (l : List Int) : Prop := w.heap[b]? = some (.cells (wV l).toArray T (0, 0))
theorem HasArr.cell {w : World} {b T : Nat} {l : List Int} (h : HasArr w b T l) {j : Nat} (hj : j < l.length) : w.cell? ⟨b, j, none⟩ = some (.int .u32 (l.getD j 0)) := by
  rw [cell_of_row w b j _ T (0, 0) h]
  rw [List.getElem?_toArray, wV_get hj, List.getD_eq_getElem?_getD, List.getElem?_eq_getElem hj]
  rfl
theorem HasArr.frozen {w : World} {b T : Nat} {l : List Int} (h : HasArr w b T l) (j : Nat) : w.frozen? ⟨b, j, none⟩ = false := by
  unfold HasArr at h
  simp [World.frozen?, h]
theorem HasArr.set {w : World} {b T : Nat} {l : List Int} (h : HasArr w b T l) (j : Nat) (x : Int) : HasArr (w.setCell ⟨b, j, none⟩ (.int .u32 x)) b T (l.set j x) := by
  have := heap_setCell_same w b j _ T (.int .u32 x) h
  unfold HasArr
  rw [this]
  simp [wV, List.map_set]
theorem HasArr.lt {w : World} {b T : Nat} {l : List Int} (h : HasArr w b T l) : b < w.heap.size := heapLt h
theorem HasArr.below {w w' : World} {b T B : Nat} {l : List Int} (h : HasArr w b T l) (hb : Below B w w') (hB : b < B) : HasArr w' b T l := (hb.block b hB).trans h
theorem HasArr.range {w : World} {b T : Nat} {l : List Int} (h : HasArr w b T l) : w.rangeAt b 0 (wV l) := fun j v hv => by
  rw [Nat.zero_add, cell_of_row w b j _ T (0, 0) h, List.getElem?_toArray, hv]
theorem HasArr.there {w : World} {b T : Nat} {l : List Int} (h : HasArr w b T l) : w.there b 0 l.length := fun j hj => by
  rw [Nat.zero_add]
  exact ⟨by rw [h.cell hj]; rfl, h.frozen j⟩
theorem HasArr.other {w : World} {b T : Nat} {l : List Int} (h : HasArr w b T l) {p : Addr} (hp : b ≠ p.block) (v : Value) : HasArr (w.setCell p v) b T l := (heap_setCell_other w p b v hp).trans h
theorem HasArr.new (w : World) (T : Nat) (l : List Int) : HasArr (w.alloc (.cells (wV l).toArray T)) w.heap.size T l := heap_alloc_new w _
theorem HasArr.alloc {w : World} {b T : Nat} {l : List Int} (h : HasArr w b T l) (o : Obj) : HasArr (w.alloc o) b T l := (Below.heap_alloc w o b h.lt).trans h
theorem word_c (s : List UInt8) (i : Nat) (hi : 4 * i + 3 < s.length) (hs : s.length ≤ 1000000) (w : World) (hI : Inv w) : Calls Tryd.prog 21 #[.string (ba s), .int .i64 i] w fun e w' => e = .returned (.int .u32 (wordV s i)) ∧ Below w.heap.size w w' := by
  have hh := (fWord_ok 5 Inv know_inv).1.2 (s, (i : Int)) _ (fWord_spec 0 s i hi hs)
  refine (hh (fun _ _ => False) w #[.string (ba s), .int .i64 i] hI (fun b o h => h.elim) ⟨drep_val (σ := noSt) (.string (ba s)), drep_val (σ := noSt) (.int .i64 i), trivial⟩).mono ?_
  rintro e w' ⟨u, Pc', rfl, hb, _, _, hv⟩
  have hv' : u = .int .u32 (wordV s i) := of_val (σ := noSt) hv
  rw [hv']
  exact ⟨rfl, hb⟩
theorem below_drewN {B : Nat} {w w' : World} (h : Below B w w') (n : Nat) : Below B w (w'.drewN n) := ⟨h.os, h.tape, h.output, h.size, h.block⟩
theorem results_arr {fn : Func} {p : Tmp} {T : TypeId} {tmps : Array Value} {w : World} {v : Value} {a : Addr} (h : fn.results = #[.cell p T]) (hp : tmps.getD p undef = .pointer (some a))
    (hv : (loadVar T a).run Tryd.prog w = .ok v w) : (results fn tmps).run Tryd.prog w = .ok v w := by
  unfold results
  rw [h]
  simp at hp
  simp [hp, asAddr, Result.andThen, hv]
/-! ### stretch -/
def add32 (a b : Int) : Int := IntKind.u32.wrap (a + b)
def wordsS (s : List UInt8) (k : Nat) : List Int := (List.range k).map (wordV s)
def nextW (l : List Int) : Int := add32 (add32 (add32 (mixL (l.getD (l.length - 2) 0) 17 19 10) (l.getD (l.length - 7) 0)) (mixL (l.getD (l.length - 15) 0) 7 18 3)) (l.getD (l.length - 16) 0)
def extS : Nat → List Int → List Int
  | 0, l => l
  | n + 1, l => extS n (l ++ [nextW l])
def stretchS (s : List UInt8) : List Int := extS 48 (wordsS s 16)
def padTo (n : Nat) (l : List Int) : List Int := l ++ List.replicate (n - l.length) 0
theorem padTo_length {n : Nat} {l : List Int} (h : l.length ≤ n) : (padTo n l).length = n := by simp [padTo]; omega
theorem padTo_getD {n : Nat} {l : List Int} {j : Nat} (h : j < l.length) : (padTo n l).getD j 0 = l.getD j 0 := by
  simp only [padTo, List.getD_eq_getElem?_getD, List.getElem?_append_left h]
theorem padTo_set {n : Nat} {l : List Int} (h : l.length < n) (x : Int) : (padTo n l).set l.length x = padTo n (l ++ [x]) := by
  unfold padTo
  obtain ⟨k, hk⟩ : ∃ k, n - l.length = k + 1 := ⟨n - l.length - 1, by omega⟩
  rw [hk, List.replicate_succ, List.length_append, List.length_singleton, show n - (l.length + 1) = k from by omega, List.set_append_right _ _ (Nat.le_refl _), Nat.sub_self, List.append_assoc]
  rfl
theorem padTo_full {n : Nat} {l : List Int} (h : l.length = n) : padTo n l = l := by simp [padTo, h]
theorem wordsS_length (s : List UInt8) (k : Nat) : (wordsS s k).length = k := by simp [wordsS]
theorem wordsS_succ (s : List UInt8) (k : Nat) : wordsS s (k + 1) = wordsS s k ++ [wordV s k] := by simp [wordsS, List.range_succ]
theorem extS_length : ∀ (n : Nat) (l : List Int), (extS n l).length = l.length + n
  | 0, l => rfl
  | n + 1, l => by rw [extS, extS_length n]; simp; omega
theorem stretchS_length (s : List UInt8) : (stretchS s).length = 64 := by unfold stretchS; rw [extS_length, wordsS_length]
set_option maxHeartbeats 4000000 in
set_option maxRecDepth 1000000 in
theorem stretch_c (s : List UInt8) (h0 : 64 ≤ s.length) (hs : s.length ≤ 1000000) (w : World) (hI : Inv w) : Calls Tryd.prog 35 #[.string (ba s)] w fun e w' => e = .returned (.agg (wV (stretchS s)).toArray) ∧ Below w.heap.size w w' := by
  have HS := hid h0
  obtain ⟨A, hA⟩ : ∃ A, A = stretchS s := ⟨_, rfl⟩
  rw [← hA]
  have HA := hid hA
  clear hA
  go_enter Tryd.func35, Tryd.ntmps35
  go_wp2_with fail
  have hz : (wV (List.replicate 64 0)).toArray = #[Value.int IntKind.u32 0, Value.int IntKind.u32 0, Value.int IntKind.u32 0, Value.int IntKind.u32 0, Value.int IntKind.u32 0, Value.int IntKind.u32 0, Value.int IntKind.u32 0, Value.int IntKind.u32 0, Value.int IntKind.u32 0, Value.int IntKind.u32 0, Value.int IntKind.u32 0, Value.int IntKind.u32 0, Value.int IntKind.u32 0, Value.int IntKind.u32 0, Value.int IntKind.u32 0, Value.int IntKind.u32 0, Value.int IntKind.u32 0, Value.int IntKind.u32 0, Value.int IntKind.u32 0, Value.int IntKind.u32 0, Value.int IntKind.u32 0, Value.int IntKind.u32 0, Value.int IntKind.u32 0, Value.int IntKind.u32 0, Value.int IntKind.u32 0, Value.int IntKind.u32 0, Value.int IntKind.u32 0, Value.int IntKind.u32 0, Value.int IntKind.u32 0, Value.int IntKind.u32 0, Value.int IntKind.u32 0, Value.int IntKind.u32 0, Value.int IntKind.u32 0, Value.int IntKind.u32 0, Value.int IntKind.u32 0, Value.int IntKind.u32 0, Value.int IntKind.u32 0, Value.int IntKind.u32 0, Value.int IntKind.u32 0, Value.int IntKind.u32 0, Value.int IntKind.u32 0, Value.int IntKind.u32 0, Value.int IntKind.u32 0, Value.int IntKind.u32 0, Value.int IntKind.u32 0, Value.int IntKind.u32 0, Value.int IntKind.u32 0, Value.int IntKind.u32 0, Value.int IntKind.u32 0, Value.int IntKind.u32 0, Value.int IntKind.u32 0, Value.int IntKind.u32 0, Value.int IntKind.u32 0, Value.int IntKind.u32 0, Value.int IntKind.u32 0, Value.int IntKind.u32 0, Value.int IntKind.u32 0, Value.int IntKind.u32 0, Value.int IntKind.u32 0, Value.int IntKind.u32 0, Value.int IntKind.u32 0, Value.int IntKind.u32 0, Value.int IntKind.u32 0, Value.int IntKind.u32 0] := rfl
  rw [← hz]
  clear hz
  obtain ⟨W, hW⟩ : ∃ W, (w.alloc (Obj.cells (wV (List.replicate 64 0)).toArray 58)).alloc (Obj.cells (wV (List.replicate 64 0)).toArray 58) = W := ⟨_, rfl⟩
  have hA0 : HasArr W w.heap.size 58 (List.replicate 64 0) := hW ▸ (HasArr.new w _ _).alloc _
  have hA1 : HasArr W (w.heap.size + 1) 58 (List.replicate 64 0) := by
    have := HasArr.new (w.alloc (Obj.cells (wV (List.replicate 64 0)).toArray 58)) 58 (List.replicate 64 0)
    rw [World.size_alloc, hW] at this
    exact this
  have hB0 : Below w.heap.size w W := hW ▸ ((Below.refl _ _).alloc (Nat.le_refl _) _).alloc (by simp) _
  rw [hW]
  clear hW
  go_loopw [6] (fun i wr => ∃ k : Nat, k ≤ 16 ∧ i = .int .i64 k ∧ HasArr wr w.heap.size 58 (List.replicate 64 0) ∧ HasArr wr (w.heap.size + 1) 58 (padTo 64 (wordsS s k)) ∧ Below w.heap.size w wr) (fun i _ => 16 - (RowKit.intOf i).toNat)
  case atStart => exact ⟨0, by omega, rfl, hA0, hA1, hB0⟩
  case round =>
    obtain ⟨k, hk, rfl, hr0, hr1, hbel⟩ := hrel
    clear hA0 hA1 hB0
    have hIr := hI.below hbel
    have hc := word_c s k
    by_cases hkl : k < 16
    · have hc' := hc (by omega) hs _ hIr
      clear hc
      have H1 := hid hr1; have H0 := hid hr0
      clear hr1 hr0
      go_wp2_with fail
      refine hc'.mono ?_
      rintro e W1 ⟨rfl, hb1⟩
      have hr1 := H1.out.below hb1 H1.out.lt
      have hr0 := H0.out.below hb1 H0.out.lt
      have hpl : (padTo 64 (wordsS s k)).length = 64 := padTo_length (by rw [wordsS_length]; omega)
      have c1 := hr1.cell (j := k) (by omega)
      have f1 := hr1.frozen k
      have H1' := hid hr1; have H0' := hid hr0
      clear hr1 hr0
      have hk64 : (k : Int) < 64 := by omega
      go_wp2_with fail
      have hst := H1'.out.set k (wordV s k)
      have hps := padTo_set (n := 64) (l := wordsS s k) (by rw [wordsS_length]; omega) (wordV s k)
      rw [wordsS_length] at hps
      rw [hps, ← wordsS_succ] at hst
      refine ⟨⟨k + 1, by omega, rfl, H0'.out.other (by show w.heap.size ≠ w.heap.size + 1; omega) _, hst, (hbel.trans (hb1.mono hbel.size)).setCell (by show w.heap.size ≤ w.heap.size + 1; omega) _⟩, ?_⟩
      show 16 - ((k : Int) + 1).toNat < 16 - (k : Int).toNat
      omega
    · obtain rfl : k = 16 := by omega
      have H1 := hid hr1; have H0 := hid hr0
      clear hr1 hr0 hc hk
      go_wp2_with fail
      go_loopw [5] (fun i wr => ∃ (l : List Int), 16 ≤ l.length ∧ l.length ≤ 64 ∧ i = .int .i64 l.length ∧ extS (64 - l.length) l = A ∧ HasArr wr w.heap.size 58 (List.replicate 64 0) ∧ HasArr wr (w.heap.size + 1) 58 (padTo 64 l) ∧ Below w.heap.size w wr) (fun i _ => 64 - (RowKit.intOf i).toNat)
      case atStart => exact ⟨wordsS s 16, by rw [wordsS_length]; omega, by rw [wordsS_length]; omega, by rw [wordsS_length]; rfl, by rw [HA.out, wordsS_length]; rfl, H0.out, H1.out, hbel⟩
      case round =>
        clear H0 H1 hbel hIr
        obtain ⟨l, hl1, hl2, rfl, hex, hr0, hr1, hbel⟩ := hrel
        have hIr := hI.below hbel
        have H1 := hid hr1; have H0 := hid hr0; have HE := hid hex
        clear hr1 hr0 hex
        by_cases hkl : l.length < 64
        · have hpl : (padTo 64 l).length = 64 := padTo_length (by omega)
          obtain ⟨k, hk⟩ : ∃ k, l.length = k := ⟨_, rfl⟩
          have hm : ∀ (x i j k : Int) (h0 : 0 ≤ k) (h1 : k < 32) (W : World), Calls Tryd.prog 48 #[.int .u32 x, .int .i64 i, .int .i64 j, .int .i64 k] W fun e w' => e = .returned (.int .u32 (mixL x i j k)) ∧ ∃ m, w' = W.drewN m := fun x i j k h0 h1 W => mixLow_i x i j k h0 h1 _ hIr W
          have c0 := H1.out.cell (j := k) (by omega)
          have c2 := H1.out.cell (j := k - 2) (by omega)
          have c7 := H1.out.cell (j := k - 7) (by omega)
          have c15 := H1.out.cell (j := k - 15) (by omega)
          have c16 := H1.out.cell (j := k - 16) (by omega)
          have f1 := H1.out.frozen k
          have HK := hid hk
          simp only [hk] at hkl hl1 hl2 HE ⊢
          clear hk
          have e2 : IntKind.i64.wrap ((k : Int) - 2) = ((k - 2 : Nat) : Int) := by rw [wrap64 (by omega) (by omega)]; omega
          have e7 : IntKind.i64.wrap ((k : Int) - 7) = ((k - 7 : Nat) : Int) := by rw [wrap64 (by omega) (by omega)]; omega
          have e15 : IntKind.i64.wrap ((k : Int) - 15) = ((k - 15 : Nat) : Int) := by rw [wrap64 (by omega) (by omega)]; omega
          have e16 : IntKind.i64.wrap ((k : Int) - 16) = ((k - 16 : Nat) : Int) := by rw [wrap64 (by omega) (by omega)]; omega
          have g0 : (k : Int) < 64 := by omega
          have g2 : ((k - 2 : Nat) : Int) < 64 := by omega
          have g7 : ((k - 7 : Nat) : Int) < 64 := by omega
          have g15 : ((k - 15 : Nat) : Int) < 64 := by omega
          have g16 : ((k - 16 : Nat) : Int) < 64 := by omega
          generalize hx2 : (padTo 64 l).getD (k - 2) 0 = x2 at c2
          generalize hx7 : (padTo 64 l).getD (k - 7) 0 = x7 at c7
          generalize hx15 : (padTo 64 l).getD (k - 15) 0 = x15 at c15
          generalize hx16 : (padTo 64 l).getD (k - 16) 0 = x16 at c16
          have HX := hid (And.intro hx2 (And.intro hx7 (And.intro hx15 hx16)))
          clear hx2 hx7 hx15 hx16
          have nn : ∀ d, 0 < d → d ≤ k → (⟨w.heap.size + 1, k, none⟩ : Addr) ≠ ⟨w.heap.size + 1, k - d, none⟩ := fun d h0 h1 h => by
            have := congrArg Addr.off h
            simp only at this
            omega
          have n2 := nn 2 (by omega) (by omega)
          have n7 := nn 7 (by omega) (by omega)
          have n15 := nn 15 (by omega) (by omega)
          have n16 := nn 16 (by omega) (by omega)
          clear nn
          go_wp2_with fail
          go_region_held3 (fun w' => w'.cell? ⟨w.heap.size + 1, k - 2, none⟩ = some (.int .u32 x2) ∧ w'.cell? ⟨w.heap.size + 1, k - 7, none⟩ = some (.int .u32 x7) ∧ w'.cell? ⟨w.heap.size + 1, k - 15, none⟩ = some (.int .u32 x15) ∧ w'.cell? ⟨w.heap.size + 1, k - 16, none⟩ = some (.int .u32 x16))
            (first
              | exact ⟨c2, c7, c15, c16⟩
              | exact ⟨(World.cell?_setCell_other (h := n2) ..).trans c2, (World.cell?_setCell_other (h := n7) ..).trans c7, (World.cell?_setCell_other (h := n15) ..).trans c15, (World.cell?_setCell_other (h := n16) ..).trans c16⟩)
            (first
              | (go_at_call 48; refine (hm _ _ _ _ (by decide) (by decide) _).mono ?_; rintro e wa ⟨rfl, m1, rfl⟩))
          go_wp2_with fail
          have hst := fun (x : Int) (m : Nat) => HasArr.set (w := wr.drewN m) H1.out k x
          have hps := fun x => padTo_set (n := 64) (l := l) (by rw [HK.out]; omega) x
          rw [HK.out] at hps
          simp only [hps] at hst
          obtain ⟨hx2, hx7, hx15, hx16⟩ := HX.out
          rw [padTo_getD (by rw [HK.out]; omega)] at hx2 hx7 hx15 hx16
          have hnx : add32 (add32 (add32 (mixL x2 17 19 10) x7) (mixL x15 7 18 3)) x16 = nextW l := by
            unfold nextW
            rw [HK.out, hx2, hx7, hx15, hx16]
          unfold add32 at hnx
          have hnx2 : ((((mixL x2 17 19 10 + x7) % 4294967296 + mixL x15 7 18 3) % 4294967296 + x16) % 4294967296) = nextW l := hnx
          simp only [hnx2]
          clear hnx2 hps hnx hx2 hx7 hx15 hx16
          refine ⟨⟨_, _, _, _, _, _, _, _, _, _, _, _, _, _, _, _, _, _, _, _, _, _, _, _, _, _, _, _, ⟨l ++ [nextW l], ?_, ?_, ?_, ?_, H0.out.other (by show w.heap.size ≠ w.heap.size + 1; omega) _, hst _ _, Below.setCell (p := ⟨w.heap.size + 1, k, none⟩) (below_drewN hbel _) (by show w.heap.size ≤ w.heap.size + 1; omega) _⟩, rfl⟩, ?_⟩
          · rw [List.length_append, HK.out]; simp; omega
          · rw [List.length_append, HK.out]; simp; omega
          · rw [List.length_append, HK.out]; rfl
          · rw [← HE.out, List.length_append, HK.out, show 64 - k = (64 - (k + 1)) + 1 from by omega]; rfl
          · show 64 - ((k : Int) + 1).toNat < 64 - (k : Int).toNat
            omega
        · have hl64 : l.length = 64 := by omega
          have hex := HE.out
          rw [hl64] at hex
          have hex : l = A := hex
          subst hex
          clear HA
          have hr1 := H1.out
          rw [padTo_full hl64] at hr1
          have hlen : (wV l).length = 64 := by rw [wV_length]; exact hl64
          have hld := run_loadAt_mid (P := Tryd.prog) wr (w.heap.size + 1) 0 58 (wV l) _ hr1.range Tryd.underlying58 rfl (by rw [hlen]; kernel_rfl)
          have hlen2 : (wV l).toArray.size = 64 := by rw [List.size_toArray]; exact hlen
          have hth : wr.there w.heap.size 0 (wV l).toArray.size := by
            have := H0.out.there
            rw [List.length_replicate] at this
            rw [hlen2]
            exact this
          have hone : (wV l).toArray.all (·.oneCell') = true := all_oneCell_toArray (by intro v hv; obtain ⟨x, _, rfl⟩ := List.mem_map.1 hv; rfl)
          clear hkl hl1 hl2 HE hld
          simp only [hl64]
          go_upto_region 11 with (fail)
          refine wp_region_lit ?_
          refine wpList_load_mid rfl 58 (.tmp 3) rfl (w.heap.size + 1) 0 rfl (wV l) _ hr1.range Tryd.underlying58 rfl (by rw [hlen]; kernel_rfl) ?_
          refine wpList_store_mid rfl 58 (.tmp 2) (.tmp 42) rfl w.heap.size 0 (wV l).toArray rfl rfl hth (by rw [hlen2]; kernel_rfl) hone ?_
          refine wpList_nil ?_
          go_wp2_with fail
          have hrs := World.rangeAt_setCells_same wr w.heap.size 0 (wV l) (by rw [hlen2, ← hlen] at hth; exact hth)
          refine bodyPost_ret (v := .agg (wV l).toArray) (results_arr rfl (a := ⟨w.heap.size, 0, none⟩) rfl (run_loadVar_mid _ _ _ _ _ _ hrs Tryd.underlying58 rfl (by rw [hlen]; kernel_rfl))) rfl ⟨rfl, ?_⟩
          exact hbel.trans ((below_setCells_w (Nat.le_refl _) _ 0 wr).mono (Nat.le_refl _))
end YtbcdlkapapajoaaDoor.AM
end Go.Proofs

/- Layer 12: plus, rounds. -/
namespace Go.Proofs
open Go.RowKit Go.Shelf Go.Lib
attribute [local go_sem] Oper.semAt_some
set_option linter.unusedVariables false
set_option linter.unusedSimpArgs false
namespace YtbcdlkapapajoaaDoor.AM
def plusS (l m : List Int) : List Int := List.zipWith add32 l m
def plusK (k : Nat) (l m : List Int) : List Int := List.zipWith add32 (l.take k) (m.take k) ++ l.drop k
theorem plusK_length {k : Nat} {l m : List Int} (h : l.length = m.length) (hk : k ≤ l.length) : (plusK k l m).length = l.length := by simp [plusK]; omega
theorem plusK_getD {k : Nat} {l m : List Int} (h : l.length = m.length) (hk : k < l.length) : (plusK k l m).getD k 0 = l.getD k 0 := by
  have e : (List.zipWith add32 (l.take k) (m.take k)).length = k := by simp; omega
  simp only [plusK, List.getD_eq_getElem?_getD]
  rw [List.getElem?_append_right (by omega), e, Nat.sub_self, List.getElem?_drop]
  rfl
theorem plusK_set {k : Nat} {l m : List Int} (h : l.length = m.length) (hk : k < l.length) : (plusK k l m).set k (add32 (l.getD k 0) (m.getD k 0)) = plusK (k + 1) l m := by
  have e : (List.zipWith add32 (l.take k) (m.take k)).length = k := by simp; omega
  unfold plusK
  rw [List.set_append_right _ _ (by omega), e, Nat.sub_self, List.drop_eq_getElem_cons hk, List.set_cons_zero, List.take_succ_eq_append_getElem hk, List.take_succ_eq_append_getElem (show k < m.length by omega), List.zipWith_append (by simp; omega)]
  simp only [List.getD_eq_getElem?_getD, List.getElem?_eq_getElem hk, List.getElem?_eq_getElem (show k < m.length by omega), Option.getD_some, List.zipWith_cons_cons, List.zipWith_nil_left, List.append_assoc, List.singleton_append, List.zipWith_nil_right]
theorem plusK_all {l m : List Int} (h : l.length = m.length) : plusK l.length l m = plusS l m := by
  unfold plusK plusS
  rw [List.take_length, h, List.take_length, ← h, List.drop_length, List.append_nil]
theorem wV_one (l : List Int) : (wV l).toArray.all (·.oneCell') = true := all_oneCell_toArray (by intro v hv; obtain ⟨x, _, rfl⟩ := List.mem_map.1 hv; rfl)
set_option maxHeartbeats 4000000 in
set_option maxRecDepth 1000000 in
theorem plus_c (l m : List Int) (hl : l.length = 8) (hm : m.length = 8) (w : World) : Calls Tryd.prog 33 #[.agg (wV l).toArray, .agg (wV m).toArray] w fun e w' => e = .returned (.agg (wV (plusS l m)).toArray) ∧ Below w.heap.size w w' := by
  obtain ⟨A, hA⟩ : ∃ A, A = plusS l m := ⟨_, rfl⟩
  rw [← hA]
  have HA := hid hA
  clear hA
  obtain ⟨cl, hcl⟩ : ∃ cl, (wV l).toArray = cl := ⟨_, rfl⟩
  obtain ⟨cm, hcm⟩ : ∃ cm, (wV m).toArray = cm := ⟨_, rfl⟩
  rw [hcl, hcm]
  have HL := hid hcl; have HM := hid hcm
  have s1 : cl.size = 8 := by rw [← hcl, List.size_toArray, wV_length, hl]
  have s2 : cm.size = 8 := by rw [← hcm, List.size_toArray, wV_length, hm]
  have o1 : cl.all (·.oneCell') = true := hcl ▸ wV_one l
  have o2 : cm.all (·.oneCell') = true := hcm ▸ wV_one m
  clear hcl hcm
  have HLL := hid hl; have HMM := hid hm
  clear hl hm
  go_enter Tryd.func33, Tryd.ntmps33
  go_wp2_with fail
  have hz : (wV (List.replicate 8 0)).toArray = #[Value.int IntKind.u32 0, Value.int IntKind.u32 0, Value.int IntKind.u32 0, Value.int IntKind.u32 0, Value.int IntKind.u32 0, Value.int IntKind.u32 0, Value.int IntKind.u32 0, Value.int IntKind.u32 0] := rfl
  rw [← hz]
  clear hz
  obtain ⟨W, hW⟩ : ∃ W, ((w.alloc (Obj.cells cl 38)).alloc (Obj.cells cm 38)).alloc (Obj.cells (wV (List.replicate 8 0)).toArray 38) = W := ⟨_, rfl⟩
  have a0 : HasArr W w.heap.size 38 l := hW ▸ ((HL.out ▸ HasArr.new w _ _ : HasArr (w.alloc (Obj.cells cl 38)) w.heap.size 38 l).alloc _).alloc _
  have a1 : HasArr W (w.heap.size + 1) 38 m := by
    have := HasArr.new (w.alloc (Obj.cells cl 38)) 38 m
    rw [World.size_alloc, HM.out] at this
    exact hW ▸ this.alloc _
  have a2 : HasArr W (w.heap.size + 1 + 1) 38 (List.replicate 8 0) := by
    have := HasArr.new ((w.alloc (Obj.cells cl 38)).alloc (Obj.cells cm 38)) 38 (List.replicate 8 0)
    rw [World.size_alloc, World.size_alloc, hW] at this
    exact this
  have hB0 : Below w.heap.size w W := hW ▸ (((Below.refl _ _).alloc (Nat.le_refl _) _).alloc (by simp) _).alloc (by simp; omega) _
  rw [hW]
  clear hW s1 s2 o1 o2 HL HM
  have a0' : HasArr W w.heap.size 38 (plusK 0 l m) := by unfold plusK; simp; exact a0
  clear a0
  go_loopw [6] (fun i wr => ∃ k : Nat, k ≤ 8 ∧ i = .int .i64 k ∧ HasArr wr w.heap.size 38 (plusK k l m) ∧ HasArr wr (w.heap.size + 1) 38 m ∧ HasArr wr (w.heap.size + 1 + 1) 38 (List.replicate 8 0) ∧ Below w.heap.size w wr) (fun i _ => 8 - (RowKit.intOf i).toNat)
  case atStart => exact ⟨0, by omega, rfl, a0', a1, a2, hB0⟩
  case round =>
    clear a0' a1 a2 hB0
    obtain ⟨k, hk, rfl, r0, r1, r2, hbel⟩ := hrel
    have R0 := hid r0; have R1 := hid r1; have R2 := hid r2
    clear r0 r1 r2
    have hlm : l.length = m.length := by rw [HLL.out, HMM.out]
    by_cases hkl : k < 8
    · have hpl : (plusK k l m).length = 8 := by rw [plusK_length hlm (by rw [HLL.out]; omega)]; exact HLL.out
      have c0 := R0.out.cell (j := k) (by omega)
      have c1 := R1.out.cell (j := k) (by rw [HMM.out]; omega)
      have f0 := R0.out.frozen k
      rw [plusK_getD hlm (by rw [HLL.out]; omega)] at c0
      have hst := HasArr.set (w := wr.drew) R0.out k (add32 (l.getD k 0) (m.getD k 0))
      rw [plusK_set hlm (by rw [HLL.out]; omega)] at hst
      have HST := hid hst
      clear hst
      obtain ⟨x, hx⟩ : ∃ x, l.getD k 0 = x := ⟨_, rfl⟩
      obtain ⟨y, hy⟩ : ∃ y, m.getD k 0 = y := ⟨_, rfl⟩
      rw [hx] at c0 HST
      rw [hy] at c1 HST
      clear hx hy
      have g0 : (k : Int) < 8 := by omega
      have n1 : w.heap.size + 1 ≠ w.heap.size := by omega
      have n2 : w.heap.size + 1 + 1 ≠ w.heap.size := by omega
      go_wp2_with fail
      go_still_tail 8, (by kernel_rfl)
      change wpList _ _ _ _ _ wr.drew
      go_wp2_with fail
      have HST2 : HasArr (wr.drew.setCell ⟨w.heap.size, k, none⟩ (.int .u32 ((x + y) % 4294967296))) w.heap.size 38 (plusK (k + 1) l m) := HST.out
      refine ⟨⟨k + 1, by omega, rfl, HST2, HasArr.other (w := wr.drew) R1.out n1 _, HasArr.other (w := wr.drew) R2.out n2 _, hbel.drew.setCell (Nat.le_refl _) _⟩, ?_⟩
      show 8 - ((k : Int) + 1).toNat < 8 - (k : Int).toNat
      omega
    · obtain rfl : k = 8 := by omega
      have hA := HA.out
      have r0 := R0.out
      have e : plusK 8 l m = A := by rw [hA, ← plusK_all hlm, HLL.out]
      rw [e] at r0
      have hlA : A.length = 8 := by rw [← e, plusK_length hlm (by rw [HLL.out]; omega)]; exact HLL.out
      clear hA e HA
      have hlen : (wV A).length = 8 := by rw [wV_length]; exact hlA
      have hlen2 : (wV A).toArray.size = 8 := by rw [List.size_toArray]; exact hlen
      have hth : wr.there (w.heap.size + 1 + 1) 0 (wV A).toArray.size := by
        have := R2.out.there
        rw [List.length_replicate] at this
        rw [hlen2]
        exact this
      clear R0
      go_upto_region 6 with (fail)
      refine wp_region_lit ?_
      refine wpList_load_mid rfl 38 (.tmp 2) rfl w.heap.size 0 rfl (wV A) _ r0.range Tryd.underlying38 rfl (by rw [hlen]; kernel_rfl) ?_
      refine wpList_store_mid rfl 38 (.tmp 4) (.tmp 18) rfl (w.heap.size + 1 + 1) 0 (wV A).toArray rfl rfl hth (by rw [hlen2]; kernel_rfl) (wV_one A) ?_
      refine wpList_nil ?_
      go_wp2_with fail
      have hrs := World.rangeAt_setCells_same wr (w.heap.size + 1 + 1) 0 (wV A) (by rw [hlen2, ← hlen] at hth; exact hth)
      refine bodyPost_ret (v := .agg (wV A).toArray) (results_arr rfl (a := ⟨w.heap.size + 1 + 1, 0, none⟩) rfl (run_loadVar_mid _ _ _ _ _ _ hrs Tryd.underlying38 rfl (by rw [hlen]; kernel_rfl))) rfl ⟨rfl, ?_⟩
      exact hbel.trans ((below_setCells_w (by omega) _ 0 wr).mono (Nat.le_refl _))
end YtbcdlkapapajoaaDoor.AM
end Go.Proofs

/- Layer 12: rounds. -/
namespace Go.Proofs
open Go.RowKit Go.Shelf Go.Lib
attribute [local go_sem] Oper.semAt_some
set_option linter.unusedVariables false
set_option linter.unusedSimpArgs false
namespace YtbcdlkapapajoaaDoor.AM
/-- the eight words of a round -/
structure V8 where
  a : Int
  b : Int
  c : Int
  d : Int
  e : Int
  f : Int
  g : Int
  z : Int
def V8.list (v : V8) : List Int := [v.a, v.b, v.c, v.d, v.e, v.f, v.g, v.z]
def V8.of (l : List Int) : V8 := ⟨l.getD 0 0, l.getD 1 0, l.getD 2 0, l.getD 3 0, l.getD 4 0, l.getD 5 0, l.getD 6 0, l.getD 7 0⟩
def not32 (x : Int) : Int := xorI .u32 IntKind.u32.max x
def tW (v : V8) (k x : Int) : Int := (v.z + mixV v.e 6 11 25 + xorI .u32 (andI .u32 v.e v.f) (andI .u32 (not32 v.e) v.g) + k + x) % 4294967296
def uW (v : V8) : Int := (mixV v.a 2 13 22 + xorI .u32 (xorI .u32 (andI .u32 v.a v.b) (andI .u32 v.a v.c)) (andI .u32 v.b v.c)) % 4294967296
def rnd (v : V8) (k x : Int) : V8 := ⟨add32 (tW v k x) (uW v), v.a, v.b, v.c, add32 v.d (tW v k x), v.e, v.f, v.g⟩
def rnds : Nat → List Int → V8 → V8
  | 0, _, v => v
  | n + 1, m, v => rnd (rnds n m v) (K64.getD n 0) (m.getD n 0)
def roundsS (l m : List Int) : List Int := (rnds 64 m (V8.of l)).list
theorem V8.list_length (v : V8) : v.list.length = 8 := rfl
set_option maxHeartbeats 4000000 in
set_option maxRecDepth 1000000 in
theorem rounds_c (l m : List Int) (hl : l.length = 8) (hm : m.length = 64) (w : World) (hI : Inv w) : Calls Tryd.prog 34 #[.agg (wV l).toArray, .agg (wV m).toArray] w fun e w' => e = .returned (.agg (wV (roundsS l m)).toArray) ∧ Below w.heap.size w w' := by
  obtain ⟨A, hA⟩ : ∃ A, A = roundsS l m := ⟨_, rfl⟩
  rw [← hA]
  have HA := hid hA
  clear hA
  obtain ⟨cl, hcl⟩ : ∃ cl, (wV l).toArray = cl := ⟨_, rfl⟩
  obtain ⟨cm, hcm⟩ : ∃ cm, (wV m).toArray = cm := ⟨_, rfl⟩
  rw [hcl, hcm]
  have HL := hid hcl; have HM := hid hcm
  have s1 : cl.size = 8 := by rw [← hcl, List.size_toArray, wV_length, hl]
  have s2 : cm.size = 64 := by rw [← hcm, List.size_toArray, wV_length, hm]
  have o1 : cl.all (·.oneCell') = true := hcl ▸ wV_one l
  have o2 : cm.all (·.oneCell') = true := hcm ▸ wV_one m
  clear hcl hcm
  have HLL := hid hl; have HMM := hid hm
  clear hl hm
  have hmix := fun x i j k W => mix_c x i j k w hI W
  go_enter Tryd.func34, Tryd.ntmps34
  go_wp2_with fail
  have hz : (wV (List.replicate 8 0)).toArray = #[Value.int IntKind.u32 0, Value.int IntKind.u32 0, Value.int IntKind.u32 0, Value.int IntKind.u32 0, Value.int IntKind.u32 0, Value.int IntKind.u32 0, Value.int IntKind.u32 0, Value.int IntKind.u32 0] := rfl
  rw [← hz]
  clear hz
  obtain ⟨W, hW⟩ : ∃ W, ((w.alloc (Obj.cells cl 38)).alloc (Obj.cells cm 58)).alloc (Obj.cells (wV (List.replicate 8 0)).toArray 38) = W := ⟨_, rfl⟩
  have a0 : HasArr W w.heap.size 38 l := hW ▸ ((HL.out ▸ HasArr.new w _ _ : HasArr (w.alloc (Obj.cells cl 38)) w.heap.size 38 l).alloc _).alloc _
  have a1 : HasArr W (w.heap.size + 1) 58 m := by
    have := HasArr.new (w.alloc (Obj.cells cl 38)) 58 m
    rw [World.size_alloc, HM.out] at this
    exact hW ▸ this.alloc _
  have a2 : HasArr W (w.heap.size + 1 + 1) 38 (List.replicate 8 0) := by
    have := HasArr.new ((w.alloc (Obj.cells cl 38)).alloc (Obj.cells cm 58)) 38 (List.replicate 8 0)
    rw [World.size_alloc, World.size_alloc, hW] at this
    exact this
  have hB0 : Below w.heap.size w W := hW ▸ (((Below.refl _ _).alloc (Nat.le_refl _) _).alloc (by simp) _).alloc (by simp; omega) _
  rw [hW]
  clear hW s1 s2 o1 o2 HL HM
  have c0 := a0.cell (j := 0) (by rw [HLL.out]; omega)
  have c1 := a0.cell (j := 1) (by rw [HLL.out]; omega)
  have c2 := a0.cell (j := 2) (by rw [HLL.out]; omega)
  have c3 := a0.cell (j := 3) (by rw [HLL.out]; omega)
  have c4 := a0.cell (j := 4) (by rw [HLL.out]; omega)
  have c5 := a0.cell (j := 5) (by rw [HLL.out]; omega)
  have c6 := a0.cell (j := 6) (by rw [HLL.out]; omega)
  have c7 := a0.cell (j := 7) (by rw [HLL.out]; omega)
  obtain ⟨v0, hv0⟩ : ∃ v, V8.of l = v := ⟨_, rfl⟩
  have e0 : l.getD 0 0 = v0.a := by rw [← hv0]; rfl
  have e1 : l.getD 1 0 = v0.b := by rw [← hv0]; rfl
  have e2 : l.getD 2 0 = v0.c := by rw [← hv0]; rfl
  have e3 : l.getD 3 0 = v0.d := by rw [← hv0]; rfl
  have e4 : l.getD 4 0 = v0.e := by rw [← hv0]; rfl
  have e5 : l.getD 5 0 = v0.f := by rw [← hv0]; rfl
  have e6 : l.getD 6 0 = v0.g := by rw [← hv0]; rfl
  have e7 : l.getD 7 0 = v0.z := by rw [← hv0]; rfl
  rw [e0] at c0
  rw [e1] at c1
  rw [e2] at c2
  rw [e3] at c3
  rw [e4] at c4
  rw [e5] at c5
  rw [e6] at c6
  rw [e7] at c7
  clear e0 e1 e2 e3 e4 e5 e6 e7
  have HV := hid hv0
  have A1 := hid a1; have A2 := hid a2
  clear hv0 a0 a1 a2
  go_quiet (fail)
  go_wp2_with fail
  go_loopw [5, 6, 7, 8, 9, 10, 11, 12, 32] (fun s5 s6 s7 s8 s9 s10 s11 s12 i wr => ∃ (k : Nat) (v : V8), k ≤ 64 ∧ i = .int .i64 k ∧ v = rnds k m v0 ∧ s5 = .int .u32 v.a ∧ s6 = .int .u32 v.b ∧ s7 = .int .u32 v.c ∧ s8 = .int .u32 v.d ∧ s9 = .int .u32 v.e ∧ s10 = .int .u32 v.f ∧ s11 = .int .u32 v.g ∧ s12 = .int .u32 v.z ∧ HasArr wr (w.heap.size + 1) 58 m ∧ HasArr wr (w.heap.size + 1 + 1) 38 (List.replicate 8 0) ∧ Below w.heap.size w wr) (fun _ _ _ _ _ _ _ _ i _ => 64 - (RowKit.intOf i).toNat)
  case atStart => exact ⟨0, v0, by omega, rfl, rfl, rfl, rfl, rfl, rfl, rfl, rfl, rfl, rfl, A1.out, A2.out, below_drewN hB0 _⟩
  case round =>
    clear c0 c1 c2 c3 c4 c5 c6 c7 A1 A2 hB0
    obtain ⟨k, v, hk, rfl, hv, rfl, rfl, rfl, rfl, rfl, rfl, rfl, rfl, r1, r2, hbel⟩ := hrel
    have R1 := hid r1; have R2 := hid r2; have HVV := hid hv
    clear r1 r2 hv
    have hIr := hI.below hbel
    by_cases hkl : k < 64
    · have c1 := R1.out.cell (j := k) (by rw [HMM.out]; omega)
      have cK := hIr.cubes k _ (wV_get (l := K64) (i := k) hkl)
      rw [Nat.zero_add] at cK
      have hKg : K64.getD k 0 = K64[k]'hkl := by rw [List.getD_eq_getElem?_getD, List.getElem?_eq_getElem (show k < K64.length from hkl)]; rfl
      rw [← hKg] at cK
      clear hKg
      obtain ⟨x, hx⟩ : ∃ x, m.getD k 0 = x := ⟨_, rfl⟩
      obtain ⟨y, hy⟩ : ∃ y, K64.getD k 0 = y := ⟨_, rfl⟩
      rw [hx] at c1
      rw [hy] at cK
      have HX := hid hx; have HY := hid hy
      clear hx hy
      have g0 : (k : Int) < 64 := by omega
      obtain ⟨va, vb, vc, vd, ve, vf, vg, vz⟩ := v
      simp only at *
      go_wp2_with fail
      go_quiet ((go_at_call 47; exact Calls.quiet_of_same (hmix _ _ _ _ _)))
      go_wp2_with fail
      refine (hmix _ _ _ _ _).mono ?_
      rintro e w' ⟨rfl, rfl⟩
      go_wp2_with fail
      have hv := HVV.out
      refine ⟨⟨k + 1, rnd ⟨va, vb, vc, vd, ve, vf, vg, vz⟩ y x, by omega, rfl, ?_, rfl, rfl, rfl, rfl, rfl, rfl, rfl, rfl, R1.out, R2.out, below_drewN hbel _⟩, ?_⟩
      · rw [hv, ← HX.out, ← HY.out]
        rfl
      · show 64 - ((k : Int) + 1).toNat < 64 - (k : Int).toNat
        omega
    · obtain rfl : k = 64 := by omega
      obtain ⟨va, vb, vc, vd, ve, vf, vg, vz⟩ := v
      have hA : A = [va, vb, vc, vd, ve, vf, vg, vz] := by
        rw [HA.out]
        unfold roundsS
        rw [HV.out, ← HVV.out]
        rfl
      clear HA HVV HV
      subst hA
      have hth : wr.there (w.heap.size + 1 + 1) 0 (wV [va, vb, vc, vd, ve, vf, vg, vz]).toArray.size := R2.out.there
      have hrs := World.rangeAt_setCells_same wr (w.heap.size + 1 + 1) 0 (wV [va, vb, vc, vd, ve, vf, vg, vz]) hth
      simp only at *
      clear hIr R1 R2 hmix
      go_wp2_with (refine wpList_store_mid rfl 38 (.tmp 4) (.tmp 91) rfl (w.heap.size + 1 + 1) 0 (wV [va, vb, vc, vd, ve, vf, vg, vz]).toArray rfl rfl hth (by kernel_rfl) (wV_one _) ?_)
      refine bodyPost_ret (v := .agg (wV [va, vb, vc, vd, ve, vf, vg, vz]).toArray) (results_arr rfl (a := ⟨w.heap.size + 1 + 1, 0, none⟩) rfl (run_loadVar_mid _ _ _ _ _ _ hrs Tryd.underlying38 rfl (by kernel_rfl))) rfl ⟨rfl, ?_⟩
      exact hbel.trans ((below_setCells_w (by omega) _ 0 wr).mono (Nat.le_refl _))
end YtbcdlkapapajoaaDoor.AM
end Go.Proofs

/- Layer 12: through. -/
namespace Go.Proofs
open Go.RowKit Go.Shelf Go.Lib
attribute [local go_sem] Oper.semAt_some
set_option linter.unusedVariables false
set_option linter.unusedSimpArgs false
namespace YtbcdlkapapajoaaDoor.AM
def stepS (l : List Int) (s : List UInt8) : List Int := plusS l (roundsS l (stretchS s))
def thrN : Nat → List Int → List UInt8 → List Int
  | 0, l, _ => l
  | n + 1, l, s => thrN n (stepS l s) (s.drop 64)
def thrS (l : List Int) (s : List UInt8) : List Int := thrN (s.length / 64) l s
theorem roundsS_length (l m : List Int) : (roundsS l m).length = 8 := rfl
theorem stepS_length {l : List Int} (h : l.length = 8) (s : List UInt8) : (stepS l s).length = 8 := by unfold stepS plusS; rw [List.length_zipWith, roundsS_length, h]; rfl
theorem thrN_length : ∀ (n : Nat) {l : List Int} (s : List UInt8), l.length = 8 → (thrN n l s).length = 8
  | 0, _, _, h => h
  | n + 1, l, s, h => thrN_length n _ (stepS_length h s)
theorem thrS_step {l : List Int} {s : List UInt8} (h : 64 ≤ s.length) : thrS l s = thrS (stepS l s) (s.drop 64) := by
  unfold thrS
  rw [List.length_drop]
  obtain ⟨n, hn⟩ : ∃ n, s.length / 64 = n + 1 := ⟨s.length / 64 - 1, by omega⟩
  rw [hn, show (s.length - 64) / 64 = n from by omega]
  rfl
theorem thrS_end {l : List Int} {s : List UInt8} (h : s.length < 64) : thrS l s = l := by unfold thrS; rw [Nat.div_eq_of_lt h]; rfl
theorem Inv.drew {w : World} (h : Inv w) : Inv w.drew := ⟨h.cubes, h.squares⟩
theorem HasArr.drew {w : World} {b T : Nat} {l : List Int} (h : HasArr w b T l) : HasArr w.drew b T l := h
theorem list8 {l : List Int} (h : l.length = 8) : ∃ a b c d e f g z, l = [a, b, c, d, e, f, g, z] := by
  rcases l with _ | ⟨a, _ | ⟨b, _ | ⟨c, _ | ⟨d, _ | ⟨e, _ | ⟨f, _ | ⟨g, _ | ⟨z, _ | ⟨y, r⟩⟩⟩⟩⟩⟩⟩⟩⟩ <;> simp at h
  exact ⟨a, b, c, d, e, f, g, z, rfl⟩
theorem HasArr.cells8 {w : World} {B T : Nat} {a b c d e f g z : Int} (h : HasArr w B T [a, b, c, d, e, f, g, z]) :
    w.cell? ⟨B, 0, none⟩ = some (.int .u32 a) ∧ w.cell? ⟨B, 1, none⟩ = some (.int .u32 b) ∧ w.cell? ⟨B, 2, none⟩ = some (.int .u32 c) ∧ w.cell? ⟨B, 3, none⟩ = some (.int .u32 d) ∧
    w.cell? ⟨B, 4, none⟩ = some (.int .u32 e) ∧ w.cell? ⟨B, 5, none⟩ = some (.int .u32 f) ∧ w.cell? ⟨B, 6, none⟩ = some (.int .u32 g) ∧ w.cell? ⟨B, 7, none⟩ = some (.int .u32 z) :=
  ⟨h.cell (j := 0) (by simp), h.cell (j := 1) (by simp), h.cell (j := 2) (by simp), h.cell (j := 3) (by simp), h.cell (j := 4) (by simp), h.cell (j := 5) (by simp), h.cell (j := 6) (by simp), h.cell (j := 7) (by simp)⟩
theorem HasArr.set8 {w : World} {B T : Nat} {a b c d e f g z : Int} (h : HasArr w B T [a, b, c, d, e, f, g, z]) (a' b' c' d' e' f' g' z' : Int) :
    HasArr ((((((((w.setCell ⟨B, 0, none⟩ (.int .u32 a')).setCell ⟨B, 1, none⟩ (.int .u32 b')).setCell ⟨B, 2, none⟩ (.int .u32 c')).setCell ⟨B, 3, none⟩ (.int .u32 d')).setCell ⟨B, 4, none⟩ (.int .u32 e')).setCell ⟨B, 5, none⟩ (.int .u32 f')).setCell ⟨B, 6, none⟩ (.int .u32 g')).setCell ⟨B, 7, none⟩ (.int .u32 z')) B T [a', b', c', d', e', f', g', z'] :=
  (((((((h.set 0 a').set 1 b').set 2 c').set 3 d').set 4 e').set 5 f').set 6 g').set 7 z'
def put8 (w : World) (B : Nat) (a b c d e f g z : Int) : World := (((((((w.setCell ⟨B, 0, none⟩ (.int .u32 a)).setCell ⟨B, 1, none⟩ (.int .u32 b)).setCell ⟨B, 2, none⟩ (.int .u32 c)).setCell ⟨B, 3, none⟩ (.int .u32 d)).setCell ⟨B, 4, none⟩ (.int .u32 e)).setCell ⟨B, 5, none⟩ (.int .u32 f)).setCell ⟨B, 6, none⟩ (.int .u32 g)).setCell ⟨B, 7, none⟩ (.int .u32 z)
theorem put8_below {w0 w : World} {B b : Nat} (h : Below B w0 w) (hb : B ≤ b) (a' b' c' d' e' f' g' z' : Int) : Below B w0 (put8 w b a' b' c' d' e' f' g' z') :=
  (((((((h.setCell (p := ⟨b, 0, none⟩) hb _).setCell (p := ⟨b, 1, none⟩) hb _).setCell (p := ⟨b, 2, none⟩) hb _).setCell (p := ⟨b, 3, none⟩) hb _).setCell (p := ⟨b, 4, none⟩) hb _).setCell (p := ⟨b, 5, none⟩) hb _).setCell (p := ⟨b, 6, none⟩) hb _).setCell (p := ⟨b, 7, none⟩) hb _
theorem HasArr.put8 {w : World} {B B' T : Nat} {l : List Int} (h : HasArr w B T l) (hb : B ≠ B') (a' b' c' d' e' f' g' z' : Int) : HasArr (AM.put8 w B' a' b' c' d' e' f' g' z') B T l :=
  (((((((h.other (p := ⟨B', 0, none⟩) hb _).other (p := ⟨B', 1, none⟩) hb _).other (p := ⟨B', 2, none⟩) hb _).other (p := ⟨B', 3, none⟩) hb _).other (p := ⟨B', 4, none⟩) hb _).other (p := ⟨B', 5, none⟩) hb _).other (p := ⟨B', 6, none⟩) hb _).other (p := ⟨B', 7, none⟩) hb _
set_option maxHeartbeats 4000000 in
set_option maxRecDepth 1000000 in
theorem through_c (l : List Int) (s : List UInt8) (hl : l.length = 8) (hs : s.length ≤ 1000000) (w : World) (hI : Inv w) : Calls Tryd.prog 22 #[.agg (wV l).toArray, .string (ba s)] w fun e w' => e = .returned (.agg (wV (thrS l s)).toArray) ∧ Below w.heap.size w w' := by
  obtain ⟨A, hA⟩ : ∃ A, A = thrS l s := ⟨_, rfl⟩
  rw [← hA]
  have HA := hid hA
  clear hA
  obtain ⟨cl, hcl⟩ : ∃ cl, (wV l).toArray = cl := ⟨_, rfl⟩
  rw [hcl]
  have HL := hid hcl
  have s1 : cl.size = 8 := by rw [← hcl, List.size_toArray, wV_length, hl]
  have o1 : cl.all (·.oneCell') = true := hcl ▸ wV_one l
  clear hcl
  have HLL := hid hl
  clear hl
  go_enter Tryd.func22, Tryd.ntmps22
  go_wp2_with fail
  have hz : (wV (List.replicate 8 0)).toArray = #[Value.int IntKind.u32 0, Value.int IntKind.u32 0, Value.int IntKind.u32 0, Value.int IntKind.u32 0, Value.int IntKind.u32 0, Value.int IntKind.u32 0, Value.int IntKind.u32 0, Value.int IntKind.u32 0] := rfl
  rw [← hz]
  clear hz
  obtain ⟨W, hW⟩ : ∃ W, (w.alloc (Obj.cells cl 38)).alloc (Obj.cells (wV (List.replicate 8 0)).toArray 38) = W := ⟨_, rfl⟩
  have a0 : HasArr W w.heap.size 38 l := hW ▸ (HL.out ▸ HasArr.new w _ _ : HasArr (w.alloc (Obj.cells cl 38)) w.heap.size 38 l).alloc _
  have a2 : HasArr W (w.heap.size + 1) 38 (List.replicate 8 0) := by
    have := HasArr.new (w.alloc (Obj.cells cl 38)) 38 (List.replicate 8 0)
    rw [World.size_alloc, hW] at this
    exact this
  have hB0 : Below w.heap.size w W := hW ▸ ((Below.refl _ _).alloc (Nat.le_refl _) _).alloc (by simp) _
  rw [hW]
  clear hW s1 o1 HL
  go_loopw [1] (fun t wr => ∃ (l' : List Int) (s' : List UInt8), t = .string (ba s') ∧ l'.length = 8 ∧ s'.length ≤ s.length ∧ thrS l' s' = A ∧ HasArr wr w.heap.size 38 l' ∧ HasArr wr (w.heap.size + 1) 38 (List.replicate 8 0) ∧ Below w.heap.size w wr) (fun t _ => (match t with | .string x => x.size | _ => 0))
  case atStart => exact ⟨l, s, rfl, HLL.out, Nat.le_refl _, HA.out.symm, a0, a2, hB0⟩
  case round =>
    clear a0 a2 hB0 HA HLL
    obtain ⟨l1, s1, rfl, hl1, hs1, hth, r0, r2, hbel⟩ := hrel
    have hIr := hI.below hbel
    have hsz : (ba s1).size = s1.length := ba_len s1
    have HT := hid hth
    clear hth
    by_cases hk : 64 ≤ s1.length
    · obtain ⟨a, b, c, d, e, f, g, z, rfl⟩ := list8 hl1
      obtain ⟨c0, c1, c2, c3, c4, c5, c6, c7⟩ := r0.cells8
      have hg : (64 : Int) ≤ ((ba s1).size : Int) := by omega
      have hth := HT.out
      rw [thrS_step hk] at hth
      obtain ⟨M, hM⟩ : ∃ M, stretchS s1 = M := ⟨_, rfl⟩
      obtain ⟨X, hX⟩ : ∃ X, roundsS [a, b, c, d, e, f, g, z] M = X := ⟨_, rfl⟩
      have hMl : M.length = 64 := by rw [← hM]; exact stretchS_length s1
      have hXl : X.length = 8 := by rw [← hX]; rfl
      obtain ⟨y0, y1, y2, y3, y4, y5, y6, y7, hY⟩ := list8 (stepS_length hl1 s1)
      have hPX : plusS [a, b, c, d, e, f, g, z] X = [y0, y1, y2, y3, y4, y5, y6, y7] := by rw [← hY, ← hX, ← hM]; rfl
      rw [hY] at hth
      have hS : ∀ W, Inv W → Calls Tryd.prog 35 #[.string (ba s1)] W fun e w' => e = .returned (.agg (wV M).toArray) ∧ Below W.heap.size W w' := fun W hi => by
        have := stretch_c s1 hk (by omega) W hi
        rw [hM] at this
        exact this
      have hR : ∀ W, Inv W → Calls Tryd.prog 34 #[.agg #[.int .u32 a, .int .u32 b, .int .u32 c, .int .u32 d, .int .u32 e, .int .u32 f, .int .u32 g, .int .u32 z], .agg (wV M).toArray] W fun e w' => e = .returned (.agg (wV X).toArray) ∧ Below W.heap.size W w' := fun W hi => by
        have := rounds_c [a, b, c, d, e, f, g, z] M rfl hMl W hi
        rw [hX] at this
        exact this
      have hP : ∀ W, Calls Tryd.prog 33 #[.agg #[.int .u32 a, .int .u32 b, .int .u32 c, .int .u32 d, .int .u32 e, .int .u32 f, .int .u32 g, .int .u32 z], .agg (wV X).toArray] W fun e w' => e = .returned (.agg #[.int .u32 y0, .int .u32 y1, .int .u32 y2, .int .u32 y3, .int .u32 y4, .int .u32 y5, .int .u32 y6, .int .u32 y7]) ∧ Below W.heap.size W w' := fun W => by
        have := plus_c [a, b, c, d, e, f, g, z] X rfl hXl W
        rw [hPX] at this
        exact this
      have HTH := hid hth; have CS := hid hS; have CR := hid hR; have CP := hid hP; have HR0 := hid r0; have HR2 := hid r2
      clear hth hS hR hP hPX hX hM hMl hXl hY HT hl1 r0 r2
      go_wp2_with fail
      go_region_law (first
        | (go_simp; go_at_call 35; refine (CS.out _ hIr.drew).mono ?_; rintro e W1 ⟨rfl, b1⟩; have B1 : Below wr.heap.size wr W1 := (Below.refl _ _).drew.trans b1; have I1 : Inv W1 := hIr.below B1; have H1 := hid (HR0.out.below B1 HR0.out.lt); obtain ⟨c10, c11, c12, c13, c14, c15, c16, c17⟩ := H1.out.cells8; dsimp only)
        | (go_simp; go_at_call 34; refine (CR.out _ I1).mono ?_; rintro e W2 ⟨rfl, b2⟩; have B2 : Below wr.heap.size wr W2 := B1.trans (b2.mono B1.size); have H2 := hid (HR0.out.below B2 HR0.out.lt); obtain ⟨c20, c21, c22, c23, c24, c25, c26, c27⟩ := H2.out.cells8; dsimp only)
        | (go_simp; go_at_call 33; refine (CP.out _).mono ?_; rintro e W3 ⟨rfl, b3⟩; have B3 : Below wr.heap.size wr W3 := B2.trans (b3.mono B2.size); have H3 := hid (HR0.out.below B3 HR0.out.lt); obtain ⟨c30, c31, c32, c33, c34, c35, c36, c37⟩ := H3.out.cells8; have f30 := H3.out.frozen 0; have f31 := H3.out.frozen 1; have f32 := H3.out.frozen 2; have f33 := H3.out.frozen 3; have f34 := H3.out.frozen 4; have f35 := H3.out.frozen 5; have f36 := H3.out.frozen 6; have f37 := H3.out.frozen 7; dsimp only))
      all_goals
        go_wp2_with fail
        have hex : (ba s1).extract 64 s1.length = ba (s1.drop 64) := by rw [ba_extract, List.take_of_length_le (by rw [List.length_drop]; exact Nat.le_refl _)]
        refine ⟨⟨[y0, y1, y2, y3, y4, y5, y6, y7], s1.drop 64, by rw [hex], rfl, by rw [List.length_drop]; omega, HTH.out, H3.out.set8 _ _ _ _ _ _ _ _, HasArr.put8 (HR2.out.below B3 HR2.out.lt) (by omega) _ _ _ _ _ _ _ _, put8_below (hbel.trans (B3.mono hbel.size)) (Nat.le_refl _) _ _ _ _ _ _ _ _⟩, ?_⟩
        show ((ba s1).extract 64 s1.length).size < (ba s1).size
        rw [hex, ba_len, ba_len, List.length_drop]
        omega
    · have hth := HT.out
      rw [thrS_end (by omega)] at hth
      subst hth
      obtain ⟨a, b, c, d, e, f, g, z, rfl⟩ := list8 hl1
      obtain ⟨c0, c1, c2, c3, c4, c5, c6, c7⟩ := r0.cells8
      have hg : ((ba s1).size : Int) < 64 := by omega
      have hth : wr.there (w.heap.size + 1) 0 (wV [a, b, c, d, e, f, g, z]).toArray.size := r2.there
      have hrs := World.rangeAt_setCells_same wr (w.heap.size + 1) 0 (wV [a, b, c, d, e, f, g, z]) hth
      clear HT
      have R0 := hid r0
      clear r0 r2 hIr
      go_upto_region 4 with (fail)
      refine wp_region_lit ?_
      refine wpList_load_mid rfl 38 (.tmp 2) rfl w.heap.size 0 rfl (wV [a, b, c, d, e, f, g, z]) _ R0.out.range Tryd.underlying38 rfl (by kernel_rfl) ?_
      refine wpList_store_mid rfl 38 (.tmp 4) (.tmp 16) rfl (w.heap.size + 1) 0 (wV [a, b, c, d, e, f, g, z]).toArray rfl rfl hth (by kernel_rfl) (wV_one _) ?_
      refine wpList_nil ?_
      go_wp2_with fail
      refine bodyPost_ret (v := .agg (wV [a, b, c, d, e, f, g, z]).toArray) (results_arr rfl (a := ⟨w.heap.size + 1, 0, none⟩) rfl (run_loadVar_mid _ _ _ _ _ _ hrs Tryd.underlying38 rfl (by kernel_rfl))) rfl ⟨rfl, ?_⟩
      exact hbel.trans ((below_setCells_w (by omega) _ 0 wr).mono (Nat.le_refl _))
end YtbcdlkapapajoaaDoor.AM
end Go.Proofs

/- Layer 12: text, Hex. -/
namespace Go.Proofs
open Go.RowKit Go.Shelf Go.Lib
attribute [local go_sem] Oper.semAt_some
set_option linter.unusedVariables false
set_option linter.unusedSimpArgs false
namespace YtbcdlkapapajoaaDoor.AM
theorem bld_below {T e B b : Nat} {bs : List Value} {w w' : World} (h : Lib.IsBuilder T e B b bs w) (hb : Below w.heap.size w w') : Lib.IsBuilder T e B b bs w' := by
  have key : ∀ p, Lib.BuilderAt T e B b p bs w → Lib.BuilderAt T e B b p bs w' := fun p ⟨h1, v, h2, h3, h4⟩ => ⟨h1, v, (hb.block b (heapLt h2)).trans h2, by
    refine ⟨h3.1, ?_⟩
    rcases h3.2 with h5 | ⟨g, cap, cur, h5, h6, h7, h8⟩
    · exact .inl h5
    · exact .inr ⟨g, cap, cur, h5, h6, (hb.block g (heapLt h7)).trans h7, h8⟩, h4⟩
  rcases h with h | h
  · exact .inl (key _ h)
  · exact .inr (key _ h)
theorem wstr_c (B b : Nat) (l s : List UInt8) (w : World) (h : Lib.IsBuilder 46 5 B b (Lib.byteCells l) w) (hlen : l.length + s.length ≤ 140737488355328) (hBw : B ≤ w.heap.size) :
    Calls Tryd.prog 36 #[.pointer (some ⟨b, 0, none⟩), .string (ba s)] w fun e w' => e = .returned (.tuple #[.int .i64 (ba s).size, .nilIface]) ∧ Lib.IsBuilder 46 5 B b (Lib.byteCells (l ++ s)) w' ∧ Below B w w' := by
  refine Calls.mono (Any.Builder_WriteString (ρ := Tryd.lays105_ren) { Tryd.lays105 with } Tryd.Builder_Extra_105 B b (Lib.byteCells l) (ba s) w h (by rw [Lib.byteCells_length, ba_len]; exact hlen) hBw) ?_
  rintro e w' ⟨he, h1, h2⟩
  refine ⟨he, .inr ?_, h2⟩
  have e1 : (ba s).data.toList = s := by simp [ba]
  have e2 : Lib.byteCells s = Lib.strCells (ba s) := by rw [Lib.strCells_eq, e1]
  rw [Lib.byteCells_append, e2]
  exact h1
theorem lay_c (x : Int) (w : World) (hI : Inv w) : Calls Tryd.prog 30 #[.int .u32 x] w fun e w' => e = .returned (.string (ba (layV x))) ∧ Below w.heap.size w w' := by
  have hh := (fLay12_ok 0 Inv know_inv).1.2 x _ (fLay12_any 0 x)
  refine (hh (fun _ _ => False) w #[.int .u32 x] hI (fun b o h => h.elim) ⟨drep_val (σ := noSt) (.int .u32 x), trivial⟩).mono ?_
  rintro e w' ⟨u, Pc', rfl, hb, _, _, hv⟩
  have hv' : u = .string (ba (layV x)) := of_val (σ := noSt) hv
  rw [hv']
  exact ⟨rfl, hb⟩
theorem run_index8 (w : World) (cl : Array Value) (k : Nat) (x : Int) (hk : k < 8) (h : cl[k]? = some (.int .u32 x)) : (Instr.index 38 (.agg cl) (.int .i64 (k : Int))).run Tryd.prog w = .ok (.int .u32 x) w := by
  have hkk : (k : Int) < 8 := by omega
  simp [Instr.index, Sem.run_bind, asIntOf, run_underlying Tryd.underlying38 w, hkk, part, Tryd.sizeOf36 w, Tryd.isAgg36 w, h, Result.andThen]
  intro h8
  omega
def textS (l : List Int) : List UInt8 := l.flatMap layV
theorem textS_length (l : List Int) : (textS l).length = 4 * l.length := by
  induction l with
  | nil => rfl
  | cons a t ih => rw [textS, List.flatMap_cons, List.length_append, layV_length]; unfold textS at ih; rw [ih, List.length_cons]; omega
theorem textS_succ {l : List Int} {k : Nat} (h : k < l.length) : textS (l.take (k + 1)) = textS (l.take k) ++ layV (l.getD k 0) := by
  rw [List.take_succ_eq_append_getElem h, textS, List.flatMap_append, List.getD_eq_getElem?_getD, List.getElem?_eq_getElem h]
  simp [textS]
set_option maxHeartbeats 4000000 in
set_option maxRecDepth 1000000 in
theorem text_c (l : List Int) (hl : l.length = 8) (w : World) (hI : Inv w) : Calls Tryd.prog 23 #[.agg (wV l).toArray] w fun e w' => e = .returned (.string (ba (textS l))) ∧ Below w.heap.size w w' := by
  obtain ⟨A, hA⟩ : ∃ A, A = textS l := ⟨_, rfl⟩
  rw [← hA]
  have HA := hid hA
  clear hA
  obtain ⟨cl, hcl⟩ : ∃ cl, (wV l).toArray = cl := ⟨_, rfl⟩
  rw [hcl]
  have HL := hid hcl
  have s1 : cl.size = 8 := by rw [← hcl, List.size_toArray, wV_length, hl]
  have o1 : cl.all (·.oneCell') = true := hcl ▸ wV_one l
  have hget : ∀ k : Nat, k < 8 → cl[k]? = some (.int .u32 (l.getD k 0)) := fun k hk => by
    rw [← hcl, List.getElem?_toArray, wV_get (by omega), List.getD_eq_getElem?_getD, List.getElem?_eq_getElem (by omega)]
    rfl
  clear hcl
  have HLL := hid hl
  clear hl
  go_enter Tryd.func23, Tryd.ntmps23
  go_upto_region 2 with (fail)
  have hnew := Go.Lib.fresh_isBuilder 46 5 (w.alloc (Obj.cells cl 38))
  rw [World.size_alloc] at hnew
  obtain ⟨W, hW⟩ : ∃ W, (w.alloc (Obj.cells cl 38)).alloc (Obj.cells #[Value.pointer none, Value.slice none 0 0] 46) = W := ⟨_, rfl⟩
  have a0 : HasArr W w.heap.size 38 l := hW ▸ (HL.out ▸ HasArr.new w _ _ : HasArr (w.alloc (Obj.cells cl 38)) w.heap.size 38 l).alloc _
  have hB0 : Below w.heap.size w W := hW ▸ ((Below.refl _ _).alloc (Nat.le_refl _) _).alloc (by simp) _
  have hBs : w.heap.size + 1 ≤ W.heap.size := by rw [← hW]; simp
  rw [hW] at hnew ⊢
  clear hW
  have hlen : (wV l).length = 8 := by rw [wV_length]; exact HLL.out
  refine wp_region_lit ?_
  refine wpList_load_mid rfl 38 (.tmp 1) rfl w.heap.size 0 rfl (wV l) _ a0.range Tryd.underlying38 rfl (by rw [hlen]; kernel_rfl) ?_
  rw [HL.out]
  have HN := hid hnew
  clear hnew a0
  go_wp2_with fail
  go_loopw [7] (fun i wr => ∃ k : Nat, k ≤ 8 ∧ i = .int .i64 k ∧ Lib.IsBuilder 46 5 (w.heap.size + 1) (w.heap.size + 1) (Lib.byteCells (textS (l.take k))) wr ∧ w.heap.size + 1 ≤ wr.heap.size ∧ Below w.heap.size w wr) (fun i _ => 8 - (RowKit.intOf i).toNat)
  case atStart => exact ⟨0, by omega, rfl, HN.out, hBs, hB0⟩
  case round =>
    obtain ⟨k, hk, rfl, hb, hsz, hbel⟩ := hrel
    clear hB0 hBs HN
    have hIr := hI.below hbel
    have HBB := hid hb
    clear hb
    have htl : (textS (l.take k)).length = 4 * k := by rw [textS_length, List.length_take, HLL.out, Nat.min_eq_left hk]
    by_cases hkl : k < 8
    · have hgk := hget k hkl
      have hly := lay_c (l.getD k 0) wr hIr
      have hsu := textS_succ (l := l) (k := k) (by rw [HLL.out]; exact hkl)
      obtain ⟨x, hx⟩ : ∃ x, l.getD k 0 = x := ⟨_, rfl⟩
      rw [hx] at hgk hly hsu
      have g0 : (k : Int) < 8 := by omega
      have hix := fun w => run_index8 w cl k x hkl hgk
      have HSU := hid hsu
      clear hx hsu
      clear hget
      go_wp2_with fail
      refine hly.mono ?_
      rintro e W1 ⟨rfl, hb1⟩
      have hB1 := hbel.trans (hb1.mono hbel.size)
      have hw := wstr_c (w.heap.size + 1) (w.heap.size + 1) (textS (l.take k)) (layV x) W1 (bld_below HBB.out hb1) (by rw [htl, layV_length]; omega) (Nat.le_trans hsz hb1.size)
      rw [← HSU.out] at hw
      clear hly hix
      go_wp2_with fail
      refine hw.mono ?_
      rintro e W2 ⟨rfl, hb2, hbb⟩
      have HB2 := hid hb2
      clear hw hb2
      go_wp2_with fail
      go_roundw
      case rel => exact ⟨k + 1, by omega, by go_num, HB2.out, Nat.le_trans hsz (Nat.le_trans hb1.size hbb.size), hB1.trans (hbb.mono (by omega))⟩
      case measure => simp [RowKit.intOf]; omega
    · obtain rfl : k = 8 := by omega
      have hst := HBB.out
      rw [List.take_of_length_le (by rw [HLL.out]; exact Nat.le_refl _), ← HA.out] at hst
      have hs := Tryd.Builder_String_any (w.heap.size + 1) (w.heap.size + 1) A wr hst hsz
      clear hst HBB HA hget htl
      go_wp2_with fail
      refine hs.mono ?_
      rintro e W2 ⟨rfl, hb2⟩
      clear hs
      go_wp2_with fail
      go_ret
      exact ⟨rfl, hbel.trans (hb2.mono (by omega))⟩
/-! ### Hex -/
def lays167_ren : Go.Shelf.Ren := ⟨fun | 167 => 27 | n => Tryd.lays105_ren.f n, Tryd.lays105_ren.t, Tryd.lays105_ren.g⟩
theorem lays167 : Go.Proofs.Lays.n167 Tryd.prog lays167_ren := { Tryd.lays105 with
  f167 := Tryd.func27.trans (congrArg some (by kernel_rfl))
  f240 := Tryd.func39.trans (congrArg some (by kernel_rfl))
  f276 := Tryd.func49.trans (congrArg some (by kernel_rfl)) }
set_option maxRecDepth 100000 in
theorem extra167 : Builder.Extra Tryd.prog lays167_ren := {
  sizeBuilder := by kernel_rfl
  liesBuilder := by kernel_rfl
  t5 := Tryd.underlying5
  a5 := Tryd.isAgg5
  z5 := Tryd.sizeOf5
  v5 := Tryd.zeroValue5
  infoByte := by kernel_rfl
  cellsByte := by kernel_rfl
  sizeByte := by kernel_rfl
  neB5 := by decide }
theorem wbyte_c (B b : Nat) (l : List UInt8) (c : UInt8) (w : World) (h : Lib.IsBuilder 46 5 B b (Lib.byteCells l) w) (hlen : l.length ≤ 1000000000) (hBw : B ≤ w.heap.size) :
    Calls Tryd.prog 27 #[.pointer (some ⟨b, 0, none⟩), .int .u8 (c.toNat : Int)] w fun e w' => e = .returned .nilIface ∧ Lib.IsBuilder 46 5 B b (Lib.byteCells (l ++ [c])) w' ∧ Below B w w' := by
  refine Calls.mono (Any.Builder_WriteByte (ρ := lays167_ren) lays167 extra167 B b (Lib.byteCells l) (c.toNat : Int) w h (by rw [Lib.byteCells_length]; omega) hBw) ?_
  rintro e w' ⟨he, h1, h2⟩
  refine ⟨he, .inr ?_, h2⟩
  rw [Lib.byteCells_append]
  exact h1
end YtbcdlkapapajoaaDoor.AM
end Go.Proofs

/- Layer 12: Pad. -/
namespace Go.Proofs
open Go.RowKit Go.Shelf Go.Lib
attribute [local go_sem] Oper.semAt_some
set_option linter.unusedVariables false
set_option linter.unusedSimpArgs false
namespace YtbcdlkapapajoaaDoor.AM
def zerosN (n : Nat) : Nat := (64 - (n + 9) % 64) % 64
def padS (n : Nat) : List UInt8 := [128] ++ List.replicate (zerosN n) 0 ++ layV ((8 * n / 4294967296 : Nat) : Int) ++ layV ((8 * n % 4294967296 : Nat) : Int)
def padI (n : Int) : List UInt8 := if n < 0 ∨ 1099511627776 < n then [] else padS n.toNat
theorem repeatL_zero : ∀ c : Nat, Lib.repeatL [0] c = List.replicate c 0
  | 0 => rfl
  | c + 1 => by
    have := repeatL_zero c
    show [0] ++ Lib.repeatL [0] c = _
    rw [this]
    rfl
theorem rep_zero (c : Nat) (hc : c ≤ 1000) (w : World) : Calls Tryd.prog 29 #[.string ⟨#[0]⟩, .int .i64 c] w fun e w' => e = .returned (.string (ba (List.replicate c 0))) ∧ Below w.heap.size w w' := by
  refine (Tryd.strings_Repeat ⟨#[0]⟩ c w (by omega) (by show 1 * c ≤ _; omega)).mono ?_
  rintro e w' ⟨he, hb⟩
  refine ⟨he.trans ?_, hb⟩
  show Ending.returned (.string ⟨(Lib.repeatL [0] c).toArray⟩) = _
  rw [repeatL_zero]
  rfl
set_option maxHeartbeats 4000000 in
set_option maxRecDepth 1000000 in
theorem pad_c (n : Int) (h0 : -9223372036854775808 ≤ n) (h1 : n ≤ 9223372036854775807) (w : World) (hI : Inv w) : Calls Tryd.prog 15 #[.int .i64 n] w fun e w' => e = .returned (.string (ba (padI n))) ∧ Below w.heap.size w w' := by
  obtain ⟨A, hA⟩ : ∃ A, A = padI n := ⟨_, rfl⟩
  rw [← hA]
  have HA := hid hA
  clear hA
  by_cases hn : n < 0
  · have hA := HA.out
    unfold padI at hA
    rw [if_pos (Or.inl hn)] at hA
    subst hA
    clear HA
    go_enter Tryd.func15, Tryd.ntmps15
    go_wp2_with fail
    go_ret
    exact ⟨rfl, Below.refl _ _⟩
  by_cases hn2 : 1099511627776 < n
  · have hA := HA.out
    unfold padI at hA
    rw [if_pos (Or.inr hn2)] at hA
    subst hA
    clear HA
    go_enter Tryd.func15, Tryd.ntmps15
    go_wp2_with fail
    go_ret
    exact ⟨rfl, Below.refl _ _⟩
  have hA := HA.out
  unfold padI at hA
  rw [if_neg (by omega)] at hA
  obtain ⟨m, rfl⟩ := Int.eq_ofNat_of_zero_le (show 0 ≤ n by omega)
  rw [Int.toNat_natCast] at hA
  have HA2 := hid hA
  clear hA HA h0 h1 hn
  have hm : m ≤ 1099511627776 := by omega
  go_enter Tryd.func15, Tryd.ntmps15
  go_wp2_with fail
  have e : (-(((m : Int) + 1 + 8) % 64) % 64) = ((zerosN m : Nat) : Int) := by unfold zerosN; omega
  simp only [e]
  have hz : zerosN m < 64 := by unfold zerosN; omega
  have hrp := rep_zero (zerosN m) (by omega) w
  obtain ⟨Z, hZ⟩ : ∃ Z, List.replicate (zerosN m) (0 : UInt8) = Z := ⟨_, rfl⟩
  have hzs : (ba Z).size = zerosN m := by rw [ba_len, ← hZ, List.length_replicate]
  rw [hZ] at hrp
  refine hrp.mono ?_
  rintro e1 W1 ⟨rfl, b1⟩
  clear e hrp
  obtain ⟨L1, hL1⟩ : ∃ L1, layV ((8 * m / 4294967296 : Nat) : Int) = L1 := ⟨_, rfl⟩
  obtain ⟨L2, hL2⟩ : ∃ L2, layV ((8 * m % 4294967296 : Nat) : Int) = L2 := ⟨_, rfl⟩
  have l1 : (ba L1).size = 4 := by rw [ba_len, ← hL1]; rfl
  have l2 : (ba L2).size = 4 := by rw [ba_len, ← hL2]; rfl
  have hy1 := lay_c ((8 * m / 4294967296 : Nat) : Int) W1 (hI.below b1)
  have x1 : ((8 * m / 4294967296 : Nat) : Int) = 8 * (m : Int) / 4294967296 := by omega
  have x2 : ((8 * m % 4294967296 : Nat) : Int) = 8 * (m : Int) % 4294967296 := by omega
  have hy2 := fun W hi => lay_c ((8 * m % 4294967296 : Nat) : Int) W hi
  rw [hL1, x1] at hy1
  rw [hL2, x2] at hy2
  have hA := HA2.out
  unfold padS at hA
  rw [hZ, hL1, hL2] at hA
  have HA3 := hid hA
  clear hA HA2 hZ hL1 hL2 x1 x2
  go_wp2_with fail
  refine hy1.mono ?_
  rintro e1 W2 ⟨rfl, b2⟩
  have B2 := b1.trans (b2.mono b1.size)
  clear hy1
  go_wp2_with fail
  refine (hy2 _ (hI.below B2)).mono ?_
  rintro e1 W3 ⟨rfl, b3⟩
  have B3 := B2.trans (b3.mono B2.size)
  clear hy2
  go_wp2_with fail
  go_ret
  refine ⟨?_, B3⟩
  rw [HA3.out]
  have e128 : (ByteArray.mk #[128]) = ba [128] := rfl
  rw [e128, ba_append, ba_append, ba_append]
  rfl
end YtbcdlkapapajoaaDoor.AM
end Go.Proofs

/- Layer 12: Hex. -/
namespace Go.Proofs
open Go.RowKit Go.Shelf Go.Lib
attribute [local go_sem] Oper.semAt_some
set_option linter.unusedVariables false
set_option linter.unusedSimpArgs false
namespace YtbcdlkapapajoaaDoor.AM
def digT : List UInt8 := [48, 49, 50, 51, 52, 53, 54, 55, 56, 57, 97, 98, 99, 100, 101, 102]
def hexB (c : UInt8) : List UInt8 := [digT.getD (c.toNat / 16) 0, digT.getD (c.toNat % 16) 0]
def hexS (s : List UInt8) : List UInt8 := s.flatMap hexB
theorem hexS_length (s : List UInt8) : (hexS s).length = 2 * s.length := by
  induction s with
  | nil => rfl
  | cons a t ih => rw [hexS, List.flatMap_cons, List.length_append]; unfold hexS at ih; rw [ih, List.length_cons]; simp [hexB]; omega
theorem hexS_succ {s : List UInt8} {k : Nat} (h : k < s.length) : hexS (s.take (k + 1)) = (hexS (s.take k) ++ [digT.getD (s[k].toNat / 16) 0]) ++ [digT.getD (s[k].toNat % 16) 0] := by
  rw [List.take_succ_eq_append_getElem h, hexS, List.flatMap_append]
  simp [hexS, hexB]
theorem digT_at (n : Nat) (h : n < (ByteArray.mk #[48, 49, 50, 51, 52, 53, 54, 55, 56, 57, 97, 98, 99, 100, 101, 102]).size) : (ByteArray.mk #[48, 49, 50, 51, 52, 53, 54, 55, 56, 57, 97, 98, 99, 100, 101, 102])[n]'h = digT.getD n 0 := by
  have h2 : n < digT.length := h
  rw [List.getD_eq_getElem?_getD, List.getElem?_eq_getElem h2]
  rfl
set_option maxHeartbeats 4000000 in
set_option maxRecDepth 1000000 in
theorem hex_c (s : List UInt8) (hs : s.length ≤ 1000000) (w : World) : Calls Tryd.prog 13 #[.string (ba s)] w fun e w' => e = .returned (.string (ba (hexS s))) ∧ Below w.heap.size w w' := by
  obtain ⟨A, hA⟩ : ∃ A, A = hexS s := ⟨_, rfl⟩
  rw [← hA]
  have HA := hid hA
  clear hA
  have hsz : (ba s).size = s.length := ba_len s
  have hgr := Tryd.Builder_Grow_fresh w.heap.size w.heap.size (2 * s.length) (w.alloc (Obj.cells #[Value.pointer none, Value.slice none 0 0] 46)) (Nat.le_refl _) (heap_alloc_new w _) (by simp) (by omega)
  have e2 : (((2 * s.length : Nat) : Nat) : Int) = 2 * (s.length : Int) := by omega
  rw [e2] at hgr
  clear e2
  go_enter Tryd.func13, Tryd.ntmps13
  go_wp2_with fail
  refine hgr.mono ?_
  rintro e W ⟨rfl, hb, hbel⟩
  have hB0 : Below w.heap.size w W := ((Below.refl _ _).alloc (Nat.le_refl _) _).trans hbel
  have HN := hid (Or.inr hb : Lib.IsBuilder 46 5 w.heap.size w.heap.size (Lib.byteCells []) W)
  have hBs : w.heap.size ≤ W.heap.size := hB0.size
  clear hgr hb hbel
  go_wp2_with fail
  go_loopw [11] (fun i wr => ∃ k : Nat, k ≤ s.length ∧ i = .int .i64 k ∧ Lib.IsBuilder 46 5 w.heap.size w.heap.size (Lib.byteCells (hexS (s.take k))) wr ∧ Below w.heap.size w wr) (fun i _ => s.length - (RowKit.intOf i).toNat)
  case atStart => exact ⟨0, by omega, rfl, HN.out, hB0⟩
  case round =>
    obtain ⟨k, hk, rfl, hb, hbel⟩ := hrel
    clear hB0 hBs HN
    have HBB := hid hb
    clear hb
    have htl : (hexS (s.take k)).length = 2 * k := by rw [hexS_length, List.length_take, Nat.min_eq_left hk]
    by_cases hkl : k < s.length
    · have hsu := hexS_succ hkl
      have hgk : (ba s)[k]'(by rw [hsz]; exact hkl) = s[k] := by rfl
      obtain ⟨c, hc⟩ : ∃ c, s[k] = c := ⟨_, rfl⟩
      rw [hc] at hsu hgk
      have hcl := UInt8.toNat_lt c
      have g0 : (k : Int) < (s.length : Int) := by omega
      have g1 : k < (ba s).size := by omega
      have HSU := hid hsu
      clear hsu hc
      go_wp2_with fail
      refine (wbyte_c w.heap.size w.heap.size (hexS (s.take k)) _ wr HBB.out (by rw [htl]; omega) hbel.size).mono ?_
      rintro e W1 ⟨rfl, hb1, hbb1⟩
      rw [digT_at] at hb1
      have HB1 := hid hb1
      clear hb1
      have hB1 := hbel.trans hbb1
      go_wp2_with fail
      refine (wbyte_c w.heap.size w.heap.size _ _ W1 HB1.out (by rw [List.length_append, htl]; simp; omega) hB1.size).mono ?_
      rintro e W2 ⟨rfl, hb2, hbb2⟩
      rw [digT_at, ← HSU.out] at hb2
      have HB2 := hid hb2
      clear hb2
      have hB2 := hB1.trans hbb2
      go_wp2_with fail
      go_roundw
      case rel => exact ⟨k + 1, by omega, by go_num, HB2.out, hB2⟩
      case measure => simp [RowKit.intOf]; omega
    · obtain rfl : k = s.length := by omega
      have hst := HBB.out
      rw [List.take_length, ← HA.out] at hst
      have hs := Tryd.Builder_String_any w.heap.size w.heap.size A wr hst hbel.size
      clear hst HBB HA htl
      go_wp2_with fail
      refine hs.mono ?_
      rintro e W2 ⟨rfl, hb2⟩
      clear hs
      go_wp2_with fail
      go_ret
      exact ⟨rfl, hbel.trans hb2⟩
end YtbcdlkapapajoaaDoor.AM
end Go.Proofs

/- Layer 12: Block, Of. -/
namespace Go.Proofs
open Go.RowKit Go.Shelf Go.Lib
attribute [local go_sem] Oper.semAt_some
set_option linter.unusedVariables false
set_option linter.unusedSimpArgs false
namespace YtbcdlkapapajoaaDoor.AM
def blockS (h b : List UInt8) : List UInt8 × Bool := if h.length = 32 ∧ b.length = 64 then (textS (thrS (wordsS h 8) b), true) else ([], false)
set_option maxHeartbeats 4000000 in
set_option maxRecDepth 1000000 in
theorem block_c (h b : List UInt8) (hh : h.length ≤ 1000000) (hb : b.length ≤ 1000000) (w : World) (hI : Inv w) : Calls Tryd.prog 9 #[.string (ba h), .string (ba b)] w fun e w' => e = .returned (.tuple #[.string (ba (blockS h b).1), .bool (blockS h b).2]) ∧ Below w.heap.size w w' := by
  have z1 : (ba h).size = h.length := ba_len h
  have z2 : (ba b).size = b.length := ba_len b
  by_cases h1 : h.length = 32
  · by_cases h2 : b.length = 64
    · obtain ⟨A, hA⟩ : ∃ A, A = textS (thrS (wordsS h 8) b) := ⟨_, rfl⟩
      have e : blockS h b = (A, true) := by unfold blockS; rw [if_pos ⟨h1, h2⟩, hA]
      rw [e]
      clear e
      have HA := hid hA
      clear hA
      simp only
      rw [h1] at z1
      rw [h2] at z2
      have H1 := hid h1; have H2 := hid h2
      clear h1 h2
      go_enter Tryd.func9, Tryd.ntmps9
      go_wp2_with fail
      have hz : (wV (List.replicate 8 0)).toArray = #[Value.int IntKind.u32 0, Value.int IntKind.u32 0, Value.int IntKind.u32 0, Value.int IntKind.u32 0, Value.int IntKind.u32 0, Value.int IntKind.u32 0, Value.int IntKind.u32 0, Value.int IntKind.u32 0] := rfl
      rw [← hz]
      clear hz
      obtain ⟨W, hW⟩ : ∃ W, w.alloc (Obj.cells (wV (List.replicate 8 0)).toArray 38) = W := ⟨_, rfl⟩
      have a0 : HasArr W w.heap.size 38 (List.replicate 8 0) := hW ▸ HasArr.new w _ _
      have hB0 : Below w.heap.size w W := hW ▸ (Below.refl _ _).alloc (Nat.le_refl _) _
      rw [hW]
      clear hW
      go_loopw [16] (fun i wr => ∃ k : Nat, k ≤ 8 ∧ i = .int .i64 k ∧ HasArr wr w.heap.size 38 (padTo 8 (wordsS h k)) ∧ Below w.heap.size w wr) (fun i _ => 8 - (RowKit.intOf i).toNat)
      case atStart => exact ⟨0, by omega, rfl, a0, hB0⟩
      case round =>
        clear a0 hB0
        obtain ⟨k, hk, rfl, r0, hbel⟩ := hrel
        have hIr := hI.below hbel
        have R0 := hid r0
        clear r0
        by_cases hkl : k < 8
        · have hc := word_c h k (by rw [H1.out]; omega) hh wr hIr
          have hpl : (padTo 8 (wordsS h k)).length = 8 := padTo_length (by rw [wordsS_length]; omega)
          go_wp2_with fail
          refine hc.mono ?_
          rintro e W1 ⟨rfl, hb1⟩
          have r1 := R0.out.below hb1 R0.out.lt
          have c1 := r1.cell (j := k) (by omega)
          have f1 := r1.frozen k
          have R1 := hid r1
          clear r1 hc
          have g0 : (k : Int) < 8 := by omega
          go_wp2_with fail
          have hst := R1.out.set k (wordV h k)
          have hps := padTo_set (n := 8) (l := wordsS h k) (by rw [wordsS_length]; omega) (wordV h k)
          rw [wordsS_length] at hps
          rw [hps, ← wordsS_succ] at hst
          refine ⟨⟨k + 1, by omega, rfl, hst, (hbel.trans (hb1.mono hbel.size)).setCell (Nat.le_refl _) _⟩, ?_⟩
          show 8 - ((k : Int) + 1).toNat < 8 - (k : Int).toNat
          omega
        · obtain rfl : k = 8 := by omega
          have r0 := R0.out
          have hl8 : (wordsS h 8).length = 8 := wordsS_length h 8
          rw [padTo_full hl8] at r0
          have hth := through_c (wordsS h 8) b hl8 hb wr hIr
          have htx := fun W hi => text_c (thrS (wordsS h 8) b) (thrN_length _ _ hl8) W hi
          rw [← HA.out] at htx
          have hlen : (wV (wordsS h 8)).length = 8 := by rw [wV_length]; exact hl8
          obtain ⟨X, hX⟩ : ∃ X, (wV (thrS (wordsS h 8) b)).toArray = X := ⟨_, rfl⟩
          rw [hX] at hth htx
          clear hX HA R0
          obtain ⟨L, hL⟩ : ∃ L, wordsS h 8 = L := ⟨_, rfl⟩
          rw [hL] at hth r0 hlen
          clear hl8 hL
          go_upto_region 9 with (fail)
          refine wp_region_lit ?_
          refine wpList_load_mid rfl 38 (.tmp 6) rfl w.heap.size 0 rfl (wV L) _ r0.range Tryd.underlying38 rfl (by rw [hlen]; kernel_rfl) ?_
          clear r0
          go_wp2_with fail
          refine hth.mono ?_
          rintro e W1 ⟨rfl, b1⟩
          have B1 := hbel.trans (b1.mono hbel.size)
          clear hth
          go_wp2_with fail
          refine (htx _ (hI.below B1)).mono ?_
          rintro e W2 ⟨rfl, b2⟩
          clear htx
          go_wp2_with fail
          go_ret2
          exact ⟨rfl, B1.trans (b2.mono B1.size)⟩
    · have e : blockS h b = ([], false) := by unfold blockS; rw [if_neg (fun hc => h2 hc.2)]
      rw [e]
      have z3 : ¬ ((ba b).size : Int) = 64 := by omega
      rw [h1] at z1
      go_enter Tryd.func9, Tryd.ntmps9
      go_wp2_with fail
      go_ret2
      exact ⟨rfl, Below.refl _ _⟩
  · have e : blockS h b = ([], false) := by unfold blockS; rw [if_neg (fun hc => h1 hc.1)]
    rw [e]
    have z3 : ¬ ((ba h).size : Int) = 32 := by omega
    go_enter Tryd.func9, Tryd.ntmps9
    go_wp2_with fail
    go_ret2
    exact ⟨rfl, Below.refl _ _⟩
end YtbcdlkapapajoaaDoor.AM
end Go.Proofs

/- Layer 12: Of. -/
namespace Go.Proofs
open Go.RowKit Go.Shelf Go.Lib
attribute [local go_sem] Oper.semAt_some
set_option linter.unusedVariables false
set_option linter.unusedSimpArgs false
namespace YtbcdlkapapajoaaDoor.AM
def ofS (s : List UInt8) : List UInt8 := textS (thrS (thrS H8 (s.take (s.length / 64 * 64))) (s.drop (s.length / 64 * 64) ++ padS s.length))
theorem thrS_length {l : List Int} (h : l.length = 8) (s : List UInt8) : (thrS l s).length = 8 := thrN_length _ _ h
theorem padS_length (n : Nat) : (padS n).length = 9 + zerosN n := by unfold padS; simp [layV_length]; omega
set_option maxHeartbeats 4000000 in
set_option maxRecDepth 1000000 in
theorem of_c (s : List UInt8) (hs : s.length ≤ 900000) (w : World) (hI : Inv w) : Calls Tryd.prog 11 #[.string (ba s)] w fun e w' => e = .returned (.string (ba (ofS s))) ∧ Below w.heap.size w w' := by
  obtain ⟨A, hA⟩ : ∃ A, A = ofS s := ⟨_, rfl⟩
  rw [← hA]
  have HA := hid hA
  clear hA
  have hsz : (ba s).size = s.length := ba_len s
  obtain ⟨q, hq⟩ : ∃ q, s.length / 64 * 64 = q := ⟨_, rfl⟩
  have hq0 : q ≤ s.length := by omega
  obtain ⟨Y, hY⟩ : ∃ Y, thrS H8 (s.take q) = Y := ⟨_, rfl⟩
  have hYl : Y.length = 8 := by rw [← hY]; exact thrS_length rfl _
  obtain ⟨y0, y1, y2, y3, y4, y5, y6, y7, rfl⟩ := list8 hYl
  obtain ⟨P, hP⟩ : ∃ P, padS s.length = P := ⟨_, rfl⟩
  have hPl : P.length ≤ 73 := by rw [← hP, padS_length]; unfold zerosN; omega
  have hPI : padI (s.length : Int) = P := by unfold padI; rw [if_neg (by omega), Int.toNat_natCast, hP]
  obtain ⟨T, hT⟩ : ∃ T, s.drop q ++ P = T := ⟨_, rfl⟩
  have hTl : T.length ≤ 1000000 := by rw [← hT, List.length_append, List.length_drop]; omega
  obtain ⟨Z, hZ⟩ : ∃ Z, thrS [y0, y1, y2, y3, y4, y5, y6, y7] T = Z := ⟨_, rfl⟩
  have hZl : Z.length = 8 := by rw [← hZ]; exact thrS_length rfl _
  obtain ⟨x0, x1, x2, x3, x4, x5, x6, x7, rfl⟩ := list8 hZl
  have hA : A = textS [x0, x1, x2, x3, x4, x5, x6, x7] := by
    rw [HA.out, ← hZ, ← hT, ← hY, ← hP, ← hq]
    rfl
  have C1 : ∀ W, Inv W → Calls Tryd.prog 22 #[.agg #[.int .u32 1779033703, .int .u32 3144134277, .int .u32 1013904242, .int .u32 2773480762, .int .u32 1359893119, .int .u32 2600822924, .int .u32 528734635, .int .u32 1541459225], .string (ba (s.take q))] W fun e w' => e = .returned (.agg #[.int .u32 y0, .int .u32 y1, .int .u32 y2, .int .u32 y3, .int .u32 y4, .int .u32 y5, .int .u32 y6, .int .u32 y7]) ∧ Below W.heap.size W w' := fun W hi => by
    have := through_c H8 (s.take q) rfl (by rw [List.length_take]; omega) W hi
    rw [hY] at this
    exact this
  have C2 : ∀ W, Inv W → Calls Tryd.prog 22 #[.agg #[.int .u32 y0, .int .u32 y1, .int .u32 y2, .int .u32 y3, .int .u32 y4, .int .u32 y5, .int .u32 y6, .int .u32 y7], .string (ba T)] W fun e w' => e = .returned (.agg #[.int .u32 x0, .int .u32 x1, .int .u32 x2, .int .u32 x3, .int .u32 x4, .int .u32 x5, .int .u32 x6, .int .u32 x7]) ∧ Below W.heap.size W w' := fun W hi => by
    have := through_c [y0, y1, y2, y3, y4, y5, y6, y7] T rfl hTl W hi
    rw [hZ] at this
    exact this
  have C3 : ∀ W, Inv W → Calls Tryd.prog 15 #[.int .i64 s.length] W fun e w' => e = .returned (.string (ba P)) ∧ Below W.heap.size W w' := fun W hi => by
    have := pad_c s.length (by omega) (by omega) W hi
    rw [hPI] at this
    exact this
  have C4 : ∀ W, Inv W → Calls Tryd.prog 23 #[.agg #[.int .u32 x0, .int .u32 x1, .int .u32 x2, .int .u32 x3, .int .u32 x4, .int .u32 x5, .int .u32 x6, .int .u32 x7]] W fun e w' => e = .returned (.string (ba A)) ∧ Below W.heap.size W w' := fun W hi => by
    have := text_c [x0, x1, x2, x3, x4, x5, x6, x7] rfl W hi
    rw [← hA] at this
    exact this
  have K1 := hid C1; have K2 := hid C2; have K3 := hid C3; have K4 := hid C4
  have HT := hid hT
  have hPs : (ba P).size ≤ 73 := by rw [ba_len]; exact hPl
  have E1 : (ba s).extract 0 q = ba (s.take q) := by rw [ba_extract, List.drop_zero, Nat.sub_zero]
  have E2 : (ba s).extract q s.length = ba (s.drop q) := by rw [ba_extract, List.take_of_length_le (by rw [List.length_drop]; exact Nat.le_refl _)]
  have dsz : (ba (s.drop q)).size = s.length - q := by rw [ba_len, List.length_drop]
  have qi : (s.length : Int) / 64 * 64 = (q : Int) := by omega
  have qi2 : ((s.length : Int) / 64) * 64 = (q : Int) := qi
  clear C1 C2 C3 C4 hA hZ hZl hTl hT hPI hPl hP hY hYl HA
  have c0 : w.cell? ⟨0, 0, none⟩ = some (.int .u32 1779033703) := hI.squares 0 _ rfl
  have c1 : w.cell? ⟨0, 1, none⟩ = some (.int .u32 3144134277) := hI.squares 1 _ rfl
  have c2 : w.cell? ⟨0, 2, none⟩ = some (.int .u32 1013904242) := hI.squares 2 _ rfl
  have c3 : w.cell? ⟨0, 3, none⟩ = some (.int .u32 2773480762) := hI.squares 3 _ rfl
  have c4 : w.cell? ⟨0, 4, none⟩ = some (.int .u32 1359893119) := hI.squares 4 _ rfl
  have c5 : w.cell? ⟨0, 5, none⟩ = some (.int .u32 2600822924) := hI.squares 5 _ rfl
  have c6 : w.cell? ⟨0, 6, none⟩ = some (.int .u32 528734635) := hI.squares 6 _ rfl
  have c7 : w.cell? ⟨0, 7, none⟩ = some (.int .u32 1541459225) := hI.squares 7 _ rfl
  go_enter Tryd.func11, Tryd.ntmps11
  go_wp2_with fail
  clear c0 c1 c2 c3 c4 c5 c6 c7
  obtain ⟨W, hW⟩ : ∃ W, w.alloc (Obj.cells #[Value.int IntKind.u32 1779033703, Value.int IntKind.u32 3144134277, Value.int IntKind.u32 1013904242, Value.int IntKind.u32 2773480762, Value.int IntKind.u32 1359893119, Value.int IntKind.u32 2600822924, Value.int IntKind.u32 528734635, Value.int IntKind.u32 1541459225] 38) = W := ⟨_, rfl⟩
  have a0 : HasArr W w.heap.size 38 [1779033703, 3144134277, 1013904242, 2773480762, 1359893119, 2600822924, 528734635, 1541459225] := hW ▸ HasArr.new w 38 [1779033703, 3144134277, 1013904242, 2773480762, 1359893119, 2600822924, 528734635, 1541459225]
  have hB0 : Below w.heap.size w W := hW ▸ (Below.refl _ _).alloc (Nat.le_refl _) _
  rw [hW]
  clear hW
  have I0 := hI.below hB0
  have HA0 := hid a0
  obtain ⟨c0, c1, c2, c3, c4, c5, c6, c7⟩ := a0.cells8
  clear a0
  have qg : (q : Int) ≤ (s.length : Int) := by omega
  go_region_law (first
    | (go_simp; go_at_call 22; refine (K1.out _ I0.drew).mono ?_; rintro e W1 ⟨rfl, b1⟩; have B1 : Below W.heap.size W W1 := (Below.refl _ _).drew.trans b1; have H1 := hid (HA0.out.below B1 HA0.out.lt); obtain ⟨c10, c11, c12, c13, c14, c15, c16, c17⟩ := H1.out.cells8; have f10 := H1.out.frozen 0; have f11 := H1.out.frozen 1; have f12 := H1.out.frozen 2; have f13 := H1.out.frozen 3; have f14 := H1.out.frozen 4; have f15 := H1.out.frozen 5; have f16 := H1.out.frozen 6; have f17 := H1.out.frozen 7; dsimp only))
  all_goals go_wp2_with fail
  change Code.wp _ _ _ _ (put8 W1 w.heap.size y0 y1 y2 y3 y4 y5 y6 y7)
  obtain ⟨W2, hW2⟩ : ∃ W2, put8 W1 w.heap.size y0 y1 y2 y3 y4 y5 y6 y7 = W2 := ⟨_, rfl⟩
  have h2 : HasArr W2 w.heap.size 38 [y0, y1, y2, y3, y4, y5, y6, y7] := hW2 ▸ H1.out.set8 y0 y1 y2 y3 y4 y5 y6 y7
  have B2 : Below w.heap.size w W2 := hW2 ▸ put8_below (hB0.trans (B1.mono hB0.size)) (Nat.le_refl _) y0 y1 y2 y3 y4 y5 y6 y7
  rw [hW2]
  clear hW2 c0 c1 c2 c3 c4 c5 c6 c7 c10 c11 c12 c13 c14 c15 c16 c17 f10 f11 f12 f13 f14 f15 f16 f17 b1 B1 hB0 I0 HA0 H1
  have I2 := hI.below B2
  have HA2 := hid h2
  obtain ⟨c0, c1, c2, c3, c4, c5, c6, c7⟩ := h2.cells8
  clear h2
  have E3 : ba (s.drop q) ++ ba P = ba T := by rw [ba_append, HT.out]
  have hg2 : ¬ (9223372036854775807 < s.length - q + (ba P).size) := by omega
  go_region_law (first
    | (go_simp; go_at_call 15; refine (K3.out _ I2.drew).mono ?_; rintro e W3 ⟨rfl, b3⟩; have B3 : Below W2.heap.size W2 W3 := (Below.refl _ _).drew.trans b3; have I3 := I2.below B3; have H3 := hid (HA2.out.below B3 HA2.out.lt); obtain ⟨c30, c31, c32, c33, c34, c35, c36, c37⟩ := H3.out.cells8; dsimp only)
    | (go_simp; go_at_call 22; refine (K2.out _ I3).mono ?_; rintro e W4 ⟨rfl, b4⟩; have B4 : Below W2.heap.size W2 W4 := B3.trans (b4.mono B3.size); have H4 := hid (HA2.out.below B4 HA2.out.lt); obtain ⟨c40, c41, c42, c43, c44, c45, c46, c47⟩ := H4.out.cells8; have f40 := H4.out.frozen 0; have f41 := H4.out.frozen 1; have f42 := H4.out.frozen 2; have f43 := H4.out.frozen 3; have f44 := H4.out.frozen 4; have f45 := H4.out.frozen 5; have f46 := H4.out.frozen 6; have f47 := H4.out.frozen 7; dsimp only))
  all_goals
    go_wp2_with fail
    have B5 : Below w.heap.size w (put8 W4 w.heap.size x0 x1 x2 x3 x4 x5 x6 x7) := put8_below (B2.trans (B4.mono B2.size)) (Nat.le_refl _) x0 x1 x2 x3 x4 x5 x6 x7
    refine (K4.out (put8 W4 w.heap.size x0 x1 x2 x3 x4 x5 x6 x7) (hI.below B5)).mono ?_
    rintro e W6 ⟨rfl, b6⟩
    go_wp2_with fail
    go_ret
    exact ⟨rfl, B5.trans (b6.mono B5.size)⟩
end YtbcdlkapapajoaaDoor.AM
end Go.Proofs

/- Layer 12: the contracts of Of, Hex, Pad, Block as the machine takes them. -/
namespace Go.Proofs
open Go.RowKit Go.Shelf Go.Lib
set_option linter.unusedVariables false
set_option linter.unusedSimpArgs false
namespace YtbcdlkapapajoaaDoor.AM
def fOf_t (s : List UInt8) : Option (List UInt8) := if s.length ≤ 900000 then some (ofS s) else none
def fOf_fc : FC := { f := 11, args := [strA], res := strA, F := fun p => fOf_t p }
theorem fOf_ok : FCall Inv Tryd.prog fOf_fc := fun G hG => ⟨⟨by kernel_rfl, fun (s : List UInt8) r h => by
  have h' : fOf_t s = some r := h
  unfold fOf_t at h'
  split at h'
  case isFalse => cases h'
  rename_i hc
  have hr : ofS s = r := Option.some.inj h'
  intro Pc w vs hg hlt hv
  obtain ⟨vl⟩ := vs
  match vl, hv with
  | [x], ⟨h1, _⟩ =>
    obtain rfl : x = .string (ba s) := of_val h1
    refine (of_c s hc w (hG.im w hg)).mono ?_
    rintro e w' ⟨rfl, hb⟩
    rw [hr]
    exact pc_done rfl hb (drep_val (σ := noSt) (.string (ba r)))⟩, rfl⟩
def fHex_t (s : List UInt8) : Option (List UInt8) := if s.length ≤ 1000000 then some (hexS s) else none
def fHex_fc : FC := { f := 13, args := [strA], res := strA, F := fun p => fHex_t p }
theorem fHex_ok : FCall Inv Tryd.prog fHex_fc := fun G hG => ⟨⟨by kernel_rfl, fun (s : List UInt8) r h => by
  have h' : fHex_t s = some r := h
  unfold fHex_t at h'
  split at h'
  case isFalse => cases h'
  rename_i hc
  have hr : hexS s = r := Option.some.inj h'
  intro Pc w vs hg hlt hv
  obtain ⟨vl⟩ := vs
  match vl, hv with
  | [x], ⟨h1, _⟩ =>
    obtain rfl : x = .string (ba s) := of_val h1
    refine (hex_c s hc w).mono ?_
    rintro e w' ⟨rfl, hb⟩
    rw [hr]
    exact pc_done rfl hb (drep_val (σ := noSt) (.string (ba r)))⟩, rfl⟩
def fPad_t (n : Int) : Option (List UInt8) := if -9223372036854775808 ≤ n ∧ n ≤ 9223372036854775807 then some (padI n) else none
def fPad_fc : FC := { f := 15, args := [intA], res := strA, F := fun p => fPad_t p }
theorem fPad_ok : FCall Inv Tryd.prog fPad_fc := fun G hG => ⟨⟨by kernel_rfl, fun (s : Int) r h => by
  have h' : fPad_t s = some r := h
  unfold fPad_t at h'
  split at h'
  case isFalse => cases h'
  rename_i hc
  have hr : padI s = r := Option.some.inj h'
  intro Pc w vs hg hlt hv
  obtain ⟨vl⟩ := vs
  match vl, hv with
  | [x], ⟨h1, _⟩ =>
    obtain rfl : x = .int .i64 s := of_val h1
    refine (pad_c s hc.1 hc.2 w (hG.im w hg)).mono ?_
    rintro e w' ⟨rfl, hb⟩
    rw [hr]
    exact pc_done rfl hb (drep_val (σ := noSt) (.string (ba r)))⟩, rfl⟩
def fBlock_t (h b : List UInt8) : Option (List UInt8 × Bool) := if h.length ≤ 1000000 ∧ b.length ≤ 1000000 then some (blockS h b) else none
def fBlock_fc : FC := { f := 9, args := [strA, strA], res := .tup [.c (.d .str), .c (.d .bool)], F := fun p => fBlock_t p.1 p.2 }
theorem fBlock_ok : FCall Inv Tryd.prog fBlock_fc := fun G hG => ⟨⟨by kernel_rfl, fun (p : List UInt8 × List UInt8) r h => by
  obtain ⟨s, b⟩ := p
  have h' : fBlock_t s b = some r := h
  unfold fBlock_t at h'
  split at h'
  case isFalse => cases h'
  rename_i hc
  have hr : blockS s b = r := Option.some.inj h'
  intro Pc w vs hg hlt hv
  obtain ⟨vl⟩ := vs
  match vl, hv with
  | [x, y], ⟨h1, h2, _⟩ =>
    obtain rfl : x = .string (ba s) := of_val h1
    obtain rfl : y = .string (ba b) := of_val h2
    refine (block_c s b hc.1 hc.2 w (hG.im w hg)).mono ?_
    rintro e w' ⟨rfl, hb⟩
    rw [hr]
    exact ⟨_, Pc, rfl, hb, fun b o hp => hp, fun b o hp => Or.inl hp, #[.string (ba r.1), .bool r.2], rfl, drep_val (σ := noSt) (.string (ba r.1)), drep_val (σ := noSt) (.bool r.2), trivial⟩⟩, rfl⟩
end YtbcdlkapapajoaaDoor.AM
end Go.Proofs
