/- One text of TreD, BsM, BsC, BsG0, BsL, BsW, BsE (mk/pack.py). -/
import Derived.Test.YtngbpbncipjimabGreatDoorTq9
import Derived.Shelf.Sort.Plain
import Derived.Shelf.Slices.In.SortNone
import Derived.Lib.OwnBridge
import Derived.Lib.AppendIntMem
import Derived.Laws.AppendOwn
import Derived.Lib.Hide
import Derived.Test.YtngbpbncipjimabGreatDoorTq10
import Derived.Test.YtngbpbncipjimabGreatDoorTq6
import Derived.Ground.NamesProg
import Derived.Shelf.Abstract
import Derived.WalkKit
import Derived.OwnWalkIn
import Derived.LoopIn
import Derived.Test.YtngbpbncipjimabGreatDoorProg
import Derived.Test.YtngbpbncipjimabGreatDoorTq5
/- Layer 14: Dirs. -/
namespace Go.Proofs
open Go.RowKit Go.Shelf Go.Lib
shelf_lay Lays.n190 Nm 190 at Tryz as Tryz.laysSort
attribute [local go_sem] Oper.semAt_some
set_option linter.unusedVariables false
set_option linter.unusedSimpArgs false
namespace YtngbpbncipjimabGreatDoor.AM
abbrev FT : Ty := .prod .str .str
def gomodL : List UInt8 := [103, 111, 46, 109, 111, 100]
def isMod (f : FD) : Bool := decide (inDirS f.1 (baseS f.1) = gomodL)
def dirsL (l : List FD) : List (List UInt8) := (l.filter isMod).map fun f => baseS f.1
def dirsS (l : List FD) : List (List UInt8) := if mayS l then (dirsL l).mergeSort (fun x y => decide (x ≤ y)) else []
theorem own_below {w w' : World} {B E sz n : Nat} {v : Value} {xs : List Value} (h : w.ownsRow B E sz v n xs) (hb : Below w.heap.size w w') : w'.ownsRow B E sz v n xs := by
  refine ⟨h.1, ?_⟩
  rcases h.2 with h3 | ⟨g, cap, cur, h3, h4, h5, h6⟩
  · exact .inl h3
  · exact .inr ⟨g, cap, cur, h3, h4, (hb.block g (heapLt h5)).trans h5, h6⟩
theorem sort_c (B : Nat) (v : Value) (ss : List (List UInt8)) (W : World) (hown : W.ownsRow B 9 1 v ss.length (ss.map encStr)) (hB : B ≤ W.heap.size) (hlen : ss.length ≤ 1000000) :
    Calls Tryz.prog 24 #[v] W fun e w' => e = .returned (.tuple #[]) ∧ w'.ownsRow B 9 1 v ss.length ((ss.mergeSort (fun x y => decide (x ≤ y))).map encStr) ∧ Below B W w' := by
  by_cases hv : v = .slice none 0 0
  · subst hv
    have h0 : ss.length = 0 := by
      rcases hown.2 with ⟨_, h⟩ | ⟨g, cap, cur, h, _⟩
      · exact h
      · cases h
    have hs : ss = [] := List.eq_nil_of_length_eq_zero h0
    subst hs
    refine (Any.slices_Sort_string_none Tryz.laysSort none 0 W).mono ?_
    rintro e w' ⟨rfl, rfl⟩
    rw [List.mergeSort_nil]
    exact ⟨rfl, hown, Below.refl _ _⟩
  · obtain ⟨g, cap, rfl, hg, hlt, hn, hm, hl, hH⟩ := holds_of_ownsRow hown hv
    refine (Any.slices_Sort_string Tryz.laysSort g 0 cap ss W hH hlt (by omega)).mono ?_
    rintro e w' ⟨rfl, q, os, rfl⟩
    have h1 := ownsRow_putRow (enc := encStr) (q := q) (ys := ss.mergeSort fun x y => decide (x ≤ y)) hown (List.length_mergeSort ss) (Nat.le_refl _)
    rw [List.take_of_length_le (by rw [List.length_mergeSort]; exact Nat.le_refl _)] at h1
    have hb1 := below_putRow (enc := encStr) (q := q) (d := (ss.mergeSort fun x y => decide (x ≤ y)).toArray) (Below.refl B W) hg
    generalize Go.Sort.putRow encStr (Go.Sort.ahead W q) g 0 (ss.mergeSort fun x y => decide (x ≤ y)).toArray = W2 at h1 hb1
    have hb2 : Below W2.heap.size W2 (Go.Sort.grow W2 os) := Lib.below_grow W2.heap.size W2 (Nat.le_refl _) 0 os
    exact ⟨rfl, own_below h1 hb2, hb1.trans (hb2.mono (Nat.le_trans hB hb1.size))⟩
/-- files as an argument -/
theorem fs_cells {Pc : Nat → Nat → Prop} {w : World} {v : Value} {l : List FD} (hP : ∀ b o, Pc b o → b < w.heap.size) (h : DatRep Pc w v (.lst 2 (l.map (toDats FT)))) :
    ∃ a cap, v = .slice a l.length cap ∧ l.length ≤ cap ∧ cap ≤ maxLen ∧ (0 < l.length → ∃ b off, a = some ⟨b, off, none⟩ ∧ b < w.heap.size ∧ ∀ k (hk : k < l.length), w.cell? ⟨b, off + k * 2, none⟩ = some (.string (ba l[k].1)) ∧ w.cell? ⟨b, off + k * 2 + 1, none⟩ = some (.string (ba l[k].2))) := by
  obtain ⟨a, n, cap, b, off, c, rfl, hn, hcap, hmax, hsz, ha, hc, hr⟩ : ∃ (a : Option Addr) (n cap b off : Nat) (c : Nat → Nat → Value), v = .slice a n cap ∧ n = (l.map (toDats FT)).length ∧ n ≤ cap ∧ cap ≤ maxLen ∧ (∀ x ∈ l.map (toDats FT), x.length = 2) ∧ (0 < (l.map (toDats FT)).length → a = some ⟨b, off, none⟩) ∧
      (∀ k j, k < (l.map (toDats FT)).length → j < 2 → Pc b (off + k * 2 + j) ∧ w.cell? ⟨b, off + k * 2 + j, none⟩ = some (c k j) ∧ (c k j).oneCell' = true) ∧
      (∀ (k j : Nat) (hk : k < (l.map (toDats FT)).length) (hj : j < ((l.map (toDats FT))[k]).length), DatRep Pc w (c k j) (((l.map (toDats FT))[k])[j])) := by
    generalize hL : l.map (toDats FT) = L at h
    cases h with
    | lst a n cap sz xs b off c hn hcap hmax hsz ha hc hr => exact ⟨a, n, cap, b, off, c, rfl, hn, hcap, hmax, hsz, ha, hc, hr⟩
  rw [List.length_map] at hn ha hc
  subst hn
  refine ⟨a, cap, rfl, hcap, hmax, fun hl => ⟨b, off, ha hl, hP _ _ (hc 0 0 hl (by omega)).1, fun k hk => ?_⟩⟩
  have key : ∀ j (hj : j < 2), w.cell? ⟨b, off + k * 2 + j, none⟩ = some (c k j) := fun j hj => (hc k j hk hj).2.1
  have rep : ∀ j (hj : j < 2), DatRep Pc w (c k j) ((toDats FT l[k])[j]'(by rw [toDats_len]; exact hj)) := fun j hj => by
    have := hr k j (by rw [List.length_map]; exact hk) (by rw [List.getElem_map, toDats_len]; exact hj)
    simpa only [List.getElem_map] using this
  refine ⟨(key 0 (by omega)).trans ?_, (key 1 (by omega)).trans ?_⟩
  · have h0 := rep 0 (by omega)
    have : c k 0 = .string (ba l[k].1) := by generalize c k 0 = u at h0; cases h0 with | v x => rfl
    rw [this]
  · have h0 := rep 1 (by omega)
    have : c k 1 = .string (ba l[k].2) := by generalize c k 1 = u at h0; cases h0 with | v x => rfl
    rw [this]
theorem may_one {Pc : Nat → Nat → Prop} (l : List FD) (v : Value) (w : World) (hI : Inv w) (hP : ∀ b o, Pc b o → b < w.heap.size) (h : DatRep Pc w v (.lst 2 (l.map (toDats FT)))) (hl : l.length ≤ 1000000) :
    Calls Tryz.prog 21 #[v] w fun e w' => e = .returned (.bool (mayS l)) ∧ Below w.heap.size w w' := by
  have hh := (fMay_ok 1000001 Inv know_inv).1.2 l _ (fMay_spec 1000001 l hl (by omega))
  refine (hh Pc w #[v] hI hP ⟨h, trivial⟩).mono ?_
  rintro e w' ⟨u, Pc', rfl, hb, _, _, hv⟩
  have hv' : u = .bool (mayS l) := of_val (σ := noSt) hv
  rw [hv']
  exact ⟨rfl, hb⟩
theorem base_one (s : List UInt8) (w : World) (hI : Inv w) (hs : s.length ≤ 100000) : Calls Tryz.prog 22 #[.string (ba s)] w fun e w' => e = .returned (.string (ba (baseS s))) ∧ Below w.heap.size w w' := by
  have h := (mBase_ok 1000001 Inv know_inv).1.2 s _ (mBase_spec 1000001 s (by omega) (by omega))
  refine (h (fun _ _ => False) w #[.string (ba s)] hI (fun b o h => h.elim) ⟨drep_val (σ := noSt) (.string (ba s)), trivial⟩).mono ?_
  rintro e w' ⟨v, Pc, rfl, hb, _, _, hv⟩
  rw [of_val (σ := noSt) hv]
  exact ⟨rfl, hb⟩
theorem inDir_one (s d : List UInt8) (w : World) (hI : Inv w) (hs : s.length ≤ 100000) (hd : d.length ≤ 100000) : Calls Tryz.prog 23 #[.string (ba s), .string (ba d)] w fun e w' => e = .returned (.string (ba (inDirS s d))) ∧ Below w.heap.size w w' := by
  have h := (tInDir_ok 1000001 Inv know_inv).1.2 (s, d) _ (tInDir_spec 1000001 s d hs hd)
  refine (h (fun _ _ => False) w #[.string (ba s), .string (ba d)] hI (fun b o h => h.elim) ⟨drep_val (σ := noSt) (.string (ba s)), drep_val (σ := noSt) (.string (ba d)), trivial⟩).mono ?_
  rintro e w' ⟨v, Pc, rfl, hb, _, _, hv⟩
  rw [of_val (σ := noSt) hv]
  exact ⟨rfl, hb⟩
theorem info_str : (Tryz.prog.info? 9).map (fun i => (i.zero, i.size, i.bytes)) = some (some (.string ⟨#[]⟩), 1, 16) := by kernel_rfl
theorem dirsL_snoc {l : List FD} {k : Nat} (h : k < l.length) : dirsL (l.take (k + 1)) = dirsL (l.take k) ++ (if isMod l[k] then [baseS l[k].1] else []) := by
  unfold dirsL
  rw [List.take_succ_eq_append_getElem h, List.filter_append, List.map_append]
  congr 1
  cases hm : isMod l[k] with
  | true => simp [List.filter, hm]
  | false => simp [List.filter, hm]
theorem dirsL_len (l : List FD) : (dirsL l).length ≤ l.length := by
  unfold dirsL
  rw [List.length_map]
  exact List.length_filter_le _ _
set_option maxHeartbeats 4000000 in
set_option maxRecDepth 1000000 in
theorem Dirs_calls {Pc : Nat → Nat → Prop} (w : World) (v1 : Value) (l : List FD) (hI : Inv w) (hP : ∀ b o, Pc b o → b < w.heap.size) (hl : l.length ≤ 1000000)
    (h1 : DatRep Pc w v1 (.lst 2 (l.map (toDats FT)))) :
    Calls Tryz.prog 10 #[v1] w fun e w' => Below w.heap.size w w' ∧ ∃ v', e = .returned v' ∧ w'.ownsRow w.heap.size 9 1 v' (dirsS l).length ((dirsS l).map encStr) := by
  have hM := may_one l v1 w hI hP h1 hl
  obtain ⟨a1, cap1, rfl, hlc, hcm, hfs⟩ := fs_cells hP h1
  have hcm' : cap1 ≤ 9223372036854775807 := by unfold maxLen at hcm; omega
  have HFS := hid hfs
  clear h1 hfs
  cases hm : mayS l with
  | false =>
    rw [hm] at hM
    have hd : dirsS l = [] := by unfold dirsS; rw [hm]; rfl
    rw [hd]
    go_enter Tryz.func10, Tryz.ntmps10
    go_wp2_with (go_at_call 21; refine hM.mono ?_)
    rintro e W1 ⟨rfl, hb1⟩
    go_wp2
    go_ret
    exact ⟨hb1, .slice none 0 0, rfl, World.ownsRow_nil _ _ _ _⟩
  | true =>
    rw [hm] at hM
    obtain ⟨m1, m2, m3⟩ := (may_iff l).1 hm
    have hd : dirsS l = (dirsL l).mergeSort (fun x y => decide (x ≤ y)) := by unfold dirsS; rw [hm]; rfl
    rw [hd]
    clear hd
    have HOKF := hid m2
    obtain ⟨i0, hi, hz0, hz1, hz2⟩ := info_parts info_str
    clear m2 m3
    go_enter Tryz.func10, Tryz.ntmps10
    go_wp2_with (go_at_call 21; refine hM.mono ?_)
    rintro e W1 ⟨rfl, hb1⟩
    clear hM
    go_wp2_with fail
    go_loopw [3, 12] (fun v i wr => ∃ (k : Nat), k ≤ l.length ∧ i = .int .i64 (k : Int) ∧ wr.ownsRow w.heap.size 9 1 v (dirsL (l.take k)).length ((dirsL (l.take k)).map encStr) ∧ Below w.heap.size w wr) (fun _ i _ => l.length - (RowKit.intOf i).toNat)
    case atStart => exact ⟨0, Nat.zero_le _, rfl, World.ownsRow_nil _ _ _ _, hb1⟩
    case round =>
      obtain ⟨k, hk, rfl, hown, hbel⟩ := hrel
      have HO := hid hown
      clear hown
      by_cases hkl : k < l.length
      · obtain ⟨b, off, rfl, hbw, hcs⟩ := HFS.out (by omega)
        obtain ⟨c0, c1⟩ := hcs k hkl
        have hbw1 : b < w.heap.size := hbw
        have d0 := (hbel.cell (p := ⟨b, off + k * 2, none⟩) hbw).trans c0
        have d1 := (hbel.cell (p := ⟨b, off + k * 2 + 1, none⟩) hbw).trans c1
        clear hcs c0 c1
        have hkk : (k : Int) < (l.length : Int) := by omega
        have HSN := hid (dirsL_snoc hkl)
        have hok := okF_parts (HOKF.out _ (List.getElem_mem hkl))
        have hpl : l[k].1.length ≤ 60 := (path_parts hok.1).1
        clear hok
        generalize l[k] = f at *
        have HPL := hid hpl
        clear hpl
        obtain ⟨OB, hOB⟩ : ∃ OB : Obj, OB = .cells #[.string (ba f.1), .string (ba f.2)] 31 (0, 0) := ⟨_, rfl⟩
        have hal := heap_alloc_new wr OB
        have hbA : Below w.heap.size w (wr.alloc OB) := hbel.alloc hbel.size OB
        have hoA := own_below HO.out ((Below.refl wr.heap.size wr).alloc (Nat.le_refl _) OB)
        have hBs := base_one f.1 (wr.alloc OB) (hI.below hbA) (by have := HPL.out; omega)
        rw [hOB] at hal hbA hoA hBs
        have HAL := hid hal
        have HOA := hid hoA
        clear hOB hal hoA HO
        go_wp2_with fail
        refine hBs.mono ?_
        rintro e W2 ⟨rfl, hb2⟩
        clear hBs
        have hal2 := (hb2.block _ (heapLt HAL.out)).trans HAL.out
        have x0 := Lib.cell_of_heap hal2 0
        have hb3 := hbA.trans (hb2.mono hbA.size)
        have HO2 := hid (own_below HOA.out hb2)
        have hID := inDir_one f.1 (baseS f.1) W2 (hI.below hb3) (by have := HPL.out; omega) (by have := base_len f.1; have := HPL.out; omega)
        clear hal2 hbA
        go_wp2_with fail
        refine hID.mono ?_
        rintro e W3 ⟨rfl, hb4⟩
        clear hID x0
        have hb5 := hb3.trans (hb4.mono hb3.size)
        have HO3 := hid (own_below HO2.out hb4)
        clear hb3 hb4 HO2 HOA HAL
        by_cases hq : inDirS f.1 (baseS f.1) = gomodL
        · have hsn := HSN.out
          have him : isMod f = true := decide_eq_true hq
          rw [him, if_pos rfl] at hsn
          have HS2 := hid hsn
          rw [hq]
          clear hsn him HSN
          have hdl : (dirsL (l.take k)).length ≤ 1000000 := by have := dirsL_len (l.take k); rw [List.length_take] at this; omega
          have hsz3 := hb5.size
          have hqq : ((ba gomodL).toList == [103, 111, 46, 109, 111, 100]) = true := by rw [ByteArray.toList_eq]; rfl
          go_wp2_with (at_builtin; refine wpList_append_own _ rfl _ _ 25 rfl w.heap.size 9 i0 (.string ⟨#[]⟩) 1 16 Tryz.underlying25 hi hz0 hz1 hz2 rfl (by decide) _ _ _ rfl (HO3.out.alloc _) ⟨W3.heap.size, 0, none⟩ 1 1 [.string (ba (baseS f.1))] rfl ?c0 ?c1 ?c2 ?c3 ?c4 ?c5 ?_)
          case c0 => rfl
          case c1 =>
            intro j u hj
            match j, hj with
            | 0, hj => rw [← hj]; exact Lib.cell_of_heap (heap_alloc_new W3 _) 0
          case c2 => intro u hu; simp at hu; subst hu; rfl
          case c3 => unfold maxLen; omega
          case c4 => omega
          case c5 => simp; omega
          intro v' w4 hown' hgrow _
          have hbel' : Below w.heap.size w w4 := (hb5.alloc hsz3 _).grown hgrow (by simp; omega) (fun j hj => (HO3.out.lt j hj).1)
          have ho5 : w4.ownsRow w.heap.size 9 1 v' (dirsL (l.take (k + 1))).length ((dirsL (l.take (k + 1))).map encStr) := by
            rw [HS2.out, List.map_append, List.length_append]
            exact hown'
          have HO5 := hid ho5
          clear hown' ho5 hgrow
          go_wp2_with fail
          go_roundw
          case rel => exact ⟨k + 1, by omega, by go_num, HO5.out, hbel'⟩
          case measure => simp [RowKit.intOf]; omega
        · have hsn := HSN.out
          have him : isMod f = false := decide_eq_false hq
          rw [him, if_neg (by decide), List.append_nil] at hsn
          have HS2 := hid hsn
          clear hsn him HSN
          have hqq : ((ba (inDirS f.1 (baseS f.1))).toList == [103, 111, 46, 109, 111, 100]) = false := by
            rw [ByteArray.toList_eq, show (ba (inDirS f.1 (baseS f.1))).data.toList = inDirS f.1 (baseS f.1) from by simp [ba]]
            exact beq_eq_false_iff_ne.2 hq
          go_wp2_with fail
          go_roundw
          case rel => exact ⟨k + 1, by omega, by go_num, by rw [HS2.out]; exact HO3.out, hb5⟩
          case measure => simp [RowKit.intOf]; omega
      · obtain rfl : k = l.length := by omega
        have ho := HO.out
        rw [List.take_length] at ho
        have hS := sort_c w.heap.size _ (dirsL l) wr ho hbel.size (by have := dirsL_len l; omega)
        clear ho HO
        have hsl : ((dirsL l).mergeSort (fun x y => decide (x ≤ y))).length = (dirsL l).length := List.length_mergeSort _
        go_wp2_with fail
        refine hS.mono ?_
        rintro e W2 ⟨rfl, ho2, hb2⟩
        rw [← hsl] at ho2
        have HO2 := hid ho2
        clear ho2 hS hsl
        have hb3 := hbel.trans hb2
        go_wp2_with fail
        go_ret
        exact ⟨hb3, _, rfl, HO2.out⟩
theorem strs_dat {w : World} {B : Nat} {v : Value} {l : List (List UInt8)} {Pc : Nat → Nat → Prop} (h : w.ownsRow B 9 1 v l.length (l.map encStr)) (hP : ∀ b o, B ≤ b → b < w.heap.size → Pc b o) : DatRep Pc w v (.lst 1 (l.map (toDats .str))) := by
  rcases h.2 with ⟨rfl, h0⟩ | ⟨g, cap, cur, rfl, hb, hg, hn, hc, hs, ht⟩
  · have : l = [] := List.eq_nil_of_length_eq_zero h0
    subst this
    exact DatRep.lst none 0 0 1 [] 0 0 (fun _ _ => undef) rfl (Nat.le_refl _) (by unfold maxLen; omega) (fun x hx => by cases hx) (fun h => by cases h) (fun k j hk => by cases hk) (fun k j hk => by cases hk)
  · have hget : ∀ k (hk : k < l.length), (l.map encStr)[k]? = some (.string (ba l[k])) := fun k hk => by rw [List.getElem?_map, List.getElem?_eq_getElem hk]; rfl
    have hcur : ∀ k (hk : k < l.length), cur.toList[k]? = some (.string (ba l[k])) := fun k hk => by
      have e : (cur.toList.take (l.length * 1))[k]? = some (.string (ba l[k])) := by rw [ht, hget k hk]
      rw [List.getElem?_take] at e
      split at e
      · exact e
      · cases e
    refine DatRep.lst (some ⟨g, 0, none⟩) l.length cap 1 _ g 0 (fun k j => ((l[k]?).map fun s => Value.string (ba s)).getD undef) (by simp) hn hc (fun x hx => by obtain ⟨f, _, rfl⟩ := List.mem_map.1 hx; rfl) (fun _ => rfl) (fun k j hk hj => ?_) (fun k j hk hj => ?_)
    · have hk' : k < l.length := by simpa using hk
      obtain rfl : j = 0 := by omega
      refine ⟨hP _ _ hb (heapLt hg), ?_, ?_⟩
      · rw [Lib.cell_of_heap hg, List.getElem?_eq_getElem hk']
        have := hcur k hk'
        simpa using this
      · rw [List.getElem?_eq_getElem hk']; rfl
    · have hk' : k < l.length := by simpa using hk
      simp only [List.getElem_map] at hj ⊢
      have hj2 : j < 1 := hj
      obtain rfl : j = 0 := by omega
      rw [List.getElem?_eq_getElem hk']
      exact .v _
def tDirs_t (l : List FD) : Option (List (List UInt8)) := if l.length ≤ 1000000 then some (dirsS l) else none
def tDirs_fc : FC := { f := 10, args := [.one (.c (.d (.lst FT)))], res := .one (.c (.d (.lst .str))), F := fun p => tDirs_t p }
theorem tDirs_ok : FCall Inv Tryz.prog tDirs_fc := fun G hG => ⟨⟨by kernel_rfl, fun (l : List FD) r h => by
  have h' : tDirs_t l = some r := h
  unfold tDirs_t at h'
  split at h'
  case isFalse => cases h'
  rename_i hc
  have hr : dirsS l = r := Option.some.inj h'
  intro Pc w vs hg hlt hv
  obtain ⟨vl⟩ := vs
  match vl, hv with
  | [x], ⟨h1, _⟩ =>
    refine (Dirs_calls w x l (hG.im w hg) hlt hc h1).mono ?_
    rintro e w' ⟨hb, v', rfl, hown⟩
    rw [hr] at hown
    exact ⟨v', fun b o => Pc b o ∨ (w.heap.size ≤ b ∧ b < w'.heap.size), rfl, hb, fun b o hp => Or.inl hp, fun b o hp => hp, strs_dat hown (fun b o h1 h2 => Or.inr ⟨h1, h2⟩)⟩⟩, rfl⟩
theorem tDirs_some {l : List FD} (h : l.length ≤ 1000000) : tDirs_t l = some (dirsS l) := by unfold tDirs_t; rw [if_pos h]
end YtngbpbncipjimabGreatDoor.AM
end Go.Proofs

/- Layer 13: mathematics: bytes as signs, and back. -/
namespace Go.Proofs.YtngbpbncipjimabGreatDoor.AM.Bs
set_option linter.unusedVariables false
set_option linter.unusedSimpArgs false
def sgT : List UInt8 := [65, 66, 67, 68, 69, 70, 71, 72, 73, 74, 75, 76, 77, 78, 79, 80, 81, 82, 83, 84, 85, 86, 87, 88, 89, 90, 97, 98, 99, 100, 101, 102, 103, 104, 105, 106, 107, 108, 109, 110, 111, 112, 113, 114, 115, 116, 117, 118, 119, 120, 121, 122, 48, 49, 50, 51, 52, 53, 54, 55, 56, 57, 43, 47]
def sg (n : Nat) : UInt8 := sgT.getD n 0
/-- a sign's number -/
def nuL (c : UInt8) : List UInt8 → Nat → Option Nat
  | [], _ => none
  | x :: l, i => if x = c then some i else nuL c l (i + 1)
def nu (c : UInt8) : Option Nat := nuL c sgT 0
theorem nu_sg : ∀ k : Fin 64, nu (sg k.val) = some k.val := by decide +kernel
theorem nu_lt : ∀ c : Fin 256, ∀ k, nu (UInt8.ofNat c.val) = some k → k < 64 := by
  have h : ∀ c : Fin 256, (match nu (UInt8.ofNat c.val) with | some k => decide (k < 64) | none => true) = true := by decide +kernel
  intro c k hk
  have := h c
  rw [hk] at this
  exact of_decide_eq_true this
theorem nu_small {c : UInt8} {k : Nat} (h : nu c = some k) : k < 64 := nu_lt ⟨c.toNat, UInt8.toNat_lt c⟩ k (by simpa using h)
theorem nu_of {k : Nat} (h : k < 64) : nu (sg k) = some k := nu_sg ⟨k, h⟩
theorem nu_pad : nu 61 = none := by decide
theorem sg_pad {k : Nat} (h : k < 64) : sg k ≠ 61 := fun e => by
  have := nu_of h
  rw [e, nu_pad] at this
  cases this
/-- the signs of some bytes -/
def encS : List UInt8 → List UInt8
  | a :: b :: c :: r => sg (a.toNat / 4) :: sg (a.toNat % 4 * 16 + b.toNat / 16) :: sg (b.toNat % 16 * 4 + c.toNat / 64) :: sg (c.toNat % 64) :: encS r
  | [a, b] => [sg (a.toNat / 4), sg (a.toNat % 4 * 16 + b.toNat / 16), sg (b.toNat % 16 * 4), 61]
  | [a] => [sg (a.toNat / 4), sg (a.toNat % 4 * 16), 61, 61]
  | [] => []
theorem enc_len : ∀ s : List UInt8, (encS s).length = (s.length + 2) / 3 * 4
  | a :: b :: c :: r => by
    have := enc_len r
    simp only [encS, List.length_cons, this]
    omega
  | [a, b] => by simp [encS]
  | [a] => by simp [encS]
  | [] => rfl
theorem enc_app : ∀ s t : List UInt8, s.length % 3 = 0 → encS (s ++ t) = encS s ++ encS t
  | a :: b :: c :: r, t, h => by
    have := enc_app r t (by simp only [List.length_cons] at h; omega)
    simp only [List.cons_append, encS, this]
  | [a, b], t, h => by simp at h
  | [a], t, h => by simp at h
  | [], t, h => rfl
/-- the document's decoding: numbers come in, bytes go out -/
def decN : List UInt8 → Nat → Nat → Option (List UInt8)
  | [], _, _ => some []
  | c :: t, n, bits => if c = 61 then some [] else
    match nu c with
    | none => none
    | some k => if bits + 6 ≥ 8 then (decN t ((n * 64 + k) % 65536) (bits + 6 - 8)).map fun l => UInt8.ofNat ((n * 64 + k) % 65536 / 2 ^ (bits + 6 - 8) % 256) :: l
      else decN t ((n * 64 + k) % 65536) (bits + 6)
theorem ofNat_eq {n : Nat} {a : UInt8} (h : n = a.toNat) : UInt8.ofNat n = a := by subst h; simp
theorem dec_enc : ∀ (s : List UInt8) (n : Nat), decN (encS s) n 0 = some s
  | a :: b :: c :: r, n => by
    have ha := UInt8.toNat_lt a; have hb := UInt8.toNat_lt b; have hc := UInt8.toNat_lt c
    have k0 : a.toNat / 4 < 64 := by omega
    have k1 : a.toNat % 4 * 16 + b.toNat / 16 < 64 := by omega
    have k2 : b.toNat % 16 * 4 + c.toNat / 64 < 64 := by omega
    have k3 : c.toNat % 64 < 64 := by omega
    unfold encS
    simp only [decN, if_neg (sg_pad k0), if_neg (sg_pad k1), if_neg (sg_pad k2), if_neg (sg_pad k3), nu_of k0, nu_of k1, nu_of k2, nu_of k3, Nat.zero_add, Nat.reduceAdd, Nat.reduceSub, Nat.reduceLeDiff, ge_iff_le, if_true, if_false, dec_enc r, Option.map_some, Nat.reducePow, Nat.div_one]
    rw [ofNat_eq (a := a) (by omega), ofNat_eq (a := b) (by omega), ofNat_eq (a := c) (by omega)]
  | [a, b], n => by
    have ha := UInt8.toNat_lt a; have hb := UInt8.toNat_lt b
    have k0 : a.toNat / 4 < 64 := by omega
    have k1 : a.toNat % 4 * 16 + b.toNat / 16 < 64 := by omega
    have k2 : b.toNat % 16 * 4 < 64 := by omega
    unfold encS
    simp only [decN, if_neg (sg_pad k0), if_neg (sg_pad k1), if_neg (sg_pad k2), nu_of k0, nu_of k1, nu_of k2, Nat.zero_add, Nat.reduceAdd, Nat.reduceSub, Nat.reduceLeDiff, ge_iff_le, if_true, if_false, Option.map_some, Nat.reducePow, Nat.div_one]
    rw [ofNat_eq (a := a) (by omega), ofNat_eq (a := b) (by omega)]
  | [a], n => by
    have ha := UInt8.toNat_lt a
    have k0 : a.toNat / 4 < 64 := by omega
    have k1 : a.toNat % 4 * 16 < 64 := by omega
    unfold encS
    simp only [decN, if_neg (sg_pad k0), if_neg (sg_pad k1), nu_of k0, nu_of k1, Nat.zero_add, Nat.reduceAdd, Nat.reduceSub, Nat.reduceLeDiff, ge_iff_le, if_true, if_false, Option.map_some, Nat.reducePow, Nat.div_one]
    rw [ofNat_eq (a := a) (by omega)]
  | [], n => rfl
theorem enc_inj {s t : List UInt8} (h : encS s = encS t) : s = t := by
  have h1 := dec_enc s 0
  rw [h, dec_enc t 0] at h1
  exact (Option.some.inj h1).symm
/-- the bytes whose signs these are -/
def decS (t : List UInt8) : List UInt8 × Bool := match decN t 0 0 with
  | none => ([], false)
  | some s => if encS s = t then (s, true) else ([], false)
theorem dec_yes {s t : List UInt8} (h : encS s = t) : decS t = (s, true) := by
  unfold decS
  subst h
  rw [dec_enc]
  simp
theorem dec_no {t : List UInt8} (h : ∀ s, encS s ≠ t) : decS t = ([], false) := by
  unfold decS
  split
  · rfl
  · rw [if_neg (h _)]
theorem dec_of {t s : List UInt8} (h : decS t = (s, true)) : encS s = t := by
  unfold decS at h
  split at h
  · cases h
  · split at h
    · rename_i s' _ he
      obtain ⟨rfl, _⟩ := Prod.mk.inj h
      exact he
    · cases h
theorem dec_not {t s : List UInt8} (h : decS t = (s, false)) : s = [] ∧ ∀ x, encS x ≠ t := by
  refine ⟨?_, fun x hx => ?_⟩
  · unfold decS at h
    split at h
    · exact (Prod.mk.inj h).1.symm
    · split at h
      · cases h
      · exact (Prod.mk.inj h).1.symm
  · rw [dec_yes hx] at h; cases h
/-- four signs: one to three bytes -/
def rdS (t : List UInt8) (g : List UInt8) : Prop := g ≠ [] ∧ g.length ≤ 3 ∧ encS g = t
theorem rd_len {t g : List UInt8} (h : rdS t g) : t.length = 4 := by
  obtain ⟨h1, h2, rfl⟩ := h
  rw [enc_len]
  cases g with
  | nil => exact absurd rfl h1
  | cons a g => simp only [List.length_cons] at h2 ⊢; omega
theorem dec_nil : decS [] = ([], true) := dec_yes (s := []) rfl
theorem enc_nil {s : List UInt8} (h : encS s = []) : s = [] := enc_inj (t := []) h
/-- signs that are cut behind four: either these are no signs, or there must be three bytes, or they are the last ones -/
theorem enc_split {s t : List UInt8} (h : encS s = t) (h4 : t ≠ []) : ∃ g r, rdS (t.take 4) g ∧ encS r = t.drop 4 ∧ s = g ++ r ∧ (g.length < 3 → t.length ≤ 4) := by
  match s, h with
  | [], h => exact absurd h.symm h4
  | [a], h => subst h; exact ⟨[a], [], ⟨by simp, by simp, rfl⟩, rfl, rfl, fun _ => by simp [encS]⟩
  | [a, b], h => subst h; exact ⟨[a, b], [], ⟨by simp, by simp, rfl⟩, rfl, rfl, fun _ => by simp [encS]⟩
  | a :: b :: c :: r, h => subst h; exact ⟨[a, b, c], r, ⟨by simp, by simp, rfl⟩, rfl, rfl, fun h => by simp at h⟩
theorem rd_uniq {t g g' : List UInt8} (h : rdS t g) (h' : rdS t g') : g = g' := enc_inj (h.2.2.trans h'.2.2.symm)
/-- a group is no signs: nor is the whole -/
theorem dec_bad {t : List UInt8} (h4 : t ≠ []) (h : ∀ g, rdS (t.take 4) g → g.length < 3 ∧ 4 < t.length) : decS t = ([], false) :=
  dec_no fun s hs => by
    obtain ⟨g, r, h1, h2, h3, h5⟩ := enc_split hs h4
    have := h g h1
    have := h5 this.1
    omega
theorem dec_short {t : List UInt8} (h4 : t ≠ []) (h : t.length < 4) : decS t = ([], false) :=
  dec_bad h4 fun g hg => by
    have := rd_len hg
    rw [List.length_take] at this
    omega
end Go.Proofs.YtngbpbncipjimabGreatDoor.AM.Bs

/- Layer 14: numbers of 32 bits, for b64's texts. -/
namespace Go.Proofs
open Go.RowKit
set_option linter.unusedVariables false
set_option linter.unusedSimpArgs false
namespace YtngbpbncipjimabGreatDoor.AM.Bs
theorem wrap_u32 (x : Int) : IntKind.wrap .u32 x = x % (2 ^ 32) := rfl
theorem letO_some {α β : Type} (x : α) (f : α → Option β) : letO x f = f x := rfl
theorem shr32 {x j : Nat} (hj : j ≤ 32) : shrO .u32 (x : Int) (j : Int) = some ((x / 2 ^ j : Nat) : Int) := by
  unfold shrO
  rw [if_pos (by omega)]
  have e : min (Int.toNat (j : Int)) (IntKind.bits .u32) = j := by show min (Int.toNat (j : Int)) 32 = j; rw [Int.toNat_natCast]; omega
  rw [e]
  congr 1
  rw [Int.fdiv_eq_ediv_of_nonneg _ (by have := Int.pow_pos (n := 2) (m := j) (by decide); omega)]
  rw [show ((2 : Int) ^ j) = ((2 ^ j : Nat) : Int) from (Int.natCast_pow 2 j).symm, ← Int.natCast_ediv]
theorem shl32 {x j : Nat} (hj : j ≤ 32) (h : x * 2 ^ j < 4294967296) : shlO .u32 (x : Int) (j : Int) = some ((x * 2 ^ j : Nat) : Int) := by
  unfold shlO
  rw [if_pos (by omega)]
  have e : min (Int.toNat (j : Int)) (IntKind.bits .u32) = j := by show min (Int.toNat (j : Int)) 32 = j; rw [Int.toNat_natCast]; omega
  rw [e]
  congr 1
  rw [show ((2 : Int) ^ j) = ((2 ^ j : Nat) : Int) from (Int.natCast_pow 2 j).symm, ← Int.natCast_mul, wrap_u32]
  generalize x * 2 ^ j = y at h
  omega
theorem or32 {x c j : Nat} (hj : c < 2 ^ j) (hx : x * 2 ^ j + c < 4294967296) : orI .u32 ((x * 2 ^ j : Nat) : Int) (c : Int) = ((x * 2 ^ j + c : Nat) : Int) := by
  unfold orI
  have h := Nat.shiftLeft_add_eq_or_of_lt (a := x) (b := c) (i := j) hj
  rw [Nat.shiftLeft_eq] at h
  generalize x * 2 ^ j = y at *
  have e4 : (BitVec.ofInt 32 (y : Int) ||| BitVec.ofInt 32 (c : Int)).toNat = y + c := by
    rw [BitVec.toNat_or, BitVec.ofInt_natCast, BitVec.ofInt_natCast, BitVec.toNat_ofNat, BitVec.toNat_ofNat, Nat.mod_eq_of_lt (by omega), Nat.mod_eq_of_lt (by omega)]
    exact h.symm
  have e5 : (BitVec.ofInt (IntKind.bits .u32) (y : Int) ||| BitVec.ofInt (IntKind.bits .u32) (c : Int)).toNat = y + c := e4
  rw [e5, wrap_u32]
  omega
end YtngbpbncipjimabGreatDoor.AM.Bs
end Go.Proofs

/- Layer 13: a group: what functions come to, as plain functions of data: written by program (shal.py); the kernel checks it. -/
namespace Go.Proofs.YtngbpbncipjimabGreatDoor.AM.Bs
open Go.RowKit
set_option linter.unusedVariables false
set_option maxRecDepth 20000
/-! armada/b64.sign -/
def fsign13_lts (n : Nat) : List LC := []
def fsign13_t (n : Nat) (a1 : Int) : Option (Int) :=
  (remO a1 (64 : Int)).bind fun (n1 : Int) => (sAt ([65, 66, 67, 68, 69, 70, 71, 72, 73, 74, 75, 76, 77, 78, 79, 80, 81, 82, 83, 84, 85, 86, 87, 88, 89, 90, 97, 98, 99, 100, 101, 102, 103, 104, 105, 106, 107, 108, 109, 110, 111, 112, 113, 114, 115, 116, 117, 118, 119, 120, 121, 122, 48, 49, 50, 51, 52, 53, 54, 55, 56, 57, 43, 47] : List UInt8) n1).bind fun (c2 : Int) => some c2
def fsign13_fc (n : Nat) : FC := { f := 79, args := [.one (.c (.d (.int .u32)))], res := .one (.c (.d (.int .u8))), F := fun p => fsign13_t n p }
def fsign13_ct (n : Nat) : List FC := []
theorem fsign13_ctok (n : Nat) {G : World → Prop} (hG : Know Inv G) : ∀ c ∈ fsign13_ct n, FCok Tryz.prog G c ∧ noTup c.args = true := (fun _ h => by cases h)
def fsign13_dh : Hints := []
theorem fsign13_dr : drB fsign13_dh (bodyOf Tryz.f79) = true := by kernel_rfl
theorem fsign13_eq (n : Nat) : ∀ a, (fsign13_fc n).F a = main Tryz.prog 6 (fsign13_ct n) (fsign13_lts n) fsign13_dh (bodyOf Tryz.f79) [.tmp 2] (fsign13_fc n).args (fsign13_fc n).res a := by intro a; kernel_rfl
theorem fsign13_ok (n : Nat) : FCall Inv Tryz.prog (fsign13_fc n) := fun G hG => ⟨⟨by kernel_rfl, fun a r h => main_ok (c := bodyOf Tryz.f79) Tryz.func79 (by kernel_rfl) (by kernel_rfl) (Nat.le_of_ble_eq_true (by kernel_rfl)) hG.st (by kernel_rfl) (rs := [.tmp 2]) (by kernel_rfl) (fsign13_ctok n hG) (lts := fsign13_lts n) (fun F hF hFG => have hK : Know Inv F.G := hFG ▸ hG; (lok_of fun j L h1 h2 h3 => absurd h2 (Nat.not_lt.2 (Nat.le_trans (by decide +kernel) h1)))) fsign13_dr ((fsign13_eq n a).symm.trans h)⟩, rfl⟩
/-! armada/b64.lay -/
@[reducible] def flay13_sh0 : SSt := ⟨[(0, .one (.c (.d .str))), (2, .one (.c (.box 2 0))), (3, .one (.c (.d (.int .u32)))), (6, .one (.c (.d (.int .i64))))], [(2, (75, [.d (.int .u8), .d (.int .u8), .d (.int .u8), .d (.int .u8)]))], []⟩
@[reducible] def flay13_outs0 : List (Exit × SSt) := [(.exit 0, ⟨[(0, .one (.c (.d .str))), (2, .one (.c (.box 2 0))), (3, .one (.c (.d (.int .u32))))], [(2, (75, [.d (.int .u8), .d (.int .u8), .d (.int .u8), .d (.int .u8)]))], []⟩)]
def flay13_l0 (n : Nat) (rec : (List UInt8) → Int → Int → Int → Int → Int → Int → Option (((List UInt8) × (Unit × (Int × (Unit)))) × ((Int × (Int × (Int × (Int)))) × (Unit)) × (Unit))) (a1 : List UInt8) (a2 : Int) (a3 : Int) (a4 : Int) (a5 : Int) (a6 : Int) (a7 : Int) : Option (((List UInt8) × (Unit × (Int × (Unit)))) × ((Int × (Int × (Int × (Int)))) × (Unit)) × (Unit)) :=
  (bif decide (a3 < (3 : Int)) then (shlO .u32 a2 (8 : Int)).bind fun (n1 : Int) => (bif decide (a3 < ((List.length a1 : Nat) : Int)) then (sAt a1 a3).bind fun (c2 : Int) => letO (IntKind.wrap .u32 c2) fun (n3 : Int) => letO (orI .u32 n1 n3) fun (n4 : Int) => letO (IntKind.wrap .i64 (a3 + (1 : Int))) fun (n5 : Int) => rec a1 n4 n5 a4 a5 a6 a7 else letO (IntKind.wrap .i64 (a3 + (1 : Int))) fun (n6 : Int) => rec a1 n1 n6 a4 a5 a6 a7) else some (((a1, ((), (a2, ()))), (((a4, (a5, (a6, a7))), ()), ()))))
def flay13_F0 (n : Nat) (rec : pSt flay13_sh0 → Option (pOuts flay13_outs0)) (p : pSt flay13_sh0) : Option (pOuts flay13_outs0) := flay13_l0 n (fun a1 a2 a3 a4 a5 a6 a7 => rec ((a1, ((), (a2, (a3, ())))), (((a4, (a5, (a6, a7))), ()), ()))) p.1.1 p.1.2.2.1 p.1.2.2.2.1 p.2.1.1.1 p.2.1.1.2.1 p.2.1.1.2.2.1 p.2.1.1.2.2.2
def flay13_loop0 (n m : Nat) (a1 : List UInt8) (a2 : Int) (a3 : Int) (a4 : Int) (a5 : Int) (a6 : Int) (a7 : Int) : Option (((List UInt8) × (Unit × (Int × (Unit)))) × ((Int × (Int × (Int × (Int)))) × (Unit)) × (Unit)) := iterF (flay13_F0 n) m ((a1, ((), (a2, (a3, ())))), (((a4, (a5, (a6, a7))), ()), ()))
theorem flay13_loop0_succ (n m : Nat) (a1 : List UInt8) (a2 : Int) (a3 : Int) (a4 : Int) (a5 : Int) (a6 : Int) (a7 : Int) : flay13_loop0 n (m + 1) a1 a2 a3 a4 a5 a6 a7 = flay13_l0 n (fun a1 a2 a3 a4 a5 a6 a7 => flay13_loop0 n m a1 a2 a3 a4 a5 a6 a7) a1 a2 a3 a4 a5 a6 a7 := rfl
def flay13_L0 (n : Nat) : LC := { sh := flay13_sh0, outs := flay13_outs0, F := iterF (flay13_F0 n) n }
def flay13_lts (n : Nat) : List LC := [flay13_L0 n]
def flay13_t (n : Nat) (a1 : List UInt8) : Option (Int × (Int × (Int × (Int)))) :=
  (flay13_loop0 n n a1 (0 : Int) (0 : Int) (0 : Int) (0 : Int) (0 : Int) (0 : Int)).bind fun (o7 : ((List UInt8) × (Unit × (Int × (Unit)))) × ((Int × (Int × (Int × (Int)))) × (Unit)) × (Unit)) => (sAt ([61] : List UInt8) (0 : Int)).bind fun (c8 : Int) => (sAt ([61] : List UInt8) (0 : Int)).bind fun (c9 : Int) => (sAt ([61] : List UInt8) (0 : Int)).bind fun (c10 : Int) => (sAt ([61] : List UInt8) (0 : Int)).bind fun (c11 : Int) => (bif decide (((List.length o7.1.1 : Nat) : Int) = (3 : Int)) then (fsign13_t n o7.1.2.2.1).bind fun (r12 : Int) => (shrO .u32 o7.1.2.2.1 (6 : Int)).bind fun (n13 : Int) => (fsign13_t n n13).bind fun (r14 : Int) => (shrO .u32 o7.1.2.2.1 (12 : Int)).bind fun (n15 : Int) => (fsign13_t n n15).bind fun (r16 : Int) => (shrO .u32 o7.1.2.2.1 (18 : Int)).bind fun (n17 : Int) => (fsign13_t n n17).bind fun (r18 : Int) => some (r18, (r16, (r14, r12))) else (bif decide (((List.length o7.1.1 : Nat) : Int) = (2 : Int)) then (shrO .u32 o7.1.2.2.1 (6 : Int)).bind fun (n19 : Int) => (fsign13_t n n19).bind fun (r20 : Int) => (shrO .u32 o7.1.2.2.1 (12 : Int)).bind fun (n21 : Int) => (fsign13_t n n21).bind fun (r22 : Int) => (shrO .u32 o7.1.2.2.1 (18 : Int)).bind fun (n23 : Int) => (fsign13_t n n23).bind fun (r24 : Int) => some (r24, (r22, (r20, c11))) else (bif decide (((List.length o7.1.1 : Nat) : Int) = (1 : Int)) then (shrO .u32 o7.1.2.2.1 (12 : Int)).bind fun (n25 : Int) => (fsign13_t n n25).bind fun (r26 : Int) => (shrO .u32 o7.1.2.2.1 (18 : Int)).bind fun (n27 : Int) => (fsign13_t n n27).bind fun (r28 : Int) => some (r28, (r26, (c10, c11))) else some (c8, (c9, (c10, c11))))))
def flay13_fc (n : Nat) : FC := { f := 52, args := [.one (.c (.d .str))], res := .one (.agg [.d (.int .u8), .d (.int .u8), .d (.int .u8), .d (.int .u8)]), F := fun p => flay13_t n p }
def flay13_ct (n : Nat) : List FC := [fsign13_fc n]
theorem flay13_ctok (n : Nat) {G : World → Prop} (hG : Know Inv G) : ∀ c ∈ flay13_ct n, FCok Tryz.prog G c ∧ noTup c.args = true := List.forall_mem_cons.2 ⟨fsign13_ok n G hG, (fun _ h => by cases h)⟩
def flay13_dh : Hints := [(9, [⟨442721857769029238784, 73786976294838206464, 0⟩, ⟨3541774862152233910272, 590295810358705651712, 0⟩, ⟨28334198897217871282176, 4722366482869645213696, 0⟩, ⟨226673591177742970257408, 37778931862957161709568, 0⟩, ⟨1856554110554424112840704, 302231454903657293676544, 15⟩, ⟨196608, 98304, 0⟩, ⟨302231454903657293774848, 65536, 63⟩])]
theorem flay13_dr : drB flay13_dh (bodyOf Tryz.f52) = true := by kernel_rfl
theorem flay13_eq0 (n : Nat) : ∀ rec p, flay13_F0 n rec p = round Tryz.prog 51 (flay13_ct n) (flay13_lts n) flay13_dh 1 flay13_sh0 flay13_outs0 (bodyAt 0 0 (bodyOf Tryz.f52)) rec p := by intro rec p; kernel_rfl
theorem flay13_lok0 (n : Nat) {F : Fr} (hF : F.n = 51) (hK : Know Inv F.G) : LCok Tryz.prog F (flay13_L0 n) (bodyAt 0 0 (bodyOf Tryz.f52)) :=
  loop_ok hF (by kernel_rfl) (flay13_ctok n hK) (flay13_eq0 n) (fuel := n) (fun _ => rfl) (lok_of fun j L h1 h2 h3 => absurd h2 (Nat.not_lt.2 (Nat.le_trans (by decide +kernel) h1))) (drB_at flay13_dr)
theorem flay13_eq (n : Nat) : ∀ a, (flay13_fc n).F a = main Tryz.prog 51 (flay13_ct n) (flay13_lts n) flay13_dh (bodyOf Tryz.f52) [.cell 2 75] (flay13_fc n).args (flay13_fc n).res a := by intro a; kernel_rfl
theorem flay13_ok (n : Nat) : FCall Inv Tryz.prog (flay13_fc n) := fun G hG => ⟨⟨by kernel_rfl, fun a r h => main_ok (c := bodyOf Tryz.f52) Tryz.func52 (by kernel_rfl) (by kernel_rfl) (Nat.le_of_ble_eq_true (by kernel_rfl)) hG.st (by kernel_rfl) (rs := [.cell 2 75]) (by kernel_rfl) (flay13_ctok n hG) (lts := flay13_lts n) (fun F hF hFG => have hK : Know Inv F.G := hFG ▸ hG; (lok_of (c := (bodyOf Tryz.f52)) (fun j L h1 h2 h3 => by
    have h2' : j < 1 := Nat.lt_of_lt_of_le h2 (by decide +kernel)
    match j, h1, h2', h3 with
    | 0, _, _, h3 => obtain rfl := Option.some.inj h3; exact (show bodyAt 0 0 (bodyOf Tryz.f52) = bodyAt 0 0 (bodyOf Tryz.f52) by kernel_rfl) ▸ flay13_lok0 n hF hK
    | j + 1, _, h2', _ => exact absurd h2' (by omega)))) flay13_dr ((flay13_eq n a).symm.trans h)⟩, rfl⟩
/-! armada/b64.size -/
def fsize13_lts (n : Nat) : List LC := []
def fsize13_t (n : Nat) (a1 : Int) : Option (Int) :=
  letO (IntKind.wrap .i64 (a1 + (3 : Int))) fun (n1 : Int) => letO (IntKind.wrap .i64 (n1 - (1 : Int))) fun (n2 : Int) => (quoO .i64 n2 (3 : Int)).bind fun (n3 : Int) => letO (IntKind.wrap .i64 (n3 * (4 : Int))) fun (n4 : Int) => some n4
def fsize13_fc (n : Nat) : FC := { f := 51, args := [.one (.c (.d (.int .i64)))], res := .one (.c (.d (.int .i64))), F := fun p => fsize13_t n p }
def fsize13_ct (n : Nat) : List FC := []
theorem fsize13_ctok (n : Nat) {G : World → Prop} (hG : Know Inv G) : ∀ c ∈ fsize13_ct n, FCok Tryz.prog G c ∧ noTup c.args = true := (fun _ h => by cases h)
def fsize13_dh : Hints := []
theorem fsize13_dr : drB fsize13_dh (bodyOf Tryz.f51) = true := by kernel_rfl
theorem fsize13_eq (n : Nat) : ∀ a, (fsize13_fc n).F a = main Tryz.prog 8 (fsize13_ct n) (fsize13_lts n) fsize13_dh (bodyOf Tryz.f51) [.tmp 2] (fsize13_fc n).args (fsize13_fc n).res a := by intro a; kernel_rfl
theorem fsize13_ok (n : Nat) : FCall Inv Tryz.prog (fsize13_fc n) := fun G hG => ⟨⟨by kernel_rfl, fun a r h => main_ok (c := bodyOf Tryz.f51) Tryz.func51 (by kernel_rfl) (by kernel_rfl) (Nat.le_of_ble_eq_true (by kernel_rfl)) hG.st (by kernel_rfl) (rs := [.tmp 2]) (by kernel_rfl) (fsize13_ctok n hG) (lts := fsize13_lts n) (fun F hF hFG => have hK : Know Inv F.G := hFG ▸ hG; (lok_of fun j L h1 h2 h3 => absurd h2 (Nat.not_lt.2 (Nat.le_trans (by decide +kernel) h1)))) fsize13_dr ((fsize13_eq n a).symm.trans h)⟩, rfl⟩
end Go.Proofs.YtngbpbncipjimabGreatDoor.AM.Bs

/- Layer 13: a group's signs. -/
namespace Go.Proofs
open Go.RowKit
set_option linter.unusedVariables false
set_option linter.unusedSimpArgs false
namespace YtngbpbncipjimabGreatDoor.AM.Bs
theorem sAt_sg {k : Nat} (h : k < 64) : sAt sgT (k : Int) = some (((sg k).toNat : Nat) : Int) := by
  have h' : k < sgT.length := h
  rw [sAt_lt h']
  unfold sg
  rw [List.getD_eq_getElem?_getD, List.getElem?_eq_getElem h']; rfl
theorem sign_spec (n x : Nat) : fsign13_t n (x : Int) = some (((sg (x % 64)).toNat : Nat) : Int) := by
  unfold fsign13_t
  have e : remO (x : Int) (64 : Int) = some ((x % 64 : Nat) : Int) := by unfold remO; rw [if_pos (by decide)]; rfl
  have h := sAt_sg (Nat.mod_lt x (show 64 > 0 by decide))
  unfold sgT at h
  rw [e, Option.bind_some, h]
  rfl
theorem lay_round (n m : Nat) (s : List UInt8) (x k : Nat) (hk : k < 3) (hx : x < 65536) (hs : s.length ≤ 3) (a4 a5 a6 a7 : Int) :
    flay13_loop0 n (m + 1) s (x : Int) (k : Int) a4 a5 a6 a7 = flay13_loop0 n m s ((x * 256 + (s.getD k 0).toNat : Nat) : Int) ((k + 1 : Nat) : Int) a4 a5 a6 a7 := by
  rw [flay13_loop0_succ]
  unfold flay13_l0
  have h1 : decide ((k : Int) < 3) = true := decide_eq_true (by omega)
  have h2 : shlO .u32 (x : Int) (8 : Int) = some ((x * 2 ^ 8 : Nat) : Int) := shl32 (j := 8) (by decide) (by omega)
  have h5 : IntKind.wrap .i64 ((k : Int) + 1) = ((k + 1 : Nat) : Int) := wrap_succ (by omega)
  rw [h1, cond_true, h2, Option.bind_some]
  by_cases c : k < s.length
  · have hc := UInt8.toNat_lt s[k]
    have e : s.getD k 0 = s[k] := by rw [List.getD_eq_getElem?_getD, List.getElem?_eq_getElem c]; rfl
    have h3 : IntKind.wrap .u32 ((s[k].toNat : Nat) : Int) = ((s[k].toNat : Nat) : Int) := by rw [wrap_u32]; omega
    rw [decide_eq_true (by omega), cond_true, sAt_lt c, Option.bind_some, letO_some, h3, letO_some, or32 (by omega) (by omega), letO_some, h5, e]
  · have e : s.getD k 0 = 0 := by rw [List.getD_eq_getElem?_getD, List.getElem?_eq_none (by omega)]; rfl
    have z : (0 : UInt8).toNat = 0 := rfl
    rw [decide_eq_false (by omega), cond_false, letO_some, h5, e, z, Nat.add_zero (x * 256), show (2 ^ 8 : Nat) = 256 from rfl]
theorem lay_loop (n m : Nat) (s : List UInt8) (hs : s.length ≤ 3) (a4 a5 a6 a7 : Int) :
    flay13_loop0 n (m + 4) s 0 0 a4 a5 a6 a7 = some ((s, ((), (((((s.getD 0 0).toNat * 256 + (s.getD 1 0).toNat) * 256 + (s.getD 2 0).toNat : Nat) : Int), ()))), (((a4, (a5, (a6, a7))), ()), ())) := by
  have h0 := UInt8.toNat_lt (s.getD 0 0); have h1 := UInt8.toNat_lt (s.getD 1 0)
  have e0 := lay_round n (m + 3) s 0 0 (by decide) (by decide) hs a4 a5 a6 a7
  have e1 := lay_round n (m + 2) s (0 * 256 + (s.getD 0 0).toNat) 1 (by decide) (by omega) hs a4 a5 a6 a7
  have e2 := lay_round n (m + 1) s ((0 * 256 + (s.getD 0 0).toNat) * 256 + (s.getD 1 0).toNat) 2 (by decide) (by omega) hs a4 a5 a6 a7
  have e3 : flay13_loop0 n (m + 4) s 0 0 a4 a5 a6 a7 = flay13_loop0 n (m + 3 + 1) s ((0 : Nat) : Int) ((0 : Nat) : Int) a4 a5 a6 a7 := rfl
  rw [e3, e0, e1, e2, flay13_loop0_succ]
  unfold flay13_l0
  rw [decide_eq_false (by decide), cond_false, Nat.zero_mul, Nat.zero_add]
set_option maxRecDepth 20000 in
theorem lay_spec (m : Nat) (s : List UInt8) (h1 : s ≠ []) (h3 : s.length ≤ 3) : ∃ p q r t : UInt8, encS s = [p, q, r, t] ∧ flay13_t (m + 4) s = some (((p.toNat : Nat) : Int), (((q.toNat : Nat) : Int), (((r.toNat : Nat) : Int), ((t.toNat : Nat) : Int)))) := by
  obtain ⟨x, hx, hl⟩ : ∃ x : Nat, x = ((s.getD 0 0).toNat * 256 + (s.getD 1 0).toNat) * 256 + (s.getD 2 0).toNat ∧
    flay13_loop0 (m + 4) (m + 4) s 0 0 0 0 0 0 = some ((s, ((), (((x : Nat) : Int), ()))), ((((0 : Int), ((0 : Int), ((0 : Int), (0 : Int)))), ()), ())) := ⟨_, rfl, lay_loop (m + 4) m s h3 0 0 0 0⟩
  have hp : sAt ([61] : List UInt8) (0 : Int) = some (((61 : UInt8).toNat : Nat) : Int) := rfl
  have f1 : shrO .u32 (x : Int) (6 : Int) = some ((x / 2 ^ 6 : Nat) : Int) := shr32 (j := 6) (by decide)
  have f2 : shrO .u32 (x : Int) (12 : Int) = some ((x / 2 ^ 12 : Nat) : Int) := shr32 (j := 12) (by decide)
  have f3 : shrO .u32 (x : Int) (18 : Int) = some ((x / 2 ^ 18 : Nat) : Int) := shr32 (j := 18) (by decide)
  unfold flay13_t
  rw [hl, Option.bind_some, hp, Option.bind_some, Option.bind_some, Option.bind_some, Option.bind_some]
  have z : (0 : UInt8).toNat = 0 := rfl
  match s, h1, h3, hx with
  | [a], _, _, hx =>
    have ha := UInt8.toNat_lt a
    have hx' : x = a.toNat * 65536 := by
      rw [hx]; show (a.toNat * 256 + (0 : UInt8).toNat) * 256 + (0 : UInt8).toNat = _; rw [z]; omega
    clear hx hl
    refine ⟨_, _, _, _, rfl, ?_⟩
    rw [decide_eq_false (p := ((([a] : List UInt8).length : Nat) : Int) = 3) (show ¬ ((1 : Nat) : Int) = 3 by decide), cond_false, decide_eq_false (p := ((([a] : List UInt8).length : Nat) : Int) = 2) (show ¬ ((1 : Nat) : Int) = 2 by decide), cond_false, decide_eq_true (p := ((([a] : List UInt8).length : Nat) : Int) = 1) (show ((1 : Nat) : Int) = 1 by decide), cond_true, f2, Option.bind_some, sign_spec, Option.bind_some, f3, Option.bind_some, sign_spec, Option.bind_some]
    rw [show x / 2 ^ 12 % 64 = a.toNat % 4 * 16 from by omega, show x / 2 ^ 18 % 64 = a.toNat / 4 from by omega]
  | [a, b], _, _, hx =>
    have ha := UInt8.toNat_lt a; have hb := UInt8.toNat_lt b
    have hx' : x = a.toNat * 65536 + b.toNat * 256 := by
      rw [hx]; show (a.toNat * 256 + b.toNat) * 256 + (0 : UInt8).toNat = _; rw [z]; omega
    clear hx hl
    refine ⟨_, _, _, _, rfl, ?_⟩
    rw [decide_eq_false (p := ((([a, b] : List UInt8).length : Nat) : Int) = 3) (show ¬ ((2 : Nat) : Int) = 3 by decide), cond_false, decide_eq_true (p := ((([a, b] : List UInt8).length : Nat) : Int) = 2) (show ((2 : Nat) : Int) = 2 by decide), cond_true, f1, Option.bind_some, sign_spec, Option.bind_some, f2, Option.bind_some, sign_spec, Option.bind_some, f3, Option.bind_some, sign_spec, Option.bind_some]
    rw [show x / 2 ^ 6 % 64 = b.toNat % 16 * 4 from by omega, show x / 2 ^ 12 % 64 = a.toNat % 4 * 16 + b.toNat / 16 from by omega, show x / 2 ^ 18 % 64 = a.toNat / 4 from by omega]
  | [a, b, c], _, _, hx =>
    have ha := UInt8.toNat_lt a; have hb := UInt8.toNat_lt b; have hc := UInt8.toNat_lt c
    have hx' : x = (a.toNat * 256 + b.toNat) * 256 + c.toNat := hx
    clear hx hl
    refine ⟨_, _, _, _, rfl, ?_⟩
    rw [decide_eq_true (p := ((([a, b, c] : List UInt8).length : Nat) : Int) = 3) (show ((3 : Nat) : Int) = 3 by decide), cond_true, sign_spec, Option.bind_some, f1, Option.bind_some, sign_spec, Option.bind_some, f2, Option.bind_some, sign_spec, Option.bind_some, f3, Option.bind_some, sign_spec, Option.bind_some]
    rw [show x % 64 = c.toNat % 64 from by omega, show x / 2 ^ 6 % 64 = b.toNat % 16 * 4 + c.toNat / 64 from by omega, show x / 2 ^ 12 % 64 = a.toNat % 4 * 16 + b.toNat / 16 from by omega, show x / 2 ^ 18 % 64 = a.toNat / 4 from by omega]
/-- the group's signs, as a call -/
theorem lay_c (s : List UInt8) (h1 : s ≠ []) (h3 : s.length ≤ 3) (w : World) (hI : Inv w) : ∃ p q r t : UInt8, encS s = [p, q, r, t] ∧
    Calls Tryz.prog 52 #[.string (ba s)] w fun e w' => e = .returned (.agg #[.int .u8 (p.toNat : Int), .int .u8 (q.toNat : Int), .int .u8 (r.toNat : Int), .int .u8 (t.toNat : Int)]) ∧ Below w.heap.size w w' := by
  obtain ⟨p, q, r, t, he, hl⟩ := lay_spec 5 s h1 h3
  refine ⟨p, q, r, t, he, ?_⟩
  have h := (flay13_ok 9 AM.Inv AM.know_inv).1.2 s _ hl
  refine (h (AM.Old w) w #[.string (ba s)] hI (fun b o h => h) ⟨drep_val (σ := noSt) (.string (ba s)), trivial⟩).mono ?_
  rintro e w' ⟨v, Pc, rfl, hb, _, _, hv⟩
  obtain ⟨vs, rfl, hv⟩ := hv
  obtain ⟨l⟩ := vs
  match l, hv with
  | [x, y, z, u], ⟨h1, h2, h3, h4, _⟩ =>
    rw [of_val (σ := noSt) h1, of_val (σ := noSt) h2, of_val (σ := noSt) h3, of_val (σ := noSt) h4]
    exact ⟨rfl, hb⟩
end YtngbpbncipjimabGreatDoor.AM.Bs
end Go.Proofs

/- Layer 13: a builder is written to out of cells of one's own. -/
namespace Go.Proofs
open Go.RowKit Go.Shelf Go.Lib
attribute [local go_sem] Oper.semAt_some
set_option linter.unusedVariables false
set_option linter.unusedSimpArgs false
namespace YtngbpbncipjimabGreatDoor.AM.Bs
theorem bld_addr {T e B b : Nat} {p : Value} {bs : List Value} {w : World} (h : Lib.BuilderAt T e B b p bs w) : w.cell? ⟨b, 0, none⟩ = some p := by
  obtain ⟨_, v, hbk, _⟩ := h
  rw [Lib.cell_of_heap hbk]; rfl
theorem bldAt_below {T e B b : Nat} {p : Value} {bs : List Value} {w w' : World} (h : Lib.BuilderAt T e B b p bs w) (hb : Below w.heap.size w w') : Lib.BuilderAt T e B b p bs w' := by
  obtain ⟨h1, v, h2, h3, h4⟩ := h
  refine ⟨h1, v, (hb.block b (heapLt h2)).trans h2, ⟨h3.1, ?_⟩, h4⟩
  rcases h3.2 with h5 | ⟨g, cap, cur, h5, h6, h7, h8⟩
  · exact .inl h5
  · exact .inr ⟨g, cap, cur, h5, h6, (hb.block g (heapLt h7)).trans h7, h8⟩
theorem bytes_one (l : List UInt8) : ∀ u ∈ Lib.byteCells l, u.oneCell' = true := fun u hu => by
  unfold Lib.byteCells at hu
  obtain ⟨c, _, rfl⟩ := List.mem_map.1 hu
  rfl
set_option maxHeartbeats 4000000 in
set_option maxRecDepth 1000000 in
theorem write_c (B b : Nat) (l news : List UInt8) (ad : Addr) (m c : Nat) (w : World) (h : Lib.BuilderAt 53 5 B b (.pointer (some ⟨b, 0, none⟩)) (Lib.byteCells l) w)
    (hm : news.length = m) (hnews : ∀ j u, (Lib.byteCells news)[j]? = some u → w.cell? (ad.add j) = some u) (hlen : l.length + m ≤ 140737488355328) (hBw : B ≤ w.heap.size) :
    Calls Tryz.prog 53 #[.pointer (some ⟨b, 0, none⟩), .slice (some ad) m c] w fun e w' => e = .returned (.tuple #[.int .i64 m, .nilIface]) ∧ Lib.BuilderAt 53 5 B b (.pointer (some ⟨b, 0, none⟩)) (Lib.byteCells (l ++ news)) w' ∧ Below B w w' := by
  have hib := Tryz.Builder_Extra_165.infoByte
  have hne5 := Tryz.Builder_Extra_165.neB5
  have cC : ∀ w, w.cell? ⟨b, 0, none⟩ = some (.pointer (some ⟨b, 0, none⟩)) → Calls Tryz.prog 45 #[.pointer (some ⟨b, 0, none⟩)] w fun e w' => e = .returned (.tuple #[]) ∧ w' = w :=
    fun w h0 => Any.Builder_copyCheck_used (ρ := Tryz.lays165_ren) { Tryz.lays165 with } Tryz.Builder_Extra_165.toX72 b w h0
  obtain ⟨i0, hi, hz0, hz1, hz2⟩ := info_parts hib
  have hbl : (Lib.byteCells l).length = l.length := Lib.byteCells_length l
  have hnl : (Lib.byteCells news).length = m := by rw [Lib.byteCells_length, hm]
  rw [Lib.byteCells_append]
  have h1 := bytes_one news
  generalize Lib.byteCells l = bs at *
  generalize Lib.byteCells news = ns at *
  have c0 := bld_addr h
  obtain ⟨hB, v, hbk, hown, hne⟩ := h
  have c1 : w.cell? ⟨b, 1, none⟩ = some v := by rw [Lib.cell_of_heap hbk]; rfl
  go_enter Tryz.func53, Tryz.ntmps53
  go_wp2_with fail
  refine (cC _ c0).mono ?_
  rintro e w1 ⟨rfl, rfl⟩
  go_wp2_with (at_builtin; refine wpList_append_own _ rfl _ _ 51 rfl B 5 i0 (.int .u8 0) 1 1 Tryz.underlying51 hi hz0 hz1 hz2 rfl (by decide) _ _ _ rfl hown ad m c ns rfl (by omega) hnews h1 ?c3 ?c4 ?c5 ?_)
  case c3 => unfold maxLen; omega
  case c4 => omega
  case c5 => omega
  intro v' w2 hown' hgrow _
  have hlt : b < w1.heap.size := by
    rcases Nat.lt_or_ge b w1.heap.size with h' | h'
    · exact h'
    · simp [Array.getElem?_eq_none h'] at hbk
  have hb2 : w2.heap[b]? = some (.cells #[.pointer (some ⟨b, 0, none⟩), v] 53 (0, 0)) := by
    rw [hgrow.block b hlt (fun e => hne e.symm)]
    exact hbk
  have d0 : w2.cell? ⟨b, 0, none⟩ = some (.pointer (some ⟨b, 0, none⟩)) := by rw [Lib.cell_of_heap hb2]; rfl
  have d1 : w2.cell? ⟨b, 1, none⟩ = some v := by rw [Lib.cell_of_heap hb2]; rfl
  have f1 : w2.frozen? ⟨b, 1, none⟩ = false := Lib.frozen_of_heap hb2 1
  obtain ⟨ao, n', cap, rfl⟩ : ∃ ao n' cap, v' = .slice ao n' cap := by
    rcases hown'.2 with ⟨hv, _⟩ | ⟨g, cap, cur, hv, _⟩
    · exact ⟨_, _, _, hv⟩
    · exact ⟨_, _, _, hv⟩
  go_wp2
  go_ret2
  refine ⟨rfl, ?_, ?_⟩
  · exact Lib.BuilderAt.put (T := 53) (e := 5) hB hb2 (bs' := bs ++ ns) (by rw [List.length_append, hbl, hnl]; exact hown') hne5
  · exact ((Below.refl _ _).grown hgrow (by omega) (fun k hk => (hown.lt k hk).1)).setCell (p := ⟨b, 1, none⟩) hB _
end YtngbpbncipjimabGreatDoor.AM.Bs
end Go.Proofs

/- Layer 13: Encode. -/
namespace Go.Proofs
open Go.RowKit Go.Shelf Go.Lib
attribute [local go_sem] Oper.semAt_some
set_option linter.unusedVariables false
set_option linter.unusedSimpArgs false
namespace YtngbpbncipjimabGreatDoor.AM.Bs
theorem size_spec (n x : Nat) (hx : x ≤ 1099511627776) : fsize13_t n (x : Int) = some (((x + 2) / 3 * 4 : Nat) : Int) := by
  unfold fsize13_t
  have e1 : IntKind.wrap .i64 ((x : Int) + (3 : Int)) = ((x + 3 : Nat) : Int) := by rw [wrap64 (by omega) (by omega)]; rfl
  have e2 : IntKind.wrap .i64 (((x + 3 : Nat) : Int) - (1 : Int)) = ((x + 2 : Nat) : Int) := by rw [wrap64 (by omega) (by omega)]; omega
  have e3 : quoO .i64 ((x + 2 : Nat) : Int) (3 : Int) = some (((x + 2) / 3 : Nat) : Int) := by
    unfold quoO
    rw [if_pos (by decide), show ((x + 2 : Nat) : Int).tdiv 3 = (((x + 2) / 3 : Nat) : Int) from rfl, wrap64 (by omega) (by omega)]
  have e4 : IntKind.wrap .i64 ((((x + 2) / 3 : Nat) : Int) * (4 : Int)) = (((x + 2) / 3 * 4 : Nat) : Int) := by rw [wrap64 (by omega) (by omega)]; rfl
  rw [e1, letO_some, e2, letO_some, e3, Option.bind_some, e4, letO_some]
theorem size_c (x : Nat) (hx : x ≤ 1099511627776) (w : World) (hI : Inv w) : Calls Tryz.prog 51 #[.int .i64 (x : Int)] w fun e w' => e = .returned (.int .i64 (((x + 2) / 3 * 4 : Nat) : Int)) ∧ Below w.heap.size w w' := by
  have h := (fsize13_ok 9 AM.Inv AM.know_inv).1.2 (x : Int) _ (size_spec 9 x hx)
  refine (h (AM.Old w) w #[.int .i64 (x : Int)] hI (fun b o h => h) ⟨drep_val (σ := noSt) (.int .i64 (x : Int)), trivial⟩).mono ?_
  rintro e w' ⟨v, Pc, rfl, hb, _, _, hv⟩
  rw [of_val (σ := noSt) hv]
  exact ⟨rfl, hb⟩
def strLen : Value → Nat
  | .string t => t.size
  | _ => 0
set_option maxHeartbeats 4000000 in
set_option maxRecDepth 1000000 in
theorem enc_c (s : List UInt8) (hs : s.length ≤ 1000000) (w : World) (hI : Inv w) : Calls Tryz.prog 32 #[.string (ba s)] w fun e w' => e = .returned (.string (ba (encS s))) ∧ Below w.heap.size w w' := by
  obtain ⟨A, hA⟩ : ∃ A, A = encS s := ⟨_, rfl⟩
  rw [← hA]
  have HA := hid hA
  clear hA
  have hsz : (ba s).size = s.length := ba_len s
  have hl := size_c s.length (by omega)
  go_enter Tryz.func32, Tryz.ntmps32
  go_wp2_with fail
  refine (hl _ (hI.below ((Below.refl _ _).alloc (Nat.le_refl _) _))).mono ?_
  rintro e W0 ⟨rfl, hb0⟩
  have hbk0 : W0.heap[w.heap.size]? = some (.cells #[.pointer none, .slice none 0 0] 53 (0, 0)) := (hb0.block _ (heapLt (heap_alloc_new w _))).trans (heap_alloc_new w _)
  have hB00 : Below w.heap.size w W0 := ((Below.refl _ _).alloc (Nat.le_refl _) _).trans (hb0.mono (Nat.le_of_lt (heapLt (heap_alloc_new w _))))
  have hgr := Tryz.Builder_Grow_fresh w.heap.size w.heap.size ((s.length + 2) / 3 * 4) W0 (Nat.le_refl _) hbk0 hB00.size (by omega)
  clear hl
  go_wp2_with fail
  refine hgr.mono ?_
  rintro e W ⟨rfl, hb, hbel⟩
  have hB0 : Below w.heap.size w W := hB00.trans hbel
  have HN := hid hb
  clear hgr hb hbel hbk0 hb0 hB00
  go_wp2_with fail
  go_loopw [0] (fun x wr => ∃ t : List UInt8, ∃ u : List UInt8, s = u ++ t ∧ (u.length % 3 = 0 ∨ t = []) ∧ x = .string (ba t) ∧ Lib.BuilderAt 53 5 w.heap.size w.heap.size (.pointer (some ⟨w.heap.size, 0, none⟩)) (Lib.byteCells (encS u)) wr ∧ Below w.heap.size w wr) (fun x _ => strLen x)
  case atStart => exact ⟨s, [], rfl, .inl rfl, rfl, HN.out, hB0⟩
  case round =>
    obtain ⟨t, u, hst, hu, rfl, hb, hbel⟩ := hrel
    clear hB0 HN
    have HBB := hid hb
    clear hb
    have HU := hid hu
    clear hu
    have htl : (ba t).size = t.length := ba_len t
    have hdat : (ba t).data.toList = t := by simp [ba]
    by_cases ht : t = []
    · subst ht
      have he : (ba []).toList.isEmpty = true := by rw [ByteArray.toList_eq]; rfl
      have hst2 := HBB.out
      rw [List.append_nil] at hst
      rw [← hst, ← HA.out] at hst2
      have hs2 := Tryz.Builder_String_any w.heap.size w.heap.size A wr (.inr hst2) hbel.size
      clear hst2 HBB HA htl hst HU
      go_wp2_with fail
      refine hs2.mono ?_
      rintro e W2 ⟨rfl, hb2⟩
      clear hs2
      go_wp2_with fail
      go_ret
      exact ⟨rfl, hbel.trans hb2⟩
    · have he : (ba t).toList.isEmpty = false := by rw [ByteArray.toList_eq, hdat]; simpa using ht
      have hpos : 0 < t.length := by cases t with | nil => exact absurd rfl ht | cons _ _ => simp
      obtain ⟨n, hn⟩ : ∃ n : Nat, n = min 3 t.length := ⟨_, rfl⟩
      have hn3 : n ≤ 3 := by omega
      have hnt : n ≤ t.length := by omega
      have hmin : min (3 : Int) (t.length : Int) = (n : Int) := by omega
      have hx1 : (ba t).extract 0 n = ba (t.take n) := by rw [ba_extract]; simp
      have hx2 : (ba t).extract n t.length = ba (t.drop n) := by rw [ba_extract, List.take_of_length_le (by rw [List.length_drop]; omega)]
      have htk : (t.take n).length = n := by rw [List.length_take]; omega
      have hne : t.take n ≠ [] := fun e => by
        rw [e] at htk
        have h5 : n = 0 := htk.symm
        omega
      obtain ⟨p, q, r, z, hpq, hlay⟩ := lay_c (t.take n) hne (by rw [htk]; exact hn3) wr (hI.below hbel)
      clear hne htk
      have HPQ := hid hpq
      have HST := hid hst
      have HNN := hid hn
      clear hpq hst hn
      go_wp2_with fail
      refine hlay.mono ?_
      rintro e W1 ⟨rfl, hb1⟩
      clear hlay
      have hbel1 := hbel.trans (hb1.mono hbel.size)
      obtain ⟨O, hO⟩ : ∃ O : Obj, O = .cells #[.int .u8 (p.toNat : Int), .int .u8 (q.toNat : Int), .int .u8 (r.toNat : Int), .int .u8 (z.toNat : Int)] 75 (0, 0) := ⟨_, rfl⟩
      have hal : (W1.alloc O).heap[W1.heap.size]? = some O := heap_alloc_new W1 O
      have hbA : Below w.heap.size w (W1.alloc O) := hbel1.alloc hbel1.size O
      have hwr := write_c w.heap.size w.heap.size (encS u) [p, q, r, z] ⟨W1.heap.size, 0, none⟩ 4 4 (W1.alloc O)
        (bldAt_below (bldAt_below HBB.out hb1) ((Below.refl _ _).alloc (Nat.le_refl _) O)) rfl
        (fun j v hj => by
          rw [hO] at hal ⊢
          match j, hj with
          | 0, hj => rw [← hj]; exact Lib.cell_of_heap hal 0
          | 1, hj => rw [← hj]; exact Lib.cell_of_heap hal 1
          | 2, hj => rw [← hj]; exact Lib.cell_of_heap hal 2
          | 3, hj => rw [← hj]; exact Lib.cell_of_heap hal 3)
        (by
          have h6 : s.length = u.length + t.length := by rw [HST.out, List.length_append]
          rw [enc_len]; omega) hbA.size
      rw [hO] at hwr hbA
      clear hO hal
      have hu3 : u.length % 3 = 0 := HU.out.resolve_right ht
      have henc : encS u ++ [p, q, r, z] = encS (u ++ t.take n) := by rw [enc_app _ _ hu3, HPQ.out]
      rw [henc] at hwr
      have HU3 := hid hu3
      clear henc hu3
      go_wp2_with fail
      refine hwr.mono ?_
      rintro e W2 ⟨rfl, hbw, hbelw⟩
      have HBW := hid hbw
      clear hbw hwr
      have hbel2 := hbA.trans hbelw
      go_wp2_with fail
      go_roundw
      case rel =>
        refine ⟨t.drop n, u ++ t.take n, ?_, ?_, rfl, HBW.out, hbel2⟩
        · rw [HST.out, List.append_assoc, List.take_append_drop]
        · have h7 := HNN.out; have h8 := HU3.out
          by_cases c : 3 ≤ t.length
          · left; rw [List.length_append, List.length_take]; omega
          · right; exact List.drop_eq_nil_of_le (by omega)
      case measure => show (ba (t.drop n)).size < (ba t).size; rw [ba_len, ba_len, List.length_drop]; have h7 := HNN.out; omega
end YtngbpbncipjimabGreatDoor.AM.Bs
end Go.Proofs
