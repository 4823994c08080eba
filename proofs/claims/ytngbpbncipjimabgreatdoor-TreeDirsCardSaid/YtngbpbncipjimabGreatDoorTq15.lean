/- Layer 14: Hash. -/
import Derived.Test.YtngbpbncipjimabGreatDoorTq14
import Derived.Deep.RegionLaw
namespace Go.Proofs
open Go.RowKit Go.Shelf Go.Lib
attribute [local go_sem] Oper.semAt_some
set_option linter.unusedVariables false
set_option linter.unusedSimpArgs false
namespace YtngbpbncipjimabGreatDoor.AM
theorem Dg.ofS_length (s : List UInt8) : (Dg.ofS s).length = 32 := by
  unfold Dg.ofS; rw [Dg.textS_length, Dg.thrS_length (Dg.thrS_length rfl _)]
def lineS (d : List UInt8) (f : FD) : List UInt8 := ((Dg.hexS (Dg.ofS f.2) ++ [32, 32]) ++ inDirS f.1 d) ++ [10]
def linesS (own : List FD) (d : List UInt8) : List UInt8 := own.flatMap (lineS d)
def hashS (l : List FD) (d : List UInt8) : List UInt8 × Bool := if d ∈ dirsS l then (h1L ++ Bs.encS (Dg.ofS (linesS (ownedS l d) d)), true) else ([], false)
theorem lineS_len (d : List UInt8) (f : FD) : (lineS d f).length ≤ f.1.length + 67 := by
  unfold lineS
  have h1 := inDir_len f.1 d
  rw [List.length_append, List.length_append, List.length_append, Dg.hexS_length, Dg.ofS_length]
  simp only [List.length_cons, List.length_nil]
  omega
theorem linesS_len (d : List UInt8) : ∀ (own : List FD), (∀ f ∈ own, f.1.length ≤ 60) → (linesS own d).length ≤ 127 * own.length
  | [], _ => Nat.le_refl _
  | f :: t, h => by
    have h1 := lineS_len d f
    have h2 := h f (List.mem_cons_self ..)
    have h3 := linesS_len d t (fun x hx => h x (List.mem_cons_of_mem _ hx))
    unfold linesS at h3 ⊢
    rw [List.flatMap_cons, List.length_append, List.length_cons]
    omega
theorem linesS_snoc {own : List FD} (d : List UInt8) {k : Nat} (h : k < own.length) : linesS (own.take (k + 1)) d = linesS (own.take k) d ++ lineS d own[k] := by
  unfold linesS
  rw [List.take_succ_eq_append_getElem h, List.flatMap_append]
  simp
/-- as 'fs_cells', with what is known of the block -/
theorem fs_cellsQ {Pc : Nat → Nat → Prop} {Q : Nat → Prop} {w : World} {v : Value} {l : List FD} (hP : ∀ b o, Pc b o → Q b) (h : DatRep Pc w v (.lst 2 (l.map (toDats FT)))) :
    ∃ a cap, v = .slice a l.length cap ∧ l.length ≤ cap ∧ cap ≤ maxLen ∧ (0 < l.length → ∃ b off, a = some ⟨b, off, none⟩ ∧ Q b ∧ ∀ k (hk : k < l.length), w.cell? ⟨b, off + k * 2, none⟩ = some (.string (ba l[k].1)) ∧ w.cell? ⟨b, off + k * 2 + 1, none⟩ = some (.string (ba l[k].2))) := by
  obtain ⟨a, n, cap, b, off, c, rfl, hn, hcap, hmax, hsz, ha, hc, hr⟩ : ∃ (a : Option Addr) (n cap b off : Nat) (c : Nat → Nat → Value), v = .slice a n cap ∧ n = (l.map (toDats FT)).length ∧ n ≤ cap ∧ cap ≤ maxLen ∧ (∀ x ∈ l.map (toDats FT), x.length = 2) ∧ (0 < (l.map (toDats FT)).length → a = some ⟨b, off, none⟩) ∧
      (∀ k j, k < (l.map (toDats FT)).length → j < 2 → Pc b (off + k * 2 + j) ∧ w.cell? ⟨b, off + k * 2 + j, none⟩ = some (c k j) ∧ (c k j).oneCell' = true) ∧
      (∀ (k j : Nat) (hk : k < (l.map (toDats FT)).length) (hj : j < ((l.map (toDats FT))[k]).length), DatRep Pc w (c k j) (((l.map (toDats FT))[k])[j])) := by
    generalize hL : l.map (toDats FT) = L at h
    cases h with
    | lst a n cap sz xs b off c hn hcap hmax hsz ha hc hr => exact ⟨a, n, cap, b, off, c, rfl, hn, hcap, hmax, hsz, ha, hc, hr⟩
  rw [List.length_map] at hn ha hc
  subst hn
  refine ⟨a, cap, rfl, hcap, hmax, fun hl => ⟨b, off, ha hl, hP _ _ (hc 0 0 hl (by omega)).1, fun k hk => ?_⟩⟩
  have key : ∀ j (hj : j < 2), w.cell? ⟨b, off + k * 2 + j, none⟩ = some (c k j) := fun j hj => (hc k j hk hj).2.1
  have rep : ∀ j (hj : j < 2), DatRep Pc w (c k j) ((toDats FT l[k])[j]'(by rw [toDats_len]; exact hj)) := fun j hj => by
    have := hr k j (by rw [List.length_map]; exact hk) (by rw [List.getElem_map, toDats_len]; exact hj)
    simpa only [List.getElem_map] using this
  refine ⟨(key 0 (by omega)).trans ?_, (key 1 (by omega)).trans ?_⟩
  · have h0 := rep 0 (by omega)
    have : c k 0 = .string (ba l[k].1) := by generalize c k 0 = u at h0; cases h0 with | v x => rfl
    rw [this]
  · have h0 := rep 1 (by omega)
    have : c k 1 = .string (ba l[k].2) := by generalize c k 1 = u at h0; cases h0 with | v x => rfl
    rw [this]
theorem contains_one {B : Nat} (v : Value) (ss : List (List UInt8)) (d : List UInt8) (w : World) (hI : Inv w) (hown : w.ownsRow B 9 1 v ss.length (ss.map encStr)) (hl : ss.length ≤ 1000000) :
    Calls Tryz.prog 28 #[v, .string (ba d)] w fun e w' => e = .returned (.bool (decide (d ∈ ss))) ∧ Below w.heap.size w w' := by
  have hh := (slContains_ok 1000001 Inv know_inv).1.2 (ss, d) _ (slContains_spec 1000001 ss d hl (by omega))
  refine (hh (fun b o => b < w.heap.size) w #[v, .string (ba d)] hI (fun b o h => h) ⟨strs_dat hown (fun b o _ h => h), drep_val (σ := noSt) (.string (ba d)), trivial⟩).mono ?_
  rintro e w' ⟨u, Pc', rfl, hb, _, _, hv⟩
  rw [of_val (σ := noSt) hv]
  exact ⟨rfl, hb⟩
theorem owned_one {Pc : Nat → Nat → Prop} (l : List FD) (d : List UInt8) (v : Value) (w : World) (hI : Inv w) (hP : ∀ b o, Pc b o → b < w.heap.size) (h : DatRep Pc w v (.lst 2 (l.map (toDats FT)))) (hl : l.length ≤ 1000000) (hp : ∀ f ∈ l, f.1.length ≤ 100000) :
    Calls Tryz.prog 11 #[v, .string (ba d)] w fun e w' => Below w.heap.size w w' ∧ ∃ u Pc', e = .returned u ∧ (∀ b o, Pc' b o → Pc b o ∨ (w.heap.size ≤ b ∧ b < w'.heap.size)) ∧ DatRep Pc' w' u (.lst 2 ((ownedS l d).map (toDats FT))) := by
  have hh := (tOwned_ok 1000001 Inv know_inv).1.2 (l, d) _ (tOwned_spec 1000001 l d hl hp (by omega))
  refine (hh Pc w #[v, .string (ba d)] hI hP ⟨h, drep_val (σ := noSt) (.string (ba d)), trivial⟩).mono ?_
  rintro e w' ⟨u, Pc', rfl, hb, _, hc, hv⟩
  exact ⟨hb, u, Pc', rfl, hc, hv⟩
theorem ownedS_mem {l : List FD} {d : List UInt8} {f : FD} (h : f ∈ ownedS l d) : f ∈ l := (List.mem_filter.1 h).1
theorem ownedS_len (l : List FD) (d : List UInt8) : (ownedS l d).length ≤ l.length := List.length_filter_le _ _
set_option maxHeartbeats 4000000 in
set_option maxRecDepth 1000000 in
theorem Hash_calls {Pc : Nat → Nat → Prop} (w : World) (v1 : Value) (l : List FD) (d : List UInt8) (hI : Inv w) (hP : ∀ b o, Pc b o → b < w.heap.size) (hl : l.length ≤ 1000000) (hd : d.length ≤ 100000)
    (h1 : DatRep Pc w v1 (.lst 2 (l.map (toDats FT)))) :
    Calls Tryz.prog 16 #[v1, .string (ba d)] w fun e w' => e = .returned (.tuple #[.string (ba (hashS l d).1), .bool (hashS l d).2]) ∧ Below w.heap.size w w' := by
  have hD := Dirs_calls w v1 l hI hP hl h1
  have hdl := dirsS_len l
  have H1 := hid h1
  clear h1
  by_cases hm : d ∈ dirsS l
  · obtain ⟨A, hA⟩ : ∃ A, A = Bs.encS (Dg.ofS (linesS (ownedS l d) d)) := ⟨_, rfl⟩
    have hH : hashS l d = (h1L ++ A, true) := by unfold hashS; rw [if_pos hm, hA]
    rw [hH]
    clear hH
    have HA := hid hA
    clear hA
    obtain ⟨hmay, _⟩ := dirsS_mem.1 hm
    obtain ⟨m1, m2, _⟩ := (may_iff l).1 hmay
    have hpl : ∀ f ∈ l, f.1.length ≤ 60 := fun f hf => (path_parts (okF_parts (m2 f hf)).1).1
    have hpo : ∀ f ∈ ownedS l d, f.1.length ≤ 60 := fun f hf => hpl f (ownedS_mem hf)
    have hol := ownedS_len l d
    have HPO := hid hpo; have HPL := hid hpl
    have HDT := hid (fun f (hf : f ∈ ownedS l d) => (okF_parts (m2 f (ownedS_mem hf))).2)
    clear m2 hpl hpo hmay
    go_enter Tryz.func16, Tryz.ntmps16
    go_wp2_with fail
    refine hD.mono ?_
    rintro e W1 ⟨hb1, v', rfl, hown⟩
    clear hD
    have hC := contains_one v' (dirsS l) d W1 (hI.below hb1) hown (by omega)
    rw [decide_eq_true hm] at hC
    clear hown hm
    go_wp2_with fail
    refine hC.mono ?_
    rintro e W2 ⟨rfl, hb2⟩
    clear hC
    have hbw2 := hb1.trans (hb2.mono hb1.size)
    obtain ⟨OB, hOB⟩ : ∃ OB : Obj, OB = .cells #[.pointer none, .slice none 0 0] 53 (0, 0) := ⟨_, rfl⟩
    have hb3 : Below w.heap.size w (W2.alloc OB) := hbw2.alloc hbw2.size OB
    have hal := heap_alloc_new W2 OB
    have hOw := owned_one l d v1 (W2.alloc OB) (hI.below hb3) (fun b o h => Nat.lt_of_lt_of_le (hP b o h) hb3.size) (H1.out.mono (fun _ _ h => h) (fun b o hp => hb3.cell (p := ⟨b, o, none⟩) (hP b o hp))) hl (fun f hf => by have := HPL.out f hf; omega)
    have hsA : (W2.alloc OB).heap.size = W2.heap.size + 1 := World.size_alloc W2 OB
    rw [hOB] at hb3 hal hOw hsA
    have HAL := hid hal
    clear hOB hal hb1 hb2
    go_wp2_with fail
    refine hOw.mono ?_
    rintro e W4 ⟨hb4, v2, Pc', rfl, hPc, hdat⟩
    clear hOw
    have hs4 := hb4.size
    rw [hsA] at hs4 hPc hb4
    have hPQ : ∀ b o, Pc' b o → b < W4.heap.size ∧ b ≠ W2.heap.size := fun b o h => by
      rcases hPc b o h with h | ⟨h2, h3⟩
      · have h4 := hP b o h
        have h5 := hbw2.size
        exact ⟨by omega, by omega⟩
      · exact ⟨h3, by omega⟩
    obtain ⟨a2, cap2, rfl, hlc2, hcm2, hfs⟩ := fs_cellsQ (Q := fun b => b < W4.heap.size ∧ b ≠ W2.heap.size) hPQ hdat
    have hcm2' : cap2 ≤ 9223372036854775807 := by unfold maxLen at hcm2; omega
    have hbld : BldX W4.heap.size W2.heap.size [] W4 := ⟨.pointer none, .slice none 0 0, .inl rfl, (hb4.block _ (by omega)).trans HAL.out, World.ownsRow_nil _ _ _ _⟩
    have hbw4 : Below w.heap.size w W4 := hb3.trans (hb4.mono (by have := hbw2.size; omega))
    have HFS := hid hfs; have HB := hid hbld; have HBW4 := hid hbw4; have HBW2 := hid hbw2
    clear hdat hPc hPQ hfs hbld HAL hb3 hb4 hbw4 hbw2
    obtain ⟨own, hown⟩ : ∃ own, ownedS l d = own := ⟨_, rfl⟩
    rw [hown] at HFS HPO HA hol hlc2 HDT
    rw [hown]
    clear hown
    obtain ⟨b0, hb0⟩ : ∃ b0, W2.heap.size = b0 := ⟨_, rfl⟩
    have hwb0 : w.heap.size ≤ b0 := by have := HBW2.out.size; omega
    rw [hb0] at HFS HB hs4
    go_wp2_with fail
    go_loopw [18] (fun i wr => ∃ k : Nat, k ≤ own.length ∧ i = .int .i64 (k : Int) ∧ BldX W4.heap.size b0 (linesS (own.take k) d) wr ∧ KeptX W4.heap.size b0 W4 wr) (fun i _ => own.length - (RowKit.intOf i).toNat)
    case atStart => exact ⟨0, Nat.zero_le _, rfl, HB.out, KeptX.refl _ _ _⟩
    case round =>
      obtain ⟨k, hk, rfl, hbld, hkep⟩ := hrel
      have HBL := hid hbld
      have hbw : Below w.heap.size w wr := HBW4.out.trans (hkep.below (by omega) hwb0)
      clear hbld HB
      by_cases hkl : k < own.length
      · obtain ⟨b, off, rfl, ⟨hbw1, hbn⟩, hcs⟩ := HFS.out (by omega)
        obtain ⟨c0, c1⟩ := hcs k hkl
        have d0 := (hkep.cell (p := ⟨b, off + k * 2, none⟩) hbw1 hbn).trans c0
        have d1 := (hkep.cell (p := ⟨b, off + k * 2 + 1, none⟩) hbw1 hbn).trans c1
        clear hcs c0 c1
        have hkk : (k : Int) < (own.length : Int) := by omega
        have HSN := hid (linesS_snoc d hkl)
        have hp60 := HPO.out _ (List.getElem_mem hkl)
        have HD2 : Hid (0 ≤ 1 → (own[k]).2.length ≤ 900000) := hid fun _ => Nat.le_trans (HDT.out _ (List.getElem_mem hkl)) (by decide)
        generalize own[k] = f at *
        have HP60 := hid hp60
        clear hp60
        obtain ⟨O, hO⟩ : ∃ O, Dg.ofS f.2 = O := ⟨_, rfl⟩
        obtain ⟨H, hH⟩ : ∃ H, Dg.hexS O = H := ⟨_, rfl⟩
        obtain ⟨I, hIn⟩ : ∃ I, inDirS f.1 d = I := ⟨_, rfl⟩
        obtain ⟨L, hL⟩ : ∃ L, linesS (own.take k) d = L := ⟨_, rfl⟩
        have hOl : O.length = 32 := by rw [← hO]; exact Dg.ofS_length _
        have hHl : (ba H).size = 64 := by rw [ba_len, ← hH, Dg.hexS_length, hOl]
        have hIl : (ba I).size = I.length := ba_len I
        have hI60 : I.length ≤ 60 := by rw [← hIn]; have := inDir_len f.1 d; have := HP60.out; omega
        have hq1 : ¬ 9223372036854775807 < 66 + I.length := by omega
        have hq2 : ¬ 9223372036854775807 < 66 + I.length + 1 := by omega
        have hLl : L.length ≤ 5080 := by
          rw [← hL]
          have h7 := linesS_len d (own.take k) (fun x hx => HPO.out x (List.mem_of_mem_take hx))
          rw [List.length_take] at h7
          omega
        have hline : ((ba H ++ (⟨#[32, 32]⟩ : ByteArray)) ++ ba I) ++ (⟨#[10]⟩ : ByteArray) = ba (lineS d f) := by
          unfold lineS
          rw [hO, hH, hIn]
          apply ByteArray.ext
          simp [ba, ByteArray.data_append]
        have hll : (lineS d f).length ≤ 127 := by have := lineS_len d f; have := HP60.out; omega
        have hd0 : f.2.length ≤ 900000 := (HD2.out (by omega))
        have CO : Hid (∀ W, Inv W → Calls Tryz.prog 31 #[.string (ba f.2)] W fun e w' => e = .returned (.string (ba O)) ∧ Below W.heap.size W w') := hid fun W hi => by rw [← hO]; exact Dg.of_c f.2 hd0 W hi
        have CX : Hid (∀ W, Calls Tryz.prog 30 #[.string (ba O)] W fun e w' => e = .returned (.string (ba H)) ∧ Below W.heap.size W w') := hid fun W => by rw [← hH]; exact Dg.hex_c O (by omega) W
        have CI : Hid (∀ W, Inv W → Calls Tryz.prog 23 #[.string (ba f.1), .string (ba d)] W fun e w' => e = .returned (.string (ba I)) ∧ Below W.heap.size W w') := hid fun W hi => by rw [← hIn]; exact inDir_one f.1 d W hi (by have := HP60.out; omega) hd
        have CW : Hid (∀ W, BldX W4.heap.size b0 L W → W4.heap.size ≤ W.heap.size → Calls Tryz.prog 29 #[.pointer (some ⟨b0, 0, none⟩), .string (((ba H ++ (⟨#[32, 32]⟩ : ByteArray)) ++ ba I) ++ (⟨#[10]⟩ : ByteArray))] W fun e w' => (∃ v, e = .returned v) ∧ BldX W4.heap.size b0 (L ++ lineS d f) w' ∧ KeptX W4.heap.size b0 W w') := hid fun W hb hs => by
          rw [hline]
          exact wstr_x _ b0 L (lineS d f) W hb (by omega) (by omega) hs
        obtain ⟨OF, hOF⟩ : ∃ OF : Obj, OF = .cells #[.string (ba f.1), .string (ba f.2)] 31 (0, 0) := ⟨_, rfl⟩
        have hal := heap_alloc_new wr OF
        have hbA : Below wr.heap.size wr (wr.alloc OF) := (Below.refl _ _).alloc (Nat.le_refl _) OF
        rw [hOF] at hal hbA
        clear hOF
        have hbl := HBL.out
        rw [hL] at hbl
        have hsn := HSN.out
        rw [hL] at hsn
        have HSN2 := hid hsn
        have hblA := hbl.below hbA
        have hkA : KeptX W4.heap.size b0 W4 _ := hkep.trans (keptX_of hbA hkep.size)
        have IA : Inv _ := (hI.below (hbw.trans (hbA.mono hbw.size)))
        clear hsn HSN hbl hline hO hH hIn hL hd0 HBL
        obtain ⟨WA, hWA⟩ : ∃ WA, wr.alloc (.cells #[.string (ba f.1), .string (ba f.2)] 31 (0, 0)) = WA := ⟨_, rfl⟩
        obtain ⟨β, hβ⟩ : ∃ β, wr.heap.size = β := ⟨_, rfl⟩
        rw [hWA] at hal hbA hblA hkA IA
        rw [hβ] at hal
        have x0 := Lib.cell_of_heap hal 0
        have x1 := Lib.cell_of_heap hal 1
        have hβA := heapLt hal
        have HBA := hid hblA; have HKA := hid hkA; have HIA := hid IA; have HbA := hid hbA
        clear hal hbA hblA hkA IA
        go_wp2_with fail
        clear hWA hβ
        go_region_law (first
          | (go_simp; go_at_call 31; refine (CO.out _ HIA.out.drew).mono ?_; rintro e V1 ⟨rfl, b1⟩; have B1 : Below WA.heap.size WA V1 := (Below.refl _ _).drew.trans b1; have y0 := (B1.cell (p := ⟨β, 0, none⟩) hβA).trans x0; have I1 : Inv V1 := HIA.out.below B1; dsimp only)
          | (go_simp; go_at_call 30; refine (CX.out _).mono ?_; rintro e V2 ⟨rfl, b2⟩; have B2 : Below WA.heap.size WA V2 := B1.trans (b2.mono B1.size); have z0 := (B2.cell (p := ⟨β, 0, none⟩) hβA).trans x0; have I2 : Inv V2 := HIA.out.below B2; dsimp only)
          | (go_simp; go_at_call 23; refine (CI.out _ I2).mono ?_; rintro e V3 ⟨rfl, b3⟩; have B3 : Below WA.heap.size WA V3 := B2.trans (b3.mono B2.size); dsimp only)
          | (go_simp; go_at_call 29; refine (CW.out _ (HBA.out.below B3) (Nat.le_trans HKA.out.size B3.size)).mono ?_; rintro e V4 ⟨⟨v4, rfl⟩, hb4, hk4⟩; have HB4 := hid hb4; have HK4 := hid (HKA.out.trans ((keptX_of B3 HKA.out.size).trans hk4)); clear hb4 hk4; dsimp only))
        all_goals
          go_wp2_with fail
          exact ⟨⟨k + 1, by omega, by go_num, by rw [HSN2.out]; exact HB4.out, HK4.out⟩, by simp [RowKit.intOf]; omega⟩
      · obtain rfl : k = own.length := by omega
        have hbl := HBL.out
        rw [List.take_length] at hbl
        have hll := linesS_len d own HPO.out
        have hA := HA.out
        obtain ⟨L, hL⟩ : ∃ L, linesS own d = L := ⟨_, rfl⟩
        rw [hL] at hbl hll hA
        obtain ⟨O, hO⟩ : ∃ O, Dg.ofS L = O := ⟨_, rfl⟩
        rw [hO] at hA
        have hOl : O.length = 32 := by rw [← hO]; exact Dg.ofS_length _
        have hAl : A.length = 44 := by rw [hA, Bs.enc_len, hOl]
        have hS := Tryz.Builder_String_any b0 b0 L wr (hbl.is (by omega)) (by have := hkep.size; omega)
        have hAz : (ba A).size = 44 := by rw [ba_len, hAl]
        have hcat : (⟨#[104, 49, 58]⟩ : ByteArray) ++ ba A = ba (h1L ++ A) := by
          apply ByteArray.ext
          simp [ba, h1L, ByteArray.data_append]
        have CO : Hid (∀ W, Inv W → Calls Tryz.prog 31 #[.string (ba L)] W fun e w' => e = .returned (.string (ba O)) ∧ Below W.heap.size W w') := hid fun W hi => by rw [← hO]; exact Dg.of_c L (by omega) W hi
        have CE : Hid (∀ W, Inv W → Calls Tryz.prog 32 #[.string (ba O)] W fun e w' => e = .returned (.string (ba A)) ∧ Below W.heap.size W w') := hid fun W hi => by rw [hA]; exact Bs.enc_c O (by omega) W hi
        have HC := hid hcat
        clear hbl HBL hL hO hA HA hcat hll
        go_wp2_with fail
        refine hS.mono ?_
        rintro e V1 ⟨rfl, b1⟩
        clear hS
        have e1 := hbw.trans (b1.mono hwb0)
        go_wp2_with fail
        refine (CO.out V1 (hI.below e1)).mono ?_
        rintro e V2 ⟨rfl, b2⟩
        have e2 := e1.trans (b2.mono e1.size)
        go_wp2_with fail
        refine (CE.out V2 (hI.below e2)).mono ?_
        rintro e V3 ⟨rfl, b3⟩
        have e3 := e2.trans (b3.mono e2.size)
        go_wp2_with fail
        go_ret2
        rw [← HC.out]
        exact ⟨rfl, e3⟩
  · have hH : hashS l d = ([], false) := by unfold hashS; rw [if_neg hm]
    rw [hH]
    go_enter Tryz.func16, Tryz.ntmps16
    go_wp2_with fail
    refine hD.mono ?_
    rintro e W1 ⟨hb1, v', rfl, hown⟩
    clear hD
    have hC := contains_one v' (dirsS l) d W1 (hI.below hb1) hown (by omega)
    rw [decide_eq_false hm] at hC
    clear hown hm
    go_wp2_with fail
    refine hC.mono ?_
    rintro e W2 ⟨rfl, hb2⟩
    clear hC
    go_wp2_with fail
    go_ret2
    exact ⟨rfl, hb1.trans (hb2.mono hb1.size)⟩
def tHash_t (l : List FD) (d : List UInt8) : Option (List UInt8 × Bool) := if l.length ≤ 1000000 ∧ d.length ≤ 100000 then some (hashS l d) else none
def tHash_fc : FC := { f := 16, args := [.one (.c (.d (.lst FT))), strA], res := .tup [.c (.d .str), .c (.d .bool)], F := fun p => tHash_t p.1 p.2 }
theorem tHash_ok : FCall Inv Tryz.prog tHash_fc := fun G hG => ⟨⟨by kernel_rfl, fun (p : List FD × List UInt8) r h => by
  obtain ⟨l, d⟩ := p
  have h' : tHash_t l d = some r := h
  unfold tHash_t at h'
  split at h'
  case isFalse => cases h'
  rename_i hc
  have hr : hashS l d = r := Option.some.inj h'
  intro Pc w vs hg hlt hv
  obtain ⟨vl⟩ := vs
  match vl, hv with
  | [x, y], ⟨h1, h2, _⟩ =>
    obtain rfl : y = .string (ba d) := of_val h2
    refine (Hash_calls w x l d (hG.im w hg) hlt hc.1 hc.2 h1).mono ?_
    rintro e w' ⟨rfl, hb⟩
    rw [hr]
    exact ⟨_, Pc, rfl, hb, fun b o hp => hp, fun b o hp => Or.inl hp, #[.string (ba r.1), .bool r.2], rfl, drep_val (σ := noSt) (.string (ba r.1)), drep_val (σ := noSt) (.bool r.2), trivial⟩⟩, rfl⟩
theorem tHash_some {l : List FD} {d : List UInt8} (h : l.length ≤ 1000000) (hd : d.length ≤ 100000) : tHash_t l d = some (hashS l d) := by unfold tHash_t; rw [if_pos ⟨h, hd⟩]
end YtngbpbncipjimabGreatDoor.AM
end Go.Proofs
