/- One text of RecRes, DiskA, Region (mk/pack.py). -/
import Derived.Test.YtabmdijfholakaaJqa3
import Derived.Test.YtabmdijfholakaaChecked
import Derived.Laws.ResultCell
import Derived.Test.YtabmdijfholakaaJqa4
import Derived.Test.YtabmdijfholakaaJqa7
import Derived.WalkKit
import Derived.Deep.RegionHeld3
/- A head that a function tells out of a variable of its own. -/
namespace Go.Proofs.Ytabmdijfholakaa
open Go.RowKit
namespace RecW
theorem results_hd {fn : Func} {p u : Tmp} (h : fn.results = #[.cell p 70, .tmp u]) (tmps : Array Value) (w : World) (b : Nat) (k g q z m : Int) (hp : tmps.getD p undef = .pointer (some ⟨b, 0, none⟩))
    (c0 : w.cell? ⟨b, 0, none⟩ = some (.int .i64 k)) (c1 : w.cell? ⟨b, 1, none⟩ = some (.int .i64 g)) (c2 : w.cell? ⟨b, 2, none⟩ = some (.int .i64 q)) (c3 : w.cell? ⟨b, 3, none⟩ = some (.int .i64 z)) (c4 : w.cell? ⟨b, 4, none⟩ = some (.int .i64 m)) :
    (results fn tmps).run Try.prog w = .ok (.tuple #[RM.hd k g q z m, tmps.getD u undef]) w := by
  rw [results_cell_tmp h, hp]
  simp [RM.hd, loadVar, go_sem, Result.andThen, c0, c1, c2, c3, c4]
end RecW
end Go.Proofs.Ytabmdijfholakaa

/- The contracts of disk's questions: has, fill, May. -/
namespace Go.Proofs.Ytabmdijfholakaa
open Go.RowKit
set_option linter.unusedVariables false
namespace DiskW
set_option maxHeartbeats 800000 in
theorem has_any (a : Option Addr) (n cap : Nat) (v2 : Value) (i : Int) (w : World) (x : Bool) (hx : decide (DM.inD n i) = x) (hn : n ≤ 9223372036854775807) :
    Calls Try.prog 58 #[.agg #[.slice a n cap, v2], .int .i64 i] w fun e w' => e = .returned (.bool x) ∧ Below w.heap.size w w' := by
  by_cases h0 : 0 ≤ i
  · obtain ⟨y, hy⟩ : ∃ y, decide (i < (n : Int)) = y := ⟨_, rfl⟩
    have hxy : x = y := by rw [← hx, ← hy]; unfold DM.inD; simp [h0]
    subst hxy
    clear hx
    go_enter Try.func58, Try.ntmps58
    go_wp2_with fail
    go_ret
    exact ⟨rfl, (Below.refl _ _).alloc (Nat.le_refl _) _⟩
  · have hxy : x = false := by rw [← hx]; unfold DM.inD; simp [h0]
    subst hxy
    clear hx
    go_enter Try.func58, Try.ntmps58
    go_wp2_with fail
    go_ret
    exact ⟨rfl, (Below.refl _ _).alloc (Nat.le_refl _) _⟩
set_option maxHeartbeats 400000 in
theorem fill_any (s : ByteArray) (w : World) (h0 : s.size ≤ 32) :
    Calls Try.prog 60 #[.string s] w fun e w' => e = .returned (.string (DM.fillB s)) ∧ Below w.heap.size w w' := by
  go_enter Try.func60, Try.ntmps60
  go_wp2_with fail
  refine (RecW.repeat0_any (32 - s.size) w (by omega) (by omega)).mono ?_
  rintro e w' ⟨rfl, hb⟩
  go_wp2_with fail
  go_ret
  refine ⟨?_, hb⟩
  simp only [DM.fillB, RM.fillL, RM.str]
  congr 2
set_option maxHeartbeats 3200000 in
set_option maxRecDepth 100000 in
theorem may_any (v1 v2 : Value) (d : DM.Dk) (w : World) (h : DM.DV w v1 v2 d) (b1 : d.secs.length ≤ 9223372036854775807) (b2 : d.cache.length ≤ 9223372036854775807) :
    Calls Try.prog 37 #[.agg #[v1, v2]] w fun e w' => e = .returned (.bool (decide (DM.mayD d))) ∧ Below w.heap.size w w' := by
  obtain ⟨⟨a1, c1, rfl, h1⟩, ⟨a2, c2, rfl, h2⟩⟩ := h
  obtain ⟨n, hn⟩ : ∃ n, d.secs.length = n := ⟨_, rfl⟩
  obtain ⟨m, hm⟩ : ∃ m, d.cache.length = m := ⟨_, rfl⟩
  rw [hn] at b1 ⊢
  rw [hm] at b2 ⊢
  have HN := Lib.hid hn; clear hn
  have HM := Lib.hid hm; clear hm
  have H1 := Lib.hid h1; clear h1
  have H2 := Lib.hid h2; clear h2
  by_cases hlo : (n : Int) < 1
  · have hno : decide (DM.mayD d) = false := decide_eq_false fun x => by have := x.1; have := HN.out; omega
    rw [hno]
    clear hno
    go_enter Try.func37, Try.ntmps37
    go_wp2_with fail
    go_ret
    exact ⟨rfl, (Below.refl _ _).alloc (Nat.le_refl _) _⟩
  by_cases hhi : (512 : Int) < (n : Int)
  · have hno : decide (DM.mayD d) = false := decide_eq_false fun x => by have := x.2.1; have := HN.out; omega
    rw [hno]
    clear hno
    go_enter Try.func37, Try.ntmps37
    go_wp2_with fail
    go_ret
    exact ⟨rfl, (Below.refl _ _).alloc (Nat.le_refl _) _⟩
  obtain ⟨z, hz⟩ : ∃ z, decide (DM.mayD d) = z := ⟨_, rfl⟩
  rw [hz]
  have HZ := Lib.hid hz; clear hz
  go_enter Try.func37, Try.ntmps37
  go_wp2_with fail
  go_loop [20] (fun i => ∃ k : Nat, k ≤ n ∧ i = .int .i64 k ∧ ∀ j (h : j < d.secs.length), j < k → d.secs[j].size = 32) (fun i => n - (intOf i).toNat)
  case atStart => exact ⟨0, Nat.zero_le _, rfl, fun j _ h => by omega⟩
  case round =>
    obtain ⟨k, hk, rfl, hall⟩ := hrel
    have HALL := Lib.hid hall; clear hall
    by_cases hkl : k < n
    · have hkd : k < d.secs.length := by rw [HN.out]; exact hkl
      obtain ⟨g, off, rfl, hg, hcs⟩ := H1.out (by omega)
      have x4 : w.cell? ⟨g, off + k, none⟩ = some (.string d.secs[k]) := hcs k hkd
      have hki : (k : Int) < (n : Int) := by omega
      have hsz := Lib.hid (rfl : d.secs[k] = d.secs[k])
      clear hcs
      by_cases h32 : d.secs[k].size = 32
      · have H32 := Lib.hid h32
        have h32i : (d.secs[k].size : Int) = 32 := by omega
        clear h32 hsz
        generalize d.secs[k] = x at x4 h32i
        go_wp2_with fail
        go_round
        case rel => exact ⟨k + 1, by omega, by go_num, fun j hj hjk => by
          by_cases e : j = k
          · subst e; exact H32.out
          · exact HALL.out j hj (by omega)⟩
        case measure => simp [intOf]; omega
      · have hno : z = false := by rw [← HZ.out]; exact decide_eq_false fun x => h32 (x.2.2.1 _ (List.getElem_mem hkd))
        subst hno
        have h32i : ¬ (d.secs[k].size : Int) = 32 := by omega
        go_wp2_with fail
        go_ret
        exact ⟨rfl, (Below.refl _ _).alloc (Nat.le_refl _) _⟩
    · have hkk : k = n := by omega
      subst hkk
      go_wp2_with fail
      have H1n : Hid (∀ x ∈ d.secs, x.size = 32) := Lib.hid (RM.all32 _ (fun j hj => HALL.out j hj (by rw [← HN.out]; exact hj)))
      clear HALL
      go_loopw [31] (fun i wr => ∃ q : Nat, q ≤ m ∧ i = .int .i64 q ∧ (∀ j (h : j < d.cache.length), j < q → DM.wOk d.secs.length d.cache[j]) ∧ DM.Box wr w.heap.size (.slice a1 k c1) (.slice a2 m c2) ∧ Below w.heap.size w wr) (fun i _ => m - (intOf i).toNat)
      case atStart => exact ⟨0, Nat.zero_le _, rfl, fun j _ h => by omega, ⟨by simp, by go_simp, by go_simp⟩, (Below.refl _ _).alloc (Nat.le_refl _) _⟩
      case round =>
        obtain ⟨q, hq, rfl, hall, hbox, hbel⟩ := hrel
        have HALL := Lib.hid hall; clear hall
        have HBOX := Lib.hid hbox
        obtain ⟨hbs, hb0, hb1⟩ := hbox
        by_cases hql : q < m
        · have hqd : q < d.cache.length := by rw [HM.out]; exact hql
          obtain ⟨g, off, rfl, hg, hcs⟩ := H2.out (by omega)
          have x4 : wr.cell? ⟨g, off + q * 2, none⟩ = some (.int .i64 d.cache[q].1) := (hbel.cell (p := ⟨g, off + q * 2, none⟩) hg).trans (hcs q hqd).1
          have x5 : wr.cell? ⟨g, off + q * 2 + 1, none⟩ = some (.string d.cache[q].2) := (hbel.cell (p := ⟨g, off + q * 2 + 1, none⟩) hg).trans (hcs q hqd).2
          have hqi : (q : Int) < (m : Int) := by omega
          clear hcs
          have HP := Lib.hid (rfl : d.cache[q] = d.cache[q])
          generalize hP : d.cache[q] = P at x4 x5
          have HP := Lib.hid hP; clear hP
          obtain ⟨i1, s1⟩ := P
          simp only at x4 x5
          obtain ⟨y, hy⟩ : ∃ y, decide (DM.inD k i1) = y := ⟨_, rfl⟩
          have hcase : (y = false ∧ z = false) ∨ (y = true ∧ ¬ (s1.size : Int) = 32 ∧ z = false) ∨ (y = true ∧ (s1.size : Int) = 32 ∧ DM.wOk d.secs.length d.cache[q]) := by
            by_cases hin : DM.inD k i1
            · have hy1 : y = true := by rw [← hy]; exact decide_eq_true hin
              by_cases h32 : s1.size = 32
              · refine Or.inr (Or.inr ⟨hy1, by omega, ?_⟩)
                rw [HP.out, HN.out]
                exact ⟨hin.1, hin.2, h32⟩
              · refine Or.inr (Or.inl ⟨hy1, by omega, ?_⟩)
                rw [← HZ.out]
                exact decide_eq_false fun x => h32 (by have := (x.2.2.2 _ (List.getElem_mem hqd)).2.2; rw [HP.out] at this; exact this)
            · refine Or.inl ⟨by rw [← hy]; exact decide_eq_false hin, ?_⟩
              rw [← HZ.out]
              exact decide_eq_false fun x => hin (by have := x.2.2.2 _ (List.getElem_mem hqd); rw [HP.out, HN.out] at this; exact ⟨this.1, this.2.1⟩)
          have hhas := fun w => has_any a1 k c1 (.slice (some ⟨g, off, none⟩) m c2) i1 w y hy (by omega)
          have HHAS := Lib.hid hhas
          clear hhas hy
          rcases hcase with ⟨rfl, rfl⟩ | ⟨rfl, h32, rfl⟩ | ⟨rfl, h32, hok⟩
          · go_wp2_with fail
            refine (HHAS.out _).mono ?_; rintro e w2 ⟨rfl, b2⟩
            have B2 : Below w.heap.size w w2 := (hbel.alloc (by omega) _).trans (b2.mono (by simp; omega))
            clear b2
            go_wp2_with fail
            go_ret
            exact ⟨rfl, B2⟩
          · go_wp2_with fail
            refine (HHAS.out _).mono ?_; rintro e w2 ⟨rfl, b2⟩
            have B2 : Below w.heap.size w w2 := (hbel.alloc (by omega) _).trans (b2.mono (by simp; omega))
            have y1 : w2.cell? ⟨wr.heap.size, 1, none⟩ = some (.string s1) := (b2.cell (by simp)).trans (by go_simp)
            clear b2
            go_wp2_with fail
            go_ret
            exact ⟨rfl, B2⟩
          · have HOK := Lib.hid hok; clear hok
            go_wp2_with fail
            refine (HHAS.out _).mono ?_; rintro e w2 ⟨rfl, b2⟩
            have B2 : Below w.heap.size w w2 := (hbel.alloc (by omega) _).trans (b2.mono (by simp; omega))
            have y1 : w2.cell? ⟨wr.heap.size, 1, none⟩ = some (.string s1) := (b2.cell (by simp)).trans (by go_simp)
            have hbx2 : DM.Box w2 w.heap.size (.slice a1 k c1) (.slice (some ⟨g, off, none⟩) m c2) := (HBOX.out.below ((Below.refl _ _).alloc (Nat.le_refl _) _)).below b2
            have HBX2 := Lib.hid hbx2
            clear b2 hbx2 HBOX hb0 hb1 x4 x5
            go_wp2_with fail
            go_roundw
            case rel => exact ⟨q + 1, by omega, by go_num, fun j hj hjq => by
              by_cases e : j = q
              · subst e; exact HOK.out
              · exact HALL.out j hj (by omega), HBX2.out, B2⟩
            case measure => simp [intOf]; omega
        · have hqq : q = m := by omega
          subst hqq
          have hyes : z = true := by
            rw [← HZ.out]
            refine decide_eq_true ⟨by rw [HN.out]; omega, by rw [HN.out]; omega, H1n.out, fun p hp => ?_⟩
            obtain ⟨j, hj, rfl⟩ := List.getElem_of_mem hp
            exact HALL.out j hj (by rw [← HM.out]; exact hj)
          subst hyes
          go_wp2_with fail
          go_ret
          exact ⟨rfl, hbel⟩
end DiskW
end Go.Proofs.Ytabmdijfholakaa

/- Laws of my own on a region that draws its order, over any program: the operation is handed over written out. -/
namespace Go.Proofs.Ytabmdijfholakaa
open Go.RowKit
namespace Lib
section
variable {P : Program} {md : Region.Mode} {l : List Oper} {Q : Exit → Go.Act → World → Prop} {S : World → Prop}
theorem take_l {i : Nat} {oi : Oper} {v : Value} {fuel : Nat} {listed : Array Bool} {a : Act} {w : World} (hi : l[i]? = some oi)
    (hs : Region.noSelect l.toArray = true) (hf : Region.free md l.toArray listed i = true) (hr : (Region.ready md l.toArray listed).contains i = true)
    (hQ : ∀ c a w, Q (.panic c) (a.put oi.dst v) w → Q (.panic c) a w) (hy : YieldsIf P l.toArray S oi v a) (hS : S w)
    (h : wpAnyH P md l.toArray Q S fuel (listed.setIfInBounds i true) (a.put oi.dst v) w) : wpAnyH P md l.toArray Q S (fuel + 1) listed a w :=
  wpAnyH_take (by rw [List.getElem?_toArray]; exact hi) hs hf hr hQ hy hS h
theorem cons_l {fuel : Nat} {listed : Array Bool} {a : Act} {w : World} {i : Nat} {o : Oper} {rs : List Nat} (ho : l[i]? = some o)
    (h : ∀ K' : Act → World → Prop, Shut (∀ a w, S w → (S w → wpAnyH P md l.toArray Q S fuel (listed.setIfInBounds i true) a w) → K' a w) → if Region.wanted o (yielded l.toArray a.tmps) = true then Oper.wp P o a w K' Q else K' (a.put o.dst undef) w)
    (hs : AllReadyH P md l.toArray Q S fuel listed a w rs) : AllReadyH P md l.toArray Q S fuel listed a w (i :: rs) :=
  AllReadyH.cons (by rw [List.getElem?_toArray]; exact ho) h hs
end
end Lib
end Go.Proofs.Ytabmdijfholakaa
