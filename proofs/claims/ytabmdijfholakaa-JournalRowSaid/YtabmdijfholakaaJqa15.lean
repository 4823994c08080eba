/- One text of DiskL, DiskN, DiskO, DiskP, DiskS, Glue1 (mk/pack.py). -/
import Derived.Test.YtabmdijfholakaaJqa14
import Derived.Test.YtabmdijfholakaaJqa5
/- The document's examples of disks. -/
namespace Go.Proofs.Ytabmdijfholakaa
open Go.RowKit
set_option linter.unusedVariables false
namespace DiskW
def exZ : ByteArray := ⟨#[0, 0, 0, 0, 0, 0, 0, 0, 0, 0, 0, 0, 0, 0, 0, 0, 0, 0, 0, 0, 0, 0, 0, 0, 0, 0, 0, 0, 0, 0, 0, 0]⟩
def exAB : ByteArray := ⟨#[97, 98, 0, 0, 0, 0, 0, 0, 0, 0, 0, 0, 0, 0, 0, 0, 0, 0, 0, 0, 0, 0, 0, 0, 0, 0, 0, 0, 0, 0, 0, 0]⟩
def exCD : ByteArray := ⟨#[99, 100, 0, 0, 0, 0, 0, 0, 0, 0, 0, 0, 0, 0, 0, 0, 0, 0, 0, 0, 0, 0, 0, 0, 0, 0, 0, 0, 0, 0, 0, 0]⟩
def ex33 : ByteArray := ⟨#[49, 50, 51, 52, 53, 54, 55, 56, 57, 48, 49, 50, 51, 52, 53, 54, 55, 56, 57, 48, 49, 50, 51, 52, 53, 54, 55, 56, 57, 48, 49, 50, 51]⟩
def exD : DM.Dk := ⟨[exZ, exZ, exZ], []⟩
def exA : DM.Dk := ⟨[exZ, exZ, exZ], [(1, exAB)]⟩
def exB : DM.Dk := ⟨[exZ, exZ, exZ], [(1, exAB), (1, exCD)]⟩
theorem e1 : (⟨List.replicate 3 DM.zeroS, []⟩ : DM.Dk) = exD := by decide +kernel
theorem e2 : DM.putD exD 1 ⟨#[97, 98]⟩ = exA ∧ DM.putE exD 1 ⟨#[97, 98]⟩ = 0 := by decide +kernel
theorem e3 : DM.putD exA 1 ⟨#[99, 100]⟩ = exB ∧ DM.putE exA 1 ⟨#[99, 100]⟩ = 0 := by decide +kernel
theorem e4 : DM.putD exD 3 ⟨#[]⟩ = exD ∧ DM.putE exD 3 ⟨#[]⟩ = 1 := by decide +kernel
theorem e5 : DM.putD exD 0 ex33 = exD ∧ DM.putE exD 0 ex33 = 2 := by decide +kernel
end DiskW
end Go.Proofs.Ytabmdijfholakaa

/- The contracts of the laws' questions: Small, Same. -/
namespace Go.Proofs.Ytabmdijfholakaa
open Go.RowKit
set_option linter.unusedVariables false
namespace DM
def smallD (d : Dk) : Prop := (d.secs.length ≤ 600 ∧ ∀ s ∈ d.secs, s.size ≤ 100) ∧ (d.cache.length ≤ 200 ∧ ∀ p ∈ d.cache, p.2.size ≤ 100)
instance (d : Dk) : Decidable (smallD d) := by unfold smallD; infer_instance
end DM
namespace DiskW
set_option maxHeartbeats 3200000 in
set_option maxRecDepth 100000 in
theorem small_any (a1 a2 : Option Addr) (n k1 m k2 : Nat) (d : DM.Dk) (w : World) (h : DM.DV w (.slice a1 n k1) (.slice a2 m k2) d) (b1 : n ≤ 9223372036854775807) (b2 : m ≤ 9223372036854775807) :
    Calls Try.prog 7 #[.agg #[.slice a1 n k1, .slice a2 m k2]] w fun e w' => e = .returned (.bool (decide (DM.smallD d))) ∧ Below w.heap.size w w' := by
  obtain ⟨hn, hm⟩ := DM.DV.len h
  have HN := Lib.hid hn; clear hn
  have HM := Lib.hid hm; clear hm
  have H := Lib.hid h; clear h
  obtain ⟨z, hz⟩ : ∃ z, decide (DM.smallD d) = z := ⟨_, rfl⟩
  rw [hz]
  have HZ := Lib.hid hz; clear hz
  go_enter Try.func7, Try.ntmps7
  go_wp2_with fail
  have HA := Lib.hid (DM.Var.made w (.slice a1 n k1) (.slice a2 m k2) 25)
  have HB : Hid (Below w.heap.size w (w.alloc (.cells #[.slice a1 n k1, .slice a2 m k2] 25))) := Lib.hid ((Below.refl _ _).alloc (Nat.le_refl _) _)
  generalize hW0 : w.alloc (.cells #[.slice a1 n k1, .slice a2 m k2] 25) = W0 at *
  clear hW0
  have c0 := HA.out.c0
  have c1 := HA.out.c1
  go_loop [3] (fun i => ∃ k : Nat, k ≤ n ∧ i = .int .i64 k ∧ (0 < k → n ≤ 600) ∧ ∀ j (h : j < d.secs.length), j < k → d.secs[j].size ≤ 100) (fun i => n - (intOf i).toNat)
  case atStart => exact ⟨0, Nat.zero_le _, rfl, fun h => by omega, fun j _ h => by omega⟩
  case round =>
    obtain ⟨k, hk, rfl, hlen, hall⟩ := hrel
    have HALL := Lib.hid hall; clear hall
    have HLEN := Lib.hid hlen; clear hlen
    by_cases hkl : k < n
    · have hkd : k < d.secs.length := by rw [HN.out]; exact hkl
      obtain ⟨a, c, hv, hc⟩ := (H.out.below HB.out).1
      obtain ⟨g, off, ha, hg, hcs⟩ := hc (by omega)
      simp only [Value.slice.injEq] at hv
      rw [ha] at hv
      obtain ⟨hv1, hv2, hv3⟩ := hv
      clear hv2 hv3 hc ha
      subst hv1
      have x4 : W0.cell? ⟨g, off + k, none⟩ = some (.string d.secs[k]) := hcs k hkd
      have hki : (k : Int) < (n : Int) := by omega
      clear hcs
      by_cases h1 : (100 : Int) < (d.secs[k].size : Int)
      · have hno : z = false := by rw [← HZ.out]; exact decide_eq_false fun x => by have := x.1.2 _ (List.getElem_mem hkd); omega
        subst hno
        generalize d.secs[k] = X at x4 h1
        go_wp2_with fail
        go_ret
        exact ⟨rfl, HB.out⟩
      · by_cases h2 : (600 : Int) < (n : Int)
        · have hno : z = false := by rw [← HZ.out]; exact decide_eq_false fun x => by have := x.1.1; rw [HN.out] at this; omega
          subst hno
          generalize d.secs[k] = X at x4 h1
          go_wp2_with fail
          go_ret
          exact ⟨rfl, HB.out⟩
        · have H1 : Hid (d.secs[k].size ≤ 100) := Lib.hid (by omega)
          generalize d.secs[k] = X at x4 h1
          go_wp2_with fail
          go_round
          case rel => exact ⟨k + 1, by omega, by go_num, fun _ => by omega, fun j hj hjk => by
            by_cases e : j = k
            · subst e; exact H1.out
            · exact HALL.out j hj (by omega)⟩
          case measure => simp [intOf]; omega
    · have hkk : k = n := by omega
      subst hkk
      have HS : Hid (d.secs.length ≤ 600 ∧ ∀ s ∈ d.secs, s.size ≤ 100) := Lib.hid ⟨by have := HN.out; have := HLEN.out; omega, fun s hs => by
        obtain ⟨j, hj, rfl⟩ := List.getElem_of_mem hs
        exact HALL.out j hj (by rw [← HN.out]; exact hj)⟩
      clear HALL HLEN
      go_wp2_with fail
      go_loop [4] (fun i => ∃ q : Nat, q ≤ m ∧ i = .int .i64 q ∧ (0 < q → m ≤ 200) ∧ ∀ j (h : j < d.cache.length), j < q → d.cache[j].2.size ≤ 100) (fun i => m - (intOf i).toNat)
      case atStart => exact ⟨0, Nat.zero_le _, rfl, fun h => by omega, fun j _ h => by omega⟩
      case round =>
        obtain ⟨q, hq, rfl, hlen, hall⟩ := hrel
        have HALL := Lib.hid hall; clear hall
        have HLEN := Lib.hid hlen; clear hlen
        by_cases hql : q < m
        · have hqd : q < d.cache.length := by rw [HM.out]; exact hql
          obtain ⟨a, c, hv, hc⟩ := (H.out.below HB.out).2
          obtain ⟨g, off, ha, hg, hcs⟩ := hc (by omega)
          simp only [Value.slice.injEq] at hv
          rw [ha] at hv
          obtain ⟨hv1, hv2, hv3⟩ := hv
          clear hv2 hv3 hc ha
          subst hv1
          have x4 : W0.cell? ⟨g, off + q * 2 + 1, none⟩ = some (.string d.cache[q].2) := (hcs q hqd).2
          have hqi : (q : Int) < (m : Int) := by omega
          clear hcs
          by_cases h1 : (100 : Int) < (d.cache[q].2.size : Int)
          · have hno : z = false := by rw [← HZ.out]; exact decide_eq_false fun x => by have := x.2.2 _ (List.getElem_mem hqd); omega
            subst hno
            generalize d.cache[q].2 = X at x4 h1
            go_wp2_with fail
            go_ret
            exact ⟨rfl, HB.out⟩
          · by_cases h2 : (200 : Int) < (m : Int)
            · have hno : z = false := by rw [← HZ.out]; exact decide_eq_false fun x => by have := x.2.1; rw [HM.out] at this; omega
              subst hno
              generalize d.cache[q].2 = X at x4 h1
              go_wp2_with fail
              go_ret
              exact ⟨rfl, HB.out⟩
            · have H1 : Hid (d.cache[q].2.size ≤ 100) := Lib.hid (by omega)
              generalize d.cache[q].2 = X at x4 h1
              go_wp2_with fail
              go_round
              case rel => exact ⟨q + 1, by omega, by go_num, fun _ => by omega, fun j hj hjk => by
                by_cases e : j = q
                · subst e; exact H1.out
                · exact HALL.out j hj (by omega)⟩
              case measure => simp [intOf]; omega
        · have hqq : q = m := by omega
          subst hqq
          have hyes : z = true := by
            rw [← HZ.out]
            refine decide_eq_true ⟨HS.out, by have := HM.out; have := HLEN.out; omega, fun p hp => ?_⟩
            obtain ⟨j, hj, rfl⟩ := List.getElem_of_mem hp
            exact HALL.out j hj (by rw [← HM.out]; exact hj)
          subst hyes
          go_wp2_with fail
          go_ret
          exact ⟨rfl, HB.out⟩
end DiskW
end Go.Proofs.Ytabmdijfholakaa

/- The contract of the document's question whether two disks are the same. -/
namespace Go.Proofs.Ytabmdijfholakaa
open Go.RowKit
set_option linter.unusedVariables false
namespace DiskW
end DiskW
end Go.Proofs.Ytabmdijfholakaa

/- The walk of the law on what was written last. -/
namespace Go.Proofs.Ytabmdijfholakaa
open Go.RowKit
set_option linter.unusedVariables false
namespace DM
/-! what follows -/
theorem put_zero {d : Dk} {i : Int} {s : ByteArray} (h : putE d i s = 0) : mayD d ∧ inD d.secs.length i ∧ s.size ≤ 32 ∧ putD d i s = addW d i s := by
  unfold putE at h
  by_cases hm : mayD d
  · rw [if_pos hm] at h
    have hd : putD d i s = addW d i s := by unfold putD writeD; rw [if_pos hm, if_pos h]
    unfold writeE at h
    by_cases h1 : inD d.secs.length i
    · rw [if_pos h1] at h
      by_cases h2 : 32 < s.size
      · rw [if_pos h2] at h; omega
      · exact ⟨hm, h1, by omega, hd⟩
    · rw [if_neg h1] at h; omega
  · rw [if_neg hm] at h; omega
theorem may_add {d : Dk} {i : Int} {s : ByteArray} (hm : mayD d) (hi : inD d.secs.length i) (hs : s.size ≤ 32) : mayD (addW d i s) := by
  refine ⟨hm.1, hm.2.1, hm.2.2.1, fun p hp => ?_⟩
  rcases List.mem_append.1 hp with h | h
  · exact hm.2.2.2 p h
  · obtain rfl : p = (i, fillB s) := by simpa using h
    exact ⟨hi.1, hi.2, fillB_size s hs⟩
theorem settleK_congr {f g : Nat → Bool} (secs : List ByteArray) (cache : List Wr) (k : Nat) (h : ∀ j, j < k → f j = g j) : settleK f secs cache k = settleK g secs cache k := by
  induction k with
  | zero => rfl
  | succ k ih =>
    unfold settleK
    rw [ih (fun j hj => h j (by omega)), h k (by omega)]
end DM
namespace DiskW
theorem BV.of_owns {w : World} {base : Nat} {e : TypeId} {v : Value} {l : List Bool} {n : Nat} (hn : n = l.length) (h : w.ownsRow base e 1 v n (l.map Value.bool)) : BV w v l := by
  subst hn
  have h' := h
  obtain ⟨h0, h1 | ⟨g, cap, cur, h1, h2, h3, h4⟩⟩ := h
  · exact ⟨none, 0, by rw [h1.1, h1.2], fun hp => absurd h1.2 (by omega)⟩
  · refine ⟨_, cap, h1, fun hp => ⟨g, 0, rfl, (Array.getElem?_eq_some_iff.1 h3).1, fun j hj => ?_⟩⟩
    subst h1
    rw [show (⟨g, 0 + j, none⟩ : Addr) = ⟨g, j, none⟩ from by simp, h'.cellAt j (by omega)]
    simp [hj]
end DiskW
end Go.Proofs.Ytabmdijfholakaa

/- Acts, and what comes of a disk by them. -/
namespace Go.Proofs.Ytabmdijfholakaa
open Go.RowKit
set_option linter.unusedVariables false
namespace DM
abbrev Ac := Bool × Int × ByteArray
def actOk (n : Nat) (a : Ac) : Prop := a.1 = true ∨ writeE n a.2.1 a.2.2 = 0
instance (n : Nat) (a : Ac) : Decidable (actOk n a) := by unfold actOk; infer_instance
def stepD (d : Dk) (a : Ac) : Dk := if a.1 then settleD (fun _ => true) d else addW d a.2.1 a.2.2
def runK (d : Dk) (l : List Ac) : Dk := l.foldl stepD d
theorem runK_snoc (d : Dk) (l : List Ac) (k : Nat) (h : k < l.length) : runK d (l.take (k + 1)) = stepD (runK d (l.take k)) l[k] := by
  unfold runK; rw [← List.take_append_getElem h, List.foldl_append]; rfl
theorem stepD_len (d : Dk) (a : Ac) : (stepD d a).secs.length = d.secs.length := by
  unfold stepD; split
  · exact settleK_length _ _ _ _
  · rfl
theorem runK_len (d : Dk) (l : List Ac) : (runK d l).secs.length = d.secs.length := by
  unfold runK
  induction l generalizing d with
  | nil => rfl
  | cons a t ih => rw [List.foldl_cons, ih, stepD_len]
theorem stepD_cache (d : Dk) (a : Ac) : (stepD d a).cache.length ≤ d.cache.length + 1 := by
  unfold stepD; split
  · exact Nat.zero_le _
  · show (d.cache ++ [_]).length ≤ _; simp
theorem runK_cache (d : Dk) (l : List Ac) : (runK d l).cache.length ≤ d.cache.length + l.length := by
  unfold runK
  induction l generalizing d with
  | nil => simp
  | cons a t ih =>
    rw [List.foldl_cons]
    have h1 := ih (stepD d a)
    have h2 := stepD_cache d a
    simp only [List.length_cons]; omega
theorem writeE_ok {n : Nat} {i : Int} {s : ByteArray} (h : writeE n i s = 0) : inD n i ∧ s.size ≤ 32 := by
  unfold writeE at h
  by_cases h1 : inD n i
  · rw [if_pos h1] at h
    by_cases h2 : 32 < s.size
    · rw [if_pos h2] at h; omega
    · exact ⟨h1, by omega⟩
  · rw [if_neg h1] at h; omega
theorem settle_size {keep : Nat → Bool} {secs : List ByteArray} {cache : List Wr} (hs : ∀ s ∈ secs, s.size = 32) (hc : ∀ p ∈ cache, p.2.size = 32) (k : Nat) (hk : k ≤ cache.length) : ∀ s ∈ settleK keep secs cache k, s.size = 32 := by
  induction k with
  | zero => exact hs
  | succ k ih =>
    unfold settleK
    have hg : cache.getD k (0, ⟨#[]⟩) = cache[k] := by simp [List.getD, show k < cache.length from hk]
    split
    · intro s h
      rw [hg] at h
      rcases List.mem_or_eq_of_mem_set h with h1 | h1
      · exact ih (by omega) s h1
      · rw [h1]; exact hc _ (List.getElem_mem _)
    · exact ih (by omega)
theorem may_settle {d : Dk} (h : mayD d) (keep : Nat → Bool) : mayD (settleD keep d) := by
  have hl : (settleD keep d).secs.length = d.secs.length := settleK_length _ _ _ _
  exact ⟨by rw [hl]; exact h.1, by rw [hl]; exact h.2.1, settle_size h.2.2.1 (fun p hp => (h.2.2.2 p hp).2.2) _ (Nat.le_refl _), fun p hp => by cases hp⟩
theorem may_step {d : Dk} {a : Ac} (h : mayD d) (ha : actOk d.secs.length a) : mayD (stepD d a) := by
  unfold stepD
  by_cases h1 : a.1 = true
  · rw [if_pos h1]; exact may_settle h _
  · rw [if_neg h1]
    obtain ⟨hi, hs⟩ := writeE_ok (ha.resolve_left h1)
    exact may_add h hi hs
theorem may_run {d : Dk} {l : List Ac} (h : mayD d) (ha : ∀ a ∈ l, actOk d.secs.length a) : mayD (runK d l) := by
  unfold runK
  induction l generalizing d with
  | nil => exact h
  | cons a t ih =>
    rw [List.foldl_cons]
    exact ih (may_step h (ha a (List.mem_cons_self ..))) (fun b hb => by rw [stepD_len]; exact ha b (List.mem_cons_of_mem _ hb))
/-- the error of the first act that can't be done; 0: there is none -/
def actsE (n : Nat) : List Ac → Int
  | [] => 0
  | a :: t => if actOk n a then actsE n t else writeE n a.2.1 a.2.2
theorem actsE_good (n : Nat) (l : List Ac) (h : ∀ a ∈ l, actOk n a) : actsE n l = 0 := by
  induction l with
  | nil => rfl
  | cons a t ih => unfold actsE; rw [if_pos (h a (List.mem_cons_self ..))]; exact ih (fun b hb => h b (List.mem_cons_of_mem _ hb))
theorem actsE_bad (n : Nat) (l : List Ac) (k : Nat) (hk : k < l.length) (h : ∀ j (hj : j < l.length), j < k → actOk n l[j]) (hb : ¬ actOk n l[k]) : actsE n l = writeE n l[k].2.1 l[k].2.2 ∧ actsE n l ≠ 0 := by
  induction l generalizing k with
  | nil => simp at hk
  | cons a t ih =>
    cases k with
    | zero =>
      have hb' : ¬ actOk n a := hb
      unfold actsE; rw [if_neg hb']
      exact ⟨rfl, fun e => hb' (Or.inr e)⟩
    | succ k =>
      have h0 : actOk n a := h 0 (by simp) (by omega)
      have := ih k (by simpa using hk) (fun j hj hjk => h (j + 1) (by simpa using hj) (by omega)) hb
      unfold actsE
      rw [if_pos h0]
      exact this
def runE (d : Dk) (l : List Ac) : Int := if mayD d then actsE d.secs.length l else 1
def runD (d : Dk) (l : List Ac) : Dk := if mayD d ∧ actsE d.secs.length l = 0 then runK d l else d
/-- a value is a list of acts, in a world -/
def AV (w : World) (v : Value) (l : List Ac) : Prop := ∃ a cap, v = .slice a l.length cap ∧ l.length ≤ cap ∧ cap ≤ 9223372036854775807 ∧ (0 < l.length → ∃ b off, a = some ⟨b, off, none⟩ ∧ b < w.heap.size ∧ ∀ k (h : k < l.length), w.cell? ⟨b, off + k * 3, none⟩ = some (.bool l[k].1) ∧ w.cell? ⟨b, off + k * 3 + 1, none⟩ = some (.int .i64 l[k].2.1) ∧ w.cell? ⟨b, off + k * 3 + 2, none⟩ = some (.string l[k].2.2))
theorem AV.below {w w' : World} {v : Value} {l : List Ac} (h : AV w v l) (hb : Below w.heap.size w w') : AV w' v l := by
  obtain ⟨a, cap, h1, h6, h7, h2⟩ := h
  refine ⟨a, cap, h1, h6, h7, fun h0 => ?_⟩
  obtain ⟨b, off, h3, h4, h5⟩ := h2 h0
  exact ⟨b, off, h3, Nat.lt_of_lt_of_le h4 hb.size, fun k hk => ⟨(hb.cell (p := ⟨b, off + k * 3, none⟩) h4).trans (h5 k hk).1, (hb.cell (p := ⟨b, off + k * 3 + 1, none⟩) h4).trans (h5 k hk).2.1, (hb.cell (p := ⟨b, off + k * 3 + 2, none⟩) h4).trans (h5 k hk).2.2⟩⟩
end DM
end Go.Proofs.Ytabmdijfholakaa

/- Layer 1's data, as values and as arguments. -/
namespace Go.Proofs.Ytabmdijfholakaa.AM
open Go.RowKit Go.ChangeShapes Go.WideShapes Go.ChangeAt
set_option linter.unusedVariables false
def actD (l : List DM.Ac) : List (List Dat) := l.map fun a => [.v (.bool a.1), .v (.int .i64 a.2.1), .v (.string a.2.2)]
def bolD (l : List Bool) : List (List Dat) := l.map fun b => [.v (.bool b)]
@[push_cast] theorem actD_len (l : List DM.Ac) : (actD l).length = l.length := by simp [actD]
@[push_cast] theorem bolD_len (l : List Bool) : (bolD l).length = l.length := by simp [bolD]
theorem actD_get {l : List DM.Ac} {k : Nat} (h : k < l.length) : (actD l).getD k [] = [.v (.bool l[k].1), .v (.int .i64 l[k].2.1), .v (.string l[k].2.2)] := by simp [actD, List.getD, h]
theorem bolD_get {l : List Bool} {k : Nat} (h : k < l.length) : (bolD l).getD k [] = [.v (.bool l[k])] := by simp [bolD, List.getD, h]
abbrev lstD (sz : Nat) (xs : List (List Dat)) : D := .one (.c (.d (.lst sz xs)))
abbrev outD (d : DM.Dk) (x : Int) : D := .tup [dk1 d, .c (valC (.int .i64 x))]

/-! ### out of data -/
section
variable {Pc : Nat → Nat → Prop} {w : World}
theorem lst_inv {v : Value} {sz : Nat} {xs : List (List Dat)} (hlt : ∀ b o, Pc b o → b < w.heap.size) (hsz : 0 < sz) (h : DatRep Pc w v (.lst sz xs)) :
    ∃ a cap, v = .slice a xs.length cap ∧ xs.length ≤ cap ∧ cap ≤ maxLen ∧ (0 < xs.length → ∃ b off, a = some ⟨b, off, none⟩ ∧ b < w.heap.size ∧
      ∀ k j (hk : k < xs.length) (hj : j < (xs[k]).length), ∃ c, w.cell? ⟨b, off + k * sz + j, none⟩ = some c ∧ DatRep Pc w c ((xs[k])[j])) := by
  cases h with
  | lst a n cap _ _ b off c hn hcap hmax hsz' ha hc hr =>
    subst hn
    exact ⟨a, cap, rfl, hcap, hmax, fun h0 => ⟨b, off, ha h0, hlt _ _ (hc 0 0 h0 hsz).1, fun k j hk hj => ⟨c k j, (hc k j hk (by rw [hsz' _ (List.getElem_mem hk)] at hj; exact hj)).2.1, hr k j hk hj⟩⟩⟩
theorem v_inv {v x : Value} (h : DatRep Pc w v (.v x)) : v = x := by cases h; rfl
theorem sv_of {v : Value} {l : List ByteArray} (hlt : ∀ b o, Pc b o → b < w.heap.size) (h : DatRep Pc w v (.lst 1 (secD l))) : ∃ a cap, v = .slice a l.length cap ∧ l.length ≤ cap ∧ cap ≤ maxLen ∧ RM.SV w v l := by
  obtain ⟨a, cap, e, h1, h2, h3⟩ := lst_inv hlt (by decide) h
  have hl := secD_len l
  rw [hl] at e h1
  refine ⟨a, cap, e, h1, h2, a, cap, e, fun h0 => ?_⟩
  obtain ⟨b, off, ea, hb, hc⟩ := h3 (by omega)
  refine ⟨b, off, ea, hb, fun j hj => ?_⟩
  obtain ⟨c, g1, g2⟩ := hc j 0 (by omega) (by simp [secD])
  simp only [secD, List.getElem_map, List.getElem_cons_zero] at g2
  rw [v_inv g2] at g1
  simpa using g1
theorem wv_of {v : Value} {l : List DM.Wr} (hlt : ∀ b o, Pc b o → b < w.heap.size) (h : DatRep Pc w v (.lst 2 (cacD l))) : ∃ a cap, v = .slice a l.length cap ∧ l.length ≤ cap ∧ cap ≤ maxLen ∧ DM.WV w v l := by
  obtain ⟨a, cap, e, h1, h2, h3⟩ := lst_inv hlt (by decide) h
  have hl := cacD_len l
  rw [hl] at e h1
  refine ⟨a, cap, e, h1, h2, a, cap, e, fun h0 => ?_⟩
  obtain ⟨b, off, ea, hb, hc⟩ := h3 (by omega)
  refine ⟨b, off, ea, hb, fun j hj => ⟨?_, ?_⟩⟩
  · obtain ⟨c, g1, g2⟩ := hc j 0 (by omega) (by simp [cacD])
    simp only [cacD, List.getElem_map, List.getElem_cons_zero] at g2
    rw [v_inv g2] at g1
    simpa using g1
  · obtain ⟨c, g1, g2⟩ := hc j 1 (by omega) (by simp [cacD])
    simp only [cacD, List.getElem_map, List.getElem_cons_succ, List.getElem_cons_zero] at g2
    rw [v_inv g2] at g1
    exact g1
theorem av_of {v : Value} {l : List DM.Ac} (hlt : ∀ b o, Pc b o → b < w.heap.size) (h : DatRep Pc w v (.lst 3 (actD l))) : ∃ a cap, v = .slice a l.length cap ∧ DM.AV w v l := by
  obtain ⟨a, cap, e, h1, h2, h3⟩ := lst_inv hlt (by decide) h
  have hl := actD_len l
  rw [hl] at e h1
  refine ⟨a, cap, e, a, cap, e, h1, h2, fun h0 => ?_⟩
  obtain ⟨b, off, ea, hb, hc⟩ := h3 (by omega)
  refine ⟨b, off, ea, hb, fun j hj => ⟨?_, ?_, ?_⟩⟩
  · obtain ⟨c, g1, g2⟩ := hc j 0 (by omega) (by simp [actD])
    simp only [actD, List.getElem_map, List.getElem_cons_zero] at g2
    rw [v_inv g2] at g1
    simpa using g1
  · obtain ⟨c, g1, g2⟩ := hc j 1 (by omega) (by simp [actD])
    simp only [actD, List.getElem_map, List.getElem_cons_succ, List.getElem_cons_zero] at g2
    rw [v_inv g2] at g1
    exact g1
  · obtain ⟨c, g1, g2⟩ := hc j 2 (by omega) (by simp [actD])
    simp only [actD, List.getElem_map, List.getElem_cons_succ, List.getElem_cons_zero] at g2
    rw [v_inv g2] at g1
    exact g1
theorem dv_of {v : Value} {d : DM.Dk} (hlt : ∀ b o, Pc b o → b < w.heap.size) (h : DRep (noEnv Pc) noSt w v (.one (dk1 d))) :
    ∃ a1 k1 a2 k2, v = .agg #[.slice a1 d.secs.length k1, .slice a2 d.cache.length k2] ∧ DM.DV w (.slice a1 d.secs.length k1) (.slice a2 d.cache.length k2) d ∧ d.secs.length ≤ maxLen ∧ d.cache.length ≤ maxLen := by
  obtain ⟨vs, rfl, hv⟩ := h
  obtain ⟨l⟩ := vs
  match l, hv with
  | [x, y], ⟨h1, h2, _⟩ =>
    obtain ⟨a1, k1, rfl, c1, c2, s1⟩ := sv_of hlt h1
    obtain ⟨a2, k2, rfl, c3, c4, s2⟩ := wv_of hlt h2
    exact ⟨a1, k1, a2, k2, rfl, ⟨s1, s2⟩, by omega, by omega⟩
theorem args1 {r : Value → D → Prop} {vs : Array Value} {d : D} (h : All2 r vs.toList [d]) : ∃ v, vs = #[v] ∧ r v d := by
  obtain ⟨l⟩ := vs
  match l, h with
  | [x], ⟨h1, _⟩ => exact ⟨x, rfl, h1⟩
theorem args2 {r : Value → D → Prop} {vs : Array Value} {d d' : D} (h : All2 r vs.toList [d, d']) : ∃ v v', vs = #[v, v'] ∧ r v d ∧ r v' d' := by
  obtain ⟨l⟩ := vs
  match l, h with
  | [x, y], ⟨h1, h2, _⟩ => exact ⟨x, y, rfl, h1, h2⟩
theorem args3 {r : Value → D → Prop} {vs : Array Value} {d d' d'' : D} (h : All2 r vs.toList [d, d', d'']) : ∃ v v' v'', vs = #[v, v', v''] ∧ r v d ∧ r v' d' ∧ r v'' d'' := by
  obtain ⟨l⟩ := vs
  match l, h with
  | [x, y, z], ⟨h1, h2, h3, _⟩ => exact ⟨x, y, z, rfl, h1, h2, h3⟩

/-! ### into data -/
theorem dat_sv {a : Option Addr} {n k : Nat} {l : List ByteArray} (h : RM.SV w (.slice a n k) l) (h1 : n ≤ k) (h2 : k ≤ maxLen) (hP : ∀ g, (Value.slice a n k).ownBlock = some g → ∀ o, g < w.heap.size → Pc g o) : DatRep Pc w (.slice a n k) (.lst 1 (secD l)) := by
  obtain ⟨a', c', e, h⟩ := h
  simp only [Value.slice.injEq] at e
  obtain ⟨rfl, rfl, rfl⟩ := e
  have hl := secD_len l
  have hx : ∀ x ∈ secD l, x.length = 1 := fun x hx => by
    unfold secD at hx
    obtain ⟨s, _, rfl⟩ := List.mem_map.1 hx
    rfl
  by_cases h0 : 0 < l.length
  · obtain ⟨b, off, rfl, hb, hc⟩ := h h0
    refine .lst _ _ _ 1 _ b off (fun k _ => .string (l.getD k ⟨#[]⟩)) hl.symm h1 h2 hx (fun _ => rfl) (fun k j hk hj => ?_) (fun k j hk hj => ?_)
    · have hk' : k < l.length := by omega
      obtain rfl : j = 0 := by omega
      refine ⟨hP b rfl _ hb, ?_, rfl⟩
      simp only [Nat.mul_one, Nat.add_zero, List.getD, List.getElem?_eq_getElem hk', Option.getD_some]
      exact hc k hk'
    · have hk' : k < l.length := by omega
      have hj' := hx _ (List.getElem_mem hk)
      obtain rfl : j = 0 := by omega
      simp only [secD, List.getElem_map, List.getElem_cons_zero, List.getD, List.getElem?_eq_getElem hk', Option.getD_some]
      exact .v _
  · exact .lst _ _ _ 1 _ 0 0 (fun _ _ => undef) hl.symm h1 h2 hx (fun h => by omega) (fun k j hk => by omega) (fun k j hk => by omega)
theorem dat_wv {a : Option Addr} {n k : Nat} {l : List DM.Wr} (h : DM.WV w (.slice a n k) l) (h1 : n ≤ k) (h2 : k ≤ maxLen) (hP : ∀ g, (Value.slice a n k).ownBlock = some g → ∀ o, g < w.heap.size → Pc g o) : DatRep Pc w (.slice a n k) (.lst 2 (cacD l)) := by
  obtain ⟨a', c', e, h⟩ := h
  simp only [Value.slice.injEq] at e
  obtain ⟨rfl, rfl, rfl⟩ := e
  have hl := cacD_len l
  have hx : ∀ x ∈ cacD l, x.length = 2 := fun x hx => by
    unfold cacD at hx
    obtain ⟨s, _, rfl⟩ := List.mem_map.1 hx
    rfl
  by_cases h0 : 0 < l.length
  · obtain ⟨b, off, rfl, hb, hc⟩ := h h0
    refine .lst _ _ _ 2 _ b off (fun k j => if j = 0 then .int .i64 (l.getD k (0, ⟨#[]⟩)).1 else .string (l.getD k (0, ⟨#[]⟩)).2) hl.symm h1 h2 hx (fun _ => rfl) (fun k j hk hj => ?_) (fun k j hk hj => ?_)
    · have hk' : k < l.length := by omega
      obtain rfl | rfl : j = 0 ∨ j = 1 := by omega
      · refine ⟨hP b rfl _ hb, ?_, rfl⟩
        simp only [if_true, Nat.add_zero, List.getD, List.getElem?_eq_getElem hk', Option.getD_some]
        exact (hc k hk').1
      · refine ⟨hP b rfl _ hb, ?_, rfl⟩
        simp only [Nat.one_ne_zero, if_false, List.getD, List.getElem?_eq_getElem hk', Option.getD_some]
        exact (hc k hk').2
    · have hk' : k < l.length := by omega
      have hj' := hx _ (List.getElem_mem hk)
      obtain rfl | rfl : j = 0 ∨ j = 1 := by omega
      · simp only [cacD, List.getElem_map, List.getElem_cons_zero, if_true, List.getD, List.getElem?_eq_getElem hk', Option.getD_some]
        exact .v _
      · simp only [cacD, List.getElem_map, List.getElem_cons_succ, List.getElem_cons_zero, Nat.one_ne_zero, if_false, List.getD, List.getElem?_eq_getElem hk', Option.getD_some]
        exact .v _
  · exact .lst _ _ _ 2 _ 0 0 (fun _ _ => undef) hl.symm h1 h2 hx (fun h => by omega) (fun k j hk => by omega) (fun k j hk => by omega)
end

/-! ### arguments that come in -/
section
variable {H : Type} {enc : TypeId × Value → H} {W : World} {base : Nat} {v : Value} {d : DataW H} {p : List MemPlace}
end
end Go.Proofs.Ytabmdijfholakaa.AM
