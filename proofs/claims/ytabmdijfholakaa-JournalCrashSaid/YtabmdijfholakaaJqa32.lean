/- One text of RecJ, RecK, JouC, JouG, Pure, RecBackM (mk/pack.py). -/
import Derived.Test.YtabmdijfholakaaJqa14
import Derived.Test.YtabmdijfholakaaJqa31
import Derived.Test.YtabmdijfholakaaJqa30
import Derived.Test.YtabmdijfholakaaJqa25
import Derived.Test.YtabmdijfholakaaJqa26
import Derived.Test.YtabmdijfholakaaJqa11
import Derived.Test.YtabmdijfholakaaJqa6
import Derived.Test.YtabmdijfholakaaJqa24
import Derived.Test.YtabmdijfholakaaJqa3
/- The document's examples of records. -/
namespace Go.Proofs.Ytabmdijfholakaa
open Go.RowKit
namespace RecW
def exA : ByteArray := ⟨#[68, 48, 49, 50, 51, 52, 53, 54, 55, 56, 57, 48, 49, 50, 51, 52, 53, 54, 55, 56, 57, 48, 49, 50, 51, 52, 53, 54, 55, 56, 57, 48]⟩
def exB : ByteArray := ⟨#[68, 120, 0, 0, 0, 0, 0, 0, 0, 0, 0, 0, 0, 0, 0, 0, 0, 0, 0, 0, 0, 0, 0, 0, 0, 0, 0, 0, 0, 0, 0, 0]⟩
/-- the cells of a head that a variable holds -/
def Hat (w : World) (b : Nat) (k g q z m : Int) : Prop := b < w.heap.size ∧ w.cell? ⟨b, 0, none⟩ = some (.int .i64 k) ∧ w.cell? ⟨b, 1, none⟩ = some (.int .i64 g) ∧ w.cell? ⟨b, 2, none⟩ = some (.int .i64 q) ∧ w.cell? ⟨b, 3, none⟩ = some (.int .i64 z) ∧ w.cell? ⟨b, 4, none⟩ = some (.int .i64 m)
theorem Hat.below {w w' : World} {b : Nat} {k g q z m : Int} (h : Hat w b k g q z m) (hb : Below w.heap.size w w') : Hat w' b k g q z m :=
  ⟨Nat.lt_of_lt_of_le h.1 hb.size, (hb.cell h.1).trans h.2.1, (hb.cell h.1).trans h.2.2.1, (hb.cell h.1).trans h.2.2.2.1, (hb.cell h.1).trans h.2.2.2.2.1, (hb.cell h.1).trans h.2.2.2.2.2⟩
theorem Hat.set {w w' : World} {b B : Nat} {k g q z m : Int} (h : Hat w b k g q z m) (hb : Below B w w') (hB : b < B) : Hat w' b k g q z m :=
  ⟨Nat.lt_of_lt_of_le h.1 hb.size, (hb.cell (p := ⟨b, 0, none⟩) hB).trans h.2.1, (hb.cell (p := ⟨b, 1, none⟩) hB).trans h.2.2.1, (hb.cell (p := ⟨b, 2, none⟩) hB).trans h.2.2.2.1, (hb.cell (p := ⟨b, 3, none⟩) hB).trans h.2.2.2.2.1, (hb.cell (p := ⟨b, 4, none⟩) hB).trans h.2.2.2.2.2⟩
end RecW
end Go.Proofs.Ytabmdijfholakaa

/- The contract of the document's question whether two lists are the same. -/
set_option linter.unusedVariables false
namespace Go.Proofs.Ytabmdijfholakaa
open Go.RowKit
namespace RecW
set_option maxHeartbeats 3200000 in
set_option maxRecDepth 100000 in
theorem same_any (w : World) (v1 v2 : Value) (xs ys : List ByteArray) (h1 : RM.SV w v1 xs) (h2 : RM.SV w v2 ys) (b1 : xs.length ≤ 100000) (b2 : ys.length ≤ 100000) :
    Calls Try.prog 14 #[v1, v2] w fun e w' => e = .returned (.bool (decide (xs = ys))) ∧ ∃ m, w' = w.drewN m := by
  obtain ⟨a1, c1, rfl, h1⟩ := h1
  obtain ⟨a2, c2, rfl, h2⟩ := h2
  by_cases hn : xs.length = ys.length
  · have HN := Lib.hid hn
    obtain ⟨n, hnn⟩ : ∃ n, n = ys.length := ⟨_, rfl⟩
    rw [hn, ← hnn]
    have Hn := Lib.hid hnn
    have hb : n ≤ 100000 := by omega
    clear hn hnn b1 b2
    go_enter Try.func14, Try.ntmps14
    go_wp2
    go_loopw [5] (fun i wr => ∃ k : Nat, k ≤ n ∧ i = .int .i64 k ∧ (∀ j (h1 : j < xs.length) (h2 : j < ys.length), j < k → xs[j] = ys[j]) ∧ ∃ m, wr = w.drewN m) (fun i _ => n - (intOf i).toNat)
    case atStart => exact ⟨0, Nat.zero_le _, rfl, fun j _ _ h => by omega, 0, rfl⟩
    case round =>
      obtain ⟨k, hk, rfl, hall, m, rfl⟩ := hrel
      have HALL := Lib.hid hall; clear hall
      by_cases hkl : k < n
      · have hy : k < ys.length := by rw [← Hn.out]; exact hkl
        have hx : k < xs.length := by rw [HN.out]; exact hy
        obtain ⟨g3, o3, rfl, _, hc3⟩ := h1 (by omega)
        obtain ⟨g4, o4, rfl, _, hc4⟩ := h2 (by omega)
        have x3 : w.cell? ⟨g3, o3 + k, none⟩ = some (.string xs[k]) := hc3 k hx
        have x4 : w.cell? ⟨g4, o4 + k, none⟩ = some (.string ys[k]) := hc4 k hy
        clear hc3 hc4 h1 h2
        have hki : (k : Int) < (n : Int) := by omega
        have hk0 : (0 : Int) ≤ (k : Int) := by omega
        go_wp2
        go_quiet (fail)
        go_wp2
        · have hne : (!xs[k].toList == ys[k].toList) = true := by assumption
          have hno : ¬ xs = ys := fun e => by
            have e2 : xs[k] = ys[k] := by simp only [e]
            rw [e2] at hne
            simp at hne
          go_ret
          exact ⟨by rw [decide_eq_false hno]; rfl, _, by rw [World.drewN_drewN]⟩
        · have heq : (!xs[k].toList == ys[k].toList) = false := by assumption
          have he : xs[k] = ys[k] := RM.bytes_ext (by simpa using heq)
          have HE := Lib.hid he
          clear heq he x3 x4
          go_roundw
          case rel => exact ⟨k + 1, by omega, by go_num, fun j hj1 hj2 hjk => by
            by_cases e : j = k
            · subst e; exact HE.out
            · exact HALL.out j hj1 hj2 (by omega), _, rfl⟩
          case measure => simp [intOf]; omega
      · have hkk : k = n := by omega
        subst hkk
        have hok : xs = ys := lists_eq HN.out (fun j hj1 hj2 => HALL.out j hj1 hj2 (by rw [Hn.out]; exact hj2))
        have HOK := Lib.hid hok; clear hok
        clear h1 h2
        go_wp2
        go_ret
        exact ⟨by rw [decide_eq_true HOK.out]; rfl, _, rfl⟩
  · have hno : ¬ xs = ys := fun e => hn (by rw [e])
    rw [decide_eq_false hno]
    clear hno h1 h2
    go_enter Try.func14, Try.ntmps14
    go_wp2
    go_ret
    exact ⟨rfl, 0, rfl⟩
end RecW
end Go.Proofs.Ytabmdijfholakaa

/- Layer 4: contracts of rec, sum and of the disk's Run, as partial functions of data. -/
namespace Go.Proofs
open Go.RowKit
set_option linter.unusedVariables false
set_option linter.unusedSimpArgs false
namespace Ytabmdijfholakaa.AM
theorem pc_done {Pc : Nat → Nat → Prop} {w w' : World} {v : Value} {d : D} {e : Ending} (he : e = .returned v) (hb : Below w.heap.size w w') (hv : DRep (noEnv Pc) noSt w' v d) :
    ∃ v' Pc', e = .returned v' ∧ Below w.heap.size w w' ∧ (∀ b o, Pc b o → Pc' b o) ∧ (∀ b o, Pc' b o → Pc b o ∨ (w.heap.size ≤ b ∧ b < w'.heap.size)) ∧ DRep (noEnv Pc') noSt w' v' d :=
  ⟨v, Pc, he, hb, fun _ _ h => h, fun _ _ h => Or.inl h, hv⟩
abbrev AcT := List (Bool × (Int × List UInt8))
def acOf (l : AcT) : List DM.Ac := l.map fun a => (a.1, a.2.1, ba a.2.2)
abbrev acS : S1 := .c (.d (.lst (.prod .bool (.prod (.int .i64) .str))))
theorem e1_ac (l : AcT) : e1 (r1 acS l) = .c (.d (.lst 3 (actD (acOf l)))) := by
  show D1.c (.d (.lst 3 (l.map (toDats (.prod .bool (.prod (.int .i64) .str)))))) = _
  unfold actD acOf
  rw [List.map_map]
  rfl
def smA (l : AcT) : Prop := l.length ≤ 100000 ∧ ∀ a ∈ l, a.2.2.length ≤ 1000
instance (l : AcT) : Decidable (smA l) := by unfold smA; infer_instance
def smR (d : DkT) : Prop := d.1.length ≤ 100000 ∧ d.2.length ≤ 100000
instance (d : DkT) : Decidable (smR d) := by unfold smR; infer_instance
def jrun_t (d : DkT) (l : AcT) (x : Int) : Option (DkT × Int) := if smR d ∧ smA l then some (ofDk (DM.runD (dkOf d) ((acOf l).take (min (max x 0) (l.length : Int)).toNat)), DM.runE (dkOf d) ((acOf l).take (min (max x 0) (l.length : Int)).toNat)) else none
theorem acOf_len (l : AcT) : (acOf l).length = l.length := by simp [acOf]
theorem mmN (x : Int) (l : Nat) : min (max x 0) (l : Int) = (((min (max x 0) (l : Int)).toNat : Nat) : Int) := by
  have h : (0 : Int) ≤ min (max x 0) (l : Int) := by
    have h1 : (0 : Int) ≤ max x 0 := Int.le_max_right _ _
    have h2 : (0 : Int) ≤ (l : Int) := by omega
    exact Int.le_min.2 ⟨h1, h2⟩
  exact (Int.toNat_of_nonneg h).symm
def jrun_fc : FC := { f := 12, args := [.one dkS, .one acS, .one intS], res := .tup [dkS, intS], F := fun p => jrun_t p.1 p.2.1 p.2.2 }
theorem jrun_ok : FCall Inv Try.prog jrun_fc := fc_mk (by kernel_rfl) rfl fun G hG a r h => by
  obtain ⟨h1, rfl⟩ := ifs h
  obtain ⟨d, l, x⟩ := a
  obtain ⟨⟨b1, b2⟩, b3, b4⟩ := h1
  show PCalls _ _ _ [.one (e1 (r1 dkS d)), .one (e1 (r1 acS l)), _] (.tup [e1 (r1 dkS _), _])
  rw [e1_dk, e1_of, e1_ac]
  refine run_pc (dkOf d) (acOf l) x (min (max x 0) (l.length : Int)).toNat (by simpa [dkOf] using b1) (by simpa [dkOf] using b2) (by rw [acOf_len]; exact b3) (fun a ha => ?_) (by rw [acOf_len]; exact mmN x l.length)
  unfold acOf at ha
  obtain ⟨b, hb, rfl⟩ := List.mem_map.1 ha
  show (ba b.2.2).size ≤ maxLen
  rw [ba_len]; have := b4 b hb; unfold maxLen; omega
def jrrun_fc : FC := { f := 24, args := [.one dkS, .one acS, .one intS], res := .tup [dkS, intS], F := fun p => jrun_t p.1 p.2.1 p.2.2 }
theorem jrrun_ok : FCall Inv Try.prog jrrun_fc := fc_mk (by kernel_rfl) rfl fun G hG a r h => by
  obtain ⟨h1, rfl⟩ := ifs h
  obtain ⟨d, l, x⟩ := a
  obtain ⟨⟨b1, b2⟩, b3, b4⟩ := h1
  show PCalls _ _ _ [.one (e1 (r1 dkS d)), .one (e1 (r1 acS l)), _] (.tup [e1 (r1 dkS _), _])
  rw [e1_dk, e1_of, e1_ac]
  refine rrun_pc hG (dkOf d) (acOf l) x (min (max x 0) (l.length : Int)).toNat (by simpa [dkOf] using b1) (by simpa [dkOf] using b2) (by rw [acOf_len]; exact b3) (fun a ha => ?_) (by rw [acOf_len]; exact mmN x l.length)
  unfold acOf at ha
  obtain ⟨b, hb, rfl⟩ := List.mem_map.1 ha
  show (ba b.2.2).size ≤ 1000
  rw [ba_len]; exact b4 b hb
theorem below_drewN0 (w : World) (n : Nat) : Below w.heap.size w (w.drewN n) := ⟨rfl, rfl, rfl, Nat.le_refl _, fun _ _ => rfl⟩
/-! rec, sum -/
abbrev HdT := Int × (Int × (Int × (Int × Int)))
abbrev hdS : S1 := .agg [.d (.int .i64), .d (.int .i64), .d (.int .i64), .d (.int .i64), .d (.int .i64)]
def i64B (n : Int) : Prop := -9223372036854775808 ≤ n ∧ n ≤ 9223372036854775807
instance (n : Int) : Decidable (i64B n) := by unfold i64B; infer_instance
def jcount_t (n : Int) : Option Int := if i64B n then some (RM.countF n) else none
def jcount_fc : FC := { f := 34, args := [.one intS], res := .one intS, F := jcount_t }
theorem jcount_ok : FCall Inv Try.prog jcount_fc := fc_mk (by kernel_rfl) rfl fun G hG (a : Int) r h => by
  obtain ⟨h1, rfl⟩ := ifs h
  intro Pc w vs _ hlt hv
  obtain ⟨vl⟩ := vs
  match vl, hv with
  | [x], ⟨q1, _⟩ =>
    obtain rfl : x = .int .i64 a := of_val q1
    refine (RecW.count_any a w h1).mono ?_
    rintro e w' ⟨rfl, rfl⟩
    exact pc_done rfl (Below.refl _ _) (drep_val (σ := noSt) (.int .i64 _))
def jsumOf_t (s : List UInt8) : Option Int := if s.length ≤ maxLen then some (SM.rollF 1 s) else none
def jsumOf_fc : FC := { f := 54, args := [.one strS], res := .one intS, F := jsumOf_t }
theorem jsumOf_ok : FCall Inv Try.prog jsumOf_fc := fc_mk (by kernel_rfl) rfl fun G hG (a : List UInt8) r h => by
  obtain ⟨h1, rfl⟩ := ifs h
  intro Pc w vs _ hlt hv
  obtain ⟨vl⟩ := vs
  match vl, hv with
  | [x], ⟨q1, _⟩ =>
    obtain rfl : x = .string (ba a) := of_val q1
    refine (SumW.of_any (ba a) w (by rw [ba_len]; exact h1)).mono ?_
    rintro e w' ⟨rfl, rfl⟩
    have e : (ba a).data.toList = a := by simp [ba]
    rw [e]
    exact pc_done rfl (Below.refl _ _) (drep_val (σ := noSt) (.int .i64 _))
theorem data_ba (s : List UInt8) : (ba s).data.toList = s := by simp [ba]
theorem rep_hd {Pc : Nat → Nat → Prop} {w : World} (k g q z m : Int) : DRep (noEnv Pc) noSt w (.agg #[.int .i64 k, .int .i64 g, .int .i64 q, .int .i64 z, .int .i64 m]) (.one (e1 (r1 hdS (k, (g, (q, (z, m))))))) :=
  ⟨_, rfl, crep_val (σ := noSt) (.int .i64 k), crep_val (σ := noSt) (.int .i64 g), crep_val (σ := noSt) (.int .i64 q), crep_val (σ := noSt) (.int .i64 z), crep_val (σ := noSt) (.int .i64 m), trivial⟩
theorem hd_of {Pc : Nat → Nat → Prop} {w : World} {v : Value} {h : HdT} (hv : DRep (noEnv Pc) noSt w v (.one (e1 (r1 hdS h)))) : v = .agg #[.int .i64 h.1, .int .i64 h.2.1, .int .i64 h.2.2.1, .int .i64 h.2.2.2.1, .int .i64 h.2.2.2.2] := by
  obtain ⟨k, g, q, z, m⟩ := h
  obtain ⟨cs, rfl, hc⟩ := hv
  obtain ⟨cl⟩ := cs
  match cl, hc with
  | [a, b, c, d, e], ⟨c1, c2, c3, c4, c5, _⟩ =>
    obtain rfl : a = .int .i64 k := of_valC c1
    obtain rfl : b = .int .i64 g := of_valC c2
    obtain rfl : c = .int .i64 q := of_valC c3
    obtain rfl : d = .int .i64 z := of_valC c4
    obtain rfl : e = .int .i64 m := of_valC c5
    rfl
theorem rep_str {Pc : Nat → Nat → Prop} {w : World} (b : ByteArray) : DRep (noEnv Pc) noSt w (.string b) (.one (e1 (r1 strS (unB b)))) := by
  show DRep (noEnv Pc) noSt w (.string b) (valD (.string (ba (unB b))))
  rw [ba_unB]; exact drep_val _
def jtext_t (h : HdT) : Option (List UInt8 × Bool) := if i64B h.2.2.2.2 then some (unB (RM.textB h.1 h.2.1 h.2.2.1 h.2.2.2.1 h.2.2.2.2), decide (RM.may h.1 h.2.1 h.2.2.1 h.2.2.2.1 h.2.2.2.2)) else none
def jtext_fc : FC := { f := 51, args := [.one hdS], res := .tup [strS, boolS], F := jtext_t }
theorem jtext_ok : FCall Inv Try.prog jtext_fc := fc_mk (by kernel_rfl) rfl fun G hG (a : HdT) r h => by
  obtain ⟨h1, rfl⟩ := ifs h
  intro Pc w vs _ hlt hv
  obtain ⟨vl⟩ := vs
  match vl, hv with
  | [x], ⟨q1, _⟩ =>
    obtain rfl := hd_of q1
    refine (RecW.text_any a.1 a.2.1 a.2.2.1 a.2.2.2.1 a.2.2.2.2 w h1).mono ?_
    rintro e w' ⟨rfl, hb⟩
    exact ⟨_, Pc, rfl, hb, fun b o hp => hp, fun b o hp => Or.inl hp, _, rfl, rep_str _, drep_val (σ := noSt) (.bool _), trivial⟩
def readH (s : ByteArray) : HdT := if RM.readOk s then (RM.kindF s, (RM.numAt s 2, (RM.numAt s 6, (RM.numAt s 10, RM.numAt s 14)))) else (0, (0, (0, (0, 0))))
theorem rep_read {Pc : Nat → Nat → Prop} {w : World} (s : ByteArray) : DRep (noEnv Pc) noSt w (RM.readV s) (.one (e1 (r1 hdS (readH s)))) := by
  unfold RM.readV readH
  by_cases c : RM.readOk s
  · rw [if_pos c, if_pos c]; exact rep_hd _ _ _ _ _
  · rw [if_neg c, if_neg c]; exact rep_hd _ _ _ _ _
def jread_t (s : List UInt8) : Option (HdT × Bool) := some (readH (ba s), decide (RM.readOk (ba s)))
def jread_fc : FC := { f := 28, args := [.one strS], res := .tup [hdS, boolS], F := jread_t }
theorem jread_ok : FCall Inv Try.prog jread_fc := fc_mk (by kernel_rfl) rfl fun G hG (a : List UInt8) r h => by
  obtain rfl := Option.some.inj h
  intro Pc w vs _ hlt hv
  obtain ⟨vl⟩ := vs
  match vl, hv with
  | [x], ⟨q1, _⟩ =>
    obtain rfl : x = .string (ba a) := of_val q1
    refine (RecW.read_any (ba a) w).mono ?_
    rintro e w' ⟨rfl, hb⟩
    exact ⟨_, Pc, rfl, hb, fun b o hp => hp, fun b o hp => Or.inl hp, _, rfl, rep_read _, drep_val (σ := noSt) (.bool _), trivial⟩
def makeH (k g q : Int) (s : List UInt8) : HdT := if RM.may k g q (s.length : Int) (SM.rollF 1 s) then (k, (g, (q, ((s.length : Int), SM.rollF 1 s)))) else (0, (0, (0, (0, 0))))
def jmake_t (k g q : Int) (s : List UInt8) : Option (HdT × Bool) := if s.length ≤ maxLen then some (makeH k g q s, decide (RM.may k g q (s.length : Int) (SM.rollF 1 s))) else none
def jmake_fc : FC := { f := 52, args := [.one intS, .one intS, .one intS, .one strS], res := .tup [hdS, boolS], F := fun p => jmake_t p.1 p.2.1 p.2.2.1 p.2.2.2 }
theorem jmake_ok : FCall Inv Try.prog jmake_fc := fc_mk (by kernel_rfl) rfl fun G hG a r h => by
  obtain ⟨h1, rfl⟩ := ifs h
  obtain ⟨k, g, q, s⟩ := a
  intro Pc w vs _ hlt hv
  obtain ⟨vl⟩ := vs
  match vl, hv with
  | [x, y, z, u], ⟨q1, q2, q3, q4, _⟩ =>
    obtain rfl : x = .int .i64 k := of_val q1
    obtain rfl : y = .int .i64 g := of_val q2
    obtain rfl : z = .int .i64 q := of_val q3
    obtain rfl : u = .string (ba s) := of_val q4
    refine (RecW.make_any k g q (ba s) w (by rw [ba_len]; exact h1)).mono ?_
    rintro e w' ⟨rfl, hb⟩
    refine ⟨_, Pc, rfl, hb, fun b o hp => hp, fun b o hp => Or.inl hp, _, rfl, ?_, ?_, trivial⟩
    · unfold RM.makeV makeH
      rw [ba_len, data_ba]
      by_cases c : RM.may k g q (s.length : Int) (SM.rollF 1 s)
      · simp only [if_pos c]; exact rep_hd _ _ _ _ _
      · simp only [if_neg c]; exact rep_hd _ _ _ _ _
    · rw [ba_len, data_ba]; exact drep_val (σ := noSt) (.bool _)
def jjoin_t (l : List (List UInt8)) (n : Int) : Option (List UInt8 × Bool) := if l.length ≤ 1000 ∧ i64B n then some (unB (RM.joinB (l.map ba) n), decide (RM.joinOk (l.map ba) n)) else none
abbrev ssS : S1 := .c (.d (.lst .str))
theorem e1_ss (l : List (List UInt8)) : e1 (r1 ssS l) = .c (.d (.lst 1 (secD (l.map ba)))) := by
  show D1.c (.d (.lst 1 (l.map (toDats .str)))) = _
  unfold secD
  rw [List.map_map]
  rfl
def jjoin_fc : FC := { f := 53, args := [.one ssS, .one intS], res := .tup [strS, boolS], F := fun p => jjoin_t p.1 p.2 }
theorem jjoin_ok : FCall Inv Try.prog jjoin_fc := fc_mk (by kernel_rfl) rfl fun G hG a r h => by
  obtain ⟨h1, rfl⟩ := ifs h
  obtain ⟨l, n⟩ := a
  intro Pc w vs _ hlt hv
  obtain ⟨vl⟩ := vs
  match vl, hv with
  | [x, y], ⟨q1, q2, _⟩ =>
    obtain rfl : y = .int .i64 n := of_val q2
    have q1' : DRep (noEnv Pc) noSt w x (.one (e1 (r1 ssS l))) := q1
    rw [e1_ss] at q1'
    obtain ⟨a, cap, hx, b1, b2, hs⟩ := sv_of hlt q1'
    refine (RecW.join_any (l.map ba) x n w hs (by simpa using h1.1) h1.2).mono ?_
    rintro e w' ⟨rfl, hb⟩
    exact ⟨_, Pc, rfl, hb, fun b o hp => hp, fun b o hp => Or.inl hp, _, rfl, rep_str _, drep_val (σ := noSt) (.bool _), trivial⟩
def jrsam3_t (a b : List (List UInt8)) : Option Bool := if a.length ≤ 100000 ∧ b.length ≤ 100000 then some (decide (a = b)) else none
theorem map_ba {a b : List (List UInt8)} : a.map ba = b.map ba ↔ a = b := by
  constructor
  · intro h
    have h2 := congrArg (List.map unB) h
    simp only [List.map_map] at h2
    have e (l : List (List UInt8)) : l.map (unB ∘ ba) = l := (List.map_congr_left fun x _ => unB_ba x).trans (List.map_id _)
    rw [e, e] at h2; exact h2
  · intro h; rw [h]
def jrsam3_fc : FC := { f := 14, args := [.one ssS, .one ssS], res := .one boolS, F := fun p => jrsam3_t p.1 p.2 }
theorem jrsam3_ok : FCall Inv Try.prog jrsam3_fc := fc_mk (by kernel_rfl) rfl fun G hG a r h => by
  obtain ⟨h1, rfl⟩ := ifs h
  obtain ⟨l, m⟩ := a
  intro Pc w vs _ hlt hv
  obtain ⟨vl⟩ := vs
  match vl, hv with
  | [x, y], ⟨q1, q2, _⟩ =>
    have q1' : DRep (noEnv Pc) noSt w x (.one (e1 (r1 ssS l))) := q1
    have q2' : DRep (noEnv Pc) noSt w y (.one (e1 (r1 ssS m))) := q2
    rw [e1_ss] at q1' q2'
    obtain ⟨a, cap, hx, b1, b2, hs⟩ := sv_of hlt q1'
    obtain ⟨a', cap', hx', b1', b2', hs'⟩ := sv_of hlt q2'
    refine (RecW.same_any w x y _ _ hs hs' (by simpa using h1.1) (by simpa using h1.2)).mono ?_
    rintro e w' ⟨rfl, m', rfl⟩
    have ed : decide (l.map ba = m.map ba) = decide (l = m) := by simp only [map_ba]
    rw [ed]
    exact pc_done rfl (below_drewN0 _ _) (drep_val (σ := noSt) (.bool _))
def jrcount_fc : FC := { f := 20, args := [.one intS], res := .one intS, F := jcount_t }
theorem jrcount_ok : FCall Inv Try.prog jrcount_fc := fc_mk (by kernel_rfl) rfl fun G hG (a : Int) r h => by
  obtain ⟨h1, rfl⟩ := ifs h
  intro Pc w vs _ hlt hv
  obtain ⟨vl⟩ := vs
  match vl, hv with
  | [x], ⟨q1, _⟩ =>
    obtain rfl : x = .int .i64 a := of_val q1
    refine (RecW.rcount_any a w h1).mono ?_
    rintro e w' ⟨rfl, rfl⟩
    exact pc_done rfl (Below.refl _ _) (drep_val (σ := noSt) (.int .i64 _))
def jcut_t (s : List UInt8) : Option (List (List UInt8)) := if s.length ≤ maxLen then some ((RM.cutL (ba s)).map unB) else none
def jcut_fc : FC := { f := 35, args := [.one strS], res := .one ssS, F := jcut_t }
theorem jcut_ok : FCall Inv Try.prog jcut_fc := fc_mk (by kernel_rfl) rfl fun G hG (a : List UInt8) r h => by
  obtain ⟨h1, rfl⟩ := ifs h
  intro Pc w vs _ hlt hv
  obtain ⟨vl⟩ := vs
  match vl, hv with
  | [x], ⟨q1, _⟩ =>
    obtain rfl : x = .string (ba a) := of_val q1
    refine (RecW.cut_any (ba a) w (by rw [ba_len]; exact h1)).mono ?_
    rintro e w' ⟨v, rfl, hown, hb⟩
    refine ⟨v, fun b o => Pc b o ∨ (w.heap.size ≤ b ∧ b < w'.heap.size), rfl, hb, fun b o h => Or.inl h, fun b o h => h, ?_⟩
    have hl : (RM.cutL (ba a)).length = RM.cutN (ba a) := by unfold RM.cutL; simp
    have hsv := RM.SV.of_owns hl.symm hown
    have ebu : ((RM.cutL (ba a)).map unB).map ba = RM.cutL (ba a) := by
      rw [List.map_map]
      exact (List.map_congr_left fun x _ => ba_unB x).trans (List.map_id _)
    show DRep _ noSt w' v (.one (e1 (r1 ssS ((RM.cutL (ba a)).map unB))))
    rw [e1_ss, ebu]
    obtain ⟨_, ho | ⟨g, cap, vs', rfl, hbg, hg, hc1, hc2, _, _⟩⟩ := hown
    · obtain ⟨rfl, hn⟩ := ho
      exact dat_sv hsv (by omega) (by unfold maxLen; omega) (fun g hg => by cases hg)
    · exact dat_sv hsv hc1 hc2 (fun g' hg' o hlt' => by
        obtain rfl : g = g' := by simpa [Value.ownBlock] using hg'
        exact Or.inr ⟨hbg, hlt'⟩)
end Ytabmdijfholakaa.AM
end Go.Proofs

/- Layer 4: what functions come to, as plain functions of data: written by program (shal.py); the kernel checks it. -/
namespace Go.Proofs.Ytabmdijfholakaa.AM
open Go.RowKit
set_option linter.unusedVariables false
set_option maxRecDepth 20000
/-! (armada/journal.Region).Check -/
def jChk_lts (n : Nat) : List LC := []
def jChk_t (n : Nat) (a1 : Int × (Int)) : Option (Bool) :=
  (bif decide ((0 : Int) ≤ a1.1) then (bif decide ((2 : Int) ≤ a1.2) then letO (IntKind.wrap .i64 ((512 : Int) - a1.1)) fun (n1 : Int) => some (decide (a1.2 ≤ n1)) else some false) else some false)
def jChk_fc (n : Nat) : FC := { f := 26, args := [.one (.agg [.d (.int .i64), .d (.int .i64)])], res := .one (.c (.d .bool)), F := fun p => jChk_t n p }
def jChk_ct (n : Nat) : List FC := []
theorem jChk_ctok (n : Nat) {G : World → Prop} (hG : Know Inv G) : ∀ c ∈ jChk_ct n, FCok Try.prog G c ∧ noTup c.args = true := (fun _ h => by cases h)
def jChk_dh : Hints := []
theorem jChk_dr : drB jChk_dh (bodyOf Try.f26) = true := by kernel_rfl
theorem jChk_eq (n : Nat) : ∀ a, (jChk_fc n).F a = main Try.prog 19 (jChk_ct n) (jChk_lts n) jChk_dh (bodyOf Try.f26) [.tmp 2] (jChk_fc n).args (jChk_fc n).res a := by intro a; kernel_rfl
theorem jChk_ok (n : Nat) : FCall Inv Try.prog (jChk_fc n) := fun G hG => ⟨⟨by kernel_rfl, fun a r h => main_ok (c := bodyOf Try.f26) Try.func26 (by kernel_rfl) (by kernel_rfl) (Nat.le_of_ble_eq_true (by kernel_rfl)) hG.st (by kernel_rfl) (rs := [.tmp 2]) (by kernel_rfl) (jChk_ctok n hG) (lts := jChk_lts n) (fun F hF hFG => have hK : Know Inv F.G := hFG ▸ hG; (lok_of fun j L h1 h2 h3 => absurd h2 (Nat.not_lt.2 (Nat.le_trans (by decide +kernel) h1)))) jChk_dr ((jChk_eq n a).symm.trans h)⟩, rfl⟩
/-! (armada/journal.place).room -/
def jRoom_lts (n : Nat) : List LC := []
def jRoom_t (n : Nat) (a1 : Int × (Int × (Int))) : Option (Int) :=
  letO (IntKind.wrap .i64 (a1.1 + a1.2.1)) fun (n1 : Int) => letO (IntKind.wrap .i64 (n1 - a1.2.2)) fun (n2 : Int) => some n2
def jRoom_fc (n : Nat) : FC := { f := 33, args := [.one (.agg [.d (.int .i64), .d (.int .i64), .d (.int .i64)])], res := .one (.c (.d (.int .i64))), F := fun p => jRoom_t n p }
def jRoom_ct (n : Nat) : List FC := []
theorem jRoom_ctok (n : Nat) {G : World → Prop} (hG : Know Inv G) : ∀ c ∈ jRoom_ct n, FCok Try.prog G c ∧ noTup c.args = true := (fun _ h => by cases h)
def jRoom_dh : Hints := []
theorem jRoom_dr : drB jRoom_dh (bodyOf Try.f33) = true := by kernel_rfl
theorem jRoom_eq (n : Nat) : ∀ a, (jRoom_fc n).F a = main Try.prog 13 (jRoom_ct n) (jRoom_lts n) jRoom_dh (bodyOf Try.f33) [.tmp 2] (jRoom_fc n).args (jRoom_fc n).res a := by intro a; kernel_rfl
theorem jRoom_ok (n : Nat) : FCall Inv Try.prog (jRoom_fc n) := fun G hG => ⟨⟨by kernel_rfl, fun a r h => main_ok (c := bodyOf Try.f33) Try.func33 (by kernel_rfl) (by kernel_rfl) (Nat.le_of_ble_eq_true (by kernel_rfl)) hG.st (by kernel_rfl) (rs := [.tmp 2]) (by kernel_rfl) (jRoom_ctok n hG) (lts := jRoom_lts n) (fun F hF hFG => have hK : Know Inv F.G := hFG ▸ hG; (lok_of fun j L h1 h2 h3 => absurd h2 (Nat.not_lt.2 (Nat.le_trans (by decide +kernel) h1)))) jRoom_dr ((jRoom_eq n a).symm.trans h)⟩, rfl⟩
/-! (armada/journal.place).behind -/
def jBeh_lts (n : Nat) : List LC := []
def jBeh_t (n : Nat) (a1 : Int × (Int × (Int))) (a2 : Int) : Option (Int × (Int × (Int))) :=
  (jcount_t a2).bind fun (r1 : Int) => letO (IntKind.wrap .i64 ((1 : Int) + r1)) fun (n2 : Int) => letO (IntKind.wrap .i64 (a1.2.2 + n2)) fun (n3 : Int) => some (a1.1, (a1.2.1, n3))
def jBeh_fc (n : Nat) : FC := { f := 31, args := [.one (.agg [.d (.int .i64), .d (.int .i64), .d (.int .i64)]), .one (.c (.d (.int .i64)))], res := .one (.agg [.d (.int .i64), .d (.int .i64), .d (.int .i64)]), F := fun p => jBeh_t n p.1 p.2 }
def jBeh_ct (n : Nat) : List FC := [jcount_fc]
theorem jBeh_ctok (n : Nat) {G : World → Prop} (hG : Know Inv G) : ∀ c ∈ jBeh_ct n, FCok Try.prog G c ∧ noTup c.args = true := List.forall_mem_cons.2 ⟨jcount_ok G hG, (fun _ h => by cases h)⟩
def jBeh_dh : Hints := [(1, [⟨196800, 32768, 0⟩, ⟨1605760, 262144, 1⟩, ⟨12582920, 2097152, 0⟩, ⟨102760448, 16777216, 4⟩, ⟨822083584, 134217728, 12⟩, ⟨6576930816, 1073741824, 31⟩, ⟨51539607744, 8589934592, 63⟩, ⟨9663676544, 128, 127⟩]), (1000001, [])]
theorem jBeh_dr : drB jBeh_dh (bodyOf Try.f31) = true := by kernel_rfl
theorem jBeh_eq (n : Nat) : ∀ a, (jBeh_fc n).F a = main Try.prog 13 (jBeh_ct n) (jBeh_lts n) jBeh_dh (bodyOf Try.f31) [.cell 4 76] (jBeh_fc n).args (jBeh_fc n).res a := by intro a; kernel_rfl
theorem jBeh_ok (n : Nat) : FCall Inv Try.prog (jBeh_fc n) := fun G hG => ⟨⟨by kernel_rfl, fun a r h => main_ok (c := bodyOf Try.f31) Try.func31 (by kernel_rfl) (by kernel_rfl) (Nat.le_of_ble_eq_true (by kernel_rfl)) hG.st (by kernel_rfl) (rs := [.cell 4 76]) (by kernel_rfl) (jBeh_ctok n hG) (lts := jBeh_lts n) (fun F hF hFG => have hK : Know Inv F.G := hFG ▸ hG; (lok_of fun j L h1 h2 h3 => absurd h2 (Nat.not_lt.2 (Nat.le_trans (by decide +kernel) h1)))) jBeh_dr ((jBeh_eq n a).symm.trans h)⟩, rfl⟩
/-! (armada/journal.place).isNext -/
def jNxt_lts (n : Nat) : List LC := []
def jNxt_t (n : Nat) (a1 : Int × (Int × (Int))) : Option (Bool) :=
  (jChk_t n (a1.1, a1.2.1)).bind fun (r1 : Bool) => (bif r1 then (bif decide (a1.1 < a1.2.2) then letO (IntKind.wrap .i64 (a1.1 + a1.2.1)) fun (n2 : Int) => some (decide (a1.2.2 ≤ n2)) else some false) else some false)
def jNxt_fc (n : Nat) : FC := { f := 32, args := [.one (.agg [.d (.int .i64), .d (.int .i64), .d (.int .i64)])], res := .one (.c (.d .bool)), F := fun p => jNxt_t n p }
def jNxt_ct (n : Nat) : List FC := [jChk_fc n]
theorem jNxt_ctok (n : Nat) {G : World → Prop} (hG : Know Inv G) : ∀ c ∈ jNxt_ct n, FCok Try.prog G c ∧ noTup c.args = true := List.forall_mem_cons.2 ⟨jChk_ok n G hG, (fun _ h => by cases h)⟩
def jNxt_dh : Hints := []
theorem jNxt_dr : drB jNxt_dh (bodyOf Try.f32) = true := by kernel_rfl
theorem jNxt_eq (n : Nat) : ∀ a, (jNxt_fc n).F a = main Try.prog 26 (jNxt_ct n) (jNxt_lts n) jNxt_dh (bodyOf Try.f32) [.tmp 2] (jNxt_fc n).args (jNxt_fc n).res a := by intro a; kernel_rfl
theorem jNxt_ok (n : Nat) : FCall Inv Try.prog (jNxt_fc n) := fun G hG => ⟨⟨by kernel_rfl, fun a r h => main_ok (c := bodyOf Try.f32) Try.func32 (by kernel_rfl) (by kernel_rfl) (Nat.le_of_ble_eq_true (by kernel_rfl)) hG.st (by kernel_rfl) (rs := [.tmp 2]) (by kernel_rfl) (jNxt_ctok n hG) (lts := jNxt_lts n) (fun F hF hFG => have hK : Know Inv F.G := hFG ▸ hG; (lok_of fun j L h1 h2 h3 => absurd h2 (Nat.not_lt.2 (Nat.le_trans (by decide +kernel) h1)))) jNxt_dr ((jNxt_eq n a).symm.trans h)⟩, rfl⟩
/-! armada/journal.head -/
def jHead_lts (n : Nat) : List LC := []
def jHead_t (n : Nat) (a1 : Int) (a2 : Int) (a3 : Int) (a4 : List UInt8) : Option ((List UInt8) × (Bool)) :=
  (jmake_t a1 a2 a3 a4).bind fun (r1 : (Int × (Int × (Int × (Int × (Int))))) × (Bool)) => (bif !r1.2 then some (([] : List UInt8), false) else (jtext_t r1.1).bind fun (r2 : (List UInt8) × (Bool)) => some r2)
def jHead_fc (n : Nat) : FC := { f := 29, args := [.one (.c (.d (.int .i64))), .one (.c (.d (.int .i64))), .one (.c (.d (.int .i64))), .one (.c (.d .str))], res := .tup [.c (.d .str), .c (.d .bool)], F := fun p => jHead_t n p.1 p.2.1 p.2.2.1 p.2.2.2 }
def jHead_ct (n : Nat) : List FC := [jmake_fc, jtext_fc]
theorem jHead_ctok (n : Nat) {G : World → Prop} (hG : Know Inv G) : ∀ c ∈ jHead_ct n, FCok Try.prog G c ∧ noTup c.args = true := List.forall_mem_cons.2 ⟨jmake_ok G hG, List.forall_mem_cons.2 ⟨jtext_ok G hG, (fun _ h => by cases h)⟩⟩
def jHead_dh : Hints := []
theorem jHead_dr : drB jHead_dh (bodyOf Try.f29) = true := by kernel_rfl
theorem jHead_eq (n : Nat) : ∀ a, (jHead_fc n).F a = main Try.prog 26 (jHead_ct n) (jHead_lts n) jHead_dh (bodyOf Try.f29) [.tmp 8, .tmp 9] (jHead_fc n).args (jHead_fc n).res a := by intro a; kernel_rfl
theorem jHead_ok (n : Nat) : FCall Inv Try.prog (jHead_fc n) := fun G hG => ⟨⟨by kernel_rfl, fun a r h => main_ok (c := bodyOf Try.f29) Try.func29 (by kernel_rfl) (by kernel_rfl) (Nat.le_of_ble_eq_true (by kernel_rfl)) hG.st (by kernel_rfl) (rs := [.tmp 8, .tmp 9]) (by kernel_rfl) (jHead_ctok n hG) (lts := jHead_lts n) (fun F hF hFG => have hK : Know Inv F.G := hFG ▸ hG; (lok_of fun j L h1 h2 h3 => absurd h2 (Nat.not_lt.2 (Nat.le_trans (by decide +kernel) h1)))) jHead_dr ((jHead_eq n a).symm.trans h)⟩, rfl⟩
/-! armada/journal.sectors -/
def jSec_lts (n : Nat) : List LC := []
def jSec_t (n : Nat) (a1 : (List (List UInt8)) × (List ((Int) × (List UInt8)))) (a2 : Int × (Int)) : Option ((List (List UInt8)) × (Bool)) :=
  (jChk_t n a2).bind fun (r1 : Bool) => (bif !r1 then some ([], false) else (flush_t a1).bind fun (r2 : ((List (List UInt8)) × (List ((Int) × (List UInt8)))) × (Int)) => (bif !decide (r2.2 = (0 : Int)) then some ([], false) else letO (IntKind.wrap .i64 (a2.1 + a2.2)) fun (n3 : Int) => (bif decide (((List.length r2.1.1 : Nat) : Int) < n3) then some ([], false) else some (r2.1.1, true))))
def jSec_fc (n : Nat) : FC := { f := 27, args := [.one (.agg [.d (.lst .str), .d (.lst (.prod (.int .i64) .str))]), .one (.agg [.d (.int .i64), .d (.int .i64)])], res := .tup [.c (.d (.lst .str)), .c (.d .bool)], F := fun p => jSec_t n p.1 p.2 }
def jSec_ct (n : Nat) : List FC := [jChk_fc n, flush_fc]
theorem jSec_ctok (n : Nat) {G : World → Prop} (hG : Know Inv G) : ∀ c ∈ jSec_ct n, FCok Try.prog G c ∧ noTup c.args = true := List.forall_mem_cons.2 ⟨jChk_ok n G hG, List.forall_mem_cons.2 ⟨flush_ok G hG, (fun _ h => by cases h)⟩⟩
def jSec_dh : Hints := []
theorem jSec_dr : drB jSec_dh (bodyOf Try.f27) = true := by kernel_rfl
theorem jSec_eq (n : Nat) : ∀ a, (jSec_fc n).F a = main Try.prog 31 (jSec_ct n) (jSec_lts n) jSec_dh (bodyOf Try.f27) [.tmp 4, .tmp 5] (jSec_fc n).args (jSec_fc n).res a := by intro a; kernel_rfl
theorem jSec_ok (n : Nat) : FCall Inv Try.prog (jSec_fc n) := fun G hG => ⟨⟨by kernel_rfl, fun a r h => main_ok (c := bodyOf Try.f27) Try.func27 (by kernel_rfl) (by kernel_rfl) (Nat.le_of_ble_eq_true (by kernel_rfl)) hG.st (by kernel_rfl) (rs := [.tmp 4, .tmp 5]) (by kernel_rfl) (jSec_ctok n hG) (lts := jSec_lts n) (fun F hF hFG => have hK : Know Inv F.G := hFG ▸ hG; (lok_of fun j L h1 h2 h3 => absurd h2 (Nat.not_lt.2 (Nat.le_trans (by decide +kernel) h1)))) jSec_dr ((jSec_eq n a).symm.trans h)⟩, rfl⟩
/-! (armada/journal.place).record -/
def jRec_lts (n : Nat) : List LC := []
def jRec_t (n : Nat) (a1 : Int × (Int × (Int))) (a2 : List (List UInt8)) (a3 : Int) (a4 : Int) : Option ((List UInt8) × (Bool)) :=
  (jRoom_t n a1).bind fun (r1 : Int) => (bif decide (r1 < (1 : Int)) then some (([] : List UInt8), false) else (idxL a2 a1.2.2).bind fun (x2 : List UInt8) => (jread_t x2).bind fun (r3 : (Int × (Int × (Int × (Int × (Int))))) × (Bool)) => (bif !r3.2 then some (([] : List UInt8), false) else (bif !decide (r3.1.1 = (2 : Int)) then some (([] : List UInt8), false) else (bif !decide (r3.1.2.1 = a3) then some (([] : List UInt8), false) else (bif !decide (r3.1.2.2.1 = a4) then some (([] : List UInt8), false) else (jBeh_t n a1 r3.1.2.2.2.1).bind fun (r4 : Int × (Int × (Int))) => (jRoom_t n r4).bind fun (r5 : Int) => (bif decide (r5 < (0 : Int)) then some (([] : List UInt8), false) else letO (IntKind.wrap .i64 (a1.2.2 + (1 : Int))) fun (n6 : Int) => (subO a2 n6 r4.2.2).bind fun (s7 : List (List UInt8)) => (jjoin_t s7 r3.1.2.2.2.1).bind fun (r8 : (List UInt8) × (Bool)) => (bif !r8.2 then some (([] : List UInt8), false) else (jsumOf_t r8.1).bind fun (r9 : Int) => (bif !decide (r9 = r3.1.2.2.2.2) then some (([] : List UInt8), false) else some (r8.1, true)))))))))
def jRec_fc (n : Nat) : FC := { f := 30, args := [.one (.agg [.d (.int .i64), .d (.int .i64), .d (.int .i64)]), .one (.c (.d (.lst .str))), .one (.c (.d (.int .i64))), .one (.c (.d (.int .i64)))], res := .tup [.c (.d .str), .c (.d .bool)], F := fun p => jRec_t n p.1 p.2.1 p.2.2.1 p.2.2.2 }
def jRec_ct (n : Nat) : List FC := [jRoom_fc n, jread_fc, jBeh_fc n, jjoin_fc, jsumOf_fc]
theorem jRec_ctok (n : Nat) {G : World → Prop} (hG : Know Inv G) : ∀ c ∈ jRec_ct n, FCok Try.prog G c ∧ noTup c.args = true := List.forall_mem_cons.2 ⟨jRoom_ok n G hG, List.forall_mem_cons.2 ⟨jread_ok G hG, List.forall_mem_cons.2 ⟨jBeh_ok n G hG, List.forall_mem_cons.2 ⟨jjoin_ok G hG, List.forall_mem_cons.2 ⟨jsumOf_ok G hG, (fun _ h => by cases h)⟩⟩⟩⟩⟩
def jRec_dh : Hints := [(9, [⟨4384504911992708754611054498148849058967797628936, 730750818665451459101842416358141509827966271488, 0⟩, ⟨35076039295941670036888435985190792471742381043712, 5846006549323611672814739330865132078623730171904, 0⟩, ⟨286454320916856971967922227212391471852562778431488, 46768052394588893382517914646921056628989841375232, 2⟩, ⟨2291634567334855775743377817699131774820502227386368, 374144419156711147060143317175368453031918731001856, 6⟩, ⟨17958932119522135058886879224417685745532305246519296, 2993155353253689176481146537402947624255349848014848, 0⟩, ⟨146664612309430769647576180332744433588512279991681024, 23945242826029513411849172299223580994042798784118784, 16⟩, ⟨1173691773645421533779128687821547195302638887119093760, 191561942608236107294793378393788647952342390272950272, 63⟩, ⟨9194973245195333150150082162901855101712434736322838528, 1532495540865888858358347027150309183618739122183602176, 0⟩, ⟨75092281502428554059559004330365149997318216989143990272, 12259964326927110866866776217202473468949912977468817408, 128⟩, ⟨600929813962036668583766828021314988626498078286245003264, 98079714615416886934934209737619787751599303819750539264, 511⟩, ⟨98079715163480000934022804064001600020205436190725242880, 91343852333181432387730302044767688728495783936, 1023⟩, ⟨4707826301631354425210023499793480114121534272076521668608, 784637716923335095479473677900958302012794430558004314112, 2047⟩, ⟨37662610412411428435347917971633728798658900355512702861312, 6277101735386680763835789423207666416102355444464034512896, 2047⟩, ⟨784637716923335095479473677900958302012794433856539197440, 549755813888, 4095⟩, ⟨6277101735386680763835789423207666416102355444515574120448, 8589934592, 16383⟩]), (10, [⟨301300883298560676664117892313967987972913061334282246553600, 50216813883093446110686315385661331328818843555712276103168, 0⟩, ⟨2460623880271578859423629453897405235112123334229901529055232, 401734511064747568885490523085290650630550748445698208825344, 1⟩, ⟨19684991042172630875389035631179241880896986673839212232441856, 3213876088517980551083924184682325205044405987565585670602752, 3⟩, ⟨157479928337381047003112285049433935047175893390714247615348736, 25711008708143844408671393477458601640355247900524685364822016, 7⟩, ⟨1263053302787566356575982204580153805582451553113275168546881536, 205688069665150755269371147819668813122841983204197482918576128, 15⟩, ⟨9876241220015754233480899019528785355101459599789044768983482368, 1645504557321206042154969182557350504982735865633579863348609024, 7⟩, ⟨80632937184827614046144573869494857069359101822032978891899928576, 13164036458569648337239753460458804039861886925068638906788872192, 39⟩, ⟨645246688415666437260568374634485749091560345717555069501243916288, 105312291668557186697918027683670432318895095400549111254310977536, 127⟩, ⟨5160305505635390666178534440424035865951064719032894017046908502016, 842498333348457493583344221469363458551160763204392890034487820288, 255⟩]), (1000010, [])]
theorem jRec_dr : drB jRec_dh (bodyOf Try.f30) = true := by kernel_rfl
theorem jRec_eq (n : Nat) : ∀ a, (jRec_fc n).F a = main Try.prog 75 (jRec_ct n) (jRec_lts n) jRec_dh (bodyOf Try.f30) [.tmp 8, .tmp 9] (jRec_fc n).args (jRec_fc n).res a := by intro a; kernel_rfl
theorem jRec_ok (n : Nat) : FCall Inv Try.prog (jRec_fc n) := fun G hG => ⟨⟨by kernel_rfl, fun a r h => main_ok (c := bodyOf Try.f30) Try.func30 (by kernel_rfl) (by kernel_rfl) (Nat.le_of_ble_eq_true (by kernel_rfl)) hG.st (by kernel_rfl) (rs := [.tmp 8, .tmp 9]) (by kernel_rfl) (jRec_ctok n hG) (lts := jRec_lts n) (fun F hF hFG => have hK : Know Inv F.G := hFG ▸ hG; (lok_of fun j L h1 h2 h3 => absurd h2 (Nat.not_lt.2 (Nat.le_trans (by decide +kernel) h1)))) jRec_dr ((jRec_eq n a).symm.trans h)⟩, rfl⟩
/-! armada/journal.Open -/
@[reducible] def jOpen_sh0 : SSt := ⟨[(4, .one (.c (.box 4 0))), (6, .one (.c (.d (.lst .str)))), (13, .one (.c (.box 13 0))), (14, .one (.c (.box 14 0)))], [(4, (35, [.d (.int .i64), .nil, .d (.int .i64)])), (13, (76, [.d (.int .i64), .d (.int .i64), .d (.int .i64)])), (14, (35, [.d (.int .i64), .row 75, .d (.int .i64)]))], [(75, ⟨9, true, .str⟩)]⟩
@[reducible] def jOpen_outs0 : List (Exit × SSt) := [(.exit 0, ⟨[(4, .one (.c (.box 4 0))), (13, .one (.c (.box 13 0))), (14, .one (.c (.box 14 0)))], [(4, (35, [.d (.int .i64), .nil, .d (.int .i64)])), (13, (76, [.d (.int .i64), .d (.int .i64), .d (.int .i64)])), (14, (35, [.d (.int .i64), .row 75, .d (.int .i64)]))], [(75, ⟨9, true, .str⟩)]⟩)]
def jOpen_l0 (n : Nat) (rec : (List (List UInt8)) → Int → Int → Int → Int → Int → Int → Int → (List (List UInt8)) → Option ((Unit × (Unit × (Unit × (Unit)))) × ((Int × (Unit × (Int))) × ((Int × (Int × (Int))) × ((Int × (Unit × (Int))) × (Unit)))) × ((List (List UInt8)) × (Unit)))) (a1 : List (List UInt8)) (a2 : Int) (a3 : Int) (a4 : Int) (a5 : Int) (a6 : Int) (a7 : Int) (a8 : Int) (a9 : List (List UInt8)) : Option ((Unit × (Unit × (Unit × (Unit)))) × ((Int × (Unit × (Int))) × ((Int × (Int × (Int))) × ((Int × (Unit × (Int))) × (Unit)))) × ((List (List UInt8)) × (Unit))) :=
  (jRec_t n (a4, (a5, a6)) a1 a7 ((List.length a9 : Nat) : Int)).bind fun (r6 : (List UInt8) × (Bool)) => (bif !r6.2 then some ((((), ((), ((), ()))), (((a2, ((), a3)), ((a4, (a5, a6)), ((a7, ((), a8)), ()))), (a9, ())))) else (appO 16 a9 ([r6.1] : List (List UInt8))).bind fun (l7 : List (List UInt8)) => (jBeh_t n (a4, (a5, a6)) ((List.length r6.1 : Nat) : Int)).bind fun (r8 : Int × (Int × (Int))) => rec a1 a2 a3 r8.1 r8.2.1 r8.2.2 a7 a8 l7)
def jOpen_F0 (n : Nat) (rec : pSt jOpen_sh0 → Option (pOuts jOpen_outs0)) (p : pSt jOpen_sh0) : Option (pOuts jOpen_outs0) := jOpen_l0 n (fun a1 a2 a3 a4 a5 a6 a7 a8 a9 => rec (((), (a1, ((), ((), ())))), (((a2, ((), a3)), ((a4, (a5, a6)), ((a7, ((), a8)), ()))), (a9, ())))) p.1.2.1 p.2.1.1.1 p.2.1.1.2.2 p.2.1.2.1.1 p.2.1.2.1.2.1 p.2.1.2.1.2.2 p.2.1.2.2.1.1 p.2.1.2.2.1.2.2 p.2.2.1
def jOpen_loop0 (n m : Nat) (a1 : List (List UInt8)) (a2 : Int) (a3 : Int) (a4 : Int) (a5 : Int) (a6 : Int) (a7 : Int) (a8 : Int) (a9 : List (List UInt8)) : Option ((Unit × (Unit × (Unit × (Unit)))) × ((Int × (Unit × (Int))) × ((Int × (Int × (Int))) × ((Int × (Unit × (Int))) × (Unit)))) × ((List (List UInt8)) × (Unit))) := iterF (jOpen_F0 n) m (((), (a1, ((), ((), ())))), (((a2, ((), a3)), ((a4, (a5, a6)), ((a7, ((), a8)), ()))), (a9, ())))
theorem jOpen_loop0_succ (n m : Nat) (a1 : List (List UInt8)) (a2 : Int) (a3 : Int) (a4 : Int) (a5 : Int) (a6 : Int) (a7 : Int) (a8 : Int) (a9 : List (List UInt8)) : jOpen_loop0 n (m + 1) a1 a2 a3 a4 a5 a6 a7 a8 a9 = jOpen_l0 n (fun a1 a2 a3 a4 a5 a6 a7 a8 a9 => jOpen_loop0 n m a1 a2 a3 a4 a5 a6 a7 a8 a9) a1 a2 a3 a4 a5 a6 a7 a8 a9 := rfl
def jOpen_L0 (n : Nat) : LC := { sh := jOpen_sh0, outs := jOpen_outs0, F := iterF (jOpen_F0 n) n }
def jOpen_lts (n : Nat) : List LC := [jOpen_L0 n]
def jOpen_t (n : Nat) (a1 : (List (List UInt8)) × (List ((Int) × (List UInt8)))) (a2 : Int × (Int)) : Option ((Int × ((List (List UInt8)) × (Int))) × (Int)) :=
  (jSec_t n a1 a2).bind fun (r1 : (List (List UInt8)) × (Bool)) => (bif !r1.2 then some (((0 : Int), ([], (0 : Int))), (1 : Int)) else (idxL r1.1 a2.1).bind fun (x2 : List UInt8) => (jread_t x2).bind fun (r3 : (Int × (Int × (Int × (Int × (Int))))) × (Bool)) => ((jHead_fc n).F ((1 : Int), (r3.1.2.1, ((0 : Int), ([] : List UInt8))))).bind fun (r4 : (List UInt8) × (Bool)) => (bif !r4.2 then some (((0 : Int), ([], (0 : Int))), (5 : Int)) else (bif !decide (r4.1 = x2) then some (((0 : Int), ([], (0 : Int))), (5 : Int)) else letO (IntKind.wrap .i64 (a2.1 + (1 : Int))) fun (n5 : Int) => (jOpen_loop0 n n r1.1 (0 : Int) (0 : Int) a2.1 a2.2 n5 r3.1.2.1 (0 : Int) []).bind fun (o9 : (Unit × (Unit × (Unit × (Unit)))) × ((Int × (Unit × (Int))) × ((Int × (Int × (Int))) × ((Int × (Unit × (Int))) × (Unit)))) × ((List (List UInt8)) × (Unit))) => some ((o9.2.1.2.2.1.1, (o9.2.2.1, o9.2.1.2.1.2.2)), (0 : Int)))))
def jOpen_fc (n : Nat) : FC := { f := 9, args := [.one (.agg [.d (.lst .str), .d (.lst (.prod (.int .i64) .str))]), .one (.agg [.d (.int .i64), .d (.int .i64)])], res := .tup [.agg [.d (.int .i64), .d (.lst .str), .d (.int .i64)], .c (.d (.int .i64))], F := fun p => jOpen_t n p.1 p.2 }
def jOpen_ct (n : Nat) : List FC := [jSec_fc n, jread_fc, jHead_fc n, jRec_fc n, jBeh_fc n]
theorem jOpen_ctok (n : Nat) {G : World → Prop} (hG : Know Inv G) : ∀ c ∈ jOpen_ct n, FCok Try.prog G c ∧ noTup c.args = true := List.forall_mem_cons.2 ⟨jSec_ok n G hG, List.forall_mem_cons.2 ⟨jread_ok G hG, List.forall_mem_cons.2 ⟨jHead_ok n G hG, List.forall_mem_cons.2 ⟨jRec_ok n G hG, List.forall_mem_cons.2 ⟨jBeh_ok n G hG, (fun _ h => by cases h)⟩⟩⟩⟩⟩
def jOpen_dh : Hints := []
theorem jOpen_dr : drB jOpen_dh (bodyOf Try.f9) = true := by kernel_rfl
theorem jOpen_eq0 (n : Nat) : ∀ rec p, jOpen_F0 n rec p = round Try.prog 85 (jOpen_ct n) (jOpen_lts n) jOpen_dh 1 jOpen_sh0 jOpen_outs0 (bodyAt 0 0 (bodyOf Try.f9)) rec p := by intro rec p; kernel_rfl
theorem jOpen_lok0 (n : Nat) {F : Fr} (hF : F.n = 85) (hK : Know Inv F.G) : LCok Try.prog F (jOpen_L0 n) (bodyAt 0 0 (bodyOf Try.f9)) :=
  loop_ok hF (by kernel_rfl) (jOpen_ctok n hK) (jOpen_eq0 n) (fuel := n) (fun _ => rfl) (lok_of fun j L h1 h2 h3 => absurd h2 (Nat.not_lt.2 (Nat.le_trans (by decide +kernel) h1))) (drB_at jOpen_dr)
theorem jOpen_eq (n : Nat) : ∀ a, (jOpen_fc n).F a = main Try.prog 85 (jOpen_ct n) (jOpen_lts n) jOpen_dh (bodyOf Try.f9) [.cell 4 35, .tmp 5] (jOpen_fc n).args (jOpen_fc n).res a := by intro a; kernel_rfl
theorem jOpen_ok (n : Nat) : FCall Inv Try.prog (jOpen_fc n) := fun G hG => ⟨⟨by kernel_rfl, fun a r h => main_ok (c := bodyOf Try.f9) Try.func9 (by kernel_rfl) (by kernel_rfl) (Nat.le_of_ble_eq_true (by kernel_rfl)) hG.st (by kernel_rfl) (rs := [.cell 4 35, .tmp 5]) (by kernel_rfl) (jOpen_ctok n hG) (lts := jOpen_lts n) (fun F hF hFG => have hK : Know Inv F.G := hFG ▸ hG; (lok_of (c := (bodyOf Try.f9)) (fun j L h1 h2 h3 => by
    have h2' : j < 1 := Nat.lt_of_lt_of_le h2 (by decide +kernel)
    match j, h1, h2', h3 with
    | 0, _, _, h3 => obtain rfl := Option.some.inj h3; exact (show bodyAt 0 0 (bodyOf Try.f9) = bodyAt 0 0 (bodyOf Try.f9) by kernel_rfl) ▸ jOpen_lok0 n hF hK
    | j + 1, _, h2', _ => exact absurd h2' (by omega)))) jOpen_dr ((jOpen_eq n a).symm.trans h)⟩, rfl⟩
/-! armada/journal.Start -/
def jStart_lts (n : Nat) : List LC := []
def jStart_t (n : Nat) (a1 : Int × (Int)) (a2 : Int) : Option ((List ((Bool) × ((Int) × (List UInt8)))) × (Int)) :=
  ((jHead_fc n).F ((1 : Int), (a2, ((0 : Int), ([] : List UInt8))))).bind fun (r1 : (List UInt8) × (Bool)) => (jChk_t n a1).bind fun (r2 : Bool) => (bif !r2 then some ([], (1 : Int)) else (bif !r1.2 then some ([], (1 : Int)) else some (([(false, (a1.1, r1.1)), (true, ((0 : Int), ([] : List UInt8)))] : List ((Bool) × ((Int) × (List UInt8)))), (0 : Int))))
def jStart_fc (n : Nat) : FC := { f := 16, args := [.one (.agg [.d (.int .i64), .d (.int .i64)]), .one (.c (.d (.int .i64)))], res := .tup [.c (.d (.lst (.prod .bool (.prod (.int .i64) .str)))), .c (.d (.int .i64))], F := fun p => jStart_t n p.1 p.2 }
def jStart_ct (n : Nat) : List FC := [jHead_fc n, jChk_fc n]
theorem jStart_ctok (n : Nat) {G : World → Prop} (hG : Know Inv G) : ∀ c ∈ jStart_ct n, FCok Try.prog G c ∧ noTup c.args = true := List.forall_mem_cons.2 ⟨jHead_ok n G hG, List.forall_mem_cons.2 ⟨jChk_ok n G hG, (fun _ h => by cases h)⟩⟩
def jStart_dh : Hints := []
theorem jStart_dr : drB jStart_dh (bodyOf Try.f16) = true := by kernel_rfl
theorem jStart_eq (n : Nat) : ∀ a, (jStart_fc n).F a = main Try.prog 26 (jStart_ct n) (jStart_lts n) jStart_dh (bodyOf Try.f16) [.tmp 4, .tmp 5] (jStart_fc n).args (jStart_fc n).res a := by intro a; kernel_rfl
theorem jStart_ok (n : Nat) : FCall Inv Try.prog (jStart_fc n) := fun G hG => ⟨⟨by kernel_rfl, fun a r h => main_ok (c := bodyOf Try.f16) Try.func16 (by kernel_rfl) (by kernel_rfl) (Nat.le_of_ble_eq_true (by kernel_rfl)) hG.st (by kernel_rfl) (rs := [.tmp 4, .tmp 5]) (by kernel_rfl) (jStart_ctok n hG) (lts := jStart_lts n) (fun F hF hFG => have hK : Know Inv F.G := hFG ▸ hG; (lok_of fun j L h1 h2 h3 => absurd h2 (Nat.not_lt.2 (Nat.le_trans (by decide +kernel) h1)))) jStart_dr ((jStart_eq n a).symm.trans h)⟩, rfl⟩
/-! armada/journal.Add -/
@[reducible] def jAdd_sh0 : SSt := ⟨[(8, .one (.c (.box 8 0))), (9, .one (.c (.d .str))), (11, .one (.c (.row 74))), (58, .one (.c (.d (.lst .str)))), (59, .one (.c (.d (.int .i64)))), (60, .one (.c (.d (.int .i64))))], [(8, (76, [.d (.int .i64), .d (.int .i64), .d (.int .i64)]))], [(74, ⟨82, true, (.prod .bool (.prod (.int .i64) .str))⟩)]⟩
@[reducible] def jAdd_outs0 : List (Exit × SSt) := [(.exit 0, ⟨[(8, .one (.c (.box 8 0))), (9, .one (.c (.d .str))), (11, .one (.c (.row 74)))], [(8, (76, [.d (.int .i64), .d (.int .i64), .d (.int .i64)]))], [(74, ⟨82, true, (.prod .bool (.prod (.int .i64) .str))⟩)]⟩)]
def jAdd_l0 (n : Nat) (rec : (List UInt8) → (List (List UInt8)) → Int → Int → Int → Int → Int → (List ((Bool) × ((Int) × (List UInt8)))) → Option ((Unit × ((List UInt8) × (Unit × (Unit)))) × ((Int × (Int × (Int))) × (Unit)) × ((List ((Bool) × ((Int) × (List UInt8)))) × (Unit)))) (a1 : List UInt8) (a2 : List (List UInt8)) (a3 : Int) (a4 : Int) (a5 : Int) (a6 : Int) (a7 : Int) (a8 : List ((Bool) × ((Int) × (List UInt8)))) : Option ((Unit × ((List UInt8) × (Unit × (Unit)))) × ((Int × (Int × (Int))) × (Unit)) × ((List ((Bool) × ((Int) × (List UInt8)))) × (Unit))) :=
  (bif decide (a4 < a3) then (idxL a2 a4).bind fun (x7 : List UInt8) => letO (IntKind.wrap .i64 (a7 + (1 : Int))) fun (n8 : Int) => letO (IntKind.wrap .i64 (n8 + a4)) fun (n9 : Int) => (appO 32 a8 ([(false, (n9, x7))] : List ((Bool) × ((Int) × (List UInt8))))).bind fun (l10 : List ((Bool) × ((Int) × (List UInt8)))) => letO (IntKind.wrap .i64 (a4 + (1 : Int))) fun (n11 : Int) => rec a1 a2 a3 n11 a5 a6 a7 l10 else some ((((), (a1, ((), ()))), (((a5, (a6, a7)), ()), (a8, ())))))
def jAdd_F0 (n : Nat) (rec : pSt jAdd_sh0 → Option (pOuts jAdd_outs0)) (p : pSt jAdd_sh0) : Option (pOuts jAdd_outs0) := jAdd_l0 n (fun a1 a2 a3 a4 a5 a6 a7 a8 => rec (((), (a1, ((), (a2, (a3, (a4, ())))))), (((a5, (a6, a7)), ()), (a8, ())))) p.1.2.1 p.1.2.2.2.1 p.1.2.2.2.2.1 p.1.2.2.2.2.2.1 p.2.1.1.1 p.2.1.1.2.1 p.2.1.1.2.2 p.2.2.1
def jAdd_loop0 (n m : Nat) (a1 : List UInt8) (a2 : List (List UInt8)) (a3 : Int) (a4 : Int) (a5 : Int) (a6 : Int) (a7 : Int) (a8 : List ((Bool) × ((Int) × (List UInt8)))) : Option ((Unit × ((List UInt8) × (Unit × (Unit)))) × ((Int × (Int × (Int))) × (Unit)) × ((List ((Bool) × ((Int) × (List UInt8)))) × (Unit))) := iterF (jAdd_F0 n) m (((), (a1, ((), (a2, (a3, (a4, ())))))), (((a5, (a6, a7)), ()), (a8, ())))
theorem jAdd_loop0_succ (n m : Nat) (a1 : List UInt8) (a2 : List (List UInt8)) (a3 : Int) (a4 : Int) (a5 : Int) (a6 : Int) (a7 : Int) (a8 : List ((Bool) × ((Int) × (List UInt8)))) : jAdd_loop0 n (m + 1) a1 a2 a3 a4 a5 a6 a7 a8 = jAdd_l0 n (fun a1 a2 a3 a4 a5 a6 a7 a8 => jAdd_loop0 n m a1 a2 a3 a4 a5 a6 a7 a8) a1 a2 a3 a4 a5 a6 a7 a8 := rfl
def jAdd_L0 (n : Nat) : LC := { sh := jAdd_sh0, outs := jAdd_outs0, F := iterF (jAdd_F0 n) n }
def jAdd_lts (n : Nat) : List LC := [jAdd_L0 n]
def jAdd_t (n : Nat) (a1 : Int × (Int)) (a2 : Int × ((List (List UInt8)) × (Int))) (a3 : List UInt8) : Option ((List ((Bool) × ((Int) × (List UInt8)))) × (Int)) :=
  (jNxt_t n (a1.1, (a1.2, a2.2.2))).bind fun (r1 : Bool) => (bif !r1 then some ([], (1 : Int)) else (bif decide (a2.1 < (0 : Int)) then some ([], (1 : Int)) else (bif decide ((1073741824 : Int) < a2.1) then some ([], (1 : Int)) else (bif decide ((65535 : Int) < ((List.length a2.2.1 : Nat) : Int)) then some ([], (1 : Int)) else (bif decide ((4096 : Int) < ((List.length a3 : Nat) : Int)) then some ([], (2 : Int)) else (jRoom_t n (a1.1, (a1.2, a2.2.2))).bind fun (r2 : Int) => (jcount_t ((List.length a3 : Nat) : Int)).bind fun (r3 : Int) => letO (IntKind.wrap .i64 ((1 : Int) + r3)) fun (n4 : Int) => (bif decide (r2 < n4) then some ([], (3 : Int)) else ((jHead_fc n).F ((2 : Int), (a2.1, (((List.length a2.2.1 : Nat) : Int), a3)))).bind fun (r5 : (List UInt8) × (Bool)) => (jcut_t a3).bind fun (r6 : List (List UInt8)) => (jAdd_loop0 n n r5.1 r6 ((List.length r6 : Nat) : Int) (0 : Int) a1.1 a1.2 a2.2.2 []).bind fun (o12 : (Unit × ((List UInt8) × (Unit × (Unit)))) × ((Int × (Int × (Int))) × (Unit)) × ((List ((Bool) × ((Int) × (List UInt8)))) × (Unit))) => (appO 32 o12.2.2.1 ([(true, ((0 : Int), ([] : List UInt8))), (false, (o12.2.1.1.2.2, o12.1.2.1)), (true, ((0 : Int), ([] : List UInt8)))] : List ((Bool) × ((Int) × (List UInt8))))).bind fun (l13 : List ((Bool) × ((Int) × (List UInt8)))) => some (l13, (0 : Int))))))))
def jAdd_fc (n : Nat) : FC := { f := 11, args := [.one (.agg [.d (.int .i64), .d (.int .i64)]), .one (.agg [.d (.int .i64), .d (.lst .str), .d (.int .i64)]), .one (.c (.d .str))], res := .tup [.c (.d (.lst (.prod .bool (.prod (.int .i64) .str)))), .c (.d (.int .i64))], F := fun p => jAdd_t n p.1 p.2.1 p.2.2 }
def jAdd_ct (n : Nat) : List FC := [jNxt_fc n, jRoom_fc n, jcount_fc, jHead_fc n, jcut_fc]
theorem jAdd_ctok (n : Nat) {G : World → Prop} (hG : Know Inv G) : ∀ c ∈ jAdd_ct n, FCok Try.prog G c ∧ noTup c.args = true := List.forall_mem_cons.2 ⟨jNxt_ok n G hG, List.forall_mem_cons.2 ⟨jRoom_ok n G hG, List.forall_mem_cons.2 ⟨jcount_ok G hG, List.forall_mem_cons.2 ⟨jHead_ok n G hG, List.forall_mem_cons.2 ⟨jcut_ok G hG, (fun _ h => by cases h)⟩⟩⟩⟩⟩
def jAdd_dh : Hints := []
theorem jAdd_dr : drB jAdd_dh (bodyOf Try.f11) = true := by kernel_rfl
theorem jAdd_eq0 (n : Nat) : ∀ rec p, jAdd_F0 n rec p = round Try.prog 85 (jAdd_ct n) (jAdd_lts n) jAdd_dh 1 jAdd_sh0 jAdd_outs0 (bodyAt 0 0 (bodyOf Try.f11)) rec p := by intro rec p; kernel_rfl
theorem jAdd_lok0 (n : Nat) {F : Fr} (hF : F.n = 85) (hK : Know Inv F.G) : LCok Try.prog F (jAdd_L0 n) (bodyAt 0 0 (bodyOf Try.f11)) :=
  loop_ok hF (by kernel_rfl) (jAdd_ctok n hK) (jAdd_eq0 n) (fuel := n) (fun _ => rfl) (lok_of fun j L h1 h2 h3 => absurd h2 (Nat.not_lt.2 (Nat.le_trans (by decide +kernel) h1))) (drB_at jAdd_dr)
theorem jAdd_eq (n : Nat) : ∀ a, (jAdd_fc n).F a = main Try.prog 85 (jAdd_ct n) (jAdd_lts n) jAdd_dh (bodyOf Try.f11) [.tmp 6, .tmp 7] (jAdd_fc n).args (jAdd_fc n).res a := by intro a; kernel_rfl
theorem jAdd_ok (n : Nat) : FCall Inv Try.prog (jAdd_fc n) := fun G hG => ⟨⟨by kernel_rfl, fun a r h => main_ok (c := bodyOf Try.f11) Try.func11 (by kernel_rfl) (by kernel_rfl) (Nat.le_of_ble_eq_true (by kernel_rfl)) hG.st (by kernel_rfl) (rs := [.tmp 6, .tmp 7]) (by kernel_rfl) (jAdd_ctok n hG) (lts := jAdd_lts n) (fun F hF hFG => have hK : Know Inv F.G := hFG ▸ hG; (lok_of (c := (bodyOf Try.f11)) (fun j L h1 h2 h3 => by
    have h2' : j < 1 := Nat.lt_of_lt_of_le h2 (by decide +kernel)
    match j, h1, h2', h3 with
    | 0, _, _, h3 => obtain rfl := Option.some.inj h3; exact (show bodyAt 0 0 (bodyOf Try.f11) = bodyAt 0 0 (bodyOf Try.f11) by kernel_rfl) ▸ jAdd_lok0 n hF hK
    | j + 1, _, h2', _ => exact absurd h2' (by omega)))) jAdd_dr ((jAdd_eq n a).symm.trans h)⟩, rfl⟩
/-! armada/journal.Clean -/
@[reducible] def jClean_sh0 : SSt := ⟨[(4, .one (.c (.box 4 0))), (5, .one (.c (.box 5 0))), (7, .one (.c (.d (.lst .str)))), (9, .one (.c (.d (.int .i64))))], [(4, (33, [.d (.int .i64), .d (.int .i64)])), (5, (35, [.d (.int .i64), .d (.lst .str), .d (.int .i64)]))], []⟩
@[reducible] def jClean_outs0 : List (Exit × SSt) := [(.ret, ⟨[(6, .one (.c (.d .bool)))], [], []⟩), (.exit 0, ⟨[], [], []⟩)]
def jClean_l0 (n : Nat) (rec : (List (List UInt8)) → Int → Int → Int → Int → (List (List UInt8)) → Int → Option (((Bool × (Unit)) × (Unit) × (Unit)) ⊕ ((Unit) × (Unit) × (Unit)))) (a1 : List (List UInt8)) (a2 : Int) (a3 : Int) (a4 : Int) (a5 : Int) (a6 : List (List UInt8)) (a7 : Int) : Option (((Bool × (Unit)) × (Unit) × (Unit)) ⊕ ((Unit) × (Unit) × (Unit))) :=
  letO (IntKind.wrap .i64 (a3 + a4)) fun (n3 : Int) => (bif decide (a2 < n3) then (idxL a1 a2).bind fun (x4 : List UInt8) => (jread_t x4).bind fun (r5 : (Int × (Int × (Int × (Int × (Int))))) × (Bool)) => (bif r5.2 then (bif decide (r5.1.1 = (2 : Int)) then (bif decide (r5.1.2.1 = a5) then (bif decide (((List.length a6 : Nat) : Int) ≤ r5.1.2.2.1) then some (Sum.inl ((false, ()), ((), ()))) else letO (IntKind.wrap .i64 (a2 + (1 : Int))) fun (n6 : Int) => rec a1 n6 a3 a4 a5 a6 a7) else letO (IntKind.wrap .i64 (a2 + (1 : Int))) fun (n7 : Int) => rec a1 n7 a3 a4 a5 a6 a7) else letO (IntKind.wrap .i64 (a2 + (1 : Int))) fun (n8 : Int) => rec a1 n8 a3 a4 a5 a6 a7) else letO (IntKind.wrap .i64 (a2 + (1 : Int))) fun (n9 : Int) => rec a1 n9 a3 a4 a5 a6 a7) else some (Sum.inr (((), ((), ())))))
def jClean_F0 (n : Nat) (rec : pSt jClean_sh0 → Option (pOuts jClean_outs0)) (p : pSt jClean_sh0) : Option (pOuts jClean_outs0) := jClean_l0 n (fun a1 a2 a3 a4 a5 a6 a7 => rec (((), ((), (a1, (a2, ())))), (((a3, a4), ((a5, (a6, a7)), ())), ()))) p.1.2.2.1 p.1.2.2.2.1 p.2.1.1.1 p.2.1.1.2 p.2.1.2.1.1 p.2.1.2.1.2.1 p.2.1.2.1.2.2
def jClean_loop0 (n m : Nat) (a1 : List (List UInt8)) (a2 : Int) (a3 : Int) (a4 : Int) (a5 : Int) (a6 : List (List UInt8)) (a7 : Int) : Option (((Bool × (Unit)) × (Unit) × (Unit)) ⊕ ((Unit) × (Unit) × (Unit))) := iterF (jClean_F0 n) m (((), ((), (a1, (a2, ())))), (((a3, a4), ((a5, (a6, a7)), ())), ()))
theorem jClean_loop0_succ (n m : Nat) (a1 : List (List UInt8)) (a2 : Int) (a3 : Int) (a4 : Int) (a5 : Int) (a6 : List (List UInt8)) (a7 : Int) : jClean_loop0 n (m + 1) a1 a2 a3 a4 a5 a6 a7 = jClean_l0 n (fun a1 a2 a3 a4 a5 a6 a7 => jClean_loop0 n m a1 a2 a3 a4 a5 a6 a7) a1 a2 a3 a4 a5 a6 a7 := rfl
def jClean_L0 (n : Nat) : LC := { sh := jClean_sh0, outs := jClean_outs0, F := iterF (jClean_F0 n) n }
def jClean_lts (n : Nat) : List LC := [jClean_L0 n]
def jClean_t (n : Nat) (a1 : (List (List UInt8)) × (List ((Int) × (List UInt8)))) (a2 : Int × (Int)) (a3 : Int × ((List (List UInt8)) × (Int))) : Option (Bool) :=
  (jSec_t n a1 a2).bind fun (r1 : (List (List UInt8)) × (Bool)) => (bif !r1.2 then some false else letO (max a3.2.2 a2.1) fun (n2 : Int) => (jClean_loop0 n n r1.1 n2 a2.1 a2.2 a3.1 a3.2.1 a3.2.2).bind fun (o10 : ((Bool × (Unit)) × (Unit) × (Unit)) ⊕ ((Unit) × (Unit) × (Unit))) => Sum.elim (fun (q11 : (Bool × (Unit)) × (Unit) × (Unit)) => some q11.1.1) (fun (q12 : (Unit) × (Unit) × (Unit)) => some true) o10)
def jClean_fc (n : Nat) : FC := { f := 10, args := [.one (.agg [.d (.lst .str), .d (.lst (.prod (.int .i64) .str))]), .one (.agg [.d (.int .i64), .d (.int .i64)]), .one (.agg [.d (.int .i64), .d (.lst .str), .d (.int .i64)])], res := .one (.c (.d .bool)), F := fun p => jClean_t n p.1 p.2.1 p.2.2 }
def jClean_ct (n : Nat) : List FC := [jSec_fc n, jread_fc]
theorem jClean_ctok (n : Nat) {G : World → Prop} (hG : Know Inv G) : ∀ c ∈ jClean_ct n, FCok Try.prog G c ∧ noTup c.args = true := List.forall_mem_cons.2 ⟨jSec_ok n G hG, List.forall_mem_cons.2 ⟨jread_ok G hG, (fun _ h => by cases h)⟩⟩
def jClean_dh : Hints := []
theorem jClean_dr : drB jClean_dh (bodyOf Try.f10) = true := by kernel_rfl
theorem jClean_eq0 (n : Nat) : ∀ rec p, jClean_F0 n rec p = round Try.prog 63 (jClean_ct n) (jClean_lts n) jClean_dh 1 jClean_sh0 jClean_outs0 (bodyAt 0 0 (bodyOf Try.f10)) rec p := by intro rec p; kernel_rfl
theorem jClean_lok0 (n : Nat) {F : Fr} (hF : F.n = 63) (hK : Know Inv F.G) : LCok Try.prog F (jClean_L0 n) (bodyAt 0 0 (bodyOf Try.f10)) :=
  loop_ok hF (by kernel_rfl) (jClean_ctok n hK) (jClean_eq0 n) (fuel := n) (fun _ => rfl) (lok_of fun j L h1 h2 h3 => absurd h2 (Nat.not_lt.2 (Nat.le_trans (by decide +kernel) h1))) (drB_at jClean_dr)
theorem jClean_eq (n : Nat) : ∀ a, (jClean_fc n).F a = main Try.prog 63 (jClean_ct n) (jClean_lts n) jClean_dh (bodyOf Try.f10) [.tmp 6] (jClean_fc n).args (jClean_fc n).res a := by intro a; kernel_rfl
theorem jClean_ok (n : Nat) : FCall Inv Try.prog (jClean_fc n) := fun G hG => ⟨⟨by kernel_rfl, fun a r h => main_ok (c := bodyOf Try.f10) Try.func10 (by kernel_rfl) (by kernel_rfl) (Nat.le_of_ble_eq_true (by kernel_rfl)) hG.st (by kernel_rfl) (rs := [.tmp 6]) (by kernel_rfl) (jClean_ctok n hG) (lts := jClean_lts n) (fun F hF hFG => have hK : Know Inv F.G := hFG ▸ hG; (lok_of (c := (bodyOf Try.f10)) (fun j L h1 h2 h3 => by
    have h2' : j < 1 := Nat.lt_of_lt_of_le h2 (by decide +kernel)
    match j, h1, h2', h3 with
    | 0, _, _, h3 => obtain rfl := Option.some.inj h3; exact (show bodyAt 0 0 (bodyOf Try.f10) = bodyAt 0 0 (bodyOf Try.f10) by kernel_rfl) ▸ jClean_lok0 n hF hK
    | j + 1, _, h2', _ => exact absurd h2' (by omega)))) jClean_dr ((jClean_eq n a).symm.trans h)⟩, rfl⟩
/-! armada/armadaref04.Check -/
def r4Chk_lts (n : Nat) : List LC := []
def r4Chk_t (n : Nat) (a1 : Int × (Int)) : Option (Bool) :=
  (bif decide ((0 : Int) ≤ a1.1) then (bif decide ((2 : Int) ≤ a1.2) then (bif decide (a1.2 ≤ (512 : Int)) then letO (IntKind.wrap .i64 ((512 : Int) - a1.2)) fun (n1 : Int) => some (decide (a1.1 ≤ n1)) else some false) else some false) else some false)
def r4Chk_fc (n : Nat) : FC := { f := 42, args := [.one (.agg [.d (.int .i64), .d (.int .i64)])], res := .one (.c (.d .bool)), F := fun p => r4Chk_t n p }
def r4Chk_ct (n : Nat) : List FC := []
theorem r4Chk_ctok (n : Nat) {G : World → Prop} (hG : Know Inv G) : ∀ c ∈ r4Chk_ct n, FCok Try.prog G c ∧ noTup c.args = true := (fun _ h => by cases h)
def r4Chk_dh : Hints := []
theorem r4Chk_dr : drB r4Chk_dh (bodyOf Try.f42) = true := by kernel_rfl
theorem r4Chk_eq (n : Nat) : ∀ a, (r4Chk_fc n).F a = main Try.prog 24 (r4Chk_ct n) (r4Chk_lts n) r4Chk_dh (bodyOf Try.f42) [.tmp 2] (r4Chk_fc n).args (r4Chk_fc n).res a := by intro a; kernel_rfl
theorem r4Chk_ok (n : Nat) : FCall Inv Try.prog (r4Chk_fc n) := fun G hG => ⟨⟨by kernel_rfl, fun a r h => main_ok (c := bodyOf Try.f42) Try.func42 (by kernel_rfl) (by kernel_rfl) (Nat.le_of_ble_eq_true (by kernel_rfl)) hG.st (by kernel_rfl) (rs := [.tmp 2]) (by kernel_rfl) (r4Chk_ctok n hG) (lts := r4Chk_lts n) (fun F hF hFG => have hK : Know Inv F.G := hFG ▸ hG; (lok_of fun j L h1 h2 h3 => absurd h2 (Nat.not_lt.2 (Nat.le_trans (by decide +kernel) h1)))) r4Chk_dr ((r4Chk_eq n a).symm.trans h)⟩, rfl⟩
/-! armada/armadaref04.Lies -/
def r4Lies_lts (n : Nat) : List LC := []
def r4Lies_t (n : Nat) (a1 : (List (List UInt8)) × (List ((Int) × (List UInt8)))) (a2 : Int × (Int)) : Option (Bool) :=
  (r4Chk_t n a2).bind fun (r1 : Bool) => (bif r1 then (rmay_t a1).bind fun (r2 : Bool) => (bif r2 then letO (IntKind.wrap .i64 (a2.1 + a2.2)) fun (n3 : Int) => some (decide (n3 ≤ ((List.length a1.1 : Nat) : Int))) else some false) else some false)
def r4Lies_fc (n : Nat) : FC := { f := 15, args := [.one (.agg [.d (.lst .str), .d (.lst (.prod (.int .i64) .str))]), .one (.agg [.d (.int .i64), .d (.int .i64)])], res := .one (.c (.d .bool)), F := fun p => r4Lies_t n p.1 p.2 }
def r4Lies_ct (n : Nat) : List FC := [r4Chk_fc n, rmay_fc]
theorem r4Lies_ctok (n : Nat) {G : World → Prop} (hG : Know Inv G) : ∀ c ∈ r4Lies_ct n, FCok Try.prog G c ∧ noTup c.args = true := List.forall_mem_cons.2 ⟨r4Chk_ok n G hG, List.forall_mem_cons.2 ⟨rmay_ok G hG, (fun _ h => by cases h)⟩⟩
def r4Lies_dh : Hints := []
theorem r4Lies_dr : drB r4Lies_dh (bodyOf Try.f15) = true := by kernel_rfl
theorem r4Lies_eq (n : Nat) : ∀ a, (r4Lies_fc n).F a = main Try.prog 22 (r4Lies_ct n) (r4Lies_lts n) r4Lies_dh (bodyOf Try.f15) [.tmp 4] (r4Lies_fc n).args (r4Lies_fc n).res a := by intro a; kernel_rfl
theorem r4Lies_ok (n : Nat) : FCall Inv Try.prog (r4Lies_fc n) := fun G hG => ⟨⟨by kernel_rfl, fun a r h => main_ok (c := bodyOf Try.f15) Try.func15 (by kernel_rfl) (by kernel_rfl) (Nat.le_of_ble_eq_true (by kernel_rfl)) hG.st (by kernel_rfl) (rs := [.tmp 4]) (by kernel_rfl) (r4Lies_ctok n hG) (lts := r4Lies_lts n) (fun F hF hFG => have hK : Know Inv F.G := hFG ▸ hG; (lok_of fun j L h1 h2 h3 => absurd h2 (Nat.not_lt.2 (Nat.le_trans (by decide +kernel) h1)))) r4Lies_dr ((r4Lies_eq n a).symm.trans h)⟩, rfl⟩
/-! armada/armadaref04.Same -/
def r4Same_lts (n : Nat) : List LC := []
def r4Same_t (n : Nat) (a1 : Int × ((List (List UInt8)) × (Int))) (a2 : Int × ((List (List UInt8)) × (Int))) : Option (Bool) :=
  (bif decide (a1.1 = a2.1) then (bif decide (a1.2.2 = a2.2.2) then (jrsam3_t a1.2.1 a2.2.1).bind fun (r1 : Bool) => some r1 else some false) else some false)
def r4Same_fc (n : Nat) : FC := { f := 22, args := [.one (.agg [.d (.int .i64), .d (.lst .str), .d (.int .i64)]), .one (.agg [.d (.int .i64), .d (.lst .str), .d (.int .i64)])], res := .one (.c (.d .bool)), F := fun p => r4Same_t n p.1 p.2 }
def r4Same_ct (n : Nat) : List FC := [jrsam3_fc]
theorem r4Same_ctok (n : Nat) {G : World → Prop} (hG : Know Inv G) : ∀ c ∈ r4Same_ct n, FCok Try.prog G c ∧ noTup c.args = true := List.forall_mem_cons.2 ⟨jrsam3_ok G hG, (fun _ h => by cases h)⟩
def r4Same_dh : Hints := []
theorem r4Same_dr : drB r4Same_dh (bodyOf Try.f22) = true := by kernel_rfl
theorem r4Same_eq (n : Nat) : ∀ a, (r4Same_fc n).F a = main Try.prog 24 (r4Same_ct n) (r4Same_lts n) r4Same_dh (bodyOf Try.f22) [.tmp 4] (r4Same_fc n).args (r4Same_fc n).res a := by intro a; kernel_rfl
theorem r4Same_ok (n : Nat) : FCall Inv Try.prog (r4Same_fc n) := fun G hG => ⟨⟨by kernel_rfl, fun a r h => main_ok (c := bodyOf Try.f22) Try.func22 (by kernel_rfl) (by kernel_rfl) (Nat.le_of_ble_eq_true (by kernel_rfl)) hG.st (by kernel_rfl) (rs := [.tmp 4]) (by kernel_rfl) (r4Same_ctok n hG) (lts := r4Same_lts n) (fun F hF hFG => have hK : Know Inv F.G := hFG ▸ hG; (lok_of fun j L h1 h2 h3 => absurd h2 (Nat.not_lt.2 (Nat.le_trans (by decide +kernel) h1)))) r4Same_dr ((r4Same_eq n a).symm.trans h)⟩, rfl⟩
/-! armada/armadalaw04.told -/
def l4told_lts (n : Nat) : List LC := []
def l4told_t (n : Nat) (a1 : Int × ((List (List UInt8)) × (Int))) : Option (Int × ((List (List UInt8)) × (Int))) :=
  some a1
def l4told_fc (n : Nat) : FC := { f := 23, args := [.one (.agg [.d (.int .i64), .d (.lst .str), .d (.int .i64)])], res := .one (.agg [.d (.int .i64), .d (.lst .str), .d (.int .i64)]), F := fun p => l4told_t n p }
def l4told_ct (n : Nat) : List FC := []
theorem l4told_ctok (n : Nat) {G : World → Prop} (hG : Know Inv G) : ∀ c ∈ l4told_ct n, FCok Try.prog G c ∧ noTup c.args = true := (fun _ h => by cases h)
def l4told_dh : Hints := []
theorem l4told_dr : drB l4told_dh (bodyOf Try.f23) = true := by kernel_rfl
theorem l4told_eq (n : Nat) : ∀ a, (l4told_fc n).F a = main Try.prog 10 (l4told_ct n) (l4told_lts n) l4told_dh (bodyOf Try.f23) [.cell 2 65] (l4told_fc n).args (l4told_fc n).res a := by intro a; kernel_rfl
theorem l4told_ok (n : Nat) : FCall Inv Try.prog (l4told_fc n) := fun G hG => ⟨⟨by kernel_rfl, fun a r h => main_ok (c := bodyOf Try.f23) Try.func23 (by kernel_rfl) (by kernel_rfl) (Nat.le_of_ble_eq_true (by kernel_rfl)) hG.st (by kernel_rfl) (rs := [.cell 2 65]) (by kernel_rfl) (l4told_ctok n hG) (lts := l4told_lts n) (fun F hF hFG => have hK : Know Inv F.G := hFG ▸ hG; (lok_of fun j L h1 h2 h3 => absurd h2 (Nat.not_lt.2 (Nat.le_trans (by decide +kernel) h1)))) l4told_dr ((l4told_eq n a).symm.trans h)⟩, rfl⟩
end Go.Proofs.Ytabmdijfholakaa.AM

/- Plain lemmas on the partial functions that operations are, at natural numbers. -/
namespace Go.Proofs.Ytabmdijfholakaa.AM
open Go.RowKit
set_option linter.unusedVariables false
theorem nth_lt {β : Type} {l : List β} {j : Nat} (h : j < l.length) : nth l j = some l[j] := by rw [nth_eq, List.getElem?_eq_getElem h]
theorem idx_lt {β : Type} {l : List β} {j : Nat} (h : j < l.length) : idxL l (j : Int) = some l[j] := by
  unfold idxL; rw [if_pos (by omega), Int.toNat_natCast, nth_lt h]
theorem sub_le {β : Type} {l : List β} {a b : Nat} (h1 : a ≤ b) (h2 : b ≤ l.length) : subO l (a : Int) (b : Int) = some ((l.drop a).take (b - a)) := by
  unfold subO; rw [if_pos ⟨by omega, by omega, by omega⟩, Int.toNat_natCast, Int.toNat_natCast]
theorem sub_zero {β : Type} {l : List β} {b : Nat} (h2 : b ≤ l.length) : subO l (0 : Int) (b : Int) = some (l.take b) := by
  have := sub_le (l := l) (a := 0) (b := b) (Nat.zero_le _) h2
  simpa using this
theorem app_le {β : Type} {k : Nat} {xs ys : List β} (h : (xs.length + ys.length) * k ≤ 140737488355328) : appO k xs ys = some (xs ++ ys) := by
  unfold appO; rw [if_pos h]
theorem wrap_succ {i : Nat} (h : i < 4611686018427387904) : IntKind.wrap .i64 ((i : Int) + 1) = ((i + 1 : Nat) : Int) := by rw [wrap64 (by omega) (by omega)]; rfl
theorem wrap_add {i j : Nat} (h : i < 1000000000000) (h2 : j < 1000000000000) : IntKind.wrap .i64 ((i : Int) + (j : Int)) = ((i + j : Nat) : Int) := by rw [wrap64 (by omega) (by omega)]; omega
end Go.Proofs.Ytabmdijfholakaa.AM

/- Records in sectors: what is cut is joined again; what is a head, and what is none. -/
namespace Go.Proofs.Ytabmdijfholakaa
open Go.RowKit
namespace RM
theorem tail_sec (s : ByteArray) (i : Nat) : (sec s i).data.toList.drop 1 = (s.data.toList.drop (31 * i)).take 31 ++ List.replicate (32 - (68 :: (s.data.toList.drop (31 * i)).take 31).length) 0 := rfl
theorem allL_range (s : ByteArray) (k : Nat) (hk : 31 * k ≤ s.size + 30) : (allL ((List.range k).map (sec s))).take (min (31 * k) s.size) = s.data.toList.take (31 * k) := by
  have hs : s.data.toList.length = s.size := by simp
  induction k with
  | zero => simp
  | succ k ih =>
    have hlen : (allL ((List.range k).map (sec s))).length = 31 * k := by
      rw [allL_length _ (by intro x hx; obtain ⟨i, _, rfl⟩ := List.mem_map.1 hx; exact sec_size s i)]; simp
    have ih := ih (by omega)
    rw [Nat.min_eq_left (by omega), List.take_of_length_le (by omega)] at ih
    have e1 : allL ((List.range (k + 1)).map (sec s)) = allL ((List.range k).map (sec s)) ++ (sec s k).data.toList.drop 1 := by
      rw [cut_snoc]; unfold allL; simp
    rw [e1, tail_sec, ih, show 31 * (k + 1) = 31 * k + 31 from by omega, List.take_add, ← List.append_assoc]
    have hl2 : (List.take (31 * k) s.data.toList ++ List.take 31 (List.drop (31 * k) s.data.toList)).length = min (31 * k + 31) s.size := by
      simp; omega
    rw [← hl2, List.take_left]
theorem cutN_small (s : ByteArray) (h : s.size ≤ 4096) : cutN s = (s.size + 30) / 31 := by unfold cutN; rw [if_pos h]
theorem countF_cut (s : ByteArray) (h : s.size ≤ 4096) : countF (s.size : Int) = (cutN s : Int) := by
  unfold countF; rw [if_pos (by omega), cutN_small s h]; omega
theorem joinS_cut (s : ByteArray) (h : s.size ≤ 4096) : joinS (cutL s) (s.size : Int) = s := by
  have hs : s.data.toList.length = s.size := by simp
  have hn := cutN_small s h
  have e := allL_range s (cutN s) (by omega)
  unfold joinS
  rw [Nat.min_eq_right (by omega)] at e
  rw [show (s.size : Int).toNat = s.size from by omega]
  unfold cutL
  rw [e, List.take_of_length_le (by omega), str_self]
theorem joinOk_cut (s : ByteArray) (h : s.size ≤ 4096) : joinOk (cutL s) (s.size : Int) := by
  refine ⟨?_, ?_, ?_⟩
  · rw [cutL_length, countF_cut s h]
  · intro x hx; obtain ⟨i, _, rfl⟩ := List.mem_map.1 hx; exact sec_size s i
  · rw [joinS_cut s h]
theorem joinB_cut (s : ByteArray) (h : s.size ≤ 4096) : joinB (cutL s) (s.size : Int) = s := by rw [joinB_yes _ _ (joinOk_cut s h), joinS_cut s h]
theorem joinB_size (l : List ByteArray) (n : Int) (h : joinOk l n) : 0 ≤ n ∧ ((joinB l n).size : Int) = n ∧ countF n = (l.length : Int) := by
  have h1 := count_in l.length n h.1
  obtain ⟨m, rfl⟩ : ∃ m : Nat, n = (m : Int) := ⟨n.toNat, by omega⟩
  refine ⟨h1.1, ?_, h.1.symm⟩
  rw [joinB_yes _ _ h, joinS_size l m h.2.1 (by omega)]
theorem sec_first (s : ByteArray) (i : Nat) : (sec s i).data.toList.head? = some 68 := rfl
theorem text_first (k g q z m : Int) : (str (textL k g q z m)).data.toList.head? = some 72 := rfl
theorem sec_text (s : ByteArray) (i : Nat) (k g q z m : Int) : sec s i ≠ str (textL k g q z m) := by
  intro h
  have := sec_first s i
  rw [h, text_first] at this
  simp at this
theorem sec_not_head (s : ByteArray) (i : Nat) : ¬ readOk (sec s i) := fun h => sec_text s i _ _ _ _ _ h.2.2.symm
theorem num_be4 (a b c d : UInt8) (l r : List UInt8) (k : Nat) (hl : l.length = k) : num (l ++ a :: b :: c :: d :: r) k = (a.toNat : Int) * 16777216 + (b.toNat : Int) * 65536 + (c.toNat : Int) * 256 + (d.toNat : Int) := by
  subst hl
  unfold num
  simp [List.getD]
theorem be4_num (n : Int) (h0 : 0 ≤ n) (h1 : n < 4294967296) : ((UInt8.ofNat (n / 16777216 % 256).toNat).toNat : Int) * 16777216 + ((UInt8.ofNat (n / 65536 % 256).toNat).toNat : Int) * 65536 + ((UInt8.ofNat (n / 256 % 256).toNat).toNat : Int) * 256 + ((UInt8.ofNat (n % 256).toNat).toNat : Int) = n := by
  rw [u8_ofNat _ (by omega) (by omega), u8_ofNat _ (by omega) (by omega), u8_ofNat _ (by omega) (by omega), u8_ofNat _ (by omega) (by omega)]
  omega
theorem textL_flat (k g q z m : Int) : ∃ r, textL k g q z m = [72, UInt8.ofNat k.toNat] ++ (be4 g ++ (be4 q ++ (be4 z ++ (be4 m ++ r)))) := ⟨_, rfl⟩
theorem text_nums (k g q z m : Int) (h : may k g q z m) : kindF (str (textL k g q z m)) = k ∧ numAt (str (textL k g q z m)) 2 = g ∧ numAt (str (textL k g q z m)) 6 = q ∧ numAt (str (textL k g q z m)) 10 = z ∧ numAt (str (textL k g q z m)) 14 = m := by
  obtain ⟨hk, hg, hq, hz, hm⟩ := h
  have hm2 := SM.isSum_lt hm
  obtain ⟨r, hr⟩ := textL_flat k g q z m
  unfold numAt kindF
  rw [str_list]
  refine ⟨?_, ?_, ?_, ?_, ?_⟩
  · rw [hr]
    show ((UInt8.ofNat k.toNat).toNat : Int) = k
    exact u8_ofNat k (by omega) (by omega)
  · rw [hr]
    exact (num_be4 _ _ _ _ [72, UInt8.ofNat k.toNat] _ 2 rfl).trans (be4_num g (by omega) (by omega))
  · rw [hr, ← List.append_assoc]
    exact (num_be4 _ _ _ _ ([72, UInt8.ofNat k.toNat] ++ be4 g) _ 6 rfl).trans (be4_num q (by omega) (by omega))
  · rw [hr, ← List.append_assoc, ← List.append_assoc]
    exact (num_be4 _ _ _ _ ([72, UInt8.ofNat k.toNat] ++ be4 g ++ be4 q) _ 10 rfl).trans (be4_num z (by omega) (by omega))
  · rw [hr, ← List.append_assoc, ← List.append_assoc, ← List.append_assoc]
    exact (num_be4 _ _ _ _ ([72, UInt8.ofNat k.toNat] ++ be4 g ++ be4 q ++ be4 z) _ 14 rfl).trans (be4_num m (by omega) (by omega))
theorem textB_yes (k g q z m : Int) (h : may k g q z m) : textB k g q z m = str (textL k g q z m) := if_pos h
theorem read_text (k g q z m : Int) (h : may k g q z m) : readOk (textB k g q z m) ∧ readV (textB k g q z m) = hd k g q z m := by
  obtain ⟨e1, e2, e3, e4, e5⟩ := text_nums k g q z m h
  have hr : readOk (str (textL k g q z m)) := by
    refine ⟨by rw [str_size]; rfl, ?_, ?_⟩
    · rw [e1, e2, e3, e4, e5]; exact h
    · rw [e1, e2, e3, e4, e5]
  rw [textB_yes _ _ _ _ _ h]
  refine ⟨hr, ?_⟩
  rw [readV_yes _ hr, e1, e2, e3, e4, e5]
/-! one byte changed -/
end RM
end Go.Proofs.Ytabmdijfholakaa
