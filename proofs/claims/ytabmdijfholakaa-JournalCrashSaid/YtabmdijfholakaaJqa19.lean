/- Layer 1's contracts, for the plain machine. -/
import Derived.Test.YtabmdijfholakaaJqa15
import Derived.Test.YtabmdijfholakaaJqa16
import Derived.Test.YtabmdijfholakaaJqa18
namespace Go.Proofs.Ytabmdijfholakaa.AM
open Go.RowKit
set_option linter.unusedVariables false
variable {G : World → Prop}
theorem pc_bool {f : FuncId} {ds : List D} {x : Bool} (h : ∀ (Pc : Nat → Nat → Prop) w vs, (∀ b o, Pc b o → b < w.heap.size) → All2 (DRep (noEnv Pc) noSt w) vs.toList ds → Calls Try.prog f vs w fun e w' => e = .returned (.bool x) ∧ Below w.heap.size w w') : PCalls Try.prog G f ds (valD (.bool x)) :=
  fun Pc w vs _ hlt hv => (h Pc w vs hlt hv).mono fun e w' ⟨he, hb⟩ => ⟨_, Pc, he, hb, fun _ _ h => h, fun _ _ h => Or.inl h, drep_val _⟩
theorem max_eq : maxLen = 9223372036854775807 := by decide
theorem small_pc (d : DM.Dk) : PCalls Try.prog G 7 [.one (dk1 d)] (valD (.bool (decide (DM.smallD d)))) := pc_bool fun Pc w vs hlt hv => by
  obtain ⟨v, rfl, h⟩ := args1 hv
  obtain ⟨a1, k1, a2, k2, rfl, hd, b1, b2⟩ := dv_of hlt h
  have := max_eq
  exact DiskW.small_any _ _ _ _ _ _ d w hd (by omega) (by omega)
theorem dk_of {Pc : Nat → Nat → Prop} {w : World} {base n k1 m k2 : Nat} {a1 a2 : Option Addr} {d : DM.Dk} (h : DM.DV w (.slice a1 n k1) (.slice a2 m k2) d) (c1 : n ≤ k1) (c2 : k1 ≤ maxLen) (c3 : m ≤ k2) (c4 : k2 ≤ maxLen)
    (hP : ∀ g o, base ≤ g → g < w.heap.size → Pc g o) (ho : ∀ k, DM.own2 (.slice a1 n k1) (.slice a2 m k2) k → base ≤ k) : Rep1 (noEnv Pc) noSt w (.agg #[.slice a1 n k1, .slice a2 m k2]) (dk1 d) :=
  ⟨_, rfl, dat_sv h.1 c1 c2 (fun g hg o hlt => hP g o (ho g (Or.inl hg)) hlt), dat_wv h.2 c3 c4 (fun g hg o hlt => hP g o (ho g (Or.inr hg)) hlt), trivial⟩
theorem run_pc (d : DM.Dk) (l : List DM.Ac) (x : Int) (N : Nat) (b1 : d.secs.length ≤ 100000) (b2 : d.cache.length ≤ 100000) (b3 : l.length ≤ 100000) (hsz : ∀ a ∈ l, a.2.2.size ≤ maxLen) (hN : min (max x 0) (l.length : Int) = (N : Int)) :
    PCalls Try.prog G 12 [.one (dk1 d), lstD 3 (actD l), valD (.int .i64 x)] (outD (DM.runD d (l.take N)) (DM.runE d (l.take N))) := by
  intro Pc w vs _ hlt hv
  obtain ⟨v, v', v'', rfl, h, h', h''⟩ := args3 hv
  obtain ⟨a1, k1, a2, k2, rfl, hd, _, _⟩ := dv_of hlt h
  obtain ⟨a3, k3, rfl, hl⟩ := av_of hlt h'
  obtain rfl := of_val h''
  refine (DiskW.run_cap a1 a2 k1 k2 _ _ d a3 k3 l x N w hd rfl rfl b1 b2 hl b3 hsz hN).mono ?_
  rintro e w' ⟨a5, n5, k5, a6, n6, k6, rfl, h1, h2, h3, c1, c2, c3, c4⟩
  refine ⟨_, fun b o => Pc b o ∨ (w.heap.size ≤ b ∧ b < w'.heap.size), rfl, h2, fun _ _ h => Or.inl h, fun _ _ h => h, _, rfl, dk_of h1 c1 c2 c3 c4 (fun g o h1 h2 => Or.inr ⟨h1, h2⟩) h3, crep_val (σ := noSt) _, trivial⟩
end Go.Proofs.Ytabmdijfholakaa.AM
