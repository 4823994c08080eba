/- Layer 1's contracts, as partial functions of data. -/
import Derived.Test.YtabmdijfholakaaJqa22
import Derived.Test.YtabmdijfholakaaJqa24
namespace Go.Proofs.Ytabmdijfholakaa.AM
open Go.RowKit
set_option linter.unusedVariables false
set_option linter.unusedSimpArgs false
abbrev DkT := List (List UInt8) × List (Int × List UInt8)
def dkOf (x : DkT) : DM.Dk := ⟨x.1.map ba, x.2.map fun p => (p.1, ba p.2)⟩
def ofDk (d : DM.Dk) : DkT := (d.secs.map unB, d.cache.map fun p => (p.1, unB p.2))
theorem dkOf_ofDk (d : DM.Dk) : dkOf (ofDk d) = d := by
  obtain ⟨s, c⟩ := d
  simp only [dkOf, ofDk, List.map_map]
  congr 1
  · exact (List.map_congr_left fun x _ => ba_unB x).trans (List.map_id _)
  · exact (List.map_congr_left fun x _ => by simp only [Function.comp, ba_unB]; rfl).trans (List.map_id _)
abbrev dkS : S1 := .agg [.d (.lst .str), .d (.lst (.prod (.int .i64) .str))]
theorem e1_dk (x : DkT) : e1 (r1 dkS x) = dk1 (dkOf x) := by
  obtain ⟨s, c⟩ := x
  show D1.agg [.d (.lst 1 (s.map (toDats .str))), .d (.lst 2 (c.map (toDats (.prod (.int .i64) .str))))] = _
  simp only [dk1, dkOf, secD, cacD, List.map_map]
  rfl
theorem e1_of (d : DM.Dk) : e1 (r1 dkS (ofDk d)) = dk1 d := by rw [e1_dk, dkOf_ofDk]
def smD (d : DkT) : Prop := d.1.length ≤ 1000000 ∧ d.2.length ≤ 1000000
instance (d : DkT) : Decidable (smD d) := by unfold smD; infer_instance
theorem smD_len {d : DkT} (h : smD d) : (dkOf d).secs.length ≤ 1000000 ∧ (dkOf d).cache.length ≤ 1000000 := by
  unfold dkOf; simp only [List.length_map]; exact h
abbrev intS : S1 := .c (.d (.int .i64))
abbrev strS : S1 := .c (.d .str)
abbrev boolS : S1 := .c (.d .bool)

/-- what a contract wants: closed facts, and that it tells what it tells -/
def Inv : World → Prop := fun _ => True
theorem fc_mk {c : FC} (hb : hasBody Try.prog c.f = true) (hn : noTup c.args = true) (h : ∀ G, Stab G → ∀ a r, c.F a = some r → PCalls Try.prog G c.f ((rDs c.args a).map eD) (eD (rD c.res r))) : FCall Inv Try.prog c :=
  fun G hG => ⟨⟨hb, h G hG.st⟩, hn⟩
theorem know_inv : Know Inv Inv := ⟨fun _ _ _ _ => trivial, fun _ h => h⟩
theorem ifs {α : Type} {p : Prop} [Decidable p] {x r : α} (h : (if p then some x else none) = some r) : p ∧ x = r := by
  split at h
  · rename_i hp; exact ⟨hp, Option.some.inj h⟩
  · cases h

def small_t (d : DkT) : Option Bool := some (decide (DM.smallD (dkOf d)))
def small_fc : FC := { f := 7, args := [.one dkS], res := .one boolS, F := small_t }
theorem small_ok : FCall Inv Try.prog small_fc := fc_mk (by kernel_rfl) rfl fun G hG (a : DkT) r h => by
  obtain rfl := Option.some.inj h
  show PCalls _ _ _ [.one (e1 (r1 dkS a))] _
  rw [e1_dk]; exact small_pc _
def rmay_t (d : DkT) : Option Bool := if smD d then some (decide (DM.mayD (dkOf d))) else none
def rmay_fc : FC := { f := 43, args := [.one dkS], res := .one boolS, F := rmay_t }
theorem rmay_ok : FCall Inv Try.prog rmay_fc := fc_mk (by kernel_rfl) rfl fun G hG (a : DkT) r h => by
  obtain ⟨h1, rfl⟩ := ifs h
  show PCalls _ _ _ [.one (e1 (r1 dkS a))] _
  rw [e1_dk]; exact rmay_pc hG _ (smD_len h1).1 (smD_len h1).2
def put_t (d : DkT) (i : Int) (s : List UInt8) : Option (DkT × Int) := if smD d ∧ s.length ≤ maxLen then some (ofDk (DM.putD (dkOf d) i (ba s)), DM.putE (dkOf d) i (ba s)) else none
def put_fc : FC := { f := 21, args := [.one dkS, .one intS, .one strS], res := .tup [dkS, intS], F := fun p => put_t p.1 p.2.1 p.2.2 }
theorem put_ok : FCall Inv Try.prog put_fc := fc_mk (by kernel_rfl) rfl fun G hG a r h => by
  obtain ⟨h1, rfl⟩ := ifs h
  obtain ⟨d, i, s⟩ := a
  show PCalls _ _ _ [.one (e1 (r1 dkS d)), _, _] (.tup [e1 (r1 dkS _), _])
  rw [e1_dk, e1_of]
  exact put_pc _ _ _ (smD_len h1.1).1 (smD_len h1.1).2 (by rw [ba_len]; exact h1.2)
def get_t (d : DkT) (i : Int) : Option (List UInt8 × Int) := if smD d then some (unB (DM.getB (dkOf d) i), DM.getE (dkOf d) i) else none
def flush_t (d : DkT) : Option (DkT × Int) := if smD d then some (ofDk (DM.crashD (fun _ => true) (dkOf d)), DM.argE (dkOf d)) else none
def flush_fc : FC := { f := 49, args := [.one dkS], res := .tup [dkS, intS], F := flush_t }
theorem flush_ok : FCall Inv Try.prog flush_fc := fc_mk (by kernel_rfl) rfl fun G hG (a : DkT) r h => by
  obtain ⟨h1, rfl⟩ := ifs h
  show PCalls _ _ _ [.one (e1 (r1 dkS a))] (.tup [e1 (r1 dkS _), _])
  rw [e1_dk, e1_of]
  exact flush_pc _ (smD_len h1).1 (smD_len h1).2
def crash_t (d : DkT) (k : List Bool) : Option (DkT × Int) := if smD d ∧ k.length ≤ 1000000 then some (ofDk (DM.crashD (fun j => k.getD j false) (dkOf d)), DM.argE (dkOf d)) else none
def crash_fc : FC := { f := 13, args := [.one dkS, .one (.c (.d (.lst .bool)))], res := .tup [dkS, intS], F := fun p => crash_t p.1 p.2 }
theorem crash_ok : FCall Inv Try.prog crash_fc := fc_mk (by kernel_rfl) rfl fun G hG a r h => by
  obtain ⟨h1, rfl⟩ := ifs h
  obtain ⟨d, k⟩ := a
  show PCalls _ _ _ [.one (e1 (r1 dkS d)), _] (.tup [e1 (r1 dkS _), _])
  rw [e1_dk, e1_of]
  exact crash_pc _ _ (smD_len h1.1).1 (smD_len h1.1).2 h1.2
def rcrash_fc : FC := { f := 25, args := [.one dkS, .one (.c (.d (.lst .bool)))], res := .tup [dkS, intS], F := fun p => crash_t p.1 p.2 }
theorem rcrash_ok : FCall Inv Try.prog rcrash_fc := fc_mk (by kernel_rfl) rfl fun G hG a r h => by
  obtain ⟨h1, rfl⟩ := ifs h
  obtain ⟨d, k⟩ := a
  show PCalls _ _ _ [.one (e1 (r1 dkS d)), _] (.tup [e1 (r1 dkS _), _])
  rw [e1_dk, e1_of]
  exact rcrash_pc hG _ _ (smD_len h1.1).1 (smD_len h1.1).2 h1.2
def new_t (n : Int) : Option (DkT × Bool) := some (ofDk (DM.newD n), decide (DM.newOk n))
def rnew_fc : FC := { f := 19, args := [.one intS], res := .tup [dkS, boolS], F := new_t }
theorem rnew_ok : FCall Inv Try.prog rnew_fc := fc_mk (by kernel_rfl) rfl fun G hG a r h => by
  obtain rfl := Option.some.inj h
  show PCalls _ _ _ _ (.tup [e1 (r1 dkS _), _])
  rw [e1_of]; exact rnew_pc hG _
end Go.Proofs.Ytabmdijfholakaa.AM
