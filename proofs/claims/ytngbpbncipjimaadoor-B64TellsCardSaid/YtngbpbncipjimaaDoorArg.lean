/- Arguments that come in, as typed data. -/
import Derived.Test.YtngbpbncipjimaaDoorAmO
import Derived.Test.YtngbpbncipjimaaDoorT7
namespace Go.Proofs.YtngbpbncipjimaaDoor.AM
open Go.RowKit Go.ChangeShapes Go.WideShapes Go.ChangeAt
set_option linter.unusedVariables false
set_option linter.unusedSimpArgs false
def tySh : Ty → List Sh
  | .int k => [.int k]
  | .bool => [.bool]
  | .str => [.str]
  | .lst e => [.lst (tySh e)]
  | .prod a b => tySh a ++ tySh b
theorem tySh_len : ∀ ty : Ty, (tySh ty).length = width ty
  | .int _ => rfl
  | .bool => rfl
  | .str => rfl
  | .lst _ => rfl
  | .prod a b => by rw [tySh, List.length_append, tySh_len a, tySh_len b]; rfl
def okDen : (ty : Ty) → den ty → Prop
  | .int k, (n : Int) => (Lit.int k n).wf = true
  | .bool, _ => True
  | .str, (s : List UInt8) => s.length ≤ maxLen
  | .lst e, (l : List (den e)) => l.length ≤ maxLen ∧ ∀ x ∈ l, okDen e x
  | .prod a b, (p : den a × den b) => okDen a p.1 ∧ okDen b p.2
theorem TypL.split : ∀ {ss ss' : List Sh} {ds : List Dat}, TypL (ss ++ ss') ds → ∃ d1 d2, ds = d1 ++ d2 ∧ TypL ss d1 ∧ TypL ss' d2
  | [], ss', ds, h => ⟨[], ds, rfl, by unfold TypL; trivial, h⟩
  | s :: ss, ss', [], h => by rw [List.cons_append] at h; unfold TypL at h; exact h.elim
  | s :: ss, ss', d :: ds, h => by
    rw [List.cons_append] at h
    unfold TypL at h
    obtain ⟨d1, d2, rfl, h1, h2⟩ := TypL.split h.2
    exact ⟨d :: d1, d2, rfl, by unfold TypL; exact ⟨h.1, h1⟩, h2⟩
theorem maps_of {α β : Type} {p : α → Prop} {f : α → β} : ∀ {xs : List β}, (∀ x ∈ xs, ∃ s, x = f s ∧ p s) → ∃ l : List α, xs = l.map f ∧ ∀ s ∈ l, p s
  | [], _ => ⟨[], rfl, fun _ h => by cases h⟩
  | x :: xs, h => by
    obtain ⟨s, rfl, hs⟩ := h x List.mem_cons_self
    obtain ⟨l, rfl, hl⟩ := maps_of (fun y hy => h y (List.mem_cons_of_mem _ hy))
    exact ⟨s :: l, rfl, fun y hy => by
      rcases List.mem_cons.1 hy with rfl | hy
      · exact hs
      · exact hl y hy⟩
theorem one_typ {s : Sh} {ds : List Dat} (h : TypL [s] ds) : ∃ x, ds = [x] ∧ Typ s x := by
  cases ds with
  | nil => unfold TypL at h; exact h.elim
  | cons x ds =>
    unfold TypL at h
    obtain ⟨h1, h2⟩ := h
    cases ds with
    | nil => exact ⟨x, rfl, h1⟩
    | cons y ds => unfold TypL at h2; exact h2.elim
theorem typ_den : ∀ (ty : Ty) (ds : List Dat), TypL (tySh ty) ds → ∃ x : den ty, ds = toDats ty x ∧ okDen ty x
  | .int k, ds, h => by
    obtain ⟨x, rfl, g⟩ := one_typ h
    cases x with
    | v x => obtain ⟨n, rfl, hn⟩ := g; exact ⟨n, rfl, hn⟩
    | lst sz xs => exact g.elim
  | .bool, ds, h => by
    obtain ⟨x, rfl, g⟩ := one_typ h
    cases x with
    | v x => obtain ⟨b, rfl⟩ := g; exact ⟨b, rfl, trivial⟩
    | lst sz xs => exact g.elim
  | .str, ds, h => by
    obtain ⟨x, rfl, g⟩ := one_typ h
    cases x with
    | v x =>
      obtain ⟨s, rfl, hs⟩ := g
      refine ⟨s.data.toList, ?_, ?_⟩
      · show _ = [Dat.v (.string (ba s.data.toList))]
        have : ba s.data.toList = s := by cases s; simp [ba]
        rw [this]
      · show s.data.toList.length ≤ maxLen
        rw [Array.length_toList]; exact hs
    | lst sz xs => exact g.elim
  | .lst e, ds, h => by
    obtain ⟨x, rfl, g⟩ := one_typ h
    cases x with
    | v x => exact g.elim
    | lst sz xs =>
      obtain ⟨rfl, h1, h2⟩ : sz = (tySh e).length ∧ xs.length ≤ maxLen ∧ ∀ x ∈ xs, TypL (tySh e) x := by unfold Typ at g; exact g
      obtain ⟨l, rfl, hl⟩ := maps_of (f := toDats e) (p := okDen e) (fun x hx => typ_den e x (h2 x hx))
      refine ⟨l, ?_, ⟨by simpa using h1, hl⟩⟩
      show [Dat.lst (tySh e).length _] = [Dat.lst (width e) _]
      rw [tySh_len]
  | .prod a b, ds, h => by
    obtain ⟨d1, d2, rfl, h1, h2⟩ := TypL.split h
    obtain ⟨x, rfl, hx⟩ := typ_den a d1 h1
    obtain ⟨y, rfl, hy⟩ := typ_den b d2 h2
    exact ⟨(x, y), rfl, hx, hy⟩
variable {H : Type} {enc : TypeId × Value → H} {P : Program} {W : World}
def IsTc (ty : Ty) (w : World) (v : Value) : Prop := ∃ x : den ty, okDen ty x ∧ DRep (noEnv (Old w)) noSt w v (argD false (toDats ty x))
def IsTa (ty : Ty) (w : World) (v : Value) : Prop := ∃ x : den ty, okDen ty x ∧ DRep (noEnv (Old w)) noSt w v (argD true (toDats ty x))
theorem open_tc {base : Nat} {t : TypeId} (ty : Ty) {v : Value} {d : DataW H} {p : List MemPlace} (hs : shapeOf P 8 t = some (tySh ty)) (hw : width ty = 1) (ha : aggD P t = some false)
    (hv : Value.okWide P W .any base t v) (h : DataW.Trod enc P W 0 (fun _ => true) true t v d p) : IsTc ty W v := by
  have hl := tySh_len ty
  rw [hw] at hl
  obtain ⟨s, e1⟩ : ∃ s, tySh ty = [s] := by
    cases h1 : tySh ty with
    | nil => rw [h1] at hl; cases hl
    | cons s l => cases l with
      | nil => exact ⟨s, rfl⟩
      | cons _ _ => rw [h1] at hl; simp at hl
  rw [e1] at hs
  obtain ⟨x, h1, h2⟩ := open_cell hs ha hv h
  obtain ⟨y, h3, h4⟩ := typ_den ty [x] (by rw [e1]; unfold TypL; exact ⟨h1, by unfold TypL; trivial⟩)
  exact ⟨y, h4, by rw [← h3]; exact h2⟩
theorem open_ta {base : Nat} {t : TypeId} {fs : Array Field} (ty : Ty) {v : Value} {d : DataW H} {p : List MemPlace} (hs : shapeOf P 8 t = some (tySh ty)) (hu : P.underlying t = some (.struct fs))
    (hv : Value.okWide P W .any base t v) (h : DataW.Trod enc P W 0 (fun _ => true) true t v d p) : IsTa ty W v := by
  obtain ⟨ds, h1, h2⟩ := open_agg hs hu hv h
  obtain ⟨y, rfl, h4⟩ := typ_den ty ds h1
  exact ⟨y, h4, h2⟩
/-! scalars -/
def unB (b : ByteArray) : List UInt8 := b.data.toList
theorem ba_unB (b : ByteArray) : ba (unB b) = b := by cases b; simp [ba, unB]
theorem unB_ba (s : List UInt8) : unB (ba s) = s := by simp [ba, unB]
theorem unB_len (b : ByteArray) : (unB b).length = b.size := by unfold unB; rw [Array.length_toList]; rfl
theorem arg_str (w : World) (Pc : Nat → Nat → Prop) (b : ByteArray) : DRep (noEnv Pc) noSt w (.string b) (argD false (toDats .str (unB b))) := by
  show DRep _ _ _ _ (valD (.string (ba (unB b))))
  rw [ba_unB]; exact drep_val _
theorem arg_int (w : World) (Pc : Nat → Nat → Prop) (k : IntKind) (n : Int) : DRep (noEnv Pc) noSt w (.int k n) (argD false (toDats (.int k) n)) := drep_val _
theorem arg_bool (w : World) (Pc : Nat → Nat → Prop) (b : Bool) : DRep (noEnv Pc) noSt w (.bool b) (argD false (toDats .bool b)) := drep_val _
end Go.Proofs.YtngbpbncipjimaaDoor.AM
