/- Arguments that come in, as data: whatever can be read is data of its type's shape. -/
import Derived.Test.YtngbpbncipjimaaDoorAmP
import Derived.ProofKit
import Derived.OpenShut
import Derived.ShutString
import Derived.ChangeOld
import Derived.SliceStrings
import Derived.Deep.Slices
namespace Go.Proofs.YtngbpbncipjimaaDoor.AM
open Go.RowKit Go.ChangeShapes Go.WideShapes Go.ChangeAt
set_option linter.unusedVariables false
set_option linter.unusedSimpArgs false

/-- the shape of a cell -/
inductive Sh where
  | int (k : IntKind)
  | bool
  | str
  | lst (e : List Sh)
mutual
def Typ : Sh → Dat → Prop
  | .int k, .v x => ∃ n, x = .int k n ∧ (Lit.int k n).wf = true
  | .bool, .v x => ∃ b, x = .bool b
  | .str, .v x => ∃ s : ByteArray, x = .string s ∧ s.size ≤ maxLen
  | .lst e, .lst sz xs => sz = e.length ∧ xs.length ≤ maxLen ∧ ∀ x ∈ xs, TypL e x
  | _, _ => False
def TypL : List Sh → List Dat → Prop
  | [], [] => True
  | s :: ss, d :: ds => Typ s d ∧ TypL ss ds
  | _, _ => False
end
theorem TypL.len : ∀ {ss : List Sh} {ds : List Dat}, TypL ss ds → ds.length = ss.length
  | [], [], _ => rfl
  | _ :: ss, _ :: ds, h => by
    unfold TypL at h
    rw [List.length_cons, List.length_cons, TypL.len h.2]
  | [], _ :: _, h => by unfold TypL at h; exact h.elim
  | _ :: _, [], h => by unfold TypL at h; exact h.elim
theorem TypL.app : ∀ {ss : List Sh} {ds : List Dat} {ss' : List Sh} {ds' : List Dat}, TypL ss ds → TypL ss' ds' → TypL (ss ++ ss') (ds ++ ds')
  | [], [], _, _, _, h => h
  | _ :: ss, _ :: ds, _, _, h, h' => by
    unfold TypL at h
    rw [List.cons_append, List.cons_append]
    unfold TypL
    exact ⟨h.1, TypL.app h.2 h'⟩
  | [], _ :: _, _, _, h, _ => by unfold TypL at h; exact h.elim
  | _ :: _, [], _, _, h, _ => by unfold TypL at h; exact h.elim
def shapeFs (f : TypeId → Option (List Sh)) (cells : TypeId → Nat) : List Field → List Sh → Option (List Sh)
  | [], acc => some acc
  | fd :: fs, acc => match f fd.type with
    | some s => if fd.offset = acc.length ∧ s.length = cells fd.type then shapeFs f cells fs (acc ++ s) else none
    | none => none
def shapeOf (P : Program) : Nat → TypeId → Option (List Sh)
  | 0, _ => none
  | n + 1, t => match P.underlying t with
    | some (.int k) => some [.int k]
    | some .bool => some [.bool]
    | some .string => some [.str]
    | some (.slice e) => match shapeOf P n e with
      | some s => if 0 < s.length ∧ s.length = P.cellsOf e then some [.lst s] else none
      | none => none
    | some (.struct fs) => match shapeFs (shapeOf P n) P.cellsOf fs.toList [] with
      | some s => if s.length = P.cellsOf t then some s else none
      | none => none
    | _ => none
variable {H : Type} {enc : TypeId × Value → H} {P : Program} {W : World}
def Old (W : World) : Nat → Nat → Prop := fun b _ => b < W.heap.size
theorem cellLt {w : World} {a : Addr} {v : Value} (h : w.cell? a = some v) : a.block < w.heap.size := by
  unfold World.cell? at h
  split at h
  · rename_i he
    exact heapLt he
  · cases h
def Opens (enc : TypeId × Value → H) (P : Program) (W : World) (t : TypeId) (sh : List Sh) : Prop :=
  ∀ (fuel : Nat) (cells : List Value) (x : DataW H × List MemPlace), DataW.trod enc P W 0 (fun _ => true) true fuel t cells = some x →
    ∃ ds, All2 (DatRep (Old W) W) cells ds ∧ TypL sh ds ∧ ∀ c ∈ cells, c.oneCell' = true
theorem open_fields {f : TypeId → Option (List Sh)} (hf : ∀ t s, f t = some s → Opens enc P W t s) {cells : List Value} {n : Nat} : ∀ (fs : List Field) (acc sh : List Sh) (ds : List Dat), shapeFs f P.cellsOf fs acc = some sh →
    (∀ fd ∈ fs, ∃ x, DataW.trod enc P W 0 (fun _ => true) true n fd.type ((cells.drop fd.offset).take (P.cellsOf fd.type)) = some x) → acc.length ≤ cells.length → All2 (DatRep (Old W) W) (cells.take acc.length) ds → TypL acc ds → (∀ c ∈ cells.take acc.length, c.oneCell' = true) →
    sh.length ≤ cells.length ∧ ∃ ds', All2 (DatRep (Old W) W) (cells.take sh.length) ds' ∧ TypL sh ds' ∧ ∀ c ∈ cells.take sh.length, c.oneCell' = true
  | [], acc, sh, ds, h, _, hl, h1, h2, h3 => by
    simp only [shapeFs, Option.some.injEq] at h
    subst h
    exact ⟨hl, ds, h1, h2, h3⟩
  | fd :: fs, acc, sh, ds, h, hr, hl, h1, h2, h3 => by
    unfold shapeFs at h
    split at h
    case h_2 => cases h
    rename_i s hs
    split at h
    case isFalse => cases h
    rename_i hc
    obtain ⟨hc1, hc2⟩ := hc
    obtain ⟨x, hx⟩ := hr fd (List.mem_cons_self ..)
    obtain ⟨ds2, g1, g2, g3⟩ := hf _ _ hs _ _ _ hx
    have hlen := g1.length
    have hlen2 := g2.len
    rw [List.length_take, List.length_drop] at hlen
    have e1 : cells.take (acc ++ s).length = cells.take acc.length ++ (cells.drop fd.offset).take (P.cellsOf fd.type) := by
      rw [hc1, ← hc2, List.length_append, List.take_add]
    have hl' : (acc ++ s).length ≤ cells.length := by
      rw [List.length_append]
      rcases Nat.eq_zero_or_pos s.length with h0 | h0
      · omega
      · omega
    refine open_fields hf fs (acc ++ s) sh (ds ++ ds2) h (fun fd' hfd => hr fd' (List.mem_cons_of_mem _ hfd)) hl' (by rw [e1]; exact h1.append g1) (h2.app g2) (fun c hc => ?_)
    rw [e1, List.mem_append] at hc
    rcases hc with hc | hc
    · exact h3 c hc
    · exact g3 c hc
theorem opens : ∀ (n : Nat) (t : TypeId) (sh : List Sh), shapeOf P n t = some sh → Opens enc P W t sh
  | 0, _, _, h => by cases h
  | n + 1, t, sh, h => by
    intro fuel cells x hx
    unfold shapeOf at h
    split at h
    · rename_i k hu
      simp only [Option.some.injEq] at h; subst h
      obtain ⟨m, rfl, _, hw⟩ := DataW.trod_int hu hx
      exact ⟨[.v (.int k m)], ⟨.v _, trivial⟩, by unfold TypL TypL Typ; exact ⟨⟨m, rfl, hw⟩, trivial⟩, fun c hc => by simp at hc; rw [hc]; rfl⟩
    · rename_i hu
      simp only [Option.some.injEq] at h; subst h
      obtain ⟨b, rfl, _⟩ := DataW.trod_bool hu hx
      exact ⟨[.v (.bool b)], ⟨.v _, trivial⟩, by unfold TypL TypL Typ; exact ⟨⟨b, rfl⟩, trivial⟩, fun c hc => by simp at hc; rw [hc]; rfl⟩
    · rename_i hu
      simp only [Option.some.injEq] at h; subst h
      obtain ⟨s, rfl, _, hs⟩ := DataW.trod_string hu hx
      exact ⟨[.v (.string s)], ⟨.v _, trivial⟩, by unfold TypL TypL Typ; exact ⟨⟨s, rfl, hs⟩, trivial⟩, fun c hc => by simp at hc; rw [hc]; rfl⟩
    · rename_i e hu
      split at h
      case h_2 => cases h
      rename_i s hs
      split at h
      case isFalse => cases h
      rename_i hc
      obtain ⟨hc1, hc2⟩ := hc
      simp only [Option.some.injEq] at h; subst h
      have ih := opens n e s hs
      rcases Deep.open_slice hu hx with ⟨rfl, _⟩ | ⟨a, len, cap, m, n', D, Pl, rfl, hb, hl, hm, hmm, _, hi⟩
      · refine ⟨[.lst s.length []], ⟨.lst none 0 0 s.length [] 0 0 (fun _ _ => undef) rfl (Nat.le_refl _) (Nat.zero_le _) (fun x hx => by cases hx) (fun h => by simp at h) (fun k j hk => by simp at hk) (fun k j hk => by simp at hk), trivial⟩, ?_, fun c hc => by simp at hc; rw [hc]; rfl⟩
        unfold TypL TypL Typ
        exact ⟨⟨rfl, by simp, fun x hx => by cases hx⟩, trivial⟩
      · have hge : len ≤ m := by rw [hmm]; split <;> omega
        have hp : ∀ i, ∃ p : List Value × List Dat, i < len → (∀ j (hj : j < p.1.length), W.cell? ((a.add (i * s.length)).add j) = some p.1[j]) ∧ All2 (DatRep (Old W) W) p.1 p.2 ∧ TypL s p.2 ∧ ∀ c ∈ p.1, c.oneCell' = true := by
          intro i
          by_cases h : i < len
          · obtain ⟨cs', hcs, ht⟩ := hi i (by omega)
            obtain ⟨_, hlen', hat⟩ := World.cells?_some hcs
            obtain ⟨ds, g1, g2, g3⟩ := ih _ _ _ ht
            refine ⟨(cs', ds), fun _ => ⟨fun j hj => ?_, g1, g2, g3⟩⟩
            have hj' : j < cs'.length := hj
            have := hat j (by omega)
            rw [← hc2] at this
            exact this.trans (List.getElem?_eq_getElem hj')
          · exact ⟨([], []), fun h' => absurd h' h⟩
        obtain ⟨f, hfp⟩ := Classical.axiomOfChoice hp
        have hlenD : ∀ i, i < len → (f i).2.length = s.length ∧ (f i).1.length = s.length := fun i hi => by
          obtain ⟨_, g1, g2, _⟩ := hfp i hi
          exact ⟨g2.len, g1.length.trans g2.len⟩
        have htl : ((List.range len).map fun i => (f i).2).length = len := by simp
        refine ⟨[.lst s.length ((List.range len).map fun i => (f i).2)], ⟨?_, trivial⟩, ?_, fun c hc => by simp at hc; rw [hc]; rfl⟩
        · by_cases h0 : len = 0
          · subst h0
            exact .lst _ _ _ s.length _ 0 0 (fun _ _ => undef) rfl hl hm (fun x hx => by simp at hx) (fun h => by simp at h) (fun k j hk => by simp at hk) (fun k j hk => by simp at hk)
          · obtain ⟨b, off, sp⟩ := a
            have hl0 := (hlenD 0 (by omega)).2
            have g0 := (hfp 0 (by omega)).1 0 (by omega)
            have hspot : sp = none := by simpa [Addr.add] using World.cell?_spot g0
            subst hspot
            refine .lst _ _ _ s.length _ b off (fun k j => (f k).1.getD j undef) htl.symm hl hm (fun x hx => ?_) (fun _ => rfl) (fun k j hk hj => ?_) (fun k j hk hj => ?_)
            · obtain ⟨i, hi', rfl⟩ := List.mem_map.1 hx
              exact (hlenD i (List.mem_range.1 hi')).1
            · rw [htl] at hk
              have hjl : j < (f k).1.length := by rw [(hlenD k hk).2]; exact hj
              have gj := (hfp k hk).1 j hjl
              rw [Addr.add_lit, Addr.add_lit] at gj
              have hgd : (f k).1.getD j undef = (f k).1[j] := by simp [List.getD, hjl]
              rw [hgd]
              exact ⟨cellLt gj, gj, (hfp k hk).2.2.2 _ (List.getElem_mem _)⟩
            · rw [htl] at hk
              simp only [List.getElem_map, List.getElem_range] at hj ⊢
              have hjl : j < (f k).1.length := by rw [(hlenD k hk).2, ← (hlenD k hk).1]; exact hj
              have hgd : (f k).1.getD j undef = (f k).1[j] := by simp [List.getD, hjl]
              rw [hgd]
              exact (hfp k hk).2.1.get j hjl hj
        · unfold TypL TypL Typ
          refine ⟨⟨rfl, by rw [htl]; omega, fun x hx => ?_⟩, trivial⟩
          obtain ⟨i, hi', rfl⟩ := List.mem_map.1 hx
          exact (hfp i (List.mem_range.1 hi')).2.2.1
    · rename_i fs hu
      split at h
      case h_2 => cases h
      rename_i s hs
      split at h
      case isFalse => cases h
      rename_i hst
      simp only [Option.some.injEq] at h; subst h
      obtain ⟨xs, n', _, _, hcl, hl, he⟩ := DataW.trod_struct hu hx
      obtain ⟨h1, ds, h2, h3, h4⟩ := open_fields (cells := cells) (n := n') (fun t s => opens n t s) fs.toList [] s [] hs (fun fd hfd => by
        obtain ⟨i, hi, rfl⟩ := List.getElem_of_mem hfd
        have hif : i < fs.size := by simpa using hi
        have := he i fs[i] (Array.getElem?_eq_getElem hif)
        rw [List.getElem?_eq_getElem (by omega)] at this
        exact ⟨_, by simpa using this⟩) (Nat.zero_le _) trivial (by unfold TypL; trivial) (fun c hc => by simp at hc)
      rw [List.take_of_length_le (by omega)] at h2 h4
      exact ⟨ds, h2, h3, h4⟩
    · cases h
/-- an argument, as data -/
def argD : Bool → List Dat → D
  | true, ds => .one (.agg (ds.map .d))
  | false, [d] => .one (.c (.d d))
  | false, _ => .one (.c .bad)
theorem all2_dC {e : Env} {σ : St} {w : World} : ∀ {us : List Value} {ds : List Dat}, All2 (DatRep e.Pc w) us ds → All2 (CRep e σ w) us (ds.map .d)
  | [], [], _ => trivial
  | _ :: _, _ :: _, h => ⟨h.1, all2_dC h.2⟩
  | [], _ :: _, h => h.elim
  | _ :: _, [], h => h.elim
theorem open_agg {n base : Nat} {t : TypeId} {sh : List Sh} {fs : Array Field} {v : Value} {d : DataW H} {p : List MemPlace} (hs : shapeOf P n t = some sh) (hu : P.underlying t = some (.struct fs))
    (hv : Value.okWide P W .any base t v) (h : DataW.Trod enc P W 0 (fun _ => true) true t v d p) : ∃ ds, TypL sh ds ∧ DRep (noEnv (Old W)) noSt W v (argD true ds) := by
  obtain ⟨cs, rfl, hsz⟩ := okWide_struct hu hv
  obtain ⟨fuel, hf⟩ := h
  obtain ⟨ds, h1, h2, _⟩ := opens n t sh hs _ _ _ hf
  exact ⟨ds, h2, cs, rfl, all2_dC h1⟩
theorem open_cell {n base : Nat} {t : TypeId} {s : Sh} {v : Value} {d : DataW H} {p : List MemPlace} (hs : shapeOf P n t = some [s]) (ha : aggD P t = some false)
    (hv : Value.okWide P W .any base t v) (h : DataW.Trod enc P W 0 (fun _ => true) true t v d p) : ∃ x, Typ s x ∧ DRep (noEnv (Old W)) noSt W v (argD false [x]) := by
  obtain ⟨fuel, hf⟩ := h
  have hc : v.cells.toList = [v] := by
    cases n with
    | zero => cases hs
    | succ n =>
      unfold shapeOf at hs
      split at hs
      · rename_i k hu; obtain ⟨m, rfl⟩ := okWide_int hu hv; rfl
      · rename_i hu; obtain ⟨m, rfl⟩ := okWide_bool hu hv; rfl
      · rename_i hu; obtain ⟨m, rfl⟩ := okWide_string hu hv; rfl
      · rename_i e hu; obtain ⟨a, l, c, rfl⟩ := okWide_slice hu hv; rfl
      · rename_i fs hu; unfold aggD at ha; rw [hu] at ha; simp at ha
      · cases hs
  obtain ⟨ds, h1, h2, _⟩ := opens n t [s] hs _ _ _ hf
  rw [hc] at h1
  match ds, h1, h2 with
  | [x], h1, h2 =>
    unfold TypL at h2
    exact ⟨x, h2.1, h1.1⟩
end Go.Proofs.YtngbpbncipjimaaDoor.AM
