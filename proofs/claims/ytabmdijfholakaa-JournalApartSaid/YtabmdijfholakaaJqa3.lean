/- One text of AmO, Facts, SumMath, RecMath, RecMath2, RecMath3, Lib, RecMath4 (mk/pack.py). -/
import Derived.Test.YtabmdijfholakaaJqa2
import Derived.ProofKit
import Derived.OpenShut
import Derived.ShutString
import Derived.ChangeOld
import Derived.SliceStrings
import Derived.Deep.Slices
import Derived.Test.YtabmdijfholakaaProg
import Derived.WalkKit
import Derived.Laws.BitsLemmas
import Derived.Below
import Derived.Deep.QuietTactic
import Derived.BigQuiet
import Derived.Laws.OwnMore
import Derived.Laws.IdiomStrings
import Derived.Laws.MakeOwn
import Derived.Lib.Builder
import Derived.Lib.UnsafeStr
import Derived.Lib.AppendStr
/- Arguments that come in, as data: whatever can be read is data of its type's shape. -/
namespace Go.Proofs.Ytabmdijfholakaa.AM
open Go.RowKit Go.ChangeShapes Go.WideShapes Go.ChangeAt
set_option linter.unusedVariables false
set_option linter.unusedSimpArgs false

/-- the shape of a cell -/
inductive Sh where
  | int (k : IntKind)
  | bool
  | str
  | lst (e : List Sh)
mutual
def Typ : Sh → Dat → Prop
  | .int k, .v x => ∃ n, x = .int k n ∧ (Lit.int k n).wf = true
  | .bool, .v x => ∃ b, x = .bool b
  | .str, .v x => ∃ s : ByteArray, x = .string s ∧ s.size ≤ maxLen
  | .lst e, .lst sz xs => sz = e.length ∧ xs.length ≤ maxLen ∧ ∀ x ∈ xs, TypL e x
  | _, _ => False
def TypL : List Sh → List Dat → Prop
  | [], [] => True
  | s :: ss, d :: ds => Typ s d ∧ TypL ss ds
  | _, _ => False
end
theorem TypL.len : ∀ {ss : List Sh} {ds : List Dat}, TypL ss ds → ds.length = ss.length
  | [], [], _ => rfl
  | _ :: ss, _ :: ds, h => by
    unfold TypL at h
    rw [List.length_cons, List.length_cons, TypL.len h.2]
  | [], _ :: _, h => by unfold TypL at h; exact h.elim
  | _ :: _, [], h => by unfold TypL at h; exact h.elim
theorem TypL.app : ∀ {ss : List Sh} {ds : List Dat} {ss' : List Sh} {ds' : List Dat}, TypL ss ds → TypL ss' ds' → TypL (ss ++ ss') (ds ++ ds')
  | [], [], _, _, _, h => h
  | _ :: ss, _ :: ds, _, _, h, h' => by
    unfold TypL at h
    rw [List.cons_append, List.cons_append]
    unfold TypL
    exact ⟨h.1, TypL.app h.2 h'⟩
  | [], _ :: _, _, _, h, _ => by unfold TypL at h; exact h.elim
  | _ :: _, [], _, _, h, _ => by unfold TypL at h; exact h.elim
def shapeFs (f : TypeId → Option (List Sh)) (cells : TypeId → Nat) : List Field → List Sh → Option (List Sh)
  | [], acc => some acc
  | fd :: fs, acc => match f fd.type with
    | some s => if fd.offset = acc.length ∧ s.length = cells fd.type then shapeFs f cells fs (acc ++ s) else none
    | none => none
def shapeOf (P : Program) : Nat → TypeId → Option (List Sh)
  | 0, _ => none
  | n + 1, t => match P.underlying t with
    | some (.int k) => some [.int k]
    | some .bool => some [.bool]
    | some .string => some [.str]
    | some (.slice e) => match shapeOf P n e with
      | some s => if 0 < s.length ∧ s.length = P.cellsOf e then some [.lst s] else none
      | none => none
    | some (.struct fs) => match shapeFs (shapeOf P n) P.cellsOf fs.toList [] with
      | some s => if s.length = P.cellsOf t then some s else none
      | none => none
    | _ => none
variable {H : Type} {enc : TypeId × Value → H} {P : Program} {W : World}
def Old (W : World) : Nat → Nat → Prop := fun b _ => b < W.heap.size
theorem cellLt {w : World} {a : Addr} {v : Value} (h : w.cell? a = some v) : a.block < w.heap.size := by
  unfold World.cell? at h
  split at h
  · rename_i he
    exact heapLt he
  · cases h
def Opens (enc : TypeId × Value → H) (P : Program) (W : World) (t : TypeId) (sh : List Sh) : Prop :=
  ∀ (fuel : Nat) (cells : List Value) (x : DataW H × List MemPlace), DataW.trod enc P W 0 (fun _ => true) true fuel t cells = some x →
    ∃ ds, All2 (DatRep (Old W) W) cells ds ∧ TypL sh ds ∧ ∀ c ∈ cells, c.oneCell' = true
theorem open_fields {f : TypeId → Option (List Sh)} (hf : ∀ t s, f t = some s → Opens enc P W t s) {cells : List Value} {n : Nat} : ∀ (fs : List Field) (acc sh : List Sh) (ds : List Dat), shapeFs f P.cellsOf fs acc = some sh →
    (∀ fd ∈ fs, ∃ x, DataW.trod enc P W 0 (fun _ => true) true n fd.type ((cells.drop fd.offset).take (P.cellsOf fd.type)) = some x) → acc.length ≤ cells.length → All2 (DatRep (Old W) W) (cells.take acc.length) ds → TypL acc ds → (∀ c ∈ cells.take acc.length, c.oneCell' = true) →
    sh.length ≤ cells.length ∧ ∃ ds', All2 (DatRep (Old W) W) (cells.take sh.length) ds' ∧ TypL sh ds' ∧ ∀ c ∈ cells.take sh.length, c.oneCell' = true
  | [], acc, sh, ds, h, _, hl, h1, h2, h3 => by
    simp only [shapeFs, Option.some.injEq] at h
    subst h
    exact ⟨hl, ds, h1, h2, h3⟩
  | fd :: fs, acc, sh, ds, h, hr, hl, h1, h2, h3 => by
    unfold shapeFs at h
    split at h
    case h_2 => cases h
    rename_i s hs
    split at h
    case isFalse => cases h
    rename_i hc
    obtain ⟨hc1, hc2⟩ := hc
    obtain ⟨x, hx⟩ := hr fd (List.mem_cons_self ..)
    obtain ⟨ds2, g1, g2, g3⟩ := hf _ _ hs _ _ _ hx
    have hlen := g1.length
    have hlen2 := g2.len
    rw [List.length_take, List.length_drop] at hlen
    have e1 : cells.take (acc ++ s).length = cells.take acc.length ++ (cells.drop fd.offset).take (P.cellsOf fd.type) := by
      rw [hc1, ← hc2, List.length_append, List.take_add]
    have hl' : (acc ++ s).length ≤ cells.length := by
      rw [List.length_append]
      rcases Nat.eq_zero_or_pos s.length with h0 | h0
      · omega
      · omega
    refine open_fields hf fs (acc ++ s) sh (ds ++ ds2) h (fun fd' hfd => hr fd' (List.mem_cons_of_mem _ hfd)) hl' (by rw [e1]; exact h1.append g1) (h2.app g2) (fun c hc => ?_)
    rw [e1, List.mem_append] at hc
    rcases hc with hc | hc
    · exact h3 c hc
    · exact g3 c hc
theorem opens : ∀ (n : Nat) (t : TypeId) (sh : List Sh), shapeOf P n t = some sh → Opens enc P W t sh
  | 0, _, _, h => by cases h
  | n + 1, t, sh, h => by
    intro fuel cells x hx
    unfold shapeOf at h
    split at h
    · rename_i k hu
      simp only [Option.some.injEq] at h; subst h
      obtain ⟨m, rfl, _, hw⟩ := DataW.trod_int hu hx
      exact ⟨[.v (.int k m)], ⟨.v _, trivial⟩, by unfold TypL TypL Typ; exact ⟨⟨m, rfl, hw⟩, trivial⟩, fun c hc => by simp at hc; rw [hc]; rfl⟩
    · rename_i hu
      simp only [Option.some.injEq] at h; subst h
      obtain ⟨b, rfl, _⟩ := DataW.trod_bool hu hx
      exact ⟨[.v (.bool b)], ⟨.v _, trivial⟩, by unfold TypL TypL Typ; exact ⟨⟨b, rfl⟩, trivial⟩, fun c hc => by simp at hc; rw [hc]; rfl⟩
    · rename_i hu
      simp only [Option.some.injEq] at h; subst h
      obtain ⟨s, rfl, _, hs⟩ := DataW.trod_string hu hx
      exact ⟨[.v (.string s)], ⟨.v _, trivial⟩, by unfold TypL TypL Typ; exact ⟨⟨s, rfl, hs⟩, trivial⟩, fun c hc => by simp at hc; rw [hc]; rfl⟩
    · rename_i e hu
      split at h
      case h_2 => cases h
      rename_i s hs
      split at h
      case isFalse => cases h
      rename_i hc
      obtain ⟨hc1, hc2⟩ := hc
      simp only [Option.some.injEq] at h; subst h
      have ih := opens n e s hs
      rcases Deep.open_slice hu hx with ⟨rfl, _⟩ | ⟨a, len, cap, m, n', D, Pl, rfl, hb, hl, hm, hmm, _, hi⟩
      · refine ⟨[.lst s.length []], ⟨.lst none 0 0 s.length [] 0 0 (fun _ _ => undef) rfl (Nat.le_refl _) (Nat.zero_le _) (fun x hx => by cases hx) (fun h => by simp at h) (fun k j hk => by simp at hk) (fun k j hk => by simp at hk), trivial⟩, ?_, fun c hc => by simp at hc; rw [hc]; rfl⟩
        unfold TypL TypL Typ
        exact ⟨⟨rfl, by simp, fun x hx => by cases hx⟩, trivial⟩
      · have hge : len ≤ m := by rw [hmm]; split <;> omega
        have hp : ∀ i, ∃ p : List Value × List Dat, i < len → (∀ j (hj : j < p.1.length), W.cell? ((a.add (i * s.length)).add j) = some p.1[j]) ∧ All2 (DatRep (Old W) W) p.1 p.2 ∧ TypL s p.2 ∧ ∀ c ∈ p.1, c.oneCell' = true := by
          intro i
          by_cases h : i < len
          · obtain ⟨cs', hcs, ht⟩ := hi i (by omega)
            obtain ⟨_, hlen', hat⟩ := World.cells?_some hcs
            obtain ⟨ds, g1, g2, g3⟩ := ih _ _ _ ht
            refine ⟨(cs', ds), fun _ => ⟨fun j hj => ?_, g1, g2, g3⟩⟩
            have hj' : j < cs'.length := hj
            have := hat j (by omega)
            rw [← hc2] at this
            exact this.trans (List.getElem?_eq_getElem hj')
          · exact ⟨([], []), fun h' => absurd h' h⟩
        obtain ⟨f, hfp⟩ := Classical.axiomOfChoice hp
        have hlenD : ∀ i, i < len → (f i).2.length = s.length ∧ (f i).1.length = s.length := fun i hi => by
          obtain ⟨_, g1, g2, _⟩ := hfp i hi
          exact ⟨g2.len, g1.length.trans g2.len⟩
        have htl : ((List.range len).map fun i => (f i).2).length = len := by simp
        refine ⟨[.lst s.length ((List.range len).map fun i => (f i).2)], ⟨?_, trivial⟩, ?_, fun c hc => by simp at hc; rw [hc]; rfl⟩
        · by_cases h0 : len = 0
          · subst h0
            exact .lst _ _ _ s.length _ 0 0 (fun _ _ => undef) rfl hl hm (fun x hx => by simp at hx) (fun h => by simp at h) (fun k j hk => by simp at hk) (fun k j hk => by simp at hk)
          · obtain ⟨b, off, sp⟩ := a
            have hl0 := (hlenD 0 (by omega)).2
            have g0 := (hfp 0 (by omega)).1 0 (by omega)
            have hspot : sp = none := by simpa [Addr.add] using World.cell?_spot g0
            subst hspot
            refine .lst _ _ _ s.length _ b off (fun k j => (f k).1.getD j undef) htl.symm hl hm (fun x hx => ?_) (fun _ => rfl) (fun k j hk hj => ?_) (fun k j hk hj => ?_)
            · obtain ⟨i, hi', rfl⟩ := List.mem_map.1 hx
              exact (hlenD i (List.mem_range.1 hi')).1
            · rw [htl] at hk
              have hjl : j < (f k).1.length := by rw [(hlenD k hk).2]; exact hj
              have gj := (hfp k hk).1 j hjl
              rw [Addr.add_lit, Addr.add_lit] at gj
              have hgd : (f k).1.getD j undef = (f k).1[j] := by simp [List.getD, hjl]
              rw [hgd]
              exact ⟨cellLt gj, gj, (hfp k hk).2.2.2 _ (List.getElem_mem _)⟩
            · rw [htl] at hk
              simp only [List.getElem_map, List.getElem_range] at hj ⊢
              have hjl : j < (f k).1.length := by rw [(hlenD k hk).2, ← (hlenD k hk).1]; exact hj
              have hgd : (f k).1.getD j undef = (f k).1[j] := by simp [List.getD, hjl]
              rw [hgd]
              exact (hfp k hk).2.1.get j hjl hj
        · unfold TypL TypL Typ
          refine ⟨⟨rfl, by rw [htl]; omega, fun x hx => ?_⟩, trivial⟩
          obtain ⟨i, hi', rfl⟩ := List.mem_map.1 hx
          exact (hfp i (List.mem_range.1 hi')).2.2.1
    · rename_i fs hu
      split at h
      case h_2 => cases h
      rename_i s hs
      split at h
      case isFalse => cases h
      rename_i hst
      simp only [Option.some.injEq] at h; subst h
      obtain ⟨xs, n', _, _, hcl, hl, he⟩ := DataW.trod_struct hu hx
      obtain ⟨h1, ds, h2, h3, h4⟩ := open_fields (cells := cells) (n := n') (fun t s => opens n t s) fs.toList [] s [] hs (fun fd hfd => by
        obtain ⟨i, hi, rfl⟩ := List.getElem_of_mem hfd
        have hif : i < fs.size := by simpa using hi
        have := he i fs[i] (Array.getElem?_eq_getElem hif)
        rw [List.getElem?_eq_getElem (by omega)] at this
        exact ⟨_, by simpa using this⟩) (Nat.zero_le _) trivial (by unfold TypL; trivial) (fun c hc => by simp at hc)
      rw [List.take_of_length_le (by omega)] at h2 h4
      exact ⟨ds, h2, h3, h4⟩
    · cases h
/-- an argument, as data -/
def argD : Bool → List Dat → D
  | true, ds => .one (.agg (ds.map .d))
  | false, [d] => .one (.c (.d d))
  | false, _ => .one (.c .bad)
theorem all2_dC {e : Env} {σ : St} {w : World} : ∀ {us : List Value} {ds : List Dat}, All2 (DatRep e.Pc w) us ds → All2 (CRep e σ w) us (ds.map .d)
  | [], [], _ => trivial
  | _ :: _, _ :: _, h => ⟨h.1, all2_dC h.2⟩
  | [], _ :: _, h => h.elim
  | _ :: _, [], h => h.elim
theorem open_agg {n base : Nat} {t : TypeId} {sh : List Sh} {fs : Array Field} {v : Value} {d : DataW H} {p : List MemPlace} (hs : shapeOf P n t = some sh) (hu : P.underlying t = some (.struct fs))
    (hv : Value.okWide P W .any base t v) (h : DataW.Trod enc P W 0 (fun _ => true) true t v d p) : ∃ ds, TypL sh ds ∧ DRep (noEnv (Old W)) noSt W v (argD true ds) := by
  obtain ⟨cs, rfl, hsz⟩ := okWide_struct hu hv
  obtain ⟨fuel, hf⟩ := h
  obtain ⟨ds, h1, h2, _⟩ := opens n t sh hs _ _ _ hf
  exact ⟨ds, h2, cs, rfl, all2_dC h1⟩
theorem open_cell {n base : Nat} {t : TypeId} {s : Sh} {v : Value} {d : DataW H} {p : List MemPlace} (hs : shapeOf P n t = some [s]) (ha : aggD P t = some false)
    (hv : Value.okWide P W .any base t v) (h : DataW.Trod enc P W 0 (fun _ => true) true t v d p) : ∃ x, Typ s x ∧ DRep (noEnv (Old W)) noSt W v (argD false [x]) := by
  obtain ⟨fuel, hf⟩ := h
  have hc : v.cells.toList = [v] := by
    cases n with
    | zero => cases hs
    | succ n =>
      unfold shapeOf at hs
      split at hs
      · rename_i k hu; obtain ⟨m, rfl⟩ := okWide_int hu hv; rfl
      · rename_i hu; obtain ⟨m, rfl⟩ := okWide_bool hu hv; rfl
      · rename_i hu; obtain ⟨m, rfl⟩ := okWide_string hu hv; rfl
      · rename_i e hu; obtain ⟨a, l, c, rfl⟩ := okWide_slice hu hv; rfl
      · rename_i fs hu; unfold aggD at ha; rw [hu] at ha; simp at ha
      · cases hs
  obtain ⟨ds, h1, h2, _⟩ := opens n t [s] hs _ _ _ hf
  rw [hc] at h1
  match ds, h1, h2 with
  | [x], h1, h2 =>
    unfold TypL at h2
    exact ⟨x, h2.1, h1.1⟩
end Go.Proofs.Ytabmdijfholakaa.AM

/- Closed facts on the types of this program. -/
namespace Go.Proofs.Ytabmdijfholakaa.AM
open Go.RowKit
@[push_cast] theorem tsz_1 : tsz Try.prog 1 = some 1 := by kernel_rfl
@[push_cast] theorem aggD_1 : aggD Try.prog 1 = some false := by kernel_rfl
@[push_cast] theorem tzero_1 : tzero Try.prog 1 = some [.nilFunc] := by kernel_rfl
@[push_cast] theorem elInfo_1 : elInfo Try.prog 1 = some (1, 8) := by kernel_rfl
@[push_cast] theorem tsz_2 : tsz Try.prog 2 = some 1 := by kernel_rfl
@[push_cast] theorem aggD_2 : aggD Try.prog 2 = some false := by kernel_rfl
@[push_cast] theorem tzero_2 : tzero Try.prog 2 = some [(.int .i64 0)] := by kernel_rfl
@[push_cast] theorem elInfo_2 : elInfo Try.prog 2 = some (1, 8) := by kernel_rfl
@[push_cast] theorem tsz_3 : tsz Try.prog 3 = some 1 := by kernel_rfl
@[push_cast] theorem aggD_3 : aggD Try.prog 3 = some false := by kernel_rfl
@[push_cast] theorem tzero_3 : tzero Try.prog 3 = some [(.int .i64 0)] := by kernel_rfl
@[push_cast] theorem elInfo_3 : elInfo Try.prog 3 = some (1, 8) := by kernel_rfl
@[push_cast] theorem tsz_4 : tsz Try.prog 4 = some 1 := by kernel_rfl
@[push_cast] theorem aggD_4 : aggD Try.prog 4 = some false := by kernel_rfl
@[push_cast] theorem tzero_4 : tzero Try.prog 4 = some [(.bool false)] := by kernel_rfl
@[push_cast] theorem elInfo_4 : elInfo Try.prog 4 = some (1, 1) := by kernel_rfl
@[push_cast] theorem tsz_5 : tsz Try.prog 5 = some 1 := by kernel_rfl
@[push_cast] theorem aggD_5 : aggD Try.prog 5 = some false := by kernel_rfl
@[push_cast] theorem tzero_5 : tzero Try.prog 5 = some [(.int .u8 0)] := by kernel_rfl
@[push_cast] theorem elInfo_5 : elInfo Try.prog 5 = some (1, 1) := by kernel_rfl
@[push_cast] theorem tsz_6 : tsz Try.prog 6 = some 1 := by kernel_rfl
@[push_cast] theorem aggD_6 : aggD Try.prog 6 = some false := by kernel_rfl
@[push_cast] theorem tzero_6 : tzero Try.prog 6 = some [(.int .u8 0)] := by kernel_rfl
@[push_cast] theorem elInfo_6 : elInfo Try.prog 6 = some (1, 1) := by kernel_rfl
@[push_cast] theorem tsz_9 : tsz Try.prog 9 = some 1 := by kernel_rfl
@[push_cast] theorem aggD_9 : aggD Try.prog 9 = some false := by kernel_rfl
@[push_cast] theorem tzero_9 : tzero Try.prog 9 = some [(.string ⟨#[]⟩)] := by kernel_rfl
@[push_cast] theorem elInfo_9 : elInfo Try.prog 9 = some (1, 16) := by kernel_rfl
@[push_cast] theorem tsz_10 : tsz Try.prog 10 = some 1 := by kernel_rfl
@[push_cast] theorem aggD_10 : aggD Try.prog 10 = some false := by kernel_rfl
@[push_cast] theorem tzero_10 : tzero Try.prog 10 = some [(.string ⟨#[]⟩)] := by kernel_rfl
@[push_cast] theorem elInfo_10 : elInfo Try.prog 10 = some (1, 16) := by kernel_rfl
@[push_cast] theorem tsz_11 : tsz Try.prog 11 = some 1 := by kernel_rfl
@[push_cast] theorem aggD_11 : aggD Try.prog 11 = some false := by kernel_rfl
@[push_cast] theorem tzero_11 : tzero Try.prog 11 = some [(.string ⟨#[]⟩)] := by kernel_rfl
@[push_cast] theorem elInfo_11 : elInfo Try.prog 11 = some (1, 16) := by kernel_rfl
@[push_cast] theorem tsz_12 : tsz Try.prog 12 = some 1 := by kernel_rfl
@[push_cast] theorem aggD_12 : aggD Try.prog 12 = some false := by kernel_rfl
@[push_cast] theorem tzero_12 : tzero Try.prog 12 = some [(.int .u64 0)] := by kernel_rfl
@[push_cast] theorem elInfo_12 : elInfo Try.prog 12 = some (1, 8) := by kernel_rfl
@[push_cast] theorem tsz_13 : tsz Try.prog 13 = some 2 := by kernel_rfl
@[push_cast] theorem aggD_13 : aggD Try.prog 13 = some true := by kernel_rfl
@[push_cast] theorem tzero_13 : tzero Try.prog 13 = some [(.string ⟨#[]⟩), (.int .u64 0)] := by kernel_rfl
@[push_cast] theorem elInfo_13 : elInfo Try.prog 13 = some (2, 24) := by kernel_rfl
@[push_cast] theorem fieldP_13_0 : fieldP Try.prog 13 0 = some (0, 9) := by kernel_rfl
@[push_cast] theorem fieldP_13_1 : fieldP Try.prog 13 1 = some (1, 12) := by kernel_rfl
@[push_cast] theorem tsz_21 : tsz Try.prog 21 = some 1 := by kernel_rfl
@[push_cast] theorem aggD_21 : aggD Try.prog 21 = some false := by kernel_rfl
@[push_cast] theorem tzero_21 : tzero Try.prog 21 = some [(.int .i32 0)] := by kernel_rfl
@[push_cast] theorem elInfo_21 : elInfo Try.prog 21 = some (1, 4) := by kernel_rfl
@[push_cast] theorem tsz_22 : tsz Try.prog 22 = some 1 := by kernel_rfl
@[push_cast] theorem aggD_22 : aggD Try.prog 22 = some false := by kernel_rfl
@[push_cast] theorem tzero_22 : tzero Try.prog 22 = some [(.slice none 0 0)] := by kernel_rfl
@[push_cast] theorem elInfo_22 : elInfo Try.prog 22 = some (1, 24) := by kernel_rfl
@[push_cast] theorem tsz_23 : tsz Try.prog 23 = some 1 := by kernel_rfl
@[push_cast] theorem aggD_23 : aggD Try.prog 23 = some false := by kernel_rfl
@[push_cast] theorem tzero_23 : tzero Try.prog 23 = some [(.slice none 0 0)] := by kernel_rfl
@[push_cast] theorem elInfo_23 : elInfo Try.prog 23 = some (1, 24) := by kernel_rfl
@[push_cast] theorem tsz_24 : tsz Try.prog 24 = some 2 := by kernel_rfl
@[push_cast] theorem aggD_24 : aggD Try.prog 24 = some true := by kernel_rfl
@[push_cast] theorem tzero_24 : tzero Try.prog 24 = some [(.slice none 0 0), (.slice none 0 0)] := by kernel_rfl
@[push_cast] theorem elInfo_24 : elInfo Try.prog 24 = some (2, 48) := by kernel_rfl
@[push_cast] theorem fieldP_24_0 : fieldP Try.prog 24 0 = some (0, 22) := by kernel_rfl
@[push_cast] theorem fieldP_24_1 : fieldP Try.prog 24 1 = some (1, 23) := by kernel_rfl
@[push_cast] theorem tsz_25 : tsz Try.prog 25 = some 2 := by kernel_rfl
@[push_cast] theorem aggD_25 : aggD Try.prog 25 = some true := by kernel_rfl
@[push_cast] theorem tzero_25 : tzero Try.prog 25 = some [(.slice none 0 0), (.slice none 0 0)] := by kernel_rfl
@[push_cast] theorem elInfo_25 : elInfo Try.prog 25 = some (2, 48) := by kernel_rfl
@[push_cast] theorem fieldP_25_0 : fieldP Try.prog 25 0 = some (0, 22) := by kernel_rfl
@[push_cast] theorem fieldP_25_1 : fieldP Try.prog 25 1 = some (1, 23) := by kernel_rfl
@[push_cast] theorem tsz_26 : tsz Try.prog 26 = some 2 := by kernel_rfl
@[push_cast] theorem aggD_26 : aggD Try.prog 26 = some true := by kernel_rfl
@[push_cast] theorem tzero_26 : tzero Try.prog 26 = some [(.int .i64 0), (.int .i64 0)] := by kernel_rfl
@[push_cast] theorem elInfo_26 : elInfo Try.prog 26 = some (2, 16) := by kernel_rfl
@[push_cast] theorem fieldP_26_0 : fieldP Try.prog 26 0 = some (0, 3) := by kernel_rfl
@[push_cast] theorem fieldP_26_1 : fieldP Try.prog 26 1 = some (1, 3) := by kernel_rfl
@[push_cast] theorem tsz_27 : tsz Try.prog 27 = some 2 := by kernel_rfl
@[push_cast] theorem aggD_27 : aggD Try.prog 27 = some true := by kernel_rfl
@[push_cast] theorem tzero_27 : tzero Try.prog 27 = some [(.int .i64 0), (.int .i64 0)] := by kernel_rfl
@[push_cast] theorem elInfo_27 : elInfo Try.prog 27 = some (2, 16) := by kernel_rfl
@[push_cast] theorem fieldP_27_0 : fieldP Try.prog 27 0 = some (0, 3) := by kernel_rfl
@[push_cast] theorem fieldP_27_1 : fieldP Try.prog 27 1 = some (1, 3) := by kernel_rfl
@[push_cast] theorem tsz_28 : tsz Try.prog 28 = some 1 := by kernel_rfl
@[push_cast] theorem aggD_28 : aggD Try.prog 28 = some false := by kernel_rfl
@[push_cast] theorem tzero_28 : tzero Try.prog 28 = some [(.slice none 0 0)] := by kernel_rfl
@[push_cast] theorem elInfo_28 : elInfo Try.prog 28 = some (1, 24) := by kernel_rfl
@[push_cast] theorem tsz_29 : tsz Try.prog 29 = some 7 := by kernel_rfl
@[push_cast] theorem aggD_29 : aggD Try.prog 29 = some true := by kernel_rfl
@[push_cast] theorem tzero_29 : tzero Try.prog 29 = some [(.slice none 0 0), (.slice none 0 0), (.int .i64 0), (.int .i64 0), (.string ⟨#[]⟩), (.int .i64 0), (.slice none 0 0)] := by kernel_rfl
@[push_cast] theorem elInfo_29 : elInfo Try.prog 29 = some (7, 112) := by kernel_rfl
@[push_cast] theorem fieldP_29_0 : fieldP Try.prog 29 0 = some (0, 25) := by kernel_rfl
@[push_cast] theorem fieldP_29_1 : fieldP Try.prog 29 1 = some (2, 27) := by kernel_rfl
@[push_cast] theorem fieldP_29_2 : fieldP Try.prog 29 2 = some (4, 9) := by kernel_rfl
@[push_cast] theorem fieldP_29_3 : fieldP Try.prog 29 3 = some (5, 3) := by kernel_rfl
@[push_cast] theorem fieldP_29_4 : fieldP Try.prog 29 4 = some (6, 28) := by kernel_rfl
@[push_cast] theorem tsz_30 : tsz Try.prog 30 = some 7 := by kernel_rfl
@[push_cast] theorem aggD_30 : aggD Try.prog 30 = some true := by kernel_rfl
@[push_cast] theorem tzero_30 : tzero Try.prog 30 = some [(.slice none 0 0), (.slice none 0 0), (.int .i64 0), (.int .i64 0), (.string ⟨#[]⟩), (.int .i64 0), (.slice none 0 0)] := by kernel_rfl
@[push_cast] theorem elInfo_30 : elInfo Try.prog 30 = some (7, 112) := by kernel_rfl
@[push_cast] theorem fieldP_30_0 : fieldP Try.prog 30 0 = some (0, 25) := by kernel_rfl
@[push_cast] theorem fieldP_30_1 : fieldP Try.prog 30 1 = some (2, 27) := by kernel_rfl
@[push_cast] theorem fieldP_30_2 : fieldP Try.prog 30 2 = some (4, 9) := by kernel_rfl
@[push_cast] theorem fieldP_30_3 : fieldP Try.prog 30 3 = some (5, 3) := by kernel_rfl
@[push_cast] theorem fieldP_30_4 : fieldP Try.prog 30 4 = some (6, 28) := by kernel_rfl
@[push_cast] theorem tsz_31 : tsz Try.prog 31 = some 1 := by kernel_rfl
@[push_cast] theorem aggD_31 : aggD Try.prog 31 = some false := by kernel_rfl
@[push_cast] theorem tzero_31 : tzero Try.prog 31 = some [.nilFunc] := by kernel_rfl
@[push_cast] theorem elInfo_31 : elInfo Try.prog 31 = some (1, 8) := by kernel_rfl
@[push_cast] theorem tsz_32 : tsz Try.prog 32 = some 1 := by kernel_rfl
@[push_cast] theorem aggD_32 : aggD Try.prog 32 = some false := by kernel_rfl
@[push_cast] theorem tzero_32 : tzero Try.prog 32 = some [.nilFunc] := by kernel_rfl
@[push_cast] theorem elInfo_32 : elInfo Try.prog 32 = some (1, 8) := by kernel_rfl
@[push_cast] theorem tsz_33 : tsz Try.prog 33 = some 2 := by kernel_rfl
@[push_cast] theorem aggD_33 : aggD Try.prog 33 = some true := by kernel_rfl
@[push_cast] theorem tzero_33 : tzero Try.prog 33 = some [(.int .i64 0), (.int .i64 0)] := by kernel_rfl
@[push_cast] theorem elInfo_33 : elInfo Try.prog 33 = some (2, 16) := by kernel_rfl
@[push_cast] theorem fieldP_33_0 : fieldP Try.prog 33 0 = some (0, 3) := by kernel_rfl
@[push_cast] theorem fieldP_33_1 : fieldP Try.prog 33 1 = some (1, 3) := by kernel_rfl
@[push_cast] theorem tsz_34 : tsz Try.prog 34 = some 3 := by kernel_rfl
@[push_cast] theorem aggD_34 : aggD Try.prog 34 = some true := by kernel_rfl
@[push_cast] theorem tzero_34 : tzero Try.prog 34 = some [(.int .i64 0), (.slice none 0 0), (.int .i64 0)] := by kernel_rfl
@[push_cast] theorem elInfo_34 : elInfo Try.prog 34 = some (3, 40) := by kernel_rfl
@[push_cast] theorem fieldP_34_0 : fieldP Try.prog 34 0 = some (0, 3) := by kernel_rfl
@[push_cast] theorem fieldP_34_1 : fieldP Try.prog 34 1 = some (1, 22) := by kernel_rfl
@[push_cast] theorem fieldP_34_2 : fieldP Try.prog 34 2 = some (2, 3) := by kernel_rfl
@[push_cast] theorem tsz_35 : tsz Try.prog 35 = some 3 := by kernel_rfl
@[push_cast] theorem aggD_35 : aggD Try.prog 35 = some true := by kernel_rfl
@[push_cast] theorem tzero_35 : tzero Try.prog 35 = some [(.int .i64 0), (.slice none 0 0), (.int .i64 0)] := by kernel_rfl
@[push_cast] theorem elInfo_35 : elInfo Try.prog 35 = some (3, 40) := by kernel_rfl
@[push_cast] theorem fieldP_35_0 : fieldP Try.prog 35 0 = some (0, 3) := by kernel_rfl
@[push_cast] theorem fieldP_35_1 : fieldP Try.prog 35 1 = some (1, 22) := by kernel_rfl
@[push_cast] theorem fieldP_35_2 : fieldP Try.prog 35 2 = some (2, 3) := by kernel_rfl
@[push_cast] theorem tsz_36 : tsz Try.prog 36 = some 1 := by kernel_rfl
@[push_cast] theorem aggD_36 : aggD Try.prog 36 = some false := by kernel_rfl
@[push_cast] theorem tzero_36 : tzero Try.prog 36 = some [(.int .i64 0)] := by kernel_rfl
@[push_cast] theorem elInfo_36 : elInfo Try.prog 36 = some (1, 8) := by kernel_rfl
@[push_cast] theorem tsz_38 : tsz Try.prog 38 = some 1 := by kernel_rfl
@[push_cast] theorem aggD_38 : aggD Try.prog 38 = some false := by kernel_rfl
@[push_cast] theorem tzero_38 : tzero Try.prog 38 = some [.nilFunc] := by kernel_rfl
@[push_cast] theorem elInfo_38 : elInfo Try.prog 38 = some (1, 8) := by kernel_rfl
@[push_cast] theorem tsz_39 : tsz Try.prog 39 = some 1 := by kernel_rfl
@[push_cast] theorem aggD_39 : aggD Try.prog 39 = some false := by kernel_rfl
@[push_cast] theorem tzero_39 : tzero Try.prog 39 = some [.nilFunc] := by kernel_rfl
@[push_cast] theorem elInfo_39 : elInfo Try.prog 39 = some (1, 8) := by kernel_rfl
@[push_cast] theorem tsz_40 : tsz Try.prog 40 = some 1 := by kernel_rfl
@[push_cast] theorem aggD_40 : aggD Try.prog 40 = some false := by kernel_rfl
@[push_cast] theorem tzero_40 : tzero Try.prog 40 = some [(.slice none 0 0)] := by kernel_rfl
@[push_cast] theorem elInfo_40 : elInfo Try.prog 40 = some (1, 24) := by kernel_rfl
@[push_cast] theorem tsz_42 : tsz Try.prog 42 = some 1 := by kernel_rfl
@[push_cast] theorem aggD_42 : aggD Try.prog 42 = some false := by kernel_rfl
@[push_cast] theorem tzero_42 : tzero Try.prog 42 = some [.nilFunc] := by kernel_rfl
@[push_cast] theorem elInfo_42 : elInfo Try.prog 42 = some (1, 8) := by kernel_rfl
@[push_cast] theorem tsz_44 : tsz Try.prog 44 = some 1 := by kernel_rfl
@[push_cast] theorem aggD_44 : aggD Try.prog 44 = some false := by kernel_rfl
@[push_cast] theorem tzero_44 : tzero Try.prog 44 = some [.nilFunc] := by kernel_rfl
@[push_cast] theorem elInfo_44 : elInfo Try.prog 44 = some (1, 8) := by kernel_rfl
@[push_cast] theorem tsz_45 : tsz Try.prog 45 = some 1 := by kernel_rfl
@[push_cast] theorem aggD_45 : aggD Try.prog 45 = some false := by kernel_rfl
@[push_cast] theorem tzero_45 : tzero Try.prog 45 = some [.nilFunc] := by kernel_rfl
@[push_cast] theorem elInfo_45 : elInfo Try.prog 45 = some (1, 8) := by kernel_rfl
@[push_cast] theorem tsz_46 : tsz Try.prog 46 = some 1 := by kernel_rfl
@[push_cast] theorem aggD_46 : aggD Try.prog 46 = some false := by kernel_rfl
@[push_cast] theorem tzero_46 : tzero Try.prog 46 = some [.nilFunc] := by kernel_rfl
@[push_cast] theorem elInfo_46 : elInfo Try.prog 46 = some (1, 8) := by kernel_rfl
@[push_cast] theorem tsz_47 : tsz Try.prog 47 = some 1 := by kernel_rfl
@[push_cast] theorem aggD_47 : aggD Try.prog 47 = some false := by kernel_rfl
@[push_cast] theorem tzero_47 : tzero Try.prog 47 = some [.nilFunc] := by kernel_rfl
@[push_cast] theorem elInfo_47 : elInfo Try.prog 47 = some (1, 8) := by kernel_rfl
@[push_cast] theorem tsz_48 : tsz Try.prog 48 = some 1 := by kernel_rfl
@[push_cast] theorem aggD_48 : aggD Try.prog 48 = some false := by kernel_rfl
@[push_cast] theorem tzero_48 : tzero Try.prog 48 = some [.nilFunc] := by kernel_rfl
@[push_cast] theorem elInfo_48 : elInfo Try.prog 48 = some (1, 8) := by kernel_rfl
@[push_cast] theorem tsz_49 : tsz Try.prog 49 = some 1 := by kernel_rfl
@[push_cast] theorem aggD_49 : aggD Try.prog 49 = some false := by kernel_rfl
@[push_cast] theorem tzero_49 : tzero Try.prog 49 = some [.nilFunc] := by kernel_rfl
@[push_cast] theorem elInfo_49 : elInfo Try.prog 49 = some (1, 8) := by kernel_rfl
@[push_cast] theorem tsz_51 : tsz Try.prog 51 = some 1 := by kernel_rfl
@[push_cast] theorem aggD_51 : aggD Try.prog 51 = some false := by kernel_rfl
@[push_cast] theorem tzero_51 : tzero Try.prog 51 = some [.nilFunc] := by kernel_rfl
@[push_cast] theorem elInfo_51 : elInfo Try.prog 51 = some (1, 8) := by kernel_rfl
@[push_cast] theorem tsz_52 : tsz Try.prog 52 = some 5 := by kernel_rfl
@[push_cast] theorem aggD_52 : aggD Try.prog 52 = some true := by kernel_rfl
@[push_cast] theorem tzero_52 : tzero Try.prog 52 = some [(.int .i64 0), (.int .i64 0), (.int .i64 0), (.int .i64 0), (.int .i64 0)] := by kernel_rfl
@[push_cast] theorem elInfo_52 : elInfo Try.prog 52 = some (5, 40) := by kernel_rfl
@[push_cast] theorem fieldP_52_0 : fieldP Try.prog 52 0 = some (0, 3) := by kernel_rfl
@[push_cast] theorem fieldP_52_1 : fieldP Try.prog 52 1 = some (1, 3) := by kernel_rfl
@[push_cast] theorem fieldP_52_2 : fieldP Try.prog 52 2 = some (2, 3) := by kernel_rfl
@[push_cast] theorem fieldP_52_3 : fieldP Try.prog 52 3 = some (3, 3) := by kernel_rfl
@[push_cast] theorem fieldP_52_4 : fieldP Try.prog 52 4 = some (4, 3) := by kernel_rfl
@[push_cast] theorem tsz_53 : tsz Try.prog 53 = some 5 := by kernel_rfl
@[push_cast] theorem aggD_53 : aggD Try.prog 53 = some true := by kernel_rfl
@[push_cast] theorem tzero_53 : tzero Try.prog 53 = some [(.int .i64 0), (.int .i64 0), (.int .i64 0), (.int .i64 0), (.int .i64 0)] := by kernel_rfl
@[push_cast] theorem elInfo_53 : elInfo Try.prog 53 = some (5, 40) := by kernel_rfl
@[push_cast] theorem fieldP_53_0 : fieldP Try.prog 53 0 = some (0, 3) := by kernel_rfl
@[push_cast] theorem fieldP_53_1 : fieldP Try.prog 53 1 = some (1, 3) := by kernel_rfl
@[push_cast] theorem fieldP_53_2 : fieldP Try.prog 53 2 = some (2, 3) := by kernel_rfl
@[push_cast] theorem fieldP_53_3 : fieldP Try.prog 53 3 = some (3, 3) := by kernel_rfl
@[push_cast] theorem fieldP_53_4 : fieldP Try.prog 53 4 = some (4, 3) := by kernel_rfl
@[push_cast] theorem tsz_55 : tsz Try.prog 55 = some 1 := by kernel_rfl
@[push_cast] theorem aggD_55 : aggD Try.prog 55 = some false := by kernel_rfl
@[push_cast] theorem tzero_55 : tzero Try.prog 55 = some [.nilFunc] := by kernel_rfl
@[push_cast] theorem elInfo_55 : elInfo Try.prog 55 = some (1, 8) := by kernel_rfl
@[push_cast] theorem tsz_56 : tsz Try.prog 56 = some 1 := by kernel_rfl
@[push_cast] theorem aggD_56 : aggD Try.prog 56 = some false := by kernel_rfl
@[push_cast] theorem tzero_56 : tzero Try.prog 56 = some [.nilFunc] := by kernel_rfl
@[push_cast] theorem elInfo_56 : elInfo Try.prog 56 = some (1, 8) := by kernel_rfl
@[push_cast] theorem tsz_58 : tsz Try.prog 58 = some 1 := by kernel_rfl
@[push_cast] theorem aggD_58 : aggD Try.prog 58 = some false := by kernel_rfl
@[push_cast] theorem tzero_58 : tzero Try.prog 58 = some [.nilFunc] := by kernel_rfl
@[push_cast] theorem elInfo_58 : elInfo Try.prog 58 = some (1, 8) := by kernel_rfl
@[push_cast] theorem tsz_59 : tsz Try.prog 59 = some 1 := by kernel_rfl
@[push_cast] theorem aggD_59 : aggD Try.prog 59 = some false := by kernel_rfl
@[push_cast] theorem tzero_59 : tzero Try.prog 59 = some [.nilFunc] := by kernel_rfl
@[push_cast] theorem elInfo_59 : elInfo Try.prog 59 = some (1, 8) := by kernel_rfl
@[push_cast] theorem tsz_60 : tsz Try.prog 60 = some 1 := by kernel_rfl
@[push_cast] theorem aggD_60 : aggD Try.prog 60 = some false := by kernel_rfl
@[push_cast] theorem tzero_60 : tzero Try.prog 60 = some [.nilFunc] := by kernel_rfl
@[push_cast] theorem elInfo_60 : elInfo Try.prog 60 = some (1, 8) := by kernel_rfl
@[push_cast] theorem tsz_61 : tsz Try.prog 61 = some 2 := by kernel_rfl
@[push_cast] theorem aggD_61 : aggD Try.prog 61 = some true := by kernel_rfl
@[push_cast] theorem tzero_61 : tzero Try.prog 61 = some [(.int .i64 0), (.string ⟨#[]⟩)] := by kernel_rfl
@[push_cast] theorem elInfo_61 : elInfo Try.prog 61 = some (2, 24) := by kernel_rfl
@[push_cast] theorem fieldP_61_0 : fieldP Try.prog 61 0 = some (0, 3) := by kernel_rfl
@[push_cast] theorem fieldP_61_1 : fieldP Try.prog 61 1 = some (1, 9) := by kernel_rfl
@[push_cast] theorem tsz_62 : tsz Try.prog 62 = some 2 := by kernel_rfl
@[push_cast] theorem aggD_62 : aggD Try.prog 62 = some true := by kernel_rfl
@[push_cast] theorem tzero_62 : tzero Try.prog 62 = some [(.int .i64 0), (.string ⟨#[]⟩)] := by kernel_rfl
@[push_cast] theorem elInfo_62 : elInfo Try.prog 62 = some (2, 24) := by kernel_rfl
@[push_cast] theorem fieldP_62_0 : fieldP Try.prog 62 0 = some (0, 3) := by kernel_rfl
@[push_cast] theorem fieldP_62_1 : fieldP Try.prog 62 1 = some (1, 9) := by kernel_rfl
@[push_cast] theorem tsz_63 : tsz Try.prog 63 = some 1 := by kernel_rfl
@[push_cast] theorem aggD_63 : aggD Try.prog 63 = some false := by kernel_rfl
@[push_cast] theorem tzero_63 : tzero Try.prog 63 = some [.nilFunc] := by kernel_rfl
@[push_cast] theorem elInfo_63 : elInfo Try.prog 63 = some (1, 8) := by kernel_rfl
@[push_cast] theorem tsz_64 : tsz Try.prog 64 = some 1 := by kernel_rfl
@[push_cast] theorem aggD_64 : aggD Try.prog 64 = some false := by kernel_rfl
@[push_cast] theorem tzero_64 : tzero Try.prog 64 = some [.nilFunc] := by kernel_rfl
@[push_cast] theorem elInfo_64 : elInfo Try.prog 64 = some (1, 8) := by kernel_rfl
@[push_cast] theorem tsz_65 : tsz Try.prog 65 = some 3 := by kernel_rfl
@[push_cast] theorem aggD_65 : aggD Try.prog 65 = some true := by kernel_rfl
@[push_cast] theorem tzero_65 : tzero Try.prog 65 = some [(.int .i64 0), (.slice none 0 0), (.int .i64 0)] := by kernel_rfl
@[push_cast] theorem elInfo_65 : elInfo Try.prog 65 = some (3, 40) := by kernel_rfl
@[push_cast] theorem fieldP_65_0 : fieldP Try.prog 65 0 = some (0, 3) := by kernel_rfl
@[push_cast] theorem fieldP_65_1 : fieldP Try.prog 65 1 = some (1, 22) := by kernel_rfl
@[push_cast] theorem fieldP_65_2 : fieldP Try.prog 65 2 = some (2, 3) := by kernel_rfl
@[push_cast] theorem tsz_66 : tsz Try.prog 66 = some 1 := by kernel_rfl
@[push_cast] theorem aggD_66 : aggD Try.prog 66 = some false := by kernel_rfl
@[push_cast] theorem tzero_66 : tzero Try.prog 66 = some [.nilFunc] := by kernel_rfl
@[push_cast] theorem elInfo_66 : elInfo Try.prog 66 = some (1, 8) := by kernel_rfl
@[push_cast] theorem tsz_67 : tsz Try.prog 67 = some 1 := by kernel_rfl
@[push_cast] theorem aggD_67 : aggD Try.prog 67 = some false := by kernel_rfl
@[push_cast] theorem tzero_67 : tzero Try.prog 67 = some [.nilFunc] := by kernel_rfl
@[push_cast] theorem elInfo_67 : elInfo Try.prog 67 = some (1, 8) := by kernel_rfl
@[push_cast] theorem tsz_69 : tsz Try.prog 69 = some 1 := by kernel_rfl
@[push_cast] theorem aggD_69 : aggD Try.prog 69 = some false := by kernel_rfl
@[push_cast] theorem tzero_69 : tzero Try.prog 69 = some [.nilFunc] := by kernel_rfl
@[push_cast] theorem elInfo_69 : elInfo Try.prog 69 = some (1, 8) := by kernel_rfl
@[push_cast] theorem tsz_70 : tsz Try.prog 70 = some 5 := by kernel_rfl
@[push_cast] theorem aggD_70 : aggD Try.prog 70 = some true := by kernel_rfl
@[push_cast] theorem tzero_70 : tzero Try.prog 70 = some [(.int .i64 0), (.int .i64 0), (.int .i64 0), (.int .i64 0), (.int .i64 0)] := by kernel_rfl
@[push_cast] theorem elInfo_70 : elInfo Try.prog 70 = some (5, 40) := by kernel_rfl
@[push_cast] theorem fieldP_70_0 : fieldP Try.prog 70 0 = some (0, 3) := by kernel_rfl
@[push_cast] theorem fieldP_70_1 : fieldP Try.prog 70 1 = some (1, 3) := by kernel_rfl
@[push_cast] theorem fieldP_70_2 : fieldP Try.prog 70 2 = some (2, 3) := by kernel_rfl
@[push_cast] theorem fieldP_70_3 : fieldP Try.prog 70 3 = some (3, 3) := by kernel_rfl
@[push_cast] theorem fieldP_70_4 : fieldP Try.prog 70 4 = some (4, 3) := by kernel_rfl
@[push_cast] theorem tsz_72 : tsz Try.prog 72 = some 1 := by kernel_rfl
@[push_cast] theorem aggD_72 : aggD Try.prog 72 = some false := by kernel_rfl
@[push_cast] theorem tzero_72 : tzero Try.prog 72 = some [.nilFunc] := by kernel_rfl
@[push_cast] theorem elInfo_72 : elInfo Try.prog 72 = some (1, 8) := by kernel_rfl
@[push_cast] theorem tsz_74 : tsz Try.prog 74 = some 1 := by kernel_rfl
@[push_cast] theorem aggD_74 : aggD Try.prog 74 = some false := by kernel_rfl
@[push_cast] theorem tzero_74 : tzero Try.prog 74 = some [.nilFunc] := by kernel_rfl
@[push_cast] theorem elInfo_74 : elInfo Try.prog 74 = some (1, 8) := by kernel_rfl
@[push_cast] theorem tsz_75 : tsz Try.prog 75 = some 3 := by kernel_rfl
@[push_cast] theorem aggD_75 : aggD Try.prog 75 = some true := by kernel_rfl
@[push_cast] theorem tzero_75 : tzero Try.prog 75 = some [(.int .i64 0), (.int .i64 0), (.int .i64 0)] := by kernel_rfl
@[push_cast] theorem elInfo_75 : elInfo Try.prog 75 = some (3, 24) := by kernel_rfl
@[push_cast] theorem fieldP_75_0 : fieldP Try.prog 75 0 = some (0, 33) := by kernel_rfl
@[push_cast] theorem fieldP_75_1 : fieldP Try.prog 75 1 = some (2, 3) := by kernel_rfl
@[push_cast] theorem tsz_76 : tsz Try.prog 76 = some 3 := by kernel_rfl
@[push_cast] theorem aggD_76 : aggD Try.prog 76 = some true := by kernel_rfl
@[push_cast] theorem tzero_76 : tzero Try.prog 76 = some [(.int .i64 0), (.int .i64 0), (.int .i64 0)] := by kernel_rfl
@[push_cast] theorem elInfo_76 : elInfo Try.prog 76 = some (3, 24) := by kernel_rfl
@[push_cast] theorem fieldP_76_0 : fieldP Try.prog 76 0 = some (0, 33) := by kernel_rfl
@[push_cast] theorem fieldP_76_1 : fieldP Try.prog 76 1 = some (2, 3) := by kernel_rfl
@[push_cast] theorem tsz_77 : tsz Try.prog 77 = some 1 := by kernel_rfl
@[push_cast] theorem aggD_77 : aggD Try.prog 77 = some false := by kernel_rfl
@[push_cast] theorem tzero_77 : tzero Try.prog 77 = some [.nilFunc] := by kernel_rfl
@[push_cast] theorem elInfo_77 : elInfo Try.prog 77 = some (1, 8) := by kernel_rfl
@[push_cast] theorem tsz_78 : tsz Try.prog 78 = some 1 := by kernel_rfl
@[push_cast] theorem aggD_78 : aggD Try.prog 78 = some false := by kernel_rfl
@[push_cast] theorem tzero_78 : tzero Try.prog 78 = some [.nilFunc] := by kernel_rfl
@[push_cast] theorem elInfo_78 : elInfo Try.prog 78 = some (1, 8) := by kernel_rfl
@[push_cast] theorem tsz_79 : tsz Try.prog 79 = some 1 := by kernel_rfl
@[push_cast] theorem aggD_79 : aggD Try.prog 79 = some false := by kernel_rfl
@[push_cast] theorem tzero_79 : tzero Try.prog 79 = some [.nilFunc] := by kernel_rfl
@[push_cast] theorem elInfo_79 : elInfo Try.prog 79 = some (1, 8) := by kernel_rfl
@[push_cast] theorem tsz_80 : tsz Try.prog 80 = some 1 := by kernel_rfl
@[push_cast] theorem aggD_80 : aggD Try.prog 80 = some false := by kernel_rfl
@[push_cast] theorem tzero_80 : tzero Try.prog 80 = some [.nilFunc] := by kernel_rfl
@[push_cast] theorem elInfo_80 : elInfo Try.prog 80 = some (1, 8) := by kernel_rfl
@[push_cast] theorem tsz_81 : tsz Try.prog 81 = some 3 := by kernel_rfl
@[push_cast] theorem aggD_81 : aggD Try.prog 81 = some true := by kernel_rfl
@[push_cast] theorem tzero_81 : tzero Try.prog 81 = some [(.bool false), (.int .i64 0), (.string ⟨#[]⟩)] := by kernel_rfl
@[push_cast] theorem elInfo_81 : elInfo Try.prog 81 = some (3, 32) := by kernel_rfl
@[push_cast] theorem fieldP_81_0 : fieldP Try.prog 81 0 = some (0, 4) := by kernel_rfl
@[push_cast] theorem fieldP_81_1 : fieldP Try.prog 81 1 = some (1, 3) := by kernel_rfl
@[push_cast] theorem fieldP_81_2 : fieldP Try.prog 81 2 = some (2, 9) := by kernel_rfl
@[push_cast] theorem tsz_82 : tsz Try.prog 82 = some 3 := by kernel_rfl
@[push_cast] theorem aggD_82 : aggD Try.prog 82 = some true := by kernel_rfl
@[push_cast] theorem tzero_82 : tzero Try.prog 82 = some [(.bool false), (.int .i64 0), (.string ⟨#[]⟩)] := by kernel_rfl
@[push_cast] theorem elInfo_82 : elInfo Try.prog 82 = some (3, 32) := by kernel_rfl
@[push_cast] theorem fieldP_82_0 : fieldP Try.prog 82 0 = some (0, 4) := by kernel_rfl
@[push_cast] theorem fieldP_82_1 : fieldP Try.prog 82 1 = some (1, 3) := by kernel_rfl
@[push_cast] theorem fieldP_82_2 : fieldP Try.prog 82 2 = some (2, 9) := by kernel_rfl
@[push_cast] theorem tsz_83 : tsz Try.prog 83 = some 1 := by kernel_rfl
@[push_cast] theorem aggD_83 : aggD Try.prog 83 = some false := by kernel_rfl
@[push_cast] theorem tzero_83 : tzero Try.prog 83 = some [.nilFunc] := by kernel_rfl
@[push_cast] theorem elInfo_83 : elInfo Try.prog 83 = some (1, 8) := by kernel_rfl
@[push_cast] theorem tsz_84 : tsz Try.prog 84 = some 1 := by kernel_rfl
@[push_cast] theorem aggD_84 : aggD Try.prog 84 = some false := by kernel_rfl
@[push_cast] theorem tzero_84 : tzero Try.prog 84 = some [.nilFunc] := by kernel_rfl
@[push_cast] theorem elInfo_84 : elInfo Try.prog 84 = some (1, 8) := by kernel_rfl
@[push_cast] theorem tsz_85 : tsz Try.prog 85 = some 1 := by kernel_rfl
@[push_cast] theorem aggD_85 : aggD Try.prog 85 = some false := by kernel_rfl
@[push_cast] theorem tzero_85 : tzero Try.prog 85 = some [.nilFunc] := by kernel_rfl
@[push_cast] theorem elInfo_85 : elInfo Try.prog 85 = some (1, 8) := by kernel_rfl
@[push_cast] theorem tsz_86 : tsz Try.prog 86 = some 1 := by kernel_rfl
@[push_cast] theorem aggD_86 : aggD Try.prog 86 = some false := by kernel_rfl
@[push_cast] theorem tzero_86 : tzero Try.prog 86 = some [.nilFunc] := by kernel_rfl
@[push_cast] theorem elInfo_86 : elInfo Try.prog 86 = some (1, 8) := by kernel_rfl
@[push_cast] theorem tsz_87 : tsz Try.prog 87 = some 1 := by kernel_rfl
@[push_cast] theorem aggD_87 : aggD Try.prog 87 = some false := by kernel_rfl
@[push_cast] theorem tzero_87 : tzero Try.prog 87 = some [.nilFunc] := by kernel_rfl
@[push_cast] theorem elInfo_87 : elInfo Try.prog 87 = some (1, 8) := by kernel_rfl
@[push_cast] theorem tsz_88 : tsz Try.prog 88 = some 1 := by kernel_rfl
@[push_cast] theorem aggD_88 : aggD Try.prog 88 = some false := by kernel_rfl
@[push_cast] theorem tzero_88 : tzero Try.prog 88 = some [.nilFunc] := by kernel_rfl
@[push_cast] theorem elInfo_88 : elInfo Try.prog 88 = some (1, 8) := by kernel_rfl
@[push_cast] theorem tsz_89 : tsz Try.prog 89 = some 1 := by kernel_rfl
@[push_cast] theorem aggD_89 : aggD Try.prog 89 = some false := by kernel_rfl
@[push_cast] theorem tzero_89 : tzero Try.prog 89 = some [.nilFunc] := by kernel_rfl
@[push_cast] theorem elInfo_89 : elInfo Try.prog 89 = some (1, 8) := by kernel_rfl
@[push_cast] theorem tsz_90 : tsz Try.prog 90 = some 1 := by kernel_rfl
@[push_cast] theorem aggD_90 : aggD Try.prog 90 = some false := by kernel_rfl
@[push_cast] theorem tzero_90 : tzero Try.prog 90 = some [.nilFunc] := by kernel_rfl
@[push_cast] theorem elInfo_90 : elInfo Try.prog 90 = some (1, 8) := by kernel_rfl
@[push_cast] theorem tsz_91 : tsz Try.prog 91 = some 1 := by kernel_rfl
@[push_cast] theorem aggD_91 : aggD Try.prog 91 = some false := by kernel_rfl
@[push_cast] theorem tzero_91 : tzero Try.prog 91 = some [.nilFunc] := by kernel_rfl
@[push_cast] theorem elInfo_91 : elInfo Try.prog 91 = some (1, 8) := by kernel_rfl
@[push_cast] theorem tsz_92 : tsz Try.prog 92 = some 1 := by kernel_rfl
@[push_cast] theorem aggD_92 : aggD Try.prog 92 = some false := by kernel_rfl
@[push_cast] theorem tzero_92 : tzero Try.prog 92 = some [.nilFunc] := by kernel_rfl
@[push_cast] theorem elInfo_92 : elInfo Try.prog 92 = some (1, 8) := by kernel_rfl
@[push_cast] theorem tsz_93 : tsz Try.prog 93 = some 1 := by kernel_rfl
@[push_cast] theorem aggD_93 : aggD Try.prog 93 = some false := by kernel_rfl
@[push_cast] theorem tzero_93 : tzero Try.prog 93 = some [.nilFunc] := by kernel_rfl
@[push_cast] theorem elInfo_93 : elInfo Try.prog 93 = some (1, 8) := by kernel_rfl
@[push_cast] theorem tsz_94 : tsz Try.prog 94 = some 1 := by kernel_rfl
@[push_cast] theorem aggD_94 : aggD Try.prog 94 = some false := by kernel_rfl
@[push_cast] theorem tzero_94 : tzero Try.prog 94 = some [.nilFunc] := by kernel_rfl
@[push_cast] theorem elInfo_94 : elInfo Try.prog 94 = some (1, 8) := by kernel_rfl
@[push_cast] theorem tsz_95 : tsz Try.prog 95 = some 1 := by kernel_rfl
@[push_cast] theorem aggD_95 : aggD Try.prog 95 = some false := by kernel_rfl
@[push_cast] theorem tzero_95 : tzero Try.prog 95 = some [.nilFunc] := by kernel_rfl
@[push_cast] theorem elInfo_95 : elInfo Try.prog 95 = some (1, 8) := by kernel_rfl
@[push_cast] theorem tsz_96 : tsz Try.prog 96 = some 1 := by kernel_rfl
@[push_cast] theorem aggD_96 : aggD Try.prog 96 = some false := by kernel_rfl
@[push_cast] theorem tzero_96 : tzero Try.prog 96 = some [.nilFunc] := by kernel_rfl
@[push_cast] theorem elInfo_96 : elInfo Try.prog 96 = some (1, 8) := by kernel_rfl
@[push_cast] theorem tsz_97 : tsz Try.prog 97 = some 1 := by kernel_rfl
@[push_cast] theorem aggD_97 : aggD Try.prog 97 = some false := by kernel_rfl
@[push_cast] theorem tzero_97 : tzero Try.prog 97 = some [.nilFunc] := by kernel_rfl
@[push_cast] theorem elInfo_97 : elInfo Try.prog 97 = some (1, 8) := by kernel_rfl
@[push_cast] theorem tsz_98 : tsz Try.prog 98 = some 1 := by kernel_rfl
@[push_cast] theorem aggD_98 : aggD Try.prog 98 = some false := by kernel_rfl
@[push_cast] theorem tzero_98 : tzero Try.prog 98 = some [(.slice none 0 0)] := by kernel_rfl
@[push_cast] theorem elInfo_98 : elInfo Try.prog 98 = some (1, 24) := by kernel_rfl
@[push_cast] theorem tsz_99 : tsz Try.prog 99 = some 1 := by kernel_rfl
@[push_cast] theorem aggD_99 : aggD Try.prog 99 = some false := by kernel_rfl
@[push_cast] theorem tzero_99 : tzero Try.prog 99 = some [.nilFunc] := by kernel_rfl
@[push_cast] theorem elInfo_99 : elInfo Try.prog 99 = some (1, 8) := by kernel_rfl
@[push_cast] theorem tsz_100 : tsz Try.prog 100 = some 1 := by kernel_rfl
@[push_cast] theorem aggD_100 : aggD Try.prog 100 = some false := by kernel_rfl
@[push_cast] theorem tzero_100 : tzero Try.prog 100 = some [(.int .u64 0)] := by kernel_rfl
@[push_cast] theorem elInfo_100 : elInfo Try.prog 100 = some (1, 8) := by kernel_rfl
@[push_cast] theorem tsz_108 : tsz Try.prog 108 = some 1 := by kernel_rfl
@[push_cast] theorem aggD_108 : aggD Try.prog 108 = some false := by kernel_rfl
@[push_cast] theorem tzero_108 : tzero Try.prog 108 = some [.nilFunc] := by kernel_rfl
@[push_cast] theorem elInfo_108 : elInfo Try.prog 108 = some (1, 8) := by kernel_rfl
@[push_cast] theorem tsz_109 : tsz Try.prog 109 = some 1 := by kernel_rfl
@[push_cast] theorem aggD_109 : aggD Try.prog 109 = some false := by kernel_rfl
@[push_cast] theorem tzero_109 : tzero Try.prog 109 = some [.nilFunc] := by kernel_rfl
@[push_cast] theorem elInfo_109 : elInfo Try.prog 109 = some (1, 8) := by kernel_rfl
@[push_cast] theorem tsz_110 : tsz Try.prog 110 = some 1 := by kernel_rfl
@[push_cast] theorem aggD_110 : aggD Try.prog 110 = some false := by kernel_rfl
@[push_cast] theorem tzero_110 : tzero Try.prog 110 = some [.nilFunc] := by kernel_rfl
@[push_cast] theorem elInfo_110 : elInfo Try.prog 110 = some (1, 8) := by kernel_rfl
@[push_cast] theorem tsz_111 : tsz Try.prog 111 = some 1 := by kernel_rfl
@[push_cast] theorem aggD_111 : aggD Try.prog 111 = some false := by kernel_rfl
@[push_cast] theorem tzero_111 : tzero Try.prog 111 = some [.nilFunc] := by kernel_rfl
@[push_cast] theorem elInfo_111 : elInfo Try.prog 111 = some (1, 8) := by kernel_rfl
@[push_cast] theorem tsz_112 : tsz Try.prog 112 = some 1 := by kernel_rfl
@[push_cast] theorem aggD_112 : aggD Try.prog 112 = some false := by kernel_rfl
@[push_cast] theorem tzero_112 : tzero Try.prog 112 = some [(.slice none 0 0)] := by kernel_rfl
@[push_cast] theorem elInfo_112 : elInfo Try.prog 112 = some (1, 24) := by kernel_rfl
@[push_cast] theorem tsz_113 : tsz Try.prog 113 = some 1 := by kernel_rfl
@[push_cast] theorem aggD_113 : aggD Try.prog 113 = some false := by kernel_rfl
@[push_cast] theorem tzero_113 : tzero Try.prog 113 = some [(.pointer none)] := by kernel_rfl
@[push_cast] theorem elInfo_113 : elInfo Try.prog 113 = some (1, 8) := by kernel_rfl
@[push_cast] theorem tsz_115 : tsz Try.prog 115 = some 1 := by kernel_rfl
@[push_cast] theorem aggD_115 : aggD Try.prog 115 = some false := by kernel_rfl
@[push_cast] theorem tzero_115 : tzero Try.prog 115 = some [.nilFunc] := by kernel_rfl
@[push_cast] theorem elInfo_115 : elInfo Try.prog 115 = some (1, 8) := by kernel_rfl
@[push_cast] theorem tsz_116 : tsz Try.prog 116 = some 1 := by kernel_rfl
@[push_cast] theorem aggD_116 : aggD Try.prog 116 = some false := by kernel_rfl
@[push_cast] theorem tzero_116 : tzero Try.prog 116 = some [.nilFunc] := by kernel_rfl
@[push_cast] theorem elInfo_116 : elInfo Try.prog 116 = some (1, 8) := by kernel_rfl
@[push_cast] theorem tsz_118 : tsz Try.prog 118 = some 1 := by kernel_rfl
@[push_cast] theorem aggD_118 : aggD Try.prog 118 = some false := by kernel_rfl
@[push_cast] theorem tzero_118 : tzero Try.prog 118 = some [.nilFunc] := by kernel_rfl
@[push_cast] theorem elInfo_118 : elInfo Try.prog 118 = some (1, 8) := by kernel_rfl
@[push_cast] theorem tsz_119 : tsz Try.prog 119 = some 1 := by kernel_rfl
@[push_cast] theorem aggD_119 : aggD Try.prog 119 = some false := by kernel_rfl
@[push_cast] theorem tzero_119 : tzero Try.prog 119 = some [.nilFunc] := by kernel_rfl
@[push_cast] theorem elInfo_119 : elInfo Try.prog 119 = some (1, 8) := by kernel_rfl
@[push_cast] theorem tsz_120 : tsz Try.prog 120 = some 1 := by kernel_rfl
@[push_cast] theorem aggD_120 : aggD Try.prog 120 = some false := by kernel_rfl
@[push_cast] theorem tzero_120 : tzero Try.prog 120 = some [.nilFunc] := by kernel_rfl
@[push_cast] theorem elInfo_120 : elInfo Try.prog 120 = some (1, 8) := by kernel_rfl
@[push_cast] theorem tsz_123 : tsz Try.prog 123 = some 1 := by kernel_rfl
@[push_cast] theorem aggD_123 : aggD Try.prog 123 = some false := by kernel_rfl
@[push_cast] theorem tzero_123 : tzero Try.prog 123 = some [(.int .u32 0)] := by kernel_rfl
@[push_cast] theorem elInfo_123 : elInfo Try.prog 123 = some (1, 4) := by kernel_rfl
@[push_cast] theorem tsz_125 : tsz Try.prog 125 = some 1 := by kernel_rfl
@[push_cast] theorem aggD_125 : aggD Try.prog 125 = some false := by kernel_rfl
@[push_cast] theorem tzero_125 : tzero Try.prog 125 = some [.nilFunc] := by kernel_rfl
@[push_cast] theorem elInfo_125 : elInfo Try.prog 125 = some (1, 8) := by kernel_rfl
@[push_cast] theorem tsz_126 : tsz Try.prog 126 = some 1 := by kernel_rfl
@[push_cast] theorem aggD_126 : aggD Try.prog 126 = some false := by kernel_rfl
@[push_cast] theorem tzero_126 : tzero Try.prog 126 = some [(.int .u64 0)] := by kernel_rfl
@[push_cast] theorem elInfo_126 : elInfo Try.prog 126 = some (1, 8) := by kernel_rfl
@[push_cast] theorem tsz_128 : tsz Try.prog 128 = some 1 := by kernel_rfl
@[push_cast] theorem aggD_128 : aggD Try.prog 128 = some false := by kernel_rfl
@[push_cast] theorem tzero_128 : tzero Try.prog 128 = some [.nilFunc] := by kernel_rfl
@[push_cast] theorem elInfo_128 : elInfo Try.prog 128 = some (1, 8) := by kernel_rfl
@[push_cast] theorem tsz_129 : tsz Try.prog 129 = some 1 := by kernel_rfl
@[push_cast] theorem aggD_129 : aggD Try.prog 129 = some false := by kernel_rfl
@[push_cast] theorem tzero_129 : tzero Try.prog 129 = some [.nilFunc] := by kernel_rfl
@[push_cast] theorem elInfo_129 : elInfo Try.prog 129 = some (1, 8) := by kernel_rfl
@[push_cast] theorem tsz_135 : tsz Try.prog 135 = some 1 := by kernel_rfl
@[push_cast] theorem aggD_135 : aggD Try.prog 135 = some false := by kernel_rfl
@[push_cast] theorem tzero_135 : tzero Try.prog 135 = some [(.int .u8 0)] := by kernel_rfl
@[push_cast] theorem elInfo_135 : elInfo Try.prog 135 = some (1, 1) := by kernel_rfl
@[push_cast] theorem tsz_136 : tsz Try.prog 136 = some 1 := by kernel_rfl
@[push_cast] theorem aggD_136 : aggD Try.prog 136 = some false := by kernel_rfl
@[push_cast] theorem tzero_136 : tzero Try.prog 136 = some [(.int .u8 0)] := by kernel_rfl
@[push_cast] theorem elInfo_136 : elInfo Try.prog 136 = some (1, 1) := by kernel_rfl
@[push_cast] theorem tsz_138 : tsz Try.prog 138 = some 1 := by kernel_rfl
@[push_cast] theorem aggD_138 : aggD Try.prog 138 = some false := by kernel_rfl
@[push_cast] theorem tzero_138 : tzero Try.prog 138 = some [(.int .i32 0)] := by kernel_rfl
@[push_cast] theorem elInfo_138 : elInfo Try.prog 138 = some (1, 4) := by kernel_rfl
@[push_cast] theorem tsz_139 : tsz Try.prog 139 = some 1 := by kernel_rfl
@[push_cast] theorem aggD_139 : aggD Try.prog 139 = some false := by kernel_rfl
@[push_cast] theorem tzero_139 : tzero Try.prog 139 = some [(.int .i32 0)] := by kernel_rfl
@[push_cast] theorem elInfo_139 : elInfo Try.prog 139 = some (1, 4) := by kernel_rfl
@[push_cast] theorem layT_13 : layT Try.prog 13 = some [(0, 1), (1, 1)] := by kernel_rfl
@[push_cast] theorem layT_24 : layT Try.prog 24 = some [(0, 1), (1, 1)] := by kernel_rfl
@[push_cast] theorem layT_25 : layT Try.prog 25 = some [(0, 1), (1, 1)] := by kernel_rfl
@[push_cast] theorem layT_26 : layT Try.prog 26 = some [(0, 1), (1, 1)] := by kernel_rfl
@[push_cast] theorem layT_27 : layT Try.prog 27 = some [(0, 1), (1, 1)] := by kernel_rfl
@[push_cast] theorem layT_29 : layT Try.prog 29 = some [(0, 2), (2, 2), (4, 1), (5, 1), (6, 1)] := by kernel_rfl
@[push_cast] theorem layT_30 : layT Try.prog 30 = some [(0, 2), (2, 2), (4, 1), (5, 1), (6, 1)] := by kernel_rfl
@[push_cast] theorem layT_33 : layT Try.prog 33 = some [(0, 1), (1, 1)] := by kernel_rfl
@[push_cast] theorem layT_34 : layT Try.prog 34 = some [(0, 1), (1, 1), (2, 1)] := by kernel_rfl
@[push_cast] theorem layT_35 : layT Try.prog 35 = some [(0, 1), (1, 1), (2, 1)] := by kernel_rfl
@[push_cast] theorem layT_52 : layT Try.prog 52 = some [(0, 1), (1, 1), (2, 1), (3, 1), (4, 1)] := by kernel_rfl
@[push_cast] theorem layT_53 : layT Try.prog 53 = some [(0, 1), (1, 1), (2, 1), (3, 1), (4, 1)] := by kernel_rfl
@[push_cast] theorem layT_61 : layT Try.prog 61 = some [(0, 1), (1, 1)] := by kernel_rfl
@[push_cast] theorem layT_62 : layT Try.prog 62 = some [(0, 1), (1, 1)] := by kernel_rfl
@[push_cast] theorem layT_65 : layT Try.prog 65 = some [(0, 1), (1, 1), (2, 1)] := by kernel_rfl
@[push_cast] theorem layT_70 : layT Try.prog 70 = some [(0, 1), (1, 1), (2, 1), (3, 1), (4, 1)] := by kernel_rfl
@[push_cast] theorem layT_75 : layT Try.prog 75 = some [(0, 2), (2, 1)] := by kernel_rfl
@[push_cast] theorem layT_76 : layT Try.prog 76 = some [(0, 2), (2, 1)] := by kernel_rfl
@[push_cast] theorem layT_81 : layT Try.prog 81 = some [(0, 1), (1, 1), (2, 1)] := by kernel_rfl
@[push_cast] theorem layT_82 : layT Try.prog 82 = some [(0, 1), (1, 1), (2, 1)] := by kernel_rfl
attribute [push_cast] Try.underlying1 Try.underlying2 Try.underlying3 Try.underlying4 Try.underlying5 Try.underlying6 Try.underlying9 Try.underlying10 Try.underlying11 Try.underlying12 Try.underlying13 Try.underlying21 Try.underlying22 Try.underlying23 Try.underlying24 Try.underlying25 Try.underlying26 Try.underlying27 Try.underlying28 Try.underlying29 Try.underlying30 Try.underlying31 Try.underlying32 Try.underlying33 Try.underlying34 Try.underlying35 Try.underlying36 Try.underlying38 Try.underlying39 Try.underlying40 Try.underlying42 Try.underlying44 Try.underlying45 Try.underlying46 Try.underlying47 Try.underlying48 Try.underlying49 Try.underlying51 Try.underlying52 Try.underlying53 Try.underlying55 Try.underlying56 Try.underlying58 Try.underlying59 Try.underlying60 Try.underlying61 Try.underlying62 Try.underlying63 Try.underlying64 Try.underlying65 Try.underlying66 Try.underlying67 Try.underlying69 Try.underlying70 Try.underlying72 Try.underlying74 Try.underlying75 Try.underlying76 Try.underlying77 Try.underlying78 Try.underlying79 Try.underlying80 Try.underlying81 Try.underlying82 Try.underlying83 Try.underlying84 Try.underlying85 Try.underlying86 Try.underlying87 Try.underlying88 Try.underlying89 Try.underlying90 Try.underlying91 Try.underlying92 Try.underlying93 Try.underlying94 Try.underlying95 Try.underlying96 Try.underlying97 Try.underlying98 Try.underlying99 Try.underlying100 Try.underlying108 Try.underlying109 Try.underlying110 Try.underlying111 Try.underlying112 Try.underlying113 Try.underlying115 Try.underlying116 Try.underlying118 Try.underlying119 Try.underlying120 Try.underlying123 Try.underlying125 Try.underlying126 Try.underlying128 Try.underlying129 Try.underlying135 Try.underlying136 Try.underlying138 Try.underlying139
end Go.Proofs.Ytabmdijfholakaa.AM

/- Plain mathematics of layer 2: the two halves of a checksum. -/
namespace Go.Proofs.Ytabmdijfholakaa
namespace SM
/-- a pair (high, low) after one byte -/
def step (p : Int × Int) (c : UInt8) : Int × Int := ((p.1 + (p.2 + c.toNat) % 65521) % 65521, (p.2 + c.toNat) % 65521)
def steps (p : Int × Int) (l : List UInt8) : Int × Int := l.foldl step p
def Ok (p : Int × Int) : Prop := 0 ≤ p.1 ∧ p.1 < 65521 ∧ 0 ≤ p.2 ∧ p.2 < 65521
def isSum (n : Int) : Prop := 0 ≤ n ∧ n / 65536 < 65521 ∧ n % 65536 < 65521
instance (n : Int) : Decidable (isSum n) := by unfold isSum; exact inferInstance
def rollF (n : Int) (l : List UInt8) : Int := if isSum n then (steps (n / 65536, n % 65536) l).1 * 65536 + (steps (n / 65536, n % 65536) l).2 else 0
theorem step_ok {p : Int × Int} (c : UInt8) : Ok (step p c) := by
  unfold step Ok; simp only; omega
theorem steps_ok {p : Int × Int} (l : List UInt8) (h : Ok p) : Ok (steps p l) := by
  induction l generalizing p with
  | nil => exact h
  | cons c l ih => exact ih (step_ok c)
theorem steps_append (p : Int × Int) (l m : List UInt8) : steps p (l ++ m) = steps (steps p l) m := by
  unfold steps; rw [List.foldl_append]
theorem steps_snoc (p : Int × Int) (l : List UInt8) (c : UInt8) : steps p (l ++ [c]) = step (steps p l) c := by
  rw [steps_append]; rfl
theorem ok_of_isSum {n : Int} (h : isSum n) : Ok (n / 65536, n % 65536) := by
  unfold isSum at h; unfold Ok; simp only; omega
theorem isSum_of_ok {p : Int × Int} (h : Ok p) : isSum (p.1 * 65536 + p.2) := by
  unfold Ok at h; unfold isSum; omega
theorem take_snoc (s : ByteArray) (k : Nat) (h : k < s.size) : s.data.toList.take (k + 1) = s.data.toList.take k ++ [s[k]] := by
  rw [List.take_succ_eq_append_getElem (by simpa using h)]; rfl
theorem isSum_one : isSum 1 := by decide
theorem isSum_lt {n : Int} (h : isSum n) : 0 ≤ n ∧ n < 4294967296 := by unfold isSum at h; omega
theorem isSum_roll (n : Int) (l : List UInt8) : isSum (rollF n l) := by
  unfold rollF
  split
  · rename_i h; exact isSum_of_ok (steps_ok l (ok_of_isSum h))
  · decide
theorem roll_lt (n : Int) (l : List UInt8) : 0 ≤ rollF n l ∧ rollF n l < 4294967296 := by
  have := isSum_roll n l; unfold isSum at this; omega
/-! what follows: sums of all bytes, and weighted ones -/
def S : List UInt8 → Int
  | [] => 0
  | c :: l => c.toNat + S l
def W : List UInt8 → Int
  | [] => 0
  | c :: l => (l.length + 1) * c.toNat + W l
end SM
end Go.Proofs.Ytabmdijfholakaa

/- Records in sectors: the functions of numbers and bytes that package rec comes to. -/
namespace Go.Proofs.Ytabmdijfholakaa
open Go.RowKit
namespace RM
def be4 (n : Int) : List UInt8 := [UInt8.ofNat (n / 16777216 % 256).toNat, UInt8.ofNat (n / 65536 % 256).toNat, UInt8.ofNat (n / 256 % 256).toNat, UInt8.ofNat (n % 256).toNat]
def fillL (l : List UInt8) : List UInt8 := l ++ List.replicate (32 - l.length) 0
def str (l : List UInt8) : ByteArray := ⟨l.toArray⟩
@[simp] theorem str_size (l : List UInt8) : (str l).size = l.length := rfl
@[simp] theorem str_list (l : List UInt8) : (str l).data.toList = l := rfl
theorem str_self (s : ByteArray) : str s.data.toList = s := rfl
theorem be4_length (n : Int) : (be4 n).length = 4 := rfl
theorem fillL_length (l : List UInt8) (h : l.length ≤ 32) : (fillL l).length = 32 := by unfold fillL; simp; omega
theorem u8_ofNat (n : Int) (h0 : 0 ≤ n) (h1 : n < 256) : ((UInt8.ofNat n.toNat).toNat : Int) = n := by
  have : n.toNat < 256 := by omega
  simp [Nat.mod_eq_of_lt this]; omega
/-- the number that four bytes are, from a place on -/
def num (l : List UInt8) (k : Nat) : Int := ((l.getD k 0).toNat : Int) * 16777216 + ((l.getD (k + 1) 0).toNat : Int) * 65536 + ((l.getD (k + 2) 0).toNat : Int) * 256 + ((l.getD (k + 3) 0).toNat : Int)
theorem or_i64 (a b : Nat) (ha : a < 2 ^ 63) (hb : b < 2 ^ 63) : bits .or .i64 (a : Int) (b : Int) = ((a ||| b : Nat) : Int) :=
  (bits_nat .i64 63 (by decide) (fun n h0 h1 => by rw [IntKind.wrap_i64]; omega) a b ha hb).2
theorem or_low (i a b : Nat) (hb : b < 2 ^ i) (ha : 2 ^ i * a < 2 ^ 63) (hi : 2 ^ i ≤ 2 ^ 63) : bits .or .i64 ((2 ^ i * a : Nat) : Int) (b : Int) = ((2 ^ i * a + b : Nat) : Int) := by
  rw [or_i64 _ _ ha (Nat.lt_of_lt_of_le hb hi), Nat.two_pow_add_eq_or_of_lt hb]
theorem wrap_small (x : Int) (h0 : 0 ≤ x) (h1 : x < 9223372036854775808) : wrap64 x = x := by unfold wrap64; omega
theorem or_four (a b c d : Nat) (ha : a < 256) (hb : b < 256) (hc : c < 256) (hd : d < 256) :
    bits .or .i64 (bits .or .i64 (bits .or .i64 (wrap64 (wrap64 (a : Int) * 16777216)) (wrap64 (wrap64 (b : Int) * 65536))) (wrap64 (wrap64 (c : Int) * 256))) (wrap64 (d : Int)) = (a : Int) * 16777216 + (b : Int) * 65536 + (c : Int) * 256 + (d : Int) := by
  rw [wrap_small (a : Int) (by omega) (by omega), wrap_small (b : Int) (by omega) (by omega), wrap_small (c : Int) (by omega) (by omega), wrap_small (d : Int) (by omega) (by omega)]
  rw [wrap_small ((a : Int) * 16777216) (by omega) (by omega), wrap_small ((b : Int) * 65536) (by omega) (by omega), wrap_small ((c : Int) * 256) (by omega) (by omega)]
  have e1 : bits .or .i64 ((a : Int) * 16777216) ((b : Int) * 65536) = (((a * 256 + b) * 65536 : Nat) : Int) := by
    have := or_low 24 a (b * 65536) (by omega) (by omega) (by decide)
    rw [show (a : Int) * 16777216 = ((2 ^ 24 * a : Nat) : Int) from by omega, show (b : Int) * 65536 = ((b * 65536 : Nat) : Int) from by omega, this]; omega
  rw [e1]
  have e2 : bits .or .i64 (((a * 256 + b) * 65536 : Nat) : Int) ((c : Int) * 256) = ((((a * 256 + b) * 256 + c) * 256 : Nat) : Int) := by
    have := or_low 16 (a * 256 + b) (c * 256) (by omega) (by omega) (by decide)
    rw [show (((a * 256 + b) * 65536 : Nat) : Int) = ((2 ^ 16 * (a * 256 + b) : Nat) : Int) from by omega, show (c : Int) * 256 = ((c * 256 : Nat) : Int) from by omega, this]; omega
  rw [e2]
  have := or_low 8 ((a * 256 + b) * 256 + c) d (by omega) (by omega) (by decide)
  rw [show ((((a * 256 + b) * 256 + c) * 256 : Nat) : Int) = ((2 ^ 8 * ((a * 256 + b) * 256 + c) : Nat) : Int) from by omega, this]; omega
theorem be4_map (n : Int) (h0 : 0 ≤ n) (h1 : n < 4294967296) : (be4 n).map (fun b => Value.int .u8 (b.toNat : Int)) = [.int .u8 (n / 16777216), .int .u8 (n / 65536 % 256), .int .u8 (n / 256 % 256), .int .u8 (n % 256)] := by
  simp only [be4, List.map_cons, List.map_nil]
  rw [u8_ofNat (n / 16777216 % 256) (by omega) (by omega), u8_ofNat (n / 65536 % 256) (by omega) (by omega), u8_ofNat (n / 256 % 256) (by omega) (by omega), u8_ofNat (n % 256) (by omega) (by omega), show n / 16777216 % 256 = n / 16777216 from by omega]
def lays (ns : List Int) : List UInt8 := ns.flatMap be4
theorem lays_length (ns : List Int) : (lays ns).length = 4 * ns.length := by
  unfold lays
  induction ns with
  | nil => rfl
  | cons a t ih => rw [List.flatMap_cons, List.length_append, ih, be4_length]; simp; omega
theorem lays_snoc (ns : List Int) (k : Nat) (h : k < ns.length) : lays (ns.take (k + 1)) = lays (ns.take k) ++ be4 ns[k] := by
  unfold lays
  rw [← List.take_append_getElem h, List.flatMap_append]; simp
def may (k g q z m : Int) : Prop := (k = 1 ∨ k = 2) ∧ (0 ≤ g ∧ g ≤ 1073741824) ∧ (0 ≤ q ∧ q ≤ 65535) ∧ (0 ≤ z ∧ z ≤ 4096) ∧ SM.isSum m
instance (k g q z m : Int) : Decidable (may k g q z m) := by unfold may; infer_instance
def textL (k g q z m : Int) : List UInt8 := fillL (72 :: UInt8.ofNat k.toNat :: lays [g, q, z, m])
def textB (k g q z m : Int) : ByteArray := if may k g q z m then str (textL k g q z m) else ByteArray.empty
end RM
end Go.Proofs.Ytabmdijfholakaa

/- Records in sectors: counts, sectors, heads. -/
namespace Go.Proofs.Ytabmdijfholakaa
open Go.RowKit
namespace RM
def countF (n : Int) : Int := if 0 ≤ n ∧ n ≤ 4096 then (n + 30) / 31 else -1
theorem getD_extract (s : ByteArray) (k j : Nat) (h : s.size = 32) (hk : k + j < 32) : (s.extract k 32).data.toList.getD j 0 = s.data.toList.getD (k + j) 0 := by
  have hs : s.data.size = 32 := h
  rw [ByteArray.data_extract]
  simp only [List.getD, Array.getElem?_toList, Array.getElem?_extract]
  rw [if_pos (by omega)]
theorem num_extract (s : ByteArray) (k : Nat) (h : s.size = 32) (hk : k + 4 ≤ 32) : num (s.extract k 32).data.toList 0 = num s.data.toList k := by
  unfold num
  rw [getD_extract s k 0 h (by omega), getD_extract s k (0 + 1) h (by omega), getD_extract s k (0 + 2) h (by omega), getD_extract s k (0 + 3) h (by omega)]
  simp
theorem num_lt (l : List UInt8) (k : Nat) : 0 ≤ num l k ∧ num l k < 4294967296 := by
  unfold num
  have h0 := (l.getD k 0).toNat_lt
  have h1 := (l.getD (k + 1) 0).toNat_lt
  have h2 := (l.getD (k + 2) 0).toNat_lt
  have h3 := (l.getD (k + 3) 0).toNat_lt
  omega
/-- what the numbers of a sector would be -/
def kindF (s : ByteArray) : Int := ((s.data.toList.getD 1 0).toNat : Int)
def numAt (s : ByteArray) (k : Nat) : Int := num s.data.toList k
def readOk (s : ByteArray) : Prop := s.size = 32 ∧ may (kindF s) (numAt s 2) (numAt s 6) (numAt s 10) (numAt s 14) ∧ str (textL (kindF s) (numAt s 2) (numAt s 6) (numAt s 10) (numAt s 14)) = s
instance (s : ByteArray) : Decidable (readOk s) := by unfold readOk; infer_instance
def hd (k g q z m : Int) : Value := .agg #[.int .i64 k, .int .i64 g, .int .i64 q, .int .i64 z, .int .i64 m]
def readV (s : ByteArray) : Value := if readOk s then hd (kindF s) (numAt s 2) (numAt s 6) (numAt s 10) (numAt s 14) else hd 0 0 0 0 0
theorem readV_no (s : ByteArray) (h : ¬ readOk s) : readV s = hd 0 0 0 0 0 := if_neg h
theorem readV_yes (s : ByteArray) (h : readOk s) : readV s = hd (kindF s) (numAt s 2) (numAt s 6) (numAt s 10) (numAt s 14) := if_pos h
theorem bytes_ext {a b : ByteArray} (h : a.toList = b.toList) : a = b := by
  apply ByteArray.ext
  apply Array.ext'
  rw [← ByteArray.toList_eq, ← ByteArray.toList_eq, h]
theorem read_bad (s : ByteArray) (h1 : may (kindF s) (numAt s 2) (numAt s 6) (numAt s 10) (numAt s 14)) (h2 : (!(textB (kindF s) (numAt s 2) (numAt s 6) (numAt s 10) (numAt s 14)).toList == s.toList) = true) : ¬ readOk s := by
  rintro ⟨_, _, h3⟩
  unfold textB at h2
  rw [if_pos h1, h3] at h2
  simp at h2
theorem read_good (s : ByteArray) (hz : s.size = 32) (h1 : may (kindF s) (numAt s 2) (numAt s 6) (numAt s 10) (numAt s 14)) (h2 : (!(textB (kindF s) (numAt s 2) (numAt s 6) (numAt s 10) (numAt s 14)).toList == s.toList) = false) : readOk s := by
  refine ⟨hz, h1, ?_⟩
  unfold textB at h2
  rw [if_pos h1] at h2
  exact bytes_ext (by simpa using h2)
end RM
end Go.Proofs.Ytabmdijfholakaa

/- Records in sectors: the sectors of a payload. -/
namespace Go.Proofs.Ytabmdijfholakaa
open Go.RowKit
namespace RM
def cutN (s : ByteArray) : Nat := if s.size ≤ 4096 then (s.size + 30) / 31 else 0
def sec (s : ByteArray) (i : Nat) : ByteArray := str (fillL (68 :: (s.data.toList.drop (31 * i)).take 31))
def cutL (s : ByteArray) : List ByteArray := (List.range (cutN s)).map (sec s)
theorem cutL_length (s : ByteArray) : (cutL s).length = cutN s := by unfold cutL; simp
theorem cutN_count (s : ByteArray) : (max (countF (s.size : Int)) 0) = (cutN s : Int) := by
  unfold countF cutN
  by_cases h : s.size ≤ 4096
  · rw [if_pos (by omega), if_pos h]; omega
  · rw [if_neg (by omega), if_neg h]; rfl
theorem cutN_le (s : ByteArray) : cutN s ≤ 133 := by unfold cutN; split <;> omega
theorem cutN_in (s : ByteArray) (k : Nat) (h : k < cutN s) : 31 * k < s.size ∧ s.size ≤ 4096 := by
  unfold cutN at h
  split at h
  · omega
  · omega
theorem sec_size (s : ByteArray) (i : Nat) : (sec s i).size = 32 := by
  unfold sec
  rw [str_size, fillL_length]
  simp; omega
theorem sec_of (s : ByteArray) (k e : Nat) (he : e = min (31 * k + 31) s.size) : str (fillL (((⟨#[68]⟩ : ByteArray) ++ s.extract (31 * k) e).data.toList)) = sec s k := by
  unfold sec
  congr 2
  rw [ByteArray.data_append, ByteArray.data_extract]
  have hs : s.data.toList.length = s.size := by simp
  subst he
  simp only [Array.toList_append, Array.toList_extract, List.extract]
  rw [show ([68] ++ (List.drop (31 * k) s.data.toList).take (min (31 * k + 31) s.size - 31 * k) : List UInt8) = 68 :: (List.drop (31 * k) s.data.toList).take (min (31 * k + 31) s.size - 31 * k) from rfl]
  congr 1
  by_cases h : 31 * k + 31 ≤ s.size
  · rw [Nat.min_eq_left h, show 31 * k + 31 - 31 * k = 31 from by omega]
  · rw [Nat.min_eq_right (by omega), List.take_of_length_le (by simp), List.take_of_length_le (by simp; omega)]
theorem cut_snoc (s : ByteArray) (k : Nat) : (List.range (k + 1)).map (sec s) = (List.range k).map (sec s) ++ [sec s k] := by
  rw [List.range_succ, List.map_append]; rfl
def cutV (s : ByteArray) (k : Nat) : List Value := ((List.range k).map (sec s)).map Value.string
theorem cutV_snoc (s : ByteArray) (k : Nat) : cutV s k ++ [Value.string (sec s k)] = cutV s (k + 1) := by unfold cutV; rw [cut_snoc, List.map_append]; rfl
theorem cutV_all (s : ByteArray) : cutV s (cutN s) = (cutL s).map Value.string := rfl
end RM
end Go.Proofs.Ytabmdijfholakaa

/- Laws of my own, over any program: bytes made of a string, stored into, and made a string again. -/
namespace Go.Proofs.Ytabmdijfholakaa
open Go.RowKit
namespace Lib
theorem below_drewN {B : Nat} {a w : World} (h : Below B a w) (n : Nat) : Below B a (w.drewN n) := ⟨h.os, h.tape, h.output, h.size, h.block⟩
/-- block g begins with the bytes l, none of which is frozen -/
structure BRow (w : World) (g : Nat) (l : List UInt8) : Prop where
  cell : ∀ j (h : j < l.length), w.cell? ⟨g, j, none⟩ = some (.int .u8 (l[j].toNat : Int))
  free : ∀ j, j < l.length → w.frozen? ⟨g, j, none⟩ = false
theorem BRow.of_owns {w : World} {base : Nat} {e : TypeId} {g cap : Nat} {l : List UInt8} (h : w.ownsRow base e 1 (.slice (some ⟨g, 0, none⟩) l.length cap) l.length (l.map (fun b => Value.int .u8 (b.toNat : Int)))) : BRow w g l := by
  refine ⟨fun j hj => ?_, fun j _ => h.frozenAt j⟩
  rw [h.cellAt j (by omega)]; simp [hj]
theorem BRow.set {w : World} {g : Nat} {l : List UInt8} (h : BRow w g l) (i : Nat) (hi : i < l.length) (c : UInt8) : BRow (w.setCell ⟨g, i, none⟩ (.int .u8 (c.toNat : Int))) g (l.set i c) := by
  refine ⟨fun j hj => ?_, fun j hj => ?_⟩
  · have hj' : j < l.length := by simpa using hj
    by_cases e : i = j
    · subst e
      rw [World.cell?_setCell_same _ _ _ (h.cell i hi), List.getElem_set_self]
    · rw [World.cell?_setCell_other _ _ _ _ (by simp), h.cell j hj', List.getElem_set_ne e]
  · rw [World.frozen?_setCell]; exact h.free j (by simpa using hj)
theorem BRow.drewN {w : World} {g : Nat} {l : List UInt8} (h : BRow w g l) (n : Nat) : BRow (w.drewN n) g l := ⟨h.cell, h.free⟩
theorem BRow.below {w w' : World} {g B : Nat} {l : List UInt8} (h : BRow w g l) (hb : Below B w w') (hg : g < B) : BRow w' g l :=
  ⟨fun j hj => (hb.cell (p := ⟨g, j, none⟩) hg).trans (h.cell j hj), fun j hj => (hb.frozen (p := ⟨g, j, none⟩) hg).trans (h.free j hj)⟩
theorem BRow.made (w : World) (s : ByteArray) (t : TypeId) (cap : Nat) : BRow (w.drew.alloc (.cells (bytesRow s cap) t ((bytesRow s cap).size, (bytesRow s cap).size + 1))) w.heap.size s.data.toList := by
  have hs : s.size ≤ (bytesRow s cap).size := by unfold bytesRow; simp
  refine ⟨fun j hj => ?_, fun j hj => ?_⟩
  · have := World.cell?_alloc_mark w.drew (bytesRow s cap) t ((bytesRow s cap).size, (bytesRow s cap).size + 1) j
    rw [show w.heap.size = w.drew.heap.size from rfl, this, bytesRow_at s cap j (by simpa using hj)]
    simp
  · have := World.frozen?_alloc_mark w.drew (bytesRow s cap) t (bytesRow s cap).size ((bytesRow s cap).size + 1) j
    rw [show w.heap.size = w.drew.heap.size from rfl, this]
    have : j < s.size := by simpa using hj
    simp; omega
section
variable {P : Program} {ops : Array Oper} {rest : List Oper} {o : Oper} {a : Act} {Q : Exit → Act → World → Prop}
theorem run_string_of_row (w : World) (src dst e : TypeId) (g cap : Nat) (l : List UInt8) (hs : P.underlying src = some (.slice e)) (he : P.underlying e = some (.int .u8)) (hd : P.underlying dst = some .string)
    (h : BRow w g l) : (convert src dst (.slice (some ⟨g, 0, none⟩) l.length cap)).run P w = .ok (.string ⟨l.toArray⟩) w :=
  run_convert_bytes_back w src dst e ⟨g, 0, none⟩ cap l hs he hd (fun j hj => by
    have : ((⟨g, 0, none⟩ : Addr).add j) = ⟨g, j, none⟩ := by simp [Addr.add]; omega
    rw [this]; exact h.cell j hj)
end
end Lib
end Go.Proofs.Ytabmdijfholakaa

/- Records in sectors: sectors joined. -/
namespace Go.Proofs.Ytabmdijfholakaa
open Go.RowKit
namespace RM
def allL (l : List ByteArray) : List UInt8 := l.flatMap (fun x => x.data.toList.drop 1)
theorem allL_snoc (l : List ByteArray) (k : Nat) (h : k < l.length) : allL (l.take (k + 1)) = allL (l.take k) ++ l[k].data.toList.drop 1 := by
  unfold allL
  rw [← List.take_append_getElem h, List.flatMap_append]; simp
theorem allL_length (l : List ByteArray) (h : ∀ x ∈ l, x.size = 32) : (allL l).length = 31 * l.length := by
  unfold allL
  induction l with
  | nil => rfl
  | cons a t ih =>
    rw [List.flatMap_cons, List.length_append, ih (fun x hx => h x (List.mem_cons_of_mem _ hx))]
    have := h a (List.mem_cons_self ..)
    have h2 : a.data.toList.length = a.size := by simp
    simp only [List.length_drop, List.length_cons]; omega
def joinS (l : List ByteArray) (size : Int) : ByteArray := str ((allL l).take size.toNat)
def joinOk (l : List ByteArray) (size : Int) : Prop := (l.length : Int) = countF size ∧ (∀ x ∈ l, x.size = 32) ∧ cutL (joinS l size) = l
instance (l : List ByteArray) (size : Int) : Decidable (joinOk l size) := by unfold joinOk; infer_instance
def joinB (l : List ByteArray) (size : Int) : ByteArray := if joinOk l size then joinS l size else ⟨#[]⟩
theorem joinB_yes (l : List ByteArray) (size : Int) (h : joinOk l size) : joinB l size = joinS l size := if_pos h
theorem joinB_no (l : List ByteArray) (size : Int) (h : ¬ joinOk l size) : joinB l size = ⟨#[]⟩ := if_neg h
theorem count_in (n : Nat) (size : Int) (h : (n : Int) = countF size) : 0 ≤ size ∧ size ≤ 4096 ∧ size ≤ 31 * n ∧ n ≤ 133 := by
  unfold countF at h
  split at h <;> omega
/-- a value is a list of strings, in a world -/
def SV (w : World) (v : Value) (l : List ByteArray) : Prop := ∃ a cap, v = .slice a l.length cap ∧ (0 < l.length → ∃ b off, a = some ⟨b, off, none⟩ ∧ b < w.heap.size ∧ ∀ j (h : j < l.length), w.cell? ⟨b, off + j, none⟩ = some (.string l[j]))
theorem SV.below {w w' : World} {v : Value} {l : List ByteArray} (h : SV w v l) (hb : Below w.heap.size w w') : SV w' v l := by
  obtain ⟨a, cap, h1, h2⟩ := h
  refine ⟨a, cap, h1, fun h0 => ?_⟩
  obtain ⟨b, off, h3, h4, h5⟩ := h2 h0
  exact ⟨b, off, h3, Nat.lt_of_lt_of_le h4 hb.size, fun j hj => (hb.cell (p := ⟨b, off + j, none⟩) h4).trans (h5 j hj)⟩
theorem SV.drewN {w : World} {v : Value} {l : List ByteArray} (h : SV w v l) (n : Nat) : SV (w.drewN n) v l := h
theorem SV.of_owns {w : World} {base : Nat} {e : TypeId} {v : Value} {l : List ByteArray} {n : Nat} (hn : n = l.length) (h : w.ownsRow base e 1 v n (l.map Value.string)) : SV w v l := by
  subst hn
  have h' := h
  obtain ⟨h0, h1 | ⟨g, cap, cur, h1, h2, h3, h4⟩⟩ := h
  · exact ⟨none, 0, by rw [h1.1, h1.2], fun hp => absurd h1.2 (by omega)⟩
  · refine ⟨_, cap, h1, fun hp => ⟨g, 0, rfl, (Array.getElem?_eq_some_iff.1 h3).1, fun j hj => ?_⟩⟩
    subst h1
    rw [show (⟨g, 0 + j, none⟩ : Addr) = ⟨g, j, none⟩ from by simp, h'.cellAt j (by omega)]
    simp [hj]
theorem extract0 (L : List UInt8) (n : Nat) : (str L).extract 0 n = str (L.take n) := by
  apply ByteArray.ext
  rw [ByteArray.data_extract]
  simp [str]
theorem tail1 (x : ByteArray) (h : x.size = 32) : (x.extract 1 32).data.toList = x.data.toList.drop 1 := by
  have h2 : x.data.toList.length = 32 := by simp; exact h
  rw [ByteArray.data_extract, Array.toList_extract, List.extract, List.take_of_length_le (by simp; omega)]
theorem joinOk_not (l : List ByteArray) (size : Int) (k : Nat) (h : k < l.length) (hx : l[k].size ≠ 32) : ¬ joinOk l size := fun x => hx (x.2.1 _ (List.getElem_mem h))
theorem all32 (l : List ByteArray) (h : ∀ j (_ : j < l.length), l[j].size = 32) : ∀ x ∈ l, x.size = 32 := by
  intro x hx
  obtain ⟨j, hj, rfl⟩ := List.getElem_of_mem hx
  exact h j hj
theorem joinS_size (l : List ByteArray) (n : Nat) (h : ∀ x ∈ l, x.size = 32) (hn : n ≤ 31 * l.length) : (joinS l (n : Int)).size = n := by
  unfold joinS; rw [str_size, List.length_take, allL_length l h]; simp; omega
end RM
end Go.Proofs.Ytabmdijfholakaa
