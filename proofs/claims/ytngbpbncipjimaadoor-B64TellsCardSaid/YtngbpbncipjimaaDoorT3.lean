/- Typed data over the plain machine: slices, lengths, literals, appends, operators; all operations together. -/
import Derived.Test.YtngbpbncipjimaaDoorT2
namespace Go.Proofs.YtngbpbncipjimaaDoor.AM
open Go.RowKit
set_option linter.unusedVariables false
set_option linter.unusedSimpArgs false
variable {α : Type} {P : Program} {σ : TSt}

def bndT (d : Int) : Option TD → Option Int
  | none => some d
  | some (.one (.c (.d (.int _) n))) => some n
  | some _ => none
theorem bndT_ok {d n : Int} {x : Option TD} (h : bndT d x = some n) : bnd d (x.map eD) = some n := by
  unfold bndT at h
  split at h
  · simp only [Option.some.injEq] at h; subst h; rfl
  · simp only [Option.some.injEq] at h; subst h; rfl
  · cases h
def tevSlice (P : Program) (t : TypeId) (x : TD) (lo hi : Option TD) (k : TRes → Option α) : Option α := match P.underlying t, x with
  | some .string, .one (.c (.d .str s)) => match bndT 0 lo, bndT (List.length s) hi with
    | some l, some h => (subO s l h).bind fun y => k { val := .one (.c (.d .str y)) }
    | _, _ => none
  | some (.slice el), .one (.c (.d (.lst e) xs)) => match bndT 0 lo, bndT (List.length xs) hi with
    | some l, some h => if tsz P el = some (width e) then (subO xs l h).bind fun y => k { val := .one (.c (.d (.lst e) y)) } else none
    | _, _ => none
  | _, _ => none
theorem subO_some {β : Type} {l : List β} {a b : Int} {y : List β} (h : subO l a b = some y) : (0 ≤ a ∧ a ≤ b ∧ b ≤ l.length) ∧ y = (l.drop a.toNat).take (b.toNat - a.toNat) := by
  unfold subO at h
  split at h
  case isFalse => cases h
  rename_i hc
  simp only [Option.some.injEq] at h
  exact ⟨hc, h.symm⟩
theorem ba_len (s : List UInt8) : (ba s).size = s.length := by simp [ba, ByteArray.size]
theorem ba_extract (s : List UInt8) (a b : Nat) : (ba s).extract a b = ba ((s.drop a).take (b - a)) := by
  unfold ba
  apply ByteArray.ext
  rw [ByteArray.data_extract]
  apply Array.toList_inj.1
  rw [Array.toList_extract, List.extract_eq_take_drop]
theorem tevSlice_ok {t : TypeId} {x : TD} {lo hi : Option TD} {k : TRes → Option α} {r : α} (h : tevSlice P t x lo hi k = some r) : ∃ y, k y = some r ∧ Sim (evSlice P t (eD x) (lo.map eD) (hi.map eD)) y := by
  unfold tevSlice at h
  split at h
  · rename_i s hu
    split at h
    case h_2 => cases h
    rename_i l hh hl hhh
    obtain ⟨y, hy, h⟩ := Option.bind_eq_some_iff.1 h
    obtain ⟨h1, rfl⟩ := subO_some hy
    refine ⟨_, h, _, h1, ?_⟩
    simp only [evSlice, eD, e1, eC, toDats, List.headD_cons, hu, bndT_ok hl, ba_extract, ba_len, bndT_ok hhh]
    rfl
  · rename_i el e xs hu
    split at h
    case h_2 => cases h
    rename_i l hh hl hhh
    split at h
    case isFalse => cases h
    rename_i hsz
    obtain ⟨y, hy, h⟩ := Option.bind_eq_some_iff.1 h
    obtain ⟨h1, rfl⟩ := subO_some hy
    refine ⟨_, h, _, h1, ?_⟩
    simp only [evSlice, eD, e1, eC, toDats, List.headD_cons, hu, bndT_ok hl, hsz, if_true, List.length_map, ← List.map_drop, ← List.map_take, bndT_ok hhh]
    rfl
  · cases h
def tevSliceRow (P : Program) (t : TypeId) (x : TD) (lo hi : Option TD) (σ : TSt) (k : TRes → Option α) : Option α := match P.underlying t, x with
  | some (.slice el), .one (.c (.row tt g)) => match lk σ.rows tt with
    | some r => match bndT 0 lo, bndT (List.length r.xs) hi with
      | some l, some h => if r.gen = g ∧ tsz P el = some (width r.e) then (subO r.xs l h).bind fun y => k { val := .one (.c (.d (.lst r.e) y)), row := some (tt, { r with wr := false }) } else none
      | _, _ => none
    | none => none
  | _, _ => none
theorem evSlice_row {t : TypeId} {tt g : Nat} {lo hi : Option D} : evSlice P t (.one (.c (.row tt g))) lo hi = none := by
  unfold evSlice
  split
  · rename_i h; cases h
  · rename_i h; cases h
  · rfl
theorem tevSliceRow_ok {t : TypeId} {x : TD} {lo hi : Option TD} {k : TRes → Option α} {r : α} (h : tevSliceRow P t x lo hi σ k = some r) : ∃ y, k y = some r ∧ evSlice P t (eD x) (lo.map eD) (hi.map eD) = none ∧ Sim (evSliceRow P t (eD x) (lo.map eD) (hi.map eD) (eS σ).row) y := by
  unfold tevSliceRow at h
  split at h
  case h_2 => cases h
  rename_i el tt g hu
  split at h
  case h_2 => cases h
  rename_i r' hr
  split at h
  case h_2 => cases h
  rename_i l hh hl hhh
  split at h
  case isFalse => cases h
  rename_i hg
  obtain ⟨y, hy, h⟩ := Option.bind_eq_some_iff.1 h
  obtain ⟨h1, rfl⟩ := subO_some hy
  refine ⟨_, h, evSlice_row, _, h1, ?_⟩
  have hlen : (eR r').xs.length = r'.xs.length := by simp [eR]
  obtain ⟨rfl, hsz⟩ := hg
  have hg' : (eR r').gen = r'.gen ∧ tsz P el = some (eR r').sz := ⟨rfl, hsz⟩
  simp only [evSliceRow, eD, e1, eC, hu, eS_row hr, bndT_ok hl, hlen, bndT_ok hhh]
  rw [if_pos hg']
  have e2 : ((eR r').xs.drop l.toNat).take (hh.toNat - l.toNat) = ((r'.xs.drop l.toNat).take (hh.toNat - l.toNat)).map (toDats r'.e) := by simp [eR]
  rw [e2]
  rfl
def tevNil (x : TD) (k : TRes → Option α) : Option α := match x with
  | .one (.c (.box β o)) => k { val := .one (.c (.box β o)) }
  | .one (.c (.rp e o y)) => k { val := .one (.c (.rp e o y)) }
  | .one (.c (.wp t g j o)) => k { val := .one (.c (.wp t g j o)) }
  | _ => none
theorem tevNil_ok {x : TD} {k : TRes → Option α} {r : α} (h : tevNil x k = some r) : ∃ y, k y = some r ∧ Sim (evNil (eD x)) y := by
  unfold tevNil at h
  split at h
  · exact ⟨_, h, Sim.tr rfl⟩
  · exact ⟨_, h, Sim.tr rfl⟩
  · exact ⟨_, h, Sim.tr rfl⟩
  · cases h
def tevLen (P : Program) (t : TypeId) (x : TD) (σ : TSt) (k : TRes → Option α) : Option α := match P.underlying t, x with
  | some .string, .one (.c (.d .str s)) => k { val := .one (.c (.d (.int .i64) (List.length s : Nat))) }
  | some (.slice _), .one (.c (.d (.lst _) xs)) => k { val := .one (.c (.d (.int .i64) (List.length xs : Nat))) }
  | some (.slice _), .one (.c .nil) => k { val := .one (.c (.d (.int .i64) (0 : Int))) }
  | some (.slice _), .one (.c (.row tt g)) => match lk σ.rows tt with
    | some r => if r.gen = g then k { val := .one (.c (.d (.int .i64) (List.length r.xs : Nat))) } else none
    | none => none
  | _, _ => none
theorem tevLen_ok {t : TypeId} {x : TD} {k : TRes → Option α} {r : α} (h : tevLen P t x σ k = some r) : ∃ y, k y = some r ∧ Sim (evLen P t (eD x) (eS σ).row) y := by
  unfold tevLen at h
  split at h
  · rename_i s hu
    refine ⟨_, h, Sim.tr ?_⟩
    simp only [evLen, eD, e1, eC, toDats, List.headD_cons, hu, ba_len]
    rfl
  · rename_i el e xs hu
    refine ⟨_, h, Sim.tr ?_⟩
    simp only [evLen, eD, e1, eC, toDats, List.headD_cons, hu, List.length_map]
    rfl
  · rename_i el hu
    refine ⟨_, h, Sim.tr ?_⟩
    simp only [evLen, eD, e1, eC, hu]
    rfl
  · rename_i el tt g hu
    split at h
    case h_2 => cases h
    rename_i r' hr
    split at h
    case isFalse => cases h
    rename_i hg
    refine ⟨_, h, Sim.tr ?_⟩
    have hg' : (eR r').gen = g := hg
    simp only [evLen, eD, e1, eC, hu, eS_row hr, hg', if_true]
    have : (eR r').xs.length = r'.xs.length := by simp [eR]
    rw [this]
    rfl
  · cases h

/-! literals -/
def fillT (place : Nat → Option (Nat × Nat)) (cs : List TC) : List (Nat × List TC) → Option (List TC)
  | [] => some cs
  | (i, xs) :: rest => match place i with
    | some (off, size) => if xs.length = size ∧ off + xs.length ≤ cs.length then fillT place (setAt cs off xs) rest else none
    | none => none
def eQ (q : Nat × List TC) : Nat × List C := (q.1, q.2.map eC)
theorem fillT_ok {place : Nat → Option (Nat × Nat)} : ∀ {qs : List (Nat × List TC)} {cs cs' : List TC}, fillT place cs qs = some cs' → fillC place (cs.map eC) (qs.map eQ) = some (cs'.map eC)
  | [], cs, cs', h => by simp only [fillT, Option.some.injEq] at h; subst h; rfl
  | (i, xs) :: rest, cs, cs', h => by
    unfold fillT at h
    split at h
    case h_2 => cases h
    rename_i off size hp
    split at h
    case isFalse => cases h
    rename_i hc
    have h3 := fillT_ok h
    rw [map_setAt] at h3
    show (match place i with | some (off, size) => if (xs.map eC).length = size ∧ off + (xs.map eC).length ≤ (cs.map eC).length then fillC place (setAt (cs.map eC) off (xs.map eC)) (rest.map eQ) else none | none => none) = _
    rw [hp]
    simp only [List.length_map]
    rw [if_pos hc, h3]
def builtT (P : Program) (t : TypeId) (parts : List (Nat × List TC)) : Option (List TC) := match tzero P t, layT P t, arrT P t with
  | some z, some pl, _ => match tvals z with
    | some cs => if z.all Value.oneCell' = true then fillT (fun i => nth pl i) cs parts else none
    | none => none
  | some z, none, some n => match tvals z with
    | some cs => if z.all Value.oneCell' = true then fillT (fun i => some (i * n, n)) cs parts else none
    | none => none
  | _, _, _ => none
theorem builtT_ok {t : TypeId} {parts : List (Nat × List TC)} {cs : List TC} (h : builtT P t parts = some cs) : builtC P t (parts.map eQ) = some (cs.map eC) := by
  unfold builtT at h
  split at h
  · rename_i z pl hz hl
    split at h
    case h_2 => cases h
    rename_i cs0 hcs
    split at h
    case isFalse => cases h
    rename_i ha
    have := fillT_ok h
    rw [tvals_ok hcs] at this
    simp only [builtC, hz, hl, ha, if_true]
    rw [← this]
    congr 1
    funext i
    rw [nth_eq]; simp
  · rename_i z n hz hl hn
    split at h
    case h_2 => cases h
    rename_i cs0 hcs
    split at h
    case isFalse => cases h
    rename_i ha
    have := fillT_ok h
    rw [tvals_ok hcs] at this
    simp only [builtC, hz, hl, hn, ha, if_true]
    exact this
  · cases h
def partsT (σ : TSt) : List (Nat × Operand) → Option (List (Nat × List TC))
  | [] => some []
  | (i, x) :: rest => match topnd σ x, partsT σ rest with
    | some (.one d), some r => if (cellsT d).all okT = true then some ((i, cellsT d) :: r) else none
    | _, _ => none
theorem partsT_ok : ∀ {ps : List (Nat × Operand)} {qs : List (Nat × List TC)}, partsT σ ps = some qs → partsC (opnd (eS σ)) ps = some (qs.map eQ)
  | [], qs, h => by simp only [partsT, Option.some.injEq] at h; subst h; rfl
  | (i, x) :: ps, qs, h => by
    unfold partsT at h
    split at h
    case h_2 => cases h
    rename_i d r hd hr
    split at h
    case isFalse => cases h
    rename_i ha
    simp only [Option.some.injEq] at h
    subst h
    have h1 := topnd_ok hd
    have h2 := partsT_ok hr
    have ha' : (cellsOf1 (e1 d)).all okC = true := by rw [cellsT_ok]; exact allT_ok ha
    unfold partsC
    rw [h1, h2]
    show (if (cellsOf1 (e1 d)).all okC = true then _ else _) = _
    rw [if_pos ha', cellsT_ok]
    rfl
def tevBuild (P : Program) (t : TypeId) (ps : Array (Nat × Operand)) (σ : TSt) (k : TRes → Option α) : Option α := match partsT σ ps.toList with
  | some qs => match builtT P t qs with
    | some cs => k { val := .one (.agg cs) }
    | none => none
  | none => none
theorem tevBuild_ok {t : TypeId} {ps : Array (Nat × Operand)} {k : TRes → Option α} {r : α} (h : tevBuild P t ps σ k = some r) : ∃ y, k y = some r ∧ Sim (evBuild P t ps (opnd (eS σ))) y := by
  unfold tevBuild at h
  split at h
  case h_2 => cases h
  rename_i qs hqs
  split at h
  case h_2 => cases h
  rename_i cs hcs
  exact ⟨_, h, Sim.tr (by simp only [evBuild, partsT_ok hqs, builtT_ok hcs, eRes, eD, e1, Option.map_none])⟩
/-- the cells of a type -/
def tysFs (f : TypeId → Option (List Ty)) : List Field → Option (List Ty)
  | [] => some []
  | fd :: fs => match f fd.type, tysFs f fs with
    | some a, some b => some (a ++ b)
    | _, _ => none
def prodT : List Ty → Option Ty
  | [] => none
  | [t] => some t
  | t :: t' :: ts => (prodT (t' :: ts)).map (.prod t)
def tysP (P : Program) : Nat → TypeId → Option (List Ty)
  | 0, _ => none
  | n + 1, t => match P.underlying t with
    | some (.int k) => some [.int k]
    | some .bool => some [.bool]
    | some .string => some [.str]
    | some (.slice e) => ((tysP P n e).bind prodT).map fun x => [.lst x]
    | some (.struct fs) => tysFs (tysP P n) fs.toList
    | _ => none
def tyE (P : Program) (t : TypeId) : Option Ty := (tysP P 9 t).bind prodT
def packN (e : Ty) : Nat → List TC → Option (List (den e))
  | 0, [] => some []
  | 0, _ :: _ => none
  | n + 1, cs => match packT e (cs.take (width e)), packN e n (cs.drop (width e)) with
    | some x, some xs => some (x :: xs)
    | _, _ => none
theorem packN_ok {e : Ty} : ∀ {n : Nat} {cs : List TC} {xs : List (den e)}, packN e n cs = some xs → cs.map eC = ((xs.map (toDats e)).flatten).map C.d ∧ chunk (width e) n (xs.map (toDats e)).flatten = xs.map (toDats e)
  | 0, [], xs, h => by simp only [packN, Option.some.injEq] at h; subst h; exact ⟨rfl, rfl⟩
  | 0, _ :: _, xs, h => by simp [packN] at h
  | n + 1, cs, xs, h => by
    unfold packN at h
    split at h
    case h_2 => cases h
    rename_i y ys hy hys
    simp only [Option.some.injEq] at h
    subst h
    obtain ⟨h1, h2⟩ := packN_ok hys
    have h3 := packT_ok hy
    refine ⟨?_, ?_⟩
    · rw [List.map_cons, List.flatten_cons, List.map_append, ← h3, ← h1, ← List.map_append, List.take_append_drop]
    · rw [List.map_cons, List.flatten_cons, chunk, List.take_append_of_le_length (by rw [toDats_len]; exact Nat.le_refl _), List.take_of_length_le (by rw [toDats_len]; exact Nat.le_refl _), List.drop_append_of_le_length (by rw [toDats_len]; exact Nat.le_refl _), List.drop_eq_nil_of_le (by rw [toDats_len]; exact Nat.le_refl _), List.nil_append, h2]
theorem map_rep {β γ : Type} (f : β → γ) (z : List β) : ∀ n, (rep z n).map f = rep (z.map f) n
  | 0 => rfl
  | n + 1 => by rw [rep, rep, List.map_append, map_rep f z n]
def tevBuildSlice (P : Program) (dst : Option Nat) (t : TypeId) (n : Nat) (ps : Array (Nat × Operand)) (σ : TSt) (k : TRes → Option α) : Option α := match P.underlying t, dst with
  | some (.slice el), some i => match lk σ.rows i, tzero P el, tyE P el, partsT σ ps.toList with
    | none, some z, some e, some qs => match tvals z with
      | some zt => if tsz P el = some (width e) ∧ n * width e ≤ 2 ^ 24 ∧ n ≤ 2 ^ 24 ∧ z.length = width e ∧ 0 < width e ∧ z.all Value.oneCell' = true ∧ el < 1099511627776 then match fillT (fun i => some (i * width e, width e)) (rep zt n) qs with
          | some cs => match packN e n cs with
            | some xs => k { val := .one (.c (.row i 0)), row := some (i, ⟨0, el, true, e, xs⟩) }
            | none => none
          | none => none
        else none
      | none => none
    | _, _, _, _ => none
  | _, _ => none
theorem tevBuildSlice_ok {dst : Option Nat} {t : TypeId} {n : Nat} {ps : Array (Nat × Operand)} {k : TRes → Option α} {r : α} (h : tevBuildSlice P dst t n ps σ k = some r) : ∃ y, k y = some r ∧ Sim (evBuildSlice P dst t n ps (opnd (eS σ)) (eS σ).row) y := by
  unfold tevBuildSlice at h
  split at h
  case h_2 => cases h
  rename_i el i hu
  split at h
  case h_2 => cases h
  rename_i z e qs hr hz he hqs
  split at h
  case h_2 => cases h
  rename_i zt hzt
  split at h
  case isFalse => cases h
  rename_i hc
  obtain ⟨c1, c2, c3, c4, c5, c6, c7⟩ := hc
  split at h
  case h_2 => cases h
  rename_i cs hcs
  split at h
  case h_2 => cases h
  rename_i xs hxs
  obtain ⟨k1, k2⟩ := packN_ok hxs
  have h2 := fillT_ok hcs
  rw [map_rep, tvals_ok hzt, ← map_rep] at h2
  refine ⟨_, h, Sim.tr ?_⟩
  simp only [evBuildSlice, hu, eS_noRow hr, c1, hz, partsT_ok hqs]
  rw [if_pos ⟨c2, c3, c4, c5, c6, c7⟩, h2]
  simp only [k1, mapM_datOf, k2, eRes, eD, e1, eC, Option.map_none, Option.map_some, eR]

/-! appends -/
def srcT (x : TD) (σ : TSt) : Option ((e : Ty) × List (den e)) := match x with
  | .one (.c (.d (.lst e) xs)) => some ⟨e, xs⟩
  | .one (.c (.row t g)) => match lk σ.rows t with
    | some r => if r.gen = g then some ⟨r.e, r.xs⟩ else none
    | none => none
  | _ => none
theorem srcT_ok {x : TD} {s : (e : Ty) × List (den e)} (h : srcT x σ = some s) : srcOf (width s.1) (eD x) (eS σ).row = some (s.2.map (toDats s.1)) := by
  unfold srcT at h
  split at h
  · simp only [Option.some.injEq] at h; subst h
    simp only [srcOf, eD, e1, eC, toDats, List.headD_cons, if_true]
  · split at h
    case h_2 => cases h
    rename_i r hr
    split at h
    case isFalse => cases h
    rename_i hg
    simp only [Option.some.injEq] at h; subst h
    have hg' : (eR r).gen = _ ∧ (eR r).sz = width r.e := ⟨hg, rfl⟩
    simp only [srcOf, eD, e1, eC, eS_row hr]
    rw [if_pos hg']; rfl
  · cases h
def tevAppend (P : Program) (dst : Option Nat) (t : TypeId) (s x : TD) (σ : TSt) (k : TRes → Option α) : Option α := match P.underlying t with
  | some (.slice el) => match elInfo P el, srcT x σ with
    | some (m, bytes), some src => if m = width src.1 then match s with
        | .one (.c (.row tt g)) => match lk σ.rows tt with
          | some r => if h : src.1 = r.e then if r.gen = g ∧ r.E = el then
              (appO bytes r.xs (h ▸ src.2)).bind fun ys => k { val := .one (.c (.row tt (g + 1))), row := some (tt, { r with gen := g + 1, xs := ys }) } else none else none
          | none => none
        | .one (.c .nil) => match dst with
          | some i => match lk σ.rows i with
            | none => (appO bytes [] src.2).bind fun ys => k { val := .one (.c (.row i 0)), row := some (i, ⟨0, el, true, src.1, ys⟩) }
            | some _ => none
          | none => none
        | _ => none
      else none
    | _, _ => none
  | _ => none
theorem appO_some {β : Type} {b : Nat} {xs ys zs : List β} (h : appO b xs ys = some zs) : (xs.length + ys.length) * b ≤ 140737488355328 ∧ zs = xs ++ ys := by
  unfold appO at h
  split at h
  case isFalse => cases h
  rename_i hc
  exact ⟨hc, (Option.some.inj h).symm⟩
theorem tevAppend_ok {dst : Option Nat} {t : TypeId} {s x : TD} {k : TRes → Option α} {r : α} (h : tevAppend P dst t s x σ k = some r) : ∃ y, k y = some r ∧ Sim (evAppend P dst t (eD s) (eD x) (eS σ).row) y := by
  unfold tevAppend at h
  split at h
  case h_2 => cases h
  rename_i el hu
  split at h
  case h_2 => cases h
  rename_i m bytes src hel hsrc
  split at h
  case isFalse => cases h
  rename_i hm
  subst hm
  have h1 := srcT_ok hsrc
  split at h
  · rename_i tt g
    split at h
    case h_2 => cases h
    rename_i r' hr
    split at h
    case isFalse => cases h
    rename_i he
    split at h
    case isFalse => cases h
    rename_i hg
    obtain ⟨e', ys⟩ := src
    obtain ⟨gen, E, wr, e, xs⟩ := r'
    have he' : e' = e := he
    subst he'
    obtain ⟨hg1, hg2⟩ := hg
    have hg1' : gen = g := hg1
    have hg2' : E = el := hg2
    subst hg1' hg2'
    obtain ⟨zs, hz, h⟩ := Option.bind_eq_some_iff.1 h
    obtain ⟨c1, rfl⟩ := appO_some hz
    refine ⟨_, h, _, c1, ?_⟩
    simp only at h1
    show evAppend P dst t (.one (.c (.row tt gen))) (eD x) _ = _
    generalize eD x = y at h1
    simp only [evAppend, hu, hel, h1, eD, e1, eC, eS_row hr, eR, and_self, if_true, eRes, Option.map_none, Option.map_some, List.map_append, List.length_map]
  · split at h
    case h_2 => cases h
    rename_i i
    split at h
    case h_2 => cases h
    rename_i hr
    obtain ⟨e', ys⟩ := src
    obtain ⟨zs, hz, h⟩ := Option.bind_eq_some_iff.1 h
    obtain ⟨c1, hzz⟩ := appO_some hz
    have hzz' : zs = ys := hzz
    clear hzz hz
    rw [hzz'] at h
    clear hzz' zs
    refine ⟨_, h, _, c1, ?_⟩
    simp only at h1
    show evAppend P (some i) t (.one (.c (.d (.v (.slice none 0 0))))) (eD x) _ = _
    generalize eD x = y at h1
    simp only [evAppend, hu, hel, h1, eD, e1, eC, eS_noRow hr, eR, eRes, Option.map_none, Option.map_some, List.map_append, List.length_map, List.nil_append, List.length_nil, Nat.zero_add]
  · cases h
end Go.Proofs.YtngbpbncipjimaaDoor.AM
