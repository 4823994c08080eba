/- Typed data over the plain machine: what an operation does, as a partial function of data; and that the plain machine does so. -/
import Derived.Test.YtngbpbncipjimaaDoorT1
namespace Go.Proofs.YtngbpbncipjimaaDoor.AM
open Go.RowKit
set_option linter.unusedVariables false
set_option linter.unusedSimpArgs false
variable {α : Type} {P : Program} {σ : TSt}

/-! the partial functions that operations are -/
def nth {β : Type} : List β → Nat → Option β
  | [], _ => none
  | x :: _, 0 => some x
  | _ :: l, n + 1 => nth l n
theorem nth_eq {β : Type} : ∀ (l : List β) (n : Nat), nth l n = l[n]?
  | [], n => by simp [nth]
  | _ :: _, 0 => rfl
  | _ :: l, n + 1 => by rw [nth, nth_eq l n]; simp
def idxL {β : Type} (l : List β) (i : Int) : Option β := if 0 ≤ i then nth l i.toNat else none
def sAt (s : List UInt8) (i : Int) : Option Int := (idxL s i).map fun c => (c.toNat : Int)
def subO {β : Type} (l : List β) (a b : Int) : Option (List β) := if 0 ≤ a ∧ a ≤ b ∧ b ≤ l.length then some ((l.drop a.toNat).take (b.toNat - a.toNat)) else none
def catO (s t : List UInt8) : Option (List UInt8) := if s.length + t.length ≤ 9223372036854775807 then some (s ++ t) else none
def appO {β : Type} (bytes : Nat) (xs ys : List β) : Option (List β) := if (xs.length + ys.length) * bytes ≤ 140737488355328 then some (xs ++ ys) else none
def letO {β : Type} (x : β) (f : β → Option α) : Option α := f x
def quoO (k : IntKind) (x y : Int) : Option Int := if y ≠ 0 then some (k.wrap (x.tdiv y)) else none
def remO (x y : Int) : Option Int := if y ≠ 0 then some (x.tmod y) else none
def shlO (k : IntKind) (x y : Int) : Option Int := if 0 ≤ y then some (k.wrap (x * 2 ^ (min y.toNat k.bits))) else none
def shrO (k : IntKind) (x y : Int) : Option Int := if 0 ≤ y then some (x.fdiv (2 ^ (min y.toNat k.bits))) else none
def andI (k : IntKind) (x y : Int) : Int := k.wrap (BitVec.ofInt k.bits x &&& BitVec.ofInt k.bits y).toNat
def orI (k : IntKind) (x y : Int) : Int := k.wrap (BitVec.ofInt k.bits x ||| BitVec.ofInt k.bits y).toNat
def xorI (k : IntKind) (x y : Int) : Int := k.wrap (BitVec.ofInt k.bits x ^^^ BitVec.ofInt k.bits y).toNat
def ltS (s t : List UInt8) : Bool := Op.bytesLess s t

def Sim (x : Option Res) (t : TRes) : Prop := ∃ c : Prop, c ∧ x = some (eRes c t)
theorem Sim.tr {x : Option Res} {t : TRes} (h : x = some (eRes True t)) : Sim x t := ⟨True, trivial, h⟩
theorem eS_box {i : Nat} {p : Nat × List TC} (h : lk σ.boxes i = some p) : (eS σ).box i = some (p.1, p.2.map eC) := by show (lk σ.boxes i).map eB = _; rw [h]; rfl
theorem eS_row {i : Nat} {r : TRow} (h : lk σ.rows i = some r) : (eS σ).row i = some (eR r) := by show (lk σ.rows i).map eR = _; rw [h]; rfl
theorem eS_noBox {i : Nat} (h : lk σ.boxes i = none) : (eS σ).box i = none := by show (lk σ.boxes i).map eB = _; rw [h]; rfl
theorem eS_noRow {i : Nat} (h : lk σ.rows i = none) : (eS σ).row i = none := by show (lk σ.rows i).map eR = _; rw [h]; rfl
theorem map_setAt {β γ : Type} (f : β → γ) (l : List β) (off : Nat) (xs : List β) : (setAt l off xs).map f = setAt (l.map f) off (xs.map f) := by
  unfold setAt; simp

/-! loads and stores -/
def loadT (P : Program) (t : TypeId) (cs : List TC) : Option TD := match aggD P t, tsz P t with
  | some true, some n => if n ≤ cs.length then some (.one (.agg (cs.take n))) else none
  | some false, _ => match cs with | c :: _ => some (.one (.c c)) | [] => none
  | _, _ => none
theorem loadT_ok {t : TypeId} {cs : List TC} {d : TD} (h : loadT P t cs = some d) : loadC P t (cs.map eC) = some (eD d) := by
  unfold loadT at h
  unfold loadC
  split at h
  · rename_i n h1 h2
    rw [h1, h2]
    split at h
    · rename_i hle
      simp only [Option.some.injEq] at h
      subst h
      simp only [List.length_map, hle, if_true, eD, e1, List.map_take]
    · cases h
  · rename_i h1
    rw [h1]
    split at h
    · simp only [Option.some.injEq] at h
      subst h; rfl
    · cases h
  · cases h
def tevLoad (P : Program) (t : TypeId) (p : TD) (σ : TSt) (k : TRes → Option α) : Option α := match p with
  | .one (.c (.box β off)) => match lk σ.boxes β with
    | some q => match loadT P t (q.2.drop off) with | some d => k { val := d } | none => none
    | none => none
  | .one (.c (.rp e off x)) => match loadT P t ((tcells e x).drop off) with | some d => k { val := d } | none => none
  | .one (.c (.wp tt g j off)) => match lk σ.rows tt with
    | some r => if r.gen = g then (nth r.xs j).bind fun x => match loadT P t ((tcells r.e x).drop off) with | some d => k { val := d } | none => none else none
    | none => none
  | _ => none
theorem getD_nth {e : Ty} {xs : List (den e)} {j : Nat} {x : den e} (h : nth xs j = some x) : (xs.map (toDats e)).getD j [] = toDats e x ∧ j < (xs.map (toDats e)).length := by
  rw [nth_eq] at h
  obtain ⟨h1, rfl⟩ := List.getElem?_eq_some_iff.1 h
  have : j < (xs.map (toDats e)).length := by rw [List.length_map]; exact h1
  exact ⟨by simp [List.getD, h1], this⟩
theorem tevLoad_ok {t : TypeId} {p : TD} {k : TRes → Option α} {r : α} (h : tevLoad P t p σ k = some r) :
    ∃ x, k x = some r ∧ Sim (evLoad P t (eD p) (eS σ).box (eS σ).row) x := by
  unfold tevLoad at h
  split at h
  · rename_i β off
    split at h
    case h_2 => cases h
    rename_i q hq
    split at h
    case h_2 => cases h
    rename_i d hd
    refine ⟨_, h, Sim.tr ?_⟩
    have := loadT_ok hd
    rw [List.map_drop] at this
    simp only [evLoad, eD, e1, eC, eS_box hq, this, Option.map_some]
    rfl
  · rename_i e off x
    split at h
    case h_2 => cases h
    rename_i d hd
    refine ⟨_, h, Sim.tr ?_⟩
    have := loadT_ok hd
    rw [List.map_drop, tcells_ok] at this
    simp only [evLoad, eD, e1, eC, List.map_drop, this, Option.map_some]
    rfl
  · rename_i tt g j off
    split at h
    case h_2 => cases h
    rename_i r' hr
    split at h
    case isFalse => cases h
    rename_i hg
    obtain ⟨x, hx, h⟩ := Option.bind_eq_some_iff.1 h
    split at h
    case h_2 => cases h
    rename_i d hd
    have := loadT_ok hd
    rw [List.map_drop, tcells_ok] at this
    obtain ⟨h1, h2⟩ := getD_nth hx
    refine ⟨_, h, _, h2, ?_⟩
    simp only [evLoad, eD, e1, eC, eS_row hr]
    have hg' : (eR r').gen = g := hg
    rw [if_pos hg']
    have h3 : (eR r').xs.getD j [] = toDats r'.e x := h1
    rw [h3, List.map_drop, this]
    rfl
  · cases h
def cellsT : TD1 → List TC
  | .c x => [x]
  | .agg cs => cs
def okTy : Ty → Bool
  | .prod _ _ => false
  | _ => true
def okT : TC → Bool
  | .d ty _ => okTy ty
  | .undef => false
  | .bad => false
  | _ => true
theorem okT_ok : ∀ {x : TC}, okT x = true → okC (eC x) = true
  | .d (.int _) _, _ => rfl
  | .d .bool _, _ => rfl
  | .d .str _, _ => rfl
  | .d (.lst _) _, _ => rfl
  | .nil, _ => rfl
  | .box _ _, _ => rfl
  | .row _ _, _ => rfl
  | .rp _ _ _, _ => rfl
  | .wp _ _ _ _, _ => rfl
  | .fn _ [], _ => rfl
  | .fn _ (_ :: _), _ => rfl
theorem cellsT_ok (x : TD1) : cellsOf1 (e1 x) = (cellsT x).map eC := by cases x <;> rfl
theorem allT_ok {cs : List TC} (h : cs.all okT = true) : (cs.map eC).all okC = true := by
  rw [List.all_map]
  refine List.all_eq_true.2 fun x hx => okT_ok (List.all_eq_true.1 h x hx)
theorem mapM_datOf : ∀ (l : List Dat), (l.map C.d).mapM datOf = some l
  | [] => rfl
  | x :: l => by rw [List.map_cons, List.mapM_cons, mapM_datOf l]; rfl
def setT (e : Ty) (x : den e) (off : Nat) (ys : List TC) : Option (den e) := packT e (setAt (tcells e x) off ys)
def tevStore (P : Program) (t : TypeId) (p x : TD) (σ : TSt) (k : TRes → Option α) : Option α := match x with
  | .one x => match tsz P t with
    | some n => if (cellsT x).length = n ∧ (cellsT x).all okT = true then
        match p with
        | .one (.c (.box β off)) => match lk σ.boxes β with
          | some q => if off + n ≤ q.2.length then k { val := .one (.c .undef), box := some (β, (q.1, setAt q.2 off (cellsT x))) } else none
          | none => none
        | .one (.c (.wp tt g j off)) => match lk σ.rows tt with
          | some r => if r.gen = g ∧ r.wr = true ∧ off + n ≤ width r.e then (nth r.xs j).bind fun y => match setT r.e y off (cellsT x) with
              | some y' => k { val := .one (.c .undef), row := some (tt, { r with xs := r.xs.set j y' }) }
              | none => none
            else none
          | none => none
        | _ => none
      else none
    | none => none
  | _ => none
theorem d_inj : ∀ {l m : List Dat}, l.map C.d = m.map C.d → l = m
  | [], [], _ => rfl
  | x :: l, y :: m, h => by
    simp only [List.map_cons, List.cons.injEq, C.d.injEq] at h
    rw [h.1, d_inj h.2]
  | [], _ :: _, h => by simp at h
  | _ :: _, [], h => by simp at h
theorem setT_ok {e : Ty} {x x' : den e} {off : Nat} {ys : List TC} (h : setT e x off ys = some x') (hl : off + ys.length ≤ width e) :
    ∃ ds, (ys.map eC).mapM datOf = some ds ∧ toDats e x' = setAt (toDats e x) off ds := by
  have h1 := packT_ok h
  rw [map_setAt, tcells_ok] at h1
  have hx := toDats_len e x
  have hx' := toDats_len e x'
  have h2 : ys.map eC = (((toDats e x').drop off).take ys.length).map C.d := by
    rw [List.map_take, List.map_drop, ← h1]
    unfold setAt
    have e0 : ((List.map C.d (toDats e x)).take off).length = off := by rw [List.length_take, List.length_map]; omega
    rw [List.append_assoc, List.drop_append, e0, Nat.sub_self, List.drop_zero, List.drop_eq_nil_of_le (by omega), List.nil_append, List.take_append_of_le_length (by rw [List.length_map]; omega), List.take_of_length_le (by rw [List.length_map]; omega)]
  refine ⟨_, by rw [h2]; exact mapM_datOf _, ?_⟩
  apply d_inj
  rw [← h1, map_setAt, h2]
theorem tevStore_ok {t : TypeId} {p x : TD} {k : TRes → Option α} {r : α} (h : tevStore P t p x σ k = some r) :
    ∃ y, k y = some r ∧ Sim (evStore P t (eD p) (eD x) (eS σ).box (eS σ).row) y := by
  unfold tevStore at h
  split at h
  case h_2 => cases h
  rename_i x1
  split at h
  case h_2 => cases h
  rename_i n hn
  split at h
  case isFalse => cases h
  rename_i hc
  obtain ⟨hc1, hc2⟩ := hc
  have hc1' : (cellsOf1 (e1 x1)).length = n := by rw [cellsT_ok, List.length_map]; exact hc1
  have hc2' : (cellsOf1 (e1 x1)).all okC = true := by rw [cellsT_ok]; exact allT_ok hc2
  split at h
  · rename_i β off
    split at h
    case h_2 => cases h
    rename_i q hq
    split at h
    case isFalse => cases h
    rename_i hle
    refine ⟨_, h, Sim.tr ?_⟩
    show evStore P t (.one (.c (.box β off))) (.one (e1 x1)) _ _ = _
    have e5 := cellsT_ok x1
    generalize e1 x1 = y1 at hc1' hc2' e5
    rw [e5] at hc2'
    simp only [evStore, hn, e5, hc1, hc2', and_self, if_true, eS_box hq, List.length_map, hle, eRes, Option.map_some, eB, map_setAt]
    rfl
  · rename_i tt g j off
    split at h
    case h_2 => cases h
    rename_i r' hr
    split at h
    case isFalse => cases h
    rename_i hg
    obtain ⟨hg1, hg2, hg3⟩ := hg
    obtain ⟨y, hy, h⟩ := Option.bind_eq_some_iff.1 h
    split at h
    case h_2 => cases h
    rename_i y' hy'
    obtain ⟨ds, k1, k2⟩ := setT_ok hy' (by omega)
    obtain ⟨h1, h2⟩ := getD_nth hy
    refine ⟨_, h, _, h2, ?_⟩
    rw [← cellsT_ok] at k1
    show evStore P t (.one (.c (.wp tt g j off))) (.one (e1 x1)) _ _ = _
    generalize e1 x1 = y1 at hc1' hc2' k1
    simp only [evStore, hn, hc1', hc2', and_self, if_true, eS_row hr, k1]
    have hg' : (eR r').gen = g ∧ (eR r').wr = true ∧ off + n ≤ (eR r').sz := ⟨hg1, hg2, hg3⟩
    rw [if_pos hg']
    have h3 : (eR r').xs.getD j [] = toDats r'.e y := h1
    rw [h3, ← k2]
    simp only [eRes, Option.map_some, eR, List.map_set]
    rfl
  · cases h

/-! new variables, fields, elements -/
def tevAlloc (P : Program) (dst : Option Nat) (t : TypeId) (σ : TSt) (k : TRes → Option α) : Option α := match dst, tzero P t with
  | some i, some z => match lk σ.boxes i, tvals z with
    | none, some cs => if z.all Value.oneCell' = true then k { val := .one (.c (.box i 0)), box := some (i, (t, cs)) } else none
    | _, _ => none
  | _, _ => none
theorem tevAlloc_ok {dst : Option Nat} {t : TypeId} {k : TRes → Option α} {r : α} (h : tevAlloc P dst t σ k = some r) :
    ∃ y, k y = some r ∧ Sim (evAlloc P dst t (eS σ).box) y := by
  unfold tevAlloc at h
  split at h
  case h_2 => cases h
  rename_i i z hz
  split at h
  case h_2 => cases h
  rename_i cs hb hcs
  split at h
  case isFalse => cases h
  rename_i ha
  refine ⟨_, h, Sim.tr ?_⟩
  simp only [evAlloc, hz, eS_noBox hb, ha, if_true, eRes, eD, e1, eC, Option.map_some, eB, tvals_ok hcs, Option.map_none]
def tevBox (dst : Option Nat) (t : TypeId) (x : TD) (σ : TSt) (k : TRes → Option α) : Option α := match dst, x with
  | some i, .one x => match lk σ.boxes i with
    | none => if (cellsT x).all okT = true then k { val := .one (.c (.box i 0)), box := some (i, (t, cellsT x)) } else none
    | some _ => none
  | _, _ => none
theorem tevBox_ok {dst : Option Nat} {t : TypeId} {x : TD} {k : TRes → Option α} {r : α} (h : tevBox dst t x σ k = some r) :
    ∃ y, k y = some r ∧ Sim (evBox dst t (eD x) (eS σ).box) y := by
  unfold tevBox at h
  split at h
  case h_2 => cases h
  rename_i i x1
  split at h
  case h_2 => cases h
  rename_i hb
  split at h
  case isFalse => cases h
  rename_i ha
  refine ⟨_, h, Sim.tr ?_⟩
  have ha' : (cellsOf1 (e1 x1)).all okC = true := by rw [cellsT_ok]; exact allT_ok ha
  show evBox (some i) t (.one (e1 x1)) _ = _
  have e5 := cellsT_ok x1
  generalize e1 x1 = y1 at ha' e5
  rw [e5] at ha'
  simp only [evBox, e5, eS_noBox hb, ha', if_true, eRes, Option.map_some, eB, Option.map_none]
  rfl
def tevFieldAddr (P : Program) (t : TypeId) (p : TD) (f : Nat) (k : TRes → Option α) : Option α := match fieldP P t f with
  | some (off, _) => match p with
    | .one (.c (.box β o)) => k { val := .one (.c (.box β (o + off))) }
    | .one (.c (.rp e o x)) => if o + off ≤ width e then k { val := .one (.c (.rp e (o + off) x)) } else none
    | .one (.c (.wp tt g j o)) => k { val := .one (.c (.wp tt g j (o + off))) }
    | _ => none
  | none => none
theorem tevFieldAddr_ok {t : TypeId} {p : TD} {f : Nat} {k : TRes → Option α} {r : α} (h : tevFieldAddr P t p f k = some r) :
    ∃ y, k y = some r ∧ Sim (evFieldAddr P t (eD p) f) y := by
  unfold tevFieldAddr at h
  split at h
  case h_2 => cases h
  rename_i off ft hf
  split at h
  · exact ⟨_, h, Sim.tr (by simp only [evFieldAddr, hf, eD, e1, eC]; rfl)⟩
  · rename_i e o x
    split at h
    case isFalse => cases h
    rename_i hle
    refine ⟨_, h, Sim.tr ?_⟩
    have : off ≤ ((toDats e x).drop o).length := by rw [List.length_drop, toDats_len]; omega
    simp only [evFieldAddr, hf, eD, e1, eC, this, if_true, List.drop_drop, eRes, Option.map_none]
  · exact ⟨_, h, Sim.tr (by simp only [evFieldAddr, hf, eD, e1, eC]; rfl)⟩
  · cases h
def tevField (P : Program) (t : TypeId) (x : TD) (f : Nat) (k : TRes → Option α) : Option α := match fieldP P t f, x with
  | some (off, ft), .one (.agg cs) => match aggD P ft, tsz P ft with
    | some true, some n => if off + n ≤ cs.length then k { val := .one (.agg ((cs.drop off).take n)) } else none
    | some false, _ => match nth cs off with
      | some c => k { val := .one (.c c) }
      | none => none
    | _, _ => none
  | _, _ => none
theorem tevField_ok {t : TypeId} {x : TD} {f : Nat} {k : TRes → Option α} {r : α} (h : tevField P t x f k = some r) :
    ∃ y, k y = some r ∧ Sim (evField P t (eD x) f) y := by
  unfold tevField at h
  split at h
  case h_2 => cases h
  rename_i off ft cs hf
  split at h
  · rename_i n h1 h2
    split at h
    case isFalse => cases h
    rename_i hle
    refine ⟨_, h, Sim.tr ?_⟩
    simp only [evField, hf, eD, e1, h1, h2, List.length_map, hle, if_true, eRes, List.map_take, List.map_drop, Option.map_none]
  · rename_i h1
    split at h
    case h_2 => cases h
    rename_i c hc
    refine ⟨_, h, Sim.tr ?_⟩
    rw [nth_eq] at hc
    simp only [evField, hf, eD, e1, h1, List.getElem?_map, hc, Option.map_some, eRes, Option.map_none]
  · cases h
def tevExtract (x : TD) (i : Nat) (k : TRes → Option α) : Option α := match x with
  | .tup xs => match nth xs i with
    | some y => k { val := .one y }
    | none => none
  | _ => none
theorem tevExtract_ok {x : TD} {i : Nat} {k : TRes → Option α} {r : α} (h : tevExtract x i k = some r) : ∃ y, k y = some r ∧ Sim (evExtract (eD x) i) y := by
  unfold tevExtract at h
  split at h
  case h_2 => cases h
  rename_i xs
  split at h
  case h_2 => cases h
  rename_i y hy
  rw [nth_eq] at hy
  exact ⟨_, h, Sim.tr (by simp only [evExtract, eD, List.getElem?_map, hy, Option.map_some, eRes, Option.map_none])⟩
/-- cells of one type, as a list -/
def unDs (ty : Ty) : List TC → Option (List (den ty))
  | [] => some []
  | c :: cs => match unD ty [c], unDs ty cs with
    | some x, some xs => some (x :: xs)
    | _, _ => none
theorem unDs_ok {ty : Ty} : ∀ {cs : List TC} {xs : List (den ty)}, unDs ty cs = some xs → cs = xs.map (TC.d ty)
  | [], xs, h => by simp only [unDs, Option.some.injEq] at h; subst h; rfl
  | c :: cs, xs, h => by
    unfold unDs at h
    split at h
    case h_2 => cases h
    rename_i x ys h1 h2
    simp only [Option.some.injEq] at h
    subst h
    have := unD_ok h1
    simp only [List.cons.injEq, and_true] at this
    rw [List.map_cons, ← unDs_ok h2, this]
def tevIndexArr (P : Program) (t : TypeId) (cs : List TC) (n : Int) (k : TRes → Option α) : Option α := match cs, P.underlying t with
  | .d e _ :: _, some (.array m el) => match tsz P el, aggD P el, unDs e cs with
    | some 1, some false, some xs => if m = xs.length then (idxL xs n).bind fun y => k { val := .one (.c (.d e y)) } else none
    | _, _, _ => none
  | _, _ => none
def tevIndex (P : Program) (t : TypeId) (x i : TD) (k : TRes → Option α) : Option α := match x, i with
  | .one (.c (.d .str s)), .one (.c (.d (.int _) n)) => match P.underlying t with
    | some .string => (sAt s n).bind fun c => k { val := .one (.c (.d (.int .u8) c)) }
    | _ => none
  | .one (.agg cs), .one (.c (.d (.int _) n)) => tevIndexArr P t cs n k
  | _, _ => none
theorem sAt_some {s : List UInt8} {n c : Int} (h : sAt s n = some c) : (0 ≤ n ∧ n < (ba s).size) ∧ c = byteAt (ba s) n := by
  unfold sAt idxL at h
  split at h
  case isFalse => cases h
  rename_i hn
  obtain ⟨b, hb, rfl⟩ := Option.map_eq_some_iff.1 h
  rw [nth_eq] at hb
  obtain ⟨h1, rfl⟩ := List.getElem?_eq_some_iff.1 hb
  have hsz : (ba s).size = s.length := by simp [ba, ByteArray.size]
  refine ⟨⟨hn, by omega⟩, ?_⟩
  unfold byteAt ba
  simp [List.getD, h1]
theorem idxL_some0 {β : Type} {l : List β} {n : Int} {y : β} (h : idxL l n = some y) : (0 ≤ n ∧ n < l.length) ∧ nth l n.toNat = some y := by
  unfold idxL at h
  split at h
  case isFalse => cases h
  rename_i hn
  have h' := h
  rw [nth_eq] at h'
  obtain ⟨h1, _⟩ := List.getElem?_eq_some_iff.1 h'
  exact ⟨⟨hn, by omega⟩, h⟩
theorem tevIndexArr_ok {t : TypeId} {cs : List TC} {ik : IntKind} {n : Int} {k : TRes → Option α} {r : α} (h : tevIndexArr P t cs n k = some r) : ∃ y, k y = some r ∧ Sim (evIndex P t (.one (.agg (cs.map eC))) (.one (.c (.d (.v (.int ik n)))))) y := by
  unfold tevIndexArr at h
  split at h
  case h_2 => cases h
  rename_i e x0 cs0 m el hu
  split at h
  case h_2 => cases h
  rename_i xs hs ha hxs
  split at h
  case isFalse => cases h
  rename_i hm
  obtain ⟨y, hy, h⟩ := Option.bind_eq_some_iff.1 h
  obtain ⟨h1, h2⟩ := idxL_some0 hy
  have hcs := unDs_ok hxs
  refine ⟨_, h, (0 ≤ n ∧ n < ((List.map eC (TC.d e x0 :: cs0)).length : Int) ∧ m = (List.map eC (TC.d e x0 :: cs0)).length), ?_, ?_⟩
  · rw [hcs, List.length_map, List.length_map]
    exact ⟨h1.1, h1.2, hm⟩
  · have e5 : (List.map eC (TC.d e x0 :: cs0)).getD n.toNat C.bad = eC (TC.d e y) := by
      rw [nth_eq] at h2
      rw [hcs]
      simp [List.getD, h2]
    simp only [evIndex, hu, hs, ha, e5, eRes, Option.map_none]
    rfl
theorem tevIndex_ok {t : TypeId} {x i : TD} {k : TRes → Option α} {r : α} (h : tevIndex P t x i k = some r) : ∃ y, k y = some r ∧ Sim (evIndex P t (eD x) (eD i)) y := by
  unfold tevIndex at h
  split at h
  case h_3 => cases h
  case h_2 =>
    rename_i cs ik n
    exact tevIndexArr_ok (ik := ik) h
  rename_i s k' n
  split at h
  case h_2 => cases h
  rename_i hu
  obtain ⟨c, hc, h⟩ := Option.bind_eq_some_iff.1 h
  obtain ⟨h1, rfl⟩ := sAt_some hc
  refine ⟨_, h, _, h1, ?_⟩
  simp only [eD, e1, eC, toDats, List.headD_cons, evIndex, hu]
  rfl
def tevIndexAddr (P : Program) (t : TypeId) (x i : TD) (σ : TSt) (k : TRes → Option α) : Option α := match P.underlying t with
  | some (.slice el) => match tsz P el, x, i with
    | some m, .one (.c (.d (.lst e) l)), .one (.c (.d (.int _) n)) => if m = width e then (idxL l n).bind fun y => k { val := .one (.c (.rp e 0 y)) } else none
    | some m, .one (.c (.row tt g)), .one (.c (.d (.int _) n)) => match lk σ.rows tt with
      | some r => if r.gen = g ∧ width r.e = m then (idxL r.xs n).bind fun _ => k { val := .one (.c (.wp tt g (Int.toNat n) 0)) } else none
      | none => none
    | _, _, _ => none
  | some (.array len el) => match tsz P el, x, i with
    | some m, .one (.c (.box β o)), .one (.c (.d (.int _) n)) => if (@LE.le Int _ 0 n ∧ @LT.lt Int _ n ((len : Nat) : Int)) then k { val := .one (.c (.box β (o + Int.toNat n * m))) } else none
    | _, _, _ => none
  | _ => none
theorem idxL_some {β : Type} {l : List β} {n : Int} {y : β} (h : idxL l n = some y) : (0 ≤ n ∧ n < l.length) ∧ nth l n.toNat = some y := by
  unfold idxL at h
  split at h
  case isFalse => cases h
  rename_i hn
  have h' := h
  rw [nth_eq] at h'
  obtain ⟨h1, _⟩ := List.getElem?_eq_some_iff.1 h'
  exact ⟨⟨hn, by omega⟩, h⟩
theorem tevIndexAddr_ok {t : TypeId} {x i : TD} {k : TRes → Option α} {r : α} (h : tevIndexAddr P t x i σ k = some r) : ∃ y, k y = some r ∧ Sim (evIndexAddr P t (eD x) (eD i) (eS σ).row) y := by
  unfold tevIndexAddr at h
  split at h
  case h_3 => cases h
  case h_2 =>
    rename_i len el hu
    split at h
    case h_2 => cases h
    rename_i m β o k' n hm
    split at h
    case isFalse => cases h
    rename_i hc
    exact ⟨_, h, (@LE.le Int _ 0 n ∧ @LT.lt Int _ n ((len : Nat) : Int)), hc, by simp only [eD, e1, eC, toDats, List.headD_cons, evIndexAddr, hu, hm, eRes, Option.map_none]⟩
  rename_i el hu
  split at h
  · rename_i m e l k' n hm
    split at h
    case isFalse => cases h
    rename_i hme
    subst hme
    obtain ⟨y, hy, h⟩ := Option.bind_eq_some_iff.1 h
    obtain ⟨h1, h2⟩ := idxL_some hy
    obtain ⟨h3, h4⟩ := getD_nth h2
    refine ⟨_, h, (@LE.le Int _ 0 n ∧ @LT.lt Int _ n ((l.map (toDats e)).length : Nat)), by rw [List.length_map]; exact h1, ?_⟩
    have h3' : ((l : List (den e)).map (toDats e)).getD (Int.toNat n) [] = toDats e y := h3
    simp only [eD, e1, eC, toDats, List.headD_cons, evIndexAddr, hu, hm, if_true, h3', eRes, Option.map_none, List.drop_zero]
  · rename_i m tt g k' n hm
    split at h
    case h_2 => cases h
    rename_i r' hr
    split at h
    case isFalse => cases h
    rename_i hg
    obtain ⟨y, hy, h⟩ := Option.bind_eq_some_iff.1 h
    obtain ⟨h1, h2⟩ := idxL_some hy
    refine ⟨_, h, (@LE.le Int _ 0 n ∧ @LT.lt Int _ n ((eR r').xs.length : Nat)), by show _ ∧ @LT.lt Int _ n ((r'.xs.map (toDats r'.e)).length : Nat); rw [List.length_map]; exact h1, ?_⟩
    have hg' : (eR r').gen = g ∧ (eR r').sz = m := hg
    simp only [eD, e1, eC, toDats, List.headD_cons, evIndexAddr, hu, hm, eS_row hr, hg', and_self, if_true, eRes, Option.map_none]
  · cases h
end Go.Proofs.YtngbpbncipjimaaDoor.AM
