/- What the plain machine does at an operation: new variables, fields, elements, literals. -/
import Derived.Test.YtngbpbncipjimaaDoorAmE
namespace Go.Proofs.YtngbpbncipjimaaDoor.AM
open Go.RowKit
set_option linter.unusedVariables false
variable {F : Fr} {σ : St} {e : Env} {a : Act} {w : World} {P : Program}

def tzero (P : Program) (t : TypeId) : Option (List Value) := (P.info? t).bind fun i => i.zero.map fun z => z.cells.toList
/-! new variables -/
def evAlloc (P : Program) (dst : Option Nat) (t : TypeId) (bx : Nat → Option (Nat × List C)) : Option Res := match dst, tzero P t with
  | some i, some z => match bx i with
    | none => if z.all Value.oneCell' = true then some { cond := True, val := .one (.c (.box i 0)), box := some (i, (t, z.map valC)) } else none
    | some _ => none
  | _, _ => none
theorem newVarRun (t : TypeId) (v : Value) (w : World) : (newVar t v).run P w = .ok ⟨w.heap.size, 0, none⟩ (w.alloc (.cells v.cells t)) := by
  simp only [newVar, newRow, Sem.run_bind, newObj]
  rfl
theorem box_ok {i : Nat} {t : TypeId} {vs : Array Value} {cs : List C} (hR : R F σ e a w) (hb : σ.box i = none) (h : All2 (CRep e σ w) vs.toList cs) (h1 : ∀ u ∈ vs.toList, u.oneCell' = true) :
    ∃ e', Fwd e σ w e' { σ with box := upd σ.box i (some (t, cs)) } (w.alloc (.cells vs t)) ∧ Hp F { σ with box := upd σ.box i (some (t, cs)) } e' (w.alloc (.cells vs t)) ∧ DRep e' { σ with box := upd σ.box i (some (t, cs)) } (w.alloc (.cells vs t)) (.pointer (some ⟨w.heap.size, 0, none⟩)) (.one (.c (.box i 0))) := by
  obtain ⟨hf, hh⟩ := hR.hp.alloc i t vs cs hb h h1
  refine ⟨_, hf, hh, ?_⟩
  show (upd σ.box i (some (t, cs)) i).isSome = true ∧ Value.pointer (some ⟨w.heap.size, 0, none⟩) = .pointer (some ⟨upd e.m i w.heap.size i, 0, none⟩)
  rw [upd_same, upd_same]; exact ⟨rfl, rfl⟩
theorem ok_alloc {o : Oper} {t : TypeId} {res : Res} (ho : o.op = .alloc t) (h : evAlloc P o.dst t σ.box = some res) : OpOk P F o σ res := by
  unfold evAlloc at h
  split at h
  case h_2 => cases h
  rename_i i z hd hz
  split at h
  case h_2 => cases h
  rename_i hb
  split at h
  case isFalse => cases h
  rename_i h1
  simp only [Option.some.injEq] at h
  subst h
  unfold tzero at hz
  obtain ⟨inf, hi, hz1⟩ := Option.bind_eq_some_iff.1 hz
  obtain ⟨zv, hz2, rfl⟩ := Option.map_eq_some_iff.1 hz1
  intro e a w hR _
  obtain ⟨e', hf, hh, hd'⟩ := box_ok (i := i) (t := t) (vs := zv.cells) hR hb (all2_map valC crep_val _) (fun u hu => List.all_eq_true.1 h1 u hu)
  refine ⟨_, _, e', .inl ?_, hf, hh, hd'⟩
  have hzr : (zeroValue t).run P w = .ok zv w := by simp [zeroValue, typeInfo, hi, hz2]
  have := newVarRun (P := P) t zv w
  simp [execOp, ho, Instr.alloc, Sem.run_bind, hzr, this]
def evBox (dst : Option Nat) (t : TypeId) (x : D) (bx : Nat → Option (Nat × List C)) : Option Res := match dst, x with
  | some i, .one x => match bx i with
    | none => if (cellsOf1 x).all okC = true then some { cond := True, val := .one (.c (.box i 0)), box := some (i, (t, cellsOf1 x)) } else none
    | some _ => none
  | _, _ => none
theorem ok_box {o : Oper} {t : TypeId} {x : Operand} {res : Res} (ho : o.op = .box t x) (h : evBox o.dst t (opnd σ x) σ.box = some res) : OpOk P F o σ res := by
  unfold evBox at h
  split at h
  case h_2 => cases h
  rename_i i x1 hd hx
  split at h
  case h_2 => cases h
  rename_i hb
  split at h
  case isFalse => cases h
  rename_i h1
  simp only [Option.some.injEq] at h
  subst h
  intro e a w hR _
  have h4 := hR.opnd x
  rw [hx] at h4
  obtain ⟨h5, h6⟩ := cells_of (show Rep1 e σ w (a.eval x) x1 from h4) h1
  obtain ⟨e', hf, hh, hd'⟩ := box_ok (i := i) (t := t) hR hb h5 h6
  refine ⟨_, _, e', .inl ?_, hf, hh, hd'⟩
  have := newVarRun (P := P) t (a.eval x) w
  simp [execOp, ho, Instr.box, this]

/-! fields -/
def fieldP (P : Program) (t : TypeId) (f : Nat) : Option (Nat × TypeId) := match P.underlying t with
  | some (.struct fs) => match fs[f]? with
    | some fd => match tsz P fd.type with
      | some (_ + 1) => some (fd.offset, fd.type)
      | _ => none
    | none => none
  | _ => none
theorem fieldP_some {t : TypeId} {f off : Nat} {ft : TypeId} (h : fieldP P t f = some (off, ft)) : ∃ fs fd n, P.underlying t = some (.struct fs) ∧ fs[f]? = some fd ∧ tsz P fd.type = some (n + 1) ∧ fd.offset = off ∧ fd.type = ft := by
  unfold fieldP at h
  split at h <;> try cases h
  rename_i fs hu
  split at h <;> try cases h
  rename_i fd hf
  split at h <;> try cases h
  rename_i n hn
  exact ⟨fs, fd, n, hu, hf, hn, rfl, rfl⟩
def evFieldAddr (P : Program) (t : TypeId) (p : D) (f : Nat) : Option Res := match fieldP P t f with
  | some (off, _) => match p with
    | .one (.c (.box β o)) => some { cond := True, val := .one (.c (.box β (o + off))) }
    | .one (.c (.rp cs)) => if off ≤ cs.length then some { cond := True, val := .one (.c (.rp (cs.drop off))) } else none
    | .one (.c (.wp tt g k o)) => some { cond := True, val := .one (.c (.wp tt g k (o + off))) }
    | _ => none
  | none => none
theorem run_fieldAt' {t : TypeId} {f off : Nat} {ft : TypeId} (h : fieldP P t f = some (off, ft)) (b o : Nat) (w : World) :
    (Instr.fieldAt t (.pointer (some ⟨b, o, none⟩)) f).run P w = .ok (.pointer (some ⟨b, o + off, none⟩)) w := by
  obtain ⟨fs, fd, n, hu, hf, hn, rfl, rfl⟩ := fieldP_some h
  simp [Instr.fieldAt, Sem.run_bind, run_underlying hu w, hf, Instr.sureAddr, fieldPlace, run_sizeOf' hn w, add_lit]
theorem ok_fieldAddr {o : Oper} {t : TypeId} {x : Operand} {f : Nat} {res : Res} (ho : o.op = .fieldAddr t x f) (h : evFieldAddr P t (opnd σ x) f = some res) : OpOk P F o σ res := by
  unfold evFieldAddr at h
  split at h
  case h_2 => cases h
  rename_i off ft hf
  split at h
  · rename_i β q hx
    simp only [Option.some.injEq] at h
    subst h
    refine OpOk.same fun e a w hR _ => ?_
    have h1 := hR.opnd x
    rw [hx] at h1
    obtain ⟨h2, h3⟩ : (σ.box β).isSome = true ∧ a.eval x = .pointer (some ⟨e.m β, q, none⟩) := h1
    exact ⟨_, by simp [execOp, ho, h3, run_fieldAt' hf], h2, rfl⟩
  · rename_i cs hx
    split at h
    case isFalse => cases h
    rename_i hle
    simp only [Option.some.injEq] at h
    subst h
    refine OpOk.same fun e a w hR _ => ?_
    have h1 := hR.opnd x
    rw [hx] at h1
    obtain ⟨b, q, h3, us, h4, h5⟩ : ∃ b o', a.eval x = .pointer (some ⟨b, o', none⟩) ∧ ∃ us : List Value, All2 (DatRep e.Pc w) us cs ∧ ∀ (j : Nat) (h : j < us.length), e.Pc b (o' + j) ∧ w.cell? ⟨b, o' + j, none⟩ = some us[j] ∧ (us[j]).oneCell' = true := h1
    refine ⟨.pointer (some ⟨b, q + off, none⟩), by simp [execOp, ho, h3, run_fieldAt' hf], b, q + off, rfl, us.drop off, h4.drop off, fun j hj => ?_⟩
    rw [List.length_drop] at hj
    have := h5 (off + j) (by omega)
    rw [List.getElem_drop, Nat.add_assoc]
    exact this
  · rename_i tt g k q hx
    simp only [Option.some.injEq] at h
    subst h
    refine OpOk.same fun e a w hR _ => ?_
    have h1 := hR.opnd x
    rw [hx] at h1
    obtain ⟨r, b, h2, h3, h4, h5⟩ : ∃ r b, σ.row tt = some r ∧ g ≤ r.gen ∧ (e.rv tt g).ownBlock = some b ∧ a.eval x = .pointer (some ⟨b, k * r.sz + q, none⟩) := h1
    exact ⟨.pointer (some ⟨b, k * r.sz + q + off, none⟩), by simp [execOp, ho, h5, run_fieldAt' hf], r, b, h2, h3, h4, by rw [Nat.add_assoc]⟩
  · cases h
def evField (P : Program) (t : TypeId) (x : D) (f : Nat) : Option Res := match fieldP P t f, x with
  | some (off, ft), .one (.agg cs) => match aggD P ft, tsz P ft with
    | some true, some n => if off + n ≤ cs.length then some { cond := True, val := .one (.agg ((cs.drop off).take n)) } else none
    | some false, _ => match cs[off]? with
      | some c => some { cond := True, val := .one (.c c) }
      | none => none
    | _, _ => none
  | _, _ => none
theorem ok_field {o : Oper} {t : TypeId} {x : Operand} {f : Nat} {res : Res} (ho : o.op = .field t x f) (h : evField P t (opnd σ x) f = some res) : OpOk P F o σ res := by
  unfold evField at h
  split at h
  case h_2 => cases h
  rename_i off ft cs hf hx
  obtain ⟨fs, fd, n, hu, hfd, hn, rfl, rfl⟩ := fieldP_some hf
  have main : ∀ e a w, R F σ e a w → ∃ vs : Array Value, a.eval x = .agg vs ∧ All2 (CRep e σ w) vs.toList cs := fun e a w hR => by
    have h1 := hR.opnd x
    rw [hx] at h1
    exact h1
  split at h
  · rename_i m ha hm
    split at h
    case isFalse => cases h
    rename_i hle
    simp only [Option.some.injEq] at h
    subst h
    refine OpOk.same fun e a w hR _ => ?_
    obtain ⟨vs, h3, h4⟩ := main e a w hR
    refine ⟨.agg (vs.extract fd.offset (fd.offset + m)), ?_, _, rfl, ?_⟩
    · simp [execOp, ho, h3, Sem.run_bind, Instr.field, run_underlying hu w, hfd, asAgg, part, run_isAgg' ha w, run_sizeOf' hm w]
    · have := (h4.drop fd.offset).take m
      simpa [Array.toList_extract, List.extract_eq_take_drop] using this
  · rename_i ha
    split at h
    case h_2 => cases h
    rename_i c hc
    simp only [Option.some.injEq] at h
    subst h
    refine OpOk.same fun e a w hR _ => ?_
    obtain ⟨vs, h3, h4⟩ := main e a w hR
    obtain ⟨hlt, rfl⟩ := List.getElem?_eq_some_iff.1 hc
    have hl := h4.length
    rw [Array.length_toList] at hl
    have hv : vs[fd.offset]? = some (vs[fd.offset]'(by omega)) := Array.getElem?_eq_getElem (by omega)
    refine ⟨vs[fd.offset]'(by omega), ?_, ?_⟩
    · simp [execOp, ho, h3, Sem.run_bind, Instr.field, run_underlying hu w, hfd, asAgg, part, run_isAgg' ha w, hv]
    · have := h4.get fd.offset (by rw [Array.length_toList]; omega) hlt
      rw [Array.getElem_toList] at this
      exact this
  · cases h
def evExtract (x : D) (i : Nat) : Option Res := match x with
  | .tup xs => match xs[i]? with
    | some y => some { cond := True, val := .one y }
    | none => none
  | _ => none
theorem ok_extract {o : Oper} {x : Operand} {i : Nat} {res : Res} (ho : o.op = .extract x i) (h : evExtract (opnd σ x) i = some res) : OpOk P F o σ res := by
  unfold evExtract at h
  split at h
  case h_2 => cases h
  rename_i xs hx
  split at h
  case h_2 => cases h
  rename_i y hy
  simp only [Option.some.injEq] at h
  subst h
  refine OpOk.same fun e a w hR _ => ?_
  have h1 := hR.opnd x
  rw [hx] at h1
  obtain ⟨vs, h3, h4⟩ := h1
  obtain ⟨hlt, rfl⟩ := List.getElem?_eq_some_iff.1 hy
  have hl := h4.length
  rw [Array.length_toList] at hl
  have hv : vs[i]? = some (vs[i]'(by omega)) := Array.getElem?_eq_getElem (by omega)
  refine ⟨vs[i]'(by omega), ?_, ?_⟩
  · simp [execOp, ho, h3, Instr.extract, hv]
  · have := h4.get i (by rw [Array.length_toList]; omega) hlt
    rw [Array.getElem_toList] at this
    exact this

/-! elements -/
/-- a list that is read -/
def seqOf (x : D) (rw : Nat → Option Row) : Option (List (List Dat)) := match x with
  | .one (.c (.d (.lst _ xs))) => some xs
  | .one (.c (.row t g)) => match rw t with
    | some r => if r.gen = g then some r.xs else none
    | none => none
  | _ => none
def byteAt (s : ByteArray) (i : Int) : Int := ((s.data.toList.getD i.toNat 0).toNat : Int)
def evIndex (P : Program) (t : TypeId) (x i : D) : Option Res := match x, i with
  | .one (.c (.d (.v (.string s)))), .one (.c (.d (.v (.int k n)))) => match P.underlying t with
    | some .string => some { cond := 0 ≤ n ∧ n < s.size, val := valD (.int .u8 (byteAt s n)) }
    | _ => none
  | .one (.agg cs), .one (.c (.d (.v (.int k n)))) => match P.underlying t with
    | some (.array m el) => match tsz P el, aggD P el with
      | some 1, some false => some { cond := 0 ≤ n ∧ n < cs.length ∧ m = cs.length, val := .one (.c (cs.getD n.toNat .bad)) }
      | _, _ => none
    | _ => none
  | _, _ => none
theorem ok_index {o : Oper} {t : TypeId} {x i : Operand} {res : Res} (ho : o.op = .index t x i) (h : evIndex P t (opnd σ x) (opnd σ i) = some res) : OpOk P F o σ res := by
  unfold evIndex at h
  split at h
  case h_3 => cases h
  case h_2 =>
    rename_i cs k n hx hi
    split at h
    case h_2 => cases h
    rename_i m el hu
    split at h
    case h_2 => cases h
    rename_i hs ha
    simp only [Option.some.injEq] at h
    subst h
    refine OpOk.same fun e a w hR hc => ?_
    have h1 := hR.opnd x
    rw [hx] at h1
    obtain ⟨vs, h3, h4⟩ : ∃ vs : Array Value, a.eval x = .agg vs ∧ All2 (CRep e σ w) vs.toList cs := h1
    have h5 := hR.opnd i
    rw [hi] at h5
    have h6 := of_val h5
    obtain ⟨c1, c2, c3⟩ := hc
    have hl := h4.length
    rw [Array.length_toList] at hl
    have hlt : n.toNat < vs.size := by omega
    have hv : vs[n.toNat]? = some (vs[n.toNat]'hlt) := Array.getElem?_eq_getElem hlt
    have c4 : n < (m : Int) := by omega
    refine ⟨vs[n.toNat]'hlt, ?_, ?_⟩
    · simp [execOp, ho, h3, h6, Sem.run_bind, Instr.index, asIntOf, run_underlying hu w, c1, c4, run_sizeOf' hs w, part, run_isAgg' ha w, hv]
    · have hlt2 : n.toNat < cs.length := by omega
      have := h4.get n.toNat (by rw [Array.length_toList]; omega) hlt2
      rw [Array.getElem_toList] at this
      have e5 : cs.getD n.toNat .bad = cs[n.toNat] := by simp [List.getD, List.getElem?_eq_getElem hlt2]
      show CRep e σ w _ (cs.getD n.toNat .bad)
      rw [e5]
      exact this
  rename_i s k n hx hi
  split at h
  case h_2 => cases h
  rename_i hu
  simp only [Option.some.injEq] at h
  subst h
  refine OpOk.same fun e a w hR hc => ?_
  have h1 := hR.opnd x
  rw [hx] at h1
  have h2 := of_val h1
  have h3 := hR.opnd i
  rw [hi] at h3
  have h4 := of_val h3
  obtain ⟨hc1, hc2⟩ := hc
  have hlt : n.toNat < s.size := by omega
  refine ⟨_, ?_, drep_val _⟩
  have hs : s[n.toNat]? = some (s[n.toNat]'hlt) := by simp [getElem?_pos, hlt]
  have hb : byteAt s n = ((s[n.toNat]'hlt).toNat : Int) := by
    unfold byteAt
    have : s.data.toList.getD n.toNat 0 = s[n.toNat]'hlt := by
      have hl : n.toNat < s.data.toList.length := by simpa using hlt
      simp only [List.getD, List.getElem?_eq_getElem hl, Option.getD_some]
      rfl
    rw [this]
  simp [execOp, ho, h2, h4, Sem.run_bind, Instr.index, asIntOf, run_underlying hu w, hc1, hs, hb]
def evIndexAddr (P : Program) (t : TypeId) (x i : D) (rw : Nat → Option Row) : Option Res := match P.underlying t with
  | some (.slice el) => match tsz P el, x, i with
    | some m, .one (.c (.d (.lst sz xs))), .one (.c (.d (.v (.int k n)))) => if m = sz then some { cond := 0 ≤ n ∧ n < xs.length, val := .one (.c (.rp (xs.getD n.toNat []))) } else none
    | some m, .one (.c (.row tt g)), .one (.c (.d (.v (.int k n)))) => match rw tt with
      | some r => if r.gen = g ∧ r.sz = m then some { cond := 0 ≤ n ∧ n < r.xs.length, val := .one (.c (.wp tt g n.toNat 0)) } else none
      | none => none
    | _, _, _ => none
  | some (.array len el) => match tsz P el, x, i with
    | some m, .one (.c (.box β o)), .one (.c (.d (.v (.int k n)))) => some { cond := 0 ≤ n ∧ n < len, val := .one (.c (.box β (o + n.toNat * m))) }
    | _, _, _ => none
  | _ => none
theorem ok_indexAddr {o : Oper} {t : TypeId} {x i : Operand} {res : Res} (ho : o.op = .indexAddr t x i) (h : evIndexAddr P t (opnd σ x) (opnd σ i) σ.row = some res) : OpOk P F o σ res := by
  unfold evIndexAddr at h
  split at h
  · rename_i el hu
    split at h
    · rename_i m sz xs k n hm hx hi
      split at h
      case isFalse => cases h
      rename_i hmz
      subst hmz
      simp only [Option.some.injEq] at h
      subst h
      refine OpOk.same fun e a w hR hc => ?_
      obtain ⟨hc1, hc2⟩ := hc
      have h1 := hR.opnd x
      rw [hx] at h1
      have h3 := hR.opnd i
      rw [hi] at h3
      have h4 := of_val h3
      have h1' : DatRep e.Pc w (a.eval x) (.lst m xs) := h1
      generalize hv : a.eval x = v at h1'
      cases h1' with
      | lst aa nn cap _ _ b off c hn hcap hmax hsz ha hcc hr =>
        have hk : n.toNat < xs.length := by omega
        have ha' := ha (by omega)
        subst ha'
        have hxl := hsz _ (List.getElem_mem hk)
        have hgd : xs.getD n.toNat [] = xs[n.toNat] := by simp [List.getD, hk]
        refine ⟨.pointer (some ⟨b, off + n.toNat * m, none⟩), ?_, b, off + n.toNat * m, rfl, (List.range m).map (c n.toNat), ?_, ?_⟩
        · have hnn : n < (nn : Int) := by omega
          simp [execOp, ho, hv, h4, Sem.run_bind, Instr.indexAt, asIntOf, run_underlying hu w, hc1, hnn, run_sizeOf' hm w, add_lit]
        · rw [hgd]
          refine All2.mk (by simp [hxl]) (fun j hj hj' => ?_)
          simp only [List.getElem_map, List.getElem_range]
          exact hr n.toNat j hk hj'
        · intro j hj
          simp only [List.length_map, List.length_range] at hj
          simp only [List.getElem_map, List.getElem_range]
          exact hcc n.toNat j hk hj
    · rename_i m tt g k n hm hx hi
      split at h
      case h_2 => cases h
      rename_i r hr
      split at h
      case isFalse => cases h
      rename_i hg
      obtain ⟨rfl, rfl⟩ := hg
      simp only [Option.some.injEq] at h
      subst h
      refine OpOk.same fun e a w hR hc => ?_
      obtain ⟨hc1, hc2⟩ := hc
      have h1 := hR.opnd x
      rw [hx] at h1
      obtain ⟨_, h5, _⟩ : (∃ r', σ.row tt = some r' ∧ r.gen ≤ r'.gen) ∧ a.eval x = e.rv tt r.gen ∧ _ := h1
      have h3 := hR.opnd i
      rw [hi] at h3
      have h4 := of_val h3
      obtain ⟨hs, cells, k1, k2, k3⟩ := hR.hp.rows tt r hr
      rcases k1.2 with ⟨_, k5⟩ | ⟨gg, cap, cur, k4, k5, k6, k7, k8, k9, k10⟩
      · omega
      · have hnn : n < (r.xs.length : Int) := hc2
        refine ⟨.pointer (some ⟨gg, n.toNat * r.sz, none⟩), ?_, r, gg, hr, Nat.le_refl _, by rw [k4]; rfl, by rw [Nat.add_zero]⟩
        simp [execOp, ho, h5, k4, h4, Sem.run_bind, Instr.indexAt, asIntOf, run_underlying hu w, hc1, hnn, run_sizeOf' hm w, add_lit]
    · cases h
  · rename_i len el hu
    split at h
    · rename_i m β q k n hm hx hi
      simp only [Option.some.injEq] at h
      subst h
      refine OpOk.same fun e a w hR hc => ?_
      obtain ⟨hc1, hc2⟩ := hc
      have h1 := hR.opnd x
      rw [hx] at h1
      obtain ⟨h2, h5⟩ : (σ.box β).isSome = true ∧ a.eval x = .pointer (some ⟨e.m β, q, none⟩) := h1
      have h3 := hR.opnd i
      rw [hi] at h3
      have h4 := of_val h3
      refine ⟨.pointer (some ⟨e.m β, q + n.toNat * m, none⟩), ?_, h2, rfl⟩
      simp [execOp, ho, h5, h4, Sem.run_bind, Instr.indexAt, Instr.sureAddr, asIntOf, run_underlying hu w, hc1, hc2, run_sizeOf' hm w, add_lit]
    · cases h
  · cases h
end Go.Proofs.YtngbpbncipjimaaDoor.AM
