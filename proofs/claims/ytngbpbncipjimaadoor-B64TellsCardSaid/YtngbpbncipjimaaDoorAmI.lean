/- What the plain machine does at an operation: appends, operators. -/
import Derived.Test.YtngbpbncipjimaaDoorAmH
namespace Go.Proofs.YtngbpbncipjimaaDoor.AM
open Go.RowKit
set_option linter.unusedVariables false
set_option linter.unusedSimpArgs false
variable {F : Fr} {σ : St} {e : Env} {a : Act} {w : World} {P : Program}

theorem all2_flatten {α β : Type} {r : α → β → Prop} : ∀ {L : List (List α)} {M : List (List β)}, All2 (All2 r) L M → All2 r L.flatten M.flatten
  | [], [], _ => trivial
  | _ :: _, _ :: _, h => by rw [List.flatten_cons, List.flatten_cons]; exact h.1.append (all2_flatten h.2)
  | [], _ :: _, h => h.elim
  | _ :: _, [], h => h.elim
/-- a list that is appended -/
def srcOf (m : Nat) (x : D) (rw : Nat → Option Row) : Option (List (List Dat)) := match x with
  | .one (.c (.d (.lst sz xs))) => if sz = m then some xs else none
  | .one (.c (.d (.v (.slice none 0 0)))) => some []
  | .one (.c (.row t g)) => match rw t with
    | some r => if r.gen = g ∧ r.sz = m then some r.xs else none
    | none => none
  | _ => none
theorem src_ok {m : Nat} {x : Operand} {ys : List (List Dat)} (hR : R F σ e a w) (h : srcOf m (opnd σ x) σ.row = some ys) :
    (∀ y ∈ ys, y.length = m) ∧ ∃ news : List Value, All2 (DatRep e.Pc w) news ys.flatten ∧ (∀ u ∈ news, u.oneCell' = true) ∧
      ((∃ ad c, a.eval x = .slice (some ad) ys.length c ∧ ∀ j u, news[j]? = some u → w.cell? (ad.add j) = some u) ∨ (∃ c, a.eval x = .slice none ys.length c ∧ ys.length = 0)) := by
  have h1 := hR.opnd x
  unfold srcOf at h
  split at h
  · rename_i sz xs hx
    split at h
    case isFalse => cases h
    rename_i hsz
    subst hsz
    simp only [Option.some.injEq] at h
    subst h
    rw [hx] at h1
    have h1' : DatRep e.Pc w (a.eval x) (.lst sz xs) := h1
    generalize hv : a.eval x = v at h1'
    cases h1' with
    | lst aa nn cap _ _ b off c hn hcap hmax hs ha hcc hr =>
      refine ⟨hs, ?_⟩
      have hLs : ∀ y ∈ (List.range xs.length).map (fun k => (List.range sz).map (c k)), y.length = sz := fun y hy => by
        obtain ⟨k, _, rfl⟩ := List.mem_map.1 hy
        simp
      have hLl := flatten_len _ hLs
      simp only [List.length_map, List.length_range] at hLl
      refine ⟨((List.range xs.length).map fun k => (List.range sz).map (c k)).flatten, all2_flatten (All2.mk (by simp) (fun k hk hk' => ?_)), ?_, ?_⟩
      · simp only [List.getElem_map, List.getElem_range]
        have hxl := hs _ (List.getElem_mem hk')
        refine All2.mk (by simp [hxl]) (fun j hj hj' => ?_)
        simp only [List.getElem_map, List.getElem_range]
        exact hr k j hk' hj'
      · intro u hu
        obtain ⟨l, hl, hu⟩ := List.mem_flatten.1 hu
        obtain ⟨k, hk, rfl⟩ := List.mem_map.1 hl
        obtain ⟨j, hj, rfl⟩ := List.mem_map.1 hu
        exact (hcc k j (List.mem_range.1 hk) (List.mem_range.1 hj)).2.2
      · subst hn
        by_cases h0 : xs.length = 0
        · cases aa with
          | none => exact Or.inr ⟨cap, rfl, h0⟩
          | some ad =>
            refine Or.inl ⟨ad, cap, rfl, fun j u hj => ?_⟩
            rw [List.getElem?_eq_none (by rw [hLl, h0]; omega)] at hj
            cases hj
        · rw [ha (by omega)]
          refine Or.inl ⟨_, cap, rfl, fun j u hj => ?_⟩
          obtain ⟨hlt, hju⟩ := List.getElem?_eq_some_iff.1 hj
          rw [hLl] at hlt
          have hs0 : 0 < sz := by
            rcases Nat.eq_zero_or_pos sz with hz | hz
            · rw [hz] at hlt; omega
            · exact hz
          have hk : j / sz < xs.length := Nat.div_lt_of_lt_mul (by rw [Nat.mul_comm]; exact hlt)
          have hm := Nat.mod_lt j hs0
          have hjj : j = j / sz * sz + j % sz := by rw [Nat.mul_comm]; exact (Nat.div_add_mod j sz).symm
          have := flatten_get _ hLs (j / sz) (j % sz) (by simpa using hk) hm
          rw [← hjj, hj] at this
          simp only [List.getElem_map, List.getElem_range] at this
          rw [List.getElem?_eq_getElem (by simpa using hm)] at this
          simp only [List.getElem_map, List.getElem_range, Option.some.injEq] at this
          subst this
          rw [add_lit]
          have h3 := (hcc (j / sz) (j % sz) hk hm).2.1
          rw [show off + j = off + j / sz * sz + j % sz from by omega]
          exact h3
  · rename_i hx
    simp only [Option.some.injEq] at h
    subst h
    rw [hx] at h1
    refine ⟨fun y hy => (by cases hy), [], trivial, fun u hu => (by cases hu), Or.inr ⟨0, of_val h1, rfl⟩⟩
  · rename_i t g hx
    split at h
    case h_2 => cases h
    rename_i r hr
    split at h
    case isFalse => cases h
    rename_i hg
    obtain ⟨rfl, rfl⟩ := hg
    simp only [Option.some.injEq] at h
    subst h
    rw [hx] at h1
    obtain ⟨_, h5, _⟩ : (∃ r', σ.row t = some r' ∧ r.gen ≤ r'.gen) ∧ a.eval x = e.rv t r.gen ∧ _ := h1
    obtain ⟨hs, cells, k1, k2, k3⟩ := hR.hp.rows t r hr
    refine ⟨hs, cells, k2, k3, ?_⟩
    rcases k1.2 with ⟨h4, h6⟩ | ⟨gg, cap, cur, h4, _⟩
    · exact Or.inr ⟨0, by rw [h5, h4, h6], h6⟩
    · exact Or.inl ⟨⟨gg, 0, none⟩, cap, by rw [h5, h4], fun j u hj => k1.cells (g := gg) (by rw [h4]; rfl) j u hj⟩
  · cases h

def elInfo (P : Program) (el : TypeId) : Option (Nat × Nat) := match P.info? el with
  | some i => match i.zero with
    | some z => if z.cells.size = i.size ∧ 0 < i.size ∧ 0 < i.bytes ∧ el < 1099511627776 then some (i.size, i.bytes) else none
    | none => none
  | none => none
def evAppend (P : Program) (dst : Option Nat) (t : TypeId) (s x : D) (rw : Nat → Option Row) : Option Res := match P.underlying t with
  | some (.slice el) => match elInfo P el with
    | some (m, bytes) => match srcOf m x rw with
      | some ys => match s with
        | .one (.c (.row tt g)) => match rw tt with
          | some r => if r.gen = g ∧ r.sz = m ∧ r.E = el then some { cond := (r.xs.length + ys.length) * bytes ≤ 140737488355328, val := .one (.c (.row tt (g + 1))), row := some (tt, { r with gen := g + 1, xs := r.xs ++ ys }) } else none
          | none => none
        | .one (.c (.d (.v (.slice none 0 0)))) => match dst with
          | some i => match rw i with
            | none => some { cond := ys.length * bytes ≤ 140737488355328, val := .one (.c (.row i 0)), row := some (i, ⟨0, el, m, true, ys⟩) }
            | some _ => none
          | none => none
        | _ => none
      | none => none
    | none => none
  | _ => none
theorem own_form {base E size n : Nat} {v : Value} {xs : List Value} (h : ownsX w base E size v n xs) : ∃ a k c, v = .slice a k c := by
  rcases h.2 with ⟨h1, _⟩ | ⟨g, cap, cur, h1, _⟩ <;> exact ⟨_, _, _, h1⟩
theorem ok_append {o : Oper} {t : TypeId} {s x : Operand} {res : Res} (ho : o.op = .call { callee := .builtin .append, args := #[s, x], argTypes := #[t, t] }) (h : evAppend P o.dst t (opnd σ s) (opnd σ x) σ.row = some res) : OpOk P F o σ res := by
  unfold evAppend at h
  split at h
  case h_2 => cases h
  rename_i el hu
  split at h
  case h_2 => cases h
  rename_i m bytes hel
  unfold elInfo at hel
  split at hel
  case h_2 => cases hel
  rename_i i hi
  split at hel
  case h_2 => cases hel
  rename_i z hz
  split at hel
  case isFalse => cases hel
  rename_i hsz
  obtain ⟨hz1, hz2, hz3, hz4⟩ := hsz
  simp only [Option.some.injEq, Prod.mk.injEq] at hel
  obtain ⟨hm, hby⟩ := hel
  split at h
  case h_2 => cases h
  rename_i ys hys
  split at h
  · rename_i tt g hs
    split at h
    case h_2 => cases h
    rename_i r hr
    split at h
    case isFalse => cases h
    rename_i hg
    obtain ⟨rfl, hrm, hrE⟩ := hg
    simp only [Option.some.injEq] at h
    subst h
    intro e a w hR hc
    have hc' : (r.xs.length + ys.length) * bytes ≤ 140737488355328 := hc
    obtain ⟨hy1, news, hy2, hy3, hy4⟩ := src_ok hR hys
    have h1 := hR.opnd s
    rw [hs] at h1
    obtain ⟨_, h5, _⟩ : (∃ r', σ.row tt = some r' ∧ r.gen ≤ r'.gen) ∧ a.eval s = e.rv tt r.gen ∧ _ := h1
    obtain ⟨hss, cells, k1, k2, k3⟩ := hR.hp.rows tt r hr
    have hnl : news.length = ys.length * m := by rw [hy2.length, flatten_len ys hy1]
    have hlen : r.xs.length + ys.length ≤ 140737488355328 := Nat.le_trans (Nat.le_mul_of_pos_right _ (by omega)) hc'
    subst hrE
    obtain ⟨v', w', g1, g2, g3, g4, g5⟩ := append_more (P := P) w F.w0.heap.size t o.type r.E i z m bytes hu hi hz hm hby (by omega) (by omega) (e.rv tt r.gen) r.xs.length cells (by rw [← hrm]; exact (ownsX_iff hz4).1 k1) (a.eval x) ys.length news hy4 hnl hy3 (by unfold maxLen; omega) hc' hR.hp.sizeLe
    obtain ⟨hf, hh⟩ := hR.hp.rowNext (w' := w') tt { r with gen := r.gen + 1, xs := r.xs ++ ys } (e.rv tt r.gen) v' (cells ++ news)
      (Or.inl ⟨r, hr, rfl, rfl, fun hw => ⟨hw, Nat.mul_le_mul_right _ (by rw [List.length_append]; omega)⟩, Or.inr rfl⟩)
      (fun y hy => by
        rcases List.mem_append.1 hy with hy | hy
        · exact hss y hy
        · exact (hy1 y hy).trans hrm.symm)
      (by show ownsX w' _ r.E r.sz v' (r.xs ++ ys).length _; rw [List.length_append, hrm]; exact (ownsX_iff hz4).2 g2) g3
      (fun r2 hr2 _ gg oo hg ho => by rw [hr] at hr2; cases hr2; exact g4 gg oo hg (by rw [← hrm]; exact ho)) g5
      (by rw [List.flatten_append]; exact k2.append hy2) (fun u hu => by
        rcases List.mem_append.1 hu with hu | hu
        · exact k3 u hu
        · exact hy3 u hu)
    refine ⟨v', w', _, .inl ?_, hf, hh, ⟨⟨_, upd_same _ _ _, Nat.le_refl _⟩, (upd2_same _ _ _ _).symm, own_form ((ownsX_iff hz4).2 g2)⟩⟩
    simp [execOp, ho, resolve, invoke, builtin, h5, g1]
  · rename_i hs
    split at h
    case h_2 => cases h
    rename_i d hd
    split at h
    case h_2 => cases h
    rename_i hr
    simp only [Option.some.injEq] at h
    subst h
    intro e a w hR hc
    have hc' : ys.length * bytes ≤ 140737488355328 := hc
    obtain ⟨hy1, news, hy2, hy3, hy4⟩ := src_ok hR hys
    have h1 := hR.opnd s
    rw [hs] at h1
    have h5 := of_val h1
    have hnl : news.length = ys.length * m := by rw [hy2.length, flatten_len ys hy1]
    have hlen : ys.length ≤ 140737488355328 := Nat.le_trans (Nat.le_mul_of_pos_right _ (by omega)) hc'
    obtain ⟨v', w', g1, g2, g3, g4, g5⟩ := append_more (P := P) w F.w0.heap.size t o.type el i z m bytes hu hi hz hm hby (by omega) (by omega) (.slice none 0 0) 0 [] (World.ownsRow_nil _ _ _ _) (a.eval x) ys.length news hy4 hnl hy3 (by unfold maxLen; omega) (by rw [Nat.zero_add]; exact hc') hR.hp.sizeLe
    rw [Nat.zero_add, List.nil_append] at g2
    obtain ⟨hf, hh⟩ := hR.hp.rowNext (w' := w') d ⟨0, el, m, true, ys⟩ (.slice none 0 0) v' news (Or.inr ⟨hr, rfl⟩) hy1 ((ownsX_iff hz4).2 g2) g3
      (fun r2 hr2 => by rw [hr] at hr2; cases hr2) g5 hy2 hy3
    refine ⟨v', w', _, .inl ?_, hf, hh, ⟨⟨_, upd_same _ _ _, Nat.le_refl _⟩, (upd2_same _ _ _ _).symm, own_form ((ownsX_iff hz4).2 g2)⟩⟩
    simp [execOp, ho, resolve, invoke, builtin, h5, g1]
  · cases h

/-! operators -/
def intBin (op : BinOp) (k : IntKind) (x y : Int) : Option (Prop × Value) := match op with
  | .add => some (True, .int k (k.wrap (x + y)))
  | .sub => some (True, .int k (k.wrap (x - y)))
  | .mul => some (True, .int k (k.wrap (x * y)))
  | .quo => some (y ≠ 0, .int k (k.wrap (x.tdiv y)))
  | .rem => some (y ≠ 0, .int k (x.tmod y))
  | .and => some (True, .int k (k.wrap (BitVec.ofInt k.bits x &&& BitVec.ofInt k.bits y).toNat))
  | .or => some (True, .int k (k.wrap (BitVec.ofInt k.bits x ||| BitVec.ofInt k.bits y).toNat))
  | .xor => some (True, .int k (k.wrap (BitVec.ofInt k.bits x ^^^ BitVec.ofInt k.bits y).toNat))
  | .eql => some (True, .bool (decide (x = y)))
  | .neq => some (True, .bool (!decide (x = y)))
  | .lss => some (True, .bool (decide (x < y)))
  | .leq => some (True, .bool (decide (x ≤ y)))
  | .gtr => some (True, .bool (decide (y < x)))
  | .geq => some (True, .bool (decide (y ≤ x)))
  | _ => none
theorem run_intBin {op : BinOp} {T : TypeId} {k : IntKind} {x y : Int} {c : Prop} {v : Value} (h : intBin op k x y = some (c, v)) (hc : c) (w : World) : (binOp op T (.int k x) (.int k y)).run P w = .ok v w := by
  cases op <;> simp only [intBin, Option.some.injEq, Prod.mk.injEq, reduceCtorEq] at h <;> obtain ⟨rfl, rfl⟩ := h <;>
    first
      | rfl
      | (simp [binOp, Op.intArith, Op.intDiv, Op.intBits, Op.intCmp, hc]; done)
      | (simp only [binOp, ne_eq, not_true_eq_false, if_false, Op.intCmp, Sem.run_pure]; first | rfl | (congr 2; exact Bool.eq_iff_iff.2 (by simp)))
theorem bytes_toList {x y : ByteArray} : (x.toList == y.toList) = decide (x = y) := by
  rw [Bool.eq_iff_iff]
  simp only [beq_iff_eq, decide_eq_true_eq]
  constructor
  · intro h
    have hx : ∀ z : ByteArray, z.toList = z.data.toList := fun z => ByteArray.toList_eq ..
    rw [hx, hx] at h
    cases x; cases y
    simp only [ByteArray.mk.injEq]
    exact Array.toList_inj.1 h
  · intro h; rw [h]
end Go.Proofs.YtngbpbncipjimaaDoor.AM
