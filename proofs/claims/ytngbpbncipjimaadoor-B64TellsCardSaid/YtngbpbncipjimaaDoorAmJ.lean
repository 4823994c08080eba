/- What the plain machine does at an operation: operators, conversions; all operations together. -/
import Derived.Lib.ConvBytes
import Derived.Laws.BytesString
import Derived.Deep.OwnRows
import Derived.Lib.MinMax
import Derived.Test.YtngbpbncipjimaaDoorAmI
namespace Go.Proofs.YtngbpbncipjimaaDoor.AM
open Go.RowKit
set_option linter.unusedVariables false
set_option linter.unusedSimpArgs false
variable {F : Fr} {σ : St} {e : Env} {a : Act} {w : World} {P : Program}

def strBin (op : BinOp) (x y : ByteArray) : Option (Prop × Value) := match op with
  | .add => some (x.size + y.size ≤ 9223372036854775807, .string (x ++ y))
  | .eql => some (True, .bool (decide (x = y)))
  | .neq => some (True, .bool (!decide (x = y)))
  | .lss => some (True, .bool (Op.bytesLess x.toList y.toList))
  | .leq => some (True, .bool (Op.bytesLess x.toList y.toList || decide (x = y)))
  | .gtr => some (True, .bool (!(Op.bytesLess x.toList y.toList || decide (x = y))))
  | .geq => some (True, .bool (!Op.bytesLess x.toList y.toList))
  | _ => none
theorem run_strBin {op : BinOp} {T : TypeId} {x y : ByteArray} {c : Prop} {v : Value} (h : strBin op x y = some (c, v)) (hc : c) (w : World) : (binOp op T (.string x) (.string y)).run P w = .ok v w := by
  cases op <;> simp only [strBin, Option.some.injEq, Prod.mk.injEq, reduceCtorEq] at h <;> obtain ⟨rfl, rfl⟩ := h
  case add =>
    have : ¬ (((x.size + y.size : Nat) : Int) > IntKind.i64.max) := by
      have e : IntKind.i64.max = 9223372036854775807 := by decide
      rw [e]; omega
    simp only [binOp, Op.stringOp, this, if_false, Sem.run_pure]
  all_goals simp only [binOp, Op.stringOp, bytes_toList, Sem.run_pure]
def shiftV (op : BinOp) (k : IntKind) (x y : Int) : Option (Prop × Value) := match op with
  | .shl => some (0 ≤ y, .int k (k.wrap (x * 2 ^ (min y.toNat k.bits))))
  | .shr => some (0 ≤ y, .int k (x.fdiv (2 ^ (min y.toNat k.bits))))
  | _ => none
theorem run_shiftV {op : BinOp} {T : TypeId} {k k' : IntKind} {x y : Int} {c : Prop} {v : Value} (h : shiftV op k x y = some (c, v)) (hc : c) (w : World) : (binOp op T (.int k x) (.int k' y)).run P w = .ok v w := by
  cases op <;> simp only [shiftV, Option.some.injEq, Prod.mk.injEq, reduceCtorEq] at h <;> obtain ⟨rfl, rfl⟩ := h
  all_goals
    have hc' : ¬ y < 0 := by have : 0 ≤ y := hc; omega
    simp only [binOp, Op.shift, hc', if_false, Sem.run_pure]
/-- the equality of two scalars of a type -/
def eqV (P : Program) (t : TypeId) (x y : Value) : Option Bool := match P.underlying t, x, y with
  | some .bool, .bool a, .bool b => some (decide (a = b))
  | some (.int _), .int k a, .int k' b => if k = k' then some (decide (a = b)) else none
  | some .string, .string a, .string b => some (decide (a = b))
  | _, _, _ => none
theorem run_eqV {t : TypeId} {x y : Value} {b : Bool} (h : eqV P t x y = some b) (d : Nat) (w : World) : (Op.equalIn (d + 1) t x y).run P w = .ok b w := by
  unfold eqV at h
  split at h
  · rename_i a b' hu
    simp only [Option.some.injEq] at h; subst h
    simp only [Op.equalIn, Sem.run_bind, run_underlying hu w, Result.andThen_ok, Sem.run_pure]
    cases a <;> cases b' <;> rfl
  · rename_i k a k' b' hu
    split at h
    case isFalse => cases h
    rename_i hk
    subst hk
    simp only [Option.some.injEq] at h; subst h
    simp only [Op.equalIn, Sem.run_bind, run_underlying hu w, Result.andThen_ok, Sem.run_pure, if_true]
    rfl
  · rename_i a b' hu
    simp only [Option.some.injEq] at h; subst h
    simp only [Op.equalIn, Sem.run_bind, run_underlying hu w, Result.andThen_ok, Sem.run_pure]
    congr 1
    have e1 : (a == b') = (a.data == b'.data) := rfl
    rw [e1, Bool.eq_iff_iff]
    simp only [beq_iff_eq, decide_eq_true_eq]
    exact ⟨fun h => by cases a; cases b'; simp only [ByteArray.mk.injEq]; exact h, fun h => by rw [h]⟩
  · cases h
/-- the equality of two structs of scalars: field by field -/
def eqFs (P : Program) : List Field → List Value → List Value → Option Bool
  | [], _, _ => some true
  | f :: fs, xs, ys => if f.name = "_" then none else match xs[f.offset]?, ys[f.offset]?, aggD P f.type with
    | some x, some y, some false => match eqV P f.type x y, eqFs P fs xs ys with
      | some b, some c => some (b && c)
      | _, _ => none
    | _, _, _ => none
def vals : List C → Option (List Value)
  | [] => some []
  | .d (.v x) :: cs => (vals cs).map (x :: ·)
  | _ :: _ => none
theorem vals_ok : ∀ {us : List Value} {cs : List C} {xs : List Value}, All2 (CRep e σ w) us cs → vals cs = some xs → us = xs
  | [], [], xs, _, h => by simp only [vals, Option.some.injEq] at h; exact h
  | u :: us, c :: cs, xs, h, hv => by
    unfold vals at hv
    split at hv
    · rename_i hh; cases hh
    · rename_i x cs' hh
      simp only [List.cons.injEq] at hh
      obtain ⟨rfl, rfl⟩ := hh
      obtain ⟨ys, hy, rfl⟩ := Option.map_eq_some_iff.1 hv
      rw [vals_ok h.2 hy, of_valC h.1]
    · cases hv
  | [], _ :: _, _, h, _ => h.elim
  | _ :: _, [], _, h, _ => h.elim
/-- the equality of structs -/
def eqStruct (P : Program) (t : TypeId) (xs ys : List C) : Option Bool := match P.underlying t, vals xs, vals ys with
  | some (.struct fs), some us, some vs => if P.stoodInHeld t = false ∧ P.eqGuardType P.depth t = false then eqFs P fs.toList us vs else none
  | _, _, _ => none
theorem run_eqStruct {t : TypeId} {xs ys : List C} {us vs : Array Value} {b : Bool} (hx : All2 (CRep e σ w) us.toList xs) (hy : All2 (CRep e σ w) vs.toList ys) (h : eqStruct P t xs ys = some b) (x y : Operand) :
    (do eqGuard .eql t x y (.agg us) (.agg vs); pure (Value.bool (← Op.equal t (.agg us) (.agg vs))) : Sem Value).run P w = .ok (.bool b) w ∧ P.eqGuardType P.depth t = false ∧ (Op.equal t (.agg us) (.agg vs)).run P w = .ok b w := by
  unfold eqStruct at h
  split at h
  case h_2 => cases h
  rename_i fs us' vs' hu hus hvs
  split at h
  case isFalse => cases h
  rename_i hc
  obtain ⟨hc1, hc2⟩ := hc
  have e1 := vals_ok hx hus
  have e2 := vals_ok hy hvs
  subst e1 e2
  have heq : (Op.equal t (.agg us) (.agg vs)).run P w = .ok b w := by
    unfold Op.equal Op.maxDepth
    unfold Op.equalIn
    have hp : (program).run P w = .ok P w := rfl
    simp only [Sem.run_bind, run_underlying hu w, Result.andThen_ok, hp, hc1, Bool.false_eq_true, if_false]
    rw [← Array.forIn_toList]
    generalize fs.toList = L at h ⊢
    clear hp hx hy hus hvs hu
    induction L generalizing b with
    | nil =>
      simp only [eqFs, Option.some.injEq] at h
      subst h
      simp
    | cons f fs ih =>
      unfold eqFs at h
      split at h
      case isTrue => cases h
      rename_i hname
      split at h
      case h_2 => cases h
      rename_i x y hx hy ha
      split at h
      case h_2 => cases h
      rename_i b1 b2 hb1 hb2
      simp only [Option.some.injEq] at h
      subst h
      rw [Array.getElem?_toList] at hx hy
      have p1 : (part f.type us f.offset).run P w = .ok x w := by simp [part, Sem.run_bind, run_isAgg' ha w, hx]
      have p2 : (part f.type vs f.offset).run P w = .ok y w := by simp [part, Sem.run_bind, run_isAgg' ha w, hy]
      have p3 := run_eqV hb1 9998 w
      have := ih hb2
      cases b1
      · simp [Sem.run_bind, hname, p1, p2, p3]
      · simp [Sem.run_bind, hname, p1, p2, p3]
        simpa [Sem.run_bind] using this
  refine ⟨?_, hc2, heq⟩
  simp [eqGuard, Sem.run_bind, hc2, heq]

/-- whatever a slot holds may be read as a struct: its cells -/
def evBin (P : Program) (op : BinOp) (T : TypeId) (x y : D) : Option Res := match x, y with
  | .one (.c (.d (.v (.int k a)))), .one (.c (.d (.v (.int k' b)))) => match op with
    | .shl | .shr => (shiftV op k a b).map fun (c, v) => { cond := c, val := valD v }
    | _ => if k = k' then (intBin op k a b).map fun (c, v) => { cond := c, val := valD v } else none
  | .one (.c (.d (.v (.string a)))), .one (.c (.d (.v (.string b)))) => (strBin op a b).map fun (c, v) => { cond := c, val := valD v }
  | .one (.c (.d (.v (.bool a)))), .one (.c (.d (.v (.bool b)))) => match op with
    | .eql => (eqV P T (.bool a) (.bool b)).map fun v => { cond := True, val := valD (.bool v) }
    | .neq => (eqV P T (.bool a) (.bool b)).map fun v => { cond := True, val := valD (.bool (!v)) }
    | _ => none
  | .one (.agg xs), .one (.agg ys) => match op with
    | .eql => (eqStruct P T xs ys).map fun v => { cond := True, val := valD (.bool v) }
    | .neq => (eqStruct P T xs ys).map fun v => { cond := True, val := valD (.bool (!v)) }
    | _ => none
  | _, _ => none
theorem ok_bin {o : Oper} {op : BinOp} {T T' : TypeId} {x y : Operand} {res : Res} (ho : o.op = .binOp op T x y T') (h : evBin P op T (opnd σ x) (opnd σ y) = some res) : OpOk P F o σ res := by
  unfold evBin at h
  split at h
  · rename_i k a1 k' b1 hx hy
    have main : ∀ {c : Prop} {v : Value} (_ : ∀ w, c → (binOp op T (.int k a1) (.int k' b1)).run P w = .ok v w), OpOk P F o σ { cond := c, val := valD v } := fun {c v} hrun => by
      refine OpOk.same fun e a w hR hc => ⟨v, ?_, drep_val _⟩
      have h1 := hR.opnd x
      have h2 := hR.opnd y
      rw [hx] at h1; rw [hy] at h2
      have hr := hrun w hc
      cases op <;> simp [execOp, ho, of_val h1, of_val h2, eqGuard, hr]
    split at h
    · obtain ⟨⟨c, v⟩, h1, rfl⟩ := Option.map_eq_some_iff.1 h
      exact main fun w hc => run_shiftV h1 hc w
    · obtain ⟨⟨c, v⟩, h1, rfl⟩ := Option.map_eq_some_iff.1 h
      exact main fun w hc => run_shiftV h1 hc w
    · split at h
      case isFalse => cases h
      rename_i hk
      subst hk
      obtain ⟨⟨c, v⟩, h1, rfl⟩ := Option.map_eq_some_iff.1 h
      exact main fun w hc => run_intBin h1 hc w
  · rename_i a1 b1 hx hy
    obtain ⟨⟨c, v⟩, h1, rfl⟩ := Option.map_eq_some_iff.1 h
    refine OpOk.same fun e a w hR hc => ⟨v, ?_, drep_val _⟩
    have g1 := hR.opnd x
    have g2 := hR.opnd y
    rw [hx] at g1; rw [hy] at g2
    have hr := run_strBin (P := P) (T := T) h1 hc w
    cases op <;> simp [execOp, ho, of_val g1, of_val g2, eqGuard, hr]
  · rename_i a1 b1 hx hy
    split at h
    · obtain ⟨v, h1, rfl⟩ := Option.map_eq_some_iff.1 h
      refine OpOk.same fun e a w hR hc => ⟨.bool v, ?_, drep_val _⟩
      have g1 := hR.opnd x
      have g2 := hR.opnd y
      rw [hx] at g1; rw [hy] at g2
      have hr := run_eqV h1 9999 w
      simp [execOp, ho, of_val g1, of_val g2, eqGuard, binOp, Op.equal, Op.maxDepth, hr]
    · obtain ⟨v, h1, rfl⟩ := Option.map_eq_some_iff.1 h
      refine OpOk.same fun e a w hR hc => ⟨.bool (!v), ?_, drep_val _⟩
      have g1 := hR.opnd x
      have g2 := hR.opnd y
      rw [hx] at g1; rw [hy] at g2
      have hr := run_eqV h1 9999 w
      simp [execOp, ho, of_val g1, of_val g2, eqGuard, binOp, Op.equal, Op.maxDepth, hr]
    · cases h
  · rename_i xs ys hx hy
    split at h
    · obtain ⟨v, h1, rfl⟩ := Option.map_eq_some_iff.1 h
      refine OpOk.same fun e a w hR hc => ⟨.bool v, ?_, drep_val _⟩
      have g1 := hR.opnd x
      have g2 := hR.opnd y
      rw [hx] at g1; rw [hy] at g2
      obtain ⟨us, g3, g4⟩ := g1
      obtain ⟨vs, g5, g6⟩ := g2
      obtain ⟨_, r2, r3⟩ := run_eqStruct g4 g6 h1 x y
      simp [execOp, ho, g3, g5, Sem.run_bind, eqGuard, binOp, r2, r3]
    · obtain ⟨v, h1, rfl⟩ := Option.map_eq_some_iff.1 h
      refine OpOk.same fun e a w hR hc => ⟨.bool (!v), ?_, drep_val _⟩
      have g1 := hR.opnd x
      have g2 := hR.opnd y
      rw [hx] at g1; rw [hy] at g2
      obtain ⟨us, g3, g4⟩ := g1
      obtain ⟨vs, g5, g6⟩ := g2
      obtain ⟨_, r2, r3⟩ := run_eqStruct g4 g6 h1 x y
      simp [execOp, ho, g3, g5, Sem.run_bind, eqGuard, binOp, r2, r3]
    · cases h
  · cases h
def evUn (op : UnOp) (x : D) : Option Res := match op, x with
  | .not, .one (.c (.d (.v (.bool b)))) => some { cond := True, val := valD (.bool (!b)) }
  | .neg, .one (.c (.d (.v (.int k n)))) => some { cond := True, val := valD (.int k (k.wrap (0 - n))) }
  | _, _ => none
theorem ok_un {o : Oper} {op : UnOp} {T : TypeId} {x : Operand} {res : Res} (ho : o.op = .unOp op T x) (h : evUn op (opnd σ x) = some res) : OpOk P F o σ res := by
  unfold evUn at h
  split at h
  · rename_i b hx
    simp only [Option.some.injEq] at h; subst h
    refine OpOk.same fun e a w hR hc => ⟨.bool (!b), ?_, drep_val _⟩
    have h1 := hR.opnd x
    rw [hx] at h1
    simp [execOp, ho, of_val h1, Op.unary]
  · rename_i k n hx
    simp only [Option.some.injEq] at h; subst h
    refine OpOk.same fun e a w hR hc => ⟨.int k (k.wrap (0 - n)), ?_, drep_val _⟩
    have h1 := hR.opnd x
    rw [hx] at h1
    simp [execOp, ho, of_val h1, Op.unary, Op.intArith]
  · cases h
def evConv (P : Program) (src dst : TypeId) (x : D) : Option Res := match P.underlying src, P.underlying dst, x with
  | some _, some (.int k), .one (.c (.d (.v (.int _ n)))) => some { cond := True, val := valD (.int k (k.wrap n)) }
  | some .string, some .string, .one (.c (.d (.v (.string s)))) => some { cond := True, val := valD (.string s) }
  | _, _, _ => none
theorem ok_conv {o : Oper} {src dst : TypeId} {x : Operand} {res : Res} (ho : o.op = .convert src dst x) (h : evConv P src dst (opnd σ x) = some res) : OpOk P F o σ res := by
  unfold evConv at h
  split at h
  · rename_i ds k k' n hs hd hx
    simp only [Option.some.injEq] at h; subst h
    refine OpOk.same fun e a w hR hc => ⟨.int k (k.wrap n), ?_, drep_val _⟩
    have h1 := hR.opnd x
    rw [hx] at h1
    simp [execOp, ho, of_val h1, Sem.run_bind, convert, run_underlying hs w, run_underlying hd w, Conv.intToInt]
  · rename_i s hs hd hx
    simp only [Option.some.injEq] at h; subst h
    refine OpOk.same fun e a w hR hc => ⟨.string s, ?_, drep_val _⟩
    have h1 := hR.opnd x
    rw [hx] at h1
    simp [execOp, ho, of_val h1, Sem.run_bind, convert, run_underlying hs w, run_underlying hd w]
  · cases h
/-! bytes of a string, and back -/
def intsD : List (List Dat) → Option (List Int)
  | [] => some []
  | [.v (.int .u8 n)] :: r => (intsD r).map (n :: ·)
  | _ => none
theorem intsD_ok : ∀ {ys : List (List Dat)} {ns : List Int}, intsD ys = some ns → ys.flatten = ns.map fun n => Dat.v (.int .u8 n)
  | [], ns, h => by simp only [intsD, Option.some.injEq] at h; subst h; rfl
  | y :: r, ns, h => by
    unfold intsD at h
    split at h
    · rename_i heq; cases heq
    · rename_i n r' heq
      obtain ⟨rfl, rfl⟩ := List.cons.inj heq
      obtain ⟨ms, h1, rfl⟩ := Option.map_eq_some_iff.1 h
      rw [List.flatten_cons, intsD_ok h1]; rfl
    · cases h
def strOf (ns : List Int) : ByteArray := ns.foldl (fun r n => r.push (UInt8.ofNat n.toNat)) ByteArray.empty
def evConvRow (P : Program) (dst : Option Nat) (src d : TypeId) (x : D) (rw : Nat → Option Row) : Option Res := match P.underlying src, P.underlying d with
  | some (.slice e), some .string => match P.underlying e, (srcOf 1 x rw).bind intsD with
    | some (.int .u8), some ns => some { cond := True, val := valD (.string (strOf ns)) }
    | _, _ => none
  | some .string, some (.slice e) => match P.underlying e, x, dst with
    | some (.int .u8), .one (.c (.d (.v (.string s)))), some i => match rw i with
      | none => if e < 1099511627776 then some { cond := s.size ≤ maxLen, val := .one (.c (.row i 0)), row := some (i, ⟨0, e + 1099511627776, 1, true, s.data.toList.map fun b => [.v (.int .u8 b.toNat)]⟩) } else none
      | some _ => none
    | _, _, _ => none
  | _, _ => none
theorem all2_ints {Pc : Nat → Nat → Prop} {w : World} : ∀ {news : List Value} {ns : List Int}, All2 (DatRep Pc w) news (ns.map fun n => Dat.v (.int .u8 n)) → news = ns.map (Value.int .u8)
  | [], [], _ => rfl
  | v :: news, n :: ns, h => by
    have h1 : DatRep Pc w v (.v (.int .u8 n)) := h.1
    have h2 : v = .int .u8 n := by cases h1; rfl
    rw [h2, all2_ints (ns := ns) h.2]; rfl
  | [], _ :: _, h => h.elim
  | _ :: _, [], h => h.elim
theorem all2_bytes {Pc : Nat → Nat → Prop} {w : World} : ∀ (l : List UInt8), All2 (DatRep Pc w) (l.map fun b => Value.int .u8 b.toNat) ((l.map fun b => [Dat.v (.int .u8 b.toNat)]).flatten)
  | [] => trivial
  | b :: l => ⟨.v _, all2_bytes l⟩
theorem ok_convRow {o : Oper} {src d : TypeId} {x : Operand} {res : Res} (ho : o.op = .convert src d x) (h : evConvRow P o.dst src d (opnd σ x) σ.row = some res) : OpOk P F o σ res := by
  unfold evConvRow at h
  split at h
  · rename_i e hs hd
    split at h
    case h_2 => cases h
    rename_i ns he hns
    simp only [Option.some.injEq] at h; subst h
    obtain ⟨ys, hys, hi⟩ := Option.bind_eq_some_iff.1 hns
    refine OpOk.same fun ev a w hR hc => ⟨.string (strOf ns), ?_, drep_val _⟩
    obtain ⟨h1, news, h2, h3, h4⟩ := src_ok hR hys
    have h5 := intsD_ok hi
    have h6 := flatten_len ys h1
    rw [Nat.mul_one, h5, List.length_map] at h6
    rw [h5] at h2
    have h7 := all2_ints h2
    have hrun : (convert src d (a.eval x)).run P w = .ok (.string (strOf ns)) w := by
      rcases h4 with ⟨ad, c, hx, hcells⟩ | ⟨c, hx, h0⟩
      · rw [hx, run_convert_bytes_string w src d e (some ad) ys.length c hs he hd]
        have hl := run_loadCells_list (P := P) (w := w) ad news hcells
        rw [h7, List.length_map, h6] at hl
        exact run_bytesToString w ad ys.length c ns hl
      · rw [hx, run_convert_bytes_string w src d e none ys.length c hs he hd]
        rw [h0] at h6
        have hnil : ns = [] := List.eq_nil_of_length_eq_zero h6
        subst hnil
        rfl
    simp [execOp, ho, Sem.run_bind, hrun, Result.andThen]
  · rename_i e hs hd
    split at h
    case h_2 => cases h
    rename_i s i he hx hdst
    split at h
    case h_2 => cases h
    rename_i hrow
    split at h
    case isFalse => cases h
    rename_i hlt
    simp only [Option.some.injEq] at h; subst h
    intro ev a w hR hc
    have hc' : s.size ≤ maxLen := hc
    have h1 := hR.opnd x
    rw [hx] at h1
    have hrun := Lib.run_convert_string_bytes (P := P) w src d e s hs hd he
    have hge := grownCap_ge w s.size 0 e
    have hle := grownCap_le_maxLen w s.size 0 e hc'
    have hsz : (Lib.bytesCells w e s).size = grownCap w s.size 0 e := by
      unfold Lib.bytesCells
      have : s.data.size = s.size := rfl
      simp; omega
    have hE : tyOf (e + 1099511627776) = e := by unfold tyOf; rw [Nat.add_mod_right, Nat.mod_eq_of_lt hlt]
    have hF : ∀ n, fzOf (e + 1099511627776) n = (n, n + 1) := fun n => by unfold fzOf; rw [if_neg (by omega)]
    have hbs : s.data.toList.length = s.size := Array.length_toList
    have hown : ownsX (Lib.bytesWorld w e s) F.w0.heap.size (e + 1099511627776) 1 (.slice (some ⟨w.heap.size, 0, none⟩) s.size (grownCap w s.size 0 e)) s.size (s.data.toList.map fun b => Value.int .u8 b.toNat) := by
      refine ⟨by rw [List.length_map, hbs, Nat.mul_one], .inr ⟨w.heap.size, _, Lib.bytesCells w e s, rfl, hR.hp.sizeLe, ?_, hge, hle, by rw [hsz, Nat.mul_one], ?_⟩⟩
      · rw [hE, hF]; exact Lib.bytesWorld_at_new w e s
      · unfold Lib.bytesCells
        rw [Nat.mul_one, Array.toList_append, Array.toList_map, List.take_append_of_le_length (by rw [List.length_map, hbs]; exact Nat.le_refl _), List.take_of_length_le (by rw [List.length_map, hbs]; exact Nat.le_refl _)]
    have hgr : w.grownBy (Lib.bytesWorld w e s) none := by
      refine ⟨rfl, rfl, rfl, by rw [Lib.bytesWorld_size]; omega, fun k hk _ => Lib.bytesWorld_at_old w e s k hk⟩
    have hln : (s.data.toList.map fun b => [Dat.v (.int .u8 b.toNat)]).length = s.size := by rw [List.length_map, hbs]
    obtain ⟨hf, hh⟩ := hR.hp.rowNext (w' := Lib.bytesWorld w e s) i ⟨0, e + 1099511627776, 1, true, s.data.toList.map fun b => [.v (.int .u8 b.toNat)]⟩ (.slice none 0 0) (.slice (some ⟨w.heap.size, 0, none⟩) s.size (grownCap w s.size 0 e)) (s.data.toList.map fun b => Value.int .u8 b.toNat) (Or.inr ⟨hrow, rfl⟩)
      (fun y hy => by obtain ⟨b, _, rfl⟩ := List.mem_map.1 hy; rfl) (by rw [hln]; exact hown) hgr (fun r hr => by rw [hrow] at hr; cases hr) (fun b hb => Or.inr (Nat.le_of_eq (Option.some.inj hb)))
      (all2_bytes _) (fun u hu => by obtain ⟨b, _, rfl⟩ := List.mem_map.1 hu; rfl)
    refine ⟨_, _, _, .inl ?_, hf, hh, ⟨⟨_, upd_same _ _ _, Nat.le_refl _⟩, (upd2_same _ _ _ _).symm, _, _, _, rfl⟩⟩
    simp [execOp, ho, of_val h1, Sem.run_bind, hrun, Result.andThen]
  · cases h
/-! a pointer that is no nil; a part of a list of one's own, that is written no more -/
def evNil (x : D) : Option Res := match x with
  | .one (.c (.box β o)) => some { cond := True, val := .one (.c (.box β o)) }
  | .one (.c (.rp cs)) => some { cond := True, val := .one (.c (.rp cs)) }
  | .one (.c (.wp t g k o)) => some { cond := True, val := .one (.c (.wp t g k o)) }
  | _ => none
theorem ok_nil {o : Oper} {x : Operand} {res : Res} (ho : o.op = .nilCheck x) (h : evNil (opnd σ x) = some res) : OpOk P F o σ res := by
  unfold evNil at h
  split at h
  · rename_i β q hx
    simp only [Option.some.injEq] at h; subst h
    refine OpOk.same fun e a w hR _ => ?_
    have h1 := hR.opnd x
    rw [hx] at h1
    have h1' := h1
    obtain ⟨h2, h3⟩ : (σ.box β).isSome = true ∧ a.eval x = .pointer (some ⟨e.m β, q, none⟩) := h1
    exact ⟨a.eval x, by simp [execOp, ho, h3], h1'⟩
  · rename_i cs hx
    simp only [Option.some.injEq] at h; subst h
    refine OpOk.same fun e a w hR _ => ?_
    have h1 := hR.opnd x
    rw [hx] at h1
    have h1' := h1
    obtain ⟨b, q, h3, _⟩ : ∃ b o', a.eval x = .pointer (some ⟨b, o', none⟩) ∧ ∃ us : List Value, All2 (DatRep e.Pc w) us cs ∧ ∀ (j : Nat) (h : j < us.length), e.Pc b (o' + j) ∧ w.cell? ⟨b, o' + j, none⟩ = some us[j] ∧ (us[j]).oneCell' = true := h1
    exact ⟨a.eval x, by simp [execOp, ho, h3], h1'⟩
  · rename_i t g k q hx
    simp only [Option.some.injEq] at h; subst h
    refine OpOk.same fun e a w hR _ => ?_
    have h1 := hR.opnd x
    rw [hx] at h1
    have h1' := h1
    obtain ⟨r, b, _, _, _, h3⟩ : ∃ r b, σ.row t = some r ∧ g ≤ r.gen ∧ (e.rv t g).ownBlock = some b ∧ a.eval x = .pointer (some ⟨b, k * r.sz + q, none⟩) := h1
    exact ⟨a.eval x, by simp [execOp, ho, h3], h1'⟩
  · cases h
def evSliceRow (P : Program) (t : TypeId) (x : D) (lo hi : Option D) (rw : Nat → Option Row) : Option Res := match P.underlying t, x with
  | some (.slice el), .one (.c (.row tt g)) => match rw tt with
    | some r => match bnd 0 lo, bnd r.xs.length hi with
      | some l, some h => if r.gen = g ∧ tsz P el = some r.sz then some { cond := 0 ≤ l ∧ l ≤ h ∧ h ≤ r.xs.length, val := .one (.c (.d (.lst r.sz ((r.xs.drop l.toNat).take (h.toNat - l.toNat))))), row := some (tt, { r with wr := false }) } else none
      | _, _ => none
    | none => none
  | _, _ => none
theorem ok_sliceRow {o : Oper} {t : TypeId} {x : Operand} {lo hi : Option Operand} {res : Res} (ho : o.op = .slice t x lo hi none) (h : evSliceRow P t (opnd σ x) (lo.map (opnd σ)) (hi.map (opnd σ)) σ.row = some res) : OpOk P F o σ res := by
  unfold evSliceRow at h
  split at h
  case h_2 => cases h
  rename_i el tt g hu hx
  split at h
  case h_2 => cases h
  rename_i r hr
  split at h
  case h_2 => cases h
  rename_i l hh hl hhh
  split at h
  case isFalse => cases h
  rename_i hg
  obtain ⟨rfl, hsz⟩ := hg
  simp only [Option.some.injEq] at h
  subst h
  intro e a w hR hc
  obtain ⟨c1, c2, c3⟩ := hc
  have h1 := hR.opnd x
  rw [hx] at h1
  obtain ⟨_, h5, _⟩ : (∃ r', σ.row tt = some r' ∧ r.gen ≤ r'.gen) ∧ a.eval x = e.rv tt r.gen ∧ _ := h1
  obtain ⟨e', hf, hh'⟩ := hR.hp.freeze hr
  have hrow : ({ σ with row := upd σ.row tt (some { r with wr := false }) } : St).row tt = some { r with wr := false } := upd_same _ _ _
  have hdat := hh'.rowDat hrow rfl
  have hrv := (hf.row tt r r.gen hr (Nat.le_refl _)).2
  have hdat' : DatRep e'.Pc w (e.rv tt r.gen) (.lst r.sz r.xs) := by rw [← hrv]; exact hdat
  rw [← h5] at hdat'
  generalize hv : a.eval x = v at hdat'
  have hdat2 := hdat'
  cases hdat' with
  | lst aa nn cap _ _ b off c hn hcap hmax hs ha hcc hrr =>
    have hb := run_bounds (P := P) (isSlice := true) (len := nn) (cap := cap) hR hl (by rw [hn]; exact hhh) c1 c2 (by omega) hcap
    refine ⟨.slice (if cap = l.toNat then aa else aa.map (·.add (l.toNat * r.sz))) (hh.toNat - l.toNat) (cap - l.toNat), w, e', .inl ?_, hf, hh', ?_⟩
    · simp [execOp, ho, hv, Sem.run_bind, Instr.sliceAt, Instr.slice, run_underlying hu w, hb, run_sizeOf' hsz w]
    · exact dat_slice hdat2 (by omega)
/-! a list of n zeros -/
def sameOp : Operand → Operand → Bool
  | .tmp i, .tmp j => Nat.beq i j
  | .const (.int _ n), .const (.int _ m) => decide (n = m)
  | _, _ => false
def evMake (P : Program) (dst : Option Nat) (t : TypeId) (x : D) (rw : Nat → Option Row) : Option Res := match P.underlying t, dst, x with
  | some (.slice el), some i, .one (.c (.d (.v (.int _ n)))) => match rw i, (P.info? el).map (fun i => (i.zero, i.size, i.bytes)) with
    | none, some (some (Value.int k q), 1, b) => if 0 ≤ n ∧ n ≤ 16777216 ∧ b * n.toNat ≤ 281474976710656 ∧ el < 1099511627776 then
        some { cond := True, val := .one (.c (.row i 0)), row := some (i, ⟨0, el, 1, true, List.replicate n.toNat [.v (.int k q)]⟩) } else none
    | _, _ => none
  | _, _, _ => none
theorem sameOp_ok {x y : Operand} (h : sameOp x y = true) {k : IntKind} {n : Int} (hx : a.eval x = .int k n) : ∃ k', a.eval y = .int k' n := by
  unfold sameOp at h
  split at h
  · rename_i i j
    have : i = j := Nat.eq_of_beq_eq_true h
    subst this
    exact ⟨k, hx⟩
  · rename_i k1 n1 k2 n2
    have e := of_decide_eq_true h
    subst e
    have hx' : Value.int k1 n1 = .int k n := hx
    cases hx'
    exact ⟨k2, rfl⟩
  · cases h
theorem made_list (z : Value) (n : Nat) : (madeCells #[z] n).toList = List.replicate n z := by
  apply List.ext_getElem
  · simp [madeCells]
  · intro i h1 h2
    simp [madeCells, Nat.mod_one]
theorem ok_make {o : Oper} {t : TypeId} {x y : Operand} {res : Res} (ho : o.op = .makeSlice t x y) (hxy : sameOp x y = true) (h : evMake P o.dst t (opnd σ x) σ.row = some res) : OpOk P F o σ res := by
  unfold evMake at h
  split at h
  case h_2 => cases h
  rename_i el i kx n hu hd hx
  split at h
  case h_2 => cases h
  rename_i k q b hrow hinf
  split at h
  case isFalse => cases h
  rename_i hc
  obtain ⟨h0, h1, h2, h3⟩ := hc
  simp only [Option.some.injEq] at h; subst h
  intro e a w hR _
  have hv := hR.opnd x
  rw [hx] at hv
  have hv' : a.eval x = .int kx n := of_val hv
  obtain ⟨ky, hw'⟩ := sameOp_ok hxy hv'
  obtain ⟨m, rfl⟩ : ∃ m : Nat, n = (m : Int) := ⟨n.toNat, by omega⟩
  rw [Int.toNat_natCast] at h2
  have hrun := run_make_row' (P := P) t el (.int k q) b hu hinf rfl kx ky m h2 (by omega) w
  have hm := made_list (.int k q) m
  have hown : ownsX (w.alloc (.cells (madeCells #[.int k q] m) el)) F.w0.heap.size el 1 (.slice (some ⟨w.heap.size, 0, none⟩) m m) m (List.replicate m (.int k q)) :=
    (ownsX_iff h3).2 ⟨by simp, .inr ⟨w.heap.size, m, _, rfl, hR.hp.sizeLe, heap_alloc_new w _, Nat.le_refl _, by unfold maxLen; omega, by rw [size_madeCells, Nat.mul_one], by rw [hm, Nat.mul_one, List.take_of_length_le (by simp)]⟩⟩
  have hdd : ∀ m : Nat, All2 (DatRep e.Pc w) (List.replicate m (.int k q)) (List.replicate m [Dat.v (.int k q)]).flatten := by
    intro m
    have key : ∀ (w' : World) (j : Nat), All2 (DatRep e.Pc w') (List.replicate j (Value.int k q)) (List.replicate j [Dat.v (.int k q)]).flatten := by
      intro w' j
      induction j with
      | zero => exact trivial
      | succ j ih => rw [List.replicate_succ, List.replicate_succ, List.flatten_cons]; exact ⟨.v _, ih⟩
    exact key _ m
  obtain ⟨hf, hh⟩ := hR.hp.rowNext (w' := w.alloc (.cells (madeCells #[.int k q] m) el)) i ⟨0, el, 1, true, List.replicate m [.v (.int k q)]⟩ (.slice none 0 0) (.slice (some ⟨w.heap.size, 0, none⟩) m m) (List.replicate m (.int k q)) (Or.inr ⟨hrow, rfl⟩)
    (fun y hy => by rw [List.eq_of_mem_replicate hy]; rfl) (by rw [List.length_replicate]; exact hown) (World.grownBy_alloc w _ _) (fun r hr => by rw [hrow] at hr; cases hr) (fun b hb => Or.inr (Nat.le_of_eq (Option.some.inj hb)))
    (hdd m) (fun u hu => by rw [List.eq_of_mem_replicate hu]; rfl)
  refine ⟨.slice (some ⟨w.heap.size, 0, none⟩) m m, _, _, .inl ?_, hf, hh, ⟨⟨_, upd_same _ _ _, Nat.le_refl _⟩, (upd2_same _ _ _ _).symm, _, _, _, rfl⟩⟩
  simp [execOp, ho, hv', hw', hrun]
/-! the greater one, the lesser one of two numbers -/
def evMM (f : Int → Int → Int) (x y : D) : Option Res := match x, y with
  | .one (.c (.d (.v (.int k n)))), .one (.c (.d (.v (.int _ m)))) => some { cond := True, val := valD (.int k (f n m)) }
  | _, _ => none
theorem ok_max {o : Oper} {x y : Operand} {t t' : TypeId} {res : Res} (ho : o.op = .call { callee := .builtin .max, args := #[x, y], argTypes := #[t, t'] }) (h : evMM max (opnd σ x) (opnd σ y) = some res) : OpOk P F o σ res := by
  unfold evMM at h
  split at h
  case h_2 => cases h
  rename_i k n k' m hx hy
  simp only [Option.some.injEq] at h; subst h
  refine OpOk.same fun e a w hR hc => ⟨.int k (max n m), ?_, drep_val _⟩
  have h1 := hR.opnd x
  have h2 := hR.opnd y
  rw [hx] at h1
  rw [hy] at h2
  simp [execOp, ho, of_val h1, of_val h2, Sem.run_bind, resolve, invoke, builtin, Lib.run_max_ints]
theorem ok_min {o : Oper} {x y : Operand} {t t' : TypeId} {res : Res} (ho : o.op = .call { callee := .builtin .min, args := #[x, y], argTypes := #[t, t'] }) (h : evMM min (opnd σ x) (opnd σ y) = some res) : OpOk P F o σ res := by
  unfold evMM at h
  split at h
  case h_2 => cases h
  rename_i k n k' m hx hy
  simp only [Option.some.injEq] at h; subst h
  refine OpOk.same fun e a w hR hc => ⟨.int k (min n m), ?_, drep_val _⟩
  have h1 := hR.opnd x
  have h2 := hR.opnd y
  rw [hx] at h1
  rw [hy] at h2
  simp [execOp, ho, of_val h1, of_val h2, Sem.run_bind, resolve, invoke, builtin, Lib.run_min_ints]
end Go.Proofs.YtngbpbncipjimaaDoor.AM
