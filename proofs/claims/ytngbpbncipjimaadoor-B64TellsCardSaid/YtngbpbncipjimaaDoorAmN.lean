/- The plain machine's words as rules, and the steps of a walk over code. -/
import Derived.Test.YtngbpbncipjimaaDoorAmL
namespace Go.Proofs.YtngbpbncipjimaaDoor.AM
open Go.RowKit
set_option linter.unusedVariables false
set_option linter.unusedSimpArgs false
variable {F : Fr} {σ σ' : St} {P : Program} {x y c : Code} {Q : Exit → St → Prop} {next : St → Prop}
theorem acode_region_seq {id : Nat} {l : List Oper} (hn : opsOk F.n l.toArray = true) (h : AOps P F l.toArray l σ (fun σ' => ACode P F y σ' Q)) : ACode P F (.seq (.region id l.toArray false) y) σ Q := acode_seq (acode_region hn h)
theorem andThen_normal (h : next σ) : andThen next Q .normal σ := h
theorem andThen_exit {id : Nat} (h : Q (.exit id) σ) : andThen next Q (.exit id) σ := h
theorem andThen_ret (h : Q .ret σ) : andThen next Q .ret σ := h
theorem inBlock_normal {id : Nat} (h : Q .normal σ) : inBlock id Q .normal σ := h
theorem inBlock_ret {id : Nat} (h : Q .ret σ) : inBlock id Q .ret σ := h
theorem inBlock_same {id : Nat} (h : Q .normal σ) : inBlock id Q (.exit id) σ := by show if id = id then _ else _; rw [if_pos rfl]; exact h
theorem inBlock_other {id id' : Nat} (hne : (id' == id) = false) (h : Q (.exit id') σ) : inBlock id Q (.exit id') σ := by
  have : ¬ id' = id := by simpa using hne
  show if id' = id then _ else _; rw [if_neg this]; exact h
theorem acode_true {cnd : Operand} (hb : boolOf (opnd σ cnd) = some true) (h : ACode P F x σ Q) : ACode P F (.cond cnd x y) σ Q := acode_cond hb (fun _ => h) (fun h => by cases h)
theorem acode_false {cnd : Operand} (hb : boolOf (opnd σ cnd) = some false) (h : ACode P F y σ Q) : ACode P F (.cond cnd x y) σ Q := acode_cond hb (fun h => by cases h) (fun _ => h)
theorem wrap64 {n : Int} (h1 : -9223372036854775808 ≤ n) (h2 : n ≤ 9223372036854775807) : IntKind.i64.wrap n = n := by rw [IntKind.wrap_i64]; omega
theorem wrap8 {n : Int} (h1 : 0 ≤ n) (h2 : n ≤ 255) : IntKind.u8.wrap n = n := by
  unfold IntKind.wrap
  simp only [IntKind.bits, IntKind.signed, Bool.false_and, Bool.false_eq_true, if_false]
  omega
theorem upd_lit {α : Type} (f : Nat → α) (i : Nat) (x : α) (j : Nat) : upd f i x j = if j = i then x else f j := rfl
theorem beq_tr (b : Bool) : (b == true) = b := by cases b <;> rfl
theorem beq_fa (b : Bool) : (b == false) = !b := by cases b <;> rfl
attribute [push_cast] resD resAll resOne pure1 pureC pureCs pureD pureDs frz boolOf evalA wantA stepK opnd ofVal valD valC evPick evAlloc evBox evLoad evStore evFieldAddr evField evExtract evIndex evIndexAddr evSlice evLen evBuild evBuildSlice evAppend evBin evUn evConv loadC intBin strBin shiftV cellsOf1 okC datOf bnd setAt partsC builtC fillC chunk rep srcOf St.app St.put
  upd_lit List.all_cons List.all_nil Bool.and_true Bool.true_and Bool.and_self if_true if_false List.getD_cons_zero List.getD_cons_succ true_and and_true Option.map_some Option.map_none List.drop_zero List.drop_succ_cons List.take_zero List.take_succ_cons List.drop_nil List.take_nil List.length_cons List.length_nil List.map_cons List.map_nil List.nil_append List.cons_append
  Option.some.injEq Value.oneCell' ite_true ite_false Option.bind_some
  beq_tr beq_fa Bool.not_true Bool.not_false Bool.not_not Bool.false_and Bool.and_false Bool.or_true Bool.true_or Bool.or_false Bool.false_or
  List.getElem?_toArray List.mapM_cons List.mapM_nil List.getElem?_cons_zero List.getElem?_cons_succ
end Go.Proofs.YtngbpbncipjimaaDoor.AM
