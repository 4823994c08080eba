/- Typed data over the plain machine: what slots, variables and lists hold, by their types; what an operation does to it, as a partial function. -/
import Derived.Test.YtngbpbncipjimaaDoorAmP
namespace Go.Proofs.YtngbpbncipjimaaDoor.AM
open Go.RowKit
set_option linter.unusedVariables false
set_option linter.unusedSimpArgs false

inductive Ty where
  | int (k : IntKind)
  | bool
  | str
  | lst (e : Ty)
  | prod (a b : Ty)
deriving DecidableEq
@[reducible] def den : Ty → Type
  | .int _ => Int
  | .bool => Bool
  | .str => List UInt8
  | .lst e => List (den e)
  | .prod a b => den a × den b
def width : Ty → Nat
  | .prod a b => width a + width b
  | _ => 1
def ba (s : List UInt8) : ByteArray := ⟨s.toArray⟩
def ints (n : Int) : Int := n
def toDats : (e : Ty) → den e → List Dat
  | .int k, (n : Int) => [.v (.int k n)]
  | .bool, (b : Bool) => [.v (.bool b)]
  | .str, (s : List UInt8) => [.v (.string (ba s))]
  | .lst e, (l : List (den e)) => [.lst (width e) (l.map (toDats e))]
  | .prod a b, (p : den a × den b) => toDats a p.1 ++ toDats b p.2
theorem toDats_prod (a b : Ty) (p : den (.prod a b)) : toDats (.prod a b) p = toDats a (Prod.fst (p : den a × den b)) ++ toDats b (Prod.snd (p : den a × den b)) := rfl
theorem toDats_len : ∀ (e : Ty) (x : den e), (toDats e x).length = width e
  | .int _, _ => rfl
  | .bool, _ => rfl
  | .str, _ => rfl
  | .lst _, _ => rfl
  | .prod a b, p => by rw [toDats_prod, List.length_append, toDats_len a, toDats_len b]; rfl

inductive TC where
  | d (ty : Ty) (x : den ty)
  | nil
  | box (β off : Nat)
  | row (t g : Nat)
  | rp (e : Ty) (off : Nat) (x : den e)
  | wp (t g k off : Nat)
  | fn (f : Nat) (caps : List Nat)
  | undef
  | bad
def eC : TC → C
  | .d ty x => .d ((toDats ty x).headD (.v Go.undef))
  | .nil => .d (.v (.slice none 0 0))
  | .box β o => .box β o
  | .row t g => .row t g
  | .rp e off x => .rp ((toDats e x).drop off)
  | .wp t g k o => .wp t g k o
  | .fn f [] => .d (.v (.func (.func f) #[] #[]))
  | .fn f (c :: cs) => .fn f (c :: cs)
  | .undef => .d (.v Go.undef)
  | .bad => .bad
inductive TD1 where
  | c (x : TC)
  | agg (cs : List TC)
inductive TD where
  | one (x : TD1)
  | tup (xs : List TD1)
def e1 : TD1 → D1
  | .c x => .c (eC x)
  | .agg cs => .agg (cs.map eC)
def eD : TD → D
  | .one x => .one (e1 x)
  | .tup xs => .tup (xs.map e1)
structure TRow where
  gen : Nat
  E : Nat
  wr : Bool
  e : Ty
  xs : List (den e)
def eR (r : TRow) : Row := ⟨r.gen, r.E, width r.e, r.wr, r.xs.map (toDats r.e)⟩
structure TSt where
  slots : List (Nat × TD)
  boxes : List (Nat × (Nat × List TC))
  rows : List (Nat × TRow)
def lk {α : Type} : List (Nat × α) → Nat → Option α
  | [], _ => none
  | (j, x) :: l, i => bif Nat.beq j i then some x else lk l i
def eB (p : Nat × List TC) : Nat × List C := (p.1, p.2.map eC)
def eS (σ : TSt) : St :=
  { slot := fun i => match lk σ.slots i with | some x => eD x | none => .one (.c .bad)
    box := fun i => (lk σ.boxes i).map eB
    row := fun i => (lk σ.rows i).map eR }
theorem lk_cons {α : Type} (j : Nat) (x : α) (l : List (Nat × α)) (i : Nat) : lk ((j, x) :: l) i = if i = j then some x else lk l i := by
  show (bif Nat.beq j i then some x else lk l i) = _
  by_cases h : i = j
  · subst h; rw [if_pos rfl]; have : Nat.beq i i = true := Nat.beq_refl i; rw [this]; rfl
  · rw [if_neg h]
    cases hb : Nat.beq j i with
    | false => rfl
    | true => exact absurd (Nat.eq_of_beq_eq_true hb).symm h
structure TRes where
  val : TD
  box : Option (Nat × (Nat × List TC)) := none
  row : Option (Nat × TRow) := none
def eRes (c : Prop) (t : TRes) : Res := { cond := c, val := eD t.val, box := t.box.map fun p => (p.1, eB p.2), row := t.row.map fun p => (p.1, eR p.2) }
def TSt.app (σ : TSt) (r : TRes) : TSt :=
  { slots := σ.slots
    boxes := match r.box with | some p => p :: σ.boxes | none => σ.boxes
    rows := match r.row with | some p => p :: σ.rows | none => σ.rows }
def TSt.put (σ : TSt) (d : Option Nat) (x : TD) : TSt := match d with
  | some i => { σ with slots := (i, x) :: σ.slots }
  | none => σ
theorem eS_app (σ : TSt) (r : TRes) (c : Prop) : eS (σ.app r) = (eS σ).app (eRes c r) := by
  obtain ⟨v, bx, rw⟩ := r
  unfold eS TSt.app St.app eRes
  congr 1
  · cases bx with
    | none => rfl
    | some p =>
      funext i
      obtain ⟨j, x⟩ := p
      simp only [Option.map_some, lk_cons, upd]
      split <;> rfl
  · cases rw with
    | none => rfl
    | some p =>
      funext i
      obtain ⟨j, x⟩ := p
      simp only [Option.map_some, lk_cons, upd]
      split <;> rfl
theorem eS_put (σ : TSt) (d : Option Nat) (x : TD) : eS (σ.put d x) = (eS σ).put d (eD x) := by
  cases d with
  | none => rfl
  | some i =>
    unfold eS TSt.put St.put
    simp only
    congr 1
    funext j
    simp only [lk_cons, upd]
    by_cases hj : j = i
    · simp only [hj, if_true]
    · simp only [hj, if_false]

/-! constants and operands -/
def tval : Value → Option TC
  | .int k n => some (.d (.int k) n)
  | .bool b => some (.d .bool b)
  | .string s => some (.d .str s.data.toList)
  | .slice none 0 0 => some .nil
  | .func (.func f) ⟨[]⟩ ⟨[]⟩ => some (.fn f [])
  | .tuple ⟨[]⟩ => some .undef
  | _ => none
def tvals : List Value → Option (List TC)
  | [] => some []
  | v :: vs => match tval v, tvals vs with
    | some x, some xs => some (x :: xs)
    | _, _ => none
theorem tval_ok {v : Value} {x : TC} (h : tval v = some x) : eC x = valC v := by
  unfold tval at h
  split at h <;> simp only [Option.some.injEq, reduceCtorEq] at h <;> subst h <;> first | rfl | skip
theorem tvals_ok : ∀ {vs : List Value} {xs : List TC}, tvals vs = some xs → xs.map eC = vs.map valC
  | [], xs, h => by simp only [tvals, Option.some.injEq] at h; subst h; rfl
  | v :: vs, xs, h => by
    unfold tvals at h
    split at h
    case h_2 => cases h
    rename_i x ys hx hy
    simp only [Option.some.injEq] at h
    subst h
    rw [List.map_cons, List.map_cons, tval_ok hx, tvals_ok hy]
def tvalD : Value → Option TD
  | .agg cs => (tvals cs.toList).map fun xs => .one (.agg xs)
  | v => (tval v).map fun x => .one (.c x)
theorem tvalD_ok {v : Value} {x : TD} (h : tvalD v = some x) : eD x = ofVal v := by
  unfold tvalD at h
  split at h
  · obtain ⟨xs, h1, rfl⟩ := Option.map_eq_some_iff.1 h
    simp only [eD, e1, ofVal, tvals_ok h1]
  · rename_i v' hv
    obtain ⟨xs, h1, rfl⟩ := Option.map_eq_some_iff.1 h
    simp only [eD, e1, tval_ok h1]
    cases v <;> first | rfl | exact absurd rfl (hv _)
def topnd (σ : TSt) : Operand → Option TD
  | .tmp t => lk σ.slots t
  | .const v => tvalD v
  | .func f => some (.one (.c (.fn f [])))
  | .global g => none
theorem topnd_ok {σ : TSt} {x : Operand} {y : TD} (h : topnd σ x = some y) : opnd (eS σ) x = eD y := by
  cases x with
  | tmp t => unfold topnd at h; simp only [opnd, eS, h]
  | const v => exact (tvalD_ok h).symm
  | func f => simp only [topnd, Option.some.injEq] at h; subst h; rfl
  | global g => cases h
def tcells (e : Ty) (x : den e) : List TC := match e, x with
  | .int k, x => [.d (.int k) x]
  | .bool, x => [.d .bool x]
  | .str, x => [.d .str x]
  | .lst e, x => [.d (.lst e) x]
  | .prod a b, (p : den a × den b) => tcells a p.1 ++ tcells b p.2
theorem tcells_ok : ∀ (e : Ty) (x : den e), (tcells e x).map eC = (toDats e x).map C.d
  | .int _, _ => rfl
  | .bool, _ => rfl
  | .str, _ => rfl
  | .lst _, _ => rfl
  | .prod a b, p => by rw [toDats_prod, List.map_append, ← tcells_ok a, ← tcells_ok b, ← List.map_append]; rfl
theorem tcells_len (e : Ty) (x : den e) : (tcells e x).length = width e := by
  have := congrArg List.length (tcells_ok e x)
  rw [List.length_map, List.length_map, toDats_len] at this
  exact this
/-- cells, as one datum -/
def unD (ty : Ty) : List TC → Option (den ty)
  | [.d ty' x] => if h : ty' = ty then some (h ▸ x) else none
  | _ => none
theorem unD_ok {ty : Ty} {cs : List TC} {x : den ty} (h : unD ty cs = some x) : cs = [.d ty x] := by
  unfold unD at h
  split at h
  · rename_i ty' y
    split at h
    · rename_i hty
      subst hty
      simp only [Option.some.injEq] at h
      subst h; rfl
    · cases h
  · cases h
def packT : (e : Ty) → List TC → Option (den e)
  | .prod a b, cs => match packT a (cs.take (width a)), packT b (cs.drop (width a)) with
    | some x, some y => some (x, y)
    | _, _ => none
  | .int k, cs => unD (.int k) cs
  | .bool, cs => unD .bool cs
  | .str, cs => unD .str cs
  | .lst e, cs => unD (.lst e) cs
theorem packT_ok : ∀ {e : Ty} {cs : List TC} {x : den e}, packT e cs = some x → cs.map eC = (toDats e x).map C.d
  | .prod a b, cs, x, h => by
    unfold packT at h
    split at h
    case h_2 => cases h
    rename_i y z hy hz
    obtain rfl : (y, z) = x := Option.some.inj h
    have h1 := packT_ok hy
    have h2 := packT_ok hz
    show List.map eC cs = List.map C.d (toDats a y ++ toDats b z)
    rw [List.map_append, ← h1, ← h2, ← List.map_append, List.take_append_drop]
  | .int k, cs, x, h => by rw [unD_ok h]; rfl
  | .bool, cs, x, h => by rw [unD_ok h]; rfl
  | .str, cs, x, h => by rw [unD_ok h]; rfl
  | .lst e, cs, x, h => by rw [unD_ok h]; rfl
end Go.Proofs.YtngbpbncipjimaaDoor.AM
