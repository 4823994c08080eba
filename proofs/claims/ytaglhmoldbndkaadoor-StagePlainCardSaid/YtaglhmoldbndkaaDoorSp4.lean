/- One text of T1, T2, T3 (mk/pack.py). -/
import Derived.Test.YtaglhmoldbndkaaDoorSp3
/- Typed data over the plain machine: what slots, variables and lists hold, by their types; what an operation does to it, as a partial function. -/
namespace Go.Proofs.YtaglhmoldbndkaaDoor.AM
open Go.RowKit
set_option linter.unusedVariables false
set_option linter.unusedSimpArgs false

/-- a value of one cell: what an interface holds -/
abbrev IV := { v : Value // v.oneCell' = true }
def nilIV : IV := ⟨.nilIface, rfl⟩
def nilFV : IV := ⟨.nilFunc, rfl⟩
def mkIV (t : TypeId) (v : Value) : IV := ⟨.iface t v, rfl⟩
inductive Ty where
  | int (k : IntKind)
  | bool
  | str
  | lst (e : Ty)
  | prod (a b : Ty)
  | any
deriving DecidableEq
@[reducible] def den : Ty → Type
  | .int _ => Int
  | .bool => Bool
  | .str => List UInt8
  | .lst e => List (den e)
  | .prod a b => den a × den b
  | .any => IV
def width : Ty → Nat
  | .prod a b => width a + width b
  | _ => 1
def ba (s : List UInt8) : ByteArray := ⟨s.toArray⟩
def toDats : (e : Ty) → den e → List Dat
  | .int k, (n : Int) => [.v (.int k n)]
  | .bool, (b : Bool) => [.v (.bool b)]
  | .str, (s : List UInt8) => [.v (.string (ba s))]
  | .lst e, (l : List (den e)) => [.lst (width e) (l.map (toDats e))]
  | .prod a b, (p : den a × den b) => toDats a p.1 ++ toDats b p.2
  | .any, (v : IV) => [.v v.1]
theorem toDats_prod (a b : Ty) (p : den (.prod a b)) : toDats (.prod a b) p = toDats a (Prod.fst (p : den a × den b)) ++ toDats b (Prod.snd (p : den a × den b)) := rfl
theorem toDats_len : ∀ (e : Ty) (x : den e), (toDats e x).length = width e
  | .int _, _ => rfl
  | .bool, _ => rfl
  | .str, _ => rfl
  | .lst _, _ => rfl
  | .prod a b, p => by rw [toDats_prod, List.length_append, toDats_len a, toDats_len b]; rfl
  | .any, _ => rfl

inductive TC where
  | d (ty : Ty) (x : den ty)
  | nil
  | box (β off : Nat)
  | row (t g : Nat)
  | rp (e : Ty) (off : Nat) (x : den e)
  | wp (t g k off : Nat)
  | bp (β off len : Nat) (n : Int)
  | mv (β : Nat)
  | fn (f : Nat) (caps : List Nat)
  | undef
  | bad
def eC : TC → C
  | .d ty x => .d ((toDats ty x).headD (.v Go.undef))
  | .nil => .d (.v (.slice none 0 0))
  | .box β o => .box β o
  | .row t g => .row t g
  | .rp e off x => .rp ((toDats e x).drop off)
  | .wp t g k o => .wp t g k o
  | .bp β o _ n => .box β (o + Int.toNat n * 1)
  | .mv β => .mv β
  | .fn f [] => .d (.v (.func (.func f) #[] #[]))
  | .fn f (c :: cs) => .fn f (c :: cs)
  | .undef => .d (.v Go.undef)
  | .bad => .bad
/-- a variable of cells, not a map -/
def plainB (T : Nat) : Bool := Nat.blt T 2199023255552
theorem plainB_lt {T : Nat} (h : plainB T = true) : T < 2199023255552 := Nat.le_of_ble_eq_true h
theorem plainB_ge {T : Nat} (h : plainB T = false) : 2199023255552 ≤ T := by
  by_cases h1 : T < 2199023255552
  · rw [show plainB T = true from Nat.ble_eq_true_of_le h1] at h; cases h
  · omega
inductive TD1 where
  | c (x : TC)
  | agg (cs : List TC)
inductive TD where
  | one (x : TD1)
  | tup (xs : List TD1)
def e1 : TD1 → D1
  | .c x => .c (eC x)
  | .agg cs => .agg (cs.map eC)
def eD : TD → D
  | .one x => .one (e1 x)
  | .tup xs => .tup (xs.map e1)
structure TRow where
  gen : Nat
  E : Nat
  wr : Bool
  e : Ty
  xs : List (den e)
def eR (r : TRow) : Row := ⟨r.gen, r.E, width r.e, r.wr, r.xs.map (toDats r.e)⟩
structure TSt where
  slots : List (Nat × TD)
  boxes : List (Nat × (Nat × List TC))
  rows : List (Nat × TRow)
def lk {α : Type} : List (Nat × α) → Nat → Option α
  | [], _ => none
  | (j, x) :: l, i => bif Nat.beq j i then some x else lk l i
def eB (p : Nat × List TC) : Nat × List C := (p.1, p.2.map eC)
def eS (σ : TSt) : St :=
  { slot := fun i => match lk σ.slots i with | some x => eD x | none => .one (.c .bad)
    box := fun i => (lk σ.boxes i).map eB
    row := fun i => (lk σ.rows i).map eR }
theorem lk_cons {α : Type} (j : Nat) (x : α) (l : List (Nat × α)) (i : Nat) : lk ((j, x) :: l) i = if i = j then some x else lk l i := by
  show (bif Nat.beq j i then some x else lk l i) = _
  by_cases h : i = j
  · subst h; rw [if_pos rfl]; have : Nat.beq i i = true := Nat.beq_refl i; rw [this]; rfl
  · rw [if_neg h]
    cases hb : Nat.beq j i with
    | false => rfl
    | true => exact absurd (Nat.eq_of_beq_eq_true hb).symm h
structure TRes where
  val : TD
  box : Option (Nat × (Nat × List TC)) := none
  row : Option (Nat × TRow) := none
def eRes (c : Prop) (t : TRes) : Res := { cond := c, val := eD t.val, box := t.box.map fun p => (p.1, eB p.2), row := t.row.map fun p => (p.1, eR p.2) }
def TSt.app (σ : TSt) (r : TRes) : TSt :=
  { slots := σ.slots
    boxes := match r.box with | some p => p :: σ.boxes | none => σ.boxes
    rows := match r.row with | some p => p :: σ.rows | none => σ.rows }
def TSt.put (σ : TSt) (d : Option Nat) (x : TD) : TSt := match d with
  | some i => { σ with slots := (i, x) :: σ.slots }
  | none => σ
theorem eS_app (σ : TSt) (r : TRes) (c : Prop) : eS (σ.app r) = (eS σ).app (eRes c r) := by
  obtain ⟨v, bx, rw⟩ := r
  unfold eS TSt.app St.app eRes
  congr 1
  · cases bx with
    | none => rfl
    | some p =>
      funext i
      obtain ⟨j, x⟩ := p
      simp only [Option.map_some, lk_cons, upd]
      split <;> rfl
  · cases rw with
    | none => rfl
    | some p =>
      funext i
      obtain ⟨j, x⟩ := p
      simp only [Option.map_some, lk_cons, upd]
      split <;> rfl
theorem eS_put (σ : TSt) (d : Option Nat) (x : TD) : eS (σ.put d x) = (eS σ).put d (eD x) := by
  cases d with
  | none => rfl
  | some i =>
    unfold eS TSt.put St.put
    simp only
    congr 1
    funext j
    simp only [lk_cons, upd]
    by_cases hj : j = i
    · simp only [hj, if_true]
    · simp only [hj, if_false]

/-! constants and operands -/
def tval : Value → Option TC
  | .int k n => some (.d (.int k) n)
  | .bool b => some (.d .bool b)
  | .string s => some (.d .str s.data.toList)
  | .slice none 0 0 => some .nil
  | .func (.func f) ⟨[]⟩ ⟨[]⟩ => some (.fn f [])
  | .tuple ⟨[]⟩ => some .undef
  | .nilIface => some (.d .any nilIV)
  | .nilFunc => some (.d .any nilFV)
  | _ => none
def tvals : List Value → Option (List TC)
  | [] => some []
  | v :: vs => match tval v, tvals vs with
    | some x, some xs => some (x :: xs)
    | _, _ => none
theorem tval_ok {v : Value} {x : TC} (h : tval v = some x) : eC x = valC v := by
  unfold tval at h
  split at h <;> simp only [Option.some.injEq, reduceCtorEq] at h <;> subst h <;> first | rfl | skip
theorem tvals_ok : ∀ {vs : List Value} {xs : List TC}, tvals vs = some xs → xs.map eC = vs.map valC
  | [], xs, h => by simp only [tvals, Option.some.injEq] at h; subst h; rfl
  | v :: vs, xs, h => by
    unfold tvals at h
    split at h
    case h_2 => cases h
    rename_i x ys hx hy
    simp only [Option.some.injEq] at h
    subst h
    rw [List.map_cons, List.map_cons, tval_ok hx, tvals_ok hy]
def tvalD : Value → Option TD
  | .agg cs => (tvals cs.toList).map fun xs => .one (.agg xs)
  | v => (tval v).map fun x => .one (.c x)
theorem tvalD_ok {v : Value} {x : TD} (h : tvalD v = some x) : eD x = ofVal v := by
  unfold tvalD at h
  split at h
  · obtain ⟨xs, h1, rfl⟩ := Option.map_eq_some_iff.1 h
    simp only [eD, e1, ofVal, tvals_ok h1]
  · rename_i v' hv
    obtain ⟨xs, h1, rfl⟩ := Option.map_eq_some_iff.1 h
    simp only [eD, e1, tval_ok h1]
    cases v <;> first | rfl | exact absurd rfl (hv _)
def topnd (σ : TSt) : Operand → Option TD
  | .tmp t => lk σ.slots t
  | .const v => tvalD v
  | .func f => some (.one (.c (.fn f [])))
  | .global g => none
theorem topnd_ok {σ : TSt} {x : Operand} {y : TD} (h : topnd σ x = some y) : opnd (eS σ) x = eD y := by
  cases x with
  | tmp t => unfold topnd at h; simp only [opnd, eS, h]
  | const v => exact (tvalD_ok h).symm
  | func f => simp only [topnd, Option.some.injEq] at h; subst h; rfl
  | global g => cases h
def tcells (e : Ty) (x : den e) : List TC := match e, x with
  | .int k, x => [.d (.int k) x]
  | .bool, x => [.d .bool x]
  | .str, x => [.d .str x]
  | .lst e, x => [.d (.lst e) x]
  | .prod a b, (p : den a × den b) => tcells a p.1 ++ tcells b p.2
  | .any, x => [.d .any x]
theorem tcells_ok : ∀ (e : Ty) (x : den e), (tcells e x).map eC = (toDats e x).map C.d
  | .int _, _ => rfl
  | .bool, _ => rfl
  | .str, _ => rfl
  | .lst _, _ => rfl
  | .prod a b, p => by rw [toDats_prod, List.map_append, ← tcells_ok a, ← tcells_ok b, ← List.map_append]; rfl
  | .any, _ => rfl
/-- cells, as one datum -/
def unD (ty : Ty) : List TC → Option (den ty)
  | [.d ty' x] => if h : ty' = ty then some (h ▸ x) else none
  | _ => none
theorem unD_ok {ty : Ty} {cs : List TC} {x : den ty} (h : unD ty cs = some x) : cs = [.d ty x] := by
  unfold unD at h
  split at h
  · rename_i ty' y
    split at h
    · rename_i hty
      subst hty
      simp only [Option.some.injEq] at h
      subst h; rfl
    · cases h
  · cases h
def packT : (e : Ty) → List TC → Option (den e)
  | .prod a b, cs => match packT a (cs.take (width a)), packT b (cs.drop (width a)) with
    | some x, some y => some (x, y)
    | _, _ => none
  | .int k, cs => unD (.int k) cs
  | .bool, cs => unD .bool cs
  | .str, cs => unD .str cs
  | .lst e, cs => unD (.lst e) cs
  | .any, cs => unD .any cs
theorem packT_ok : ∀ {e : Ty} {cs : List TC} {x : den e}, packT e cs = some x → cs.map eC = (toDats e x).map C.d
  | .prod a b, cs, x, h => by
    unfold packT at h
    split at h
    case h_2 => cases h
    rename_i y z hy hz
    obtain rfl : (y, z) = x := Option.some.inj h
    have h1 := packT_ok hy
    have h2 := packT_ok hz
    show List.map eC cs = List.map C.d (toDats a y ++ toDats b z)
    rw [List.map_append, ← h1, ← h2, ← List.map_append, List.take_append_drop]
  | .int k, cs, x, h => by rw [unD_ok h]; rfl
  | .bool, cs, x, h => by rw [unD_ok h]; rfl
  | .str, cs, x, h => by rw [unD_ok h]; rfl
  | .lst e, cs, x, h => by rw [unD_ok h]; rfl
  | .any, cs, x, h => by rw [unD_ok h]; rfl
end Go.Proofs.YtaglhmoldbndkaaDoor.AM

/- Typed data over the plain machine: what an operation does, as a partial function of data; and that the plain machine does so. -/
namespace Go.Proofs.YtaglhmoldbndkaaDoor.AM
open Go.RowKit
set_option linter.unusedVariables false
set_option linter.unusedSimpArgs false
variable {α : Type} {P : Program} {σ : TSt}

/-! the partial functions that operations are -/
def nth {β : Type} : List β → Nat → Option β
  | [], _ => none
  | x :: _, 0 => some x
  | _ :: l, n + 1 => nth l n
theorem nth_eq {β : Type} : ∀ (l : List β) (n : Nat), nth l n = l[n]?
  | [], n => by simp [nth]
  | _ :: _, 0 => rfl
  | _ :: l, n + 1 => by rw [nth, nth_eq l n]; simp
def idxL {β : Type} (l : List β) (i : Int) : Option β := if 0 ≤ i then nth l i.toNat else none
def sAt (s : List UInt8) (i : Int) : Option Int := (idxL s i).map fun c => (c.toNat : Int)
def subO {β : Type} (l : List β) (a b : Int) : Option (List β) := if 0 ≤ a ∧ a ≤ b ∧ b ≤ l.length then some ((l.drop a.toNat).take (b.toNat - a.toNat)) else none
def catO (s t : List UInt8) : Option (List UInt8) := if s.length + t.length ≤ 9223372036854775807 then some (s ++ t) else none
def appO {β : Type} (bytes : Nat) (xs ys : List β) : Option (List β) := if (xs.length + ys.length) * bytes ≤ 140737488355328 then some (xs ++ ys) else none
def letO {β : Type} (x : β) (f : β → Option α) : Option α := f x
def quoO (k : IntKind) (x y : Int) : Option Int := if y ≠ 0 then some (k.wrap (x.tdiv y)) else none
def remO (x y : Int) : Option Int := if y ≠ 0 then some (x.tmod y) else none
def shlO (k : IntKind) (x y : Int) : Option Int := if 0 ≤ y then some (k.wrap (x * 2 ^ (min y.toNat k.bits))) else none
def shrO (k : IntKind) (x y : Int) : Option Int := if 0 ≤ y then some (x.fdiv (2 ^ (min y.toNat k.bits))) else none
def andI (k : IntKind) (x y : Int) : Int := k.wrap (BitVec.ofInt k.bits x &&& BitVec.ofInt k.bits y).toNat
def orI (k : IntKind) (x y : Int) : Int := k.wrap (BitVec.ofInt k.bits x ||| BitVec.ofInt k.bits y).toNat
def xorI (k : IntKind) (x y : Int) : Int := k.wrap (BitVec.ofInt k.bits x ^^^ BitVec.ofInt k.bits y).toNat
def ltS (s t : List UInt8) : Bool := Op.bytesLess s t

/-- a place of an array -/
def inA (n : Int) (len : Nat) : Bool := decide (0 ≤ n) && decide (n < (len : Int))
theorem inA_ok {n : Int} {len : Nat} (h : inA n len = true) : 0 ≤ n ∧ n < (len : Int) := by
  simp only [inA, Bool.and_eq_true, decide_eq_true_eq] at h; exact h
/-- what stands at a place of an array in which one is written -/
def upd1 {β : Type} (i : Nat) (n : Int) (y x : β) : β := bif Nat.beq i (Int.toNat n) then y else x
def updA {β : Type} (n : Int) (y : β) : Nat → List β → List β
  | _, [] => []
  | i, x :: xs => upd1 i n y x :: updA n y (i + 1) xs
theorem updA_eq {β : Type} (n : Int) (y : β) : ∀ (xs : List β) (i : Nat), updA n y i xs = if i ≤ n.toNat then xs.set (n.toNat - i) y else xs
  | [], i => by simp [updA]
  | x :: xs, i => by
    rw [updA, updA_eq n y xs (i + 1), upd1]
    by_cases h : i = n.toNat
    · have hb : Nat.beq i n.toNat = true := by rw [h]; exact Nat.beq_refl _
      rw [hb, if_neg (by omega), if_pos (by omega), h, Nat.sub_self]; rfl
    · have hb : Nat.beq i n.toNat = false := by
        cases hb : Nat.beq i n.toNat with
        | false => rfl
        | true => exact absurd (Nat.eq_of_beq_eq_true hb) h
      rw [hb]
      by_cases hi : i ≤ n.toNat
      · rw [if_pos (by omega), if_pos hi]
        obtain ⟨k, hk⟩ : ∃ k, n.toNat - i = k + 1 := ⟨n.toNat - i - 1, by omega⟩
        have : n.toNat - (i + 1) = k := by omega
        rw [hk, this]; rfl
      · rw [if_neg (by omega), if_neg hi]; rfl
theorem updA_set {β : Type} (n : Int) (y : β) (xs : List β) : updA n y 0 xs = xs.set n.toNat y := by
  rw [updA_eq, if_pos (Nat.zero_le _), Nat.sub_zero]
theorem set_mid {β : Type} {l xs : List β} {o len j : Nat} {c : β} (h : (l.drop o).take len = xs) (hj : j < xs.length) : l.take o ++ xs.set j c ++ l.drop (o + len) = setAt l (o + j) [c] := by
  subst h
  have hl : j < (l.drop o).length ∧ j < len := by rw [List.length_take] at hj; omega
  have ho : o + j < l.length := by rw [List.length_drop] at hl; omega
  unfold setAt
  apply List.ext_getElem?
  intro i
  rw [List.append_assoc, List.append_assoc, List.getElem?_append, List.getElem?_append, List.getElem?_append, List.getElem?_append, List.getElem?_set, List.getElem?_take, List.getElem?_take, List.getElem?_take, List.getElem?_drop, List.getElem?_drop, List.getElem?_drop]
  simp only [List.length_take, List.length_set, List.length_drop, List.length_cons, List.length_nil]
  by_cases h1 : i < o
  · rw [if_pos (by omega), if_pos h1, if_pos (by omega), if_pos (by omega)]
  · rw [if_neg (by omega)]
    have e1 : min o l.length = o := by omega
    have e2 : min (o + j) l.length = o + j := by omega
    rw [e1, e2]
    by_cases h2 : i < o + j
    · rw [if_pos h2, if_pos (by omega), if_pos h2, if_neg (by omega), if_pos (by omega)]
      congr 1; omega
    · rw [if_neg h2]
      by_cases h3 : i = o + j
      · subst h3
        have e3 : o + j - o = j := by omega
        rw [e3, Nat.sub_self, if_pos (by omega), if_pos rfl, if_pos (by omega), if_pos (by omega)]; rfl
      · rw [if_neg (by omega : ¬ i - (o + j) < 0 + 1)]
        by_cases h4 : i - o < min len (l.length - o)
        · rw [if_pos h4, if_neg (by omega), if_pos (by omega)]
          congr 1; omega
        · rw [if_neg h4]
          by_cases h5 : len ≤ l.length - o
          · congr 1; omega
          · rw [List.getElem?_eq_none (by omega), List.getElem?_eq_none (by omega)]

def Sim (x : Option Res) (t : TRes) : Prop := ∃ c : Prop, c ∧ x = some (eRes c t)
theorem Sim.tr {x : Option Res} {t : TRes} (h : x = some (eRes True t)) : Sim x t := ⟨True, trivial, h⟩
theorem eS_box {i : Nat} {p : Nat × List TC} (h : lk σ.boxes i = some p) : (eS σ).box i = some (p.1, p.2.map eC) := by show (lk σ.boxes i).map eB = _; rw [h]; rfl
theorem eS_row {i : Nat} {r : TRow} (h : lk σ.rows i = some r) : (eS σ).row i = some (eR r) := by show (lk σ.rows i).map eR = _; rw [h]; rfl
theorem eS_noBox {i : Nat} (h : lk σ.boxes i = none) : (eS σ).box i = none := by show (lk σ.boxes i).map eB = _; rw [h]; rfl
theorem eS_noRow {i : Nat} (h : lk σ.rows i = none) : (eS σ).row i = none := by show (lk σ.rows i).map eR = _; rw [h]; rfl
theorem map_setAt {β γ : Type} (f : β → γ) (l : List β) (off : Nat) (xs : List β) : (setAt l off xs).map f = setAt (l.map f) off (xs.map f) := by
  unfold setAt; simp

/-- cells of one type, as a list -/
def unDs (ty : Ty) : List TC → Option (List (den ty))
  | [] => some []
  | c :: cs => match unD ty [c], unDs ty cs with
    | some x, some xs => some (x :: xs)
    | _, _ => none
theorem unDs_ok {ty : Ty} : ∀ {cs : List TC} {xs : List (den ty)}, unDs ty cs = some xs → cs = xs.map (TC.d ty)
  | [], xs, h => by simp only [unDs, Option.some.injEq] at h; subst h; rfl
  | c :: cs, xs, h => by
    unfold unDs at h
    split at h
    case h_2 => cases h
    rename_i x ys h1 h2
    simp only [Option.some.injEq] at h
    subst h
    have := unD_ok h1
    simp only [List.cons.injEq, and_true] at this
    rw [List.map_cons, ← unDs_ok h2, this]
/-! loads and stores -/
def loadT (P : Program) (t : TypeId) (cs : List TC) : Option TD := match aggD P t, tsz P t with
  | some true, some n => if n ≤ cs.length then some (.one (.agg (cs.take n))) else none
  | some false, _ => match cs with | c :: _ => some (.one (.c c)) | [] => none
  | _, _ => none
theorem loadT_ok {t : TypeId} {cs : List TC} {d : TD} (h : loadT P t cs = some d) : loadC P t (cs.map eC) = some (eD d) := by
  unfold loadT at h
  unfold loadC
  split at h
  · rename_i n h1 h2
    rw [h1, h2]
    split at h
    · rename_i hle
      simp only [Option.some.injEq] at h
      subst h
      simp only [List.length_map, hle, if_true, eD, e1, List.map_take]
    · cases h
  · rename_i h1
    rw [h1]
    split at h
    · simp only [Option.some.injEq] at h
      subst h; rfl
    · cases h
  · cases h
theorem bif_some {b : Bool} {x : Option α} {r : α} (h : (bif b then x else none) = some r) : b = true ∧ x = some r := by
  cases b with
  | true => exact ⟨rfl, h⟩
  | false => cases h
def tevLoad (P : Program) (t : TypeId) (p : TD) (σ : TSt) (k : TRes → Option α) : Option α := match p with
  | .one (.c (.box β off)) => match lk σ.boxes β with
    | some q => bif plainB q.1 then (match loadT P t (q.2.drop off) with | some d => k { val := d } | none => none) else none
    | none => none
  | .one (.c (.rp e off x)) => match loadT P t ((tcells e x).drop off) with | some d => k { val := d } | none => none
  | .one (.c (.wp tt g j off)) => match lk σ.rows tt with
    | some r => if r.gen = g then (nth r.xs j).bind fun x => match loadT P t ((tcells r.e x).drop off) with | some d => k { val := d } | none => none else none
    | none => none
  | .one (.c (.bp β o len n)) => match aggD P t, lk σ.boxes β with
    | some false, some q => bif plainB q.1 then (match (q.2.drop o).take len with
      | .d e x0 :: cs0 => match unDs e (.d e x0 :: cs0) with
        | some xs => (nth xs (Int.toNat n)).bind fun y => k { val := .one (.c (.d e y)) }
        | none => none
      | _ => none) else none
    | _, _ => none
  | _ => none
theorem getD_nth {e : Ty} {xs : List (den e)} {j : Nat} {x : den e} (h : nth xs j = some x) : (xs.map (toDats e)).getD j [] = toDats e x ∧ j < (xs.map (toDats e)).length := by
  rw [nth_eq] at h
  obtain ⟨h1, rfl⟩ := List.getElem?_eq_some_iff.1 h
  have : j < (xs.map (toDats e)).length := by rw [List.length_map]; exact h1
  exact ⟨by simp [List.getD, h1], this⟩
theorem tevLoad_ok {t : TypeId} {p : TD} {k : TRes → Option α} {r : α} (h : tevLoad P t p σ k = some r) :
    ∃ x, k x = some r ∧ Sim (evLoad P t (eD p) (eS σ).box (eS σ).row) x := by
  unfold tevLoad at h
  split at h
  · rename_i β off
    split at h
    case h_2 => cases h
    rename_i q hq
    obtain ⟨hpb, h⟩ := bif_some h
    split at h
    case h_2 => cases h
    rename_i d hd
    refine ⟨_, h, Sim.tr ?_⟩
    have := loadT_ok hd
    rw [List.map_drop] at this
    simp only [evLoad, eD, e1, eC, eS_box hq, plainB_lt hpb, if_true, this, Option.map_some]
    rfl
  · rename_i e off x
    split at h
    case h_2 => cases h
    rename_i d hd
    refine ⟨_, h, Sim.tr ?_⟩
    have := loadT_ok hd
    rw [List.map_drop, tcells_ok] at this
    simp only [evLoad, eD, e1, eC, List.map_drop, this, Option.map_some]
    rfl
  · rename_i tt g j off
    split at h
    case h_2 => cases h
    rename_i r' hr
    split at h
    case isFalse => cases h
    rename_i hg
    obtain ⟨x, hx, h⟩ := Option.bind_eq_some_iff.1 h
    split at h
    case h_2 => cases h
    rename_i d hd
    have := loadT_ok hd
    rw [List.map_drop, tcells_ok] at this
    obtain ⟨h1, h2⟩ := getD_nth hx
    refine ⟨_, h, _, h2, ?_⟩
    simp only [evLoad, eD, e1, eC, eS_row hr]
    have hg' : (eR r').gen = g := hg
    rw [if_pos hg']
    have h3 : (eR r').xs.getD j [] = toDats r'.e x := h1
    rw [h3, List.map_drop, this]
    rfl
  · rename_i β o len n
    split at h
    case h_2 => cases h
    rename_i q ha hq
    obtain ⟨hpb, h⟩ := bif_some h
    split at h
    case h_2 => cases h
    rename_i e x0 cs0 hcs
    split at h
    case h_2 => cases h
    rename_i xs hxs
    obtain ⟨y, hy, h⟩ := Option.bind_eq_some_iff.1 h
    rw [nth_eq] at hy
    have h1 := unDs_ok hxs
    rw [h1] at hcs
    have h2 : (q.2.drop (o + n.toNat * 1)).head? = some (.d e y) := by
      have h3 : ((q.2.drop o).take len)[n.toNat]? = some (.d e y) := by rw [hcs, List.getElem?_map, hy]; rfl
      rw [List.getElem?_take] at h3
      split at h3
      · rw [List.getElem?_drop] at h3
        rw [List.head?_drop, Nat.mul_one]; exact h3
      · cases h3
    refine ⟨_, h, Sim.tr ?_⟩
    have h4 : loadC P t ((q.2.map eC).drop (o + n.toNat * 1)) = some (eD (.one (.c (.d e y)))) := by
      rw [← List.map_drop]
      generalize q.2.drop (o + n.toNat * 1) = l at h2
      cases l with
      | nil => cases h2
      | cons c cs =>
        simp only [List.head?_cons, Option.some.injEq] at h2
        subst h2
        simp only [loadC, ha, List.map_cons]
        rfl
    simp only [evLoad, eD, e1, eC, eS_box hq, plainB_lt hpb, if_true, h4, Option.map_some]
    rfl
  · cases h
def cellsT : TD1 → List TC
  | .c x => [x]
  | .agg cs => cs
def okTy : Ty → Bool
  | .prod _ _ => false
  | _ => true
def okT : TC → Bool
  | .d ty _ => okTy ty
  | .undef => false
  | .bad => false
  | .bp _ _ _ _ => false
  | _ => true
theorem okT_ok : ∀ {x : TC}, okT x = true → okC (eC x) = true
  | .d (.int _) _, _ => rfl
  | .d .bool _, _ => rfl
  | .d .str _, _ => rfl
  | .d (.lst _) _, _ => rfl
  | .d .any v, _ => by
    show okC (.d (.v (Subtype.val (v : IV)))) = true
    exact (v : IV).2
  | .nil, _ => rfl
  | .box _ _, _ => rfl
  | .row _ _, _ => rfl
  | .rp _ _ _, _ => rfl
  | .wp _ _ _ _, _ => rfl
  | .fn _ [], _ => rfl
  | .fn _ (_ :: _), _ => rfl
  | .mv _, _ => rfl
theorem cellsT_ok (x : TD1) : cellsOf1 (e1 x) = (cellsT x).map eC := by cases x <;> rfl
theorem allT_ok {cs : List TC} (h : cs.all okT = true) : (cs.map eC).all okC = true := by
  rw [List.all_map]
  refine List.all_eq_true.2 fun x hx => okT_ok (List.all_eq_true.1 h x hx)
theorem mapM_datOf : ∀ (l : List Dat), (l.map C.d).mapM datOf = some l
  | [] => rfl
  | x :: l => by rw [List.map_cons, List.mapM_cons, mapM_datOf l]; rfl
def setT (e : Ty) (x : den e) (off : Nat) (ys : List TC) : Option (den e) := packT e (setAt (tcells e x) off ys)
def tevStore (P : Program) (t : TypeId) (p x : TD) (σ : TSt) (k : TRes → Option α) : Option α := match x with
  | .one x => match tsz P t with
    | some n => if (cellsT x).length = n ∧ (cellsT x).all okT = true then
        match p with
        | .one (.c (.box β off)) => match lk σ.boxes β with
          | some q => if off + n ≤ q.2.length ∧ plainB q.1 = true then k { val := .one (.c .undef), box := some (β, (q.1, setAt q.2 off (cellsT x))) } else none
          | none => none
        | .one (.c (.wp tt g j off)) => match lk σ.rows tt with
          | some r => if r.gen = g ∧ r.wr = true ∧ off + n ≤ width r.e then (nth r.xs j).bind fun y => match setT r.e y off (cellsT x) with
              | some y' => k { val := .one (.c .undef), row := some (tt, { r with xs := r.xs.set j y' }) }
              | none => none
            else none
          | none => none
        | .one (.c (.bp β o len n)) => match lk σ.boxes β, cellsT x with
          | some q, [.d e y] => match unDs e ((q.2.drop o).take len) with
            | some xs => bif inA n xs.length && plainB q.1 then k { val := .one (.c .undef), box := some (β, (q.1, q.2.take o ++ (updA n y 0 xs).map (TC.d e) ++ q.2.drop (o + len))) } else none
            | none => none
          | _, _ => none
        | _ => none
      else none
    | none => none
  | _ => none
theorem d_inj : ∀ {l m : List Dat}, l.map C.d = m.map C.d → l = m
  | [], [], _ => rfl
  | x :: l, y :: m, h => by
    simp only [List.map_cons, List.cons.injEq, C.d.injEq] at h
    rw [h.1, d_inj h.2]
  | [], _ :: _, h => by simp at h
  | _ :: _, [], h => by simp at h
theorem setT_ok {e : Ty} {x x' : den e} {off : Nat} {ys : List TC} (h : setT e x off ys = some x') (hl : off + ys.length ≤ width e) :
    ∃ ds, (ys.map eC).mapM datOf = some ds ∧ toDats e x' = setAt (toDats e x) off ds := by
  have h1 := packT_ok h
  rw [map_setAt, tcells_ok] at h1
  have hx := toDats_len e x
  have hx' := toDats_len e x'
  have h2 : ys.map eC = (((toDats e x').drop off).take ys.length).map C.d := by
    rw [List.map_take, List.map_drop, ← h1]
    unfold setAt
    have e0 : ((List.map C.d (toDats e x)).take off).length = off := by rw [List.length_take, List.length_map]; omega
    rw [List.append_assoc, List.drop_append, e0, Nat.sub_self, List.drop_zero, List.drop_eq_nil_of_le (by omega), List.nil_append, List.take_append_of_le_length (by rw [List.length_map]; omega), List.take_of_length_le (by rw [List.length_map]; omega)]
  refine ⟨_, by rw [h2]; exact mapM_datOf _, ?_⟩
  apply d_inj
  rw [← h1, map_setAt, h2]
theorem tevStore_ok {t : TypeId} {p x : TD} {k : TRes → Option α} {r : α} (h : tevStore P t p x σ k = some r) :
    ∃ y, k y = some r ∧ Sim (evStore P t (eD p) (eD x) (eS σ).box (eS σ).row) y := by
  unfold tevStore at h
  split at h
  case h_2 => cases h
  rename_i x1
  split at h
  case h_2 => cases h
  rename_i n hn
  split at h
  case isFalse => cases h
  rename_i hc
  obtain ⟨hc1, hc2⟩ := hc
  have hc1' : (cellsOf1 (e1 x1)).length = n := by rw [cellsT_ok, List.length_map]; exact hc1
  have hc2' : (cellsOf1 (e1 x1)).all okC = true := by rw [cellsT_ok]; exact allT_ok hc2
  split at h
  · rename_i β off
    split at h
    case h_2 => cases h
    rename_i q hq
    split at h
    case isFalse => cases h
    rename_i hle
    obtain ⟨hle, hpb⟩ := hle
    refine ⟨_, h, Sim.tr ?_⟩
    show evStore P t (.one (.c (.box β off))) (.one (e1 x1)) _ _ = _
    have e5 := cellsT_ok x1
    generalize e1 x1 = y1 at hc1' hc2' e5
    rw [e5] at hc2'
    simp only [evStore, hn, e5, hc1, hc2', and_self, if_true, eS_box hq, List.length_map, hle, plainB_lt hpb, eRes, Option.map_some, eB, map_setAt]
    rfl
  · rename_i tt g j off
    split at h
    case h_2 => cases h
    rename_i r' hr
    split at h
    case isFalse => cases h
    rename_i hg
    obtain ⟨hg1, hg2, hg3⟩ := hg
    obtain ⟨y, hy, h⟩ := Option.bind_eq_some_iff.1 h
    split at h
    case h_2 => cases h
    rename_i y' hy'
    obtain ⟨ds, k1, k2⟩ := setT_ok hy' (by omega)
    obtain ⟨h1, h2⟩ := getD_nth hy
    refine ⟨_, h, _, h2, ?_⟩
    rw [← cellsT_ok] at k1
    show evStore P t (.one (.c (.wp tt g j off))) (.one (e1 x1)) _ _ = _
    generalize e1 x1 = y1 at hc1' hc2' k1
    simp only [evStore, hn, hc1', hc2', and_self, if_true, eS_row hr, k1]
    have hg' : (eR r').gen = g ∧ (eR r').wr = true ∧ off + n ≤ (eR r').sz := ⟨hg1, hg2, hg3⟩
    rw [if_pos hg']
    have h3 : (eR r').xs.getD j [] = toDats r'.e y := h1
    rw [h3, ← k2]
    simp only [eRes, Option.map_some, eR, List.map_set]
    rfl
  · rename_i β o len m
    split at h
    case h_2 => cases h
    rename_i q e y hq hy
    split at h
    case h_2 => cases h
    rename_i xs hxs
    obtain ⟨hb0, h⟩ := bif_some h
    obtain ⟨hb, hpb⟩ := Bool.and_eq_true_iff.1 hb0
    replace h : k { val := .one (.c .undef), box := some (β, (q.1, q.2.take o ++ (updA m y 0 xs).map (TC.d e) ++ q.2.drop (o + len))) } = some r := h
    obtain ⟨hb1, hb2⟩ := inA_ok hb
    refine ⟨_, h, Sim.tr ?_⟩
    have hmid := unDs_ok hxs
    have hj : m.toNat < (xs.map (TC.d e)).length := by rw [List.length_map]; omega
    have key : q.2.take o ++ (updA m y 0 xs).map (TC.d e) ++ q.2.drop (o + len) = setAt q.2 (o + m.toNat * 1) [.d e y] := by
      rw [updA_set, List.map_set, Nat.mul_one]
      exact set_mid hmid hj
    have hlen : o + m.toNat * 1 + 1 ≤ q.2.length := by
      have := congrArg List.length hmid
      rw [List.length_take, List.length_drop] at this
      omega
    rw [key]
    have hn1 : n = 1 := by rw [← hc1, hy]; rfl
    subst hn1
    show evStore P t (.one (.c (.box β (o + m.toNat * 1)))) (.one (e1 x1)) _ _ = _
    have e5 := cellsT_ok x1
    generalize e1 x1 = y1 at hc1' hc2' e5
    rw [e5] at hc2'
    rw [hy] at e5 hc2'
    simp only [evStore, hn, e5, List.map_cons, List.map_nil, List.length_cons, List.length_nil, eS_box hq, List.length_map, eRes, Option.map_some, eB, map_setAt]
    rw [if_pos ⟨trivial, by simpa using hc2'⟩, if_pos ⟨hlen, plainB_lt hpb⟩]
    rfl
  · cases h

/-! new variables, fields, elements -/
def tevAlloc (P : Program) (dst : Option Nat) (t : TypeId) (σ : TSt) (k : TRes → Option α) : Option α := match dst, tzero P t with
  | some i, some z => match lk σ.boxes i, tvals z with
    | none, some cs => if z.all Value.oneCell' = true ∧ i < 1000000 ∧ plainB t = true then k { val := .one (.c (.box i 0)), box := some (i, (t, cs)) } else none
    | _, _ => none
  | _, _ => none
theorem tevAlloc_ok {dst : Option Nat} {t : TypeId} {k : TRes → Option α} {r : α} (h : tevAlloc P dst t σ k = some r) :
    ∃ y, k y = some r ∧ Sim (evAlloc P dst t (eS σ).box) y := by
  unfold tevAlloc at h
  split at h
  case h_2 => cases h
  rename_i i z hz
  split at h
  case h_2 => cases h
  rename_i cs hb hcs
  split at h
  case isFalse => cases h
  rename_i ha
  refine ⟨_, h, Sim.tr ?_⟩
  obtain ⟨ha, hi, hpb⟩ := ha
  simp only [evAlloc, hz, eS_noBox hb, ha, hi, plainB_lt hpb, and_self, if_true, eRes, eD, e1, eC, Option.map_some, eB, tvals_ok hcs, Option.map_none]
def tevBox (dst : Option Nat) (t : TypeId) (x : TD) (σ : TSt) (k : TRes → Option α) : Option α := match dst, x with
  | some i, .one x => match lk σ.boxes i with
    | none => if (cellsT x).all okT = true ∧ i < 1000000 ∧ plainB t = true then k { val := .one (.c (.box i 0)), box := some (i, (t, cellsT x)) } else none
    | some _ => none
  | _, _ => none
theorem tevBox_ok {dst : Option Nat} {t : TypeId} {x : TD} {k : TRes → Option α} {r : α} (h : tevBox dst t x σ k = some r) :
    ∃ y, k y = some r ∧ Sim (evBox dst t (eD x) (eS σ).box) y := by
  unfold tevBox at h
  split at h
  case h_2 => cases h
  rename_i i x1
  split at h
  case h_2 => cases h
  rename_i hb
  split at h
  case isFalse => cases h
  rename_i ha
  refine ⟨_, h, Sim.tr ?_⟩
  obtain ⟨ha, hi, hpb⟩ := ha
  have ha' : (cellsOf1 (e1 x1)).all okC = true := by rw [cellsT_ok]; exact allT_ok ha
  show evBox (some i) t (.one (e1 x1)) _ = _
  have e5 := cellsT_ok x1
  generalize e1 x1 = y1 at ha' e5
  rw [e5] at ha'
  simp only [evBox, e5, eS_noBox hb, ha', hi, plainB_lt hpb, and_self, if_true, eRes, Option.map_some, eB, Option.map_none]
  rfl
def tevFieldAddr (P : Program) (t : TypeId) (p : TD) (f : Nat) (k : TRes → Option α) : Option α := match fieldP P t f with
  | some (off, _) => match p with
    | .one (.c (.box β o)) => k { val := .one (.c (.box β (o + off))) }
    | .one (.c (.rp e o x)) => if o + off ≤ width e then k { val := .one (.c (.rp e (o + off) x)) } else none
    | .one (.c (.wp tt g j o)) => k { val := .one (.c (.wp tt g j (o + off))) }
    | _ => none
  | none => none
theorem tevFieldAddr_ok {t : TypeId} {p : TD} {f : Nat} {k : TRes → Option α} {r : α} (h : tevFieldAddr P t p f k = some r) :
    ∃ y, k y = some r ∧ Sim (evFieldAddr P t (eD p) f) y := by
  unfold tevFieldAddr at h
  split at h
  case h_2 => cases h
  rename_i off ft hf
  split at h
  · exact ⟨_, h, Sim.tr (by simp only [evFieldAddr, hf, eD, e1, eC]; rfl)⟩
  · rename_i e o x
    split at h
    case isFalse => cases h
    rename_i hle
    refine ⟨_, h, Sim.tr ?_⟩
    have : off ≤ ((toDats e x).drop o).length := by rw [List.length_drop, toDats_len]; omega
    simp only [evFieldAddr, hf, eD, e1, eC, this, if_true, List.drop_drop, eRes, Option.map_none]
  · exact ⟨_, h, Sim.tr (by simp only [evFieldAddr, hf, eD, e1, eC]; rfl)⟩
  · cases h
def tevField (P : Program) (t : TypeId) (x : TD) (f : Nat) (k : TRes → Option α) : Option α := match fieldP P t f, x with
  | some (off, ft), .one (.agg cs) => match aggD P ft, tsz P ft with
    | some true, some n => if off + n ≤ cs.length then k { val := .one (.agg ((cs.drop off).take n)) } else none
    | some false, _ => match nth cs off with
      | some c => k { val := .one (.c c) }
      | none => none
    | _, _ => none
  | _, _ => none
theorem tevField_ok {t : TypeId} {x : TD} {f : Nat} {k : TRes → Option α} {r : α} (h : tevField P t x f k = some r) :
    ∃ y, k y = some r ∧ Sim (evField P t (eD x) f) y := by
  unfold tevField at h
  split at h
  case h_2 => cases h
  rename_i off ft cs hf
  split at h
  · rename_i n h1 h2
    split at h
    case isFalse => cases h
    rename_i hle
    refine ⟨_, h, Sim.tr ?_⟩
    simp only [evField, hf, eD, e1, h1, h2, List.length_map, hle, if_true, eRes, List.map_take, List.map_drop, Option.map_none]
  · rename_i h1
    split at h
    case h_2 => cases h
    rename_i c hc
    refine ⟨_, h, Sim.tr ?_⟩
    rw [nth_eq] at hc
    simp only [evField, hf, eD, e1, h1, List.getElem?_map, hc, Option.map_some, eRes, Option.map_none]
  · cases h
def tevExtract (x : TD) (i : Nat) (k : TRes → Option α) : Option α := match x with
  | .tup xs => match nth xs i with
    | some y => k { val := .one y }
    | none => none
  | _ => none
theorem tevExtract_ok {x : TD} {i : Nat} {k : TRes → Option α} {r : α} (h : tevExtract x i k = some r) : ∃ y, k y = some r ∧ Sim (evExtract (eD x) i) y := by
  unfold tevExtract at h
  split at h
  case h_2 => cases h
  rename_i xs
  split at h
  case h_2 => cases h
  rename_i y hy
  rw [nth_eq] at hy
  exact ⟨_, h, Sim.tr (by simp only [evExtract, eD, List.getElem?_map, hy, Option.map_some, eRes, Option.map_none])⟩
/-- a place of at most two, one by one -/
def sel2 (n : Int) (len : Nat) (f : Nat → Option α) : Option α := if n = 0 then (bif Nat.blt 0 len then f 0 else none) else if n = 1 then (bif Nat.blt 1 len then f 1 else none) else none
theorem sel2_some {n : Int} {len : Nat} {f : Nat → Option α} {r : α} (h : sel2 n len f = some r) : ∃ j : Nat, n = j ∧ j < len ∧ f j = some r := by
  unfold sel2 at h
  split at h
  · rename_i h0
    cases hb : Nat.blt 0 len with
    | false => rw [hb] at h; cases h
    | true => rw [hb] at h; exact ⟨0, h0, by simpa using hb, h⟩
  · split at h
    case isFalse => cases h
    rename_i h1
    cases hb : Nat.blt 1 len with
    | false => rw [hb] at h; cases h
    | true => rw [hb] at h; exact ⟨1, h1, by simpa using hb, h⟩
def tevIndexArr (P : Program) (t : TypeId) (cs : List TC) (n : Int) (k : TRes → Option α) : Option α := match cs, P.underlying t with
  | .d e _ :: _, some (.array m el) => match tsz P el, aggD P el, unDs e cs with
    | some 1, some false, some xs => if m = xs.length then (idxL xs n).bind fun y => k { val := .one (.c (.d e y)) } else none
    | _, _, _ => none
  | _, _ => none
/-- an array of at most two structs -/
def arrAgg (P : Program) (t : TypeId) : Bool := match P.underlying t with
  | some (.array _ el) => match aggD P el with
    | some true => true
    | _ => false
  | _ => false
def tevIndexAgg (P : Program) (t : TypeId) (cs : List TC) (n : Int) (k : TRes → Option α) : Option α := match P.underlying t with
  | some (.array m el) => match tsz P el, aggD P el with
    | some z, some true => bif (Nat.ble m 2 && Nat.beq cs.length (m * z)) then sel2 n m (fun j => k { val := .one (.agg ((cs.drop (j * z)).take z)) }) else none
    | _, _ => none
  | _ => none
theorem tevIndexAgg_ok {t : TypeId} {cs : List TC} {ik : IntKind} {n : Int} {k : TRes → Option α} {r : α} (h : tevIndexAgg P t cs n k = some r) :
    ∃ y, k y = some r ∧ Sim (evIndex P t (eD (.one (.agg cs))) (eD (.one (.c (.d (.int ik) n))))) y := by
  unfold tevIndexAgg at h
  split at h
  case h_2 => cases h
  rename_i m el hu
  split at h
  case h_2 => cases h
  rename_i z hs ha
  cases hc : (Nat.ble m 2 && Nat.beq cs.length (m * z)) with
  | false => rw [hc] at h; cases h
  | true =>
    rw [hc] at h
    replace h : sel2 n m (fun j => k { val := .one (.agg ((cs.drop (j * z)).take z)) }) = some r := h
    have hl : cs.length = m * z := Nat.eq_of_beq_eq_true (Bool.and_eq_true_iff.1 hc).2
    obtain ⟨j, hj, hjl, h⟩ := sel2_some h
    have hj' : Int.toNat n = j := by rw [hj]; rfl
    refine ⟨_, h, ((0 : Int) ≤ n ∧ n < (m : Int) ∧ (cs.map eC).length = m * z), ⟨by rw [hj]; exact Int.natCast_nonneg j, by rw [hj]; exact Int.ofNat_lt.2 hjl, by rw [List.length_map]; exact hl⟩, ?_⟩
    have e0 : ∀ z' : Nat, z' = z → evIndex P t (.one (.agg (cs.map eC))) (.one (.c (.d (.v (.int ik n))))) = some { cond := (0 : Int) ≤ n ∧ n < (m : Int) ∧ (cs.map eC).length = m * z, val := .one (.agg (((cs.map eC).drop (j * z)).take z)) } := fun z' _ => by
      simp only [evIndex, hu, hs, ha, hj']
    rw [show eD (.one (.agg cs)) = .one (.agg (cs.map eC)) from rfl, show eD (.one (.c (.d (.int ik) n))) = .one (.c (.d (.v (.int ik n)))) from rfl, e0 z rfl]
    simp only [eRes, eD, e1, Option.map_none, List.map_take, List.map_drop]
def tevIndex (P : Program) (t : TypeId) (x i : TD) (k : TRes → Option α) : Option α := match x, i with
  | .one (.c (.d .str s)), .one (.c (.d (.int _) n)) => match P.underlying t with
    | some .string => (sAt s n).bind fun c => k { val := .one (.c (.d (.int .u8) c)) }
    | _ => none
  | .one (.agg cs), .one (.c (.d (.int _) n)) => bif arrAgg P t then tevIndexAgg P t cs n k else tevIndexArr P t cs n k
  | _, _ => none
theorem sAt_some {s : List UInt8} {n c : Int} (h : sAt s n = some c) : (0 ≤ n ∧ n < (ba s).size) ∧ c = byteAt (ba s) n := by
  unfold sAt idxL at h
  split at h
  case isFalse => cases h
  rename_i hn
  obtain ⟨b, hb, rfl⟩ := Option.map_eq_some_iff.1 h
  rw [nth_eq] at hb
  obtain ⟨h1, rfl⟩ := List.getElem?_eq_some_iff.1 hb
  have hsz : (ba s).size = s.length := by simp [ba, ByteArray.size]
  refine ⟨⟨hn, by omega⟩, ?_⟩
  unfold byteAt ba
  simp [List.getD, h1]
theorem idxL_some0 {β : Type} {l : List β} {n : Int} {y : β} (h : idxL l n = some y) : (0 ≤ n ∧ n < l.length) ∧ nth l n.toNat = some y := by
  unfold idxL at h
  split at h
  case isFalse => cases h
  rename_i hn
  have h' := h
  rw [nth_eq] at h'
  obtain ⟨h1, _⟩ := List.getElem?_eq_some_iff.1 h'
  exact ⟨⟨hn, by omega⟩, h⟩
theorem tevIndexArr_ok {t : TypeId} {cs : List TC} {ik : IntKind} {n : Int} {k : TRes → Option α} {r : α} (h : tevIndexArr P t cs n k = some r) : ∃ y, k y = some r ∧ Sim (evIndex P t (.one (.agg (cs.map eC))) (.one (.c (.d (.v (.int ik n)))))) y := by
  unfold tevIndexArr at h
  split at h
  case h_2 => cases h
  rename_i e x0 cs0 m el hu
  split at h
  case h_2 => cases h
  rename_i xs hs ha hxs
  split at h
  case isFalse => cases h
  rename_i hm
  obtain ⟨y, hy, h⟩ := Option.bind_eq_some_iff.1 h
  obtain ⟨h1, h2⟩ := idxL_some0 hy
  have hcs := unDs_ok hxs
  refine ⟨_, h, (0 ≤ n ∧ n < ((List.map eC (TC.d e x0 :: cs0)).length : Int) ∧ m = (List.map eC (TC.d e x0 :: cs0)).length), ?_, ?_⟩
  · rw [hcs, List.length_map, List.length_map]
    exact ⟨h1.1, h1.2, hm⟩
  · have e5 : (List.map eC (TC.d e x0 :: cs0)).getD n.toNat C.bad = eC (TC.d e y) := by
      rw [nth_eq] at h2
      rw [hcs]
      simp [List.getD, h2]
    simp only [evIndex, hu, hs, ha, e5, eRes, Option.map_none]
    rfl
theorem tevIndex_ok {t : TypeId} {x i : TD} {k : TRes → Option α} {r : α} (h : tevIndex P t x i k = some r) : ∃ y, k y = some r ∧ Sim (evIndex P t (eD x) (eD i)) y := by
  unfold tevIndex at h
  split at h
  case h_3 => cases h
  case h_2 =>
    rename_i cs ik n
    cases hb : arrAgg P t with
    | true => rw [hb] at h; exact tevIndexAgg_ok (ik := ik) h
    | false => rw [hb] at h; exact tevIndexArr_ok (ik := ik) h
  rename_i s k' n
  split at h
  case h_2 => cases h
  rename_i hu
  obtain ⟨c, hc, h⟩ := Option.bind_eq_some_iff.1 h
  obtain ⟨h1, rfl⟩ := sAt_some hc
  refine ⟨_, h, _, h1, ?_⟩
  simp only [eD, e1, eC, toDats, List.headD_cons, evIndex, hu]
  rfl
def tevIndexAddr (P : Program) (t : TypeId) (x i : TD) (σ : TSt) (k : TRes → Option α) : Option α := match P.underlying t with
  | some (.slice el) => match tsz P el, x, i with
    | some m, .one (.c (.d (.lst e) l)), .one (.c (.d (.int _) n)) => if m = width e then (idxL l n).bind fun y => k { val := .one (.c (.rp e 0 y)) } else none
    | some m, .one (.c (.row tt g)), .one (.c (.d (.int _) n)) => match lk σ.rows tt with
      | some r => if r.gen = g ∧ width r.e = m then (idxL r.xs n).bind fun _ => k { val := .one (.c (.wp tt g (Int.toNat n) 0)) } else none
      | none => none
    | _, _, _ => none
  | some (.array len el) => match tsz P el, x, i with
    | some m, .one (.c (.box β o)), .one (.c (.d (.int _) n)) => bif Nat.beq len 12 && Nat.beq m 1 then (bif inA n len then k { val := .one (.c (.bp β o len n)) } else none) else bif Nat.ble len 2 then sel2 n len (fun j => k { val := .one (.c (.box β (o + j * m))) }) else if (@LE.le Int _ 0 n ∧ @LT.lt Int _ n ((len : Nat) : Int)) then k { val := .one (.c (.box β (o + Int.toNat n * m))) } else none
    | _, _, _ => none
  | _ => none
theorem idxL_some {β : Type} {l : List β} {n : Int} {y : β} (h : idxL l n = some y) : (0 ≤ n ∧ n < l.length) ∧ nth l n.toNat = some y := by
  unfold idxL at h
  split at h
  case isFalse => cases h
  rename_i hn
  have h' := h
  rw [nth_eq] at h'
  obtain ⟨h1, _⟩ := List.getElem?_eq_some_iff.1 h'
  exact ⟨⟨hn, by omega⟩, h⟩
theorem tevIndexAddr_ok {t : TypeId} {x i : TD} {k : TRes → Option α} {r : α} (h : tevIndexAddr P t x i σ k = some r) : ∃ y, k y = some r ∧ Sim (evIndexAddr P t (eD x) (eD i) (eS σ).row) y := by
  unfold tevIndexAddr at h
  split at h
  case h_3 => cases h
  case h_2 =>
    rename_i len el hu
    split at h
    case h_2 => cases h
    rename_i m β o k' n hm
    cases h12 : Nat.beq len 12 && Nat.beq m 1 with
    | true =>
      rw [h12] at h
      replace h : (bif inA n len then k { val := .one (.c (.bp β o len n)) } else none) = some r := h
      cases hb : inA n len with
      | false => rw [hb] at h; cases h
      | true =>
      rw [hb] at h
      have hm1 : m = 1 := Nat.eq_of_beq_eq_true (Bool.and_eq_true_iff.1 h12).2
      subst hm1
      exact ⟨_, h, (@LE.le Int _ 0 n ∧ @LT.lt Int _ n ((len : Nat) : Int)), inA_ok hb, by simp only [eD, e1, eC, toDats, List.headD_cons, evIndexAddr, hu, hm, eRes, Option.map_none]⟩
    | false =>
    rw [h12] at h
    cases hle : Nat.ble len 2 with
    | true =>
      rw [hle] at h
      replace h : sel2 n len (fun j => k { val := .one (.c (.box β (o + j * m))) }) = some r := h
      obtain ⟨j, hj, hjl, h⟩ := sel2_some h
      have hj' : Int.toNat n = j := by rw [hj]; rfl
      exact ⟨_, h, (@LE.le Int _ 0 n ∧ @LT.lt Int _ n ((len : Nat) : Int)), ⟨by rw [hj]; exact Int.natCast_nonneg j, by rw [hj]; exact Int.ofNat_lt.2 hjl⟩, by simp only [eD, e1, eC, toDats, List.headD_cons, evIndexAddr, hu, hm, eRes, Option.map_none, hj']⟩
    | false =>
    rw [hle] at h
    replace h : (if (@LE.le Int _ 0 n ∧ @LT.lt Int _ n ((len : Nat) : Int)) then k { val := .one (.c (.box β (o + Int.toNat n * m))) } else none) = some r := h
    split at h
    case isFalse => cases h
    rename_i hc
    exact ⟨_, h, (@LE.le Int _ 0 n ∧ @LT.lt Int _ n ((len : Nat) : Int)), hc, by simp only [eD, e1, eC, toDats, List.headD_cons, evIndexAddr, hu, hm, eRes, Option.map_none]⟩
  rename_i el hu
  split at h
  · rename_i m e l k' n hm
    split at h
    case isFalse => cases h
    rename_i hme
    subst hme
    obtain ⟨y, hy, h⟩ := Option.bind_eq_some_iff.1 h
    obtain ⟨h1, h2⟩ := idxL_some hy
    obtain ⟨h3, h4⟩ := getD_nth h2
    refine ⟨_, h, (@LE.le Int _ 0 n ∧ @LT.lt Int _ n ((l.map (toDats e)).length : Nat)), by rw [List.length_map]; exact h1, ?_⟩
    have h3' : ((l : List (den e)).map (toDats e)).getD (Int.toNat n) [] = toDats e y := h3
    simp only [eD, e1, eC, toDats, List.headD_cons, evIndexAddr, hu, hm, if_true, h3', eRes, Option.map_none, List.drop_zero]
  · rename_i m tt g k' n hm
    split at h
    case h_2 => cases h
    rename_i r' hr
    split at h
    case isFalse => cases h
    rename_i hg
    obtain ⟨y, hy, h⟩ := Option.bind_eq_some_iff.1 h
    obtain ⟨h1, h2⟩ := idxL_some hy
    refine ⟨_, h, (@LE.le Int _ 0 n ∧ @LT.lt Int _ n ((eR r').xs.length : Nat)), by show _ ∧ @LT.lt Int _ n ((r'.xs.map (toDats r'.e)).length : Nat); rw [List.length_map]; exact h1, ?_⟩
    have hg' : (eR r').gen = g ∧ (eR r').sz = m := hg
    simp only [eD, e1, eC, toDats, List.headD_cons, evIndexAddr, hu, hm, eS_row hr, hg', and_self, if_true, eRes, Option.map_none]
  · cases h
end Go.Proofs.YtaglhmoldbndkaaDoor.AM

/- Typed data over the plain machine: slices, lengths, literals, appends, operators; all operations together. -/
namespace Go.Proofs.YtaglhmoldbndkaaDoor.AM
open Go.RowKit
set_option linter.unusedVariables false
set_option linter.unusedSimpArgs false
variable {α : Type} {P : Program} {σ : TSt}

def bndT (d : Int) : Option TD → Option Int
  | none => some d
  | some (.one (.c (.d (.int _) n))) => some n
  | some _ => none
theorem bndT_ok {d n : Int} {x : Option TD} (h : bndT d x = some n) : bnd d (x.map eD) = some n := by
  unfold bndT at h
  split at h
  · simp only [Option.some.injEq] at h; subst h; rfl
  · simp only [Option.some.injEq] at h; subst h; rfl
  · cases h
def tevSlice (P : Program) (t : TypeId) (x : TD) (lo hi : Option TD) (k : TRes → Option α) : Option α := match P.underlying t, x with
  | some .string, .one (.c (.d .str s)) => match bndT 0 lo, bndT (List.length s) hi with
    | some l, some h => (subO s l h).bind fun y => k { val := .one (.c (.d .str y)) }
    | _, _ => none
  | some (.slice el), .one (.c (.d (.lst e) xs)) => match bndT 0 lo, bndT (List.length xs) hi with
    | some l, some h => if tsz P el = some (width e) then (subO xs l h).bind fun y => k { val := .one (.c (.d (.lst e) y)) } else none
    | _, _ => none
  | _, _ => none
theorem subO_some {β : Type} {l : List β} {a b : Int} {y : List β} (h : subO l a b = some y) : (0 ≤ a ∧ a ≤ b ∧ b ≤ l.length) ∧ y = (l.drop a.toNat).take (b.toNat - a.toNat) := by
  unfold subO at h
  split at h
  case isFalse => cases h
  rename_i hc
  simp only [Option.some.injEq] at h
  exact ⟨hc, h.symm⟩
theorem ba_len (s : List UInt8) : (ba s).size = s.length := by simp [ba, ByteArray.size]
theorem ba_extract (s : List UInt8) (a b : Nat) : (ba s).extract a b = ba ((s.drop a).take (b - a)) := by
  unfold ba
  apply ByteArray.ext
  rw [ByteArray.data_extract]
  apply Array.toList_inj.1
  rw [Array.toList_extract, List.extract_eq_take_drop]
theorem tevSlice_ok {t : TypeId} {x : TD} {lo hi : Option TD} {k : TRes → Option α} {r : α} (h : tevSlice P t x lo hi k = some r) : ∃ y, k y = some r ∧ Sim (evSlice P t (eD x) (lo.map eD) (hi.map eD)) y := by
  unfold tevSlice at h
  split at h
  · rename_i s hu
    split at h
    case h_2 => cases h
    rename_i l hh hl hhh
    obtain ⟨y, hy, h⟩ := Option.bind_eq_some_iff.1 h
    obtain ⟨h1, rfl⟩ := subO_some hy
    refine ⟨_, h, _, h1, ?_⟩
    simp only [evSlice, eD, e1, eC, toDats, List.headD_cons, hu, bndT_ok hl, ba_extract, ba_len, bndT_ok hhh]
    rfl
  · rename_i el e xs hu
    split at h
    case h_2 => cases h
    rename_i l hh hl hhh
    split at h
    case isFalse => cases h
    rename_i hsz
    obtain ⟨y, hy, h⟩ := Option.bind_eq_some_iff.1 h
    obtain ⟨h1, rfl⟩ := subO_some hy
    refine ⟨_, h, _, h1, ?_⟩
    simp only [evSlice, eD, e1, eC, toDats, List.headD_cons, hu, bndT_ok hl, hsz, if_true, List.length_map, ← List.map_drop, ← List.map_take, bndT_ok hhh]
    rfl
  · cases h
def tevSliceRow (P : Program) (t : TypeId) (x : TD) (lo hi : Option TD) (σ : TSt) (k : TRes → Option α) : Option α := match P.underlying t, x with
  | some (.slice el), .one (.c (.row tt g)) => match lk σ.rows tt with
    | some r => match bndT 0 lo, bndT (List.length r.xs) hi with
      | some l, some h => if r.gen = g ∧ tsz P el = some (width r.e) then (subO r.xs l h).bind fun y => k { val := .one (.c (.d (.lst r.e) y)), row := some (tt, { r with wr := false }) } else none
      | _, _ => none
    | none => none
  | _, _ => none
theorem evSlice_row {t : TypeId} {tt g : Nat} {lo hi : Option D} : evSlice P t (.one (.c (.row tt g))) lo hi = none := by
  unfold evSlice
  split
  · rename_i h; cases h
  · rename_i h; cases h
  · rfl
theorem tevSliceRow_ok {t : TypeId} {x : TD} {lo hi : Option TD} {k : TRes → Option α} {r : α} (h : tevSliceRow P t x lo hi σ k = some r) : ∃ y, k y = some r ∧ evSlice P t (eD x) (lo.map eD) (hi.map eD) = none ∧ Sim (evSliceRow P t (eD x) (lo.map eD) (hi.map eD) (eS σ).row) y := by
  unfold tevSliceRow at h
  split at h
  case h_2 => cases h
  rename_i el tt g hu
  split at h
  case h_2 => cases h
  rename_i r' hr
  split at h
  case h_2 => cases h
  rename_i l hh hl hhh
  split at h
  case isFalse => cases h
  rename_i hg
  obtain ⟨y, hy, h⟩ := Option.bind_eq_some_iff.1 h
  obtain ⟨h1, rfl⟩ := subO_some hy
  refine ⟨_, h, evSlice_row, _, h1, ?_⟩
  have hlen : (eR r').xs.length = r'.xs.length := by simp [eR]
  obtain ⟨rfl, hsz⟩ := hg
  have hg' : (eR r').gen = r'.gen ∧ tsz P el = some (eR r').sz := ⟨rfl, hsz⟩
  simp only [evSliceRow, eD, e1, eC, hu, eS_row hr, bndT_ok hl, hlen, bndT_ok hhh]
  rw [if_pos hg']
  have e2 : ((eR r').xs.drop l.toNat).take (hh.toNat - l.toNat) = ((r'.xs.drop l.toNat).take (hh.toNat - l.toNat)).map (toDats r'.e) := by simp [eR]
  rw [e2]
  rfl
def tevNil (x : TD) (k : TRes → Option α) : Option α := match x with
  | .one (.c (.box β o)) => k { val := .one (.c (.box β o)) }
  | .one (.c (.rp e o y)) => k { val := .one (.c (.rp e o y)) }
  | .one (.c (.wp t g j o)) => k { val := .one (.c (.wp t g j o)) }
  | .one (.c (.bp β o l n)) => k { val := .one (.c (.bp β o l n)) }
  | _ => none
theorem tevNil_ok {x : TD} {k : TRes → Option α} {r : α} (h : tevNil x k = some r) : ∃ y, k y = some r ∧ Sim (evNil (eD x)) y := by
  unfold tevNil at h
  split at h
  · exact ⟨_, h, Sim.tr rfl⟩
  · exact ⟨_, h, Sim.tr rfl⟩
  · exact ⟨_, h, Sim.tr rfl⟩
  · exact ⟨_, h, Sim.tr rfl⟩
  · cases h
def tevLen (P : Program) (t : TypeId) (x : TD) (σ : TSt) (k : TRes → Option α) : Option α := match P.underlying t, x with
  | some .string, .one (.c (.d .str s)) => k { val := .one (.c (.d (.int .i64) (List.length s : Nat))) }
  | some (.slice _), .one (.c (.d (.lst _) xs)) => k { val := .one (.c (.d (.int .i64) (List.length xs : Nat))) }
  | some (.slice _), .one (.c .nil) => k { val := .one (.c (.d (.int .i64) (0 : Int))) }
  | some (.slice _), .one (.c (.row tt g)) => match lk σ.rows tt with
    | some r => if r.gen = g then k { val := .one (.c (.d (.int .i64) (List.length r.xs : Nat))) } else none
    | none => none
  | _, _ => none
theorem tevLen_ok {t : TypeId} {x : TD} {k : TRes → Option α} {r : α} (h : tevLen P t x σ k = some r) : ∃ y, k y = some r ∧ Sim (evLen P t (eD x) (eS σ).row) y := by
  unfold tevLen at h
  split at h
  · rename_i s hu
    refine ⟨_, h, Sim.tr ?_⟩
    simp only [evLen, eD, e1, eC, toDats, List.headD_cons, hu, ba_len]
    rfl
  · rename_i el e xs hu
    refine ⟨_, h, Sim.tr ?_⟩
    simp only [evLen, eD, e1, eC, toDats, List.headD_cons, hu, List.length_map]
    rfl
  · rename_i el hu
    refine ⟨_, h, Sim.tr ?_⟩
    simp only [evLen, eD, e1, eC, hu]
    rfl
  · rename_i el tt g hu
    split at h
    case h_2 => cases h
    rename_i r' hr
    split at h
    case isFalse => cases h
    rename_i hg
    refine ⟨_, h, Sim.tr ?_⟩
    have hg' : (eR r').gen = g := hg
    simp only [evLen, eD, e1, eC, hu, eS_row hr, hg', if_true]
    have : (eR r').xs.length = r'.xs.length := by simp [eR]
    rw [this]
    rfl
  · cases h

/-! literals -/
def fillT (place : Nat → Option (Nat × Nat)) (cs : List TC) : List (Nat × List TC) → Option (List TC)
  | [] => some cs
  | (i, xs) :: rest => match place i with
    | some (off, size) => if xs.length = size ∧ off + xs.length ≤ cs.length then fillT place (setAt cs off xs) rest else none
    | none => none
def eQ (q : Nat × List TC) : Nat × List C := (q.1, q.2.map eC)
theorem fillT_ok {place : Nat → Option (Nat × Nat)} : ∀ {qs : List (Nat × List TC)} {cs cs' : List TC}, fillT place cs qs = some cs' → fillC place (cs.map eC) (qs.map eQ) = some (cs'.map eC)
  | [], cs, cs', h => by simp only [fillT, Option.some.injEq] at h; subst h; rfl
  | (i, xs) :: rest, cs, cs', h => by
    unfold fillT at h
    split at h
    case h_2 => cases h
    rename_i off size hp
    split at h
    case isFalse => cases h
    rename_i hc
    have h3 := fillT_ok h
    rw [map_setAt] at h3
    show (match place i with | some (off, size) => if (xs.map eC).length = size ∧ off + (xs.map eC).length ≤ (cs.map eC).length then fillC place (setAt (cs.map eC) off (xs.map eC)) (rest.map eQ) else none | none => none) = _
    rw [hp]
    simp only [List.length_map]
    rw [if_pos hc, h3]
def builtT (P : Program) (t : TypeId) (parts : List (Nat × List TC)) : Option (List TC) := match tzero P t, layT P t, arrT P t with
  | some z, some pl, _ => match tvals z with
    | some cs => if z.all Value.oneCell' = true then fillT (fun i => nth pl i) cs parts else none
    | none => none
  | some z, none, some n => match tvals z with
    | some cs => if z.all Value.oneCell' = true then fillT (fun i => some (i * n, n)) cs parts else none
    | none => none
  | _, _, _ => none
theorem builtT_ok {t : TypeId} {parts : List (Nat × List TC)} {cs : List TC} (h : builtT P t parts = some cs) : builtC P t (parts.map eQ) = some (cs.map eC) := by
  unfold builtT at h
  split at h
  · rename_i z pl hz hl
    split at h
    case h_2 => cases h
    rename_i cs0 hcs
    split at h
    case isFalse => cases h
    rename_i ha
    have := fillT_ok h
    rw [tvals_ok hcs] at this
    simp only [builtC, hz, hl, ha, if_true]
    rw [← this]
    congr 1
    funext i
    rw [nth_eq]; simp
  · rename_i z n hz hl hn
    split at h
    case h_2 => cases h
    rename_i cs0 hcs
    split at h
    case isFalse => cases h
    rename_i ha
    have := fillT_ok h
    rw [tvals_ok hcs] at this
    simp only [builtC, hz, hl, hn, ha, if_true]
    exact this
  · cases h
def partsT (σ : TSt) : List (Nat × Operand) → Option (List (Nat × List TC))
  | [] => some []
  | (i, x) :: rest => match topnd σ x, partsT σ rest with
    | some (.one d), some r => if (cellsT d).all okT = true then some ((i, cellsT d) :: r) else none
    | _, _ => none
theorem partsT_ok : ∀ {ps : List (Nat × Operand)} {qs : List (Nat × List TC)}, partsT σ ps = some qs → partsC (opnd (eS σ)) ps = some (qs.map eQ)
  | [], qs, h => by simp only [partsT, Option.some.injEq] at h; subst h; rfl
  | (i, x) :: ps, qs, h => by
    unfold partsT at h
    split at h
    case h_2 => cases h
    rename_i d r hd hr
    split at h
    case isFalse => cases h
    rename_i ha
    simp only [Option.some.injEq] at h
    subst h
    have h1 := topnd_ok hd
    have h2 := partsT_ok hr
    have ha' : (cellsOf1 (e1 d)).all okC = true := by rw [cellsT_ok]; exact allT_ok ha
    unfold partsC
    rw [h1, h2]
    show (if (cellsOf1 (e1 d)).all okC = true then _ else _) = _
    rw [if_pos ha', cellsT_ok]
    rfl
def tevBuild (P : Program) (t : TypeId) (ps : Array (Nat × Operand)) (σ : TSt) (k : TRes → Option α) : Option α := match partsT σ ps.toList with
  | some qs => match builtT P t qs with
    | some cs => k { val := .one (.agg cs) }
    | none => none
  | none => none
theorem tevBuild_ok {t : TypeId} {ps : Array (Nat × Operand)} {k : TRes → Option α} {r : α} (h : tevBuild P t ps σ k = some r) : ∃ y, k y = some r ∧ Sim (evBuild P t ps (opnd (eS σ))) y := by
  unfold tevBuild at h
  split at h
  case h_2 => cases h
  rename_i qs hqs
  split at h
  case h_2 => cases h
  rename_i cs hcs
  exact ⟨_, h, Sim.tr (by simp only [evBuild, partsT_ok hqs, builtT_ok hcs, eRes, eD, e1, Option.map_none])⟩
/-- the cells of a type -/
def tysFs (f : TypeId → Option (List Ty)) : List Field → Option (List Ty)
  | [] => some []
  | fd :: fs => match f fd.type, tysFs f fs with
    | some a, some b => some (a ++ b)
    | _, _ => none
def prodT : List Ty → Option Ty
  | [] => none
  | [t] => some t
  | t :: t' :: ts => (prodT (t' :: ts)).map (.prod t)
def tysP (P : Program) : Nat → TypeId → Option (List Ty)
  | 0, _ => none
  | n + 1, t => match P.underlying t with
    | some (.int k) => some [.int k]
    | some .bool => some [.bool]
    | some .string => some [.str]
    | some (.slice e) => ((tysP P n e).bind prodT).map fun x => [.lst x]
    | some (.struct fs) => tysFs (tysP P n) fs.toList
    | some (.interface _) => some [.any]
    | _ => none
def tyE (P : Program) (t : TypeId) : Option Ty := (tysP P 9 t).bind prodT
def packN (e : Ty) : Nat → List TC → Option (List (den e))
  | 0, [] => some []
  | 0, _ :: _ => none
  | n + 1, cs => match packT e (cs.take (width e)), packN e n (cs.drop (width e)) with
    | some x, some xs => some (x :: xs)
    | _, _ => none
theorem packN_ok {e : Ty} : ∀ {n : Nat} {cs : List TC} {xs : List (den e)}, packN e n cs = some xs → cs.map eC = ((xs.map (toDats e)).flatten).map C.d ∧ chunk (width e) n (xs.map (toDats e)).flatten = xs.map (toDats e)
  | 0, [], xs, h => by simp only [packN, Option.some.injEq] at h; subst h; exact ⟨rfl, rfl⟩
  | 0, _ :: _, xs, h => by simp [packN] at h
  | n + 1, cs, xs, h => by
    unfold packN at h
    split at h
    case h_2 => cases h
    rename_i y ys hy hys
    simp only [Option.some.injEq] at h
    subst h
    obtain ⟨h1, h2⟩ := packN_ok hys
    have h3 := packT_ok hy
    refine ⟨?_, ?_⟩
    · rw [List.map_cons, List.flatten_cons, List.map_append, ← h3, ← h1, ← List.map_append, List.take_append_drop]
    · rw [List.map_cons, List.flatten_cons, chunk, List.take_append_of_le_length (by rw [toDats_len]; exact Nat.le_refl _), List.take_of_length_le (by rw [toDats_len]; exact Nat.le_refl _), List.drop_append_of_le_length (by rw [toDats_len]; exact Nat.le_refl _), List.drop_eq_nil_of_le (by rw [toDats_len]; exact Nat.le_refl _), List.nil_append, h2]
theorem map_rep {β γ : Type} (f : β → γ) (z : List β) : ∀ n, (rep z n).map f = rep (z.map f) n
  | 0 => rfl
  | n + 1 => by rw [rep, rep, List.map_append, map_rep f z n]
def tevBuildSlice (P : Program) (dst : Option Nat) (t : TypeId) (n : Nat) (ps : Array (Nat × Operand)) (σ : TSt) (k : TRes → Option α) : Option α := match P.underlying t, dst with
  | some (.slice el), some i => match lk σ.rows i, tzero P el, tyE P el, partsT σ ps.toList with
    | none, some z, some e, some qs => match tvals z with
      | some zt => if tsz P el = some (width e) ∧ n * width e ≤ 2 ^ 24 ∧ n ≤ 2 ^ 24 ∧ z.length = width e ∧ 0 < width e ∧ z.all Value.oneCell' = true ∧ el < 1099511627776 then match fillT (fun i => some (i * width e, width e)) (rep zt n) qs with
          | some cs => match packN e n cs with
            | some xs => k { val := .one (.c (.row i 0)), row := some (i, ⟨0, el, true, e, xs⟩) }
            | none => none
          | none => none
        else none
      | none => none
    | _, _, _, _ => none
  | _, _ => none
theorem tevBuildSlice_ok {dst : Option Nat} {t : TypeId} {n : Nat} {ps : Array (Nat × Operand)} {k : TRes → Option α} {r : α} (h : tevBuildSlice P dst t n ps σ k = some r) : ∃ y, k y = some r ∧ Sim (evBuildSlice P dst t n ps (opnd (eS σ)) (eS σ).row) y := by
  unfold tevBuildSlice at h
  split at h
  case h_2 => cases h
  rename_i el i hu
  split at h
  case h_2 => cases h
  rename_i z e qs hr hz he hqs
  split at h
  case h_2 => cases h
  rename_i zt hzt
  split at h
  case isFalse => cases h
  rename_i hc
  obtain ⟨c1, c2, c3, c4, c5, c6, c7⟩ := hc
  split at h
  case h_2 => cases h
  rename_i cs hcs
  split at h
  case h_2 => cases h
  rename_i xs hxs
  obtain ⟨k1, k2⟩ := packN_ok hxs
  have h2 := fillT_ok hcs
  rw [map_rep, tvals_ok hzt, ← map_rep] at h2
  refine ⟨_, h, Sim.tr ?_⟩
  simp only [evBuildSlice, hu, eS_noRow hr, c1, hz, partsT_ok hqs]
  rw [if_pos ⟨c2, c3, c4, c5, c6, c7⟩, h2]
  simp only [k1, mapM_datOf, k2, eRes, eD, e1, eC, Option.map_none, Option.map_some, eR]

/-! appends -/
def srcT (x : TD) (σ : TSt) : Option ((e : Ty) × List (den e)) := match x with
  | .one (.c (.d (.lst e) xs)) => some ⟨e, xs⟩
  | .one (.c (.row t g)) => match lk σ.rows t with
    | some r => if r.gen = g then some ⟨r.e, r.xs⟩ else none
    | none => none
  | _ => none
theorem srcT_ok {x : TD} {s : (e : Ty) × List (den e)} (h : srcT x σ = some s) : srcOf (width s.1) (eD x) (eS σ).row = some (s.2.map (toDats s.1)) := by
  unfold srcT at h
  split at h
  · simp only [Option.some.injEq] at h; subst h
    simp only [srcOf, eD, e1, eC, toDats, List.headD_cons, if_true]
  · split at h
    case h_2 => cases h
    rename_i r hr
    split at h
    case isFalse => cases h
    rename_i hg
    simp only [Option.some.injEq] at h; subst h
    have hg' : (eR r).gen = _ ∧ (eR r).sz = width r.e := ⟨hg, rfl⟩
    simp only [srcOf, eD, e1, eC, eS_row hr]
    rw [if_pos hg']; rfl
  · cases h
def tevAppend (P : Program) (dst : Option Nat) (t : TypeId) (s x : TD) (σ : TSt) (k : TRes → Option α) : Option α := match P.underlying t with
  | some (.slice el) => match elInfo P el, srcT x σ with
    | some (m, bytes), some src => if m = width src.1 then match s with
        | .one (.c (.row tt g)) => match lk σ.rows tt with
          | some r => if h : src.1 = r.e then if r.gen = g ∧ r.E = el then
              (appO bytes r.xs (h ▸ src.2)).bind fun ys => k { val := .one (.c (.row tt (g + 1))), row := some (tt, { r with gen := g + 1, xs := ys }) } else none else none
          | none => none
        | .one (.c .nil) => match dst with
          | some i => match lk σ.rows i with
            | none => (appO bytes [] src.2).bind fun ys => k { val := .one (.c (.row i 0)), row := some (i, ⟨0, el, true, src.1, ys⟩) }
            | some _ => none
          | none => none
        | _ => none
      else none
    | _, _ => none
  | _ => none
theorem appO_some {β : Type} {b : Nat} {xs ys zs : List β} (h : appO b xs ys = some zs) : (xs.length + ys.length) * b ≤ 140737488355328 ∧ zs = xs ++ ys := by
  unfold appO at h
  split at h
  case isFalse => cases h
  rename_i hc
  exact ⟨hc, (Option.some.inj h).symm⟩
theorem tevAppend_ok {dst : Option Nat} {t : TypeId} {s x : TD} {k : TRes → Option α} {r : α} (h : tevAppend P dst t s x σ k = some r) : ∃ y, k y = some r ∧ Sim (evAppend P dst t (eD s) (eD x) (eS σ).row) y := by
  unfold tevAppend at h
  split at h
  case h_2 => cases h
  rename_i el hu
  split at h
  case h_2 => cases h
  rename_i m bytes src hel hsrc
  split at h
  case isFalse => cases h
  rename_i hm
  subst hm
  have h1 := srcT_ok hsrc
  split at h
  · rename_i tt g
    split at h
    case h_2 => cases h
    rename_i r' hr
    split at h
    case isFalse => cases h
    rename_i he
    split at h
    case isFalse => cases h
    rename_i hg
    obtain ⟨e', ys⟩ := src
    obtain ⟨gen, E, wr, e, xs⟩ := r'
    have he' : e' = e := he
    subst he'
    obtain ⟨hg1, hg2⟩ := hg
    have hg1' : gen = g := hg1
    have hg2' : E = el := hg2
    subst hg1' hg2'
    obtain ⟨zs, hz, h⟩ := Option.bind_eq_some_iff.1 h
    obtain ⟨c1, rfl⟩ := appO_some hz
    refine ⟨_, h, _, c1, ?_⟩
    simp only at h1
    show evAppend P dst t (.one (.c (.row tt gen))) (eD x) _ = _
    generalize eD x = y at h1
    simp only [evAppend, hu, hel, h1, eD, e1, eC, eS_row hr, eR, and_self, if_true, eRes, Option.map_none, Option.map_some, List.map_append, List.length_map]
  · split at h
    case h_2 => cases h
    rename_i i
    split at h
    case h_2 => cases h
    rename_i hr
    obtain ⟨e', ys⟩ := src
    obtain ⟨zs, hz, h⟩ := Option.bind_eq_some_iff.1 h
    obtain ⟨c1, hzz⟩ := appO_some hz
    have hzz' : zs = ys := hzz
    clear hzz hz
    rw [hzz'] at h
    clear hzz' zs
    refine ⟨_, h, _, c1, ?_⟩
    simp only at h1
    show evAppend P (some i) t (.one (.c (.d (.v (.slice none 0 0))))) (eD x) _ = _
    generalize eD x = y at h1
    simp only [evAppend, hu, hel, h1, eD, e1, eC, eS_noRow hr, eR, eRes, Option.map_none, Option.map_some, List.map_append, List.length_map, List.nil_append, List.length_nil, Nat.zero_add]
  · cases h
end Go.Proofs.YtaglhmoldbndkaaDoor.AM
