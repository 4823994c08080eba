/- Layer 5: files and ops as lists: mathematics, no program. -/
import Derived.Test.YtpiiljpbfioilaaDoorMpM
import Derived.Test.YtpiiljpbfioilaaDoorT7
namespace Go.Proofs.YtpiiljpbfioilaaDoor.AM
open Go.RowKit
set_option linter.unusedVariables false
set_option linter.unusedSimpArgs false
abbrev FD := List UInt8 × List UInt8
abbrev OD := Bool × (List UInt8 × List UInt8)
def okF (f : FD) : Bool := pathS f.1 && decide (f.2.length ≤ 4096)
def riseS : List FD → Bool
  | x :: y :: t => ltS x.1 y.1 && riseS (y :: t)
  | _ => true
def mayS (l : List FD) : Bool := decide (l.length ≤ 40) && (l.all okF && riseS l)
def getS : List FD → List UInt8 → List UInt8 × Bool
  | [], _ => ([], false)
  | f :: t, p => if f.1 = p then (f.2, true) else getS t p
theorem getS_none : ∀ {l : List FD} {p : List UInt8}, (getS l p).2 = false → getS l p = ([], false)
  | [], p, _ => rfl
  | f :: t, p, h => by
    rw [getS] at h ⊢
    split at h
    · cases h
    · rename_i hc; rw [if_neg hc]; exact getS_none h
def chkS (o : OD) : Int := if pathS o.2.1 then (if o.1 && !decide (o.2.2 = []) then 1 else if 4096 < o.2.2.length then 2 else 0) else 6
def b8 (x : Int) : UInt8 := UInt8.ofNat (IntKind.wrap .u8 x).toNat
def layS (o : OD) : List UInt8 := (if o.1 then 1 else 0) :: b8 o.2.1.length :: (o.2.1 ++ (if o.1 then [] else b8 ((o.2.2.length / 256 : Nat) : Int) :: b8 ((o.2.2.length % 256 : Nat) : Int) :: o.2.2))
def encL : List OD → List UInt8 × Int
  | [] => ([], 0)
  | o :: t => if chkS o = 0 then (if (encL t).2 = 0 then (layS o ++ (encL t).1, 0) else ([], (encL t).2)) else ([], chkS o)
def encS (ops : List OD) : List UInt8 × Int := if (encL ops).2 = 0 then (if 4096 < (encL ops).1.length then ([], 2) else ((encL ops).1, 0)) else ([], (encL ops).2)
def diffL : Nat → List FD → List FD → List OD
  | 0, _, _ => []
  | _ + 1, [], [] => []
  | m + 1, x :: a, [] => (true, (x.1, [])) :: diffL m a []
  | m + 1, [], y :: b => (false, y) :: diffL m [] b
  | m + 1, x :: a, y :: b => if ltS x.1 y.1 then (true, (x.1, [])) :: diffL m a (y :: b) else if ltS y.1 x.1 then (false, y) :: diffL m (x :: a) b else if x.2 = y.2 then diffL m a b else (false, y) :: diffL m a b
def diffS (a b : List FD) : List OD := if mayS a && mayS b then diffL (a.length + b.length) a b else []
/-- more rounds tell the same -/
theorem diffL_more : ∀ (m : Nat) (a b : List FD), a.length + b.length ≤ m → diffL m a b = diffL (a.length + b.length) a b := by
  have key : ∀ (m k : Nat) (a b : List FD), a.length + b.length ≤ m → a.length + b.length ≤ k → diffL m a b = diffL k a b := by
    intro m
    induction m with
    | zero =>
      intro k a b h _
      have ha : a = [] := List.eq_nil_of_length_eq_zero (by omega)
      have hb : b = [] := List.eq_nil_of_length_eq_zero (by omega)
      subst ha; subst hb
      cases k <;> rfl
    | succ m ih =>
      intro k a b h hk
      cases k with
      | zero =>
        have ha : a = [] := List.eq_nil_of_length_eq_zero (by omega)
        have hb : b = [] := List.eq_nil_of_length_eq_zero (by omega)
        subst ha; subst hb; rfl
      | succ k =>
        cases a with
        | nil => cases b with
          | nil => rfl
          | cons y b => rw [diffL, diffL, ih k [] b (by simp at h ⊢; omega) (by simp at hk ⊢; omega)]
        | cons x a => cases b with
          | nil => rw [diffL, diffL, ih k a [] (by simp at h ⊢; omega) (by simp at hk ⊢; omega)]
          | cons y b =>
            simp only [List.length_cons] at h hk
            rw [diffL, diffL, ih k a (y :: b) (by simp; omega) (by simp; omega), ih k (x :: a) b (by simp; omega) (by simp; omega), ih k a b (by omega) (by omega)]
  exact fun m a b h => key m _ a b h (Nat.le_refl _)
def smallF (l : List FD) : Bool := (l.all fun f => decide (f.1.length ≤ 200) && decide (f.2.length ≤ 5000)) && decide (l.length ≤ 60)
def fewO (l : List OD) : Bool := (l.all fun o => decide (o.2.1.length ≤ 200) && decide (o.2.2.length ≤ 5000)) && decide (l.length ≤ 100)
end Go.Proofs.YtpiiljpbfioilaaDoor.AM
