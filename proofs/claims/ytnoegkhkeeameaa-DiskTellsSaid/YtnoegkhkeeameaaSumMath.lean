/- Plain mathematics of layer 2: the two halves of a checksum. -/
namespace Go.Proofs.Ytnoegkhkeeameaa
namespace SM
/-- a pair (high, low) after one byte -/
def step (p : Int × Int) (c : UInt8) : Int × Int := ((p.1 + (p.2 + c.toNat) % 65521) % 65521, (p.2 + c.toNat) % 65521)
def steps (p : Int × Int) (l : List UInt8) : Int × Int := l.foldl step p
def Ok (p : Int × Int) : Prop := 0 ≤ p.1 ∧ p.1 < 65521 ∧ 0 ≤ p.2 ∧ p.2 < 65521
def isSum (n : Int) : Prop := 0 ≤ n ∧ n / 65536 < 65521 ∧ n % 65536 < 65521
instance (n : Int) : Decidable (isSum n) := by unfold isSum; exact inferInstance
def rollF (n : Int) (l : List UInt8) : Int := if isSum n then (steps (n / 65536, n % 65536) l).1 * 65536 + (steps (n / 65536, n % 65536) l).2 else 0
def joinF (a b n : Int) : Int :=
  if isSum a ∧ isSum b ∧ 0 ≤ n ∧ n ≤ 1099511627776 then
    (a / 65536 + b / 65536 + (n % 65521) * (a % 65536 + 65520)) % 65521 * 65536 + (b % 65536 + (a % 65536 + 65520)) % 65521
  else 0

theorem step_ok {p : Int × Int} (c : UInt8) : Ok (step p c) := by
  unfold step Ok; simp only; omega
theorem steps_ok {p : Int × Int} (l : List UInt8) (h : Ok p) : Ok (steps p l) := by
  induction l generalizing p with
  | nil => exact h
  | cons c l ih => exact ih (step_ok c)
theorem steps_append (p : Int × Int) (l m : List UInt8) : steps p (l ++ m) = steps (steps p l) m := by
  unfold steps; rw [List.foldl_append]
theorem steps_snoc (p : Int × Int) (l : List UInt8) (c : UInt8) : steps p (l ++ [c]) = step (steps p l) c := by
  rw [steps_append]; rfl
theorem ok_of_isSum {n : Int} (h : isSum n) : Ok (n / 65536, n % 65536) := by
  unfold isSum at h; unfold Ok; simp only; omega
theorem isSum_of_ok {p : Int × Int} (h : Ok p) : isSum (p.1 * 65536 + p.2) := by
  unfold Ok at h; unfold isSum; omega
theorem halves_of_ok {p : Int × Int} (h : Ok p) : ((p.1 * 65536 + p.2) / 65536, (p.1 * 65536 + p.2) % 65536) = p := by
  unfold Ok at h; apply Prod.ext <;> simp only <;> omega
theorem take_snoc (s : ByteArray) (k : Nat) (h : k < s.size) : s.data.toList.take (k + 1) = s.data.toList.take k ++ [s[k]] := by
  rw [List.take_succ_eq_append_getElem (by simpa using h)]; rfl
theorem isSum_one : isSum 1 := by decide
theorem isSum_lt {n : Int} (h : isSum n) : 0 ≤ n ∧ n < 4294967296 := by unfold isSum at h; omega
theorem isSum_roll (n : Int) (l : List UInt8) : isSum (rollF n l) := by
  unfold rollF
  split
  · rename_i h; exact isSum_of_ok (steps_ok l (ok_of_isSum h))
  · decide
theorem roll_lt (n : Int) (l : List UInt8) : 0 ≤ rollF n l ∧ rollF n l < 4294967296 := by
  have := isSum_roll n l; unfold isSum at this; omega
theorem join_lt (a b n : Int) : 0 ≤ joinF a b n ∧ joinF a b n < 4294967296 := by
  unfold joinF; split <;> omega

/-! what follows: sums of all bytes, and weighted ones -/
def S : List UInt8 → Int
  | [] => 0
  | c :: l => c.toNat + S l
def W : List UInt8 → Int
  | [] => 0
  | c :: l => (l.length + 1) * c.toNat + W l
theorem emod_of_dvd {a b M k : Int} (h : a = b + M * k) : a % M = b % M := by
  subst h; exact Int.add_mul_emod_self_left b M k
theorem steps_eq (l : List UInt8) : ∀ p, Ok p → steps p l = ((p.1 + l.length * p.2 + W l) % 65521, (p.2 + S l) % 65521) := by
  induction l with
  | nil =>
    intro p h
    unfold Ok at h
    show p = _
    apply Prod.ext <;> simp only [W, S, List.length_nil] <;> omega
  | cons c l ih =>
    intro p h
    show steps (step p c) l = _
    rw [ih _ (step_ok c)]
    unfold step
    simp only [W, S, List.length_cons]
    apply Prod.ext
    · simp only
      have e1 := Int.emod_def (p.2 + c.toNat) 65521
      have e2 := Int.emod_def (p.1 + (p.2 + (c.toNat : Int)) % 65521) 65521
      generalize hk : (p.2 + (c.toNat : Int)) / 65521 = k at *
      generalize hj : (p.1 + (p.2 + (c.toNat : Int)) % 65521) / 65521 = j at *
      rw [e2, e1]
      apply emod_of_dvd (k := -(j + k + l.length * k))
      grind
    · simp only; omega
theorem S_append (a b : List UInt8) : S (a ++ b) = S a + S b := by
  induction a with
  | nil => simp [S]
  | cons c a ih => simp only [List.cons_append, S, ih]; omega
theorem W_append (a b : List UInt8) : W (a ++ b) = W a + b.length * S a + W b := by
  induction a with
  | nil => simp [S, W]
  | cons c a ih => simp only [List.cons_append, S, W, ih, List.length_append]; grind
theorem roll_append (n : Int) (h : isSum n) (a b : List UInt8) : rollF n (a ++ b) = rollF (rollF n a) b := by
  have e : rollF n a = (steps (n / 65536, n % 65536) a).1 * 65536 + (steps (n / 65536, n % 65536) a).2 := by unfold rollF; rw [if_pos h]
  have ho := steps_ok a (ok_of_isSum h)
  have hs := isSum_roll n a
  have e2 : rollF (rollF n a) b = (steps (rollF n a / 65536, rollF n a % 65536) b).1 * 65536 + (steps (rollF n a / 65536, rollF n a % 65536) b).2 := by
    generalize rollF n a = x at *
    unfold rollF; rw [if_pos hs]
  rw [e2, e, halves_of_ok ho]
  unfold rollF; rw [if_pos h, steps_append]
theorem roll_one (l : List UInt8) : rollF 1 l = (l.length + W l) % 65521 * 65536 + (1 + S l) % 65521 := by
  have e := steps_eq l (0, 1) (by unfold Ok; decide)
  have e1 : rollF 1 l = (steps (1 / 65536, 1 % 65536) l).1 * 65536 + (steps (1 / 65536, 1 % 65536) l).2 := by unfold rollF; rw [if_pos isSum_one]
  have e2 : ((1 : Int) / 65536, (1 : Int) % 65536) = (0, 1) := by decide
  rw [e1, e2, e]
  simp
theorem low_one (l : List UInt8) : rollF 1 l % 65536 = (1 + S l) % 65521 := by rw [roll_one]; omega
theorem high_one (l : List UInt8) : rollF 1 l / 65536 = (l.length + W l) % 65521 := by rw [roll_one]; omega
theorem join_append (a b : List UInt8) (hb : b.length ≤ 1099511627776) : joinF (rollF 1 a) (rollF 1 b) b.length = rollF 1 (a ++ b) := by
  unfold joinF
  rw [if_pos ⟨isSum_roll 1 a, isSum_roll 1 b, by omega, by omega⟩, low_one, low_one, high_one, high_one, roll_one (a ++ b), S_append, W_append, List.length_append]
  have e1 := Int.emod_def (1 + S a) 65521
  have e2 := Int.emod_def ((b.length : Int)) 65521
  have e3 := Int.emod_def ((a.length : Int) + W a) 65521
  have e4 := Int.emod_def ((b.length : Int) + W b) 65521
  generalize (1 + S a) / 65521 = k1 at *
  generalize (b.length : Int) / 65521 = k2 at *
  generalize ((a.length : Int) + W a) / 65521 = k3 at *
  generalize ((b.length : Int) + W b) / 65521 = k4 at *
  have h1 : ((a.length + W a) % 65521 + (b.length + W b) % 65521 + (b.length : Int) % 65521 * ((1 + S a) % 65521 + 65520)) % 65521 = (((a.length + b.length : Nat) : Int) + (W a + b.length * S a + W b)) % 65521 := by
    rw [e1, e2, e3, e4]
    apply emod_of_dvd (k := -k3 - k4 + (b.length - 65521 * k2) * (1 - k1) - k2 * (1 + S a - 1))
    have : ((a.length + b.length : Nat) : Int) = a.length + b.length := by omega
    rw [this]
    grind
  rw [h1]
  omega
theorem join_nil (a : List UInt8) : joinF (rollF 1 a) 1 0 = rollF 1 a := by
  have := join_append a [] (by simp)
  rw [List.append_nil] at this
  exact this
theorem join_one (b : List UInt8) (hb : b.length ≤ 1099511627776) : joinF 1 (rollF 1 b) b.length = rollF 1 b := join_append [] b hb
/-- one byte changed -/
theorem set_ne (l : List UInt8) (i : Nat) (h : i < l.length) (c : UInt8) : rollF 1 (l.set i c) = rollF 1 l ↔ l.set i c = l := by
  constructor
  · intro e
    have e1 := low_one (l.set i c)
    rw [e, low_one] at e1
    have hl : l = l.take i ++ l[i] :: l.drop (i + 1) := by rw [← List.drop_eq_getElem_cons h, List.take_append_drop]
    have hset : l.set i c = l.take i ++ c :: l.drop (i + 1) := by
      rw [List.set_eq_take_append_cons_drop, if_pos h]
    have s1 : S l = S (l.take i) + (l[i].toNat + S (l.drop (i + 1))) := by
      conv => lhs; rw [hl]
      rw [S_append]; rfl
    have s2 : S (l.set i c) = S (l.take i) + (c.toNat + S (l.drop (i + 1))) := by
      rw [hset, S_append]; rfl
    rw [s1, s2] at e1
    have b1 := l[i].toNat_lt
    have b2 := c.toNat_lt
    have : l[i].toNat = c.toNat := by omega
    have : l[i] = c := UInt8.toNat_inj.1 this
    rw [hset, ← this]; exact hl.symm
  · intro e; rw [e]
/-- two neighbours swapped -/
theorem swap_ne (p q : List UInt8) (a b : UInt8) : rollF 1 (p ++ b :: a :: q) = rollF 1 (p ++ a :: b :: q) ↔ a = b := by
  constructor
  · intro e
    have e1 := high_one (p ++ b :: a :: q)
    rw [e, high_one, W_append, W_append] at e1
    simp only [List.length_append, List.length_cons, W] at e1
    have b1 := a.toNat_lt
    have b2 := b.toNat_lt
    have hx : (((q.length + 1 : Nat) : Int) + 1) * (a.toNat : Int) + ((q.length + 1) * (b.toNat : Int) + W q) = ((q.length : Int) + 1) * (a.toNat + b.toNat) + a.toNat + W q := by
      have : ((q.length + 1 : Nat) : Int) = q.length + 1 := by omega
      rw [this]; grind
    have hy : (((q.length + 1 : Nat) : Int) + 1) * (b.toNat : Int) + ((q.length + 1) * (a.toNat : Int) + W q) = ((q.length : Int) + 1) * (a.toNat + b.toNat) + b.toNat + W q := by
      have : ((q.length + 1 : Nat) : Int) = q.length + 1 := by omega
      rw [this]; grind
    rw [hx, hy] at e1
    have : a.toNat = b.toNat := by omega
    exact UInt8.toNat_inj.1 this
  · intro e; rw [e]
/-- one byte over and over -/
theorem S_rep (n : Nat) (c : UInt8) : S (List.replicate n c) = n * c.toNat := by
  induction n with
  | zero => simp [S]
  | succ n ih => rw [List.replicate_succ]; simp only [S, ih]; have : ((n + 1 : Nat) : Int) = n + 1 := by omega
                 rw [this]; grind
theorem W_rep2 (n : Nat) (c : UInt8) : 2 * W (List.replicate n c) = c.toNat * (n * (n + 1)) := by
  induction n with
  | zero => simp [W]
  | succ n ih =>
    rw [List.replicate_succ]; simp only [W, List.length_replicate]
    have : ((n + 1 : Nat) : Int) = n + 1 := by omega
    rw [this]; grind
theorem W_rep (n : Nat) (c : UInt8) : W (List.replicate n c) = c.toNat * ((n : Int) * (n + 1) / 2) := by
  have h := W_rep2 n c
  have he : (n : Int) * (n + 1) % 2 = 0 := by
    rw [Int.mul_emod]
    have h2 : ((n : Int) % 2 = 0 ∧ ((n : Int) + 1) % 2 = 1) ∨ ((n : Int) % 2 = 1 ∧ ((n : Int) + 1) % 2 = 0) := by omega
    rcases h2 with ⟨x, y⟩ | ⟨x, y⟩ <;> rw [x, y] <;> decide
  have : (n : Int) * (n + 1) = 2 * ((n : Int) * (n + 1) / 2) := by omega
  generalize (n : Int) * (n + 1) / 2 = t at *
  rw [this] at h
  grind
end SM
end Go.Proofs.Ytnoegkhkeeameaa
