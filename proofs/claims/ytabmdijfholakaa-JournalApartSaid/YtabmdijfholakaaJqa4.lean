/- One text of DiskM, Ref1 (mk/pack.py). -/
import Derived.Test.YtabmdijfholakaaJqa3
/- Disks: lists of sectors and of writes, and what becomes of them; which blocks may turn. -/
namespace Go.Proofs.Ytabmdijfholakaa
open Go.RowKit
set_option linter.unusedVariables false
namespace DM
abbrev Wr := Int × ByteArray
structure Dk where
  secs : List ByteArray
  cache : List Wr
deriving DecidableEq
def wOk (n : Nat) (p : Wr) : Prop := 0 ≤ p.1 ∧ p.1 < (n : Int) ∧ p.2.size = 32
instance (n : Nat) (p : Wr) : Decidable (wOk n p) := by unfold wOk; infer_instance
def mayD (d : Dk) : Prop := 1 ≤ d.secs.length ∧ d.secs.length ≤ 512 ∧ (∀ s ∈ d.secs, s.size = 32) ∧ (∀ p ∈ d.cache, wOk d.secs.length p)
instance (d : Dk) : Decidable (mayD d) := by unfold mayD; infer_instance
def fillB (s : ByteArray) : ByteArray := RM.str (RM.fillL s.data.toList)
theorem fillB_size (s : ByteArray) (h : s.size ≤ 32) : (fillB s).size = 32 := by unfold fillB; rw [RM.str_size, RM.fillL_length _ (by simpa using h)]
def inD (n : Nat) (i : Int) : Prop := 0 ≤ i ∧ i < (n : Int)
instance (n : Nat) (i : Int) : Decidable (inD n i) := by unfold inD; infer_instance
def writeE (n : Nat) (i : Int) (data : ByteArray) : Int := if inD n i then (if 32 < data.size then 2 else 0) else 1
def addW (d : Dk) (i : Int) (data : ByteArray) : Dk := ⟨d.secs, d.cache ++ [(i, fillB data)]⟩
def writeD (d : Dk) (i : Int) (data : ByteArray) : Dk := if writeE d.secs.length i data = 0 then addW d i data else d
def putE (d : Dk) (i : Int) (data : ByteArray) : Int := if mayD d then writeE d.secs.length i data else 1
def putD (d : Dk) (i : Int) (data : ByteArray) : Dk := if mayD d then writeD d i data else d
def lastOf (x : ByteArray) (l : List Wr) (i : Int) : ByteArray := l.foldl (fun x p => if p.1 = i then p.2 else x) x
def getOk (d : Dk) (i : Int) : Prop := mayD d ∧ inD d.secs.length i
instance (d : Dk) (i : Int) : Decidable (getOk d i) := by unfold getOk; infer_instance
def getB (d : Dk) (i : Int) : ByteArray := if getOk d i then lastOf (d.secs.getD i.toNat ⟨#[]⟩) d.cache i else ⟨#[]⟩
def getE (d : Dk) (i : Int) : Int := if getOk d i then 0 else 1
def settleK (keep : Nat → Bool) (secs : List ByteArray) (cache : List Wr) : Nat → List ByteArray
  | 0 => secs
  | k + 1 => if keep k then (settleK keep secs cache k).set (cache.getD k (0, ⟨#[]⟩)).1.toNat (cache.getD k (0, ⟨#[]⟩)).2 else settleK keep secs cache k
theorem settleK_length (keep : Nat → Bool) (secs : List ByteArray) (cache : List Wr) (k : Nat) : (settleK keep secs cache k).length = secs.length := by
  induction k with
  | zero => rfl
  | succ k ih => unfold settleK; split <;> simp [ih]
def settleD (keep : Nat → Bool) (d : Dk) : Dk := ⟨settleK keep d.secs d.cache d.cache.length, []⟩
def crashD (keep : Nat → Bool) (d : Dk) : Dk := if mayD d then settleD keep d else d
def argE (d : Dk) : Int := if mayD d then 0 else 1
/-! a value is a list of writes, in a world -/
def cellsW (l : List Wr) : List Value := l.flatMap (fun p => [.int .i64 p.1, .string p.2])
theorem cellsW_length (l : List Wr) : (cellsW l).length = l.length * 2 := by
  unfold cellsW
  induction l with
  | nil => rfl
  | cons a t ih => rw [List.flatMap_cons, List.length_append, ih]; simp; omega
theorem cellsW_snoc (l : List Wr) (i : Int) (s : ByteArray) : cellsW l ++ [.int .i64 i, .string s] = cellsW (l ++ [(i, s)]) := by
  unfold cellsW; simp
theorem cellsW_at (l : List Wr) (k : Nat) (h : k < l.length) : (cellsW l)[k * 2]? = some (.int .i64 l[k].1) ∧ (cellsW l)[k * 2 + 1]? = some (.string l[k].2) := by
  induction l generalizing k with
  | nil => simp at h
  | cons a t ih =>
    cases k with
    | zero => exact ⟨rfl, rfl⟩
    | succ k =>
      have := ih k (by simpa using h)
      unfold cellsW at this ⊢
      rw [show (k + 1) * 2 = k * 2 + 2 from by omega, show k * 2 + 2 + 1 = (k * 2 + 1) + 2 from by omega]
      simp only [List.flatMap_cons, List.cons_append, List.nil_append, List.getElem?_cons_succ, List.getElem_cons_succ]
      exact this
def WV (w : World) (v : Value) (l : List Wr) : Prop := ∃ a cap, v = .slice a l.length cap ∧ (0 < l.length → ∃ b off, a = some ⟨b, off, none⟩ ∧ b < w.heap.size ∧ ∀ k (h : k < l.length), w.cell? ⟨b, off + k * 2, none⟩ = some (.int .i64 l[k].1) ∧ w.cell? ⟨b, off + k * 2 + 1, none⟩ = some (.string l[k].2))
theorem WV.below {w w' : World} {v : Value} {l : List Wr} (h : WV w v l) (hb : Below w.heap.size w w') : WV w' v l := by
  obtain ⟨a, cap, h1, h2⟩ := h
  refine ⟨a, cap, h1, fun h0 => ?_⟩
  obtain ⟨b, off, h3, h4, h5⟩ := h2 h0
  exact ⟨b, off, h3, Nat.lt_of_lt_of_le h4 hb.size, fun k hk => ⟨(hb.cell (p := ⟨b, off + k * 2, none⟩) h4).trans (h5 k hk).1, (hb.cell (p := ⟨b, off + k * 2 + 1, none⟩) h4).trans (h5 k hk).2⟩⟩
theorem WV.of_owns {w : World} {base : Nat} {e : TypeId} {v : Value} {l : List Wr} {n : Nat} (hn : n = l.length) (h : w.ownsRow base e 2 v n (cellsW l)) : WV w v l := by
  subst hn
  have h' := h
  obtain ⟨h0, h1 | ⟨g, cap, cur, h1, h2, h3, h4⟩⟩ := h
  · exact ⟨none, 0, by rw [h1.1, h1.2], fun hp => absurd h1.2 (by omega)⟩
  · refine ⟨_, cap, h1, fun hp => ⟨g, 0, rfl, (Array.getElem?_eq_some_iff.1 h3).1, fun k hk => ?_⟩⟩
    subst h1
    have := cellsW_at l k hk
    rw [show (⟨g, 0 + k * 2, none⟩ : Addr) = ⟨g, k * 2, none⟩ from by simp, show (⟨g, 0 + k * 2 + 1, none⟩ : Addr) = ⟨g, k * 2 + 1, none⟩ from by simp, h'.cellAt (k * 2) (by omega), h'.cellAt (k * 2 + 1) (by omega)]
    exact this
theorem WV.nil (w : World) (a : Option Addr) (cap : Nat) : WV w (.slice a 0 cap) [] := ⟨a, cap, rfl, fun h => by simp at h⟩
/-- a pair of values is a disk -/
def DV (w : World) (v1 v2 : Value) (d : Dk) : Prop := RM.SV w v1 d.secs ∧ WV w v2 d.cache
theorem DV.below {w w' : World} {v1 v2 : Value} {d : Dk} (h : DV w v1 v2 d) (hb : Below w.heap.size w w') : DV w' v1 v2 d := ⟨h.1.below hb, h.2.below hb⟩
theorem DV.len {w : World} {a1 a2 : Option Addr} {n k1 m k2 : Nat} {d : Dk} (h : DV w (.slice a1 n k1) (.slice a2 m k2) d) : d.secs.length = n ∧ d.cache.length = m := by
  obtain ⟨⟨x, y, h1, _⟩, ⟨z, t, h2, _⟩⟩ := h
  simp only [Value.slice.injEq] at h1 h2
  exact ⟨h1.2.1.symm, h2.2.1.symm⟩
/-- the variable at block b holds a disk's two lists -/
def Box (w : World) (b : Nat) (v1 v2 : Value) : Prop := b < w.heap.size ∧ w.cell? ⟨b, 0, none⟩ = some v1 ∧ w.cell? ⟨b, 1, none⟩ = some v2
theorem Box.set {w w' : World} {b B : Nat} {v1 v2 : Value} (h : Box w b v1 v2) (hb : Below B w w') (hB : b < B) : Box w' b v1 v2 :=
  ⟨Nat.lt_of_lt_of_le h.1 hb.size, (hb.cell (p := ⟨b, 0, none⟩) hB).trans h.2.1, (hb.cell (p := ⟨b, 1, none⟩) hB).trans h.2.2⟩
theorem Box.below {w w' : World} {b : Nat} {v1 v2 : Value} (h : Box w b v1 v2) (hb : Below w.heap.size w w') : Box w' b v1 v2 := h.set hb h.1
/-- the variable at block b holds two values, and may be written -/
structure Var (w : World) (b : Nat) (v1 v2 : Value) : Prop where
  lt : b < w.heap.size
  c0 : w.cell? ⟨b, 0, none⟩ = some v1
  c1 : w.cell? ⟨b, 1, none⟩ = some v2
  f0 : w.frozen? ⟨b, 0, none⟩ = false
  f1 : w.frozen? ⟨b, 1, none⟩ = false
theorem Var.set {w w' : World} {b B : Nat} {v1 v2 : Value} (h : Var w b v1 v2) (hb : Below B w w') (hB : b < B) : Var w' b v1 v2 :=
  ⟨Nat.lt_of_lt_of_le h.lt hb.size, (hb.cell (p := ⟨b, 0, none⟩) hB).trans h.c0, (hb.cell (p := ⟨b, 1, none⟩) hB).trans h.c1, (hb.frozen (p := ⟨b, 0, none⟩) hB).trans h.f0, (hb.frozen (p := ⟨b, 1, none⟩) hB).trans h.f1⟩
theorem Var.below {w w' : World} {b : Nat} {v1 v2 : Value} (h : Var w b v1 v2) (hb : Below w.heap.size w w') : Var w' b v1 v2 := h.set hb h.lt
theorem Var.box {w : World} {b : Nat} {v1 v2 : Value} (h : Var w b v1 v2) : Box w b v1 v2 := ⟨h.lt, h.c0, h.c1⟩
theorem Var.made (w : World) (v1 v2 : Value) (T : TypeId) : Var (w.alloc (.cells #[v1, v2] T)) w.heap.size v1 v2 := ⟨by simp, by go_simp, by go_simp, by go_simp, by go_simp⟩
/-! which blocks may turn -/
structure But (R : Nat → Prop) (w w' : World) : Prop where
  os : w'.os = w.os
  tape : w'.tape = w.tape
  output : w'.output = w.output
  size : w.heap.size ≤ w'.heap.size
  block : ∀ k, k < w.heap.size → ¬ R k → w'.heap[k]? = w.heap[k]?
variable {R R' : Nat → Prop} {a b c w w' : World}
theorem But.refl (R : Nat → Prop) (w : World) : But R w w := ⟨rfl, rfl, rfl, Nat.le_refl _, fun _ _ _ => rfl⟩
theorem But.trans (h : But R a b) (k : But R' b c) (hr : ∀ j, R' j → R j ∨ a.heap.size ≤ j) : But R a c :=
  ⟨k.os.trans h.os, k.tape.trans h.tape, k.output.trans h.output, Nat.le_trans h.size k.size, fun i hi hn => (k.block i (Nat.lt_of_lt_of_le hi h.size) (fun hx => by rcases hr i hx with h1 | h1; exact hn h1; omega)).trans (h.block i hi hn)⟩
theorem But.of_below (h : Below w.heap.size w w') : But R w w' := ⟨h.os, h.tape, h.output, h.size, fun k hk _ => h.block k hk⟩
theorem But.to_below {B : Nat} (h : But R w w') (hB : B ≤ w.heap.size) (hR : ∀ k, R k → B ≤ k) : Below B w w' :=
  ⟨h.os, h.tape, h.output, h.size, fun k hk => h.block k (by omega) (fun hx => by have := hR k hx; omega)⟩
theorem But.below (h : But R a b) (k : Below b.heap.size b c) : But R a c := h.trans (But.of_below (R := R) k) (fun _ => Or.inl)
theorem But.alloc (h : But R a w) (o : Obj) : But R a (w.alloc o) := h.below ((Below.refl _ _).alloc (Nat.le_refl _) _)
theorem But.drew (h : But R a w) : But R a w.drew := ⟨h.os, h.tape, h.output, h.size, h.block⟩
theorem But.drewN (h : But R a w) (n : Nat) : But R a (w.drewN n) := ⟨h.os, h.tape, h.output, h.size, h.block⟩
theorem But.setCell (h : But R a w) {p : Addr} (hp : R p.block ∨ a.heap.size ≤ p.block) (u : Value) : But R a (w.setCell p u) :=
  ⟨h.os, h.tape, h.output, by simpa using h.size, fun k hk hn => (Below.heap_setCell _ _ _ _ (fun e => by subst e; rcases hp with h1 | h1; exact hn h1; omega)).trans (h.block k hk hn)⟩
theorem But.grown (h : But R a w) {row : Option Nat} (hg : w.grownBy w' row) (hr : ∀ k, row = some k → R k ∨ a.heap.size ≤ k) : But R a w' :=
  ⟨hg.os.trans h.os, hg.tape.trans h.tape, hg.output.trans h.output, Nat.le_trans h.size hg.size, fun k hk hn => (hg.block k (Nat.lt_of_lt_of_le hk h.size) (fun e => by rcases hr k e.symm with h1 | h1; exact hn h1; omega)).trans (h.block k hk hn)⟩
theorem But.cell (h : But R w w') {p : Addr} (hp : p.block < w.heap.size) (hn : ¬ R p.block) : w'.cell? p = w.cell? p := World.cell?_of_block (h.block p.block hp hn)
theorem But.frozen (h : But R w w') {p : Addr} (hp : p.block < w.heap.size) (hn : ¬ R p.block) : w'.frozen? p = w.frozen? p := World.frozen?_of_block (h.block p.block hp hn)
theorem But.box {b : Nat} {v1 v2 : Value} (h : But R w w') (k : Box w b v1 v2) (hn : ¬ R b) : Box w' b v1 v2 :=
  ⟨Nat.lt_of_lt_of_le k.1 h.size, (h.cell (p := ⟨b, 0, none⟩) k.1 hn).trans k.2.1, (h.cell (p := ⟨b, 1, none⟩) k.1 hn).trans k.2.2⟩
theorem But.var {b : Nat} {v1 v2 : Value} (h : But R w w') (k : Var w b v1 v2) (hn : ¬ R b) : Var w' b v1 v2 :=
  ⟨Nat.lt_of_lt_of_le k.lt h.size, (h.cell (p := ⟨b, 0, none⟩) k.lt hn).trans k.c0, (h.cell (p := ⟨b, 1, none⟩) k.lt hn).trans k.c1, (h.frozen (p := ⟨b, 0, none⟩) k.lt hn).trans k.f0, (h.frozen (p := ⟨b, 1, none⟩) k.lt hn).trans k.f1⟩
theorem But.owns {base : Nat} {e : TypeId} {size : Nat} {v : Value} {n : Nat} {xs : List Value} (h : But R w w') (k : w.ownsRow base e size v n xs) (hn : ∀ g, v.ownBlock = some g → ¬ R g) : w'.ownsRow base e size v n xs := by
  obtain ⟨h0, h1⟩ := k
  refine ⟨h0, ?_⟩
  rcases h1 with h1 | ⟨g, cap, cur, h1, h2, h3, h4⟩
  · exact .inl h1
  · exact .inr ⟨g, cap, cur, h1, h2, (h.block g (Array.getElem?_eq_some_iff.1 h3).1 (hn g (by rw [h1]; rfl))).trans h3, h4⟩
/-- a disk of one's own: both lists lie in rows from base on, apart -/
structure OD (w : World) (base : Nat) (T1 T2 : TypeId) (v1 v2 : Value) (d : Dk) : Prop where
  secs : w.ownsRow base T1 1 v1 d.secs.length (d.secs.map Value.string)
  cache : w.ownsRow base T2 2 v2 d.cache.length (cellsW d.cache)
  apart : ∀ g, v1.ownBlock = some g → v2.ownBlock ≠ some g
def own2 (v1 v2 : Value) (k : Nat) : Prop := v1.ownBlock = some k ∨ v2.ownBlock = some k
theorem OD.dv {base : Nat} {T1 T2 : TypeId} {v1 v2 : Value} {d : Dk} (h : OD w base T1 T2 v1 v2 d) : DV w v1 v2 d := ⟨RM.SV.of_owns rfl h.secs, WV.of_owns rfl h.cache⟩
theorem OD.ge {base : Nat} {T1 T2 : TypeId} {v1 v2 : Value} {d : Dk} (h : OD w base T1 T2 v1 v2 d) (k : Nat) (hk : own2 v1 v2 k) : base ≤ k ∧ k < w.heap.size := by
  rcases hk with hk | hk
  · exact h.secs.lt k hk
  · exact h.cache.lt k hk
theorem OD.below {base : Nat} {T1 T2 : TypeId} {v1 v2 : Value} {d : Dk} (h : OD w base T1 T2 v1 v2 d) (hb : Below w.heap.size w w') : OD w' base T1 T2 v1 v2 d :=
  ⟨(But.of_below (R := fun _ => False) hb).owns h.secs (fun _ _ h => h), (But.of_below (R := fun _ => False) hb).owns h.cache (fun _ _ h => h), h.apart⟩
theorem OD.but {base : Nat} {T1 T2 : TypeId} {v1 v2 : Value} {d : Dk} (h : OD w base T1 T2 v1 v2 d) (hb : But R w w') (hn : ∀ k, own2 v1 v2 k → ¬ R k) : OD w' base T1 T2 v1 v2 d :=
  ⟨hb.owns h.secs (fun g hg => hn g (Or.inl hg)), hb.owns h.cache (fun g hg => hn g (Or.inr hg)), h.apart⟩
theorem write_fin {w2 w3 : World} {base gg cap n k1 m k2 : Nat} {a1 a2 : Option Addr} {d : Dk} {T1 T2 : TypeId} {i : Int} {x : ByteArray} {o : Obj} {u u2 u3 : Value} (H : OD w base T1 T2 (.slice a1 n k1) (.slice a2 m k2) d) (hn : d.secs.length = n) (hm : d.cache.length = m)
    (BU2 : But (own2 (.slice a1 n k1) (.slice a2 m k2)) w w2) (O2 : OD w2 base T1 T2 (.slice a1 n k1) (.slice a2 m k2) d) (hsz : w.heap.size + 1 < w2.heap.size)
    (hown3 : w3.ownsRow base T2 2 (.slice (some ⟨gg, 0, none⟩) (m + 1) cap) (m + 1) (cellsW d.cache ++ [.int .i64 i, .string x])) (hgrow : (w2.alloc o).grownBy w3 (Value.slice a2 m k2).ownBlock) (hat : (Value.slice a2 m k2).ownBlock = some gg ∨ gg = w2.heap.size + 1) :
    OD (((w3.setCell ⟨w.heap.size, 1, none⟩ u).setCell ⟨w.heap.size + 1, 0, none⟩ u2).setCell ⟨w.heap.size + 1, 1, none⟩ u3) base T1 T2 (.slice a1 n k1) (.slice (some ⟨gg, 0, none⟩) (m + 1) cap) ⟨d.secs, d.cache ++ [(i, x)]⟩ ∧
    But (own2 (.slice a1 n k1) (.slice a2 m k2)) w (((w3.setCell ⟨w.heap.size, 1, none⟩ u).setCell ⟨w.heap.size + 1, 0, none⟩ u2).setCell ⟨w.heap.size + 1, 1, none⟩ u3) ∧
    (∀ k, own2 (.slice a1 n k1) (.slice (some ⟨gg, 0, none⟩) (m + 1) cap) k → own2 (.slice a1 n k1) (.slice a2 m k2) k ∨ w.heap.size ≤ k) := by
  have hgg : gg < w.heap.size ∨ w.heap.size + 1 < gg := by
    rcases hat with h | h
    · exact Or.inl (H.ge gg (Or.inr h)).2
    · exact Or.inr (by omega)
  have G3 : But (fun k => (Value.slice a2 m k2).ownBlock = some k) (w2.alloc o) w3 := (But.refl _ _).grown hgrow (fun k hk => Or.inl hk)
  have F : But (fun k => k = w.heap.size ∨ k = w.heap.size + 1) w3 (((w3.setCell ⟨w.heap.size, 1, none⟩ u).setCell ⟨w.heap.size + 1, 0, none⟩ u2).setCell ⟨w.heap.size + 1, 1, none⟩ u3) :=
    (((But.refl _ _).setCell (p := ⟨w.heap.size, 1, none⟩) (Or.inl (Or.inl rfl)) _).setCell (p := ⟨w.heap.size + 1, 0, none⟩) (Or.inl (Or.inr rfl)) _).setCell (p := ⟨w.heap.size + 1, 1, none⟩) (Or.inl (Or.inr rfl)) _
  have F' : But (own2 (.slice a1 n k1) (.slice a2 m k2)) w (((w3.setCell ⟨w.heap.size, 1, none⟩ u).setCell ⟨w.heap.size + 1, 0, none⟩ u2).setCell ⟨w.heap.size + 1, 1, none⟩ u3) :=
    ((((BU2.alloc o).grown hgrow (fun k hk => Or.inl (Or.inr hk))).setCell (p := ⟨w.heap.size, 1, none⟩) (Or.inr (Nat.le_refl _)) _).setCell (p := ⟨w.heap.size + 1, 0, none⟩) (Or.inr (Nat.le_succ _)) _).setCell (p := ⟨w.heap.size + 1, 1, none⟩) (Or.inr (Nat.le_succ _)) _
  refine ⟨⟨?_, ?_, ?_⟩, F', ?_⟩
  · exact F.owns (G3.owns (O2.secs.alloc o) (fun g hg h => O2.apart g hg h)) (fun g hg h => by have := (H.ge g (Or.inl hg)).2; omega)
  · rw [cellsW_snoc] at hown3
    have := F.owns hown3 (fun g hg h => by simp [Value.ownBlock] at hg; omega)
    simpa [hm] using this
  · intro g hg h
    simp only [Value.ownBlock, Option.some.injEq] at h
    subst h
    have h1 := (H.ge gg (Or.inl hg)).2
    rcases hat with h2 | h2
    · exact H.apart gg hg h2
    · omega
  · rintro k (hk | hk)
    · exact Or.inl (Or.inl hk)
    · simp only [Value.ownBlock, Option.some.injEq] at hk
      subst hk
      rcases hat with h2 | h2
      · exact Or.inl (Or.inr h2)
      · exact Or.inr (by omega)
end DM
end Go.Proofs.Ytabmdijfholakaa

/- The document's answers of layer 1, by the plain machine. -/
namespace Go.Proofs.Ytabmdijfholakaa.AM
open Go.RowKit
set_option linter.unusedVariables false
set_option linter.unusedSimpArgs false
def pad (s : ByteArray) (k : Nat) : ByteArray := RM.str (s.data.toList ++ List.replicate k 0)
theorem pad_zero (s : ByteArray) : pad s 0 = s := by unfold pad; simp [RM.str]
theorem pad_size (s : ByteArray) (k : Nat) : (pad s k).size = s.size + k := by unfold pad; rw [RM.str_size]; simp
theorem pad_succ (s : ByteArray) (k : Nat) : pad s k ++ ⟨#[0]⟩ = pad s (k + 1) := by
  unfold pad
  apply RM.bytes_ext
  rw [ByteArray.toList_eq, ByteArray.toList_eq]
  simp [RM.str, List.replicate_succ']
set_option maxHeartbeats 400000 in
theorem rfill_pc {G : World → Prop} (hG : Stab G) (s : ByteArray) (hs : s.size ≤ 1000) : PCalls Try.prog G 46 [valD (.string s)] (valD (.string (DM.fillB s))) := by
  refine pcalls_of Try.func46 rfl (by simp [Try.ntmps46]) hG ?_; intro F hF hFG Q hQ; rw [Try.ntmps46] at hF; rw [Try.results46] at hQ
  repeat (first | (refine acode_region_seq (by rw [hF]; kernel_rfl) ?_; (repeat (refine aops_step fun K1 hK1 => ?_; simp only [push_cast, Nat.reduceEqDiff, reduceCtorEq, Nat.reduceAdd, Nat.reduceMul, Nat.reduceSub, Nat.reduceLeDiff, Nat.reduceLT, Nat.reduceBEq, Nat.reducePow, Int.reduceEq, Int.reduceLT, Int.reduceLE, Int.reduceNeg, Int.reduceAdd, Int.reduceToNat, reduceIte, decide_true, decide_false]; (try simp (disch := omega) only [wrap64, wrap8]); (first | (refine hK1 _ ?_) | (refine ⟨by omega, hK1 _ ?_⟩) | (refine ⟨⟨by omega, by omega⟩, hK1 _ ?_⟩) | (refine ⟨⟨by omega, by omega, by omega⟩, hK1 _ ?_⟩)); clear hK1 K1)); refine aops_nil ?_) | (refine acode_region (by rw [hF]; kernel_rfl) ?_; (repeat (refine aops_step fun K1 hK1 => ?_; simp only [push_cast, Nat.reduceEqDiff, reduceCtorEq, Nat.reduceAdd, Nat.reduceMul, Nat.reduceSub, Nat.reduceLeDiff, Nat.reduceLT, Nat.reduceBEq, Nat.reducePow, Int.reduceEq, Int.reduceLT, Int.reduceLE, Int.reduceNeg, Int.reduceAdd, Int.reduceToNat, reduceIte, decide_true, decide_false]; (try simp (disch := omega) only [wrap64, wrap8]); (first | (refine hK1 _ ?_) | (refine ⟨by omega, hK1 _ ?_⟩) | (refine ⟨⟨by omega, by omega⟩, hK1 _ ?_⟩) | (refine ⟨⟨by omega, by omega, by omega⟩, hK1 _ ?_⟩)); clear hK1 K1)); refine aops_nil ?_) | (refine acode_seq ?_) | (refine acode_block ?_) | (refine acode_skip ?_) | (refine acode_exit ?_) | (refine acode_ret ?_) | (refine andThen_normal ?_) | (refine andThen_exit ?_) | (refine andThen_ret ?_) | (refine inBlock_normal ?_) | (refine inBlock_ret ?_) | (refine inBlock_same ?_) | (refine inBlock_other rfl ?_))
  refine acode_loop (fun n σ => ∃ k, (k = 0 ∨ s.size + k ≤ 32) ∧ n = 32 - (s.size + k) ∧ σ = St.of [(0, valD (.string (pad s k)))] [] []) (32 - s.size) (St.of [(0, valD (.string (pad s 0)))] [] []) ⟨0, Or.inl rfl, by simp, rfl⟩ ?_ ?_
  · rw [pad_zero]; (refine Le.of ?_ ?_ ?_ <;> simp only [List.not_mem_nil, false_implies, implies_true, and_true, true_and, push_cast, Nat.reduceEqDiff, reduceCtorEq, Nat.reduceAdd, Nat.reduceMul, Nat.reduceSub, Nat.reduceLeDiff, Nat.reduceLT, Nat.reduceBEq, Nat.reducePow, Int.reduceEq, Int.reduceLT, Int.reduceLE, Int.reduceNeg, Int.reduceAdd, Int.reduceToNat, reduceIte, decide_true, decide_false])
  · rintro n σ ⟨k, hk, rfl, rfl⟩
    have hp := pad_size s k
    by_cases h : (s.size : Int) + (k : Int) < 32
    · repeat (first | (refine acode_region_seq (by rw [hF]; kernel_rfl) ?_; (repeat (refine aops_step fun K1 hK1 => ?_; simp only [push_cast, Nat.reduceEqDiff, reduceCtorEq, Nat.reduceAdd, Nat.reduceMul, Nat.reduceSub, Nat.reduceLeDiff, Nat.reduceLT, Nat.reduceBEq, Nat.reducePow, Int.reduceEq, Int.reduceLT, Int.reduceLE, Int.reduceNeg, Int.reduceAdd, Int.reduceToNat, reduceIte, decide_true, decide_false, hp, h]; (try simp (disch := omega) only [wrap64, wrap8]); (first | (refine hK1 _ ?_) | (refine ⟨by omega, hK1 _ ?_⟩) | (refine ⟨⟨by omega, by omega⟩, hK1 _ ?_⟩) | (refine ⟨⟨by omega, by omega, by omega⟩, hK1 _ ?_⟩)); clear hK1 K1)); refine aops_nil ?_) | (refine acode_region (by rw [hF]; kernel_rfl) ?_; (repeat (refine aops_step fun K1 hK1 => ?_; simp only [push_cast, Nat.reduceEqDiff, reduceCtorEq, Nat.reduceAdd, Nat.reduceMul, Nat.reduceSub, Nat.reduceLeDiff, Nat.reduceLT, Nat.reduceBEq, Nat.reducePow, Int.reduceEq, Int.reduceLT, Int.reduceLE, Int.reduceNeg, Int.reduceAdd, Int.reduceToNat, reduceIte, decide_true, decide_false, hp, h]; (try simp (disch := omega) only [wrap64, wrap8]); (first | (refine hK1 _ ?_) | (refine ⟨by omega, hK1 _ ?_⟩) | (refine ⟨⟨by omega, by omega⟩, hK1 _ ?_⟩) | (refine ⟨⟨by omega, by omega, by omega⟩, hK1 _ ?_⟩)); clear hK1 K1)); refine aops_nil ?_) | (refine acode_seq ?_) | (refine acode_block ?_) | (refine acode_skip ?_) | (refine acode_exit ?_) | (refine acode_ret ?_) | (refine andThen_normal ?_) | (refine andThen_exit ?_) | (refine andThen_ret ?_) | (refine inBlock_normal ?_) | (refine inBlock_ret ?_) | (refine inBlock_same ?_) | (refine inBlock_other rfl ?_))
      refine acode_true (by simp only [push_cast, Nat.reduceEqDiff, reduceCtorEq, Nat.reduceAdd, Nat.reduceMul, Nat.reduceSub, Nat.reduceLeDiff, Nat.reduceLT, Nat.reduceBEq, Nat.reducePow, Int.reduceEq, Int.reduceLT, Int.reduceLE, Int.reduceNeg, Int.reduceAdd, Int.reduceToNat, reduceIte, decide_true, decide_false, hp, h]) ?_
      repeat (first | (refine acode_region_seq (by rw [hF]; kernel_rfl) ?_; (repeat (refine aops_step fun K1 hK1 => ?_; simp only [push_cast, Nat.reduceEqDiff, reduceCtorEq, Nat.reduceAdd, Nat.reduceMul, Nat.reduceSub, Nat.reduceLeDiff, Nat.reduceLT, Nat.reduceBEq, Nat.reducePow, Int.reduceEq, Int.reduceLT, Int.reduceLE, Int.reduceNeg, Int.reduceAdd, Int.reduceToNat, reduceIte, decide_true, decide_false, hp, h]; (try simp (disch := omega) only [wrap64, wrap8]); (first | (refine hK1 _ ?_) | (refine ⟨by omega, hK1 _ ?_⟩) | (refine ⟨⟨by omega, by omega⟩, hK1 _ ?_⟩) | (refine ⟨⟨by omega, by omega, by omega⟩, hK1 _ ?_⟩)); clear hK1 K1)); refine aops_nil ?_) | (refine acode_region (by rw [hF]; kernel_rfl) ?_; (repeat (refine aops_step fun K1 hK1 => ?_; simp only [push_cast, Nat.reduceEqDiff, reduceCtorEq, Nat.reduceAdd, Nat.reduceMul, Nat.reduceSub, Nat.reduceLeDiff, Nat.reduceLT, Nat.reduceBEq, Nat.reducePow, Int.reduceEq, Int.reduceLT, Int.reduceLE, Int.reduceNeg, Int.reduceAdd, Int.reduceToNat, reduceIte, decide_true, decide_false, hp, h]; (try simp (disch := omega) only [wrap64, wrap8]); (first | (refine hK1 _ ?_) | (refine ⟨by omega, hK1 _ ?_⟩) | (refine ⟨⟨by omega, by omega⟩, hK1 _ ?_⟩) | (refine ⟨⟨by omega, by omega, by omega⟩, hK1 _ ?_⟩)); clear hK1 K1)); refine aops_nil ?_) | (refine acode_seq ?_) | (refine acode_block ?_) | (refine acode_skip ?_) | (refine acode_exit ?_) | (refine acode_ret ?_) | (refine andThen_normal ?_) | (refine andThen_exit ?_) | (refine andThen_ret ?_) | (refine inBlock_normal ?_) | (refine inBlock_ret ?_) | (refine inBlock_same ?_) | (refine inBlock_other rfl ?_))
      refine ⟨_, _, ?_, ⟨k + 1, Or.inr (by omega), rfl, rfl⟩, ?_⟩
      · omega
      · (refine Le.of ?_ ?_ ?_ <;> simp only [List.not_mem_nil, false_implies, implies_true, and_true, true_and, push_cast, Nat.reduceEqDiff, reduceCtorEq, Nat.reduceAdd, Nat.reduceMul, Nat.reduceSub, Nat.reduceLeDiff, Nat.reduceLT, Nat.reduceBEq, Nat.reducePow, Int.reduceEq, Int.reduceLT, Int.reduceLE, Int.reduceNeg, Int.reduceAdd, Int.reduceToNat, reduceIte, decide_true, decide_false, pad_succ])
    · repeat (first | (refine acode_region_seq (by rw [hF]; kernel_rfl) ?_; (repeat (refine aops_step fun K1 hK1 => ?_; simp only [push_cast, Nat.reduceEqDiff, reduceCtorEq, Nat.reduceAdd, Nat.reduceMul, Nat.reduceSub, Nat.reduceLeDiff, Nat.reduceLT, Nat.reduceBEq, Nat.reducePow, Int.reduceEq, Int.reduceLT, Int.reduceLE, Int.reduceNeg, Int.reduceAdd, Int.reduceToNat, reduceIte, decide_true, decide_false, hp, h]; (try simp (disch := omega) only [wrap64, wrap8]); (first | (refine hK1 _ ?_) | (refine ⟨by omega, hK1 _ ?_⟩) | (refine ⟨⟨by omega, by omega⟩, hK1 _ ?_⟩) | (refine ⟨⟨by omega, by omega, by omega⟩, hK1 _ ?_⟩)); clear hK1 K1)); refine aops_nil ?_) | (refine acode_region (by rw [hF]; kernel_rfl) ?_; (repeat (refine aops_step fun K1 hK1 => ?_; simp only [push_cast, Nat.reduceEqDiff, reduceCtorEq, Nat.reduceAdd, Nat.reduceMul, Nat.reduceSub, Nat.reduceLeDiff, Nat.reduceLT, Nat.reduceBEq, Nat.reducePow, Int.reduceEq, Int.reduceLT, Int.reduceLE, Int.reduceNeg, Int.reduceAdd, Int.reduceToNat, reduceIte, decide_true, decide_false, hp, h]; (try simp (disch := omega) only [wrap64, wrap8]); (first | (refine hK1 _ ?_) | (refine ⟨by omega, hK1 _ ?_⟩) | (refine ⟨⟨by omega, by omega⟩, hK1 _ ?_⟩) | (refine ⟨⟨by omega, by omega, by omega⟩, hK1 _ ?_⟩)); clear hK1 K1)); refine aops_nil ?_) | (refine acode_seq ?_) | (refine acode_block ?_) | (refine acode_skip ?_) | (refine acode_exit ?_) | (refine acode_ret ?_) | (refine andThen_normal ?_) | (refine andThen_exit ?_) | (refine andThen_ret ?_) | (refine inBlock_normal ?_) | (refine inBlock_ret ?_) | (refine inBlock_same ?_) | (refine inBlock_other rfl ?_))
      refine acode_false (by simp only [push_cast, Nat.reduceEqDiff, reduceCtorEq, Nat.reduceAdd, Nat.reduceMul, Nat.reduceSub, Nat.reduceLeDiff, Nat.reduceLT, Nat.reduceBEq, Nat.reducePow, Int.reduceEq, Int.reduceLT, Int.reduceLE, Int.reduceNeg, Int.reduceAdd, Int.reduceToNat, reduceIte, decide_true, decide_false, hp, h]) ?_
      repeat (first | (refine acode_region_seq (by rw [hF]; kernel_rfl) ?_; (repeat (refine aops_step fun K1 hK1 => ?_; simp only [push_cast, Nat.reduceEqDiff, reduceCtorEq, Nat.reduceAdd, Nat.reduceMul, Nat.reduceSub, Nat.reduceLeDiff, Nat.reduceLT, Nat.reduceBEq, Nat.reducePow, Int.reduceEq, Int.reduceLT, Int.reduceLE, Int.reduceNeg, Int.reduceAdd, Int.reduceToNat, reduceIte, decide_true, decide_false, hp, h]; (try simp (disch := omega) only [wrap64, wrap8]); (first | (refine hK1 _ ?_) | (refine ⟨by omega, hK1 _ ?_⟩) | (refine ⟨⟨by omega, by omega⟩, hK1 _ ?_⟩) | (refine ⟨⟨by omega, by omega, by omega⟩, hK1 _ ?_⟩)); clear hK1 K1)); refine aops_nil ?_) | (refine acode_region (by rw [hF]; kernel_rfl) ?_; (repeat (refine aops_step fun K1 hK1 => ?_; simp only [push_cast, Nat.reduceEqDiff, reduceCtorEq, Nat.reduceAdd, Nat.reduceMul, Nat.reduceSub, Nat.reduceLeDiff, Nat.reduceLT, Nat.reduceBEq, Nat.reducePow, Int.reduceEq, Int.reduceLT, Int.reduceLE, Int.reduceNeg, Int.reduceAdd, Int.reduceToNat, reduceIte, decide_true, decide_false, hp, h]; (try simp (disch := omega) only [wrap64, wrap8]); (first | (refine hK1 _ ?_) | (refine ⟨by omega, hK1 _ ?_⟩) | (refine ⟨⟨by omega, by omega⟩, hK1 _ ?_⟩) | (refine ⟨⟨by omega, by omega, by omega⟩, hK1 _ ?_⟩)); clear hK1 K1)); refine aops_nil ?_) | (refine acode_seq ?_) | (refine acode_block ?_) | (refine acode_skip ?_) | (refine acode_exit ?_) | (refine acode_ret ?_) | (refine andThen_normal ?_) | (refine andThen_exit ?_) | (refine andThen_ret ?_) | (refine inBlock_normal ?_) | (refine inBlock_ret ?_) | (refine inBlock_same ?_) | (refine inBlock_other rfl ?_))
      refine (hQ _ ?_).2
      have e : pad s k = DM.fillB s := by
        unfold pad DM.fillB RM.fillL
        have : k = 32 - s.data.toList.length := by
          have : s.data.toList.length = s.size := by simp
          omega
        rw [← this]
      simp only [push_cast, Nat.reduceEqDiff, reduceCtorEq, Nat.reduceAdd, Nat.reduceMul, Nat.reduceSub, Nat.reduceLeDiff, Nat.reduceLT, Nat.reduceBEq, Nat.reducePow, Int.reduceEq, Int.reduceLT, Int.reduceLE, Int.reduceNeg, Int.reduceAdd, Int.reduceToNat, reduceIte, decide_true, decide_false, e]
end Go.Proofs.Ytabmdijfholakaa.AM
