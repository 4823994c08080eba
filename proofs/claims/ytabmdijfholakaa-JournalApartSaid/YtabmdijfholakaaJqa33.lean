/- One text of JouS, JouM, JouN, JouO (mk/pack.py). -/
import Derived.Test.YtabmdijfholakaaJqa32
import Derived.Test.YtabmdijfholakaaJqa15
/- Layer 4: what the program's functions come to. -/
namespace Go.Proofs
open Go.RowKit
set_option linter.unusedVariables false
set_option linter.unusedSimpArgs false
namespace Ytabmdijfholakaa.AM
theorem unB_eq (b : ByteArray) : unB b = b.data.toList := rfl
theorem unB_length (b : ByteArray) : (unB b).length = b.size := unB_len b
theorem letO_some {α β : Type} (x : α) (f : α → Option β) : letO x f = f x := rfl
def chk (f z : Int) : Prop := 0 ≤ f ∧ 2 ≤ z ∧ z ≤ 512 - f
instance (f z : Int) : Decidable (chk f z) := by unfold chk; infer_instance
theorem chk_spec (n : Nat) (f z : Int) (h1 : -9223372036854775808 ≤ f) (h2 : f ≤ 9223372036854775807) : jChk_t n (f, z) = some (decide (chk f z)) := by
  unfold jChk_t chk
  simp only
  by_cases c1 : 0 ≤ f
  · rw [decide_eq_true c1, cond_true]
    by_cases c2 : 2 ≤ z
    · rw [decide_eq_true c2, cond_true, wrap64 (by omega) (by omega), letO_some]
      congr 1
      simp [c1, c2]
    · rw [decide_eq_false c2, cond_false]
      simp [c2]
  · rw [decide_eq_false c1, cond_false]
    simp [c1]
theorem room_spec (n : Nat) (f z a : Nat) (h1 : f + z ≤ 512) (h2 : a ≤ 100000) : jRoom_t n ((f : Int), ((z : Int), (a : Int))) = some (((f + z : Nat) : Int) - (a : Int)) := by
  unfold jRoom_t
  simp only
  rw [wrap64 (by omega) (by omega), letO_some, wrap64 (by omega) (by omega), letO_some]
  congr 1
theorem countF_le (m : Int) (h : 0 ≤ m ∧ m ≤ 4096) : 0 ≤ RM.countF m ∧ RM.countF m ≤ 133 := by unfold RM.countF; rw [if_pos h]; omega
theorem beh_spec (n : Nat) (f z a : Nat) (m : Int) (h2 : a ≤ 100000) (h : 0 ≤ m ∧ m ≤ 4096) : jBeh_t n ((f : Int), ((z : Int), (a : Int))) m = some ((f : Int), ((z : Int), ((a + 1 + (RM.countF m).toNat : Nat) : Int))) := by
  have hc := countF_le m h
  unfold jBeh_t jcount_t
  rw [if_pos (show i64B m by unfold i64B; omega), Option.bind_some]
  simp only
  rw [wrap64 (by omega) (by omega), letO_some, wrap64 (by omega) (by omega), letO_some]
  congr 3
  omega
/-- the sectors, once all that was written is kept -/
def flat (D : DM.Dk) : List ByteArray := DM.settleK (fun _ => true) D.secs D.cache D.cache.length
theorem flat_len (D : DM.Dk) : (flat D).length = D.secs.length := DM.settleK_length _ _ _ _
def secOk (D : DM.Dk) (f z : Int) : Prop := chk f z ∧ DM.mayD D ∧ f + z ≤ (D.secs.length : Int)
instance (D : DM.Dk) (f z : Int) : Decidable (secOk D f z) := by unfold secOk; infer_instance
theorem sec_spec (n : Nat) (d : DkT) (hd : smD d) (f z : Int) (h1 : -9223372036854775808 ≤ f) (h2 : f ≤ 9223372036854775807) : jSec_t n d (f, z) = some (if secOk (dkOf d) f z then ((flat (dkOf d)).map unB, true) else ([], false)) := by
  unfold jSec_t
  rw [chk_spec n f z h1 h2, Option.bind_some]
  by_cases c : chk f z
  · have c' := c
    unfold chk at c'
    rw [decide_eq_true c, Bool.not_true, cond_false]
    unfold flush_t
    rw [if_pos hd, Option.bind_some]
    simp only
    by_cases cm : DM.mayD (dkOf d)
    · have e1 : DM.argE (dkOf d) = 0 := by unfold DM.argE; rw [if_pos cm]
      have e2 : DM.crashD (fun _ => true) (dkOf d) = ⟨flat (dkOf d), []⟩ := by unfold DM.crashD DM.settleD flat; rw [if_pos cm]
      rw [e1, decide_eq_true rfl, Bool.not_true, cond_false, wrap64 (by omega) (by omega), letO_some, e2]
      have e3 : (ofDk ⟨flat (dkOf d), []⟩).1 = (flat (dkOf d)).map unB := rfl
      rw [e3, List.length_map, flat_len]
      by_cases cl : ((dkOf d).secs.length : Int) < f + z
      · rw [decide_eq_true cl, cond_true, if_neg (fun h => by have := h.2.2; omega)]
      · rw [decide_eq_false cl, cond_false, if_pos ⟨c, cm, by omega⟩]
    · have e1 : DM.argE (dkOf d) = 1 := by unfold DM.argE; rw [if_neg cm]
      rw [e1, decide_eq_false (by decide), Bool.not_false, cond_true, if_neg (fun h => cm h.2.1)]
  · rw [decide_eq_false c, Bool.not_false, cond_true, if_neg (fun h => c h.1)]
theorem read_unB (b : ByteArray) : jread_t (unB b) = some (readH b, decide (RM.readOk b)) := by unfold jread_t; rw [ba_unB]
theorem readOk_size {b : ByteArray} (h : RM.readOk b) : 0 ≤ RM.numAt b 10 ∧ RM.numAt b 10 ≤ 4096 := h.2.1.2.2.2.1
/-- a sector; nothing, where none is -/
def gB (B : List ByteArray) (j : Nat) : ByteArray := B.getD j ⟨#[]⟩
theorem gB_lt {B : List ByteArray} {j : Nat} (h : j < B.length) : gB B j = B[j] := by
  unfold gB
  rw [List.getD_eq_getElem?_getD, List.getElem?_eq_getElem h]; rfl
/-- the payload of the record at a place, if there is one -/
def recP (B : List ByteArray) (e at_ : Nat) (g q : Int) : Prop :=
  at_ < e ∧ RM.readOk (gB B at_) ∧ RM.kindF (gB B at_) = 2 ∧ RM.numAt (gB B at_) 2 = g ∧ RM.numAt (gB B at_) 6 = q ∧ at_ + 1 + (RM.countF (RM.numAt (gB B at_) 10)).toNat ≤ e ∧
  RM.joinOk ((B.drop (at_ + 1)).take (RM.countF (RM.numAt (gB B at_) 10)).toNat) (RM.numAt (gB B at_) 10) ∧
  SM.rollF 1 (RM.joinB ((B.drop (at_ + 1)).take (RM.countF (RM.numAt (gB B at_) 10)).toNat) (RM.numAt (gB B at_) 10)).data.toList = RM.numAt (gB B at_) 14
def recB (B : List ByteArray) (at_ : Nat) : ByteArray := RM.joinB ((B.drop (at_ + 1)).take (RM.countF (RM.numAt (gB B at_) 10)).toNat) (RM.numAt (gB B at_) 10)
instance (B : List ByteArray) (e a : Nat) (g q : Int) : Decidable (recP B e a g q) := by unfold recP; infer_instance
theorem rec_spec (n : Nat) (B : List ByteArray) (f z a : Nat) (g q : Int) (h1 : f + z ≤ 512) (h2 : a ≤ 2000) (hB : f + z ≤ B.length) :
    jRec_t n ((f : Int), ((z : Int), (a : Int))) (B.map unB) g q = some (if recP B (f + z) a g q then (unB (recB B a), true) else ([], false)) := by
  unfold jRec_t
  rw [room_spec n f z a h1 (by omega), Option.bind_some]
  by_cases c0 : a < f + z
  case neg =>
    rw [decide_eq_true (by omega), cond_true, if_neg (fun h => c0 h.1)]
  have ha : a < B.length := by omega
  have ha' : a < (B.map unB).length := by rw [List.length_map]; exact ha
  have hg : gB B a = B[a] := gB_lt ha
  have hrP : recP B (f + z) a g q ↔ (a < f + z ∧ RM.readOk B[a] ∧ RM.kindF B[a] = 2 ∧ RM.numAt B[a] 2 = g ∧ RM.numAt B[a] 6 = q ∧ a + 1 + (RM.countF (RM.numAt B[a] 10)).toNat ≤ f + z ∧ RM.joinOk ((B.drop (a + 1)).take (RM.countF (RM.numAt B[a] 10)).toNat) (RM.numAt B[a] 10) ∧
      SM.rollF 1 (RM.joinB ((B.drop (a + 1)).take (RM.countF (RM.numAt B[a] 10)).toNat) (RM.numAt B[a] 10)).data.toList = RM.numAt B[a] 14) := by unfold recP; rw [hg]
  rw [decide_eq_false (by omega), cond_false]
  simp only
  rw [idx_lt ha', List.getElem_map, Option.bind_some, read_unB, Option.bind_some]
  simp only
  by_cases c1 : RM.readOk B[a]
  case neg =>
    rw [decide_eq_false c1, Bool.not_false, cond_true, if_neg (fun h => c1 (hrP.1 h).2.1)]
  have hz := readOk_size c1
  have hcz := countF_le _ hz
  have eh : readH B[a] = (RM.kindF B[a], (RM.numAt B[a] 2, (RM.numAt B[a] 6, (RM.numAt B[a] 10, RM.numAt B[a] 14)))) := by unfold readH; rw [if_pos c1]
  rw [decide_eq_true c1, Bool.not_true, cond_false, eh]
  simp only
  have hrec : recB B a = RM.joinB ((B.drop (a + 1)).take (RM.countF (RM.numAt B[a] 10)).toNat) (RM.numAt B[a] 10) := by unfold recB; rw [hg]
  clear hg eh
  generalize RM.kindF B[a] = kd at *
  generalize RM.numAt B[a] 2 = n2 at *
  generalize RM.numAt B[a] 6 = n6 at *
  generalize RM.numAt B[a] 10 = n10 at *
  generalize RM.numAt B[a] 14 = n14 at *
  by_cases c2 : kd = 2
  case neg => rw [decide_eq_false c2, Bool.not_false, cond_true, if_neg (fun h => c2 (hrP.1 h).2.2.1)]
  rw [decide_eq_true c2, Bool.not_true, cond_false]
  by_cases c3 : n2 = g
  case neg => rw [decide_eq_false c3, Bool.not_false, cond_true, if_neg (fun h => c3 (hrP.1 h).2.2.2.1)]
  rw [decide_eq_true c3, Bool.not_true, cond_false]
  by_cases c4 : n6 = q
  case neg => rw [decide_eq_false c4, Bool.not_false, cond_true, if_neg (fun h => c4 (hrP.1 h).2.2.2.2.1)]
  have hcc : (RM.countF n10).toNat ≤ 133 := by omega
  have e4 := beh_spec n f z a n10 (by omega) hz
  have e5 := room_spec n f z (a + 1 + (RM.countF n10).toNat) h1 (by omega)
  rw [decide_eq_true c4, Bool.not_true, cond_false, e4, Option.bind_some, e5, Option.bind_some]
  by_cases c5 : a + 1 + (RM.countF n10).toNat ≤ f + z
  case neg => rw [decide_eq_true (by omega), cond_true, if_neg (fun h => c5 (hrP.1 h).2.2.2.2.2.1)]
  rw [decide_eq_false (by omega), cond_false]
  simp only
  have w1 : IntKind.wrap .i64 ((a : Int) + 1) = ((a + 1 : Nat) : Int) := wrap_succ (by omega)
  rw [w1, letO_some, sub_le (by omega) (by rw [List.length_map]; omega), Option.bind_some]
  have e1 : a + 1 + (RM.countF n10).toNat - (a + 1) = (RM.countF n10).toNat := by omega
  rw [e1]
  have e2 : (((B.map unB).drop (a + 1)).take (RM.countF n10).toNat) = ((B.drop (a + 1)).take (RM.countF n10).toNat).map unB := by rw [← List.map_drop, ← List.map_take]
  rw [e2]
  have e3 : ∀ l : List ByteArray, (l.map unB).map ba = l := fun l => by
    rw [List.map_map]
    exact (List.map_congr_left fun x _ => ba_unB x).trans (List.map_id _)
  have hl : ((B.drop (a + 1)).take (RM.countF n10).toNat).length ≤ 1000 := by rw [List.length_take]; omega
  unfold jjoin_t
  rw [if_pos ⟨by rw [List.length_map]; exact hl, by unfold i64B; omega⟩, Option.bind_some, e3, ← hrec]
  simp only
  by_cases c6 : RM.joinOk ((B.drop (a + 1)).take (RM.countF n10).toNat) n10
  case neg => rw [decide_eq_false c6, Bool.not_false, cond_true, if_neg (fun h => c6 (hrP.1 h).2.2.2.2.2.2.1)]
  rw [decide_eq_true c6, Bool.not_true, cond_false]
  have hlen : (unB (recB B a)).length ≤ maxLen := by
    have hM := max_eq
    have h9 := (RM.joinB_size _ _ c6).2.1
    rw [← hrec] at h9
    rw [unB_length]
    generalize (recB B a).size = u at *
    omega
  unfold jsumOf_t
  rw [if_pos hlen, Option.bind_some]
  by_cases c7 : SM.rollF 1 (unB (recB B a)) = n14
  · rw [decide_eq_true c7, Bool.not_true, cond_false, if_pos]
    exact hrP.2 ⟨c0, c1, c2, c3, c4, c5, c6, by rw [← hrec, ← unB_eq]; exact c7⟩
  · rw [decide_eq_false c7, Bool.not_false, cond_true, if_neg]
    intro h
    have h8 := (hrP.1 h).2.2.2.2.2.2.2
    rw [← hrec, ← unB_eq] at h8
    exact c7 h8
theorem recB_len {B : List ByteArray} {e a : Nat} {g q : Int} (h : recP B e a g q) : (recB B a).size ≤ 4096 := by
  have hz := readOk_size h.2.1
  have c6 := h.2.2.2.2.2.2.1
  unfold recB RM.joinB
  rw [if_pos c6]
  unfold RM.joinS
  rw [RM.str_size, List.length_take]
  omega
/-- a log's items from a place on, and where they end -/
def openS (B : List ByteArray) (e : Nat) (g : Int) : Nat → Nat → List ByteArray → List ByteArray × Nat
  | 0, a, its => (its, a)
  | m + 1, a, its => if recP B e a g (its.length : Int) then openS B e g m (a + 1 + (RM.countF ((recB B a).size : Int)).toNat) (its ++ [recB B a]) else (its, a)
theorem openS_end {B : List ByteArray} {e : Nat} {g : Int} (m a : Nat) (its : List ByteArray) (h : ¬ recP B e a g (its.length : Int)) : openS B e g m a its = (its, a) := by
  cases m with
  | zero => rfl
  | succ m => unfold openS; rw [if_neg h]
theorem openS_fuel {B : List ByteArray} {e : Nat} {g : Int} : ∀ (m k a : Nat) (its : List ByteArray), e - a ≤ m → e - a ≤ k → openS B e g m a its = openS B e g k a its
  | 0, k, a, its, h1, h2 => (openS_end k a its (fun h => absurd (show a < e from h.1) (by omega))).symm
  | m + 1, 0, a, its, h1, h2 => openS_end (m + 1) a its (fun h => absurd (show a < e from h.1) (by omega))
  | m + 1, k + 1, a, its, h1, h2 => by
    unfold openS
    split
    · rename_i h
      have := h.1
      exact openS_fuel m k _ _ (by omega) (by omega)
    · rfl
theorem open_loop (n : Nat) (B : List ByteArray) (f z : Nat) (g : Int) (h1 : f + z ≤ 512) (hB : f + z ≤ B.length) : ∀ (m a : Nat) (its : List ByteArray), f + z - a < m → a ≤ 1000 → its.length ≤ a →
    jOpen_loop0 n m (B.map unB) 0 0 (f : Int) (z : Int) (a : Int) g 0 (its.map unB) = some (((), ((), ((), ()))), (((0 : Int), ((), (0 : Int))), (((f : Int), ((z : Int), (((openS B (f + z) g (f + z - a) a its).2 : Nat) : Int))), ((g, ((), (0 : Int))), ()))), ((openS B (f + z) g (f + z - a) a its).1.map unB, ())) := by
  intro m
  induction m with
  | zero => intro a its h _ _; omega
  | succ m ihm =>
    intro a its hm ha hi
    rw [jOpen_loop0_succ]
    unfold jOpen_l0
    rw [List.length_map, rec_spec n B f z a g (its.length : Int) h1 (by omega) hB, Option.bind_some]
    by_cases c : recP B (f + z) a g (its.length : Int)
    · have hl := recB_len c
      have ha1 := c.1
      have hu : (unB (recB B a)).length = (recB B a).size := unB_length _
      have es : ∀ m, openS B (f + z) g (m + 1) a its = openS B (f + z) g m (a + 1 + (RM.countF ((recB B a).size : Int)).toNat) (its ++ [recB B a]) := fun m => by
        conv => lhs; unfold openS
        rw [if_pos c]
      rw [if_pos c]
      clear c
      generalize recB B a = x at *
      have eb := beh_spec n f z a (x.size : Int) (by omega) ⟨by omega, by omega⟩
      have hcz := countF_le (x.size : Int) ⟨by omega, by omega⟩
      have hk : (RM.countF (x.size : Int)).toNat ≤ 133 := by omega
      generalize (RM.countF (x.size : Int)).toNat = k at *
      simp only [Bool.not_true, cond_false]
      rw [app_le (by simp; omega), Option.bind_some, hu, eb, Option.bind_some]
      simp only
      have ih := ihm (a + 1 + k) (its ++ [x]) (by omega) (by omega) (by simp; omega)
      have e : openS B (f + z) g (f + z - a) a its = openS B (f + z) g (f + z - (a + 1 + k)) (a + 1 + k) (its ++ [x]) := by
        rw [show f + z - a = (f + z - a - 1) + 1 from by omega, es]
        exact openS_fuel _ _ _ _ (by omega) (by omega)
      rw [e]
      rw [List.map_append] at ih
      exact ih
    · rw [if_neg c, openS_end _ a its c]
      simp only [Bool.not_false, cond_true]
end Ytabmdijfholakaa.AM
end Go.Proofs

/- Layer 4: the mathematics of logs: sectors that are alike, what an addition that is cut off leaves, what is read then. -/
namespace Go.Proofs
open Go.RowKit
set_option linter.unusedVariables false
set_option linter.unusedSimpArgs false
namespace Ytabmdijfholakaa.AM
abbrev BL := List ByteArray
theorem gB_set (B : BL) (a j : Nat) (x : ByteArray) : gB (B.set a x) j = if a = j ∧ a < B.length then x else gB B j := by
  unfold gB
  rw [List.getD_eq_getElem?_getD, List.getElem?_set]
  by_cases h : a = j
  · subst h
    by_cases h2 : a < B.length
    · rw [if_pos rfl, if_pos h2, if_pos ⟨rfl, h2⟩]; rfl
    · rw [if_pos rfl, if_neg h2, if_neg (fun h => h2 h.2)]
      rw [List.getD_eq_getElem?_getD, List.getElem?_eq_none (by omega)]
  · rw [if_neg h, if_neg (fun h2 => h h2.1), ← List.getD_eq_getElem?_getD]
/-- sectors are alike from one on up to another -/
def alike (B X : BL) (lo e : Nat) : Prop := ∀ j, lo ≤ j → j < e → gB B j = gB X j
theorem take_alike {B X : BL} {a c : Nat} (h1 : a + c ≤ B.length) (h2 : a + c ≤ X.length) (h : alike B X a (a + c)) : (B.drop a).take c = (X.drop a).take c := by
  apply List.ext_getElem
  · simp only [List.length_take, List.length_drop]; omega
  · intro j h3 h4
    rw [List.length_take, List.length_drop] at h3
    rw [List.getElem_take, List.getElem_take, List.getElem_drop, List.getElem_drop]
    have := h (a + j) (by omega) (by omega)
    rw [gB_lt (by omega), gB_lt (by omega)] at this
    exact this
theorem recP_alike {B X : BL} {e a : Nat} {g q : Int} (hB : e ≤ B.length) (hX : e ≤ X.length) (h : recP B e a g q) (hal : alike B X a (a + 1 + (RM.countF (RM.numAt (gB B a) 10)).toNat)) : recP X e a g q ∧ recB X a = recB B a := by
  have hend : a + 1 + (RM.countF (RM.numAt (gB B a) 10)).toNat ≤ e := h.2.2.2.2.2.1
  have e0 : gB B a = gB X a := hal a (Nat.le_refl _) (by omega)
  have e1 : (B.drop (a + 1)).take (RM.countF (RM.numAt (gB B a) 10)).toNat = (X.drop (a + 1)).take (RM.countF (RM.numAt (gB B a) 10)).toNat := take_alike (by omega) (by omega) (fun j h1 h2 => hal j (by omega) (by omega))
  refine ⟨?_, ?_⟩
  · unfold recP; rw [← e0, ← e1]; exact h
  · unfold recB; rw [← e0, ← e1]
theorem rec_size {B : BL} {e a : Nat} {g q : Int} (h : recP B e a g q) : ((recB B a).size : Int) = RM.numAt (gB B a) 10 := (RM.joinB_size _ _ h.2.2.2.2.2.2.1).2.1
theorem rec_end {B : BL} {e a : Nat} {g q : Int} (h : recP B e a g q) : a + 1 + (RM.countF ((recB B a).size : Int)).toNat ≤ e := by rw [rec_size h]; exact h.2.2.2.2.2.1
theorem openS_pos {B : BL} {e : Nat} {g : Int} (m a : Nat) (its : BL) (h : recP B e a g (its.length : Int)) : openS B e g (m + 1) a its = openS B e g m (a + 1 + (RM.countF ((recB B a).size : Int)).toNat) (its ++ [recB B a]) := by
  conv => lhs; unfold openS
  rw [if_pos h]
theorem openS_ge {B : BL} {e : Nat} {g : Int} : ∀ (m a : Nat) (its : BL), a ≤ (openS B e g m a its).2
  | 0, a, its => Nat.le_refl _
  | m + 1, a, its => by
    by_cases h : recP B e a g (its.length : Int)
    · rw [openS_pos m a its h]
      have := openS_ge (B := B) (e := e) (g := g) m (a + 1 + (RM.countF ((recB B a).size : Int)).toNat) (its ++ [recB B a])
      omega
    · rw [openS_end _ a its h]; exact Nat.le_refl _
theorem openS_le {B : BL} {e : Nat} {g : Int} : ∀ (m a : Nat) (its : BL), a ≤ e → (openS B e g m a its).2 ≤ e
  | 0, a, its, ha => ha
  | m + 1, a, its, ha => by
    by_cases h : recP B e a g (its.length : Int)
    · rw [openS_pos m a its h]
      exact openS_le m _ _ (rec_end h)
    · rw [openS_end _ a its h]; exact ha
theorem openS_len {B : BL} {e : Nat} {g : Int} : ∀ (m a : Nat) (its : BL), its.length ≤ a → (openS B e g m a its).1.length ≤ (openS B e g m a its).2
  | 0, a, its, ha => ha
  | m + 1, a, its, ha => by
    by_cases h : recP B e a g (its.length : Int)
    · rw [openS_pos m a its h]
      exact openS_len m _ _ (by simp only [List.length_append, List.length_cons, List.length_nil]; omega)
    · rw [openS_end _ a its h]; exact ha
theorem openS_stop {B : BL} {e : Nat} {g : Int} : ∀ (m a : Nat) (its : BL), e - a ≤ m → ¬ recP B e (openS B e g m a its).2 g (((openS B e g m a its).1.length : Nat) : Int)
  | 0, a, its, hm => fun h => absurd (show a < e from h.1) (by omega)
  | m + 1, a, its, hm => by
    by_cases h : recP B e a g (its.length : Int)
    · rw [openS_pos m a its h]
      have := h.1
      exact openS_stop m _ _ (by omega)
    · rw [openS_end _ a its h]; exact h
theorem openS_alike {B X : BL} {e : Nat} {g : Int} (hB : e ≤ B.length) (hX : e ≤ X.length) : ∀ (m a : Nat) (its : BL), e - a ≤ m → alike B X a (openS B e g m a its).2 →
    openS X e g m a its = openS X e g m (openS B e g m a its).2 (openS B e g m a its).1 := by
  intro m
  induction m with
  | zero => intro a its hm hal; rfl
  | succ m ihm =>
    intro a its hm hal
    by_cases h : recP B e a g (its.length : Int)
    · have e1 := openS_pos m a its h
      have hs := rec_size h
      have ha : a < e := h.1
      have hxx := fun hal' => recP_alike (X := X) hB hX h hal'
      have e2 := fun hx => openS_pos (B := X) (e := e) (g := g) m a its hx
      rw [← hs] at hxx
      rw [e1] at hal ⊢
      clear e1 hs
      obtain ⟨x, hx0⟩ : ∃ x, recB B a = x := ⟨_, rfl⟩
      rw [hx0] at hal hxx ⊢
      obtain ⟨k, hk⟩ : ∃ k, (RM.countF (x.size : Int)).toNat = k := ⟨_, rfl⟩
      rw [hk] at hal hxx ⊢
      have hge := openS_ge (B := B) (e := e) (g := g) m (a + 1 + k) (its ++ [x])
      have ih := ihm (a + 1 + k) (its ++ [x]) (by omega) (fun j h1 h2 => hal j (by omega) h2)
      obtain ⟨p, hp⟩ : ∃ p, openS B e g m (a + 1 + k) (its ++ [x]) = p := ⟨_, rfl⟩
      rw [hp] at hal hge ih ⊢
      obtain ⟨q1, q2⟩ := hxx (fun j h1 h2 => hal j h1 (by omega))
      rw [e2 q1, q2, hk, ih]
      exact openS_fuel m (m + 1) _ _ (by omega) (by omega)
    · rw [openS_end _ a its h]
/-- no head of that generation, and of that number or above, from a sector on -/
def bad (x : ByteArray) (g : Int) (q : Nat) : Prop := RM.readOk x ∧ RM.kindF x = 2 ∧ RM.numAt x 2 = g ∧ (q : Int) ≤ RM.numAt x 6
instance (x : ByteArray) (g : Int) (q : Nat) : Decidable (bad x g q) := by unfold bad; infer_instance
def cleanP (B : BL) (lo e : Nat) (g : Int) (q : Nat) : Prop := ∀ j, j < e → lo ≤ j → ¬ bad (gB B j) g q
instance (B : BL) (lo e : Nat) (g : Int) (q : Nat) : Decidable (cleanP B lo e g q) := by unfold cleanP; infer_instance
theorem clean_end {B : BL} {lo e : Nat} {g : Int} {q : Nat} (h : e ≤ lo) : cleanP B lo e g q := fun j h1 h2 => by omega
theorem clean_step {B : BL} {lo e : Nat} {g : Int} {q : Nat} (hl : lo < e) : cleanP B lo e g q ↔ ¬ bad (gB B lo) g q ∧ cleanP B (lo + 1) e g q :=
  ⟨fun h => ⟨h lo hl (Nat.le_refl _), fun j h1 h2 => h j h1 (by omega)⟩, fun h j h1 h2 => by
    by_cases hj : j = lo
    · subst hj; exact h.1
    · exact h.2 j h1 (by omega)⟩
theorem no_rec {X : BL} {e a : Nat} {g : Int} {q : Nat} (h : a < e → ¬ bad (gB X a) g q) : ¬ recP X e a g (q : Int) := fun hr => h hr.1 ⟨hr.2.1, hr.2.2.1, hr.2.2.2.1, by rw [hr.2.2.2.2.1]; exact Int.le_refl _⟩
/-- a log's generation, and whether its region begins one -/
def genB (B : BL) (f : Nat) : Int := (readH (gB B f)).2.1
def begP (B : BL) (f : Nat) : Prop := gB B f = RM.textB 1 (genB B f) 0 0 1
instance (B : BL) (f : Nat) : Decidable (begP B f) := by unfold begP; infer_instance
theorem genB_in (B : BL) (f : Nat) : 0 ≤ genB B f ∧ genB B f ≤ 1073741824 := by
  unfold genB readH
  by_cases c : RM.readOk (gB B f)
  · rw [if_pos c]; exact c.2.1.2.1
  · rw [if_neg c]; exact ⟨Int.le_refl _, by decide⟩
theorem may_beg {g : Int} (h : 0 ≤ g ∧ g ≤ 1073741824) : RM.may 1 g 0 0 1 := ⟨Or.inl rfl, h, by decide, by decide, SM.isSum_one⟩
theorem genB_text {B : BL} {f : Nat} {g : Int} (h : 0 ≤ g ∧ g ≤ 1073741824) (hb : gB B f = RM.textB 1 g 0 0 1) : genB B f = g := by
  have hm := may_beg h
  have h1 := (RM.read_text 1 g 0 0 1 hm).1
  obtain ⟨_, h2, _⟩ := RM.text_nums 1 g 0 0 1 hm
  unfold genB readH
  rw [hb, if_pos h1]
  show RM.numAt (RM.textB 1 g 0 0 1) 2 = g
  rw [RM.textB_yes _ _ _ _ _ hm]; exact h2
/-- a log: its items, and the sector behind them -/
def logS (B : BL) (f z : Nat) : BL × Nat := openS B (f + z) (genB B f) (z - 1) (f + 1) []
/-! what an addition leaves -/
def condA (B X : BL) (nx k : Nat) (p : ByteArray) : Prop := X.length = B.length ∧ ∀ j, gB X j = gB B j ∨ ∃ i, i < k ∧ j = nx + 1 + i ∧ gB X j = RM.sec p i
def condB (B X : BL) (nx k : Nat) (p h : ByteArray) : Prop := X.length = B.length ∧ (∀ j, (j < nx ∨ nx + k < j) → gB X j = gB B j) ∧ gB X nx = h ∧ ∀ i, i < k → gB X (nx + 1 + i) = RM.sec p i
theorem was_log {B X : BL} {f z k : Nat} {p : ByteArray} (hz : 1 ≤ z) (hB : f + z ≤ B.length) (hcl : cleanP B (logS B f z).2 (f + z) (genB B f) (logS B f z).1.length) (h : condA B X (logS B f z).2 k p) :
    genB X f = genB B f ∧ (begP B f → begP X f) ∧ logS X f z = logS B f z ∧ cleanP X (logS X f z).2 (f + z) (genB X f) (logS X f z).1.length := by
  obtain ⟨hl, ha⟩ := h
  have hge : f + 1 ≤ (logS B f z).2 := openS_ge _ _ _
  have same : ∀ j, j ≤ (logS B f z).2 → gB X j = gB B j := fun j hj => by
    rcases ha j with h | ⟨i, _, h, _⟩
    · exact h
    · omega
  have e0 := same f (by omega)
  have eg : genB X f = genB B f := by unfold genB; rw [e0]
  have eo : logS X f z = logS B f z := by
    have h1 := openS_alike (g := genB B f) hB (hl ▸ hB) (z - 1) (f + 1) [] (by omega) (fun j h1 h2 => (same j (Nat.le_of_lt h2)).symm)
    unfold logS at hcl same ⊢
    rw [eg, h1, openS_end]
    apply no_rec
    intro hlt
    rw [same _ (Nat.le_refl _)]
    exact hcl _ hlt (Nat.le_refl _)
  refine ⟨eg, fun hb => ?_, eo, ?_⟩
  · unfold begP at hb ⊢; rw [eg, e0]; exact hb
  · rw [eo, eg]
    intro j h1 h2
    rcases ha j with h | ⟨i, _, _, h⟩
    · rw [h]; exact hcl j h1 h2
    · rw [h]; exact fun hb => RM.sec_not_head p i hb.1
theorem has_log {B X : BL} {f z : Nat} {p : ByteArray} (hz : 1 ≤ z) (hB : f + z ≤ B.length) (hcl : cleanP B (logS B f z).2 (f + z) (genB B f) (logS B f z).1.length) (hp : p.size ≤ 4096) (hq : (logS B f z).1.length ≤ 65535)
    (hr : (logS B f z).2 + 1 + RM.cutN p ≤ f + z) (h : condB B X (logS B f z).2 (RM.cutN p) p (RM.textB 2 (genB B f) ((logS B f z).1.length : Int) (p.size : Int) (SM.rollF 1 p.data.toList))) :
    genB X f = genB B f ∧ (begP B f → begP X f) ∧ logS X f z = ((logS B f z).1 ++ [p], (logS B f z).2 + 1 + RM.cutN p) ∧ cleanP X (logS X f z).2 (f + z) (genB X f) (logS X f z).1.length := by
  obtain ⟨hl, ha, hh, hs⟩ := h
  have hge : f + 1 ≤ (logS B f z).2 := openS_ge _ _ _
  have e0 := ha f (Or.inl (by omega))
  have eg : genB X f = genB B f := by unfold genB; rw [e0]
  have hm : RM.may 2 (genB B f) ((logS B f z).1.length : Int) (p.size : Int) (SM.rollF 1 p.data.toList) := ⟨Or.inr rfl, genB_in B f, ⟨by omega, by omega⟩, ⟨by omega, by omega⟩, SM.isSum_roll _ _⟩
  have hread := (RM.read_text _ _ _ _ _ hm).1
  obtain ⟨n1, n2, n3, n4, n5⟩ := RM.text_nums _ _ _ _ _ hm
  rw [← RM.textB_yes _ _ _ _ _ hm] at n1 n2 n3 n4 n5
  rw [← hh] at n1 n2 n3 n4 n5 hread
  have hck : (RM.countF (p.size : Int)).toNat = RM.cutN p := by rw [RM.countF_cut p hp]; omega
  have ecut : (X.drop ((logS B f z).2 + 1)).take (RM.cutN p) = RM.cutL p := by
    apply List.ext_getElem
    · rw [List.length_take, List.length_drop, RM.cutL_length]; omega
    · intro i h1 h2
      rw [RM.cutL_length] at h2
      rw [List.getElem_take, List.getElem_drop]
      have := hs i h2
      rw [gB_lt (by omega)] at this
      rw [this]
      simp [RM.cutL]
  have erec : recP X (f + z) (logS B f z).2 (genB B f) ((logS B f z).1.length : Int) ∧ recB X (logS B f z).2 = p := by
    have eb : recB X (logS B f z).2 = p := by
      unfold recB
      rw [n4, hck, ecut]; exact RM.joinB_cut p hp
    refine ⟨⟨by omega, hread, n1, n2, n3, ?_, ?_, ?_⟩, eb⟩
    · rw [n4, hck]; exact hr
    · rw [n4, hck, ecut]; exact RM.joinOk_cut p hp
    · rw [n4, hck, ecut, n5, RM.joinB_cut p hp]
  have hbad : ∀ j, j < f + z → (logS B f z).2 + 1 + RM.cutN p ≤ j → ¬ bad (gB X j) (genB B f) (((logS B f z).1 ++ [p]).length) := fun j h1 h2 hb => by
    rw [ha j (Or.inr (by omega))] at hb
    refine hcl j h1 (by omega) ⟨hb.1, hb.2.1, hb.2.2.1, ?_⟩
    have := hb.2.2.2
    rw [List.length_append, List.length_cons, List.length_nil] at this
    omega
  have eo : logS X f z = ((logS B f z).1 ++ [p], (logS B f z).2 + 1 + RM.cutN p) := by
    have h1 := openS_alike (g := genB B f) hB (hl ▸ hB) (z - 1) (f + 1) [] (by omega) (fun j h1 h2 => (ha j (Or.inl h2)).symm)
    have hstep := openS_pos (B := X) (e := f + z) (g := genB B f) (z - 2) (logS B f z).2 (logS B f z).1 erec.1
    rw [erec.2, hck, openS_end _ _ _ (no_rec (fun hlt => hbad _ hlt (Nat.le_refl _))), show z - 2 + 1 = z - 1 from by omega] at hstep
    show openS X (f + z) (genB X f) (z - 1) (f + 1) [] = _
    rw [eg, h1]
    exact hstep
  refine ⟨eg, fun hb => ?_, eo, ?_⟩
  · unfold begP at hb ⊢; rw [eg, e0]; exact hb
  · rw [eo, eg]
    exact hbad
end Ytabmdijfholakaa.AM
end Go.Proofs

/- Layer 4: acts of an addition, done up to anywhere, and what a crash keeps of them. -/
namespace Go.Proofs
open Go.RowKit
set_option linter.unusedVariables false
set_option linter.unusedSimpArgs false
namespace Ytabmdijfholakaa.AM
theorem fill_32 {s : ByteArray} (h : s.size = 32) : DM.fillB s = s := by
  have hl : s.data.toList.length = 32 := by simpa using h
  unfold DM.fillB RM.fillL
  rw [hl]
  simp only [Nat.sub_self, List.replicate_zero, List.append_nil]
  exact RM.str_self s
theorem runK_app (d : DM.Dk) (l m : List DM.Ac) : DM.runK d (l ++ m) = DM.runK (DM.runK d l) m := by unfold DM.runK; rw [List.foldl_append]
theorem runK_writes (B : BL) : ∀ (l : List DM.Ac) (c : List DM.Wr), (∀ a ∈ l, a.1 = false) → DM.runK ⟨B, c⟩ l = ⟨B, c ++ l.map fun a => (a.2.1, DM.fillB a.2.2)⟩
  | [], c, _ => by simp [DM.runK]
  | a :: l, c, h => by
    have ha : a.1 = false := h a (List.mem_cons_self ..)
    have e : DM.stepD ⟨B, c⟩ a = ⟨B, c ++ [(a.2.1, DM.fillB a.2.2)]⟩ := by unfold DM.stepD DM.addW; rw [ha]; rfl
    show DM.runK (DM.stepD ⟨B, c⟩ a) l = _
    rw [e, runK_writes B l _ (fun b hb => h b (List.mem_cons_of_mem _ hb)), List.map_cons, List.append_assoc]; rfl
/-- what is kept of writes: of each sector what it was, or a write -/
theorem settle_or (keep : Nat → Bool) (B : BL) (c : List DM.Wr) : ∀ (k : Nat), k ≤ c.length → ∀ j, gB (DM.settleK keep B c k) j = gB B j ∨ ∃ p ∈ c, p.1.toNat = j ∧ gB (DM.settleK keep B c k) j = p.2
  | 0, _, j => Or.inl rfl
  | k + 1, hk, j => by
    have ih := settle_or keep B c k (by omega) j
    unfold DM.settleK
    by_cases h : keep k = true
    · rw [if_pos h, gB_set]
      have hg : c.getD k (0, ⟨#[]⟩) = c[k] := by simp [List.getD, show k < c.length from hk]
      rw [hg]
      by_cases h2 : (c[k].1.toNat = j ∧ c[k].1.toNat < (DM.settleK keep B c k).length)
      · rw [if_pos h2]; exact Or.inr ⟨c[k], List.getElem_mem _, h2.1, rfl⟩
      · rw [if_neg h2]; exact ih
    · rw [if_neg h]; exact ih
/-- the sectors of a payload, as writes -/
def secW (nx : Nat) (p : ByteArray) (k : Nat) : List DM.Wr := (List.range k).map fun i => (((nx + 1 + i : Nat) : Int), RM.sec p i)
theorem secW_len (nx : Nat) (p : ByteArray) (k : Nat) : (secW nx p k).length = k := by unfold secW; simp
theorem settle_all (B : BL) (nx k : Nat) (p : ByteArray) (hl : nx + k < B.length) : ∀ i, i ≤ k → ∀ j, gB (DM.settleK (fun _ => true) B (secW nx p k) i) j = if nx < j ∧ j ≤ nx + i then RM.sec p (j - nx - 1) else gB B j
  | 0, _, j => by rw [if_neg (by omega)]; rfl
  | i + 1, hi, j => by
    have ih := settle_all B nx k p hl i (by omega) j
    have hg : (secW nx p k).getD i (0, ⟨#[]⟩) = (((nx + 1 + i : Nat) : Int), RM.sec p i) := by
      rw [List.getD_eq_getElem?_getD, List.getElem?_eq_getElem (by rw [secW_len]; omega)]
      simp [secW]
    unfold DM.settleK
    rw [if_pos rfl, gB_set, hg, DM.settleK_length, ih, Int.toNat_natCast]
    by_cases h : nx + 1 + i = j
    · rw [if_pos ⟨h, by omega⟩, if_pos ⟨by omega, by omega⟩, show j - nx - 1 = i from by omega]
    · rw [if_neg (fun h2 => h h2.1)]
      by_cases h2 : nx < j ∧ j ≤ nx + i
      · rw [if_pos h2, if_pos ⟨h2.1, by omega⟩]
      · rw [if_neg h2, if_neg (fun h3 => h2 ⟨h3.1, by omega⟩)]
/-- the acts of an addition -/
def secA (nx : Nat) (p : ByteArray) (k : Nat) : List DM.Ac := (List.range k).map fun i => (false, ((nx + 1 + i : Nat) : Int), RM.sec p i)
def flA : DM.Ac := (true, 0, ⟨#[]⟩)
def addL (nx : Nat) (p h : ByteArray) : List DM.Ac := secA nx p (RM.cutN p) ++ [flA, (false, (nx : Int), h), flA]
theorem secA_len (nx : Nat) (p : ByteArray) (k : Nat) : (secA nx p k).length = k := by unfold secA; simp
theorem addL_len (nx : Nat) (p h : ByteArray) : (addL nx p h).length = RM.cutN p + 3 := by unfold addL; rw [List.length_append, secA_len]; rfl
theorem secA_false (nx : Nat) (p : ByteArray) (k : Nat) : ∀ a ∈ secA nx p k, a.1 = false := fun a ha => by
  obtain ⟨i, _, rfl⟩ := List.mem_map.1 ha; rfl
theorem secA_map (nx : Nat) (p : ByteArray) (k : Nat) : ((secA nx p k).map fun a => (a.2.1, DM.fillB a.2.2)) = secW nx p k := by
  unfold secA secW
  rw [List.map_map]
  exact List.map_congr_left fun i _ => by simp only [Function.comp, fill_32 (RM.sec_size p i)]
theorem addL_ok {n nx : Nat} {p h : ByteArray} (hl : nx + RM.cutN p < n) (hh : h.size = 32) : ∀ a ∈ addL nx p h, DM.actOk n a := fun a ha => by
  rcases List.mem_append.1 ha with h1 | h1
  · obtain ⟨i, hi, rfl⟩ := List.mem_map.1 h1
    have := List.mem_range.1 hi
    refine Or.inr ?_
    unfold DM.writeE
    rw [if_pos (show DM.inD n ((nx + 1 + i : Nat) : Int) from ⟨by omega, by omega⟩), if_neg (by simp only [RM.sec_size]; omega)]
  · simp only [List.mem_cons, List.not_mem_nil, or_false] at h1
    rcases h1 with rfl | rfl | rfl
    · exact Or.inl rfl
    · refine Or.inr ?_
      unfold DM.writeE
      rw [if_pos ⟨by simp only; omega, by simp only; omega⟩, if_neg (by simp only [hh]; omega)]
    · exact Or.inl rfl
theorem run_good {d : DM.Dk} {l : List DM.Ac} (hm : DM.mayD d) (h : ∀ a ∈ l, DM.actOk d.secs.length a) : DM.runE d l = 0 ∧ DM.runD d l = DM.runK d l ∧ DM.mayD (DM.runK d l) := by
  have h1 := DM.actsE_good _ _ h
  refine ⟨?_, ?_, DM.may_run hm h⟩
  · unfold DM.runE; rw [if_pos hm, h1]
  · unfold DM.runD; rw [if_pos ⟨hm, h1⟩]
theorem set_condB {B S : BL} {nx : Nat} {p h : ByteArray} (hl : nx + RM.cutN p < B.length) (hS : S.length = B.length) (hs : ∀ j, gB S j = if nx < j ∧ j ≤ nx + RM.cutN p then RM.sec p (j - nx - 1) else gB B j) : condB B (S.set nx h) nx (RM.cutN p) p h := by
  refine ⟨by rw [List.length_set]; exact hS, fun j hj => ?_, ?_, fun i hi => ?_⟩
  · rw [gB_set, if_neg (by omega), hs, if_neg (by omega)]
  · rw [gB_set, if_pos ⟨rfl, by omega⟩]
  · rw [gB_set, if_neg (by omega), hs, if_pos (by omega)]
    congr 1; omega
theorem all_condA {B S : BL} {nx : Nat} {p : ByteArray} (hS : S.length = B.length) (hs : ∀ j, gB S j = if nx < j ∧ j ≤ nx + RM.cutN p then RM.sec p (j - nx - 1) else gB B j) : condA B S nx (RM.cutN p) p := by
  refine ⟨hS, fun j => ?_⟩
  by_cases h : nx < j ∧ j ≤ nx + RM.cutN p
  · refine Or.inr ⟨j - nx - 1, by omega, by omega, ?_⟩
    rw [hs, if_pos h]
  · refine Or.inl ?_
    rw [hs, if_neg h]
/-- an addition, of which the first acts alone are done, and a crash behind them -/
theorem add_crash (B : BL) (nx : Nat) (p h : ByteArray) (N : Nat) (keep : Nat → Bool) (hl : nx + RM.cutN p < B.length) (hh : h.size = 32) :
    ∃ X, DM.settleD keep (DM.runK ⟨B, []⟩ ((addL nx p h).take N)) = ⟨X, []⟩ ∧ (N ≤ RM.cutN p + 1 → condA B X nx (RM.cutN p) p) ∧ (RM.cutN p + 3 ≤ N → condB B X nx (RM.cutN p) p h) ∧ (condA B X nx (RM.cutN p) p ∨ condB B X nx (RM.cutN p) p h) ∧
      (RM.cutN p + 3 ≤ N → DM.runK ⟨B, []⟩ ((addL nx p h).take N) = ⟨X, []⟩) := by
  obtain ⟨S, hSd⟩ : ∃ S, DM.settleK (fun _ => true) B (secW nx p (RM.cutN p)) (RM.cutN p) = S := ⟨_, rfl⟩
  have hS : S.length = B.length := by rw [← hSd, DM.settleK_length]
  have hs := settle_all B nx (RM.cutN p) p hl (RM.cutN p) (Nat.le_refl _)
  rw [hSd] at hs
  have e1 : DM.runK ⟨B, []⟩ (secA nx p (RM.cutN p) ++ [flA]) = ⟨S, []⟩ := by
    rw [runK_app, runK_writes B _ _ (secA_false nx p (RM.cutN p)), List.nil_append, secA_map]
    show DM.settleD _ _ = _
    unfold DM.settleD
    simp only [secW_len]
    rw [hSd]
  by_cases c1 : N ≤ RM.cutN p
  · have et : (addL nx p h).take N = (secA nx p (RM.cutN p)).take N := by unfold addL; rw [List.take_append_of_le_length (by rw [secA_len]; exact c1)]
    have hA : condA B (DM.settleK keep B ((secW nx p (RM.cutN p)).take N) ((secW nx p (RM.cutN p)).take N).length) nx (RM.cutN p) p := by
      refine ⟨DM.settleK_length .., fun j => ?_⟩
      rcases settle_or keep B ((secW nx p (RM.cutN p)).take N) _ (Nat.le_refl _) j with h1 | ⟨q, hq, h2, h3⟩
      · exact Or.inl h1
      · obtain ⟨i, hi, rfl⟩ := List.mem_map.1 (List.mem_of_mem_take hq)
        exact Or.inr ⟨i, List.mem_range.1 hi, by rw [← h2]; exact Int.toNat_natCast _, h3⟩
    refine ⟨_, ?_, fun _ => hA, fun h => by omega, Or.inl hA, fun h => by omega⟩
    rw [et, runK_writes B _ _ (fun a ha => secA_false _ _ _ a (List.mem_of_mem_take ha)), List.nil_append, List.map_take, secA_map]
    rfl
  · by_cases c2 : N = RM.cutN p + 1
    · have et : (addL nx p h).take N = secA nx p (RM.cutN p) ++ [flA] := by
        subst c2; unfold addL
        rw [show RM.cutN p + 1 = (secA nx p (RM.cutN p)).length + 1 from by rw [secA_len], List.take_length_add_append]; rfl
      rw [et, e1]
      exact ⟨S, rfl, fun _ => all_condA hS hs, fun h => by omega, Or.inl (all_condA hS hs), fun h => by omega⟩
    · by_cases c3 : N = RM.cutN p + 2
      · have et : (addL nx p h).take N = (secA nx p (RM.cutN p) ++ [flA]) ++ [(false, (nx : Int), h)] := by
          subst c3; unfold addL
          rw [show RM.cutN p + 2 = (secA nx p (RM.cutN p)).length + 2 from by rw [secA_len], List.take_length_add_append, List.append_assoc]; rfl
        have er : DM.runK ⟨B, []⟩ ((secA nx p (RM.cutN p) ++ [flA]) ++ [(false, (nx : Int), h)]) = ⟨S, [((nx : Int), h)]⟩ := by
          rw [runK_app, e1, runK_writes S _ _ (fun a ha => by obtain rfl : a = _ := List.mem_singleton.1 ha; rfl)]
          simp only [List.map_cons, List.map_nil, List.nil_append, fill_32 hh]
        rw [et, er]
        by_cases hk : keep 0 = true
        · refine ⟨S.set nx h, ?_, fun h => by omega, fun h => by omega, Or.inr (set_condB hl hS hs), fun h => by omega⟩
          show DM.Dk.mk (DM.settleK keep S [((nx : Int), h)] 1) [] = _
          unfold DM.settleK DM.settleK
          rw [if_pos hk]; rfl
        · refine ⟨S, ?_, fun _ => all_condA hS hs, fun h => by omega, Or.inl (all_condA hS hs), fun h => by omega⟩
          show DM.Dk.mk (DM.settleK keep S [((nx : Int), h)] 1) [] = _
          unfold DM.settleK DM.settleK
          rw [if_neg hk]
      · have et : (addL nx p h).take N = (secA nx p (RM.cutN p) ++ [flA]) ++ [(false, (nx : Int), h), flA] := by
          rw [List.take_of_length_le (by rw [addL_len]; omega)]
          unfold addL; rw [List.append_assoc]; rfl
        have er : DM.runK ⟨B, []⟩ ((secA nx p (RM.cutN p) ++ [flA]) ++ [(false, (nx : Int), h), flA]) = ⟨S.set nx h, []⟩ := by
          rw [runK_app, e1]
          show DM.settleD (fun _ => true) ⟨S, [] ++ [((nx : Int), DM.fillB h)]⟩ = _
          rw [fill_32 hh]
          show DM.Dk.mk (DM.settleK (fun _ => true) S [((nx : Int), h)] 1) [] = _
          unfold DM.settleK DM.settleK
          rw [if_pos rfl]; rfl
        rw [et, er]
        exact ⟨S.set nx h, rfl, fun h => by omega, fun _ => set_condB hl hS hs, Or.inr (set_condB hl hS hs), fun _ => rfl⟩
end Ytabmdijfholakaa.AM
end Go.Proofs

/- Layer 4: what Open, Start, Add and Clean come to. -/
namespace Go.Proofs
open Go.RowKit
set_option linter.unusedVariables false
set_option linter.unusedSimpArgs false
namespace Ytabmdijfholakaa.AM
theorem unB_inj {a b : ByteArray} : unB a = unB b ↔ a = b := ⟨fun h => by rw [← ba_unB a, ← ba_unB b, h], fun h => by rw [h]⟩
theorem head_spec (n : Nat) (k g q : Int) (s : List UInt8) (hs : s.length ≤ 100000) : jHead_t n k g q s = some (if RM.may k g q (s.length : Int) (SM.rollF 1 s) then (unB (RM.textB k g q (s.length : Int) (SM.rollF 1 s)), true) else ([], false)) := by
  have hM := max_eq
  unfold jHead_t jmake_t
  rw [if_pos (by omega), Option.bind_some]
  by_cases c : RM.may k g q (s.length : Int) (SM.rollF 1 s)
  · have hb := SM.roll_lt 1 s
    simp only [c, decide_true, Bool.not_true, cond_false, if_true]
    unfold makeH
    rw [if_pos c]
    unfold jtext_t
    rw [if_pos (show i64B (SM.rollF 1 s) by unfold i64B; omega), Option.bind_some, decide_eq_true c]
  · simp only [c, decide_false, Bool.not_false, cond_true, if_false]
theorem roll_nil : SM.rollF 1 [] = 1 := by decide
theorem secOk_nat {D : DM.Dk} {f z : Int} (h : secOk D f z) : ∃ f' z' : Nat, f = (f' : Int) ∧ z = (z' : Int) ∧ f' + z' ≤ 512 ∧ 2 ≤ z' ∧ f' + z' ≤ D.secs.length ∧ DM.mayD D := by
  obtain ⟨⟨h1, h2, h3⟩, h4, h5⟩ := h
  exact ⟨f.toNat, z.toNat, by omega, by omega, by omega, by omega, by omega, h4⟩
theorem secOk_of {D : DM.Dk} {f z : Nat} (h1 : f + z ≤ 512) (h2 : 2 ≤ z) (h3 : f + z ≤ D.secs.length) (hm : DM.mayD D) : secOk D (f : Int) (z : Int) := ⟨⟨by omega, by omega, by omega⟩, hm, by omega⟩
/-- a log, as data -/
def logT (B : BL) (f z : Nat) : Int × (List (List UInt8) × Int) := (genB B f, ((logS B f z).1.map unB, ((logS B f z).2 : Int)))
theorem open_bad (n : Nat) (d : DkT) (hd : smD d) (f z : Int) (h1 : -9223372036854775808 ≤ f) (h2 : f ≤ 9223372036854775807) (h : ¬ secOk (dkOf d) f z) : jOpen_t n d (f, z) = some ((0, ([], 0)), 1) := by
  unfold jOpen_t
  rw [sec_spec n d hd f z h1 h2, if_neg h, Option.bind_some]
  simp only [Bool.not_false, cond_true]
theorem open_spec (n : Nat) (hn : 600 ≤ n) (d : DkT) (hd : smD d) (f z : Nat) (h : secOk (dkOf d) (f : Int) (z : Int)) :
    jOpen_t n d ((f : Int), (z : Int)) = some (if begP (flat (dkOf d)) f then (logT (flat (dkOf d)) f z, 0) else ((0, ([], 0)), 5)) := by
  obtain ⟨⟨c1, c2, c3⟩, hm, hl⟩ := id h
  have hB : f + z ≤ (flat (dkOf d)).length := by rw [flat_len]; omega
  unfold jOpen_t
  rw [sec_spec n d hd f z (by omega) (by omega), if_pos h, Option.bind_some]
  generalize flat (dkOf d) = B at hB
  have hf : f < B.length := by omega
  have hg : gB B f = B[f] := gB_lt hf
  simp only [Bool.not_true, cond_false]
  rw [idx_lt (by rw [List.length_map]; exact hf), Option.bind_some, List.getElem_map, read_unB, Option.bind_some]
  have hgen := genB_in B f
  have hmay := may_beg hgen
  have eg : (readH B[f]).2.1 = genB B f := by unfold genB; rw [hg]
  show Option.bind (jHead_t n 1 (readH B[f]).2.1 0 []) _ = _
  rw [eg, head_spec n 1 (genB B f) 0 [] (by simp), Option.bind_some]
  have e0 : (([] : List UInt8).length : Int) = 0 := rfl
  rw [e0, roll_nil, if_pos hmay]
  simp only [Bool.not_true, cond_false]
  by_cases c : begP B f
  · have c' : RM.textB 1 (genB B f) 0 0 1 = B[f] := by rw [← hg]; exact c.symm
    rw [if_pos c, c', decide_eq_true rfl, Bool.not_true, cond_false]
    have w1 : IntKind.wrap .i64 ((f : Int) + 1) = ((f + 1 : Nat) : Int) := wrap_succ (by omega)
    rw [w1, letO_some]
    have hloop := open_loop n B f z (genB B f) (by omega) hB n (f + 1) [] (by omega) (by omega) (by simp)
    rw [List.map_nil] at hloop
    rw [hloop, Option.bind_some]
    have e2 : openS B (f + z) (genB B f) (f + z - (f + 1)) (f + 1) [] = logS B f z := by
      unfold logS
      rw [show f + z - (f + 1) = z - 1 from by omega]
    rw [e2]
    rfl
  · have c' : ¬ unB (RM.textB 1 (genB B f) 0 0 1) = unB B[f] := fun h => c (by unfold begP; rw [hg]; exact (unB_inj.1 h).symm)
    rw [if_neg c, decide_eq_false c', Bool.not_false, cond_true]
theorem clean_loop (n : Nat) (B : BL) (f z : Nat) (g : Int) (its : List (List UInt8)) (nx : Int) (h1 : f + z ≤ 512) (hB : f + z ≤ B.length) : ∀ (m a : Nat), f + z - a < m → a ≤ 100000 →
    jClean_loop0 n m (B.map unB) (a : Int) (f : Int) (z : Int) g its nx = some (if cleanP B a (f + z) g its.length then Sum.inr ((), ((), ())) else Sum.inl ((false, ()), ((), ())))
  | 0, a, h, _ => by omega
  | m + 1, a, hm, ha => by
    rw [jClean_loop0_succ]
    unfold jClean_l0
    rw [wrap_add (by omega) (by omega), letO_some]
    by_cases c : a < f + z
    · have ha' : a < B.length := by omega
      have ih := clean_loop n B f z g its nx h1 hB m (a + 1) (by omega) (by omega)
      rw [decide_eq_true (by omega), cond_true, idx_lt (by rw [List.length_map]; exact ha'), Option.bind_some, List.getElem_map, read_unB, Option.bind_some]
      have w1 : IntKind.wrap .i64 ((a : Int) + 1) = ((a + 1 : Nat) : Int) := wrap_succ (by omega)
      simp only [w1, letO_some, ih]
      have hs := clean_step (B := B) (lo := a) (e := f + z) (g := g) (q := its.length) c
      rw [gB_lt ha'] at hs
      by_cases k1 : RM.readOk B[a]
      case neg =>
        have : cleanP B a (f + z) g its.length ↔ cleanP B (a + 1) (f + z) g its.length := hs.trans ⟨fun h => h.2, fun h => ⟨fun hb => k1 hb.1, h⟩⟩
        simp only [k1, decide_false, cond_false, this]
      have eh : readH B[a] = (RM.kindF B[a], (RM.numAt B[a] 2, (RM.numAt B[a] 6, (RM.numAt B[a] 10, RM.numAt B[a] 14)))) := by unfold readH; rw [if_pos k1]
      rw [eh]
      simp only [k1, decide_true, cond_true]
      by_cases k2 : RM.kindF B[a] = 2
      case neg =>
        have : cleanP B a (f + z) g its.length ↔ cleanP B (a + 1) (f + z) g its.length := hs.trans ⟨fun h => h.2, fun h => ⟨fun hb => k2 hb.2.1, h⟩⟩
        simp only [k2, decide_false, cond_false, this]
      simp only [k2, decide_true, cond_true]
      by_cases k3 : RM.numAt B[a] 2 = g
      case neg =>
        have : cleanP B a (f + z) g its.length ↔ cleanP B (a + 1) (f + z) g its.length := hs.trans ⟨fun h => h.2, fun h => ⟨fun hb => k3 hb.2.2.1, h⟩⟩
        simp only [k3, decide_false, cond_false, this]
      simp only [k3, decide_true, cond_true]
      by_cases k4 : (its.length : Int) ≤ RM.numAt B[a] 6
      · have : ¬ cleanP B a (f + z) g its.length := fun h => (hs.1 h).1 ⟨k1, k2, k3, k4⟩
        simp only [k4, decide_true, cond_true, this, if_false]
      · have : cleanP B a (f + z) g its.length ↔ cleanP B (a + 1) (f + z) g its.length := hs.trans ⟨fun h => h.2, fun h => ⟨fun hb => k4 hb.2.2.2, h⟩⟩
        simp only [k4, decide_false, cond_false, this]
    · rw [decide_eq_false (by omega), cond_false, if_pos (clean_end (by omega))]
theorem clean_spec (n : Nat) (hn : 600 ≤ n) (d : DkT) (hd : smD d) (f z : Nat) (g : Int) (its : List (List UInt8)) (nx : Nat) (hx : nx ≤ 10000) (h : secOk (dkOf d) (f : Int) (z : Int)) :
    jClean_t n d ((f : Int), (z : Int)) (g, (its, (nx : Int))) = some (decide (cleanP (flat (dkOf d)) (max nx f) (f + z) g its.length)) := by
  obtain ⟨⟨c1, c2, c3⟩, hm, hl⟩ := id h
  have hB : f + z ≤ (flat (dkOf d)).length := by rw [flat_len]; omega
  unfold jClean_t
  rw [sec_spec n d hd f z (by omega) (by omega), if_pos h, Option.bind_some]
  have e1 : max (nx : Int) (f : Int) = ((max nx f : Nat) : Int) := by omega
  simp only [Bool.not_true, cond_false, e1, letO_some]
  rw [clean_loop n _ f z g its nx (by omega) hB n (max nx f) (by omega) (by omega), Option.bind_some]
  by_cases c : cleanP (flat (dkOf d)) (max nx f) (f + z) g its.length
  · rw [if_pos c, decide_eq_true c]; rfl
  · rw [if_neg c, decide_eq_false c]; rfl
theorem start_spec (n : Nat) (f z g : Int) (h1 : -9223372036854775808 ≤ f) (h2 : f ≤ 9223372036854775807) : jStart_t n (f, z) g = some (if chk f z ∧ 0 ≤ g ∧ g ≤ 1073741824 then ([(false, (f, unB (RM.textB 1 g 0 0 1))), (true, (0, []))], 0) else ([], 1)) := by
  unfold jStart_t
  show Option.bind (jHead_t n 1 g 0 []) _ = _
  rw [head_spec n 1 g 0 [] (by simp), Option.bind_some]
  have e0 : (([] : List UInt8).length : Int) = 0 := rfl
  rw [e0, roll_nil, chk_spec n f z h1 h2, Option.bind_some]
  by_cases c : chk f z
  · rw [decide_eq_true c, Bool.not_true, cond_false]
    by_cases c2 : 0 ≤ g ∧ g ≤ 1073741824
    · rw [if_pos (may_beg c2), if_pos ⟨c, c2⟩]; rfl
    · rw [if_neg (fun h => c2 h.2.1), if_neg (fun h => c2 h.2)]; rfl
  · rw [decide_eq_false c, Bool.not_false, cond_true, if_neg (fun h => c h.1)]
/-- the acts of an addition, as data -/
def acTo (l : List DM.Ac) : AcT := l.map fun a => (a.1, (a.2.1, unB a.2.2))
theorem acOf_to (l : List DM.Ac) : acOf (acTo l) = l := by
  unfold acOf acTo
  rw [List.map_map]
  exact (List.map_congr_left fun x _ => by simp only [Function.comp, ba_unB]; rfl).trans (List.map_id _)
theorem acTo_len (l : List DM.Ac) : (acTo l).length = l.length := by unfold acTo; simp
def txB (g : Int) (q : Nat) (p : ByteArray) : ByteArray := RM.textB 2 g (q : Int) (p.size : Int) (SM.rollF 1 p.data.toList)
theorem add_loop (n : Nat) (t : List UInt8) (p : ByteArray) (f z : Int) (nx : Nat) (hx : nx ≤ 10000) (k : Nat) (hk : RM.cutN p = k) (hk2 : k ≤ 133) : ∀ (m i : Nat), k - i < m → i ≤ k →
    jAdd_loop0 n m t ((RM.cutL p).map unB) (k : Int) (i : Int) f z (nx : Int) (acTo (secA nx p i)) = some (((), (t, ((), ()))), ((((f, (z, (nx : Int))), ()), (acTo (secA nx p k), ()))))
  | 0, i, h, _ => by omega
  | m + 1, i, hm, hi => by
    rw [jAdd_loop0_succ]
    unfold jAdd_l0
    by_cases c : i < k
    · have ih := add_loop n t p f z nx hx k hk hk2 m (i + 1) (by omega) (by omega)
      have hl : i < ((RM.cutL p).map unB).length := by rw [List.length_map, RM.cutL_length]; omega
      have w1 : IntKind.wrap .i64 ((nx : Int) + 1) = ((nx + 1 : Nat) : Int) := wrap_succ (by omega)
      have w2 : IntKind.wrap .i64 (((nx + 1 : Nat) : Int) + (i : Int)) = ((nx + 1 + i : Nat) : Int) := wrap_add (by omega) (by omega)
      have w3 : IntKind.wrap .i64 ((i : Int) + 1) = ((i + 1 : Nat) : Int) := wrap_succ (by omega)
      rw [decide_eq_true (by omega), cond_true, idx_lt hl, Option.bind_some, w1, letO_some, w2, letO_some, app_le (by rw [acTo_len, secA_len]; simp; omega), Option.bind_some, w3, letO_some]
      have e : acTo (secA nx p i) ++ [(false, (((nx + 1 + i : Nat) : Int), ((RM.cutL p).map unB)[i]))] = acTo (secA nx p (i + 1)) := by
        unfold acTo secA
        rw [List.range_succ, List.map_append, List.map_append]
        simp [RM.cutL]
      rw [e]
      exact ih
    · obtain rfl : i = k := by omega
      rw [decide_eq_false (by omega), cond_false]
theorem add_spec (n : Nat) (hn : 600 ≤ n) (f z nx : Nat) (g : Int) (its : List (List UInt8)) (p : List UInt8) (h1 : f + z ≤ 512) (h2 : 2 ≤ z) (h3 : f < nx) (h4 : nx ≤ f + z) (hg : 0 ≤ g ∧ g ≤ 1073741824) (hq : its.length ≤ 65535) :
    jAdd_t n ((f : Int), (z : Int)) (g, (its, (nx : Int))) p = some (if 4096 < p.length then ([], 2) else if f + z < nx + 1 + RM.cutN (ba p) then ([], 3) else (acTo (addL nx (ba p) (txB g its.length (ba p))), 0)) := by
  have hM := max_eq
  unfold jAdd_t jNxt_t
  simp only
  rw [chk_spec n f z (by omega) (by omega), decide_eq_true (show chk (f : Int) (z : Int) from ⟨by omega, by omega, by omega⟩), Option.bind_some, cond_true, decide_eq_true (by omega), cond_true, wrap_add (by omega) (by omega), letO_some, Option.bind_some, decide_eq_true (by omega), Bool.not_true, cond_false,
    decide_eq_false (by omega), cond_false, decide_eq_false (by omega), cond_false, decide_eq_false (by omega), cond_false]
  by_cases c1 : 4096 < p.length
  · rw [decide_eq_true (by omega), cond_true, if_pos c1]
  have hsz : (ba p).size = p.length := ba_len p
  have hdat : (ba p).data.toList = p := data_ba p
  have hcut : RM.countF (p.length : Int) = (RM.cutN (ba p) : Int) := by rw [← hsz]; exact RM.countF_cut _ (by omega)
  have hcl := RM.cutN_le (ba p)
  rw [decide_eq_false (by omega), cond_false, if_neg c1, room_spec n f z nx h1 (by omega), Option.bind_some]
  unfold jcount_t
  rw [if_pos (show i64B (p.length : Int) by unfold i64B; omega), Option.bind_some, hcut, wrap64 (by omega) (by omega), letO_some]
  by_cases c2 : f + z < nx + 1 + RM.cutN (ba p)
  · rw [decide_eq_true (by omega), cond_true, if_pos c2]
  rw [decide_eq_false (by omega), cond_false, if_neg c2]
  have hm : RM.may 2 g (its.length : Int) (p.length : Int) (SM.rollF 1 p) := ⟨Or.inr rfl, hg, ⟨by omega, by omega⟩, ⟨by omega, by omega⟩, SM.isSum_roll _ _⟩
  show Option.bind (jHead_t n 2 g (its.length : Int) p) _ = _
  rw [head_spec n 2 g (its.length : Int) p (by omega), if_pos hm, Option.bind_some]
  unfold jcut_t
  rw [if_pos (by omega), Option.bind_some]
  have hll : ((RM.cutL (ba p)).map unB).length = RM.cutN (ba p) := by rw [List.length_map, RM.cutL_length]
  rw [hll]
  have hloop := add_loop n (unB (RM.textB 2 g (its.length : Int) (p.length : Int) (SM.rollF 1 p))) (ba p) f z nx (by omega) (RM.cutN (ba p)) rfl hcl n 0 (by omega) (Nat.zero_le _)
  have e0 : acTo (secA nx (ba p) 0) = [] := rfl
  rw [e0] at hloop
  have hloop' := hloop
  rw [Int.natCast_zero] at hloop'
  simp only
  rw [hloop', Option.bind_some, app_le (by rw [acTo_len, secA_len]; simp; omega), Option.bind_some]
  have etx : txB g its.length (ba p) = RM.textB 2 g (its.length : Int) (p.length : Int) (SM.rollF 1 p) := by unfold txB; rw [hdat, hsz]
  unfold addL
  rw [etx]
  unfold acTo
  rw [List.map_append]
  rfl
theorem txB_size {g : Int} {q : Nat} {p : ByteArray} (hg : 0 ≤ g ∧ g ≤ 1073741824) (hq : q ≤ 65535) (hp : p.size ≤ 4096) : (txB g q p).size = 32 := by
  unfold txB
  rw [RM.textB_yes _ _ _ _ _ ⟨Or.inr rfl, hg, ⟨by omega, by omega⟩, ⟨by omega, by omega⟩, SM.isSum_roll _ _⟩]
  rfl
end Ytabmdijfholakaa.AM
end Go.Proofs
