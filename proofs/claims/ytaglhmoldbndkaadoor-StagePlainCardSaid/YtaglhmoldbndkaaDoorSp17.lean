/- One text of StaM, StaL (mk/pack.py). -/
import Derived.Test.YtaglhmoldbndkaaDoorSp16
/- Layer 20: what is staged: mathematics. -/
namespace Go.Proofs.YtaglhmoldbndkaaDoor.AM
open Go.RowKit
set_option linter.unusedVariables false
set_option linter.unusedSimpArgs false
def ledS : List UInt8 := [108, 101, 100, 103, 101, 114, 46, 116, 120, 116]
def endO : OD := (true, (itS, []))
/-! files in order are told apart by what they tell -/
theorem rise_ext : ∀ {a b : List FD}, Rise a → Rise b → (∀ q, getS a q = getS b q) → a = b
  | [], [], _, _, _ => rfl
  | [], y :: b, _, _, h => by have := h y.1; rw [get_head] at this; simp [getS] at this
  | x :: a, [], _, _, h => by have := h x.1; rw [get_head] at this; simp [getS] at this
  | x :: a, y :: b, ha, hb, h => by
    have ha' := List.pairwise_cons.1 ha
    have hb' := List.pairwise_cons.1 hb
    have key : x.1 = y.1 := by
      cases h1 : ltS x.1 y.1 with
      | true =>
        have h2 : getS (y :: b) x.1 = ([], false) := nop_above fun z hz => by
          rcases List.mem_cons.1 hz with rfl | hz
          · exact h1
          · exact lt_trans' h1 (hb'.1 z hz)
        have := h x.1
        rw [get_head, h2] at this; simp at this
      | false =>
        by_cases he : x.1 = y.1
        · exact he
        · have h2 := lt_tot h1 he
          have h3 : getS (x :: a) y.1 = ([], false) := nop_above fun z hz => by
            rcases List.mem_cons.1 hz with rfl | hz
            · exact h2
            · exact lt_trans' h2 (ha'.1 z hz)
          have := h y.1
          rw [get_head, h3] at this; simp at this
    have hd : x.2 = y.2 := by
      have := h x.1
      rw [get_head, key, get_head] at this
      exact congrArg Prod.fst this
    obtain rfl : x = y := Prod.ext key hd
    rw [rise_ext ha'.2 hb'.2 fun q => by
      by_cases hq : x.1 = q
      · subst hq
        rw [nop_above ha'.1, nop_above hb'.1]
      · have := h q
        rwa [get_skip hq, get_skip hq] at this]
theorem get_withoutS (q p : List UInt8) (l : List FD) : getS (withoutS l p) q = if q = p then ([], false) else getS l q := by
  by_cases h : q = p
  · subst h; rw [if_pos rfl]; exact get_nop (nop_without l q)
  · rw [if_neg h]; exact get_without q p h l
theorem nop_ins {p : List UInt8} {g : FD} {l : List FD} (h1 : NoP p l) (h2 : p ≠ g.1) : NoP p (insS g l) := fun x hx => by
  rcases (mem_ins g x l).1 hx with rfl | hx
  · exact fun e => h2 e.symm
  · exact h1 x hx
theorem ins_comm {f g : FD} {l : List FD} (hr : Rise l) (hf : NoP f.1 l) (hg : NoP g.1 l) (hne : f.1 ≠ g.1) : insS f (insS g l) = insS g (insS f l) := by
  refine rise_ext (rise_ins (rise_ins hr hg) (nop_ins hf hne)) (rise_ins (rise_ins hr hf) (nop_ins hg hne.symm)) fun q => ?_
  rw [get_ins f q _ (nop_ins hf hne), get_ins g q _ hg, get_ins g q _ (nop_ins hg hne.symm), get_ins f q _ hf]
  by_cases h1 : q = f.1
  · rw [if_pos h1, if_pos h1, if_neg (fun h2 => hne (h1.symm.trans h2))]
  · rw [if_neg h1, if_neg h1]
theorem without_insC {f : FD} {p : List UInt8} {l : List FD} (hr : Rise l) (hf : NoP f.1 l) (hne : p ≠ f.1) : withoutS (insS f l) p = insS f (withoutS l p) := by
  have hfw : NoP f.1 (withoutS l p) := fun x hx => hf x ((List.mem_filter.1 hx).1)
  refine rise_ext (rise_without p (rise_ins hr hf)) (rise_ins (rise_without p hr) hfw) fun q => ?_
  rw [get_withoutS, get_ins f q _ hf, get_ins f q _ hfw, get_withoutS]
  by_cases h1 : q = p
  · rw [if_pos h1, if_pos h1, if_neg (fun h2 => hne (h1.symm.trans h2))]
  · rw [if_neg h1, if_neg h1]
/-! one op, and the others -/
theorem step_keep {l : List FD} {o : OD} {q : List UInt8} (hr : Rise l) (hq : o.2.1 ≠ q) (h : (stepS l o).2 = 0) : getS (stepS l o).1 q = getS l q ∧ Rise (stepS l o).1 := by
  unfold stepS at h ⊢
  split at h
  case isFalse => exact absurd h (by decide)
  split at h
  · split at h
    case isFalse => exact absurd h (by decide)
    rename_i h1 h2 h3
    rw [if_pos h1, if_pos h2, if_pos h3]
    exact ⟨get_without q _ (fun e => hq e.symm) l, rise_without _ hr⟩
  · split at h
    · exact absurd h (by decide)
    split at h
    · exact absurd h (by decide)
    rename_i h1 h2 h3 h4
    rw [if_pos h1, if_neg h2, if_neg h3, if_neg h4]
    refine ⟨?_, rise_ins (rise_without _ hr) (nop_without l _)⟩
    show getS (insS o.2 (withoutS l o.2.1)) q = _
    rw [get_ins o.2 q _ (nop_without l _), if_neg (fun e => hq e.symm)]
    exact get_without q _ (fun e => hq e.symm) l
theorem app_keep {q : List UInt8} : ∀ (ops : List OD) {l : List FD}, Rise l → (∀ o ∈ ops, o.2.1 ≠ q) → (appL l ops).2 = 0 → getS (appL l ops).1 q = getS l q ∧ Rise (appL l ops).1
  | [], l, hr, _, _ => ⟨rfl, hr⟩
  | o :: t, l, hr, ho, h => by
    rw [appL_step] at h ⊢
    split at h
    case isFalse hn => exact absurd h hn
    rename_i hz
    rw [if_pos hz]
    obtain ⟨h1, h2⟩ := step_keep hr (ho o (List.mem_cons_self ..)) hz
    obtain ⟨h3, h4⟩ := app_keep t h2 (fun o' h' => ho o' (List.mem_cons_of_mem _ h')) h
    exact ⟨h3.trans h1, h4⟩
theorem step_code (l : List FD) (o : OD) : (stepS l o).2 ≠ 14 := by
  unfold stepS
  split
  · split
    · split <;> simp
    · split
      · simp
      · split <;> simp
  · simp
theorem app_code : ∀ (ops : List OD) (l : List FD), (appL l ops).2 ≠ 14
  | [], l => by show (0 : Int) ≠ 14; decide
  | o :: t, l => by
    rw [appL_step]
    split
    · exact app_code t _
    · exact step_code l o
theorem appS_code (l : List FD) (ops : List OD) : (appS l ops).2 ≠ 14 := by
  unfold appS
  split
  · exact app_code ops l
  · show (1 : Int) ≠ 14; decide
theorem appL_append : ∀ (a b : List OD) (l : List FD), appL l (a ++ b) = if (appL l a).2 = 0 then appL (appL l a).1 b else ([], (appL l a).2)
  | [], b, l => rfl
  | o :: a, b, l => by
    rw [List.cons_append, appL_step, appL_step]
    split
    · exact appL_append a b _
    · rfl
/-! what is staged beside files -/
theorem step_int {l : List FD} {d : List UInt8} {o : OD} (hr : Rise l) (hn : NoP itS l) (ho : o.2.1 ≠ itS) (h : (stepS l o).2 = 0) :
    stepS (insS (itS, d) l) o = (insS (itS, d) (stepS l o).1, 0) ∨ (stepS (insS (itS, d) l) o).2 = 3 := by
  unfold stepS at h ⊢
  split at h
  case isFalse => exact absurd h (by decide)
  rename_i h1
  rw [if_pos h1, if_pos h1]
  split at h
  · split at h
    case isFalse => exact absurd h (by decide)
    rename_i h2 h3
    rw [if_pos h2, if_pos h2, if_pos h3, get_ins (itS, d) o.2.1 l hn, if_neg ho, if_pos h3, without_insC hr hn ho]
    exact Or.inl rfl
  · split at h
    · exact absurd h (by decide)
    split at h
    · exact absurd h (by decide)
    rename_i h2 h3 h4
    rw [if_neg h2, if_neg h2, if_neg h3, if_neg h3, if_neg h4]
    by_cases h5 : 40 ≤ (withoutS (insS (itS, d) l) o.2.1).length
    · rw [if_pos h5]; exact Or.inr rfl
    · rw [if_neg h5, without_insC hr hn ho]
      have hw : NoP itS (withoutS l o.2.1) := fun x hx => hn x ((List.mem_filter.1 hx).1)
      exact Or.inl (by rw [ins_comm (f := o.2) (g := (itS, d)) (rise_without _ hr) (nop_without l _) hw ho])
theorem app_int {d : List UInt8} : ∀ (ops : List OD) {l : List FD}, Rise l → NoP itS l → (∀ o ∈ ops, o.2.1 ≠ itS) → (appL l ops).2 = 0 →
    (appL (insS (itS, d) l) ops = (insS (itS, d) (appL l ops).1, 0)) ∨ (appL (insS (itS, d) l) ops).2 = 3
  | [], l, _, _, _, _ => Or.inl rfl
  | o :: t, l, hr, hn, ho, h => by
    rw [appL_step] at h
    split at h
    case isFalse hz => exact absurd h hz
    rename_i hz
    have hk := step_keep hr (ho o (List.mem_cons_self ..)) hz
    have hn' : NoP itS (stepS l o).1 := nop_get (by rw [hk.1, get_nop hn])
    rw [appL_step, appL_step, if_pos hz]
    rcases step_int (d := d) hr hn (ho o (List.mem_cons_self ..)) hz with h1 | h1
    · rw [h1]
      show (appL (insS (itS, d) (stepS l o).1) t = _) ∨ (appL (insS (itS, d) (stepS l o).1) t).2 = 3
      exact app_int t hk.2 hn' (fun o' h' => ho o' (List.mem_cons_of_mem _ h')) h
    · rw [if_neg (by rw [h1]; decide)]
      exact Or.inr h1
/-! the answers -/
def intentS (l : List FD) : List UInt8 × Int := if mayS l then (if (getS l itS).2 then ((getS l itS).1, 0) else ([], 5)) else ([], 1)
def judgeS (l : List FD) (ops : List OD) (ps : List (List UInt8)) : Int :=
  if (intentS l).2 = 0 then 14 else if (intentS l).2 ≠ 5 then (intentS l).2 else if ops.any (fun o => decide (o.2.1 ∈ ps)) then 6 else (appS l ops).2
def beginS (l : List FD) (ops : List OD) : List OD × Int :=
  if judgeS l ops [itS] ≠ 0 then ([], judgeS l ops [itS]) else if (encS ops).2 ≠ 0 then ([], (encS ops).2) else ([(false, (itS, (encS ops).1))], 0)
def pendS (l : List FD) : List OD × Int := if (intentS l).2 ≠ 0 then ([], (intentS l).2) else decS (intentS l).1
def finS (l : List FD) : List OD × Int := if (pendS l).2 ≠ 0 then ([], (pendS l).2) else if (appS l ((pendS l).1 ++ [endO])).2 ≠ 0 then ([], (appS l ((pendS l).1 ++ [endO])).2) else ((pendS l).1 ++ [endO], 0)
def undoS (l : List FD) : List OD × Int := if (intentS l).2 ≠ 0 then ([], (intentS l).2) else ([endO], 0)
def seeS (l : List FD) : List FD := if mayS l then seenL l else []
/-- nothing is staged: so these may be done -/
structure Free (l : List FD) (ops : List OD) : Prop where
  may : mayS l = true
  none : (getS l itS).2 = false
  path : ∀ o ∈ ops, o.2.1 ≠ itS
  ok : (appL l ops).2 = 0
theorem judge_zero {l : List FD} {ops : List OD} {ps : List (List UInt8)} (hp : itS ∈ ps) (h : judgeS l ops ps = 0) : Free l ops := by
  unfold judgeS at h
  split at h
  · exact absurd h (by decide)
  rename_i h1
  split at h
  · exact absurd h h1
  rename_i h2
  split at h
  · exact absurd h (by decide)
  rename_i h3
  have h2' : (intentS l).2 = 5 := by simpa using h2
  have hm : mayS l = true := by
    unfold intentS at h2'
    split at h2'
    · assumption
    · exact absurd h2' (by decide)
  have hn : (getS l itS).2 = false := by
    unfold intentS at h2'
    rw [if_pos hm] at h2'
    split at h2'
    · simp at h2'
    · rename_i hh; simpa using hh
  refine ⟨hm, hn, fun o ho e => h3 (List.any_eq_true.2 ⟨o, ho, by rw [e]; exact decide_eq_true hp⟩), ?_⟩
  unfold appS at h
  rw [if_pos hm] at h
  exact h
theorem intent_none {l : List FD} (hm : mayS l = true) (hn : (getS l itS).2 = false) : intentS l = ([], 5) := by
  unfold intentS; rw [if_pos hm, if_neg (by rw [hn]; decide)]
theorem path_it : pathS itS = true := by decide +kernel
theorem see_eq (l : List FD) : seenL l = withoutS l itS := rfl
/-- files beside which ops are staged -/
theorem put_it {l : List FD} {d : List UInt8} (hm : mayS l = true) (hn : (getS l itS).2 = false) (hd : d.length ≤ 4096) :
    (40 ≤ l.length ∧ appS l [(false, (itS, d))] = ([], 3)) ∨ (l.length < 40 ∧ appS l [(false, (itS, d))] = (insS (itS, d) l, 0) ∧ mayS (insS (itS, d) l) = true) := by
  have hnp := nop_get hn
  have hw := without_nop hnp
  by_cases h40 : 40 ≤ l.length
  · have hs : stepS l (false, (itS, d)) = ([], 3) := by
      unfold stepS
      rw [if_pos path_it, if_neg (by simp), if_neg (by show ¬ 4096 < d.length; omega)]
      show (if 40 ≤ (withoutS l itS).length then _ else _) = _
      rw [hw, if_pos h40]
    refine Or.inl ⟨h40, ?_⟩
    rw [app_one hm, hs, if_neg (by decide)]
  · have hs : stepS l (false, (itS, d)) = (insS (itS, d) l, 0) := by
      unfold stepS
      rw [if_pos path_it, if_neg (by simp), if_neg (by show ¬ 4096 < d.length; omega)]
      show (if 40 ≤ (withoutS l itS).length then _ else (insS (itS, d) (withoutS l itS), 0)) = _
      rw [hw, if_neg h40]
    refine Or.inr ⟨by omega, ?_, ?_⟩
    · rw [app_one hm, hs, if_pos rfl]
    · have := step_may (o := (false, (itS, d))) hm (by rw [hs])
      rw [hs] at this; exact this
structure Staged (l k : List FD) (d : List UInt8) : Prop where
  may : mayS k = true
  it : getS k itS = (d, true)
  undo : appS k [endO] = (l, 0)
  see : seenL k = l
  rise : Rise l
  eq : k = insS (itS, d) l
  no : NoP itS l
theorem staged {l : List FD} {d : List UInt8} (hm : mayS l = true) (hn : (getS l itS).2 = false) (hk : mayS (insS (itS, d) l) = true) : Staged l (insS (itS, d) l) d := by
  have hnp := nop_get hn
  have hg : getS (insS (itS, d) l) itS = (d, true) := by rw [get_ins (itS, d) itS l hnp, if_pos rfl]
  have hw : withoutS (insS (itS, d) l) itS = l := without_ins (f := (itS, d)) hnp
  refine ⟨hk, hg, ?_, by rw [see_eq, hw], ((may_iff l).1 hm).2.2, rfl, hnp⟩
  have hs : stepS (insS (itS, d) l) endO = (l, 0) := by
    unfold stepS endO
    rw [if_pos path_it, if_pos rfl, if_pos (by rw [hg])]
    rw [hw]
  rw [app_one hk, hs, if_pos rfl]
theorem intent_it {l k : List FD} {d : List UInt8} (h : Staged l k d) : intentS k = (d, 0) := by
  unfold intentS; rw [if_pos h.may, h.it]; rfl
theorem fin_of {l k : List FD} {ops : List OD} (hf : Free l ops) (he : (encS ops).2 = 0) (h : Staged l k (encS ops).1) :
    pendS k = (ops, 0) ∧ ((finS k = (ops ++ [endO], 0) ∧ appS k (ops ++ [endO]) = ((appL l ops).1, 0)) ∨ finS k = ([], 3)) := by
  have hp : pendS k = (ops, 0) := by
    unfold pendS; rw [intent_it h, if_neg (by simp)]; exact enc_dec ops he
  refine ⟨hp, ?_⟩
  have hkeep := app_keep (q := itS) ops h.rise hf.path hf.ok
  have hnw : NoP itS (appL l ops).1 := nop_get (by rw [hkeep.1, get_nop h.no])
  have happ : appS k (ops ++ [endO]) = appL k (ops ++ [endO]) := by unfold appS; rw [if_pos h.may]
  unfold finS
  rw [hp, happ, appL_append]
  simp only [ne_eq, not_true_eq_false, if_false]
  rcases app_int (d := (encS ops).1) ops h.rise h.no hf.path hf.ok with h1 | h1
  · rw [← h.eq] at h1
    rw [h1]
    have hs : stepS (insS (itS, (encS ops).1) (appL l ops).1) endO = ((appL l ops).1, 0) := by
      unfold stepS endO
      rw [if_pos path_it, if_pos rfl, if_pos (by rw [get_ins (itS, (encS ops).1) itS _ hnw, if_pos rfl]), without_ins (f := (itS, (encS ops).1)) hnw]
    simp only [if_true]
    rw [appL_step, hs, if_pos rfl]
    exact Or.inl ⟨rfl, rfl⟩
  · rw [← h.eq] at h1
    rw [h1]
    exact Or.inr rfl
end Go.Proofs.YtaglhmoldbndkaaDoor.AM

/- Layer 20: the laws: what functions come to, as plain functions of data: written by program (shal.py); the kernel checks it. -/
namespace Go.Proofs.YtaglhmoldbndkaaDoor.AM
open Go.RowKit
set_option linter.unusedVariables false
set_option maxRecDepth 20000
/-! armada/armadaref20.has -/
@[reducible] def q20has_sh0 : SSt := ⟨[(0, .one (.c (.d (.lst (.prod .bool (.prod .str .str)))))), (1, .one (.c (.d .str))), (5, .one (.c (.d (.int .i64))))], [], []⟩
@[reducible] def q20has_outs0 : List (Exit × SSt) := [(.ret, ⟨[(4, .one (.c (.d .bool)))], [], []⟩), (.exit 0, ⟨[], [], []⟩)]
def q20has_l0 (n : Nat) (rec : (List ((Bool) × (List UInt8 × (List UInt8)))) → (List UInt8) → Int → Option (((Bool × (Unit)) × (Unit) × (Unit)) ⊕ ((Unit) × (Unit) × (Unit)))) (a1 : List ((Bool) × (List UInt8 × (List UInt8)))) (a2 : List UInt8) (a3 : Int) : Option (((Bool × (Unit)) × (Unit) × (Unit)) ⊕ ((Unit) × (Unit) × (Unit))) :=
  (bif decide (a3 < ((List.length a1 : Nat) : Int)) then (idxL a1 a3).bind fun (x1 : (Bool) × (List UInt8 × (List UInt8))) => (bif decide (x1.2.1 = a2) then some (Sum.inl ((true, ()), ((), ()))) else letO (IntKind.wrap .i64 (a3 + (1 : Int))) fun (n2 : Int) => rec a1 a2 n2) else some (Sum.inr (((), ((), ())))))
def q20has_F0 (n : Nat) (rec : pSt q20has_sh0 → Option (pOuts q20has_outs0)) (p : pSt q20has_sh0) : Option (pOuts q20has_outs0) := q20has_l0 n (fun a1 a2 a3 => rec ((a1, (a2, (a3, ()))), ((), ()))) p.1.1 p.1.2.1 p.1.2.2.1
def q20has_loop0 (n m : Nat) (a1 : List ((Bool) × (List UInt8 × (List UInt8)))) (a2 : List UInt8) (a3 : Int) : Option (((Bool × (Unit)) × (Unit) × (Unit)) ⊕ ((Unit) × (Unit) × (Unit))) := iterF (q20has_F0 n) m ((a1, (a2, (a3, ()))), ((), ()))
theorem q20has_loop0_succ (n m : Nat) (a1 : List ((Bool) × (List UInt8 × (List UInt8)))) (a2 : List UInt8) (a3 : Int) : q20has_loop0 n (m + 1) a1 a2 a3 = q20has_l0 n (fun a1 a2 a3 => q20has_loop0 n m a1 a2 a3) a1 a2 a3 := rfl
def q20has_L0 (n : Nat) : LC := { sh := q20has_sh0, outs := q20has_outs0, F := iterF (q20has_F0 n) n }
def q20has_lts (n : Nat) : List LC := [q20has_L0 n]
def q20has_t (n : Nat) (a1 : List ((Bool) × (List UInt8 × (List UInt8)))) (a2 : List UInt8) : Option (Bool) :=
  (q20has_loop0 n n a1 a2 (0 : Int)).bind fun (o3 : ((Bool × (Unit)) × (Unit) × (Unit)) ⊕ ((Unit) × (Unit) × (Unit))) => Sum.elim (fun (q4 : (Bool × (Unit)) × (Unit) × (Unit)) => some q4.1.1) (fun (q5 : (Unit) × (Unit) × (Unit)) => some false) o3
def q20has_fc (n : Nat) : FC := { f := 30, args := [.one (.c (.d (.lst (.prod .bool (.prod .str .str))))), .one (.c (.d .str))], res := .one (.c (.d .bool)), F := fun p => q20has_t n p.1 p.2 }
def q20has_ct (n : Nat) : List FC := []
theorem q20has_ctok (n : Nat) {G : World → Prop} (hG : Know Inv G) : ∀ c ∈ q20has_ct n, FCok Tryd.prog G c ∧ noTup c.args = true := (fun _ h => by cases h)
def q20has_dh : Hints := []
theorem q20has_dr : drB q20has_dh (bodyOf Tryd.f30) = true := by kernel_rfl
theorem q20has_eq0 (n : Nat) : ∀ rec p, q20has_F0 n rec p = round Tryd.prog 19 (q20has_ct n) (q20has_lts n) q20has_dh 1 q20has_sh0 q20has_outs0 (bodyAt 0 0 (bodyOf Tryd.f30)) rec p := by intro rec p; kernel_rfl
theorem q20has_lok0 (n : Nat) {F : Fr} (hF : F.n = 19) (hK : Know Inv F.G) : LCok Tryd.prog F (q20has_L0 n) (bodyAt 0 0 (bodyOf Tryd.f30)) :=
  loop_ok hF (by kernel_rfl) (q20has_ctok n hK) (q20has_eq0 n) (fuel := n) (fun _ => rfl) (lok_of fun j L h1 h2 h3 => absurd h2 (Nat.not_lt.2 (Nat.le_trans (by decide +kernel) h1))) (drB_at q20has_dr)
theorem q20has_eq (n : Nat) : ∀ a, (q20has_fc n).F a = main Tryd.prog 19 (q20has_ct n) (q20has_lts n) q20has_dh (bodyOf Tryd.f30) [.tmp 4] (q20has_fc n).args (q20has_fc n).res a := by intro a; kernel_rfl
theorem q20has_ok (n : Nat) : FCall Inv Tryd.prog (q20has_fc n) := fun G hG => ⟨⟨by kernel_rfl, fun a r h => main_ok (c := bodyOf Tryd.f30) Tryd.func30 (by kernel_rfl) (by kernel_rfl) (Nat.le_of_ble_eq_true (by kernel_rfl)) hG.st (by kernel_rfl) (rs := [.tmp 4]) (by kernel_rfl) (q20has_ctok n hG) (lts := q20has_lts n) (fun F hF hFG => have hK : Know Inv F.G := hFG ▸ hG; (lok_of (c := (bodyOf Tryd.f30)) (fun j L h1 h2 h3 => by
    have h2' : j < 1 := Nat.lt_of_lt_of_le h2 (by decide +kernel)
    match j, h1, h2', h3 with
    | 0, _, _, h3 => obtain rfl := Option.some.inj h3; exact (show bodyAt 0 0 (bodyOf Tryd.f30) = bodyAt 0 0 (bodyOf Tryd.f30) by kernel_rfl) ▸ q20has_lok0 n hF hK
    | j + 1, _, h2', _ => exact absurd h2' (by omega)))) q20has_dr ((q20has_eq n a).symm.trans h)⟩, rfl⟩
/-! armada/armadaref20.Begin -/
def q20Begin_lts (n : Nat) : List LC := []
def q20Begin_t (n : Nat) (a1 : List (List UInt8 × (List UInt8))) (a2 : List ((Bool) × (List UInt8 × (List UInt8)))) : Option ((List ((Bool) × (List UInt8 × (List UInt8)))) × (Int)) :=
  (r5May_t n a1).bind fun (r1 : Bool) => (bif !r1 then some ([], (1 : Int)) else (r5Get_t n a1 ([46, 105, 110, 116, 101, 110, 116] : List UInt8)).bind fun (r2 : (List UInt8) × (Bool)) => (bif r2.2 then some ([], (14 : Int)) else (q20has_t n a2 ([46, 105, 110, 116, 101, 110, 116] : List UInt8)).bind fun (r3 : Bool) => (bif r3 then some ([], (6 : Int)) else (r5Apply_t n a1 a2).bind fun (r4 : (List (List UInt8 × (List UInt8))) × (Int)) => (bif !decide (r4.2 = (0 : Int)) then some ([], r4.2) else (r5Encode_t n a2).bind fun (r5 : (List UInt8) × (Int)) => (bif !decide (r5.2 = (0 : Int)) then some ([], r5.2) else some (([(false, (([46, 105, 110, 116, 101, 110, 116] : List UInt8), r5.1))] : List ((Bool) × (List UInt8 × (List UInt8)))), (0 : Int)))))))
def q20Begin_fc (n : Nat) : FC := { f := 11, args := [.one (.c (.d (.lst (.prod .str .str)))), .one (.c (.d (.lst (.prod .bool (.prod .str .str)))))], res := .tup [.c (.d (.lst (.prod .bool (.prod .str .str)))), .c (.d (.int .i64))], F := fun p => q20Begin_t n p.1 p.2 }
def q20Begin_ct (n : Nat) : List FC := [r5May_fc n, r5Get_fc n, q20has_fc n, r5Apply_fc n, r5Encode_fc n]
theorem q20Begin_ctok (n : Nat) {G : World → Prop} (hG : Know Inv G) : ∀ c ∈ q20Begin_ct n, FCok Tryd.prog G c ∧ noTup c.args = true := List.forall_mem_cons.2 ⟨r5May_ok n G hG, List.forall_mem_cons.2 ⟨r5Get_ok n G hG, List.forall_mem_cons.2 ⟨q20has_ok n G hG, List.forall_mem_cons.2 ⟨r5Apply_ok n G hG, List.forall_mem_cons.2 ⟨r5Encode_ok n G hG, (fun _ h => by cases h)⟩⟩⟩⟩⟩
def q20Begin_dh : Hints := []
theorem q20Begin_dr : drB q20Begin_dh (bodyOf Tryd.f11) = true := by kernel_rfl
theorem q20Begin_eq (n : Nat) : ∀ a, (q20Begin_fc n).F a = main Tryd.prog 43 (q20Begin_ct n) (q20Begin_lts n) q20Begin_dh (bodyOf Tryd.f11) [.tmp 4, .tmp 5] (q20Begin_fc n).args (q20Begin_fc n).res a := by intro a; kernel_rfl
theorem q20Begin_ok (n : Nat) : FCall Inv Tryd.prog (q20Begin_fc n) := fun G hG => ⟨⟨by kernel_rfl, fun a r h => main_ok (c := bodyOf Tryd.f11) Tryd.func11 (by kernel_rfl) (by kernel_rfl) (Nat.le_of_ble_eq_true (by kernel_rfl)) hG.st (by kernel_rfl) (rs := [.tmp 4, .tmp 5]) (by kernel_rfl) (q20Begin_ctok n hG) (lts := q20Begin_lts n) (fun F hF hFG => have hK : Know Inv F.G := hFG ▸ hG; (lok_of fun j L h1 h2 h3 => absurd h2 (Nat.not_lt.2 (Nat.le_trans (by decide +kernel) h1)))) q20Begin_dr ((q20Begin_eq n a).symm.trans h)⟩, rfl⟩
/-! armada/armadaref20.Pending -/
def q20Pending_lts (n : Nat) : List LC := []
def q20Pending_t (n : Nat) (a1 : List (List UInt8 × (List UInt8))) : Option ((List ((Bool) × (List UInt8 × (List UInt8)))) × (Int)) :=
  (r5May_t n a1).bind fun (r1 : Bool) => (bif !r1 then some ([], (1 : Int)) else (r5Get_t n a1 ([46, 105, 110, 116, 101, 110, 116] : List UInt8)).bind fun (r2 : (List UInt8) × (Bool)) => (bif !r2.2 then some ([], (5 : Int)) else (r5Decode_t n r2.1).bind fun (r3 : (List ((Bool) × (List UInt8 × (List UInt8)))) × (Int)) => some r3))
def q20Pending_fc (n : Nat) : FC := { f := 13, args := [.one (.c (.d (.lst (.prod .str .str))))], res := .tup [.c (.d (.lst (.prod .bool (.prod .str .str)))), .c (.d (.int .i64))], F := fun p => q20Pending_t n p }
def q20Pending_ct (n : Nat) : List FC := [r5May_fc n, r5Get_fc n, r5Decode_fc n]
theorem q20Pending_ctok (n : Nat) {G : World → Prop} (hG : Know Inv G) : ∀ c ∈ q20Pending_ct n, FCok Tryd.prog G c ∧ noTup c.args = true := List.forall_mem_cons.2 ⟨r5May_ok n G hG, List.forall_mem_cons.2 ⟨r5Get_ok n G hG, List.forall_mem_cons.2 ⟨r5Decode_ok n G hG, (fun _ h => by cases h)⟩⟩⟩
def q20Pending_dh : Hints := []
theorem q20Pending_dr : drB q20Pending_dh (bodyOf Tryd.f13) = true := by kernel_rfl
theorem q20Pending_eq (n : Nat) : ∀ a, (q20Pending_fc n).F a = main Tryd.prog 20 (q20Pending_ct n) (q20Pending_lts n) q20Pending_dh (bodyOf Tryd.f13) [.tmp 2, .tmp 3] (q20Pending_fc n).args (q20Pending_fc n).res a := by intro a; kernel_rfl
theorem q20Pending_ok (n : Nat) : FCall Inv Tryd.prog (q20Pending_fc n) := fun G hG => ⟨⟨by kernel_rfl, fun a r h => main_ok (c := bodyOf Tryd.f13) Tryd.func13 (by kernel_rfl) (by kernel_rfl) (Nat.le_of_ble_eq_true (by kernel_rfl)) hG.st (by kernel_rfl) (rs := [.tmp 2, .tmp 3]) (by kernel_rfl) (q20Pending_ctok n hG) (lts := q20Pending_lts n) (fun F hF hFG => have hK : Know Inv F.G := hFG ▸ hG; (lok_of fun j L h1 h2 h3 => absurd h2 (Nat.not_lt.2 (Nat.le_trans (by decide +kernel) h1)))) q20Pending_dr ((q20Pending_eq n a).symm.trans h)⟩, rfl⟩
/-! armada/armadaref20.Finish -/
def q20Finish_lts (n : Nat) : List LC := []
def q20Finish_t (n : Nat) (a1 : List (List UInt8 × (List UInt8))) : Option ((List ((Bool) × (List UInt8 × (List UInt8)))) × (Int)) :=
  (q20Pending_t n a1).bind fun (r1 : (List ((Bool) × (List UInt8 × (List UInt8)))) × (Int)) => (bif !decide (r1.2 = (0 : Int)) then some ([], r1.2) else (appO 40 ([] : List ((Bool) × (List UInt8 × (List UInt8)))) r1.1).bind fun (l2 : List ((Bool) × (List UInt8 × (List UInt8)))) => (appO 40 l2 ([(true, (([46, 105, 110, 116, 101, 110, 116] : List UInt8), ([] : List UInt8)))] : List ((Bool) × (List UInt8 × (List UInt8))))).bind fun (l3 : List ((Bool) × (List UInt8 × (List UInt8)))) => (r5Apply_t n a1 l3).bind fun (r4 : (List (List UInt8 × (List UInt8))) × (Int)) => (bif !decide (r4.2 = (0 : Int)) then some ([], r4.2) else some (l3, (0 : Int))))
def q20Finish_fc (n : Nat) : FC := { f := 15, args := [.one (.c (.d (.lst (.prod .str .str))))], res := .tup [.c (.d (.lst (.prod .bool (.prod .str .str)))), .c (.d (.int .i64))], F := fun p => q20Finish_t n p }
def q20Finish_ct (n : Nat) : List FC := [q20Pending_fc n, r5Apply_fc n]
theorem q20Finish_ctok (n : Nat) {G : World → Prop} (hG : Know Inv G) : ∀ c ∈ q20Finish_ct n, FCok Tryd.prog G c ∧ noTup c.args = true := List.forall_mem_cons.2 ⟨q20Pending_ok n G hG, List.forall_mem_cons.2 ⟨r5Apply_ok n G hG, (fun _ h => by cases h)⟩⟩
def q20Finish_dh : Hints := []
theorem q20Finish_dr : drB q20Finish_dh (bodyOf Tryd.f15) = true := by kernel_rfl
theorem q20Finish_eq (n : Nat) : ∀ a, (q20Finish_fc n).F a = main Tryd.prog 34 (q20Finish_ct n) (q20Finish_lts n) q20Finish_dh (bodyOf Tryd.f15) [.tmp 2, .tmp 3] (q20Finish_fc n).args (q20Finish_fc n).res a := by intro a; kernel_rfl
theorem q20Finish_ok (n : Nat) : FCall Inv Tryd.prog (q20Finish_fc n) := fun G hG => ⟨⟨by kernel_rfl, fun a r h => main_ok (c := bodyOf Tryd.f15) Tryd.func15 (by kernel_rfl) (by kernel_rfl) (Nat.le_of_ble_eq_true (by kernel_rfl)) hG.st (by kernel_rfl) (rs := [.tmp 2, .tmp 3]) (by kernel_rfl) (q20Finish_ctok n hG) (lts := q20Finish_lts n) (fun F hF hFG => have hK : Know Inv F.G := hFG ▸ hG; (lok_of fun j L h1 h2 h3 => absurd h2 (Nat.not_lt.2 (Nat.le_trans (by decide +kernel) h1)))) q20Finish_dr ((q20Finish_eq n a).symm.trans h)⟩, rfl⟩
/-! armada/armadaref20.Undo -/
def q20Undo_lts (n : Nat) : List LC := []
def q20Undo_t (n : Nat) (a1 : List (List UInt8 × (List UInt8))) : Option ((List ((Bool) × (List UInt8 × (List UInt8)))) × (Int)) :=
  (r5May_t n a1).bind fun (r1 : Bool) => (bif !r1 then some ([], (1 : Int)) else (r5Get_t n a1 ([46, 105, 110, 116, 101, 110, 116] : List UInt8)).bind fun (r2 : (List UInt8) × (Bool)) => (bif !r2.2 then some ([], (5 : Int)) else some (([(true, (([46, 105, 110, 116, 101, 110, 116] : List UInt8), ([] : List UInt8)))] : List ((Bool) × (List UInt8 × (List UInt8)))), (0 : Int))))
def q20Undo_fc (n : Nat) : FC := { f := 17, args := [.one (.c (.d (.lst (.prod .str .str))))], res := .tup [.c (.d (.lst (.prod .bool (.prod .str .str)))), .c (.d (.int .i64))], F := fun p => q20Undo_t n p }
def q20Undo_ct (n : Nat) : List FC := [r5May_fc n, r5Get_fc n]
theorem q20Undo_ctok (n : Nat) {G : World → Prop} (hG : Know Inv G) : ∀ c ∈ q20Undo_ct n, FCok Tryd.prog G c ∧ noTup c.args = true := List.forall_mem_cons.2 ⟨r5May_ok n G hG, List.forall_mem_cons.2 ⟨r5Get_ok n G hG, (fun _ h => by cases h)⟩⟩
def q20Undo_dh : Hints := []
theorem q20Undo_dr : drB q20Undo_dh (bodyOf Tryd.f17) = true := by kernel_rfl
theorem q20Undo_eq (n : Nat) : ∀ a, (q20Undo_fc n).F a = main Tryd.prog 18 (q20Undo_ct n) (q20Undo_lts n) q20Undo_dh (bodyOf Tryd.f17) [.tmp 2, .tmp 3] (q20Undo_fc n).args (q20Undo_fc n).res a := by intro a; kernel_rfl
theorem q20Undo_ok (n : Nat) : FCall Inv Tryd.prog (q20Undo_fc n) := fun G hG => ⟨⟨by kernel_rfl, fun a r h => main_ok (c := bodyOf Tryd.f17) Tryd.func17 (by kernel_rfl) (by kernel_rfl) (Nat.le_of_ble_eq_true (by kernel_rfl)) hG.st (by kernel_rfl) (rs := [.tmp 2, .tmp 3]) (by kernel_rfl) (q20Undo_ctok n hG) (lts := q20Undo_lts n) (fun F hF hFG => have hK : Know Inv F.G := hFG ▸ hG; (lok_of fun j L h1 h2 h3 => absurd h2 (Nat.not_lt.2 (Nat.le_trans (by decide +kernel) h1)))) q20Undo_dr ((q20Undo_eq n a).symm.trans h)⟩, rfl⟩
/-! armada/armadaref20.Seen -/
@[reducible] def q20Seen_sh0 : SSt := ⟨[(0, .one (.c (.d (.lst (.prod .str .str))))), (3, .one (.c (.row 27))), (4, .one (.c (.d (.int .i64))))], [], [(27, ⟨43, true, (.prod .str .str)⟩)]⟩
@[reducible] def q20Seen_outs0 : List (Exit × SSt) := [(.exit 0, ⟨[(3, .one (.c (.row 27)))], [], [(27, ⟨43, true, (.prod .str .str)⟩)]⟩)]
def q20Seen_l0 (n : Nat) (rec : (List (List UInt8 × (List UInt8))) → Int → (List (List UInt8 × (List UInt8))) → Option ((Unit × (Unit)) × (Unit) × ((List (List UInt8 × (List UInt8))) × (Unit)))) (a1 : List (List UInt8 × (List UInt8))) (a2 : Int) (a3 : List (List UInt8 × (List UInt8))) : Option ((Unit × (Unit)) × (Unit) × ((List (List UInt8 × (List UInt8))) × (Unit))) :=
  (bif decide (a2 < ((List.length a1 : Nat) : Int)) then (r5May_t n a1).bind fun (r1 : Bool) => (bif r1 then (idxL a1 a2).bind fun (x2 : List UInt8 × (List UInt8)) => (bif !decide (x2.1 = ([46, 105, 110, 116, 101, 110, 116] : List UInt8)) then (idxL a1 a2).bind fun (x3 : List UInt8 × (List UInt8)) => (appO 32 a3 ([x3] : List (List UInt8 × (List UInt8)))).bind fun (l4 : List (List UInt8 × (List UInt8))) => letO (IntKind.wrap .i64 (a2 + (1 : Int))) fun (n5 : Int) => rec a1 n5 l4 else letO (IntKind.wrap .i64 (a2 + (1 : Int))) fun (n6 : Int) => rec a1 n6 a3) else some ((((), ()), ((), (a3, ()))))) else some ((((), ()), ((), (a3, ())))))
def q20Seen_F0 (n : Nat) (rec : pSt q20Seen_sh0 → Option (pOuts q20Seen_outs0)) (p : pSt q20Seen_sh0) : Option (pOuts q20Seen_outs0) := q20Seen_l0 n (fun a1 a2 a3 => rec ((a1, ((), (a2, ()))), ((), (a3, ())))) p.1.1 p.1.2.2.1 p.2.2.1
def q20Seen_loop0 (n m : Nat) (a1 : List (List UInt8 × (List UInt8))) (a2 : Int) (a3 : List (List UInt8 × (List UInt8))) : Option ((Unit × (Unit)) × (Unit) × ((List (List UInt8 × (List UInt8))) × (Unit))) := iterF (q20Seen_F0 n) m ((a1, ((), (a2, ()))), ((), (a3, ())))
theorem q20Seen_loop0_succ (n m : Nat) (a1 : List (List UInt8 × (List UInt8))) (a2 : Int) (a3 : List (List UInt8 × (List UInt8))) : q20Seen_loop0 n (m + 1) a1 a2 a3 = q20Seen_l0 n (fun a1 a2 a3 => q20Seen_loop0 n m a1 a2 a3) a1 a2 a3 := rfl
def q20Seen_L0 (n : Nat) : LC := { sh := q20Seen_sh0, outs := q20Seen_outs0, F := iterF (q20Seen_F0 n) n }
def q20Seen_lts (n : Nat) : List LC := [q20Seen_L0 n]
def q20Seen_t (n : Nat) (a1 : List (List UInt8 × (List UInt8))) : Option (List (List UInt8 × (List UInt8))) :=
  (q20Seen_loop0 n n a1 (0 : Int) []).bind fun (o7 : (Unit × (Unit)) × (Unit) × ((List (List UInt8 × (List UInt8))) × (Unit))) => some o7.2.2.1
def q20Seen_fc (n : Nat) : FC := { f := 21, args := [.one (.c (.d (.lst (.prod .str .str))))], res := .one (.c (.d (.lst (.prod .str .str)))), F := fun p => q20Seen_t n p }
def q20Seen_ct (n : Nat) : List FC := [r5May_fc n]
theorem q20Seen_ctok (n : Nat) {G : World → Prop} (hG : Know Inv G) : ∀ c ∈ q20Seen_ct n, FCok Tryd.prog G c ∧ noTup c.args = true := List.forall_mem_cons.2 ⟨r5May_ok n G hG, (fun _ h => by cases h)⟩
def q20Seen_dh : Hints := []
theorem q20Seen_dr : drB q20Seen_dh (bodyOf Tryd.f21) = true := by kernel_rfl
theorem q20Seen_eq0 (n : Nat) : ∀ rec p, q20Seen_F0 n rec p = round Tryd.prog 29 (q20Seen_ct n) (q20Seen_lts n) q20Seen_dh 1 q20Seen_sh0 q20Seen_outs0 (bodyAt 0 0 (bodyOf Tryd.f21)) rec p := by intro rec p; kernel_rfl
theorem q20Seen_lok0 (n : Nat) {F : Fr} (hF : F.n = 29) (hK : Know Inv F.G) : LCok Tryd.prog F (q20Seen_L0 n) (bodyAt 0 0 (bodyOf Tryd.f21)) :=
  loop_ok hF (by kernel_rfl) (q20Seen_ctok n hK) (q20Seen_eq0 n) (fuel := n) (fun _ => rfl) (lok_of fun j L h1 h2 h3 => absurd h2 (Nat.not_lt.2 (Nat.le_trans (by decide +kernel) h1))) (drB_at q20Seen_dr)
theorem q20Seen_eq (n : Nat) : ∀ a, (q20Seen_fc n).F a = main Tryd.prog 29 (q20Seen_ct n) (q20Seen_lts n) q20Seen_dh (bodyOf Tryd.f21) [.tmp 2] (q20Seen_fc n).args (q20Seen_fc n).res a := by intro a; kernel_rfl
theorem q20Seen_ok (n : Nat) : FCall Inv Tryd.prog (q20Seen_fc n) := fun G hG => ⟨⟨by kernel_rfl, fun a r h => main_ok (c := bodyOf Tryd.f21) Tryd.func21 (by kernel_rfl) (by kernel_rfl) (Nat.le_of_ble_eq_true (by kernel_rfl)) hG.st (by kernel_rfl) (rs := [.tmp 2]) (by kernel_rfl) (q20Seen_ctok n hG) (lts := q20Seen_lts n) (fun F hF hFG => have hK : Know Inv F.G := hFG ▸ hG; (lok_of (c := (bodyOf Tryd.f21)) (fun j L h1 h2 h3 => by
    have h2' : j < 1 := Nat.lt_of_lt_of_le h2 (by decide +kernel)
    match j, h1, h2', h3 with
    | 0, _, _, h3 => obtain rfl := Option.some.inj h3; exact (show bodyAt 0 0 (bodyOf Tryd.f21) = bodyAt 0 0 (bodyOf Tryd.f21) by kernel_rfl) ▸ q20Seen_lok0 n hF hK
    | j + 1, _, h2', _ => exact absurd h2' (by omega)))) q20Seen_dr ((q20Seen_eq n a).symm.trans h)⟩, rfl⟩
/-! armada/armadaref20.Allowed -/
def q20Allowed_lts (n : Nat) : List LC := []
def q20Allowed_t (n : Nat) (a1 : List (List UInt8 × (List UInt8))) (a2 : List ((Bool) × (List UInt8 × (List UInt8)))) : Option (Int) :=
  (r5May_t n a1).bind fun (r1 : Bool) => (bif !r1 then some (1 : Int) else (r5Get_t n a1 ([46, 105, 110, 116, 101, 110, 116] : List UInt8)).bind fun (r2 : (List UInt8) × (Bool)) => (bif r2.2 then some (14 : Int) else (q20has_t n a2 ([46, 105, 110, 116, 101, 110, 116] : List UInt8)).bind fun (r3 : Bool) => (bif r3 then some (6 : Int) else (q20has_t n a2 ([108, 101, 100, 103, 101, 114, 46, 116, 120, 116] : List UInt8)).bind fun (r4 : Bool) => (bif r4 then some (6 : Int) else (r5Apply_t n a1 a2).bind fun (r5 : (List (List UInt8 × (List UInt8))) × (Int)) => some r5.2))))
def q20Allowed_fc (n : Nat) : FC := { f := 23, args := [.one (.c (.d (.lst (.prod .str .str)))), .one (.c (.d (.lst (.prod .bool (.prod .str .str)))))], res := .one (.c (.d (.int .i64))), F := fun p => q20Allowed_t n p.1 p.2 }
def q20Allowed_ct (n : Nat) : List FC := [r5May_fc n, r5Get_fc n, q20has_fc n, r5Apply_fc n]
theorem q20Allowed_ctok (n : Nat) {G : World → Prop} (hG : Know Inv G) : ∀ c ∈ q20Allowed_ct n, FCok Tryd.prog G c ∧ noTup c.args = true := List.forall_mem_cons.2 ⟨r5May_ok n G hG, List.forall_mem_cons.2 ⟨r5Get_ok n G hG, List.forall_mem_cons.2 ⟨q20has_ok n G hG, List.forall_mem_cons.2 ⟨r5Apply_ok n G hG, (fun _ h => by cases h)⟩⟩⟩⟩
def q20Allowed_dh : Hints := []
theorem q20Allowed_dr : drB q20Allowed_dh (bodyOf Tryd.f23) = true := by kernel_rfl
theorem q20Allowed_eq (n : Nat) : ∀ a, (q20Allowed_fc n).F a = main Tryd.prog 31 (q20Allowed_ct n) (q20Allowed_lts n) q20Allowed_dh (bodyOf Tryd.f23) [.tmp 4] (q20Allowed_fc n).args (q20Allowed_fc n).res a := by intro a; kernel_rfl
theorem q20Allowed_ok (n : Nat) : FCall Inv Tryd.prog (q20Allowed_fc n) := fun G hG => ⟨⟨by kernel_rfl, fun a r h => main_ok (c := bodyOf Tryd.f23) Tryd.func23 (by kernel_rfl) (by kernel_rfl) (Nat.le_of_ble_eq_true (by kernel_rfl)) hG.st (by kernel_rfl) (rs := [.tmp 4]) (by kernel_rfl) (q20Allowed_ctok n hG) (lts := q20Allowed_lts n) (fun F hF hFG => have hK : Know Inv F.G := hFG ▸ hG; (lok_of fun j L h1 h2 h3 => absurd h2 (Nat.not_lt.2 (Nat.le_trans (by decide +kernel) h1)))) q20Allowed_dr ((q20Allowed_eq n a).symm.trans h)⟩, rfl⟩
/-! armada/armadalaw20.live -/
def l20live_lts (n : Nat) : List LC := []
def l20live_t (n : Nat)  : Option (Bool) :=
  (sBegin_t n ([(([97] : List UInt8), ([49] : List UInt8))] : List (List UInt8 × (List UInt8))) ([(false, (([98] : List UInt8), ([50] : List UInt8))), (true, (([97] : List UInt8), ([] : List UInt8)))] : List ((Bool) × (List UInt8 × (List UInt8))))).bind fun (r1 : (List ((Bool) × (List UInt8 × (List UInt8)))) × (Int)) => (r5Apply_t n ([(([97] : List UInt8), ([49] : List UInt8))] : List (List UInt8 × (List UInt8))) r1.1).bind fun (r2 : (List (List UInt8 × (List UInt8))) × (Int)) => (sFinish_t n r2.1).bind fun (r3 : (List ((Bool) × (List UInt8 × (List UInt8)))) × (Int)) => (sUndo_t n r2.1).bind fun (r4 : (List ((Bool) × (List UInt8 × (List UInt8)))) × (Int)) => (sPending_t n r2.1).bind fun (r5 : (List ((Bool) × (List UInt8 × (List UInt8)))) × (Int)) => (sBegin_t n r2.1 []).bind fun (r6 : (List ((Bool) × (List UInt8 × (List UInt8)))) × (Int)) => (sUndo_t n ([(([97] : List UInt8), ([49] : List UInt8))] : List (List UInt8 × (List UInt8)))).bind fun (r7 : (List ((Bool) × (List UInt8 × (List UInt8)))) × (Int)) => (bif !decide (((List.length r1.1 : Nat) : Int) = (1 : Int)) then some false else (bif !decide (((List.length r3.1 : Nat) : Int) = (3 : Int)) then some false else (bif !decide (((List.length r4.1 : Nat) : Int) = (1 : Int)) then some false else (bif !decide (((List.length r5.1 : Nat) : Int) = (2 : Int)) then some false else (sSeen_t r2.1).bind fun (r8 : List (List UInt8 × (List UInt8))) => (bif !decide (((List.length r8 : Nat) : Int) = (1 : Int)) then some false else (bif decide (r1.2 = (0 : Int)) then (idxL r1.1 (0 : Int)).bind fun (x9 : (Bool) × (List UInt8 × (List UInt8))) => (bif decide (x9.2.1 = ([46, 105, 110, 116, 101, 110, 116] : List UInt8)) then (bif decide (r3.2 = (0 : Int)) then (idxL r3.1 (2 : Int)).bind fun (x10 : (Bool) × (List UInt8 × (List UInt8))) => (bif (decide (x10.1 = true) && (decide (x10.2.1 = ([46, 105, 110, 116, 101, 110, 116] : List UInt8)) && (decide (x10.2.2 = ([] : List UInt8)) && true))) then (bif decide (r4.2 = (0 : Int)) then (idxL r4.1 (0 : Int)).bind fun (x11 : (Bool) × (List UInt8 × (List UInt8))) => (idxL r3.1 (2 : Int)).bind fun (x12 : (Bool) × (List UInt8 × (List UInt8))) => (bif (decide (x11.1 = x12.1) && (decide (x11.2.1 = x12.2.1) && (decide (x11.2.2 = x12.2.2) && true))) then (bif decide (r5.2 = (0 : Int)) then (idxL r5.1 (1 : Int)).bind fun (x13 : (Bool) × (List UInt8 × (List UInt8))) => (idxL r3.1 (1 : Int)).bind fun (x14 : (Bool) × (List UInt8 × (List UInt8))) => (bif (decide (x13.1 = x14.1) && (decide (x13.2.1 = x14.2.1) && (decide (x13.2.2 = x14.2.2) && true))) then (bif decide (r6.2 = (14 : Int)) then (bif decide (r7.2 = (5 : Int)) then (sAllowed_t n ([(([97] : List UInt8), ([49] : List UInt8))] : List (List UInt8 × (List UInt8))) ([(false, (([108, 101, 100, 103, 101, 114, 46, 116, 120, 116] : List UInt8), ([] : List UInt8)))] : List ((Bool) × (List UInt8 × (List UInt8))))).bind fun (r15 : Int) => (bif decide (r15 = (6 : Int)) then (sAllowed_t n ([(([97] : List UInt8), ([49] : List UInt8))] : List (List UInt8 × (List UInt8))) ([(false, (([99] : List UInt8), ([] : List UInt8)))] : List ((Bool) × (List UInt8 × (List UInt8))))).bind fun (r16 : Int) => (bif decide (r16 = (0 : Int)) then (sAllowed_t n r2.1 []).bind fun (r17 : Int) => some (decide (r17 = (14 : Int))) else some false) else some false) else some false) else some false) else some false) else some false) else some false) else some false) else some false) else some false) else some false) else some false))))))
def l20live_fc (n : Nat) : FC := { f := 9, args := [], res := .one (.c (.d .bool)), F := fun p => l20live_t n  }
def l20live_ct (n : Nat) : List FC := [sBegin_fc n, r5Apply_fc n, sFinish_fc n, sUndo_fc n, sPending_fc n, sSeen_fc, sAllowed_fc n]
theorem l20live_ctok (n : Nat) {G : World → Prop} (hG : Know Inv G) : ∀ c ∈ l20live_ct n, FCok Tryd.prog G c ∧ noTup c.args = true := List.forall_mem_cons.2 ⟨sBegin_ok n G hG, List.forall_mem_cons.2 ⟨r5Apply_ok n G hG, List.forall_mem_cons.2 ⟨sFinish_ok n G hG, List.forall_mem_cons.2 ⟨sUndo_ok n G hG, List.forall_mem_cons.2 ⟨sPending_ok n G hG, List.forall_mem_cons.2 ⟨sSeen_ok G hG, List.forall_mem_cons.2 ⟨sAllowed_ok n G hG, (fun _ h => by cases h)⟩⟩⟩⟩⟩⟩⟩
def l20live_dh : Hints := [(11, [⟨84808659109362447819998280035660088759719227050029709989837097662045749760, 14134776518227074636666380005943348126619871175004951664972849610340958208, 0⟩, ⟨692604049393126657196652620291224058204373687575242631583669630906706952192, 113078212145816597093331040047546785012958969400039613319782796882727665664, 1⟩, ⟨5540832395145013257573220962329792465634989500601941052669357047253655617536, 904625697166532776746648320380374280103671755200316906558262375061821325312, 3⟩, ⟨44326659161160106060585767698638339725079916004815528421354856378029244940352, 7237005577332262213973186563042994240829374041602535252466099000494570602496, 7⟩, ⟨355517898986447381261432789909487092080742999793724544277397113399295780847616, 57896044618658097711785492504343953926634992332820282019728792003956564819968, 15⟩, ⟨2837810812011413320654235781033234116685218296063394135873269070568933497503744, 463168356949264781694283940034751631413079938662562256157830336031652518559744, 31⟩, ⟨22696154116211140835796659710023210313521020666220750868640244727926035230752768, 3705346855594118253554271520278013051304639509300498049262642688253220148477952, 63⟩, ⟨181562900549808960956936051141943019888207439627479604730776049986782849096744960, 29642774844752946028434172162224104410437116074403984394101141506025761187823616, 127⟩, ⟨1452496872018591521926051182597301496485698791317550435627862492057637360024682496, 237142198758023568227473377297792835283496928595231875152809132048206089502588928, 255⟩, ⟨11619967739143154843146195487591848928891349501166361882487647470362098385626857472, 1897137590064188545819787018382342682267975428761855001222473056385648716020711424, 511⟩, ⟨92959741913145238745169563900734791431130796009330895059901179762896787085016956928, 15177100720513508366558296147058741458143803430094840009779784451085189728165691392, 1023⟩, ⟨745575072895226098507176298224260674131314343503409015480431911159559945396139589632, 121416805764108066932466369176469931665150427440758720078238275608681517825325531136, 2047⟩, ⟨5951320620031359468236671876665408994274638920025939138834897977881780022156971737088, 971334446112864535459730953411759453321203419526069760625906204869452142602604249088, 4095⟩, ⟨47595387859530362237526816717176213212738967556777418270669404038603154987527608205312, 7770675568902916283677847627294075626569627356208558085007249638955617140820833992704, 8191⟩, ⟨380763102876242897900214533737409705701911740454219346165355232308825239900220865904640, 62165404551223330269422781018352605012557018849668464680057997111644937126566671941632, 16383⟩, ⟨3053875498578846099485394117526571721241863550989963327407849108109557536342587759132672, 497323236409786642155382248146820840100456150797347717440463976893159497012533375533056, 32767⟩, ⟨24376609259648448381897408006821515240548921016426246712667742117403770970754956235112448, 3978585891278293137243057985174566720803649206378781739523711815145275976100267004264448, 65535⟩, ⟨190979893456926973503950461136006496674201731533537732055223174376612202469953637038686208, 31828687130226345097944463881396533766429193651030253916189694521162207808802136034115584, 16383⟩, ⟨1563592025947938105852805466021232015351460707734217432190903750601732414224545753509920768, 254629497041810760783555711051172270131433549208242031329517556169297662470417088272924672, 262143⟩, ⟨12476853125724296181310513519355068530515870480831215743704445259545224416667578146207301632, 2037035976334486086268445688409378161051468393665936250636140449354381299763336706183397376, 524287⟩, ⟨99814762840389818227153838732059529891521951289630876281170882018364683688403498602986471424, 16296287810675888690147565507275025288411747149327490005089123594835050398106693649467179008, 1048575⟩, ⟨798518102723118545817230709856476239132175610317047010249367056146917469507227988824025989120, 130370302485407109521180524058200202307293977194619920040712988758680403184853549195737432064, 2097151⟩, ⟨6404441109595624255227993244359084938345816629685703572000025572770174806455930604240601350144, 1042962419883256876169444192465601618458351817556959360325703910069443225478828393565899456512, 4194303⟩, ⟨51121454862090262820992912996321754329747650807440336145964580716997553098860697978378540548096, 8343699359066055009355553539724812947666814540455674882605631280555545803830627148527195652096, 8388607⟩, ⟨408841268594236695458422123446515834435673912482328069247675932747221744387700730277832586952704, 66749594872528440074844428317798503581334516323645399060845050244444366430645017188217565216768, 16777215⟩, ⟨3270730148753893563667376987572126675485391299858624553981407461977773955101605842222660712398848, 533996758980227520598755426542388028650676130589163192486760401955554931445160137505740521734144, 33554431⟩, ⟨26232590784903676949413860328894811907464464915192641830912104746066636007243491754969503130189824, 4271974071841820164790043412339104229205409044713305539894083215644439451561281100045924173873152, 67108863⟩, ⟨209393479115121716514786971632933905734646377707275616853870922616821977492933418919438502085001216, 34175792574734561318320347298712833833643272357706444319152665725155515612490248800367393390985216, 134217727⟩, ⟨1640504793182131471719451514766533822518458407686232972718388799857709193765962587434823100332769280, 273406340597876490546562778389702670669146178861651554553221325801244124899921990402939147127881728, 33554431⟩, ⟨13396977438890820565221650985523748661291744098737249818506905809311206564462608174761206426831421440, 2187250724783011924372502227117621365353169430893212436425770606409952999199375923223513177023053824, 301989887⟩, ⟨107175352263962456822692683973191764700808883448283733030261820559137941405135850882969333891694854144, 17498005798264095394980017816940970922825355447145699491406164851279623993595007385788105416184430592, 838860799⟩, ⟨857436526657110281443779268221834605850779641517013305168620291223476975646134282797434721003993300992, 139984046386112763159840142535527767382602843577165595931249318810236991948760059086304843329475444736, 2147483647⟩, ⟨6859218339669120267360607059085288919546042916615630524276615682546662849933609325873954511361862008832, 1119872371088902105278721140284222139060822748617324767449994550481895935590080472690438746635803557888, 4294967295⟩, ⟨54873746183356203158657335873926884813980314682248913605049732973612900843913943161831498585154374336512, 8958978968711216842229769122273777112486581988938598139599956403855167484720643781523509973086428463104, 8589934591⟩, ⟨438989969466849625269258686991415078511842517457991308840397863788903206751311545294651988681243584626688, 71671831749689734737838152978190216899892655911508785116799651230841339877765150252188079784691427704832, 17179869183⟩, ⟨3520878734703508218996299265053594405207226721652869068862782866715080821495213006138739419422966385999872, 573374653997517877902705223825521735199141247292070280934397209846730719022121202017504638277531421638656, 34359738367⟩, ⟨28104317024847087234074785736572838801870407699300382363925063238893660399568659542639250785572126088757248, 4586997231980143023221641790604173881593129978336562247475177678773845752176969616140037106220251373109248, 68719476735⟩, ⟨224762864367027008137860447739604520198063368938491550126283706259918441856671511190861818204792317282353152, 36695977855841144185773134324833391052745039826692497979801421430190766017415756929120296849762010984873984, 137438953471⟩, ⟨1798102914936216065102883581916836161584506951507932401010269650079347534853372089526894545638338539332567040, 293567822846729153486185074598667128421960318613539983838411371441526128139326055432962374798096087878991872, 274877906943⟩, ⟨14421519297345569665008841789659522683728800651890151706061958622064971044844392473144276661956470317055475712, 2348542582773833227889480596789337027375682548908319870707290971532209025114608443463698998384768703031934976, 549755813887⟩, ⟨115115282533773669310770322377002347732461189936334366162637059026508432996633229486650371217703428459549687808, 18788340662190665823115844774314696219005460391266558965658327772257672200916867547709591987078149624255479808, 1099511627775⟩, ⟨901877047763007800653746322301430251903314843820621522849579534489798456410027058046989535676600943975248166912, 150306725297525326584926758194517569752043683130132471725266622178061377607334940381676735896625196994043838464, 274877906943⟩, ⟨7365066235556596843805596924665685751241193218416317807036044288146437693525429494459089179231484414719132958720, 1202453802380202612679414065556140558016349465041059773802132977424491020858679523053413887173001575952350707712, 2473901162495⟩, ⟨58920273012607783862435474985385212176192176532051755608802495695221490212841314045374209591773926983676169551872, 9619630419041620901435312524449124464130795720328478190417063819395928166869436184427311097384012607618805661696, 6871947673599⟩, ⟨471380715569679470677297615315915738272019048501526524581899765279594168039569307320242882484100545684956717776896, 76957043352332967211482500195592995713046365762627825523336510555167425334955489475418488779072100860950445293568, 17592186044415⟩, ⟨3770895160960293249203786695357191114772662975113803277335986997004625271603585001711262879294829791948582804258816, 615656346818663737691860001564743965704370926101022604186692084441339402679643915803347910232576806887603562348544, 35184372088831⟩, ⟨30167160994114523146901140076672454319514175378950107605147912137625630731302551874364047601396263537492574555078656, 4925250774549309901534880012517951725634967408808180833493536675530715221437151326426783281860614455100828498788352, 70368744177663⟩, ⟨241337287952916185175209120613379634556113403031600860841183297101005045850420414994912380811170108299941146196443136, 39402006196394479212279040100143613805079739270465446667948293404245721771497210611414266254884915640806627990306816, 140737488355327⟩, ⟨1935623554397878791303207844919555028174542191661615067562959913483571082024800471285725829771221480854625600023822336, 315216049571155833698232320801148910440637914163723573343586347233965774171977684891314130039079325126453023922454528, 281474976710655⟩, ⟨15450511679761185161114918599268814563316892761431263274669224551139853649648343711000819155196747545651299000699060224, 2521728396569246669585858566409191283525103313309788586748690777871726193375821479130513040312634601011624191379636224, 562949953421311⟩, ⟨123564691431893086809707069754050372892730062352179640750685848115714583475415252477395138975319095449569585377602174976, 20173827172553973356686868531273530268200826506478308693989526222973809547006571833044104322501076808092993531037089792, 1125899906842623⟩, ⟨988517531455144694477656558032402983141840498817437126005486784925716667803322019819161111802552763596556718205189488640, 161390617380431786853494948250188242145606612051826469551916209783790476376052574664352834580008614464743948248296718336, 2251799813685247⟩, ⟨7928314078813711529177939332790497395402924817045975316737883805628707151973582730386332998742923185580546457697576288256, 1291124939043454294827959586001505937164852896414611756415329678270323811008420597314822676640068915717951585986373746688, 4503599627370495⟩, ⟨63285295840301814419926706582605064451345992750822454373045143761468840548959615840259355259685877946987720706863350677504, 10328999512347634358623676688012047497318823171316894051322637426162590488067364778518581413120551325743612687890989973504, 9007199254740991⟩, ⟨506120976105034083572560157712590327368622335394527808514809233881966933915300874147410489242907014961437021706658508701696, 82631996098781074868989413504096379978550585370535152410581099409300723904538918228148651304964410605948901503127919788032, 18014398509481983⟩, ⟨4048967808840272668580481261700722618948978683156222468118473871055735471322406993179283913943256119691496182660467324354568, 661055968790248598951915308032771039828404682964281219284648795274405791236311345825189210439715284847591212025023358304256, 36028797018963967⟩, ⟨31813318498030713824560924199077106291741975367656033678073723272580778703247483517837230752411298083290327078704249118392320, 5288447750321988791615322464262168318627237463714249754277190362195246329890490766601513683517722278780729696200186866434048, 36028797018963967⟩, ⟨259216571761876231864019790162350343992713186307368773111992908846976370888538586481702319143673356070861704015312284375056384, 211537910012879551664612898570486732745089498548569990171087614487809853195619630664060547340708891151229187848007474657361920, 108086391056891903⟩, ⟨2243045534101412277318717629568696234517755639883176712185223943465468150388708935303095139673258925898482931311414581900869632, 338460656020607282663380637712778772392143197677711984273740183180495765112991409062496875745134225841966700556811959451779072, 288230376151711743⟩, ⟨16584654777005855631580520237339663943594995236793257764565679556943701791260483582980575060162882030666974276185289141056962560, 2707685248164858261307045101702230179137145581421695874189921465443966120903931272499975005961073806735733604454495675614232576, 576460752303423487⟩, ⟨132676659792074153585120078972822782874100112040248468370458562387853749225016536891417003440743921494461552567171791233017184256, 21661481985318866090456360813617841433097164651373566993519371723551728967231450179999800047688590453885868835635965404913860608, 1152921504606846975⟩, ⟨1061412617280624438432361679867274230221761067917304782682449214454034719394341058819990202336740932240407572946162304840779169792, 173291855882550928723650886508942731464777317210988535948154973788413831737851601439998400381508723631086950685087723239310884864, 2305843009213693951⟩, ⟨8491300938244995507458893438938193841774088543338438261459593715632277755154728470559921618693927457923260583569307445925488099336, 1386334847060407429789207092071541851718218537687908287585239790307310653902812811519987203052069789048695605480701785914487078912, 4611686018427387903⟩, ⟨66717364514782107558605591305942951613939267126230586340039664908539325219072866554399384146880858597968476013758773447134690672640, 11090678776483259438313656736572334813745748301503266300681918322458485231222502492159897624416558312389564843845614287315896631296, 4611686018427387903⟩, ⟨543616551903562263406092830978553348605006444090871037269362152774254190161640473717274981996792866030719764299120187801718245818368, 443627151059330377532546269462893392549829932060130652027276732898339409248900099686395904976662332495582593753824571492635865251840, 13835058055282163711⟩, ⟨4704007427931844960203503314285250445611380275692283808312666763486493462523981721088756578356054302965855276346706256338293224374272, 709803441694928604052074031140629428079727891296209043243642772637343054798240159498233447962659731992932150006119314388217384402944, 36893488147419103231⟩, ⟨34780541934907384149480351176777350918638131450831454107474444014203598098945505667014878948570708376377306437250531492745891146629120, 5678427533559428832416592249125035424637823130369672345949142181098744438385921275985867583701277855943457200048954515105739075223552, 73786976294838206463⟩, ⟨278243122436267895339341743858013244749984798165431155940043915028812265894741880374908951599762996449953033889349456327904453996838912, 45427420268475430659332737993000283397102585042957378767593137448789955507087370207886940669610222847547657600391636120845912601788416, 147573952589676412927⟩, ⟨2225943593155296102307304161657013886458026667104911559612063734990707819847281140186460092810900919529835222419190169921449717487632384, 363419362147803445274661903944002267176820680343659030140745099590319644056698961663095525356881782780381260803133088966767300814307328, 295147905179352825855⟩, ⟨17807548745242368818458433293256111091664213336839292476896509879925662558778249121491680742487207356238681779353521359371597739901063168, 2907354897182427562197295231552018137414565442749272241125960796722557152453591693304764202855054262243050086425064711734138406514458624, 590295810358705651711⟩, ⟨142823809324086753992942128249992891000490527375057998845312824138995620114282691933596541465254540632689835495631303963939549220022779904, 23258839177459420497578361852416145099316523541994177929007686373780457219628733546438113622840434097944400691400517693873107252115668992, 1180591620717411303423⟩, ⟨1140046539057659407826614392672335112133686474238058377551517377414832723405864642737130663044538152582056015139428500088749022654482087936, 186070713419675363980626894819329160794532188335953423432061490990243657757029868371504908982723472783555205531204141550984858016925351936, 2361183241434822606847⟩, ⟨9117828376926240638495992508051072881199254049142061407201153803621529549738520249165403635678807048176985452289806069087224810130156552192, 1488565707357402911845015158554633286356257506687627387456491927921949262056238946972039271861787782268441644249633132407878864135402815488, 4722366482869645213695⟩, ⟨1488565707357402911845015158554633286356257506687627387456491927921949262056238946972039271861787782268441644249633132407878864135402815494, 1, 9444732965739290427391⟩])]
theorem l20live_dr : drB l20live_dh (bodyOf Tryd.f9) = true := by kernel_rfl
theorem l20live_eq (n : Nat) : ∀ a, (l20live_fc n).F a = main Tryd.prog 154 (l20live_ct n) (l20live_lts n) l20live_dh (bodyOf Tryd.f9) [.tmp 0] (l20live_fc n).args (l20live_fc n).res a := by intro a; kernel_rfl
theorem l20live_ok (n : Nat) : FCall Inv Tryd.prog (l20live_fc n) := fun G hG => ⟨⟨by kernel_rfl, fun a r h => main_ok (c := bodyOf Tryd.f9) Tryd.func9 (by kernel_rfl) (by kernel_rfl) (Nat.le_of_ble_eq_true (by kernel_rfl)) hG.st (by kernel_rfl) (rs := [.tmp 0]) (by kernel_rfl) (l20live_ctok n hG) (lts := l20live_lts n) (fun F hF hFG => have hK : Know Inv F.G := hFG ▸ hG; (lok_of fun j L h1 h2 h3 => absurd h2 (Nat.not_lt.2 (Nat.le_trans (by decide +kernel) h1)))) l20live_dr ((l20live_eq n a).symm.trans h)⟩, rfl⟩
/-! armada/armadalaw20.StageTells -/
def l20Tells_lts (n : Nat) : List LC := []
def l20Tells_t (n : Nat) (a1 : List (List UInt8 × (List UInt8))) (a2 : List ((Bool) × (List UInt8 × (List UInt8)))) : Option (Bool) :=
  (r5Small_t n a1).bind fun (r1 : Bool) => (bif !r1 then (l20live_t n ).bind fun (r2 : Bool) => some r2 else (r5Few_t n a2).bind fun (r3 : Bool) => (bif !r3 then (l20live_t n ).bind fun (r4 : Bool) => some r4 else (sBegin_t n a1 a2).bind fun (r5 : (List ((Bool) × (List UInt8 × (List UInt8)))) × (Int)) => (q20Begin_t n a1 a2).bind fun (r6 : (List ((Bool) × (List UInt8 × (List UInt8)))) × (Int)) => (sPending_t n a1).bind fun (r7 : (List ((Bool) × (List UInt8 × (List UInt8)))) × (Int)) => (q20Pending_t n a1).bind fun (r8 : (List ((Bool) × (List UInt8 × (List UInt8)))) × (Int)) => (sFinish_t n a1).bind fun (r9 : (List ((Bool) × (List UInt8 × (List UInt8)))) × (Int)) => (q20Finish_t n a1).bind fun (r10 : (List ((Bool) × (List UInt8 × (List UInt8)))) × (Int)) => (sUndo_t n a1).bind fun (r11 : (List ((Bool) × (List UInt8 × (List UInt8)))) × (Int)) => (q20Undo_t n a1).bind fun (r12 : (List ((Bool) × (List UInt8 × (List UInt8)))) × (Int)) => (r5Ops_t n r5.1 r6.1).bind fun (r13 : Bool) => (bif !r13 then some false else (bif !decide (r5.2 = r6.2) then some false else (r5Ops_t n r7.1 r8.1).bind fun (r14 : Bool) => (bif !r14 then some false else (bif !decide (r7.2 = r8.2) then some false else (r5Ops_t n r9.1 r10.1).bind fun (r15 : Bool) => (bif !r15 then some false else (bif !decide (r9.2 = r10.2) then some false else (r5Ops_t n r11.1 r12.1).bind fun (r16 : Bool) => (bif !r16 then some false else (bif !decide (r11.2 = r12.2) then some false else (sSeen_t a1).bind fun (r17 : List (List UInt8 × (List UInt8))) => (q20Seen_t n a1).bind fun (r18 : List (List UInt8 × (List UInt8))) => (r5Same_t n r17 r18).bind fun (r19 : Bool) => (bif r19 then (sAllowed_t n a1 a2).bind fun (r20 : Int) => (q20Allowed_t n a1 a2).bind fun (r21 : Int) => (bif decide (r20 = r21) then (l20live_t n ).bind fun (r22 : Bool) => some r22 else some false) else some false)))))))))))
def l20Tells_fc (n : Nat) : FC := { f := 3, args := [.one (.c (.d (.lst (.prod .str .str)))), .one (.c (.d (.lst (.prod .bool (.prod .str .str)))))], res := .one (.c (.d .bool)), F := fun p => l20Tells_t n p.1 p.2 }
def l20Tells_ct (n : Nat) : List FC := [r5Small_fc n, l20live_fc n, r5Few_fc n, sBegin_fc n, q20Begin_fc n, sPending_fc n, q20Pending_fc n, sFinish_fc n, q20Finish_fc n, sUndo_fc n, q20Undo_fc n, r5Ops_fc n, sSeen_fc, q20Seen_fc n, r5Same_fc n, sAllowed_fc n, q20Allowed_fc n]
theorem l20Tells_ctok (n : Nat) {G : World → Prop} (hG : Know Inv G) : ∀ c ∈ l20Tells_ct n, FCok Tryd.prog G c ∧ noTup c.args = true := List.forall_mem_cons.2 ⟨r5Small_ok n G hG, List.forall_mem_cons.2 ⟨l20live_ok n G hG, List.forall_mem_cons.2 ⟨r5Few_ok n G hG, List.forall_mem_cons.2 ⟨sBegin_ok n G hG, List.forall_mem_cons.2 ⟨q20Begin_ok n G hG, List.forall_mem_cons.2 ⟨sPending_ok n G hG, List.forall_mem_cons.2 ⟨q20Pending_ok n G hG, List.forall_mem_cons.2 ⟨sFinish_ok n G hG, List.forall_mem_cons.2 ⟨q20Finish_ok n G hG, List.forall_mem_cons.2 ⟨sUndo_ok n G hG, List.forall_mem_cons.2 ⟨q20Undo_ok n G hG, List.forall_mem_cons.2 ⟨r5Ops_ok n G hG, List.forall_mem_cons.2 ⟨sSeen_ok G hG, List.forall_mem_cons.2 ⟨q20Seen_ok n G hG, List.forall_mem_cons.2 ⟨r5Same_ok n G hG, List.forall_mem_cons.2 ⟨sAllowed_ok n G hG, List.forall_mem_cons.2 ⟨q20Allowed_ok n G hG, (fun _ h => by cases h)⟩⟩⟩⟩⟩⟩⟩⟩⟩⟩⟩⟩⟩⟩⟩⟩⟩
def l20Tells_dh : Hints := []
theorem l20Tells_dr : drB l20Tells_dh (bodyOf Tryd.f3) = true := by kernel_rfl
theorem l20Tells_eq (n : Nat) : ∀ a, (l20Tells_fc n).F a = main Tryd.prog 131 (l20Tells_ct n) (l20Tells_lts n) l20Tells_dh (bodyOf Tryd.f3) [.tmp 4] (l20Tells_fc n).args (l20Tells_fc n).res a := by intro a; kernel_rfl
theorem l20Tells_ok (n : Nat) : FCall Inv Tryd.prog (l20Tells_fc n) := fun G hG => ⟨⟨by kernel_rfl, fun a r h => main_ok (c := bodyOf Tryd.f3) Tryd.func3 (by kernel_rfl) (by kernel_rfl) (Nat.le_of_ble_eq_true (by kernel_rfl)) hG.st (by kernel_rfl) (rs := [.tmp 4]) (by kernel_rfl) (l20Tells_ctok n hG) (lts := l20Tells_lts n) (fun F hF hFG => have hK : Know Inv F.G := hFG ▸ hG; (lok_of fun j L h1 h2 h3 => absurd h2 (Nat.not_lt.2 (Nat.le_trans (by decide +kernel) h1)))) l20Tells_dr ((l20Tells_eq n a).symm.trans h)⟩, rfl⟩
/-! armada/armadalaw20.StageEnds -/
def l20Ends_lts (n : Nat) : List LC := []
def l20Ends_t (n : Nat) (a1 : List (List UInt8 × (List UInt8))) (a2 : List ((Bool) × (List UInt8 × (List UInt8)))) : Option (Bool) :=
  (r5Small_t n a1).bind fun (r1 : Bool) => (bif !r1 then (l20live_t n ).bind fun (r2 : Bool) => some r2 else (r5Few_t n a2).bind fun (r3 : Bool) => (bif !r3 then (l20live_t n ).bind fun (r4 : Bool) => some r4 else (sBegin_t n a1 a2).bind fun (r5 : (List ((Bool) × (List UInt8 × (List UInt8)))) × (Int)) => (bif !decide (r5.2 = (0 : Int)) then (bif decide (((List.length r5.1 : Nat) : Int) = (0 : Int)) then (l20live_t n ).bind fun (r6 : Bool) => some r6 else some false) else (r5Apply_t n a1 r5.1).bind fun (r7 : (List (List UInt8 × (List UInt8))) × (Int)) => (bif !decide (r7.2 = (0 : Int)) then (bif decide (r7.2 = (3 : Int)) then (bif decide (((List.length a1 : Nat) : Int) = (40 : Int)) then (l20live_t n ).bind fun (r8 : Bool) => some r8 else some false) else some false) else (r5Apply_t n a1 a2).bind fun (r9 : (List (List UInt8 × (List UInt8))) × (Int)) => (sBegin_t n r7.1 a2).bind fun (r10 : (List ((Bool) × (List UInt8 × (List UInt8)))) × (Int)) => (sUndo_t n r7.1).bind fun (r11 : (List ((Bool) × (List UInt8 × (List UInt8)))) × (Int)) => (r5Apply_t n r7.1 r11.1).bind fun (r12 : (List (List UInt8 × (List UInt8))) × (Int)) => (bif !decide (r9.2 = (0 : Int)) then some false else (bif !decide (r10.2 = (14 : Int)) then some false else (bif !decide (r11.2 = (0 : Int)) then some false else (bif !decide (r12.2 = (0 : Int)) then some false else (r5Same_t n r12.1 a1).bind fun (r13 : Bool) => (bif !r13 then some false else (sSeen_t r7.1).bind fun (r14 : List (List UInt8 × (List UInt8))) => (r5Same_t n r14 a1).bind fun (r15 : Bool) => (bif !r15 then some false else (sFinish_t n r7.1).bind fun (r16 : (List ((Bool) × (List UInt8 × (List UInt8)))) × (Int)) => (bif !decide (r16.2 = (0 : Int)) then (bif decide (r16.2 = (3 : Int)) then (bif decide (((List.length r16.1 : Nat) : Int) = (0 : Int)) then (l20live_t n ).bind fun (r17 : Bool) => some r17 else some false) else some false) else (r5Apply_t n r7.1 r16.1).bind fun (r18 : (List (List UInt8 × (List UInt8))) × (Int)) => (bif decide (r18.2 = (0 : Int)) then (r5Same_t n r18.1 r9.1).bind fun (r19 : Bool) => (bif r19 then (sAllowed_t n r7.1 []).bind fun (r20 : Int) => (bif decide (r20 = (14 : Int)) then (l20live_t n ).bind fun (r21 : Bool) => some r21 else some false) else some false) else some false))))))))))))
def l20Ends_fc (n : Nat) : FC := { f := 4, args := [.one (.c (.d (.lst (.prod .str .str)))), .one (.c (.d (.lst (.prod .bool (.prod .str .str)))))], res := .one (.c (.d .bool)), F := fun p => l20Ends_t n p.1 p.2 }
def l20Ends_ct (n : Nat) : List FC := [r5Small_fc n, l20live_fc n, r5Few_fc n, sBegin_fc n, r5Apply_fc n, sUndo_fc n, r5Same_fc n, sSeen_fc, sFinish_fc n, sAllowed_fc n]
theorem l20Ends_ctok (n : Nat) {G : World → Prop} (hG : Know Inv G) : ∀ c ∈ l20Ends_ct n, FCok Tryd.prog G c ∧ noTup c.args = true := List.forall_mem_cons.2 ⟨r5Small_ok n G hG, List.forall_mem_cons.2 ⟨l20live_ok n G hG, List.forall_mem_cons.2 ⟨r5Few_ok n G hG, List.forall_mem_cons.2 ⟨sBegin_ok n G hG, List.forall_mem_cons.2 ⟨r5Apply_ok n G hG, List.forall_mem_cons.2 ⟨sUndo_ok n G hG, List.forall_mem_cons.2 ⟨r5Same_ok n G hG, List.forall_mem_cons.2 ⟨sSeen_ok G hG, List.forall_mem_cons.2 ⟨sFinish_ok n G hG, List.forall_mem_cons.2 ⟨sAllowed_ok n G hG, (fun _ h => by cases h)⟩⟩⟩⟩⟩⟩⟩⟩⟩⟩
def l20Ends_dh : Hints := []
theorem l20Ends_dr : drB l20Ends_dh (bodyOf Tryd.f4) = true := by kernel_rfl
theorem l20Ends_eq (n : Nat) : ∀ a, (l20Ends_fc n).F a = main Tryd.prog 150 (l20Ends_ct n) (l20Ends_lts n) l20Ends_dh (bodyOf Tryd.f4) [.tmp 4] (l20Ends_fc n).args (l20Ends_fc n).res a := by intro a; kernel_rfl
theorem l20Ends_ok (n : Nat) : FCall Inv Tryd.prog (l20Ends_fc n) := fun G hG => ⟨⟨by kernel_rfl, fun a r h => main_ok (c := bodyOf Tryd.f4) Tryd.func4 (by kernel_rfl) (by kernel_rfl) (Nat.le_of_ble_eq_true (by kernel_rfl)) hG.st (by kernel_rfl) (rs := [.tmp 4]) (by kernel_rfl) (l20Ends_ctok n hG) (lts := l20Ends_lts n) (fun F hF hFG => have hK : Know Inv F.G := hFG ▸ hG; (lok_of fun j L h1 h2 h3 => absurd h2 (Nat.not_lt.2 (Nat.le_trans (by decide +kernel) h1)))) l20Ends_dr ((l20Ends_eq n a).symm.trans h)⟩, rfl⟩
/-! armada/armadalaw20.StageKeeps -/
def l20Keeps_lts (n : Nat) : List LC := []
def l20Keeps_t (n : Nat) (a1 : List (List UInt8 × (List UInt8))) (a2 : List ((Bool) × (List UInt8 × (List UInt8)))) : Option (Bool) :=
  (r5Small_t n a1).bind fun (r1 : Bool) => (bif !r1 then (l20live_t n ).bind fun (r2 : Bool) => some r2 else (r5Few_t n a2).bind fun (r3 : Bool) => (bif !r3 then (l20live_t n ).bind fun (r4 : Bool) => some r4 else (sAllowed_t n a1 a2).bind fun (r5 : Int) => (sPending_t n a1).bind fun (r6 : (List ((Bool) × (List UInt8 × (List UInt8)))) × (Int)) => (bif decide (r5 = (0 : Int)) then (r5Apply_t n a1 a2).bind fun (r7 : (List (List UInt8 × (List UInt8))) × (Int)) => (sPending_t n r7.1).bind fun (r8 : (List ((Bool) × (List UInt8 × (List UInt8)))) × (Int)) => (bif decide (r6.2 = (5 : Int)) then (bif decide (r7.2 = (0 : Int)) then (bif decide (r8.2 = (5 : Int)) then (sSeen_t r7.1).bind fun (r9 : List (List UInt8 × (List UInt8))) => (r5Same_t n r9 r7.1).bind fun (r10 : Bool) => (bif r10 then (l20live_t n ).bind fun (r11 : Bool) => some r11 else some false) else some false) else some false) else some false) else (r5Get_t n a1 ([46, 105, 110, 116, 101, 110, 116] : List UInt8)).bind fun (r12 : (List UInt8) × (Bool)) => (bif !r12.2 then (bif !decide (r5 = (14 : Int)) then (l20live_t n ).bind fun (r13 : Bool) => some r13 else (bif r12.2 then (l20live_t n ).bind fun (r14 : Bool) => some r14 else some false)) else (r5May_t n a1).bind fun (r15 : Bool) => (bif !r15 then (bif !decide (r5 = (14 : Int)) then (l20live_t n ).bind fun (r16 : Bool) => some r16 else (bif r12.2 then (l20live_t n ).bind fun (r17 : Bool) => some r17 else some false)) else (bif decide (r5 = (14 : Int)) then (bif !decide (r5 = (14 : Int)) then (l20live_t n ).bind fun (r18 : Bool) => some r18 else (bif r12.2 then (l20live_t n ).bind fun (r19 : Bool) => some r19 else some false)) else some false))))))
def l20Keeps_fc (n : Nat) : FC := { f := 5, args := [.one (.c (.d (.lst (.prod .str .str)))), .one (.c (.d (.lst (.prod .bool (.prod .str .str)))))], res := .one (.c (.d .bool)), F := fun p => l20Keeps_t n p.1 p.2 }
def l20Keeps_ct (n : Nat) : List FC := [r5Small_fc n, l20live_fc n, r5Few_fc n, sAllowed_fc n, sPending_fc n, r5Apply_fc n, sSeen_fc, r5Same_fc n, r5Get_fc n, r5May_fc n]
theorem l20Keeps_ctok (n : Nat) {G : World → Prop} (hG : Know Inv G) : ∀ c ∈ l20Keeps_ct n, FCok Tryd.prog G c ∧ noTup c.args = true := List.forall_mem_cons.2 ⟨r5Small_ok n G hG, List.forall_mem_cons.2 ⟨l20live_ok n G hG, List.forall_mem_cons.2 ⟨r5Few_ok n G hG, List.forall_mem_cons.2 ⟨sAllowed_ok n G hG, List.forall_mem_cons.2 ⟨sPending_ok n G hG, List.forall_mem_cons.2 ⟨r5Apply_ok n G hG, List.forall_mem_cons.2 ⟨sSeen_ok G hG, List.forall_mem_cons.2 ⟨r5Same_ok n G hG, List.forall_mem_cons.2 ⟨r5Get_ok n G hG, List.forall_mem_cons.2 ⟨r5May_ok n G hG, (fun _ h => by cases h)⟩⟩⟩⟩⟩⟩⟩⟩⟩⟩
def l20Keeps_dh : Hints := []
theorem l20Keeps_dr : drB l20Keeps_dh (bodyOf Tryd.f5) = true := by kernel_rfl
theorem l20Keeps_eq (n : Nat) : ∀ a, (l20Keeps_fc n).F a = main Tryd.prog 89 (l20Keeps_ct n) (l20Keeps_lts n) l20Keeps_dh (bodyOf Tryd.f5) [.tmp 4] (l20Keeps_fc n).args (l20Keeps_fc n).res a := by intro a; kernel_rfl
theorem l20Keeps_ok (n : Nat) : FCall Inv Tryd.prog (l20Keeps_fc n) := fun G hG => ⟨⟨by kernel_rfl, fun a r h => main_ok (c := bodyOf Tryd.f5) Tryd.func5 (by kernel_rfl) (by kernel_rfl) (Nat.le_of_ble_eq_true (by kernel_rfl)) hG.st (by kernel_rfl) (rs := [.tmp 4]) (by kernel_rfl) (l20Keeps_ctok n hG) (lts := l20Keeps_lts n) (fun F hF hFG => have hK : Know Inv F.G := hFG ▸ hG; (lok_of fun j L h1 h2 h3 => absurd h2 (Nat.not_lt.2 (Nat.le_trans (by decide +kernel) h1)))) l20Keeps_dr ((l20Keeps_eq n a).symm.trans h)⟩, rfl⟩
/-! armada/armadalaw20.StagePlain -/
def l20Plain_lts (n : Nat) : List LC := []
def l20Plain_t (n : Nat) (a1 : List (List UInt8 × (List UInt8))) (a2 : List ((Bool) × (List UInt8 × (List UInt8)))) : Option (Bool) :=
  (r5Small_t n a1).bind fun (r1 : Bool) => (bif !r1 then (l20live_t n ).bind fun (r2 : Bool) => some r2 else (r5Few_t n a2).bind fun (r3 : Bool) => (bif !r3 then (l20live_t n ).bind fun (r4 : Bool) => some r4 else (bif decide ((39 : Int) < ((List.length a1 : Nat) : Int)) then (l20live_t n ).bind fun (r5 : Bool) => some r5 else (sBegin_t n a1 a2).bind fun (r6 : (List ((Bool) × (List UInt8 × (List UInt8)))) × (Int)) => (bif !decide (r6.2 = (0 : Int)) then (bif !decide (r6.2 = (0 : Int)) then (bif decide (((List.length r6.1 : Nat) : Int) = (0 : Int)) then (l20live_t n ).bind fun (r7 : Bool) => some r7 else some false) else some false) else (bif !decide (((List.length r6.1 : Nat) : Int) = (1 : Int)) then (bif !decide (r6.2 = (0 : Int)) then (bif decide (((List.length r6.1 : Nat) : Int) = (0 : Int)) then (l20live_t n ).bind fun (r8 : Bool) => some r8 else some false) else some false) else (r5Apply_t n a1 r6.1).bind fun (r9 : (List (List UInt8 × (List UInt8))) × (Int)) => (sPending_t n r9.1).bind fun (r10 : (List ((Bool) × (List UInt8 × (List UInt8)))) × (Int)) => (sUndo_t n r9.1).bind fun (r11 : (List ((Bool) × (List UInt8 × (List UInt8)))) × (Int)) => (bif !decide (r9.2 = (0 : Int)) then some false else (bif !decide (r10.2 = (0 : Int)) then some false else (bif !decide (r11.2 = (0 : Int)) then some false else (r5Ops_t n r10.1 a2).bind fun (r12 : Bool) => (bif !r12 then some false else (bif !decide (((List.length r11.1 : Nat) : Int) = (1 : Int)) then some false else (idxL r11.1 (0 : Int)).bind fun (x13 : (Bool) × (List UInt8 × (List UInt8))) => (idxL r6.1 (0 : Int)).bind fun (x14 : (Bool) × (List UInt8 × (List UInt8))) => (bif !decide (x13.2.1 = x14.2.1) then some false else (idxL r11.1 (0 : Int)).bind fun (x15 : (Bool) × (List UInt8 × (List UInt8))) => (bif !x15.1 then some false else (sFinish_t n r9.1).bind fun (r16 : (List ((Bool) × (List UInt8 × (List UInt8)))) × (Int)) => (bif !decide (r16.2 = (0 : Int)) then (bif decide (r16.2 = (3 : Int)) then (l20live_t n ).bind fun (r17 : Bool) => some r17 else some false) else letO (IntKind.wrap .i64 (((List.length a2 : Nat) : Int) + (1 : Int))) fun (n18 : Int) => (bif decide (((List.length r16.1 : Nat) : Int) = n18) then (subO r16.1 (0 : Int) ((List.length a2 : Nat) : Int)).bind fun (s19 : List ((Bool) × (List UInt8 × (List UInt8)))) => (r5Ops_t n s19 a2).bind fun (r20 : Bool) => (bif r20 then (idxL r16.1 ((List.length a2 : Nat) : Int)).bind fun (x21 : (Bool) × (List UInt8 × (List UInt8))) => (idxL r11.1 (0 : Int)).bind fun (x22 : (Bool) × (List UInt8 × (List UInt8))) => (bif (decide (x21.1 = x22.1) && (decide (x21.2.1 = x22.2.1) && (decide (x21.2.2 = x22.2.2) && true))) then (l20live_t n ).bind fun (r23 : Bool) => some r23 else some false) else some false) else some false))))))))))))))
def l20Plain_fc (n : Nat) : FC := { f := 6, args := [.one (.c (.d (.lst (.prod .str .str)))), .one (.c (.d (.lst (.prod .bool (.prod .str .str)))))], res := .one (.c (.d .bool)), F := fun p => l20Plain_t n p.1 p.2 }
def l20Plain_ct (n : Nat) : List FC := [r5Small_fc n, l20live_fc n, r5Few_fc n, sBegin_fc n, r5Apply_fc n, sPending_fc n, sUndo_fc n, r5Ops_fc n, sFinish_fc n]
theorem l20Plain_ctok (n : Nat) {G : World → Prop} (hG : Know Inv G) : ∀ c ∈ l20Plain_ct n, FCok Tryd.prog G c ∧ noTup c.args = true := List.forall_mem_cons.2 ⟨r5Small_ok n G hG, List.forall_mem_cons.2 ⟨l20live_ok n G hG, List.forall_mem_cons.2 ⟨r5Few_ok n G hG, List.forall_mem_cons.2 ⟨sBegin_ok n G hG, List.forall_mem_cons.2 ⟨r5Apply_ok n G hG, List.forall_mem_cons.2 ⟨sPending_ok n G hG, List.forall_mem_cons.2 ⟨sUndo_ok n G hG, List.forall_mem_cons.2 ⟨r5Ops_ok n G hG, List.forall_mem_cons.2 ⟨sFinish_ok n G hG, (fun _ h => by cases h)⟩⟩⟩⟩⟩⟩⟩⟩⟩
def l20Plain_dh : Hints := [(9, [⟨154266052248863066452028360864751609842131487403148112205709312, 25711008708143844408671393477458601640355247900524685364822016, 0⟩, ⟨1259839426699048376024898280395471480377407147125709582876278784, 205688069665150755269371147819668813122841983204197482918576128, 1⟩, ⟨10078715413592387008199186243163771843019257177005676663010230272, 1645504557321206042154969182557350504982735865633579863348609024, 3⟩, ⟨80629723308739096065593489945310174744154057416045413305155584000, 13164036458569648337239753460458804039861886925068638906788872192, 7⟩, ⟨646683291027233974566902888745038748458215195193996886296003346432, 105312291668557186697918027683670432318895095400549111254310977536, 15⟩, ⟨5161947796316623354240138325682408534130842410492540031324586508288, 842498333348457493583344221469363458551160763204392890034487820288, 31⟩, ⟨41282418334074417185583866851998809469006877397015251611689903194112, 6739986666787659948666753771754907668409286105635143120275902562304, 63⟩, ⟨330259346672595337484670934815990475752055019176122012893587945029632, 53919893334301279589334030174039261347274288845081144962207220498432, 127⟩, ⟨2648814760047550359826034232299678713684849439514611246268429706985472, 431359146674410236714672241392314090778194310760649159697657763987456, 255⟩, ⟨21143338173712889258967606581995145355799930513377443968305506337947648, 3450873173395281893717377931138512726225554486085193277581262111899648, 511⟩, ⟨169092785496368812792151518625787123585052169818174470601481843483082752, 27606985387162255149739023449108101809804435888681546220650096895197184, 1023⟩, ⟨1352742283970950502337212149006296988680417358545395764811854747998879744, 220855883097298041197912187592864814478435487109452369765200775161577472, 2047⟩, ⟨10628689374057468232649524027906619196774707817142395294950287304650915848, 1766847064778384329583297500742918515827483896875618958121606201292619776, 2047⟩, ⟨86823969042625292445929228747444980191834950869903462863944554735395143680, 14134776518227074636666380005943348126619871175004951664972849610340958208, 8191⟩, ⟨692631656378513819451802359314673166306183492011131313129890281003602149376, 113078212145816597093331040047546785012958969400039613319782796882727665664, 16383⟩, ⟨5540860002130400419828370701353241573736799305037829734215577697350550814720, 904625697166532776746648320380374280103671755200316906558262375061821325312, 32767⟩, ⟨44326659161160106060585767698638339725079916004815528421354856378029244940288, 7237005577332262213973186563042994240829374041602535252466099000494570602496, 65535⟩, ⟨354613273289280848484686141589106717800639328038524227370838851024242549456896, 57896044618658097711785492504343953926634992332820282019728792003956564819968, 131071⟩, ⟨2844143191891579050091462319275896736645943998349796354219176907194366246780928, 463168356949264781694283940034751631413079938662562256157830336031652518559744, 262143⟩, ⟨22702486496091306565233886248265872933481746368507153086986152564551467980029952, 3705346855594118253554271520278013051304639509300498049262642688253220148477952, 524287⟩, ⟨181569232929689126686373277680185682508168165329766006949121957823408281846022144, 29642774844752946028434172162224104410437116074403984394101141506025761187823616, 1048575⟩, ⟨1452495967392894355393274435948981116111418687645795235310955933795262298203357184, 237142198758023568227473377297792835283496928595231875152809132048206089502588928, 2097151⟩, ⟨11619967739143154843146195487591848928891349501166361882487647470362098394216792064, 1897137590064188545819787018382342682267975428761855001222473056385648716020711424, 4194303⟩, ⟨93196884111903262313397037278032584266414292937926126935053988894944993174517448704, 15177100720513508366558296147058741458143803430094840009779784451085189728165691392, 8388607⟩, ⟨743915077503919933529583984583176124284329865003242392354362247235222502769621467136, 121416805764108066932466369176469931665150427440758720078238275608681517825325531136, 16777215⟩, ⟨5949660624640053303259079563024324444427654441525772515708828313957442579530453614592, 971334446112864535459730953411759453321203419526069760625906204869452142602604249088, 33554431⟩, ⟨46624290555616255725635313237141751552253047634179943741918650642865751051014506577920, 7770675568902916283677847627294075626569627356208558085007249638955617140820833992704, 4194303⟩, ⟨380763340018441655923782761210787003494747023951147941397230385117957288106310368231424, 62165404551223330269422781018352605012557018849668464680057997111644937126566671941632, 71303167⟩, ⟨3046105060152141941225284497372654943408129207130683364554717011279733967407856427728896, 497323236409786642155382248146820840100456150797347717440463976893159497012533375533056, 205520895⟩, ⟨24368838821221744223637298386667598462715186672566966749814610020573947401820224903708672, 3978585891278293137243057985174566720803649206378781739523711815145275976100267004264448, 473956351⟩, ⟨194951680244224675347468869231980558376624967599476759901654380001132524329261775315795968, 31828687130226345097944463881396533766429193651030253916189694521162207808802136034115584, 1073741823⟩, ⟨1559605669618233108557302298415903531852823324183979370488526906689757314679510755174252544, 254629497041810760783555711051172270131433549208242031329517556169297662470417088272924672, 2147483647⟩, ⟨12476845355048727278394229841507441236440243911203859535146360252295585461050437325373308928, 2037035976334486086268445688409378161051468393665936250636140449354381299763336706183397376, 4294967295⟩, ⟨99814762840389818227153838732059529891521951289630876281170882018364683688403498611576406016, 16296287810675888690147565507275025288411747149327490005089123594835050398106693649467179008, 8589934591⟩, ⟨800555138699453031903499155544885617293227078710712946500003196596271850806991325530075168768, 130370302485407109521180524058200202307293977194619920040712988758680403184853549195737432064, 17179869183⟩, ⟨6390181857761282852624114124540219291218456350930042018245572589624694137357587247297317568512, 1042962419883256876169444192465601618458351817556959360325703910069443225478828393565899456512, 34359738367⟩, ⟨51107195610255921418389033876502888682620290528684674592210127733852072429762354621435256766464, 8343699359066055009355553539724812947666814540455674882605631280555545803830627148527195652096, 68719476735⟩, ⟨408843305630213029944508391892204243813834963950721735183926568887671098769000493614538770350080, 66749594872528440074844428317798503581334516323645399060845050244444366430645017188217565216768, 137438953471⟩, ⟨3270732185789869898153463256017815084863552351327018219917658098118223309482905605559366879019008, 533996758980227520598755426542388028650676130589163192486760401955554931445160137505740521734144, 274877906943⟩]), (14, [⟨1761406937080374920917110447592002770531761911681239903030468228649156768835956332597774248788577077029765120, 293567822846729153486185074598667128421960318613539983838411371441526128139326055432962374798096087878991872, 0⟩, ⟨14384823319489728520823068655334689292676055612063459208082157200634780278826976716215156365106708306070601728, 2348542582773833227889480596789337027375682548908319870707290971532209025114608443463698998384768703031934976, 1⟩, ⟨112730043973143994938695068645888177314032762347599353793949966633546033205501205286257551922468897745532878856, 18788340662190665823115844774314696219005460391266558965658327772257672200916867547709591987078149624255479808, 0⟩, ⟨920628692447342625332676393941420114731267559172061389317258060840625937844926509837770007366829331588518510592, 150306725297525326584926758194517569752043683130132471725266622178061377607334940381676735896625196994043838464, 4⟩, ⟨7365029539578741002661411151531360917850140473376491114538064486725007502759412078702160058934634652708148084736, 1202453802380202612679414065556140558016349465041059773802132977424491020858679523053413887173001575952350707712, 12⟩, ⟨58922584859212701854519178692847676679828499469560837236175223184771592231100411238060744170475461990368216612864, 9619630419041620901435312524449124464130795720328478190417063819395928166869436184427311097384012607618805661696, 31⟩, ⟨471361890533039424170330313698007098742408990296095431330436127150400480176602373036938243771816617773321477423104, 76957043352332967211482500195592995713046365762627825523336510555167425334955489475418488779072100860950445293568, 63⟩, ⟨3770895124264315393362642509584056789939271922368763450643489017203203841412818984295505950174532942187121575198720, 615656346818663737691860001564743965704370926101022604186692084441339402679643915803347910232576806887603562348544, 127⟩, ⟨29628461690648192376420762575303303349522850818611712826484556563739458753957863448036118179942758831465921438023688, 4925250774549309901534880012517951725634967408808180833493536675530715221437151326426783281860614455100828498788352, 127⟩, ⟨241414244996268518142420603113575227551826449397363488666706633611560213275755370484387799299949180400801546885922816, 39402006196394479212279040100143613805079739270465446667948293404245721771497210611414266254884915640806627990306816, 383⟩, ⟨1931390917013500478106576307408797413410324641544670537159176405403036873631377919364577812888372515307273325532676096, 315216049571155833698232320801148910440637914163723573343586347233965774171977684891314130039079325126453023922454528, 1023⟩, ⟨15130447336458832350482362880955343294146332926224494148317668003740912327680263830272553660364586678170606098723110920, 2521728396569246669585858566409191283525103313309788586748690777871726193375821479130513040312634601011624191379636224, 127⟩, ⟨123879984438507594976372513557351717396166413312709126951854957799459104417012565117775928523846953846796899351969923072, 20173827172553973356686868531273530268200826506478308693989526222973809547006571833044104322501076808092993531037089792, 4095⟩, ⟨988517608412188046810623769514903178734836211863802888633312308262227222970747354774650587221041542668657543971262693376, 161390617380431786853494948250188242145606612051826469551916209783790476376052574664352834580008614464743948248296718336, 8191⟩, ⟨7908140251641157555821252464259223865134723990539497008043894279405733342426576158553288894420422108772453464166539198464, 1291124939043454294827959586001505937164852896414611756415329678270323811008420597314822676640068915717951585986373746688, 16383⟩, ⟨63265122013129260446570019714073790921077791924315976064351154235245866739412609268426311155363376870179627713882069401600, 10328999512347634358623676688012047497318823171316894051322637426162590488067364778518581413120551325743612687890989973504, 32767⟩, ⟨497083101531729903508764440610579785808468365119625526219901926134074667238241929966206730506426532551411360604753892474888, 82631996098781074868989413504096379978550585370535152410581099409300723904538918228148651304964410605948901503127919788032, 32767⟩, ⟨4050258933779316122875309221286724124886143536052637079874889200734005795133415413776598736619896188607214125239254443360256, 661055968790248598951915308032771039828404682964281219284648795274405791236311345825189210439715284847591212025023358304256, 98303⟩, ⟨32403362595173572437297301729879794505026313141317511250755528935550316684878331730810104715635809577773430953500021920628736, 5288447750321988791615322464262168318627237463714249754277190362195246329890490766601513683517722278780729696200186866434048, 262143⟩, ⟨259135230890716494243445628708432249118671800574894652571338743077245340488445055984071485315045031729171473065395142829015040, 42307582002575910332922579714097346549017899709713998034217522897561970639123926132812109468141778230245837569601494931472384, 524287⟩, ⟨2030765227248582739434578654236258635858796350919168320254197514412652861001759462795578569293481995120715921292457751674355712, 338460656020607282663380637712778772392143197677711984273740183180495765112991409062496875745134225841966700556811959451779072, 32767⟩, ⟨16584573436134695893959946075885745848720953851060783644025025391173970760860390052482944226334253706325284045235371999510921216, 2707685248164858261307045101702230179137145581421695874189921465443966120903931272499975005961073806735733604454495675614232576, 1081343⟩, ⟨132676578451202993847499504811368864779226070654515994249917908222084018194616443360919372606915293170119862336221874091471142912, 21661481985318866090456360813617841433097164651373566993519371723551728967231450179999800047688590453885868835635965404913860608, 3178495⟩, ⟨1061454926153751953386148897274947913569816022981867393095095188392261959635303993754543611761031750658706734501683492322084388864, 173291855882550928723650886508942731464777317210988535948154973788413831737851601439998400381508723631086950685087723239310884864, 8388607⟩, ⟨8491300939536120446502347733766153427775594480503291157874205472047607433425052281568342216008750134563329499287250024712607105024, 1386334847060407429789207092071541851718218537687908287585239790307310653902812811519987203052069789048695605480701785914487078912, 16777215⟩, ⟨67930407505959964059671147511505550734192708346707506091676749725058222041237827764479372949551419663386084668554387509809866866688, 11090678776483259438313656736572334813745748301503266300681918322458485231222502492159897624416558312389564843845614287315896631296, 33554431⟩, ⟨543443260047679712477369180092044405873541666773660048733413997800465776329902622115834983596411357307088677348435100078478934933504, 88725430211866075506509253892578678509965986412026130405455346579667881849780019937279180995332466499116518750764914298527173050368, 67108863⟩, ⟨4358636759157920959257267097472927581802079082490783656167993900726184695870443479418839766395707416769098983631326414915147376099328, 709803441694928604052074031140629428079727891296209043243642772637343054798240159498233447962659731992932150006119314388217384402944, 134217727⟩, ⟨709803441694928604052074031140629428079727891296209043243642772637343054798240159498233447962659731992932150006119314388217384427520, 4096, 268435455⟩])]
theorem l20Plain_dr : drB l20Plain_dh (bodyOf Tryd.f6) = true := by kernel_rfl
theorem l20Plain_eq (n : Nat) : ∀ a, (l20Plain_fc n).F a = main Tryd.prog 147 (l20Plain_ct n) (l20Plain_lts n) l20Plain_dh (bodyOf Tryd.f6) [.tmp 4] (l20Plain_fc n).args (l20Plain_fc n).res a := by intro a; kernel_rfl
theorem l20Plain_ok (n : Nat) : FCall Inv Tryd.prog (l20Plain_fc n) := fun G hG => ⟨⟨by kernel_rfl, fun a r h => main_ok (c := bodyOf Tryd.f6) Tryd.func6 (by kernel_rfl) (by kernel_rfl) (Nat.le_of_ble_eq_true (by kernel_rfl)) hG.st (by kernel_rfl) (rs := [.tmp 4]) (by kernel_rfl) (l20Plain_ctok n hG) (lts := l20Plain_lts n) (fun F hF hFG => have hK : Know Inv F.G := hFG ▸ hG; (lok_of fun j L h1 h2 h3 => absurd h2 (Nat.not_lt.2 (Nat.le_trans (by decide +kernel) h1)))) l20Plain_dr ((l20Plain_eq n a).symm.trans h)⟩, rfl⟩
end Go.Proofs.YtaglhmoldbndkaaDoor.AM
