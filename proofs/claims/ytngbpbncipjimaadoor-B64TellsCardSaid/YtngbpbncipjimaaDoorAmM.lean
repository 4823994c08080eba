/- Regions whose order is drawn: operations that do not touch one another's places may go in any order. -/
import Derived.Test.YtngbpbncipjimaaDoorAmN
namespace Go.Proofs.YtngbpbncipjimaaDoor.AM
open Go.RowKit
set_option linter.unusedVariables false
set_option linter.unusedSimpArgs false
variable {F : Fr} {σ σ' : St} {e : Env} {a : Act} {w : World} {P : Program}

inductive Loc where
  | s (i : Nat)
  | b (i : Nat)
  | r (i : Nat)
deriving DecidableEq
inductive LV where
  | s (d : D)
  | b (x : Option (Nat × List C))
  | r (x : Option Row)
def St.get (σ : St) : Loc → LV
  | .s i => .s (σ.slot i)
  | .b i => .b (σ.box i)
  | .r i => .r (σ.row i)
theorem St.ext' (h : ∀ l, σ.get l = σ'.get l) : σ = σ' := by
  obtain ⟨s1, b1, r1⟩ := σ
  obtain ⟨s2, b2, r2⟩ := σ'
  have h1 : s1 = s2 := funext fun i => by have := h (.s i); simpa [St.get] using this
  have h2 : b1 = b2 := funext fun i => by have := h (.b i); simpa [St.get] using this
  have h3 : r1 = r2 := funext fun i => by have := h (.r i); simpa [St.get] using this
  rw [h1, h2, h3]
/-- what an operation reads, and what it writes -/
structure En where
  reads : List Loc
  dst : Option Nat
  res : Res
def En.app (en : En) (σ : St) : St := (σ.app en.res).put en.dst en.res.val
def En.val (en : En) : Loc → Option LV
  | .s i => if en.dst = some i then some (.s en.res.val) else none
  | .b i => match en.res.box with
    | some (j, x) => if j = i then some (.b (some x)) else none
    | none => none
  | .r i => match en.res.row with
    | some (j, x) => if j = i then some (.r (some x)) else none
    | none => none
theorem get_app (en : En) (σ : St) (l : Loc) : (en.app σ).get l = (en.val l).getD (σ.get l) := by
  obtain ⟨rd, dst, c, v, bx, rw⟩ := en
  cases l with
  | s i =>
    cases dst with
    | none => simp [En.app, En.val, St.put, St.get, St.app]
    | some k =>
      by_cases hk : k = i
      · subst hk; simp [En.app, En.val, St.put, St.get, St.app, upd]
      · have : ¬ i = k := fun h => hk h.symm
        simp [En.app, En.val, St.put, St.get, St.app, upd, hk, this]
  | b i =>
    have hp : ∀ (σ : St), (σ.put dst v).box = σ.box := fun σ => by cases dst <;> rfl
    cases bx with
    | none => simp [En.app, En.val, St.get, hp, St.app]
    | some p =>
      obtain ⟨k, x⟩ := p
      by_cases hk : k = i
      · subst hk; simp [En.app, En.val, St.get, hp, St.app, upd]
      · have : ¬ i = k := fun h => hk h.symm
        simp [En.app, En.val, St.get, hp, St.app, upd, hk, this]
  | r i =>
    have hp : ∀ (σ : St), (σ.put dst v).row = σ.row := fun σ => by cases dst <;> rfl
    cases rw with
    | none => simp [En.app, En.val, St.get, hp, St.app]
    | some p =>
      obtain ⟨k, x⟩ := p
      by_cases hk : k = i
      · subst hk; simp [En.app, En.val, St.get, hp, St.app, upd]
      · have : ¬ i = k := fun h => hk h.symm
        simp [En.app, En.val, St.get, hp, St.app, upd, hk, this]
/-- the state behind those operations that S tells -/
def stS : List En → (Nat → Bool) → Nat → St → St
  | [], _, _, σ => σ
  | en :: es, S, k, σ => stS es S (k + 1) (if S k then en.app σ else σ)
theorem get_congr {l : Loc} : ∀ (es : List En) (S S' : Nat → Bool) (k : Nat) (σ σ' : St), (∀ i en, es[i]? = some en → (en.val l).isSome = true → S (k + i) = S' (k + i)) → σ.get l = σ'.get l → (stS es S k σ).get l = (stS es S' k σ').get l
  | [], _, _, _, _, _, _, h => h
  | en :: es, S, S', k, σ, σ', hw, h => by
    refine get_congr es S S' (k + 1) _ _ (fun i en' he hv => by have := hw (i + 1) en' (by simpa using he) hv; rwa [show k + (i + 1) = k + 1 + i from by omega] at this) ?_
    cases hv : en.val l with
    | none =>
      have e1 : ∀ σ : St, (en.app σ).get l = σ.get l := fun σ => by rw [get_app, hv]; rfl
      split <;> split <;> first | (simp only [e1]; exact h) | exact h
    | some v =>
      have := hw 0 en rfl (by rw [hv]; rfl)
      rw [Nat.add_zero] at this
      have e1 : ∀ σ : St, (en.app σ).get l = v := fun σ => by rw [get_app, hv]; rfl
      rw [← this]
      split
      · rw [e1, e1]
      · exact h
theorem get_none {l : Loc} : ∀ (es : List En) (S : Nat → Bool) (k : Nat) (σ : St), (∀ i en, es[i]? = some en → (en.val l).isSome = true → S (k + i) = false) → (stS es S k σ).get l = σ.get l
  | [], _, _, _, _ => rfl
  | en :: es, S, k, σ, hw => by
    show (stS es S (k + 1) _).get l = _
    rw [get_none es S (k + 1) _ (fun i en' he hv => by have := hw (i + 1) en' (by simpa using he) hv; rwa [show k + (i + 1) = k + 1 + i from by omega] at this)]
    cases hv : en.val l with
    | none => split <;> first | rfl | (rw [get_app, hv]; rfl)
    | some v =>
      have := hw 0 en rfl (by rw [hv]; rfl)
      rw [Nat.add_zero] at this
      rw [this]; rfl
theorem get_last {l : Loc} {v : LV} : ∀ (es : List En) (S : Nat → Bool) (k j : Nat) (σ : St) (en : En), es[j]? = some en → en.val l = some v → S (k + j) = true → (∀ i en', j < i → es[i]? = some en' → (en'.val l).isSome = true → S (k + i) = false) → (stS es S k σ).get l = v
  | [], _, _, j, _, _, h, _, _, _ => by simp at h
  | en0 :: es, S, k, 0, σ, en, he, hv, hS, hw => by
    obtain rfl : en0 = en := by simpa using he
    rw [Nat.add_zero] at hS
    show (stS es S (k + 1) _).get l = _
    rw [get_none es S (k + 1) _ (fun i en' he' hv' => by have := hw (i + 1) en' (by omega) (by simpa using he') hv'; rwa [show k + (i + 1) = k + 1 + i from by omega] at this), hS, if_pos rfl, get_app, hv]
    rfl
  | en0 :: es, S, k, j + 1, σ, en, he, hv, hS, hw =>
    get_last es S (k + 1) j _ en (by simpa using he) hv (by rwa [show k + 1 + j = k + (j + 1) from by omega]) (fun i en' hi he' hv' => by have := hw (i + 1) en' (by omega) (by simpa using he') hv'; rwa [show k + (i + 1) = k + 1 + i from by omega] at this)

/-! who must go ahead of whom -/
inductive Anc (ops : Array Oper) : Nat → Nat → Prop
  | one {i j : Nat} {o : Oper} {ed : Edge} (ho : ops[j]? = some o) (he : ed ∈ o.after) (hb : Region.binds .any ed = true) (hi : ed.on = i) : Anc ops i j
  | more {i k j : Nat} (h1 : Anc ops i k) (h2 : Anc ops k j) : Anc ops i j
/-- the ancestors of each, as far as they are told -/
def ancs (ops : List Oper) : List (List Nat) → List (List Nat)
  | acc => match ops with
    | [] => acc
    | o :: rest => ancs rest (acc ++ [(o.after.toList.filter fun ed => Region.binds .any ed && decide (ed.on < acc.length)).flatMap fun ed => ed.on :: acc.getD ed.on []])
theorem ancs_ok {ops : Array Oper} : ∀ (rest : List Oper) (acc : List (List Nat)), (∀ j, (rest[j]?) = ops[acc.length + j]?) → (∀ j l, acc[j]? = some l → ∀ i ∈ l, Anc ops i j) → ∀ j l, (ancs rest acc)[j]? = some l → ∀ i ∈ l, Anc ops i j
  | [], acc, _, h => h
  | o :: rest, acc, hr, h => by
    unfold ancs
    refine ancs_ok rest _ (fun j => ?_) ?_
    · have := hr (j + 1)
      simp only [List.getElem?_cons_succ] at this
      rw [this, List.length_append, List.length_singleton]
      congr 1; omega
    · intro j l hl i hi
      have ho : ops[acc.length]? = some o := by have := hr 0; simpa using this.symm
      rcases Nat.lt_or_ge j acc.length with hj | hj
      · rw [List.getElem?_append_left hj] at hl
        exact h j l hl i hi
      · rw [List.getElem?_append_right hj] at hl
        by_cases hj0 : j - acc.length = 0
        · rw [hj0] at hl
          simp only [List.getElem?_cons_zero, Option.some.injEq] at hl
          subst hl
          have hjj : j = acc.length := by omega
          subst hjj
          obtain ⟨ed, hed, hi⟩ := List.mem_flatMap.1 hi
          obtain ⟨hed, hb⟩ := List.mem_filter.1 hed
          simp only [Bool.and_eq_true, decide_eq_true_eq] at hb
          have h1 : Anc ops ed.on acc.length := .one ho (by simpa using hed) hb.1 rfl
          rcases List.mem_cons.1 hi with rfl | hi
          · exact h1
          · have hg : acc[ed.on]? = some (acc.getD ed.on []) := by
              rw [List.getElem?_eq_getElem hb.2]; simp [List.getD, hb.2]
            exact .more (h ed.on _ hg i hi) h1
        · obtain ⟨k, hk⟩ : ∃ k, j - acc.length = k + 1 := ⟨j - acc.length - 1, by omega⟩
          rw [hk] at hl
          simp at hl
def touch (l : List Loc) (en : En) : Bool := l.any fun x => (en.val x).isSome
def wlocs (en : En) : List Loc := (match en.dst with | some i => [Loc.s i] | none => []) ++ (match en.res.box with | some (i, _) => [Loc.b i] | none => []) ++ (match en.res.row with | some (i, _) => [Loc.r i] | none => [])
theorem wlocs_ok {en : En} {l : Loc} (h : (en.val l).isSome = true) : l ∈ wlocs en := by
  obtain ⟨rd, dst, c, v, bx, rw⟩ := en
  cases l with
  | s i =>
    simp only [En.val] at h
    split at h
    · rename_i hd; subst hd; simp [wlocs]
    · cases h
  | b i =>
    simp only [En.val] at h
    split at h
    · split at h
      · rename_i hj; subst hj; simp [wlocs]
      · cases h
    · cases h
  | r i =>
    simp only [En.val] at h
    split at h
    · split at h
      · rename_i hj; subst hj; simp [wlocs]
      · cases h
    · cases h
/-- two operations that touch one another's places: one is ahead of the other -/
def clash (x y : En) : Bool := touch (wlocs x) y || touch x.reads y || touch y.reads x
def pairsOk (an : List (List Nat)) : Nat → List En → List En → Bool
  | _, _, [] => true
  | k, pre, y :: post => (List.range pre.length).all (fun i => !(clash (pre.getD i ⟨[], none, ⟨True, .one (.c .bad), none, none⟩⟩) y) || (an.getD k []).contains i) && pairsOk an (k + 1) (pre ++ [y]) post
def okDraw (ops : Array Oper) (es : List En) : Bool := decide (es.length = ops.size) && pairsOk (ancs ops.toList []) 0 [] es && ops.toList.zipIdx.all (fun p => p.1.after.toList.all fun ed => !Region.binds .any ed || decide (ed.on < p.2))
theorem pairsOk_ok {an : List (List Nat)} : ∀ (post : List En) (k : Nat) (pre : List En), pre.length = k → pairsOk an k pre post = true → ∀ i j x y, i < j → k ≤ j → (pre ++ post)[i]? = some x → (pre ++ post)[j]? = some y → clash x y = true → i ∈ an.getD j []
  | [], k, pre, hk, _, i, j, x, y, hij, hkj, hx, hy, _ => by
    rw [List.append_nil] at hy
    have := (List.getElem?_eq_some_iff.1 hy).1
    omega
  | z :: post, k, pre, hk, h, i, j, x, y, hij, hkj, hx, hy, hc => by
    simp only [pairsOk, Bool.and_eq_true] at h
    by_cases hjk : j = k
    · subst hjk
      have hyz : y = z := by
        rw [List.getElem?_append_right (by omega), show j - pre.length = 0 from by omega] at hy
        simpa using hy.symm
      subst hyz
      have hip : i < pre.length := by omega
      have hxg : pre.getD i ⟨[], none, ⟨True, .one (.c .bad), none, none⟩⟩ = x := by
        rw [List.getElem?_append_left hip] at hx
        simp [List.getD, hx]
      have := List.all_eq_true.1 h.1 i (List.mem_range.2 hip)
      rw [hxg, hc] at this
      simpa using this
    · have e1 : pre ++ z :: post = (pre ++ [z]) ++ post := by simp
      rw [e1] at hx hy
      exact pairsOk_ok post (k + 1) (pre ++ [z]) (by simp [hk]) h.2 i j x y hij (by omega) hx hy hc

/-- the model does the operation in each state that reads alike where the operation reads -/
def EnOk (P : Program) (F : Fr) (ops : Array Oper) (j : Nat) (en : En) (σ : St) : Prop :=
  ∀ σ', (∀ l ∈ en.reads, σ'.get l = σ.get l) → ∀ e a w, R F σ' e a w → ∀ (Qx : Exit → Act → World → Prop) (K : Act → World → Prop), (∀ a' w' e', R F (en.app σ') e' a' w' → K a' w') → wpOp P ops Qx j K a w
def ChainOk (P : Program) (F : Fr) (ops : Array Oper) : Nat → St → List En → Prop
  | _, _, [] => True
  | j, σ, en :: es => EnOk P F ops j en σ ∧ ChainOk P F ops (j + 1) (en.app σ) es
def appAll : List En → St → St
  | [], σ => σ
  | en :: es, σ => appAll es (en.app σ)
theorem stS_all : ∀ (es : List En) (k : Nat) (σ : St), stS es (fun _ => true) k σ = appAll es σ
  | [], _, _ => rfl
  | en :: es, k, σ => stS_all es (k + 1) (en.app σ)
theorem stS_congr : ∀ (es : List En) (S S' : Nat → Bool) (k : Nat) (σ : St), (∀ i, i < es.length → S (k + i) = S' (k + i)) → stS es S k σ = stS es S' k σ
  | [], _, _, _, _, _ => rfl
  | en :: es, S, S', k, σ, h => by
    have h0 := h 0 (by simp)
    rw [Nat.add_zero] at h0
    show stS es S (k + 1) (if S k then _ else _) = stS es S' (k + 1) (if S' k then _ else _)
    rw [h0]
    exact stS_congr es S S' (k + 1) _ (fun i hi => by have := h (i + 1) (by simp; omega); rwa [show k + (i + 1) = k + 1 + i from by omega] at this)
theorem stS_none : ∀ (es : List En) (S : Nat → Bool) (k : Nat) (σ : St), (∀ i, i < es.length → S (k + i) = false) → stS es S k σ = σ
  | [], _, _, _, _ => rfl
  | en :: es, S, k, σ, h => by
    have h0 := h 0 (by simp)
    rw [Nat.add_zero] at h0
    show stS es S (k + 1) (if S k then _ else _) = σ
    rw [h0]
    exact stS_none es S (k + 1) _ (fun i hi => by have := h (i + 1) (by simp; omega); rwa [show k + (i + 1) = k + 1 + i from by omega] at this)
theorem chain_at {ops : Array Oper} : ∀ (es : List En) (k : Nat) (σ : St), ChainOk P F ops k σ es → ∀ (j : Nat) (en : En), es[j]? = some en → EnOk P F ops (k + j) en (stS es (fun i => decide (i < k + j)) k σ)
  | en0 :: es, k, σ, h, 0, en, he => by
    obtain rfl : en0 = en := by simpa using he
    rw [stS_none (en0 :: es) _ k σ (fun i _ => by simp)]
    exact h.1
  | en0 :: es, k, σ, h, j + 1, en, he => by
    have := chain_at es (k + 1) (en0.app σ) h.2 j en (by simpa using he)
    rw [show k + 1 + j = k + (j + 1) from by omega] at this
    show EnOk P F ops (k + (j + 1)) en (stS es _ (k + 1) (if decide (k < k + (j + 1)) then en0.app σ else σ))
    rw [if_pos (by simp)]
    exact this
  | [], _, _, _, _, _, he => by simp at he

theorem count_set : ∀ (l : List Bool) (j : Nat) (hj : j < l.length), l[j] = false → (l.set j true).countP (fun b => !b) + 1 ≤ l.countP (fun b => !b)
  | b :: l, 0, _, h => by
    have hb : b = false := h
    subst hb
    simp
  | b :: l, j + 1, hj, h => by
    have := count_set l j (by simpa using hj) h
    rw [List.set_cons_succ, List.countP_cons, List.countP_cons]
    omega
theorem clash_sym {x y : En} (h : clash x y = true) : clash y x = true := by
  unfold clash at *
  simp only [Bool.or_eq_true] at *
  rcases h with (h | h) | h
  · left; left
    obtain ⟨l, hl, hv⟩ := List.any_eq_true.1 h
    refine List.any_eq_true.2 ⟨l, wlocs_ok hv, ?_⟩
    have : ∀ l ∈ wlocs x, (x.val l).isSome = true := by
      intro l hl
      obtain ⟨rd, dst, c, v, bx, rw⟩ := x
      simp only [wlocs, List.mem_append] at hl
      rcases hl with (hl | hl) | hl
      · cases dst with
        | none => cases hl
        | some i => simp at hl; subst hl; simp [En.val]
      · cases bx with
        | none => cases hl
        | some p => simp at hl; subst hl; simp [En.val]
      · cases rw with
        | none => cases hl
        | some p => simp at hl; subst hl; simp [En.val]
    exact this l hl
  · right; exact h
  · left; right; exact h
theorem acode_draw {id : Nat} {l : List Oper} {Q : Exit → St → Prop} (hm : P.follows .mixedOrders = true) (hn : opsOk F.n l.toArray = true) (es : List En) (hch : ChainOk P F l.toArray 0 σ es) (hok : okDraw l.toArray es = true) (h : Q .normal (appAll es σ)) : ACode P F (.region id l.toArray true) σ Q := by
  intro e a w hR
  unfold okDraw at hok
  simp only [Bool.and_eq_true, decide_eq_true_eq] at hok
  obtain ⟨⟨hlen, hpairs⟩, hdep⟩ := hok
  have hlen' : es.length = l.length := by simpa using hlen
  have hanc : ∀ i j x y, i < j → es[i]? = some x → es[j]? = some y → clash x y = true → Anc l.toArray i j := fun i j x y hij hx hy hc => by
    have h1 := pairsOk_ok es 0 [] rfl hpairs i j x y hij (Nat.zero_le _) (by simpa using hx) (by simpa using hy) hc
    have hj : j < (ancs l.toArray.toList []).length := by
      rcases Nat.lt_or_ge j (ancs l.toArray.toList []).length with h2 | h2
      · exact h2
      · rw [List.getD_eq_getElem?_getD, List.getElem?_eq_none h2] at h1
        simp at h1
    have hg : (ancs l.toArray.toList [])[j]? = some ((ancs l.toArray.toList []).getD j []) := by
      rw [List.getElem?_eq_getElem hj]; simp [List.getD, hj]
    exact ancs_ok (ops := l.toArray) l.toArray.toList [] (fun j => by simp) (fun j l' hl => by simp at hl) j _ hg i h1
  have hdeps : ∀ j o, l.toArray[j]? = some o → ∀ ed ∈ o.after, Region.binds .any ed = true → ed.on < j := fun j o ho ed hed hb => by
    have ho' : l[j]? = some o := by simpa using ho
    have hmem : (o, j) ∈ l.toArray.toList.zipIdx := by
      rw [List.mem_zipIdx_iff_getElem?]; simpa using ho'
    have h1 := List.all_eq_true.1 (List.all_eq_true.1 hdep _ hmem) ed (by simpa using hed)
    simp only [hb, Bool.not_true, Bool.false_or, decide_eq_true_eq] at h1
    exact h1
  let T : Array Bool → Nat → Bool := fun listed i => listed.getD i false
  have closed : ∀ listed : Array Bool, (∀ j o, l.toArray[j]? = some o → listed.getD j false = true → ∀ ed ∈ o.after, Region.binds .any ed = true → listed.getD ed.on false = true) → ∀ i j, Anc l.toArray i j → listed.getD j false = true → listed.getD i false = true := by
    intro listed hc i j han
    induction han with
    | one ho he hb hi => intro hj; subst hi; exact hc _ _ ho hj _ he hb
    | more _ _ ih1 ih2 => intro hj; exact ih1 (ih2 hj)
  have main : ∀ (fuel : Nat) (listed : Array Bool) (a : Act) (w : World), listed.size = l.length → (∀ j o, l.toArray[j]? = some o → listed.getD j false = true → ∀ ed ∈ o.after, Region.binds .any ed = true → listed.getD ed.on false = true) →
      (∃ e, R F (stS es (T listed) 0 σ) e a w) → (listed.toList.countP (fun b => !b) ≤ fuel) →
      wpAny P .any l.toArray (fun ex a' w' => ∃ σ' e', Q ex σ' ∧ R F σ' e' a' w') fuel listed a w := by
    have done : ∀ (listed : Array Bool) (a : Act) (w : World), listed.size = l.length → (∃ e, R F (stS es (T listed) 0 σ) e a w) → Region.ready .any l.toArray listed = [] → ∃ σ' e', Q .normal σ' ∧ R F σ' e' a w := by
      intro listed a w hsz ⟨e, hR⟩ hr
      have hall : ∀ n i, i ≤ n → i < l.length → listed.getD i false = true := by
        intro n
        induction n with
        | zero =>
          intro i hi hil
          obtain rfl : i = 0 := by omega
          refine Classical.byContradiction fun hne => ?_
          have hmem : 0 ∈ Region.ready .any l.toArray listed := mem_ready.2 ⟨by
            have : listed.getD 0 true = listed.getD 0 false := by simp [Array.getD, hsz, hil]
            rw [this]; simpa using hne, l[0], by simp [hil], fun ed hed hb => by have := hdeps 0 l[0] (by simp [hil]) ed hed hb; omega⟩
          rw [hr] at hmem; cases hmem
        | succ n ih =>
          intro i hi hil
          refine Classical.byContradiction fun hne => ?_
          have hmem : i ∈ Region.ready .any l.toArray listed := mem_ready.2 ⟨by
            have : listed.getD i true = listed.getD i false := by simp [Array.getD, hsz, hil]
            rw [this]; simpa using hne, l[i], by simp [hil], fun ed hed hb => by
              have := hdeps i l[i] (by simp [hil]) ed hed hb
              exact ih ed.on (by omega) (by omega)⟩
          rw [hr] at hmem; cases hmem
      have he : stS es (T listed) 0 σ = appAll es σ := by
        rw [← stS_all es 0 σ]
        refine stS_congr es _ _ 0 σ (fun i hi => ?_)
        rw [Nat.zero_add]
        exact hall i i (Nat.le_refl _) (by omega)
      rw [he] at hR
      exact ⟨_, e, h, hR⟩
    intro fuel
    induction fuel with
    | zero =>
      intro listed a w hsz hc hR hcount
      have hr : Region.ready .any l.toArray listed = [] := by
        refine List.eq_nil_iff_forall_not_mem.2 fun i hi => ?_
        obtain ⟨h1, o, ho, _⟩ := mem_ready.1 hi
        have hil : i < listed.size := by rw [hsz]; have := (Array.getElem?_eq_some_iff.1 ho).1; simpa using this
        have h2 : listed[i] = false := by simpa [Array.getD, hil] using h1
        have h3 : 0 < listed.toList.countP (fun b => !b) := List.countP_pos_iff.2 ⟨listed[i], by simp, by simp [h2]⟩
        omega
      exact ⟨hr, done listed a w hsz hR hr⟩
    | succ fuel ih =>
      intro listed a w hsz hc hR hcount
      refine ⟨done listed a w hsz hR, fun j hj => ?_⟩
      obtain ⟨e, hR⟩ := hR
      obtain ⟨h1, o, ho, hdl⟩ := mem_ready.1 hj
      have hjl : j < l.length := by have := (Array.getElem?_eq_some_iff.1 ho).1; simpa using this
      have hjs : j < listed.size := by omega
      have hjf : listed.getD j false = false := by
        have : listed.getD j true = listed.getD j false := by simp [Array.getD, hjs]
        rw [← this]; exact h1
      obtain ⟨en, hen⟩ : ∃ en, es[j]? = some en := ⟨es[j]'(by omega), List.getElem?_eq_getElem (by omega)⟩
      have hup : ∀ i, Anc l.toArray i j → listed.getD i false = true := fun i han => by
        have key : ∀ i j, Anc l.toArray i j → (∀ o, l.toArray[j]? = some o → ∀ ed ∈ o.after, Region.binds .any ed = true → listed.getD ed.on false = true) → listed.getD i false = true := by
          intro i j han
          induction han with
          | one ho he hb hi => intro hh; subst hi; exact hh _ ho _ he hb
          | more a1 _ ih1 ih2 => intro hh; exact closed listed hc _ _ a1 (ih2 hh)
        exact key i j han fun o' ho' => by rw [ho] at ho'; cases ho'; exact hdl
      have hdown : ∀ i, Anc l.toArray j i → listed.getD i false = false := fun i han => by
        refine Classical.byContradiction fun hne => ?_
        have := closed listed hc j i han (by simpa using hne)
        rw [hjf] at this; cases this
      have hE := chain_at es 0 σ hch j en hen
      rw [Nat.zero_add] at hE
      refine hE (stS es (T listed) 0 σ) (fun x hx => ?_) e a w hR _ _ ?_
      · refine get_congr es _ _ 0 σ σ (fun i en' he' hv => ?_) rfl
        rw [Nat.zero_add]
        rcases Nat.lt_trichotomy i j with hij | hij | hij
        · have hcl : clash en' en = true := by
            unfold clash; simp only [Bool.or_eq_true]; right
            exact List.any_eq_true.2 ⟨x, hx, hv⟩
          rw [show decide (i < j) = true from by simpa using hij]
          exact hup i (hanc i j en' en hij he' hen hcl)
        · subst hij; rw [show decide (i < i) = false from by simp]; exact hjf
        · have hcl : clash en en' = true := by
            unfold clash; simp only [Bool.or_eq_true]; left; right
            exact List.any_eq_true.2 ⟨x, hx, hv⟩
          rw [show decide (i < j) = false from by simp; omega]
          exact hdown i (hanc j i en en' hij hen he' hcl)
      · intro a' w' e' hR'
        have hT : stS es (T (listed.setIfInBounds j true)) 0 σ = en.app (stS es (T listed) 0 σ) := by
          apply St.ext'
          intro x
          rw [get_app]
          cases hv : en.val x with
          | none =>
            refine get_congr es _ _ 0 σ σ (fun i en' he' hv' => ?_) rfl
            rw [Nat.zero_add]
            by_cases hij : i = j
            · subst hij; rw [hen] at he'; cases he'; rw [hv] at hv'; cases hv'
            · exact getD_set_ne false (Ne.symm hij)
          | some v =>
            refine get_last es _ 0 j σ en hen hv ?_ (fun i en' hi he' hv' => ?_)
            · rw [Nat.zero_add]; show (listed.setIfInBounds j true).getD j false = true
              simp [hjs]
            · rw [Nat.zero_add]
              show (listed.setIfInBounds j true).getD i false = false
              rw [getD_set_ne false (by omega)]
              have hcl : clash en en' = true := by
                unfold clash; simp only [Bool.or_eq_true]; left; left
                exact List.any_eq_true.2 ⟨x, wlocs_ok (by rw [hv]; rfl), hv'⟩
              exact hdown i (hanc j i en en' hi hen he' hcl)
        refine ih (listed.setIfInBounds j true) a' w' (by simp [hsz]) (fun k o' ho' hk ed hed hb => ?_) ⟨e', by rw [hT]; exact hR'⟩ ?_
        · by_cases hkj : k = j
          · subst hkj
            rw [ho] at ho'; cases ho'
            exact getD_set_true (hdl ed hed hb)
          · rw [getD_set_ne false (Ne.symm hkj)] at hk
            exact getD_set_true (hc k o' ho' hk ed hed hb)
        · have hcnt : (listed.setIfInBounds j true).toList.countP (fun b => !b) + 1 ≤ listed.toList.countP (fun b => !b) := by
            rw [Array.toList_setIfInBounds]
            have hj2 : j < listed.toList.length := by simpa using hjs
            have h2 : listed.toList[j] = false := by
              have : listed[j] = false := by simpa [Array.getD, hjs] using hjf
              simpa using this
            exact count_set _ j hj2 h2
          omega
  have hR' : R F (stS es (T (Array.replicate l.length false)) 0 σ) e a { w with drawn := w.drawn + 1 } := by
    rw [stS_none es _ 0 σ (fun i hi => by
      show (Array.replicate l.length false).getD (0 + i) false = false
      simp [Array.getD])]
    obtain ⟨hf, hh⟩ := hR.hp.drew
    exact ⟨hR.defers, hR.size, fun i => (hR.slots i).fwd hf, hh⟩
  refine wp_region_any hm ?_
  have := main l.toArray.size (Array.replicate l.length false) a { w with drawn := w.drawn + 1 } (by simp) (fun j o ho hj => by simp [Array.getD] at hj) ⟨e, hR'⟩ (by
    have := List.countP_le_length (p := fun b => !b) (l := (Array.replicate l.length false).toList)
    simpa using this)
  simpa using this
end Go.Proofs.YtngbpbncipjimaaDoor.AM
