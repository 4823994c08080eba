/- One text of FilP1, FilP2, FilP3 (mk/merge.py). -/
import Derived.Test.YtpiiljpbfioilaaDoorFilH
/- Layer 5: the laws FilesTells, FilesChange, FilesCodes, FilesParts. -/
namespace Go.Proofs.YtpiiljpbfioilaaDoor.AM
open Go.RowKit
set_option linter.unusedVariables false
set_option linter.unusedSimpArgs false
theorem live5 (n : Nat) (hn : 40000 < n) : lLive5_t n = some true := by
  unfold lLive5_t
  have a1 : fApply_t [] [(false, ([98], [50])), (false, ([97, 47, 120], [49])), (false, ([98], [51]))] = some (l0, 0) := by unfold fApply_t; rw [if_pos ⟨by simp, by simp⟩, app_l0]
  have a2 : fApply_t l0 [(true, ([99], []))] = some ([], 5) := by unfold fApply_t; rw [if_pos ⟨by simp [l0], by simp⟩, app_c]
  have a3 : fApply_t l0 [(false, ([97, 47, 47, 98], []))] = some ([], 6) := by unfold fApply_t; rw [if_pos ⟨by simp [l0], by simp⟩, app_bad]
  have a4 : fEnc_t [(false, ([98], [50, 50])), (true, ([97], []))] = some ([0, 1, 98, 0, 2, 50, 50, 1, 1, 97], 0) := by unfold fEnc_t; rw [if_pos (by decide +kernel), enc_two]
  have a5 : fDec_t [0, 1, 98, 0, 2, 50, 50, 1, 1, 97] = some ([(false, ([98], [50, 50])), (true, ([97], []))], 0) := by unfold fDec_t; rw [if_pos (by decide), dec_two]
  have a6 : catO [0, 1, 98, 0, 2, 50, 50, 1, 1, 97] [122] = some [0, 1, 98, 0, 2, 50, 50, 1, 1, 97, 122] := catS (by decide)
  have a7 : fDec_t [0, 1, 98, 0, 2, 50, 50, 1, 1, 97, 122] = some ([], 1) := by unfold fDec_t; rw [if_pos (by decide), dec_z]
  have a8 : fGet_t n l0 [98] = some ([51], true) := by rw [fGet_spec n l0 [98] (by simp [l0]) (by simp [l0]; omega), get_b]
  have a9 : fDiff_t n l0 [([98], [51])] = some [(true, ([97, 47, 120], []))] := by rw [fDiff_spec n l0 _ (by simp [l0]) (by simp) (by simp [l0]; omega), diff_l0]
  have b1 : fPath_t [97, 47, 98, 46, 103, 111] = some true := congrArg some path_1.1
  have b2 : fPath_t [97, 47, 46, 46] = some false := congrArg some path_1.2.1
  have b3 : fPath_t [] = some false := congrArg some path_1.2.2.1
  have b4 : fMay_t n l0 = some true := by rw [fMay_spec n l0 (by simp [l0]) (by simp [l0]; omega), path_1.2.2.2]
  have b5 : fSame_t n l0 l0 = some true := by rw [fSame_spec n l0 l0 (by simp [l0]) (by simp [l0]; omega)]; simp
  have b6 : fSame_t n l0 [] = some false := by rw [fSame_spec n l0 [] (by simp [l0]) (by simp [l0]; omega)]; simp [l0]
  simp only [a1, Option.bind_some, a2, a3, a4, a5, a6, a7, a8, a9, b1, b2, b3, b4, b5, b6]
  have c1 : l0.length = 2 := rfl
  simp only [c1]
  have i1 : idxL [(false, (([98] : List UInt8), ([50, 50] : List UInt8))), (true, (([97] : List UInt8), ([] : List UInt8)))] (1 : Int) = some (true, ([97], [])) := rfl
  have i0 : idxL [(true, (([97, 47, 120] : List UInt8), ([] : List UInt8)))] (0 : Int) = some (true, ([97, 47, 120], [])) := rfl
  simp only [i1, i0, Option.bind_some]
  rfl
theorem smallF_ok {l : List FD} (h : smallF l = true) : l.length ≤ 60 ∧ ∀ f ∈ l, f.1.length ≤ 200 ∧ f.2.length ≤ 5000 := by
  unfold smallF at h
  simp only [Bool.and_eq_true, decide_eq_true_eq] at h
  exact ⟨h.2, fun f hf => by have := List.all_eq_true.1 h.1 f hf; simpa using this⟩
theorem fewO_ok {l : List OD} (h : fewO l = true) : l.length ≤ 100 ∧ ∀ o ∈ l, o.2.1.length ≤ 200 ∧ o.2.2.length ≤ 5000 := by
  unfold fewO at h
  simp only [Bool.and_eq_true, decide_eq_true_eq] at h
  exact ⟨h.2, fun f hf => by have := List.all_eq_true.1 h.1 f hf; simpa using this⟩
abbrev fuel5 : Nat := 9223372036854775808
theorem lFTells_P (n : Nat) (hn : 9223372036854775807 < n) (a b : List FD) (p : List UInt8) (ha : a.length ≤ maxLen) (hb : b.length ≤ maxLen) : lFTells_t n a b p = some true := by
  unfold maxLen at ha hb
  unfold lFTells_t
  have hl := live5 n (by omega)
  simp only [r5Small_spec n a (by omega) (by omega), r5Small_spec n b (by omega) (by omega), Option.bind_some, hl]
  cases h1 : smallF a with
  | false => rfl
  | true =>
    cases h2 : smallF b with
    | false => rfl
    | true =>
      obtain ⟨a1, a2⟩ := smallF_ok h1
      obtain ⟨b1, b2⟩ := smallF_ok h2
      by_cases hp : p.length ≤ 200
      · have hp' : ¬ (200 : Int) < ((p.length : Nat) : Int) := by omega
        have e1 : fPath_t p = some (pathS p) := rfl
        simp only [hp', decide_false, fGet_spec n a p (by omega) (by omega), r5Get_spec n a p (by omega) (by omega), e1, rPath5_spec n p (by omega) (by omega), fMay_spec n a (by omega) (by omega), r5May_spec n a (by omega) (fun f hf => by have := (a2 f hf).1; omega) (by omega) (by omega), fSame_spec n a b (by omega) (by omega), r5Same_spec n a b (by omega) (by omega), Option.bind_some, Bool.not_true, cond_false, cond_true, decide_true]
      · have hp' : (200 : Int) < ((p.length : Nat) : Int) := by omega
        simp only [hp', decide_true, Bool.not_true, cond_false, cond_true]
theorem lFTells_true (a : den (.lst FT)) (b : den (.lst FT)) (p : List UInt8) (ha : okDen (.lst FT) a) (hb : okDen (.lst FT) b) (hp : p.length ≤ maxLen) : lFTells_t fuel5 a b p = some true := lFTells_P fuel5 (by decide) a b p ha.1 hb.1
theorem lFChange_P (n : Nat) (hn : 9223372036854775807 < n) (a : List FD) (ops : List OD) (b : List FD) (ha : a.length ≤ maxLen) (ho : ops.length ≤ maxLen) (hb : b.length ≤ maxLen) : lFChange_t n a ops b = some true := by
  unfold maxLen at ha hb ho
  unfold lFChange_t
  have hl := live5 n (by omega)
  simp only [r5Small_spec n a (by omega) (by omega), r5Small_spec n b (by omega) (by omega), r5Few_spec n ops (by omega) (by omega), Option.bind_some, hl]
  cases h1 : smallF a with
  | false => rfl
  | true =>
    cases h3 : fewO ops with
    | false => rfl
    | true =>
      cases h2 : smallF b with
      | false => rfl
      | true =>
        obtain ⟨a1, a2⟩ := smallF_ok h1
        obtain ⟨b1, b2⟩ := smallF_ok h2
        obtain ⟨o1, o2⟩ := fewO_ok h3
        have e1 : fApply_t a ops = some (appS a ops) := by unfold fApply_t; rw [if_pos ⟨by omega, by omega⟩]
        have e2 := r5Apply_spec n a ops (by omega) (by omega) (fun f hf => by have := (a2 f hf).1; omega) (fun o hf => by have := (o2 o hf).1; omega) (by omega) (by omega)
        have hal : (appS a ops).1.length ≤ 1000000 := by
          unfold appS
          cases hm : mayS a with
          | false => simp
          | true =>
            by_cases hz : (appL a ops).2 = 0
            · have := app_may ops hm hz
              have := (may_iff _).1 this
              simp only [if_true]; omega
            · simp only [if_true]; rw [appL_nil ops a hz]; simp
        have e3 := r5Same_spec n (appS a ops).1 (appS a ops).1 hal (by omega)
        have e4 := fDiff_spec n a b (by omega) (by omega) (by omega)
        have e5 := r5Diff_spec n a b (by omega) (by omega) (fun f hf => by have := (a2 f hf).1; omega) (fun f hf => by have := (b2 f hf).1; omega) (by omega) (by omega)
        have hdl : (diffS a b).length ≤ 1000000 := by
          unfold diffS; split
          · have : ∀ (m : Nat) (a b : List FD), (diffL m a b).length ≤ m := by
              intro m
              induction m with
              | zero => intro a b; simp [diffL]
              | succ m ih =>
                intro a b
                cases a with
                | nil => cases b with
                  | nil => simp [diffL]
                  | cons y b => rw [diffL]; simp only [List.length_cons]; have := ih [] b; omega
                | cons x a => cases b with
                  | nil => rw [diffL]; simp only [List.length_cons]; have := ih a []; omega
                  | cons y b =>
                    rw [diffL]
                    have i1 := ih a (y :: b); have i2 := ih (x :: a) b; have i3 := ih a b
                    split
                    · simp only [List.length_cons]; omega
                    · split
                      · simp only [List.length_cons]; omega
                      · split
                        · omega
                        · simp only [List.length_cons]; omega
            have := this (a.length + b.length) a b; omega
          · simp
        have e6 := r5Ops_spec n (diffS a b) (diffS a b) hdl (by omega)
        simp only [e1, e2, e3, e4, e5, e6, Option.bind_some, Bool.not_true, cond_false, cond_true, decide_true]
theorem lFChange_true (a : den (.lst FT)) (ops : den (.lst OT)) (b : den (.lst FT)) (ha : okDen (.lst FT) a) (ho : okDen (.lst OT) ops) (hb : okDen (.lst FT) b) : lFChange_t fuel5 a ops b = some true := lFChange_P fuel5 (by decide) a ops b ha.1 ho.1 hb.1
theorem lFCodes_P (n : Nat) (hn : 9223372036854775807 < n) (ops : List OD) (s : List UInt8) (ho : ops.length ≤ maxLen) : lFCodes_t n ops s = some true := by
  unfold maxLen at ho
  unfold lFCodes_t
  have hl := live5 n (by omega)
  simp only [r5Few_spec n ops (by omega) (by omega), Option.bind_some, hl]
  cases h3 : fewO ops with
  | false => rfl
  | true =>
    obtain ⟨o1, o2⟩ := fewO_ok h3
    by_cases hs : s.length ≤ 5000
    · have hs' : ¬ (5000 : Int) < ((s.length : Nat) : Int) := by omega
      have e1 : fEnc_t ops = some (encS ops) := by
        unfold fEnc_t; rw [if_pos]
        refine List.all_eq_true.2 fun o ho => ?_
        have := o2 o ho
        simp; omega
      have e2 := r5Encode_spec n ops (by omega) (fun o ho => by have := o2 o ho; omega) (by omega) (by omega)
      have e3 : fDec_t s = some (decS s) := by unfold fDec_t; rw [if_pos (by omega)]
      have e4 := r5Decode_spec n s (by omega) (by omega) (by omega)
      have hdl : (decS s).1.length ≤ 1000000 := by
        unfold decS
        cases hp : parseO (s.length + 1) s with
        | none => simp
        | some out =>
          have := (parse_mem _ _ _ hp).1
          simp only
          split
          · simp only; omega
          · simp
      have e5 := r5Ops_spec n (decS s).1 (decS s).1 hdl (by omega)
      simp only [hs', e1, e2, e3, e4, e5, Option.bind_some, Bool.not_true, cond_false, cond_true, decide_true, decide_false]
    · have hs' : (5000 : Int) < ((s.length : Nat) : Int) := by omega
      simp only [hs', decide_true, Bool.not_true, cond_false, cond_true]
theorem lFCodes_true (ops : den (.lst OT)) (s : List UInt8) (ho : okDen (.lst OT) ops) (hs : s.length ≤ maxLen) : lFCodes_t fuel5 ops s = some true := lFCodes_P fuel5 (by decide) ops s ho.1
theorem lFParts_P (n : Nat) (hn : 9223372036854775807 < n) (a b : List UInt8) : lFParts_t n a b = some true := by
  unfold lFParts_t
  have hl := live5 n (by omega)
  by_cases ha : a.length ≤ 200
  · have ha' : ¬ (200 : Int) < ((a.length : Nat) : Int) := by omega
    by_cases hb : b.length ≤ 200
    · have hb' : ¬ (200 : Int) < ((b.length : Nat) : Int) := by omega
      have c1 : catO a [47] = some (a ++ [47]) := catS (by simp; omega)
      have c2 : catO (a ++ [47]) b = some (a ++ 47 :: b) := by rw [catS (by simp; omega)]; simp
      have c3 : catO [47] a = some (47 :: a) := by rw [catS (by simp; omega)]; rfl
      have p1 : ∀ s, fPath_t s = some (pathS s) := fun _ => rfl
      have w1 : IntKind.wrap .i64 (((a.length : Nat) : Int) + ((b.length : Nat) : Int)) = ((a.length + b.length : Nat) : Int) := wrap_add (by omega) (by omega)
      have h60 : decide (((a.length + b.length : Nat) : Int) < (60 : Int)) = decide (a.length + b.length < 60) := decide_eq_decide.2 (by omega)
      simp only [ha', hb', decide_false, cond_false, c1, c2, c3, p1, Option.bind_some, letO, w1, h60, path_end, path_front, Bool.not_false, cond_true, hl]
      cases h1 : pathS a with
      | false =>
        cases h5 : pathS (a ++ 47 :: b) with
        | false => rfl
        | true => rw [(path_of h5).1] at h1; cases h1
      | true =>
        cases h2 : pathS b with
        | false =>
          cases h5 : pathS (a ++ 47 :: b) with
          | false => rfl
          | true => rw [(path_of h5).2] at h2; cases h2
        | true =>
          by_cases h3 : a.length + b.length < 60
          · rw [path_both h1 h2 h3, decide_eq_true h3]; rfl
          · rw [decide_eq_false h3]
            cases pathS (a ++ 47 :: b) <;> rfl
    · have hb' : (200 : Int) < ((b.length : Nat) : Int) := by omega
      simp only [ha', hb', decide_true, decide_false, cond_false, cond_true, hl, Option.bind_some]
  · have ha' : (200 : Int) < ((a.length : Nat) : Int) := by omega
    simp only [ha', decide_true, cond_true, hl, Option.bind_some]
theorem lFParts_true (a b : List UInt8) (ha : a.length ≤ maxLen) (hb : b.length ≤ maxLen) : lFParts_t fuel5 a b = some true := lFParts_P fuel5 (by decide) a b
end Go.Proofs.YtpiiljpbfioilaaDoor.AM

/- Layer 5: the laws FilesBack, FilesOnce, FilesLeast. -/
namespace Go.Proofs.YtpiiljpbfioilaaDoor.AM
open Go.RowKit
set_option linter.unusedVariables false
set_option linter.unusedSimpArgs false
theorem b8_small {k : Nat} (h : k < 256) : (b8 ((k : Nat) : Int)).toNat = k := by rw [b8_nat, UInt8.toNat_ofNat']; omega
theorem chk_ok {o : OD} (h : chkS o = 0) : pathS o.2.1 = true ∧ o.2.1.length ≤ 60 ∧ (o.1 = true → o.2.2 = []) ∧ o.2.2.length ≤ 4096 := by
  unfold chkS at h
  cases hp : pathS o.2.1 with
  | false => rw [hp] at h; simp at h
  | true =>
    rw [hp] at h
    have hl := (path_parts hp).1
    simp only [if_true] at h
    by_cases h1 : (o.1 && !decide (o.2.2 = [])) = true
    · rw [if_pos h1] at h; cases h
    · rw [if_neg h1] at h
      by_cases h2 : 4096 < o.2.2.length
      · rw [if_pos h2] at h; cases h
      · refine ⟨rfl, hl, fun h3 => ?_, by omega⟩
        rw [h3] at h1
        simpa using h1
theorem one_of_lay (o : OD) (rest : List UInt8) (h : chkS o = 0) : oneS (layS o ++ rest) = some (o, (layS o).length) := by
  obtain ⟨h1, h2, h3, h4⟩ := chk_ok h
  obtain ⟨gone, p, d⟩ := o
  simp only at h1 h2 h3 h4
  have hb : (b8 ((p.length : Nat) : Int)).toNat = p.length := b8_small (by omega)
  cases gone with
  | true =>
    have hd := h3 rfl
    subst hd
    have e : layS (true, (p, [])) ++ rest = 1 :: b8 p.length :: (p ++ rest) := by unfold layS; simp
    have el : (layS (true, (p, []))).length = 2 + p.length := by { unfold layS; simp <;> omega }
    rw [e, el, oneS, if_pos (Or.inr rfl), hb, if_neg (by simp), if_pos rfl, List.take_left]
  | false =>
    have hx : (b8 ((d.length / 256 : Nat) : Int)).toNat = d.length / 256 := b8_small (by omega)
    have hy : (b8 ((d.length % 256 : Nat) : Int)).toNat = d.length % 256 := b8_small (by omega)
    have e : layS (false, (p, d)) ++ rest = 0 :: b8 p.length :: (p ++ b8 ((d.length / 256 : Nat) : Int) :: b8 ((d.length % 256 : Nat) : Int) :: (d ++ rest)) := by unfold layS; simp
    have el : (layS (false, (p, d))).length = 4 + p.length + d.length := by { unfold layS; simp <;> omega }
    rw [e, el, oneS, if_pos (Or.inl rfl), hb, if_neg (by simp <;> omega), if_neg (by decide), List.take_left, List.drop_left]
    simp only [hx, hy]
    have e2 : 256 * (d.length / 256) + d.length % 256 = d.length := by omega
    rw [e2, if_neg (by simp), List.take_left]
theorem parse_all : ∀ (ops : List OD) (m : Nat), (∀ o ∈ ops, chkS o = 0) → ops.length < m → parseO m ((ops.map layS).flatten) = some ops
  | [], m, _, h => by
    obtain ⟨k, rfl⟩ : ∃ k, m = k + 1 := ⟨m - 1, by simp at h; omega⟩
    rw [parseO]; rfl
  | o :: t, m, hc, h => by
    obtain ⟨k, rfl⟩ : ∃ k, m = k + 1 := ⟨m - 1, by simp at h; omega⟩
    have h0 := hc o (List.mem_cons_self ..)
    have hne : ¬ ((o :: t).map layS).flatten = [] := by
      rw [List.map_cons, List.flatten_cons]; unfold layS; simp
    have hd : (layS o ++ (t.map layS).flatten).drop (layS o).length = (t.map layS).flatten := List.drop_left ..
    rw [parseO, if_neg hne, List.map_cons, List.flatten_cons, one_of_lay o _ h0]
    simp only [hd]
    rw [parse_all t k (fun o ho => hc o (List.mem_cons_of_mem _ ho)) (by simp at h; omega)]; rfl
theorem lays_len : ∀ (ops : List OD), ops.length ≤ ((ops.map layS).flatten).length
  | [] => Nat.le_refl _
  | o :: t => by
    have := lays_len t
    rw [List.map_cons, List.flatten_cons, List.length_append, List.length_cons]
    have : 1 ≤ (layS o).length := by unfold layS; simp
    omega
theorem encL_all : ∀ (ops : List OD), (encL ops).2 = 0 → ∀ o ∈ ops, chkS o = 0
  | [], _, o, ho => by cases ho
  | x :: t, h, o, ho => by
    rw [encL] at h
    by_cases hc : chkS x = 0
    · rw [if_pos hc] at h
      by_cases h2 : (encL t).2 = 0
      · rcases List.mem_cons.1 ho with rfl | ho
        · exact hc
        · exact encL_all t h2 o ho
      · rw [if_neg h2] at h; exact absurd h h2
    · rw [if_neg hc] at h; exact absurd h hc
theorem enc_dec (ops : List OD) (h : (encS ops).2 = 0) : decS (encS ops).1 = (ops, 0) := by
  have h0 := h
  unfold encS at h
  by_cases h2 : (encL ops).2 = 0
  · rw [if_pos h2] at h
    have hall := encL_all ops h2
    have hl := encL_lay ops hall
    by_cases h3 : 4096 < (encL ops).1.length
    · rw [if_pos h3] at h; cases h
    · have e : (encS ops).1 = (ops.map layS).flatten := by unfold encS; rw [if_pos h2, if_neg h3, hl]
      have hlen := lays_len ops
      unfold decS
      rw [e, parse_all ops _ hall (by omega)]
      simp only
      rw [if_pos ⟨h0, e⟩]
  · rw [if_neg h2] at h; exact absurd h h2
theorem diff_self : ∀ (m : Nat) (l : List FD), diffL m l l = []
  | 0, _ => rfl
  | m + 1, [] => rfl
  | m + 1, x :: l => by
    rw [diffL, lt_irr]
    simp [diff_self m l]
theorem enc_len (ops : List OD) : (encS ops).1.length ≤ 4096 := by
  unfold encS
  split
  · split
    · simp
    · simp only; omega
  · simp
theorem app_len {a : List FD} {ops : List OD} : (appS a ops).1.length ≤ 40 := by
  unfold appS
  cases hm : mayS a with
  | false => simp
  | true =>
    by_cases hz : (appL a ops).2 = 0
    · have := app_may ops hm hz
      have := (may_iff _).1 this
      simp only [if_true]; omega
    · simp only [if_true]; rw [appL_nil ops a hz]; simp
theorem diffL_len : ∀ (m : Nat) (a b : List FD), (diffL m a b).length ≤ m := by
  intro m
  induction m with
  | zero => intro a b; simp [diffL]
  | succ m ih =>
    intro a b
    cases a with
    | nil => cases b with
      | nil => simp [diffL]
      | cons y b => rw [diffL]; simp only [List.length_cons]; have := ih [] b; omega
    | cons x a => cases b with
      | nil => rw [diffL]; simp only [List.length_cons]; have := ih a []; omega
      | cons y b =>
        rw [diffL]
        have i1 := ih a (y :: b); have i2 := ih (x :: a) b; have i3 := ih a b
        split
        · simp only [List.length_cons]; omega
        · split
          · simp only [List.length_cons]; omega
          · split
            · omega
            · simp only [List.length_cons]; omega
theorem diffS_len (a b : List FD) : (diffS a b).length ≤ a.length + b.length := by
  unfold diffS; split
  · exact diffL_len _ a b
  · simp
theorem app_nilS {a : List FD} {ops : List OD} (h : (appS a ops).2 ≠ 0) : (appS a ops).1 = [] := by
  unfold appS at h ⊢
  cases hm : mayS a with
  | false => rfl
  | true => rw [hm] at h; exact appL_nil ops a h
theorem lFBack_P (n : Nat) (hn : 9223372036854775807 < n) (a b : List FD) (ops : List OD) (ha : a.length ≤ maxLen) (ho : ops.length ≤ maxLen) (hb : b.length ≤ maxLen) : lFBack_t n a b ops = some true := by
  unfold maxLen at ha hb ho
  unfold lFBack_t
  have hl := live5 n (by omega)
  simp only [r5Small_spec n a (by omega) (by omega), r5Small_spec n b (by omega) (by omega), r5Few_spec n ops (by omega) (by omega), Option.bind_some, hl]
  cases h1 : smallF a with
  | false => rfl
  | true =>
    cases h3 : fewO ops with
    | false => rfl
    | true =>
      cases h2 : smallF b with
      | false => rfl
      | true =>
        obtain ⟨a1, a2⟩ := smallF_ok h1
        obtain ⟨b1, b2⟩ := smallF_ok h2
        obtain ⟨o1, o2⟩ := fewO_ok h3
        have e1 : fEnc_t ops = some (encS ops) := by
          unfold fEnc_t; rw [if_pos]
          refine List.all_eq_true.2 fun o ho => ?_
          have := o2 o ho
          simp; omega
        have hel := enc_len ops
        have e2 : fDec_t (encS ops).1 = some (decS (encS ops).1) := by unfold fDec_t; rw [if_pos (by omega)]
        have e3 := r5Ops_spec n ops ops (by omega) (by omega)
        have e4 := fMay_spec n a (by omega) (by omega)
        have e5 := fMay_spec n b (by omega) (by omega)
        have e6 : fApply_t a ops = some (appS a ops) := by unfold fApply_t; rw [if_pos ⟨by omega, by omega⟩]
        have hal := app_len (a := a) (ops := ops)
        have e7 := fMay_spec n (appS a ops).1 (by omega) (by omega)
        have e8 := fDiff_spec n a a (by omega) (by omega) (by omega)
        have e9 := fDiff_spec n a b (by omega) (by omega) (by omega)
        have hdl := diffS_len a b
        have e10 : fApply_t a (diffS a b) = some (appS a (diffS a b)) := by unfold fApply_t; rw [if_pos ⟨by omega, by omega⟩]
        have hal2 := app_len (a := a) (ops := diffS a b)
        have e11 := r5Same_spec n (appS a (diffS a b)).1 b (by omega) (by omega)
        have hself : diffS a a = [] := by unfold diffS; split
                                          · exact diff_self _ a
                                          · rfl
        rw [hself] at e8
        have hmx : mayS a = true → mayS (appS a ops).1 = true := fun hm => by
          by_cases hz : (appS a ops).2 = 0
          · unfold appS at hz ⊢; rw [hm] at hz ⊢; exact app_may ops hm hz
          · rw [app_nilS hz]; decide +kernel
        simp only [e1, e2, e4, e5, e6, e7, e8, e9, e10, e11, Option.bind_some, Bool.not_true, cond_false, cond_true]
        have tail : ∀ (x : Bool), mayS a = true → mayS b = true → (appS a (diffS a b)).2 = 0 → (decide ((appS a (diffS a b)).1 = b)) = true := fun _ hm hk hz => by
          rcases back_diff hm hk with h | h
          · rw [h]; simp
          · rw [h] at hz; cases hz
        have tail3 : mayS a = true → mayS b = true → (appS a (diffS a b)).2 ≠ 0 → (appS a (diffS a b)).2 = 3 := fun hm hk hz => by
          rcases back_diff hm hk with h | h
          · rw [h] at hz; exact absurd rfl hz
          · exact h
        by_cases hE : (encS ops).2 = 0
        · have hdec := enc_dec ops hE
          rw [hdec, e3]
          simp only [hE, decide_true, cond_true, Bool.not_true, cond_false, Option.bind_some]
          cases hm : mayS a with
          | false => rfl
          | true =>
            rw [hmx hm]
            cases hk : mayS b with
            | false => by_cases hz : (appS a ops).2 = 0
                       · simp [hz]
                       · rw [app_nilS hz]; simp [hz]
            | true =>
              by_cases hy : (appS a (diffS a b)).2 = 0
              · have ht := tail true hm hk hy
                by_cases hz : (appS a ops).2 = 0
                · simp only [hz, hy, ht]; rfl
                · rw [app_nilS hz]; simp only [hz, hy, ht]; rfl
              · have ht := tail3 hm hk hy
                by_cases hz : (appS a ops).2 = 0
                · simp only [hz, ht]; rfl
                · rw [app_nilS hz]; simp only [hz, ht]; rfl
        · simp only [hE, decide_false, cond_false]
          cases hm : mayS a with
          | false => rfl
          | true =>
            rw [hmx hm]
            cases hk : mayS b with
            | false => by_cases hz : (appS a ops).2 = 0
                       · simp [hz]
                       · rw [app_nilS hz]; simp [hz]
            | true =>
              by_cases hy : (appS a (diffS a b)).2 = 0
              · have ht := tail true hm hk hy
                by_cases hz : (appS a ops).2 = 0
                · simp only [hz, hy, ht]; rfl
                · rw [app_nilS hz]; simp only [hz, hy, ht]; rfl
              · have ht := tail3 hm hk hy
                by_cases hz : (appS a ops).2 = 0
                · simp only [hz, ht]; rfl
                · rw [app_nilS hz]; simp only [hz, ht]; rfl
theorem lFBack_true (a : den (.lst FT)) (b : den (.lst FT)) (ops : den (.lst OT)) (ha : okDen (.lst FT) a) (hb : okDen (.lst FT) b) (ho : okDen (.lst OT) ops) : lFBack_t fuel5 a b ops = some true := lFBack_P fuel5 (by decide) a b ops ha.1 ho.1 hb.1
end Go.Proofs.YtpiiljpbfioilaaDoor.AM

/- Layer 5: the laws FilesOnce, FilesLeast. -/
namespace Go.Proofs.YtpiiljpbfioilaaDoor.AM
open Go.RowKit
set_option linter.unusedVariables false
set_option linter.unusedSimpArgs false
/-- what comes of one op that is done -/
theorem once {l : List FD} {o : OD} (hl : mayS l = true) (h : (stepS l o).2 = 0) :
    (getS (stepS l o).1 o.2.1).2 = !o.1 ∧ (o.1 = false → (getS (stepS l o).1 o.2.1).1 = o.2.2) ∧ (∀ q, q ≠ o.2.1 → getS (stepS l o).1 q = getS l q) ∧
      (o.1 = true → stepS (stepS l o).1 o = ([], 5)) ∧ (o.1 = false → stepS (stepS l o).1 o = ((stepS l o).1, 0)) := by
  have hno := nop_without l o.2.1
  unfold stepS at h
  cases hp : pathS o.2.1 with
  | false => rw [hp] at h; simp at h
  | true =>
    rw [hp] at h
    simp only [if_true] at h
    cases ho : o.1 with
    | true =>
      rw [ho] at h
      simp only [if_true] at h
      cases hg : (getS l o.2.1).2 with
      | false => rw [hg] at h; simp at h
      | true =>
        have e : stepS l o = (withoutS l o.2.1, 0) := by unfold stepS; simp [hp, ho, hg]
        rw [e]
        refine ⟨by rw [get_nop hno]; rfl, (fun h => by cases h), fun q hq => get_without q o.2.1 hq l, fun _ => ?_, (fun h => by cases h)⟩
        unfold stepS
        simp [hp, ho, get_nop hno]
    | false =>
      rw [ho] at h
      simp only [Bool.false_eq_true, if_false] at h
      by_cases c1 : 4096 < o.2.2.length
      · rw [if_pos c1] at h; simp at h
      · rw [if_neg c1] at h
        by_cases c2 : 40 ≤ (withoutS l o.2.1).length
        · rw [if_pos c2] at h; simp at h
        · have e : stepS l o = (insS o.2 (withoutS l o.2.1), 0) := by unfold stepS; simp [hp, ho, c1, c2]
          rw [e]
          have hg := get_ins o.2 o.2.1 _ hno
          rw [if_pos rfl] at hg
          refine ⟨by rw [hg]; rfl, fun _ => by rw [hg], fun q hq => ?_, (fun h => by cases h), fun _ => ?_⟩
          · rw [get_ins o.2 q _ hno, if_neg hq]; exact get_without q o.2.1 hq l
          · unfold stepS
            have hw : withoutS (insS o.2 (withoutS l o.2.1)) o.2.1 = withoutS l o.2.1 := without_ins hno
            simp [hp, ho, c1, hw, c2]
theorem app_one {l : List FD} {o : OD} (hm : mayS l = true) : appS l [o] = if (stepS l o).2 = 0 then ((stepS l o).1, 0) else ([], (stepS l o).2) := by unfold appS; rw [hm]; rfl
theorem lFOnce_P (n : Nat) (hn : 9223372036854775807 < n) (a : List FD) (o : OD) (p : List UInt8) (ha : a.length ≤ maxLen) : lFOnce_t n a o p = some true := by
  unfold maxLen at ha
  unfold lFOnce_t
  have hl := live5 n (by omega)
  have eo : ((o.1, (o.2.1, o.2.2)) : OD) = o := rfl
  simp only [r5Small_spec n a (by omega) (by omega), r5Few_spec n [o] (by simp) (by simp; omega), Option.bind_some, hl]
  cases h1 : smallF a with
  | false => rfl
  | true =>
    cases h3 : fewO [o] with
    | false => rfl
    | true =>
      obtain ⟨a1, a2⟩ := smallF_ok h1
      by_cases hp : p.length ≤ 200
      · have hp' : ¬ (200 : Int) < ((p.length : Nat) : Int) := by omega
        have e1 : fApply_t a [o] = some (appS a [o]) := by unfold fApply_t; rw [if_pos ⟨by omega, by simp⟩]
        have hal := app_len (a := a) (ops := [o])
        simp only [hp', decide_false, Bool.not_true, cond_false, cond_true, e1, Option.bind_some]
        by_cases hz : (appS a [o]).2 = 0
        · have hm : mayS a = true := by
            cases hm : mayS a with
            | true => rfl
            | false => unfold appS at hz; rw [hm] at hz; simp at hz
          have hst : (stepS a o).2 = 0 := by
            rw [app_one hm] at hz
            by_cases hc : (stepS a o).2 = 0
            · exact hc
            · rw [if_neg hc] at hz; exact absurd hz hc
          have hk : appS a [o] = ((stepS a o).1, 0) := by rw [app_one hm, if_pos hst]
          rw [hk] at hal ⊢
          simp only at hal
          have hmk := step_may hm hst
          obtain ⟨q1, q2, q3, q4, q5⟩ := once hm hst
          have g1 := fGet_spec n (stepS a o).1 o.2.1 (by omega) (by omega)
          have g2 := fGet_spec n a p (by omega) (by omega)
          have g3 := fGet_spec n (stepS a o).1 p (by omega) (by omega)
          have g4 : fApply_t (stepS a o).1 [o] = some (appS (stepS a o).1 [o]) := by unfold fApply_t; rw [if_pos ⟨by omega, by simp⟩]
          have g5 := fMay_spec n (stepS a o).1 (by omega) (by omega)
          have g6 := r5Same_spec n (stepS a o).1 (stepS a o).1 (by omega) (by omega)
          have hag := app_one (o := o) hmk
          generalize stepS a o = k at *
          simp only [decide_true, Bool.not_true, cond_false, g1, g2, g3, g4, g5, hmk, cond_true, Option.bind_some, q1]
          cases ho : o.1 with
          | true =>
            have h5 : appS k.1 [o] = ([], 5) := by rw [hag, q4 ho]; rfl
            rw [h5]
            by_cases hpp : p = o.2.1
            · simp [hpp]
            · rw [q3 p hpp]; simp [hpp]
          | false =>
            have h5 : appS k.1 [o] = (k.1, 0) := by rw [hag, q5 ho]; rfl
            rw [h5, g6, q2 ho]
            by_cases hpp : p = o.2.1
            · simp [hpp]
            · rw [q3 p hpp]; simp [hpp]
        · rw [app_nilS hz]
          simp [hz]
      · have hp' : (200 : Int) < ((p.length : Nat) : Int) := by omega
        simp only [hp', decide_true, Bool.not_true, cond_false, cond_true]
theorem lFOnce_true (a : den (.lst FT)) (o : den OT) (p : List UInt8) (ha : okDen (.lst FT) a) (ho : okDen OT o) (hp : p.length ≤ maxLen) : lFOnce_t fuel5 a o p = some true := lFOnce_P fuel5 (by decide) a o p ha.1
theorem pair_get {l : List OD} (h : l.Pairwise fun o o' => ltS o.2.1 o'.2.1 = true) {j : Nat} (h0 : 0 < j) (hj : j < l.length) : ltS (l[j - 1]'(by omega)).2.1 l[j].2.1 = true :=
  List.pairwise_iff_getElem.1 h (j - 1) j (by omega) hj (by omega)
theorem lFLeast_loop (n : Nat) (a b : List FD) (d : List OD) (ha : a.length ≤ 1000) (hb : b.length ≤ 1000) (hd : d.length ≤ 10000) (hn : 100000 < n) (hg : ∀ o ∈ d, Good a b o) (hr : d.Pairwise fun o o' => ltS o.2.1 o'.2.1 = true) :
    ∀ (m j : Nat), j ≤ d.length → d.length - j < m → lFLeast_loop0 n m a b d (j : Int) = some (Sum.inr ((), ((), ())))
  | 0, j, _, h => absurd h (Nat.not_lt_zero _)
  | m + 1, j, hj, h => by
    rw [lFLeast_loop0_succ]
    unfold lFLeast_l0
    by_cases c0 : j < d.length
    · have c0' : ((j : Nat) : Int) < ((d.length : Nat) : Int) := by omega
      have ih := lFLeast_loop n a b d ha hb hd hn hg hr m (j + 1) (by omega) (by omega)
      have hgo := hg _ (List.getElem_mem c0)
      have g1 := fGet_spec n a (d[j]).2.1 (by omega) (by omega)
      have g2 := fGet_spec n b (d[j]).2.1 (by omega) (by omega)
      have w1 := wrap_succ (show j < 4611686018427387904 by omega)
      have hx : idxL d ((j : Nat) : Int) = some d[j] := idx_lt c0
      have hprev : 0 < j → ∃ o', idxL d (IntKind.wrap .i64 (((j : Nat) : Int) - 1)) = some o' ∧ ltS o'.2.1 (d[j]).2.1 = true := fun h0 => by
        have e : IntKind.wrap .i64 (((j : Nat) : Int) - 1) = ((j - 1 : Nat) : Int) := by rw [wrap64 (by omega) (by omega)]; omega
        exact ⟨d[j - 1]'(by omega), by rw [e]; exact idx_lt (by omega), pair_get hr h0 c0⟩
      obtain ⟨q1, q2, q3, q4⟩ := hgo
      generalize d[j] = o at *
      simp only [c0', decide_true, cond_true, hx, Option.bind_some, g1, g2, letO, w1, ih]
      cases hA : getS a o.2.1 with
      | mk s is =>
        cases hB : getS b o.2.1 with
        | mk t has =>
          rw [hA, hB] at q2 q3
          simp only at q2 q3
          by_cases h0 : 0 < j
          · obtain ⟨o', p1, p2⟩ := hprev h0
            have c1 : (0 : Int) < ((j : Nat) : Int) := by omega
            simp only [c1, decide_true, cond_true, p1, Option.bind_some, p2, Bool.not_true, cond_false]
            cases ho : o.1 with
            | true =>
              have hd0 := q4 ho
              rw [ho] at q2
              obtain ⟨rfl, rfl⟩ : is = true ∧ has = false := by cases is <;> cases has <;> simp at q2 ⊢
              simp [hd0]
            | false =>
              obtain ⟨r1, r2, r3⟩ := q3 ho
              subst r1
              subst r2
              cases is with
              | true => have r4 := r3 rfl; simp [r4]
              | false => simp
          · have c1 : ¬ (0 : Int) < ((j : Nat) : Int) := by omega
            simp only [c1, decide_false, cond_false]
            cases ho : o.1 with
            | true =>
              have hd0 := q4 ho
              rw [ho] at q2
              obtain ⟨rfl, rfl⟩ : is = true ∧ has = false := by cases is <;> cases has <;> simp at q2 ⊢
              simp [hd0]
            | false =>
              obtain ⟨r1, r2, r3⟩ := q3 ho
              subst r1
              subst r2
              cases is with
              | true => have r4 := r3 rfl; simp [r4]
              | false => simp
    · have c0' : ¬ ((j : Nat) : Int) < ((d.length : Nat) : Int) := by omega
      simp [c0']
theorem lFLeast_P (n : Nat) (hn : 9223372036854775807 < n) (a b : List FD) (ha : a.length ≤ maxLen) (hb : b.length ≤ maxLen) : lFLeast_t n a b = some true := by
  unfold maxLen at ha hb
  unfold lFLeast_t
  have hl := live5 n (by omega)
  simp only [r5Small_spec n a (by omega) (by omega), r5Small_spec n b (by omega) (by omega), Option.bind_some, hl]
  cases h1 : smallF a with
  | false => rfl
  | true =>
    cases h2 : smallF b with
    | false => rfl
    | true =>
      obtain ⟨a1, a2⟩ := smallF_ok h1
      obtain ⟨b1, b2⟩ := smallF_ok h2
      have e1 := fDiff_spec n a b (by omega) (by omega) (by omega)
      have e2 := fMay_spec n a (by omega) (by omega)
      have e3 := fMay_spec n b (by omega) (by omega)
      have hdl := diffS_len a b
      simp only [e1, e2, e3, Option.bind_some, Bool.not_true, cond_false]
      cases hm : mayS a with
      | false => have : diffS a b = [] := by unfold diffS; simp [hm]
                 rw [this]; rfl
      | true =>
        cases hk : mayS b with
        | false => have : diffS a b = [] := by unfold diffS; simp [hk]
                   rw [this]; rfl
        | true =>
          have hd : diffS a b = diffL (a.length + b.length) a b := by unfold diffS; simp [hm, hk]
          obtain ⟨i1, i2⟩ := diff_good (a.length + b.length) a b (Nat.le_refl _) ((may_iff a).1 hm).2.2 ((may_iff b).1 hk).2.2
          rw [← hd] at i1 i2
          have := lFLeast_loop n a b (diffS a b) (by omega) (by omega) (by omega) (by omega) i1 i2 n 0 (Nat.zero_le _) (by omega)
          rw [show ((0 : Nat) : Int) = (0 : Int) from rfl] at this
          rw [this]; rfl
theorem lFLeast_true (a : den (.lst FT)) (b : den (.lst FT)) (ha : okDen (.lst FT) a) (hb : okDen (.lst FT) b) : lFLeast_t fuel5 a b = some true := lFLeast_P fuel5 (by decide) a b ha.1 hb.1
end Go.Proofs.YtpiiljpbfioilaaDoor.AM
