/- One text of FilX, StaD, StaG1, StaG2, StaE1, StaF, StaE (mk/pack.py). -/
import Derived.Test.YtaglhmoldbndkaaDoorSp15
import Derived.Test.YtaglhmoldbndkaaDoorSp9
/- Layer 5, beside its laws (over06/fil.py takes it from XFilPAll). -/
namespace Go.Proofs.YtaglhmoldbndkaaDoor.AM
open Go.RowKit
set_option linter.unusedVariables false
set_option linter.unusedSimpArgs false
theorem smallF_ok {l : List FD} (h : smallF l = true) : l.length ≤ 60 ∧ ∀ f ∈ l, f.1.length ≤ 200 ∧ f.2.length ≤ 5000 := by
  unfold smallF at h
  simp only [Bool.and_eq_true, decide_eq_true_eq] at h
  exact ⟨h.2, fun f hf => by have := List.all_eq_true.1 h.1 f hf; simpa using this⟩
theorem fewO_ok {l : List OD} (h : fewO l = true) : l.length ≤ 100 ∧ ∀ o ∈ l, o.2.1.length ≤ 200 ∧ o.2.2.length ≤ 5000 := by
  unfold fewO at h
  simp only [Bool.and_eq_true, decide_eq_true_eq] at h
  exact ⟨h.2, fun f hf => by have := List.all_eq_true.1 h.1 f hf; simpa using this⟩
theorem b8_small {k : Nat} (h : k < 256) : (b8 ((k : Nat) : Int)).toNat = k := by rw [b8_nat, UInt8.toNat_ofNat']; omega
theorem chk_ok {o : OD} (h : chkS o = 0) : pathS o.2.1 = true ∧ o.2.1.length ≤ 60 ∧ (o.1 = true → o.2.2 = []) ∧ o.2.2.length ≤ 4096 := by
  unfold chkS at h
  cases hp : pathS o.2.1 with
  | false => rw [hp] at h; simp at h
  | true =>
    rw [hp] at h
    have hl := (path_parts hp).1
    simp only [if_true] at h
    by_cases h1 : (o.1 && !decide (o.2.2 = [])) = true
    · rw [if_pos h1] at h; cases h
    · rw [if_neg h1] at h
      by_cases h2 : 4096 < o.2.2.length
      · rw [if_pos h2] at h; cases h
      · refine ⟨rfl, hl, fun h3 => ?_, by omega⟩
        rw [h3] at h1
        simpa using h1
theorem one_of_lay (o : OD) (rest : List UInt8) (h : chkS o = 0) : oneS (layS o ++ rest) = some (o, (layS o).length) := by
  obtain ⟨h1, h2, h3, h4⟩ := chk_ok h
  obtain ⟨gone, p, d⟩ := o
  simp only at h1 h2 h3 h4
  have hb : (b8 ((p.length : Nat) : Int)).toNat = p.length := b8_small (by omega)
  cases gone with
  | true =>
    have hd := h3 rfl
    subst hd
    have e : layS (true, (p, [])) ++ rest = 1 :: b8 p.length :: (p ++ rest) := by unfold layS; simp
    have el : (layS (true, (p, []))).length = 2 + p.length := by { unfold layS; simp <;> omega }
    rw [e, el, oneS, if_pos (Or.inr rfl), hb, if_neg (by simp), if_pos rfl, List.take_left]
  | false =>
    have hx : (b8 ((d.length / 256 : Nat) : Int)).toNat = d.length / 256 := b8_small (by omega)
    have hy : (b8 ((d.length % 256 : Nat) : Int)).toNat = d.length % 256 := b8_small (by omega)
    have e : layS (false, (p, d)) ++ rest = 0 :: b8 p.length :: (p ++ b8 ((d.length / 256 : Nat) : Int) :: b8 ((d.length % 256 : Nat) : Int) :: (d ++ rest)) := by unfold layS; simp
    have el : (layS (false, (p, d))).length = 4 + p.length + d.length := by { unfold layS; simp <;> omega }
    rw [e, el, oneS, if_pos (Or.inl rfl), hb, if_neg (by simp <;> omega), if_neg (by decide), List.take_left, List.drop_left]
    simp only [hx, hy]
    have e2 : 256 * (d.length / 256) + d.length % 256 = d.length := by omega
    rw [e2, if_neg (by simp), List.take_left]
theorem parse_all : ∀ (ops : List OD) (m : Nat), (∀ o ∈ ops, chkS o = 0) → ops.length < m → parseO m ((ops.map layS).flatten) = some ops
  | [], m, _, h => by
    obtain ⟨k, rfl⟩ : ∃ k, m = k + 1 := ⟨m - 1, by simp at h; omega⟩
    rw [parseO]; rfl
  | o :: t, m, hc, h => by
    obtain ⟨k, rfl⟩ : ∃ k, m = k + 1 := ⟨m - 1, by simp at h; omega⟩
    have h0 := hc o (List.mem_cons_self ..)
    have hne : ¬ ((o :: t).map layS).flatten = [] := by
      rw [List.map_cons, List.flatten_cons]; unfold layS; simp
    have hd : (layS o ++ (t.map layS).flatten).drop (layS o).length = (t.map layS).flatten := List.drop_left ..
    rw [parseO, if_neg hne, List.map_cons, List.flatten_cons, one_of_lay o _ h0]
    simp only [hd]
    rw [parse_all t k (fun o ho => hc o (List.mem_cons_of_mem _ ho)) (by simp at h; omega)]; rfl
theorem lays_len : ∀ (ops : List OD), ops.length ≤ ((ops.map layS).flatten).length
  | [] => Nat.le_refl _
  | o :: t => by
    have := lays_len t
    rw [List.map_cons, List.flatten_cons, List.length_append, List.length_cons]
    have : 1 ≤ (layS o).length := by unfold layS; simp
    omega
theorem encL_all : ∀ (ops : List OD), (encL ops).2 = 0 → ∀ o ∈ ops, chkS o = 0
  | [], _, o, ho => by cases ho
  | x :: t, h, o, ho => by
    rw [encL] at h
    by_cases hc : chkS x = 0
    · rw [if_pos hc] at h
      by_cases h2 : (encL t).2 = 0
      · rcases List.mem_cons.1 ho with rfl | ho
        · exact hc
        · exact encL_all t h2 o ho
      · rw [if_neg h2] at h; exact absurd h h2
    · rw [if_neg hc] at h; exact absurd h hc
theorem enc_dec (ops : List OD) (h : (encS ops).2 = 0) : decS (encS ops).1 = (ops, 0) := by
  have h0 := h
  unfold encS at h
  by_cases h2 : (encL ops).2 = 0
  · rw [if_pos h2] at h
    have hall := encL_all ops h2
    have hl := encL_lay ops hall
    by_cases h3 : 4096 < (encL ops).1.length
    · rw [if_pos h3] at h; cases h
    · have e : (encS ops).1 = (ops.map layS).flatten := by unfold encS; rw [if_pos h2, if_neg h3, hl]
      have hlen := lays_len ops
      unfold decS
      rw [e, parse_all ops _ hall (by omega)]
      simp only
      rw [if_pos ⟨h0, e⟩]
  · rw [if_neg h2] at h; exact absurd h h2
theorem enc_len (ops : List OD) : (encS ops).1.length ≤ 4096 := by
  unfold encS
  split
  · split
    · simp
    · simp only; omega
  · simp
theorem app_len {a : List FD} {ops : List OD} : (appS a ops).1.length ≤ 40 := by
  unfold appS
  cases hm : mayS a with
  | false => simp
  | true =>
    by_cases hz : (appL a ops).2 = 0
    · have := app_may ops hm hz
      have := (may_iff _).1 this
      simp only [if_true]; omega
    · simp only [if_true]; rw [appL_nil ops a hz]; simp
theorem app_one {l : List FD} {o : OD} (hm : mayS l = true) : appS l [o] = if (stepS l o).2 = 0 then ((stepS l o).1, 0) else ([], (stepS l o).2) := by unfold appS; rw [hm]; rfl
end Go.Proofs.YtaglhmoldbndkaaDoor.AM

/- Layer 20: files.Decode, as a function that makes a list of its caller's own. -/
namespace Go.Proofs.YtaglhmoldbndkaaDoor.AM
open Go.RowKit Go.Shelf Go.Lib
set_option linter.unusedVariables false
set_option linter.unusedSimpArgs false
/-- a list that is new, and what it holds: what a call that makes it comes to -/
theorem made_rowB {F : Fr} {e : Env} {w w' : World} {E : Nat} {T : Ty} {l : List (den T)} {v : Value} {cells : List Value} (hE : E < 1099511627776) (hp : Hp F noSt e w) (hb : Below w.heap.size w w') (hown : w'.ownsRow w.heap.size E (width T) v l.length cells)
    (hl : ∀ x ∈ l, (toDats T x).length = width T) (hd : All2 (DatRep e.Pc w') cells (l.map (toDats T)).flatten) (h1 : ∀ u ∈ cells, u.oneCell' = true) (hsl : ∃ a n c, v = .slice a n c) :
    ∃ e', Hp F (eS ⟨[], [], [(1000000, ⟨0, E, true, T, l⟩)]⟩) e' w' ∧ DRep e' (eS ⟨[], [], [(1000000, ⟨0, E, true, T, l⟩)]⟩) w' v (.one (.c (.row 1000000 0))) := by
  obtain ⟨_, h⟩ := hp.grow hb
  have hrow : ∀ t r, (eS ⟨[], [], [(1000000, ⟨0, E, true, T, l⟩)]⟩).row t = some r → t = 1000000 ∧ r = ⟨0, E, width T, true, l.map (toDats T)⟩ := fun t r hr => by
    have hr' : (lk [(1000000, (⟨0, E, true, T, l⟩ : TRow))] t).map eR = some r := hr
    rw [lk_cons] at hr'
    split at hr'
    · rename_i ht
      exact ⟨ht, (Option.some.inj hr').symm⟩
    · cases hr'
  have hbox : ∀ β, ¬ ((eS ⟨[], [], [(1000000, (⟨0, E, true, T, l⟩ : TRow))]⟩).box β).isSome = true := fun β hβ => by
    have : ((lk ([] : List (Nat × (Nat × List TC))) β).map eB).isSome = true := hβ
    cases this
  have hrv : ∀ r : Row, r.gen = 0 → upd2 e.rv 1000000 0 v 1000000 r.gen = v := fun r hr => by rw [hr]; exact upd2_same _ _ _ _
  have hge : ∀ b, v.ownBlock = some b → w.heap.size ≤ b := fun b hvb => by
    rcases hown.2 with ⟨rfl, _⟩ | ⟨g, cap, cur, rfl, hg, _⟩
    · cases hvb
    · obtain rfl : g = b := by simpa [Value.ownBlock] using hvb
      exact hg
  have hnk : ∀ b, v.ownBlock = some b → ¬ F.K b := fun b hvb hk => absurd (Nat.lt_of_lt_of_le (F.kLt b hk) hp.kp.wkLe) (by have := hge b hvb; omega)
  have hown' : ownsX w' F.w0.heap.size E (width T) v l.length cells := by
    have h2 := (ownsX_iff hE).2 hown
    refine ⟨h2.1, ?_⟩
    rcases h2.2 with h3 | ⟨g, cap, cur, h3, h4, h5⟩
    · exact .inl h3
    · exact .inr ⟨g, cap, cur, h3, Nat.le_trans hp.sizeLe h4, h5⟩
  refine ⟨{ e with rv := upd2 e.rv 1000000 0 v }, ⟨h.below, h.pc0, h.pcNew, h.pcLt, fun β T' cs hx => absurd (isSome_some hx) (hbox β), fun β hβ => absurd hβ (hbox β), fun β β' hβ => absurd hβ (hbox β), fun t r hr => ?_, fun t r b hr hw => ?_, fun t r b hr hvb o hpc => ?_, fun t r b β hr hvb hβ => absurd hβ (hbox β), fun t t' r r' b hn hr hr' => ?_,
    ⟨h.kp.keep, h.kp.wkLe, fun β hβ => absurd hβ (hbox β), fun t r b hr hvb => ?_, h.kp.pcK, h.kp.cellK, h.kp.boxM⟩⟩, ?_⟩
  · obtain ⟨rfl, rfl⟩ := hrow t r hr
    refine ⟨fun x hx => ?_, cells, ?_, hd, h1⟩
    · obtain ⟨y, hy, rfl⟩ := List.mem_map.1 hx
      exact hl y hy
    · show ownsX w' _ E (width T) (upd2 e.rv 1000000 0 v 1000000 0) (l.map (toDats T)).length cells
      rw [upd2_same, List.length_map]; exact hown'
  · obtain ⟨rfl, rfl⟩ := hrow t r hr
    cases hw
  · obtain ⟨rfl, rfl⟩ := hrow t r hr
    have hvb' : (upd2 e.rv 1000000 0 v 1000000 0).ownBlock = some b := hvb
    rw [upd2_same] at hvb'
    exact absurd (hp.pcLt b o hpc) (by have := hge b hvb'; omega)
  · obtain ⟨rfl, _⟩ := hrow t r hr
    obtain ⟨rfl, _⟩ := hrow t' r' hr'
    exact absurd rfl hn
  · obtain ⟨rfl, rfl⟩ := hrow t r hr
    have hvb' : (upd2 e.rv 1000000 0 v 1000000 0).ownBlock = some b := hvb
    rw [upd2_same] at hvb'
    exact hnk b hvb'
  · show (∃ r, (eS ⟨[], [], [(1000000, ⟨0, E, true, T, l⟩)]⟩).row 1000000 = some r ∧ 0 ≤ r.gen) ∧ v = upd2 e.rv 1000000 0 v 1000000 0 ∧ ∃ a n c, v = .slice a n c
    exact ⟨⟨_, rfl, Nat.zero_le _⟩, (upd2_same _ _ _ _).symm, hsl⟩
def fDecX_t (s : List UInt8) : Option ((Unit × Int) × (Unit × (List OD × Unit))) := if s.length ≤ 1000000 then some (((), (decS s).2), ((), ((decS s).1, ()))) else none
def fDecX_fx : FX := { f := 33, args := [.one (.c (.d .str))], boxes := [], rows := [], res := .tup [.c (.row 1000000), .c (.d (.int .i64))], oboxes := [], orows := [(1000000, ⟨41, true, OT⟩)], F := fun p => fDecX_t p.1 }
theorem ocells_rep {Pc : Nat → Nat → Prop} {w : World} : ∀ (l : List OD), All2 (DatRep Pc w) (ocells l) (l.map (toDats OT)).flatten
  | [] => trivial
  | o :: l => ⟨.v _, .v _, .v _, ocells_rep l⟩
theorem fDecX_xok : FXall Inv Tryd.prog fDecX_fx := fun G hG => ⟨by kernel_rfl, fun p q h => by
  obtain ⟨s, p2⟩ := p
  have h' : fDecX_t s = some q := h
  unfold fDecX_t at h'
  split at h'
  case isFalse => cases h'
  rename_i hc
  obtain rfl := Option.some.inj h'
  intro F hF e w vs hp hv
  obtain ⟨vl⟩ := vs
  match vl, hv with
  | [x], ⟨h1, _⟩ =>
    obtain rfl : x = .string (ba s) := of_val (σ := noSt) h1
    have hIw : Inv w := hG.im w (by have h9 := F.gst _ _ F.g0 hp.below; rw [hF] at h9; exact h9)
    refine (Decode_calls s w hIw hc).mono ?_
    rintro e1 w' ⟨v', rfl, hown, hb⟩
    have hp' : Hp F noSt e w := hp.re (F' := F) (σ' := noSt) rfl rfl rfl rfl rfl (by funext i; rfl) (by funext i; rfl)
    obtain ⟨e', k1, k2⟩ := made_rowB (T := OT) (l := (decS s).1) (by decide) hp' hb hown (fun _ _ => rfl) (ocells_rep _) (ocells_one _) (by
      rcases hown.2 with ⟨h5, _⟩ | ⟨g, cap, cur, h5, _⟩ <;> exact ⟨_, _, _, h5⟩)
    exact ⟨_, e', rfl, k1, #[v', .int .i64 (decS s).2], rfl, k2, drep_val (σ := noSt) (.int .i64 (decS s).2), trivial⟩⟩
end Go.Proofs.YtaglhmoldbndkaaDoor.AM

/- Layer 20, first part: what functions come to, as plain functions of data: written by program (shal.py); the kernel checks it. -/
namespace Go.Proofs.YtaglhmoldbndkaaDoor.AM
open Go.RowKit
set_option linter.unusedVariables false
set_option maxRecDepth 20000
/-! slices.Index[[]string,string] -/
@[reducible] def slIndex_sh0 : SSt := ⟨[(0, .one (.c (.d (.lst .str)))), (1, .one (.c (.d .str))), (7, .one (.c (.d (.int .i64)))), (8, .one (.c (.d (.int .i64))))], [], []⟩
@[reducible] def slIndex_outs0 : List (Exit × SSt) := [(.ret, ⟨[(4, .one (.c (.d (.int .i64))))], [], []⟩), (.exit 0, ⟨[], [], []⟩)]
def slIndex_l0 (n : Nat) (rec : (List (List UInt8)) → (List UInt8) → Int → Int → Option (((Int × (Unit)) × (Unit) × (Unit)) ⊕ ((Unit) × (Unit) × (Unit)))) (a1 : List (List UInt8)) (a2 : List UInt8) (a3 : Int) (a4 : Int) : Option (((Int × (Unit)) × (Unit) × (Unit)) ⊕ ((Unit) × (Unit) × (Unit))) :=
  (bif decide (a4 < a3) then (idxL a1 a4).bind fun (x1 : List UInt8) => (bif decide (a2 = x1) then some (Sum.inl ((a4, ()), ((), ()))) else letO (IntKind.wrap .i64 (a4 + (1 : Int))) fun (n2 : Int) => rec a1 a2 a3 n2) else some (Sum.inr (((), ((), ())))))
def slIndex_F0 (n : Nat) (rec : pSt slIndex_sh0 → Option (pOuts slIndex_outs0)) (p : pSt slIndex_sh0) : Option (pOuts slIndex_outs0) := slIndex_l0 n (fun a1 a2 a3 a4 => rec ((a1, (a2, (a3, (a4, ())))), ((), ()))) p.1.1 p.1.2.1 p.1.2.2.1 p.1.2.2.2.1
def slIndex_loop0 (n m : Nat) (a1 : List (List UInt8)) (a2 : List UInt8) (a3 : Int) (a4 : Int) : Option (((Int × (Unit)) × (Unit) × (Unit)) ⊕ ((Unit) × (Unit) × (Unit))) := iterF (slIndex_F0 n) m ((a1, (a2, (a3, (a4, ())))), ((), ()))
theorem slIndex_loop0_succ (n m : Nat) (a1 : List (List UInt8)) (a2 : List UInt8) (a3 : Int) (a4 : Int) : slIndex_loop0 n (m + 1) a1 a2 a3 a4 = slIndex_l0 n (fun a1 a2 a3 a4 => slIndex_loop0 n m a1 a2 a3 a4) a1 a2 a3 a4 := rfl
def slIndex_L0 (n : Nat) : LC := { sh := slIndex_sh0, outs := slIndex_outs0, F := iterF (slIndex_F0 n) n }
def slIndex_lts (n : Nat) : List LC := [slIndex_L0 n]
def slIndex_t (n : Nat) (a1 : List (List UInt8)) (a2 : List UInt8) : Option (Int) :=
  (slIndex_loop0 n n a1 a2 ((List.length a1 : Nat) : Int) (0 : Int)).bind fun (o3 : ((Int × (Unit)) × (Unit) × (Unit)) ⊕ ((Unit) × (Unit) × (Unit))) => Sum.elim (fun (q4 : (Int × (Unit)) × (Unit) × (Unit)) => some q4.1.1) (fun (q5 : (Unit) × (Unit) × (Unit)) => some (-1 : Int)) o3
def slIndex_fc (n : Nat) : FC := { f := 61, args := [.one (.c (.d (.lst .str))), .one (.c (.d .str))], res := .one (.c (.d (.int .i64))), F := fun p => slIndex_t n p.1 p.2 }
def slIndex_ct (n : Nat) : List FC := []
theorem slIndex_ctok (n : Nat) {G : World → Prop} (hG : Know Inv G) : ∀ c ∈ slIndex_ct n, FCok Tryd.prog G c ∧ noTup c.args = true := (fun _ h => by cases h)
def slIndex_dh : Hints := []
theorem slIndex_dr : drB slIndex_dh (bodyOf Tryd.f61) = true := by kernel_rfl
theorem slIndex_eq0 (n : Nat) : ∀ rec p, slIndex_F0 n rec p = round Tryd.prog 19 (slIndex_ct n) (slIndex_lts n) slIndex_dh 1 slIndex_sh0 slIndex_outs0 (bodyAt 0 0 (bodyOf Tryd.f61)) rec p := by intro rec p; kernel_rfl
theorem slIndex_lok0 (n : Nat) {F : Fr} (hF : F.n = 19) (hK : Know Inv F.G) : LCok Tryd.prog F (slIndex_L0 n) (bodyAt 0 0 (bodyOf Tryd.f61)) :=
  loop_ok hF (by kernel_rfl) (slIndex_ctok n hK) (slIndex_eq0 n) (fuel := n) (fun _ => rfl) (lok_of fun j L h1 h2 h3 => absurd h2 (Nat.not_lt.2 (Nat.le_trans (by decide +kernel) h1))) (drB_at slIndex_dr)
theorem slIndex_eq (n : Nat) : ∀ a, (slIndex_fc n).F a = main Tryd.prog 19 (slIndex_ct n) (slIndex_lts n) slIndex_dh (bodyOf Tryd.f61) [.tmp 4] (slIndex_fc n).args (slIndex_fc n).res a := by intro a; kernel_rfl
theorem slIndex_ok (n : Nat) : FCall Inv Tryd.prog (slIndex_fc n) := fun G hG => ⟨⟨by kernel_rfl, fun a r h => main_ok (c := bodyOf Tryd.f61) Tryd.func61 (by kernel_rfl) (by kernel_rfl) (Nat.le_of_ble_eq_true (by kernel_rfl)) hG.st (by kernel_rfl) (rs := [.tmp 4]) (by kernel_rfl) (slIndex_ctok n hG) (lts := slIndex_lts n) (fun F hF hFG => have hK : Know Inv F.G := hFG ▸ hG; (lok_of (c := (bodyOf Tryd.f61)) (fun j L h1 h2 h3 => by
    have h2' : j < 1 := Nat.lt_of_lt_of_le h2 (by decide +kernel)
    match j, h1, h2', h3 with
    | 0, _, _, h3 => obtain rfl := Option.some.inj h3; exact (show bodyAt 0 0 (bodyOf Tryd.f61) = bodyAt 0 0 (bodyOf Tryd.f61) by kernel_rfl) ▸ slIndex_lok0 n hF hK
    | j + 1, _, h2', _ => exact absurd h2' (by omega)))) slIndex_dr ((slIndex_eq n a).symm.trans h)⟩, rfl⟩
/-! slices.Contains[[]string,string] -/
def slContains_lts (n : Nat) : List LC := []
def slContains_t (n : Nat) (a1 : List (List UInt8)) (a2 : List UInt8) : Option (Bool) :=
  (slIndex_t n a1 a2).bind fun (r1 : Int) => some (decide ((0 : Int) ≤ r1))
def slContains_fc (n : Nat) : FC := { f := 46, args := [.one (.c (.d (.lst .str))), .one (.c (.d .str))], res := .one (.c (.d .bool)), F := fun p => slContains_t n p.1 p.2 }
def slContains_ct (n : Nat) : List FC := [slIndex_fc n]
theorem slContains_ctok (n : Nat) {G : World → Prop} (hG : Know Inv G) : ∀ c ∈ slContains_ct n, FCok Tryd.prog G c ∧ noTup c.args = true := List.forall_mem_cons.2 ⟨slIndex_ok n G hG, (fun _ h => by cases h)⟩
def slContains_dh : Hints := []
theorem slContains_dr : drB slContains_dh (bodyOf Tryd.f46) = true := by kernel_rfl
theorem slContains_eq (n : Nat) : ∀ a, (slContains_fc n).F a = main Tryd.prog 9 (slContains_ct n) (slContains_lts n) slContains_dh (bodyOf Tryd.f46) [.tmp 4] (slContains_fc n).args (slContains_fc n).res a := by intro a; kernel_rfl
theorem slContains_ok (n : Nat) : FCall Inv Tryd.prog (slContains_fc n) := fun G hG => ⟨⟨by kernel_rfl, fun a r h => main_ok (c := bodyOf Tryd.f46) Tryd.func46 (by kernel_rfl) (by kernel_rfl) (Nat.le_of_ble_eq_true (by kernel_rfl)) hG.st (by kernel_rfl) (rs := [.tmp 4]) (by kernel_rfl) (slContains_ctok n hG) (lts := slContains_lts n) (fun F hF hFG => have hK : Know Inv F.G := hFG ▸ hG; (lok_of fun j L h1 h2 h3 => absurd h2 (Nat.not_lt.2 (Nat.le_trans (by decide +kernel) h1)))) slContains_dr ((slContains_eq n a).symm.trans h)⟩, rfl⟩
/-! armada/stage.end -/
def sEnd_lts (n : Nat) : List LC := []
def sEnd_t (n : Nat)  : Option (Bool × ((List UInt8) × (List UInt8))) :=
  some (true, (([46, 105, 110, 116, 101, 110, 116] : List UInt8), ([] : List UInt8)))
def sEnd_fc (n : Nat) : FC := { f := 35, args := [], res := .one (.agg [.d .bool, .d .str, .d .str]), F := fun p => sEnd_t n  }
def sEnd_ct (n : Nat) : List FC := []
theorem sEnd_ctok (n : Nat) {G : World → Prop} (hG : Know Inv G) : ∀ c ∈ sEnd_ct n, FCok Tryd.prog G c ∧ noTup c.args = true := (fun _ h => by cases h)
def sEnd_dh : Hints := []
theorem sEnd_dr : drB sEnd_dh (bodyOf Tryd.f35) = true := by kernel_rfl
theorem sEnd_eq (n : Nat) : ∀ a, (sEnd_fc n).F a = main Tryd.prog 2 (sEnd_ct n) (sEnd_lts n) sEnd_dh (bodyOf Tryd.f35) [.cell 0 41] (sEnd_fc n).args (sEnd_fc n).res a := by intro a; kernel_rfl
theorem sEnd_ok (n : Nat) : FCall Inv Tryd.prog (sEnd_fc n) := fun G hG => ⟨⟨by kernel_rfl, fun a r h => main_ok (c := bodyOf Tryd.f35) Tryd.func35 (by kernel_rfl) (by kernel_rfl) (Nat.le_of_ble_eq_true (by kernel_rfl)) hG.st (by kernel_rfl) (rs := [.cell 0 41]) (by kernel_rfl) (sEnd_ctok n hG) (lts := sEnd_lts n) (fun F hF hFG => have hK : Know Inv F.G := hFG ▸ hG; (lok_of fun j L h1 h2 h3 => absurd h2 (Nat.not_lt.2 (Nat.le_trans (by decide +kernel) h1)))) sEnd_dr ((sEnd_eq n a).symm.trans h)⟩, rfl⟩
/-! armada/stage.intent -/
def sIntent_lts (n : Nat) : List LC := []
def sIntent_t (n : Nat) (a1 : List (List UInt8 × (List UInt8))) : Option ((List UInt8) × (Int)) :=
  (fMay_t n a1).bind fun (r1 : Bool) => (bif !r1 then some (([] : List UInt8), (1 : Int)) else (fGet_t n a1 ([46, 105, 110, 116, 101, 110, 116] : List UInt8)).bind fun (r2 : (List UInt8) × (Bool)) => (bif !r2.2 then some (([] : List UInt8), (5 : Int)) else some (r2.1, (0 : Int))))
def sIntent_fc (n : Nat) : FC := { f := 32, args := [.one (.c (.d (.lst (.prod .str .str))))], res := .tup [.c (.d .str), .c (.d (.int .i64))], F := fun p => sIntent_t n p }
def sIntent_ct (n : Nat) : List FC := [fMay_fc n, fGet_fc n]
theorem sIntent_ctok (n : Nat) {G : World → Prop} (hG : Know Inv G) : ∀ c ∈ sIntent_ct n, FCok Tryd.prog G c ∧ noTup c.args = true := List.forall_mem_cons.2 ⟨fMay_ok n G hG, List.forall_mem_cons.2 ⟨fGet_ok n G hG, (fun _ h => by cases h)⟩⟩
def sIntent_dh : Hints := []
theorem sIntent_dr : drB sIntent_dh (bodyOf Tryd.f32) = true := by kernel_rfl
theorem sIntent_eq (n : Nat) : ∀ a, (sIntent_fc n).F a = main Tryd.prog 17 (sIntent_ct n) (sIntent_lts n) sIntent_dh (bodyOf Tryd.f32) [.tmp 2, .tmp 3] (sIntent_fc n).args (sIntent_fc n).res a := by intro a; kernel_rfl
theorem sIntent_ok (n : Nat) : FCall Inv Tryd.prog (sIntent_fc n) := fun G hG => ⟨⟨by kernel_rfl, fun a r h => main_ok (c := bodyOf Tryd.f32) Tryd.func32 (by kernel_rfl) (by kernel_rfl) (Nat.le_of_ble_eq_true (by kernel_rfl)) hG.st (by kernel_rfl) (rs := [.tmp 2, .tmp 3]) (by kernel_rfl) (sIntent_ctok n hG) (lts := sIntent_lts n) (fun F hF hFG => have hK : Know Inv F.G := hFG ▸ hG; (lok_of fun j L h1 h2 h3 => absurd h2 (Nat.not_lt.2 (Nat.le_trans (by decide +kernel) h1)))) sIntent_dr ((sIntent_eq n a).symm.trans h)⟩, rfl⟩
/-! armada/stage.ownOf -/
def sOwn_lts (n : Nat) : List LC := []
def sOwn_t (n : Nat) (a1 : List (List UInt8)) : Option ((Unit) × ((List (List UInt8)) × (Unit)) × (Unit)) :=
  some ((), ((a1, ()), ()))
def sOwn_fx (n : Nat) : FX := { f := 28, args := [.one (.c (.d (.lst .str)))], boxes := [], rows := [], res := .one (.c (.fn 45 [1])), oboxes := [(1, (59, [.d (.lst .str)]))], orows := [], F := fun p => sOwn_t n p.1 }
def sOwn_ct (n : Nat) : List FC := []
theorem sOwn_ctok (n : Nat) {G : World → Prop} (hG : Know Inv G) : ∀ c ∈ sOwn_ct n, FCok Tryd.prog G c ∧ noTup c.args = true := (fun _ h => by cases h)
def sOwn_dh : Hints := []
theorem sOwn_dr : drB sOwn_dh (bodyOf Tryd.f28) = true := by kernel_rfl
theorem sOwn_eq (n : Nat) : ∀ a, (sOwn_fx n).F a = xmain Tryd.prog 4 (sOwn_ct n) (sOwn_lts n) sOwn_dh (bodyOf Tryd.f28) [.tmp 2] (sOwn_fx n).args (sOwn_fx n).boxes (sOwn_fx n).rows (sOwn_fx n).res (sOwn_fx n).oboxes (sOwn_fx n).orows a := by intro a; kernel_rfl
theorem sOwn_xok (n : Nat) : FXall Inv Tryd.prog (sOwn_fx n) := fun G hG => ⟨by kernel_rfl, fun a r h => xmain_ok (x := sOwn_fx n) (c := bodyOf Tryd.f28) Tryd.func28 (by kernel_rfl) (by kernel_rfl) (Nat.le_of_ble_eq_true (by kernel_rfl)) (by kernel_rfl) (rs := [.tmp 2]) (by kernel_rfl) (sOwn_ctok n hG) (lts := sOwn_lts n) (fun F hF hFG => have hK : Know Inv F.G := hFG ▸ hG; (lok_of fun j L h1 h2 h3 => absurd h2 (Nat.not_lt.2 (Nat.le_trans (by decide +kernel) h1)))) sOwn_dr ((sOwn_eq n a).symm.trans h)⟩
/-! armada/stage.ownOf$1 -/
def sIs_lts (n : Nat) : List LC := []
def sIs_t (n : Nat) (a1 : Bool × ((List UInt8) × (List UInt8))) (a2 : Unit) (b1 : List (List UInt8)) : Option ((Bool) × ((List (List UInt8)) × (Unit)) × (Unit)) :=
  (slContains_t n b1 a1.2.1).bind fun (r1 : Bool) => some (r1, ((b1, ()), ()))
def sIs_fx (n : Nat) : FX := { f := 45, args := [.one (.agg [.d .bool, .d .str, .d .str]), .one (.c (.box 1000000 0))], boxes := [(1000000, (59, [.d (.lst .str)]))], rows := [], res := .one (.c (.d .bool)), oboxes := [(1000000, (59, [.d (.lst .str)]))], orows := [], F := fun p => sIs_t n p.1.1 p.1.2 p.2.1.1 }
def sIs_ct (n : Nat) : List FC := [slContains_fc n]
theorem sIs_ctok (n : Nat) {G : World → Prop} (hG : Know Inv G) : ∀ c ∈ sIs_ct n, FCok Tryd.prog G c ∧ noTup c.args = true := List.forall_mem_cons.2 ⟨slContains_ok n G hG, (fun _ h => by cases h)⟩
def sIs_dh : Hints := []
theorem sIs_dr : drB sIs_dh (bodyOf Tryd.f45) = true := by kernel_rfl
theorem sIs_eq (n : Nat) : ∀ a, (sIs_fx n).F a = xmain Tryd.prog 8 (sIs_ct n) (sIs_lts n) sIs_dh (bodyOf Tryd.f45) [.tmp 3] (sIs_fx n).args (sIs_fx n).boxes (sIs_fx n).rows (sIs_fx n).res (sIs_fx n).oboxes (sIs_fx n).orows a := by intro a; kernel_rfl
theorem sIs_xok (n : Nat) : FXall Inv Tryd.prog (sIs_fx n) := fun G hG => ⟨by kernel_rfl, fun a r h => xmain_ok (x := sIs_fx n) (c := bodyOf Tryd.f45) Tryd.func45 (by kernel_rfl) (by kernel_rfl) (Nat.le_of_ble_eq_true (by kernel_rfl)) (by kernel_rfl) (rs := [.tmp 3]) (by kernel_rfl) (sIs_ctok n hG) (lts := sIs_lts n) (fun F hF hFG => have hK : Know Inv F.G := hFG ▸ hG; (lok_of fun j L h1 h2 h3 => absurd h2 (Nat.not_lt.2 (Nat.le_trans (by decide +kernel) h1)))) sIs_dr ((sIs_eq n a).symm.trans h)⟩
/-! slices.IndexFunc[[]armada/api.Op,armada/api.Op] -/
@[reducible] def ixOp_sh0 : SSt := ⟨[(0, .one (.c (.d (.lst (.prod .bool (.prod .str .str)))))), (1, .one (.c (.fn 45 [1000000]))), (7, .one (.c (.d (.int .i64)))), (8, .one (.c (.d (.int .i64))))], [(1000000, (59, [.d (.lst .str)]))], []⟩
@[reducible] def ixOp_outs0 : List (Exit × SSt) := [(.ret, ⟨[(4, .one (.c (.d (.int .i64))))], [(1000000, (59, [.d (.lst .str)]))], []⟩), (.exit 0, ⟨[], [(1000000, (59, [.d (.lst .str)]))], []⟩)]
def ixOp_l0 (n : Nat) (rec : (List ((Bool) × (List UInt8 × (List UInt8)))) → Int → Int → (List (List UInt8)) → Option (((Int × (Unit)) × ((List (List UInt8)) × (Unit)) × (Unit)) ⊕ ((Unit) × ((List (List UInt8)) × (Unit)) × (Unit)))) (a1 : List ((Bool) × (List UInt8 × (List UInt8)))) (a2 : Int) (a3 : Int) (a4 : List (List UInt8)) : Option (((Int × (Unit)) × ((List (List UInt8)) × (Unit)) × (Unit)) ⊕ ((Unit) × ((List (List UInt8)) × (Unit)) × (Unit))) :=
  (bif decide (a3 < a2) then (idxL a1 a3).bind fun (x1 : (Bool) × (List UInt8 × (List UInt8))) => (sIs_t n x1 () a4).bind fun (r2 : (Bool) × ((List (List UInt8)) × (Unit)) × (Unit)) => (bif r2.1 then some (Sum.inl ((a3, ()), ((r2.2.1.1, ()), ()))) else letO (IntKind.wrap .i64 (a3 + (1 : Int))) fun (n3 : Int) => rec a1 a2 n3 r2.2.1.1) else some (Sum.inr (((), ((a4, ()), ())))))
def ixOp_F0 (n : Nat) (rec : pSt ixOp_sh0 → Option (pOuts ixOp_outs0)) (p : pSt ixOp_sh0) : Option (pOuts ixOp_outs0) := ixOp_l0 n (fun a1 a2 a3 a4 => rec ((a1, ((), (a2, (a3, ())))), ((a4, ()), ()))) p.1.1 p.1.2.2.1 p.1.2.2.2.1 p.2.1.1
def ixOp_loop0 (n m : Nat) (a1 : List ((Bool) × (List UInt8 × (List UInt8)))) (a2 : Int) (a3 : Int) (a4 : List (List UInt8)) : Option (((Int × (Unit)) × ((List (List UInt8)) × (Unit)) × (Unit)) ⊕ ((Unit) × ((List (List UInt8)) × (Unit)) × (Unit))) := iterF (ixOp_F0 n) m ((a1, ((), (a2, (a3, ())))), ((a4, ()), ()))
theorem ixOp_loop0_succ (n m : Nat) (a1 : List ((Bool) × (List UInt8 × (List UInt8)))) (a2 : Int) (a3 : Int) (a4 : List (List UInt8)) : ixOp_loop0 n (m + 1) a1 a2 a3 a4 = ixOp_l0 n (fun a1 a2 a3 a4 => ixOp_loop0 n m a1 a2 a3 a4) a1 a2 a3 a4 := rfl
def ixOp_L0 (n : Nat) : LC := { sh := ixOp_sh0, outs := ixOp_outs0, F := iterF (ixOp_F0 n) n }
def ixOp_lts (n : Nat) : List LC := [ixOp_L0 n]
def ixOp_t (n : Nat) (a1 : List ((Bool) × (List UInt8 × (List UInt8)))) (a2 : Unit) (b1 : List (List UInt8)) : Option ((Int) × ((List (List UInt8)) × (Unit)) × (Unit)) :=
  (ixOp_loop0 n n a1 ((List.length a1 : Nat) : Int) (0 : Int) b1).bind fun (o4 : ((Int × (Unit)) × ((List (List UInt8)) × (Unit)) × (Unit)) ⊕ ((Unit) × ((List (List UInt8)) × (Unit)) × (Unit))) => Sum.elim (fun (q5 : (Int × (Unit)) × ((List (List UInt8)) × (Unit)) × (Unit)) => some (q5.1.1, ((q5.2.1.1, ()), ()))) (fun (q6 : (Unit) × ((List (List UInt8)) × (Unit)) × (Unit)) => some ((-1 : Int), ((q6.2.1.1, ()), ()))) o4
def ixOp_fx (n : Nat) : FX := { f := 60, args := [.one (.c (.d (.lst (.prod .bool (.prod .str .str))))), .one (.c (.fn 45 [1000000]))], boxes := [(1000000, (59, [.d (.lst .str)]))], rows := [], res := .one (.c (.d (.int .i64))), oboxes := [(1000000, (59, [.d (.lst .str)]))], orows := [], F := fun p => ixOp_t n p.1.1 p.1.2 p.2.1.1 }
def ixOp_ct (n : Nat) : List FC := [xcall (sIs_fx n) [(1000000, 1000000)] []]
theorem ixOp_ctok (n : Nat) {G : World → Prop} (hG : Know Inv G) : ∀ c ∈ ixOp_ct n, FCok Tryd.prog G c ∧ noTup c.args = true := List.forall_mem_cons.2 ⟨xcallOk (sIs_xok n G hG), (fun _ h => by cases h)⟩
def ixOp_dh : Hints := []
theorem ixOp_dr : drB ixOp_dh (bodyOf Tryd.f60) = true := by kernel_rfl
theorem ixOp_eq0 (n : Nat) : ∀ rec p, ixOp_F0 n rec p = round Tryd.prog 19 (ixOp_ct n) (ixOp_lts n) ixOp_dh 1 ixOp_sh0 ixOp_outs0 (bodyAt 0 0 (bodyOf Tryd.f60)) rec p := by intro rec p; kernel_rfl
theorem ixOp_lok0 (n : Nat) {F : Fr} (hF : F.n = 19) (hK : Know Inv F.G) : LCok Tryd.prog F (ixOp_L0 n) (bodyAt 0 0 (bodyOf Tryd.f60)) :=
  loop_ok hF (by kernel_rfl) (ixOp_ctok n hK) (ixOp_eq0 n) (fuel := n) (fun _ => rfl) (lok_of fun j L h1 h2 h3 => absurd h2 (Nat.not_lt.2 (Nat.le_trans (by decide +kernel) h1))) (drB_at ixOp_dr)
theorem ixOp_eq (n : Nat) : ∀ a, (ixOp_fx n).F a = xmain Tryd.prog 19 (ixOp_ct n) (ixOp_lts n) ixOp_dh (bodyOf Tryd.f60) [.tmp 4] (ixOp_fx n).args (ixOp_fx n).boxes (ixOp_fx n).rows (ixOp_fx n).res (ixOp_fx n).oboxes (ixOp_fx n).orows a := by intro a; kernel_rfl
theorem ixOp_xok (n : Nat) : FXall Inv Tryd.prog (ixOp_fx n) := fun G hG => ⟨by kernel_rfl, fun a r h => xmain_ok (x := ixOp_fx n) (c := bodyOf Tryd.f60) Tryd.func60 (by kernel_rfl) (by kernel_rfl) (Nat.le_of_ble_eq_true (by kernel_rfl)) (by kernel_rfl) (rs := [.tmp 4]) (by kernel_rfl) (ixOp_ctok n hG) (lts := ixOp_lts n) (fun F hF hFG => have hK : Know Inv F.G := hFG ▸ hG; (lok_of (c := (bodyOf Tryd.f60)) (fun j L h1 h2 h3 => by
    have h2' : j < 1 := Nat.lt_of_lt_of_le h2 (by decide +kernel)
    match j, h1, h2', h3 with
    | 0, _, _, h3 => obtain rfl := Option.some.inj h3; exact (show bodyAt 0 0 (bodyOf Tryd.f60) = bodyAt 0 0 (bodyOf Tryd.f60) by kernel_rfl) ▸ ixOp_lok0 n hF hK
    | j + 1, _, h2', _ => exact absurd h2' (by omega)))) ixOp_dr ((ixOp_eq n a).symm.trans h)⟩
/-! slices.ContainsFunc[[]armada/api.Op,armada/api.Op] -/
def ctOp_lts (n : Nat) : List LC := []
def ctOp_t (n : Nat) (a1 : List ((Bool) × (List UInt8 × (List UInt8)))) (a2 : Unit) (b1 : List (List UInt8)) : Option ((Bool) × ((List (List UInt8)) × (Unit)) × (Unit)) :=
  (ixOp_t n a1 () b1).bind fun (r1 : (Int) × ((List (List UInt8)) × (Unit)) × (Unit)) => some (decide ((0 : Int) ≤ r1.1), ((r1.2.1.1, ()), ()))
def ctOp_fx (n : Nat) : FX := { f := 44, args := [.one (.c (.d (.lst (.prod .bool (.prod .str .str))))), .one (.c (.fn 45 [1000000]))], boxes := [(1000000, (59, [.d (.lst .str)]))], rows := [], res := .one (.c (.d .bool)), oboxes := [(1000000, (59, [.d (.lst .str)]))], orows := [], F := fun p => ctOp_t n p.1.1 p.1.2 p.2.1.1 }
def ctOp_ct (n : Nat) : List FC := [xcall (ixOp_fx n) [(1000000, 1000000)] []]
theorem ctOp_ctok (n : Nat) {G : World → Prop} (hG : Know Inv G) : ∀ c ∈ ctOp_ct n, FCok Tryd.prog G c ∧ noTup c.args = true := List.forall_mem_cons.2 ⟨xcallOk (ixOp_xok n G hG), (fun _ h => by cases h)⟩
def ctOp_dh : Hints := []
theorem ctOp_dr : drB ctOp_dh (bodyOf Tryd.f44) = true := by kernel_rfl
theorem ctOp_eq (n : Nat) : ∀ a, (ctOp_fx n).F a = xmain Tryd.prog 9 (ctOp_ct n) (ctOp_lts n) ctOp_dh (bodyOf Tryd.f44) [.tmp 4] (ctOp_fx n).args (ctOp_fx n).boxes (ctOp_fx n).rows (ctOp_fx n).res (ctOp_fx n).oboxes (ctOp_fx n).orows a := by intro a; kernel_rfl
theorem ctOp_xok (n : Nat) : FXall Inv Tryd.prog (ctOp_fx n) := fun G hG => ⟨by kernel_rfl, fun a r h => xmain_ok (x := ctOp_fx n) (c := bodyOf Tryd.f44) Tryd.func44 (by kernel_rfl) (by kernel_rfl) (Nat.le_of_ble_eq_true (by kernel_rfl)) (by kernel_rfl) (rs := [.tmp 4]) (by kernel_rfl) (ctOp_ctok n hG) (lts := ctOp_lts n) (fun F hF hFG => have hK : Know Inv F.G := hFG ▸ hG; (lok_of fun j L h1 h2 h3 => absurd h2 (Nat.not_lt.2 (Nat.le_trans (by decide +kernel) h1)))) ctOp_dr ((ctOp_eq n a).symm.trans h)⟩
/-! armada/stage.judge -/
def sJudge_lts (n : Nat) : List LC := []
def sJudge_t (n : Nat) (a1 : List (List UInt8 × (List UInt8))) (a2 : List ((Bool) × (List UInt8 × (List UInt8)))) (a3 : Unit) (b1 : List (List UInt8)) : Option ((Int) × ((List (List UInt8)) × (Unit)) × (Unit)) :=
  (sIntent_t n a1).bind fun (r1 : (List UInt8) × (Int)) => (bif decide (r1.2 = (0 : Int)) then some ((14 : Int), ((b1, ()), ())) else (bif !decide (r1.2 = (5 : Int)) then some (r1.2, ((b1, ()), ())) else (ctOp_t n a2 () b1).bind fun (r2 : (Bool) × ((List (List UInt8)) × (Unit)) × (Unit)) => (bif r2.1 then some ((6 : Int), ((r2.2.1.1, ()), ())) else (fApply_t a1 a2).bind fun (r3 : (List (List UInt8 × (List UInt8))) × (Int)) => some (r3.2, ((r2.2.1.1, ()), ())))))
def sJudge_fx (n : Nat) : FX := { f := 27, args := [.one (.c (.d (.lst (.prod .str .str)))), .one (.c (.d (.lst (.prod .bool (.prod .str .str))))), .one (.c (.fn 45 [1000000]))], boxes := [(1000000, (59, [.d (.lst .str)]))], rows := [], res := .one (.c (.d (.int .i64))), oboxes := [(1000000, (59, [.d (.lst .str)]))], orows := [], F := fun p => sJudge_t n p.1.1 p.1.2.1 p.1.2.2 p.2.1.1 }
def sJudge_ct (n : Nat) : List FC := [xcall (ctOp_fx n) [(1000000, 1000000)] [], sIntent_fc n, fApply_fc]
theorem sJudge_ctok (n : Nat) {G : World → Prop} (hG : Know Inv G) : ∀ c ∈ sJudge_ct n, FCok Tryd.prog G c ∧ noTup c.args = true := List.forall_mem_cons.2 ⟨xcallOk (ctOp_xok n G hG), List.forall_mem_cons.2 ⟨sIntent_ok n G hG, List.forall_mem_cons.2 ⟨fApply_ok G hG, (fun _ h => by cases h)⟩⟩⟩
def sJudge_dh : Hints := []
theorem sJudge_dr : drB sJudge_dh (bodyOf Tryd.f27) = true := by kernel_rfl
theorem sJudge_eq (n : Nat) : ∀ a, (sJudge_fx n).F a = xmain Tryd.prog 32 (sJudge_ct n) (sJudge_lts n) sJudge_dh (bodyOf Tryd.f27) [.tmp 6] (sJudge_fx n).args (sJudge_fx n).boxes (sJudge_fx n).rows (sJudge_fx n).res (sJudge_fx n).oboxes (sJudge_fx n).orows a := by intro a; kernel_rfl
theorem sJudge_xok (n : Nat) : FXall Inv Tryd.prog (sJudge_fx n) := fun G hG => ⟨by kernel_rfl, fun a r h => xmain_ok (x := sJudge_fx n) (c := bodyOf Tryd.f27) Tryd.func27 (by kernel_rfl) (by kernel_rfl) (Nat.le_of_ble_eq_true (by kernel_rfl)) (by kernel_rfl) (rs := [.tmp 6]) (by kernel_rfl) (sJudge_ctok n hG) (lts := sJudge_lts n) (fun F hF hFG => have hK : Know Inv F.G := hFG ▸ hG; (lok_of fun j L h1 h2 h3 => absurd h2 (Nat.not_lt.2 (Nat.le_trans (by decide +kernel) h1)))) sJudge_dr ((sJudge_eq n a).symm.trans h)⟩
/-! armada/stage.Begin -/
def sBegin_lts (n : Nat) : List LC := []
def sBegin_t (n : Nat) (a1 : List (List UInt8 × (List UInt8))) (a2 : List ((Bool) × (List UInt8 × (List UInt8)))) : Option ((List ((Bool) × (List UInt8 × (List UInt8)))) × (Int)) :=
  (sOwn_t n ([([46, 105, 110, 116, 101, 110, 116] : List UInt8)] : List (List UInt8))).bind fun (r1 : (Unit) × ((List (List UInt8)) × (Unit)) × (Unit)) => (sJudge_t n a1 a2 () r1.2.1.1).bind fun (r2 : (Int) × ((List (List UInt8)) × (Unit)) × (Unit)) => (bif !decide (r2.1 = (0 : Int)) then some ([], r2.1) else (fEnc_t a2).bind fun (r3 : (List UInt8) × (Int)) => (bif !decide (r3.2 = (0 : Int)) then some ([], r3.2) else some (([(false, (([46, 105, 110, 116, 101, 110, 116] : List UInt8), r3.1))] : List ((Bool) × (List UInt8 × (List UInt8)))), (0 : Int))))
def sBegin_fc (n : Nat) : FC := { f := 10, args := [.one (.c (.d (.lst (.prod .str .str)))), .one (.c (.d (.lst (.prod .bool (.prod .str .str)))))], res := .tup [.c (.d (.lst (.prod .bool (.prod .str .str)))), .c (.d (.int .i64))], F := fun p => sBegin_t n p.1 p.2 }
def sBegin_ct (n : Nat) : List FC := [xcallN (sOwn_fx n) [] [] [(1, 12)], xcall (sJudge_fx n) [(1000000, 12)] [], fEnc_fc]
theorem sBegin_ctok (n : Nat) {G : World → Prop} (hG : Know Inv G) : ∀ c ∈ sBegin_ct n, FCok Tryd.prog G c ∧ noTup c.args = true := List.forall_mem_cons.2 ⟨xcallNOk (sOwn_xok n G hG), List.forall_mem_cons.2 ⟨xcallOk (sJudge_xok n G hG), List.forall_mem_cons.2 ⟨fEnc_ok G hG, (fun _ h => by cases h)⟩⟩⟩
def sBegin_dh : Hints := []
theorem sBegin_dr : drB sBegin_dh (bodyOf Tryd.f10) = true := by kernel_rfl
theorem sBegin_eq (n : Nat) : ∀ a, (sBegin_fc n).F a = main Tryd.prog 28 (sBegin_ct n) (sBegin_lts n) sBegin_dh (bodyOf Tryd.f10) [.tmp 4, .tmp 5] (sBegin_fc n).args (sBegin_fc n).res a := by intro a; kernel_rfl
theorem sBegin_ok (n : Nat) : FCall Inv Tryd.prog (sBegin_fc n) := fun G hG => ⟨⟨by kernel_rfl, fun a r h => main_ok (c := bodyOf Tryd.f10) Tryd.func10 (by kernel_rfl) (by kernel_rfl) (Nat.le_of_ble_eq_true (by kernel_rfl)) hG.st (by kernel_rfl) (rs := [.tmp 4, .tmp 5]) (by kernel_rfl) (sBegin_ctok n hG) (lts := sBegin_lts n) (fun F hF hFG => have hK : Know Inv F.G := hFG ▸ hG; (lok_of fun j L h1 h2 h3 => absurd h2 (Nat.not_lt.2 (Nat.le_trans (by decide +kernel) h1)))) sBegin_dr ((sBegin_eq n a).symm.trans h)⟩, rfl⟩
/-! armada/stage.Allowed -/
def sAllowed_lts (n : Nat) : List LC := []
def sAllowed_t (n : Nat) (a1 : List (List UInt8 × (List UInt8))) (a2 : List ((Bool) × (List UInt8 × (List UInt8)))) : Option (Int) :=
  (sOwn_t n ([([46, 105, 110, 116, 101, 110, 116] : List UInt8), ([108, 101, 100, 103, 101, 114, 46, 116, 120, 116] : List UInt8)] : List (List UInt8))).bind fun (r1 : (Unit) × ((List (List UInt8)) × (Unit)) × (Unit)) => (sJudge_t n a1 a2 () r1.2.1.1).bind fun (r2 : (Int) × ((List (List UInt8)) × (Unit)) × (Unit)) => some r2.1
def sAllowed_fc (n : Nat) : FC := { f := 22, args := [.one (.c (.d (.lst (.prod .str .str)))), .one (.c (.d (.lst (.prod .bool (.prod .str .str)))))], res := .one (.c (.d (.int .i64))), F := fun p => sAllowed_t n p.1 p.2 }
def sAllowed_ct (n : Nat) : List FC := [xcallN (sOwn_fx n) [] [] [(1, 8)], xcall (sJudge_fx n) [(1000000, 8)] []]
theorem sAllowed_ctok (n : Nat) {G : World → Prop} (hG : Know Inv G) : ∀ c ∈ sAllowed_ct n, FCok Tryd.prog G c ∧ noTup c.args = true := List.forall_mem_cons.2 ⟨xcallNOk (sOwn_xok n G hG), List.forall_mem_cons.2 ⟨xcallOk (sJudge_xok n G hG), (fun _ h => by cases h)⟩⟩
def sAllowed_dh : Hints := []
theorem sAllowed_dr : drB sAllowed_dh (bodyOf Tryd.f22) = true := by kernel_rfl
theorem sAllowed_eq (n : Nat) : ∀ a, (sAllowed_fc n).F a = main Tryd.prog 10 (sAllowed_ct n) (sAllowed_lts n) sAllowed_dh (bodyOf Tryd.f22) [.tmp 4] (sAllowed_fc n).args (sAllowed_fc n).res a := by intro a; kernel_rfl
theorem sAllowed_ok (n : Nat) : FCall Inv Tryd.prog (sAllowed_fc n) := fun G hG => ⟨⟨by kernel_rfl, fun a r h => main_ok (c := bodyOf Tryd.f22) Tryd.func22 (by kernel_rfl) (by kernel_rfl) (Nat.le_of_ble_eq_true (by kernel_rfl)) hG.st (by kernel_rfl) (rs := [.tmp 4]) (by kernel_rfl) (sAllowed_ctok n hG) (lts := sAllowed_lts n) (fun F hF hFG => have hK : Know Inv F.G := hFG ▸ hG; (lok_of fun j L h1 h2 h3 => absurd h2 (Nat.not_lt.2 (Nat.le_trans (by decide +kernel) h1)))) sAllowed_dr ((sAllowed_eq n a).symm.trans h)⟩, rfl⟩
/-! armada/stage.Undo -/
def sUndo_lts (n : Nat) : List LC := []
def sUndo_t (n : Nat) (a1 : List (List UInt8 × (List UInt8))) : Option ((List ((Bool) × (List UInt8 × (List UInt8)))) × (Int)) :=
  (sIntent_t n a1).bind fun (r1 : (List UInt8) × (Int)) => (bif !decide (r1.2 = (0 : Int)) then some ([], r1.2) else (sEnd_t n ).bind fun (r2 : Bool × ((List UInt8) × (List UInt8))) => some (([r2] : List ((Bool) × (List UInt8 × (List UInt8)))), (0 : Int)))
def sUndo_fc (n : Nat) : FC := { f := 16, args := [.one (.c (.d (.lst (.prod .str .str))))], res := .tup [.c (.d (.lst (.prod .bool (.prod .str .str)))), .c (.d (.int .i64))], F := fun p => sUndo_t n p }
def sUndo_ct (n : Nat) : List FC := [sIntent_fc n, sEnd_fc n]
theorem sUndo_ctok (n : Nat) {G : World → Prop} (hG : Know Inv G) : ∀ c ∈ sUndo_ct n, FCok Tryd.prog G c ∧ noTup c.args = true := List.forall_mem_cons.2 ⟨sIntent_ok n G hG, List.forall_mem_cons.2 ⟨sEnd_ok n G hG, (fun _ h => by cases h)⟩⟩
def sUndo_dh : Hints := []
theorem sUndo_dr : drB sUndo_dh (bodyOf Tryd.f16) = true := by kernel_rfl
theorem sUndo_eq (n : Nat) : ∀ a, (sUndo_fc n).F a = main Tryd.prog 16 (sUndo_ct n) (sUndo_lts n) sUndo_dh (bodyOf Tryd.f16) [.tmp 2, .tmp 3] (sUndo_fc n).args (sUndo_fc n).res a := by intro a; kernel_rfl
theorem sUndo_ok (n : Nat) : FCall Inv Tryd.prog (sUndo_fc n) := fun G hG => ⟨⟨by kernel_rfl, fun a r h => main_ok (c := bodyOf Tryd.f16) Tryd.func16 (by kernel_rfl) (by kernel_rfl) (Nat.le_of_ble_eq_true (by kernel_rfl)) hG.st (by kernel_rfl) (rs := [.tmp 2, .tmp 3]) (by kernel_rfl) (sUndo_ctok n hG) (lts := sUndo_lts n) (fun F hF hFG => have hK : Know Inv F.G := hFG ▸ hG; (lok_of fun j L h1 h2 h3 => absurd h2 (Nat.not_lt.2 (Nat.le_trans (by decide +kernel) h1)))) sUndo_dr ((sUndo_eq n a).symm.trans h)⟩, rfl⟩
/-! armada/stage.Pending -/
def sPendX_lts (n : Nat) : List LC := []
def sPendX_t (n : Nat) (a1 : List (List UInt8 × (List UInt8))) : Option ((Unit × (Int)) × (Unit) × ((List ((Bool) × (List UInt8 × (List UInt8)))) × (Unit))) :=
  (sIntent_t n a1).bind fun (r1 : (List UInt8) × (Int)) => (bif !decide (r1.2 = (0 : Int)) then some (((), r1.2), ((), ([], ()))) else (fDecX_t r1.1).bind fun (r2 : (Unit × (Int)) × (Unit) × ((List ((Bool) × (List UInt8 × (List UInt8)))) × (Unit))) => some (((), r2.1.2), ((), (r2.2.2.1, ()))))
def sPendX_fx (n : Nat) : FX := { f := 12, args := [.one (.c (.d (.lst (.prod .str .str))))], boxes := [], rows := [], res := .tup [.c (.row 15), .c (.d (.int .i64))], oboxes := [], orows := [(15, ⟨41, true, (.prod .bool (.prod .str .str))⟩)], F := fun p => sPendX_t n p.1 }
def sPendX_ct (n : Nat) : List FC := [xcall (fDecX_fx) [] [(1000000, 15)], sIntent_fc n]
theorem sPendX_ctok (n : Nat) {G : World → Prop} (hG : Know Inv G) : ∀ c ∈ sPendX_ct n, FCok Tryd.prog G c ∧ noTup c.args = true := List.forall_mem_cons.2 ⟨xcallOk (fDecX_xok G hG), List.forall_mem_cons.2 ⟨sIntent_ok n G hG, (fun _ h => by cases h)⟩⟩
def sPendX_dh : Hints := []
theorem sPendX_dr : drB sPendX_dh (bodyOf Tryd.f12) = true := by kernel_rfl
theorem sPendX_eq (n : Nat) : ∀ a, (sPendX_fx n).F a = xmain Tryd.prog 18 (sPendX_ct n) (sPendX_lts n) sPendX_dh (bodyOf Tryd.f12) [.tmp 2, .tmp 3] (sPendX_fx n).args (sPendX_fx n).boxes (sPendX_fx n).rows (sPendX_fx n).res (sPendX_fx n).oboxes (sPendX_fx n).orows a := by intro a; kernel_rfl
theorem sPendX_xok (n : Nat) : FXall Inv Tryd.prog (sPendX_fx n) := fun G hG => ⟨by kernel_rfl, fun a r h => xmain_ok (x := sPendX_fx n) (c := bodyOf Tryd.f12) Tryd.func12 (by kernel_rfl) (by kernel_rfl) (Nat.le_of_ble_eq_true (by kernel_rfl)) (by kernel_rfl) (rs := [.tmp 2, .tmp 3]) (by kernel_rfl) (sPendX_ctok n hG) (lts := sPendX_lts n) (fun F hF hFG => have hK : Know Inv F.G := hFG ▸ hG; (lok_of fun j L h1 h2 h3 => absurd h2 (Nat.not_lt.2 (Nat.le_trans (by decide +kernel) h1)))) sPendX_dr ((sPendX_eq n a).symm.trans h)⟩
/-! armada/stage.Finish -/
def sFinish_lts (n : Nat) : List LC := []
def sFinish_t (n : Nat) (a1 : List (List UInt8 × (List UInt8))) : Option ((List ((Bool) × (List UInt8 × (List UInt8)))) × (Int)) :=
  (sPendX_t n a1).bind fun (r1 : (Unit × (Int)) × (Unit) × ((List ((Bool) × (List UInt8 × (List UInt8)))) × (Unit))) => (bif !decide (r1.1.2 = (0 : Int)) then some ([], r1.1.2) else (sEnd_t n ).bind fun (r2 : Bool × ((List UInt8) × (List UInt8))) => (appO 40 r1.2.2.1 ([r2] : List ((Bool) × (List UInt8 × (List UInt8))))).bind fun (l3 : List ((Bool) × (List UInt8 × (List UInt8)))) => (fApply_t a1 l3).bind fun (r4 : (List (List UInt8 × (List UInt8))) × (Int)) => (bif !decide (r4.2 = (0 : Int)) then some ([], r4.2) else some (l3, (0 : Int))))
def sFinish_fc (n : Nat) : FC := { f := 14, args := [.one (.c (.d (.lst (.prod .str .str))))], res := .tup [.c (.d (.lst (.prod .bool (.prod .str .str)))), .c (.d (.int .i64))], F := fun p => sFinish_t n p }
def sFinish_ct (n : Nat) : List FC := [xcall (sPendX_fx n) [] [(15, 10)], sEnd_fc n, fApply_fc]
theorem sFinish_ctok (n : Nat) {G : World → Prop} (hG : Know Inv G) : ∀ c ∈ sFinish_ct n, FCok Tryd.prog G c ∧ noTup c.args = true := List.forall_mem_cons.2 ⟨xcallOk (sPendX_xok n G hG), List.forall_mem_cons.2 ⟨sEnd_ok n G hG, List.forall_mem_cons.2 ⟨fApply_ok G hG, (fun _ h => by cases h)⟩⟩⟩
def sFinish_dh : Hints := []
theorem sFinish_dr : drB sFinish_dh (bodyOf Tryd.f14) = true := by kernel_rfl
theorem sFinish_eq (n : Nat) : ∀ a, (sFinish_fc n).F a = main Tryd.prog 30 (sFinish_ct n) (sFinish_lts n) sFinish_dh (bodyOf Tryd.f14) [.tmp 2, .tmp 3] (sFinish_fc n).args (sFinish_fc n).res a := by intro a; kernel_rfl
theorem sFinish_ok (n : Nat) : FCall Inv Tryd.prog (sFinish_fc n) := fun G hG => ⟨⟨by kernel_rfl, fun a r h => main_ok (c := bodyOf Tryd.f14) Tryd.func14 (by kernel_rfl) (by kernel_rfl) (Nat.le_of_ble_eq_true (by kernel_rfl)) hG.st (by kernel_rfl) (rs := [.tmp 2, .tmp 3]) (by kernel_rfl) (sFinish_ctok n hG) (lts := sFinish_lts n) (fun F hF hFG => have hK : Know Inv F.G := hFG ▸ hG; (lok_of fun j L h1 h2 h3 => absurd h2 (Nat.not_lt.2 (Nat.le_trans (by decide +kernel) h1)))) sFinish_dr ((sFinish_eq n a).symm.trans h)⟩, rfl⟩
end Go.Proofs.YtaglhmoldbndkaaDoor.AM

/- Layer 20, second part: what functions come to, as plain functions of data: written by program (shal.py); the kernel checks it. -/
namespace Go.Proofs.YtaglhmoldbndkaaDoor.AM
open Go.RowKit
set_option linter.unusedVariables false
set_option maxRecDepth 20000
/-! armada/stage.Pending -/
def sPending_lts (n : Nat) : List LC := []
def sPending_t (n : Nat) (a1 : List (List UInt8 × (List UInt8))) : Option ((List ((Bool) × (List UInt8 × (List UInt8)))) × (Int)) :=
  (sIntent_t n a1).bind fun (r1 : (List UInt8) × (Int)) => (bif !decide (r1.2 = (0 : Int)) then some ([], r1.2) else (fDec_t r1.1).bind fun (r2 : (List ((Bool) × (List UInt8 × (List UInt8)))) × (Int)) => some r2)
def sPending_fc (n : Nat) : FC := { f := 12, args := [.one (.c (.d (.lst (.prod .str .str))))], res := .tup [.c (.d (.lst (.prod .bool (.prod .str .str)))), .c (.d (.int .i64))], F := fun p => sPending_t n p }
def sPending_ct (n : Nat) : List FC := [sIntent_fc n, fDec_fc]
theorem sPending_ctok (n : Nat) {G : World → Prop} (hG : Know Inv G) : ∀ c ∈ sPending_ct n, FCok Tryd.prog G c ∧ noTup c.args = true := List.forall_mem_cons.2 ⟨sIntent_ok n G hG, List.forall_mem_cons.2 ⟨fDec_ok G hG, (fun _ h => by cases h)⟩⟩
def sPending_dh : Hints := []
theorem sPending_dr : drB sPending_dh (bodyOf Tryd.f12) = true := by kernel_rfl
theorem sPending_eq (n : Nat) : ∀ a, (sPending_fc n).F a = main Tryd.prog 18 (sPending_ct n) (sPending_lts n) sPending_dh (bodyOf Tryd.f12) [.tmp 2, .tmp 3] (sPending_fc n).args (sPending_fc n).res a := by intro a; kernel_rfl
theorem sPending_ok (n : Nat) : FCall Inv Tryd.prog (sPending_fc n) := fun G hG => ⟨⟨by kernel_rfl, fun a r h => main_ok (c := bodyOf Tryd.f12) Tryd.func12 (by kernel_rfl) (by kernel_rfl) (Nat.le_of_ble_eq_true (by kernel_rfl)) hG.st (by kernel_rfl) (rs := [.tmp 2, .tmp 3]) (by kernel_rfl) (sPending_ctok n hG) (lts := sPending_lts n) (fun F hF hFG => have hK : Know Inv F.G := hFG ▸ hG; (lok_of fun j L h1 h2 h3 => absurd h2 (Nat.not_lt.2 (Nat.le_trans (by decide +kernel) h1)))) sPending_dr ((sPending_eq n a).symm.trans h)⟩, rfl⟩
/-! armada/stage.Seen$1 -/
def sSeen1_lts (n : Nat) : List LC := []
def sSeen1_t (n : Nat) (a1 : (List UInt8) × (List UInt8)) : Option (Bool) :=
  some (decide (a1.1 = ([46, 105, 110, 116, 101, 110, 116] : List UInt8)))
def sSeen1_fc (n : Nat) : FC := { f := 40, args := [.one (.agg [.d .str, .d .str])], res := .one (.c (.d .bool)), F := fun p => sSeen1_t n p }
def sSeen1_ct (n : Nat) : List FC := []
theorem sSeen1_ctok (n : Nat) {G : World → Prop} (hG : Know Inv G) : ∀ c ∈ sSeen1_ct n, FCok Tryd.prog G c ∧ noTup c.args = true := (fun _ h => by cases h)
def sSeen1_dh : Hints := []
theorem sSeen1_dr : drB sSeen1_dh (bodyOf Tryd.f40) = true := by kernel_rfl
theorem sSeen1_eq (n : Nat) : ∀ a, (sSeen1_fc n).F a = main Tryd.prog 6 (sSeen1_ct n) (sSeen1_lts n) sSeen1_dh (bodyOf Tryd.f40) [.tmp 2] (sSeen1_fc n).args (sSeen1_fc n).res a := by intro a; kernel_rfl
theorem sSeen1_ok (n : Nat) : FCall Inv Tryd.prog (sSeen1_fc n) := fun G hG => ⟨⟨by kernel_rfl, fun a r h => main_ok (c := bodyOf Tryd.f40) Tryd.func40 (by kernel_rfl) (by kernel_rfl) (Nat.le_of_ble_eq_true (by kernel_rfl)) hG.st (by kernel_rfl) (rs := [.tmp 2]) (by kernel_rfl) (sSeen1_ctok n hG) (lts := sSeen1_lts n) (fun F hF hFG => have hK : Know Inv F.G := hFG ▸ hG; (lok_of fun j L h1 h2 h3 => absurd h2 (Nat.not_lt.2 (Nat.le_trans (by decide +kernel) h1)))) sSeen1_dr ((sSeen1_eq n a).symm.trans h)⟩, rfl⟩
/-! slices.IndexFunc[[]armada/api.File,armada/api.File] -/
@[reducible] def ixF_sh0 : SSt := ⟨[(0, .one (.c (.d (.lst (.prod .str .str))))), (1, .one (.c (.fn 40 []))), (7, .one (.c (.d (.int .i64)))), (8, .one (.c (.d (.int .i64))))], [], []⟩
@[reducible] def ixF_outs0 : List (Exit × SSt) := [(.ret, ⟨[(4, .one (.c (.d (.int .i64))))], [], []⟩), (.exit 0, ⟨[], [], []⟩)]
def ixF_l0 (n : Nat) (rec : (List (List UInt8 × (List UInt8))) → Int → Int → Option (((Int × (Unit)) × (Unit) × (Unit)) ⊕ ((Unit) × (Unit) × (Unit)))) (a1 : List (List UInt8 × (List UInt8))) (a2 : Int) (a3 : Int) : Option (((Int × (Unit)) × (Unit) × (Unit)) ⊕ ((Unit) × (Unit) × (Unit))) :=
  (bif decide (a3 < a2) then (idxL a1 a3).bind fun (x1 : List UInt8 × (List UInt8)) => (sSeen1_t n x1).bind fun (r2 : Bool) => (bif r2 then some (Sum.inl ((a3, ()), ((), ()))) else letO (IntKind.wrap .i64 (a3 + (1 : Int))) fun (n3 : Int) => rec a1 a2 n3) else some (Sum.inr (((), ((), ())))))
def ixF_F0 (n : Nat) (rec : pSt ixF_sh0 → Option (pOuts ixF_outs0)) (p : pSt ixF_sh0) : Option (pOuts ixF_outs0) := ixF_l0 n (fun a1 a2 a3 => rec ((a1, ((), (a2, (a3, ())))), ((), ()))) p.1.1 p.1.2.2.1 p.1.2.2.2.1
def ixF_loop0 (n m : Nat) (a1 : List (List UInt8 × (List UInt8))) (a2 : Int) (a3 : Int) : Option (((Int × (Unit)) × (Unit) × (Unit)) ⊕ ((Unit) × (Unit) × (Unit))) := iterF (ixF_F0 n) m ((a1, ((), (a2, (a3, ())))), ((), ()))
theorem ixF_loop0_succ (n m : Nat) (a1 : List (List UInt8 × (List UInt8))) (a2 : Int) (a3 : Int) : ixF_loop0 n (m + 1) a1 a2 a3 = ixF_l0 n (fun a1 a2 a3 => ixF_loop0 n m a1 a2 a3) a1 a2 a3 := rfl
def ixF_L0 (n : Nat) : LC := { sh := ixF_sh0, outs := ixF_outs0, F := iterF (ixF_F0 n) n }
def ixF_lts (n : Nat) : List LC := [ixF_L0 n]
def ixF_t (n : Nat) (a1 : List (List UInt8 × (List UInt8))) (a2 : Unit) : Option (Int) :=
  (ixF_loop0 n n a1 ((List.length a1 : Nat) : Int) (0 : Int)).bind fun (o4 : ((Int × (Unit)) × (Unit) × (Unit)) ⊕ ((Unit) × (Unit) × (Unit))) => Sum.elim (fun (q5 : (Int × (Unit)) × (Unit) × (Unit)) => some q5.1.1) (fun (q6 : (Unit) × (Unit) × (Unit)) => some (-1 : Int)) o4
def ixF_fc (n : Nat) : FC := { f := 57, args := [.one (.c (.d (.lst (.prod .str .str)))), .one (.c (.fn 40 []))], res := .one (.c (.d (.int .i64))), F := fun p => ixF_t n p.1 p.2 }
def ixF_ct (n : Nat) : List FC := [sSeen1_fc n]
theorem ixF_ctok (n : Nat) {G : World → Prop} (hG : Know Inv G) : ∀ c ∈ ixF_ct n, FCok Tryd.prog G c ∧ noTup c.args = true := List.forall_mem_cons.2 ⟨sSeen1_ok n G hG, (fun _ h => by cases h)⟩
def ixF_dh : Hints := []
theorem ixF_dr : drB ixF_dh (bodyOf Tryd.f57) = true := by kernel_rfl
theorem ixF_eq0 (n : Nat) : ∀ rec p, ixF_F0 n rec p = round Tryd.prog 19 (ixF_ct n) (ixF_lts n) ixF_dh 1 ixF_sh0 ixF_outs0 (bodyAt 0 0 (bodyOf Tryd.f57)) rec p := by intro rec p; kernel_rfl
theorem ixF_lok0 (n : Nat) {F : Fr} (hF : F.n = 19) (hK : Know Inv F.G) : LCok Tryd.prog F (ixF_L0 n) (bodyAt 0 0 (bodyOf Tryd.f57)) :=
  loop_ok hF (by kernel_rfl) (ixF_ctok n hK) (ixF_eq0 n) (fuel := n) (fun _ => rfl) (lok_of fun j L h1 h2 h3 => absurd h2 (Nat.not_lt.2 (Nat.le_trans (by decide +kernel) h1))) (drB_at ixF_dr)
theorem ixF_eq (n : Nat) : ∀ a, (ixF_fc n).F a = main Tryd.prog 19 (ixF_ct n) (ixF_lts n) ixF_dh (bodyOf Tryd.f57) [.tmp 4] (ixF_fc n).args (ixF_fc n).res a := by intro a; kernel_rfl
theorem ixF_ok (n : Nat) : FCall Inv Tryd.prog (ixF_fc n) := fun G hG => ⟨⟨by kernel_rfl, fun a r h => main_ok (c := bodyOf Tryd.f57) Tryd.func57 (by kernel_rfl) (by kernel_rfl) (Nat.le_of_ble_eq_true (by kernel_rfl)) hG.st (by kernel_rfl) (rs := [.tmp 4]) (by kernel_rfl) (ixF_ctok n hG) (lts := ixF_lts n) (fun F hF hFG => have hK : Know Inv F.G := hFG ▸ hG; (lok_of (c := (bodyOf Tryd.f57)) (fun j L h1 h2 h3 => by
    have h2' : j < 1 := Nat.lt_of_lt_of_le h2 (by decide +kernel)
    match j, h1, h2', h3 with
    | 0, _, _, h3 => obtain rfl := Option.some.inj h3; exact (show bodyAt 0 0 (bodyOf Tryd.f57) = bodyAt 0 0 (bodyOf Tryd.f57) by kernel_rfl) ▸ ixF_lok0 n hF hK
    | j + 1, _, h2', _ => exact absurd h2' (by omega)))) ixF_dr ((ixF_eq n a).symm.trans h)⟩, rfl⟩
end Go.Proofs.YtaglhmoldbndkaaDoor.AM

/- Layer 20: slices.DeleteFunc of one file, in its owner's list: the place; nothing to delete. -/
namespace Go.Proofs
open Go.RowKit Go.Shelf Go.Lib
attribute [local go_sem] Oper.semAt_some
set_option linter.unusedVariables false
set_option linter.unusedSimpArgs false
namespace YtaglhmoldbndkaaDoor.AM
theorem letO_some {α β : Type} (x : α) (f : α → Option β) : letO x f = f x := rfl
def itS : List UInt8 := [46, 105, 110, 116, 101, 110, 116]
/-- the files beside the intent -/
def seenL (l : List FD) : List FD := l.filter fun f => !decide (f.1 = itS)
theorem sSeen1_spec (n : Nat) (f : FD) : sSeen1_t n f = some (decide (f.1 = itS)) := rfl
theorem ixF_loop (n : Nat) (l : List FD) (hl : l.length ≤ 1000000) : ∀ (m i : Nat), i ≤ l.length → l.length - i < m →
    ((∀ x ∈ l.drop i, x.1 ≠ itS) ∧ ixF_loop0 n m l ((l.length : Nat) : Int) (i : Int) = some (Sum.inr ((), ((), ())))) ∨
    ∃ L x R, l.drop i = L ++ x :: R ∧ (∀ y ∈ L, y.1 ≠ itS) ∧ x.1 = itS ∧ ixF_loop0 n m l ((l.length : Nat) : Int) (i : Int) = some (Sum.inl ((((i + L.length : Nat) : Int), ()), ((), ())))
  | 0, i, hi, hm => absurd hm (Nat.not_lt_zero _)
  | m + 1, i, hi, hm => by
    rw [ixF_loop0_succ]
    unfold ixF_l0
    by_cases hil : i < l.length
    · have h1 : (i : Int) < ((l.length : Nat) : Int) := by omega
      rw [decide_eq_true h1, cond_true, idx_lt hil, Option.bind_some, sSeen1_spec, Option.bind_some, List.drop_eq_getElem_cons hil]
      by_cases hx : l[i].1 = itS
      · rw [decide_eq_true hx, cond_true]
        exact Or.inr ⟨[], l[i], l.drop (i + 1), rfl, (fun y hy => by cases hy), hx, rfl⟩
      · rw [decide_eq_false hx, cond_false, letO_some, wrap_succ (by omega)]
        show (_ ∧ ixF_loop0 n m l ((l.length : Nat) : Int) ((i + 1 : Nat) : Int) = _) ∨ ∃ L x R, _ ∧ _ ∧ _ ∧ ixF_loop0 n m l ((l.length : Nat) : Int) ((i + 1 : Nat) : Int) = _
        rcases ixF_loop n l hl m (i + 1) hil (by omega) with ⟨h2, h3⟩ | ⟨L, x, R, h2, h3, h4, h5⟩
        · refine Or.inl ⟨fun y hy => ?_, h3⟩
          rcases List.mem_cons.1 hy with rfl | hy
          · exact hx
          · exact h2 y hy
        · refine Or.inr ⟨l[i] :: L, x, R, by rw [h2]; rfl, fun y hy => ?_, h4, ?_⟩
          · rcases List.mem_cons.1 hy with rfl | hy
            · exact hx
            · exact h3 y hy
          · rw [h5, List.length_cons]; congr 5; omega
    · have h1 : ¬ (i : Int) < ((l.length : Nat) : Int) := by omega
      rw [decide_eq_false h1, cond_false]
      refine Or.inl ⟨fun x hx => ?_, rfl⟩
      rw [List.drop_of_length_le (by omega)] at hx; cases hx
theorem ixF_spec (n : Nat) (l : List FD) (hl : l.length ≤ 1000000) (hn : l.length < n) : ((∀ x ∈ l, x.1 ≠ itS) ∧ ixF_t n l () = some (-1)) ∨
    ∃ L x R, l = L ++ x :: R ∧ (∀ y ∈ L, y.1 ≠ itS) ∧ x.1 = itS ∧ ixF_t n l () = some ((L.length : Nat) : Int) := by
  unfold ixF_t
  rcases ixF_loop n l hl n 0 (Nat.zero_le _) (by omega) with ⟨h2, h3⟩ | ⟨L, x, R, h2, h3, h4, h5⟩
  · refine Or.inl ⟨h2, ?_⟩
    have h3' : ixF_loop0 n n l ((l.length : Nat) : Int) (0 : Int) = _ := h3
    rw [h3']; rfl
  · refine Or.inr ⟨L, x, R, h2, h3, h4, ?_⟩
    have h5' : ixF_loop0 n n l ((l.length : Nat) : Int) (0 : Int) = _ := h5
    rw [h5', Nat.zero_add]; rfl
theorem seen1_one (f : FD) (w : World) (hI : Inv w) : Calls Tryd.prog 40 #[.agg #[.string (ba f.1), .string (ba f.2)]] w fun e w' => e = .returned (.bool (decide (f.1 = itS))) ∧ Below w.heap.size w w' := by
  have hh := (sSeen1_ok 1 Inv know_inv).1.2 f _ (sSeen1_spec 1 f)
  refine (hh (Old w) w #[.agg #[.string (ba f.1), .string (ba f.2)]] hI (fun b o h => h) ⟨⟨_, rfl, .v _, .v _, trivial⟩, trivial⟩).mono ?_
  rintro e w' ⟨u, Pc, rfl, hb, _, _, hv⟩
  have hv' : u = .bool (decide (f.1 = itS)) := of_val (σ := noSt) hv
  rw [hv']
  exact ⟨rfl, hb⟩
theorem ix_one (l : List FD) (r : Int) (v : Value) (w : World) (B : Nat) (hI : Inv w) (hown : w.ownsRow B 43 2 v l.length (fcells l)) (h : ixF_t 1000001 l () = some r) :
    Calls Tryd.prog 57 #[v, .func (.func 40) #[] #[]] w fun e w' => e = .returned (.int .i64 r) ∧ Below w.heap.size w w' := by
  have hh := (ixF_ok 1000001 Inv know_inv).1.2 (l, ()) _ h
  refine (hh (Old w) w #[v, .func (.func 40) #[] #[]] hI (fun b o h => h) ⟨own_dat hown, drep_val _, trivial⟩).mono ?_
  rintro e w' ⟨u, Pc, rfl, hb, _, _, hv⟩
  have hv' : u = .int .i64 r := of_val (σ := noSt) hv
  rw [hv']
  exact ⟨rfl, hb⟩
set_option maxHeartbeats 4000000 in
set_option maxRecDepth 1000000 in
theorem DelF_none (w : World) (B : Nat) (v : Value) (l : List FD) (hI : Inv w) (hown : w.ownsRow B 43 2 v l.length (fcells l)) (hB : B ≤ w.heap.size) (hix : ixF_t 1000001 l () = some (-1)) :
    Calls Tryd.prog 38 #[v, .func (.func 40) #[] #[]] w fun e w' => ∃ v', e = .returned v' ∧ w'.ownsRow B 43 2 v' l.length (fcells l) ∧ Below B w w' := by
  have hX := ix_one l _ v w B hI hown hix
  have HO := hid hown
  clear hown
  go_enter Tryd.func38, Tryd.ntmps38
  go_wp2_with (go_at_call 57; refine hX.mono ?_)
  rintro e W1 ⟨rfl, hb1⟩
  obtain ⟨va, vn, vc, rfl⟩ : ∃ va n vc, v = .slice va n vc := by
    rcases HO.out.2 with ⟨rfl, h0⟩ | ⟨g, cap, cur, rfl, _⟩
    · exact ⟨_, _, _, rfl⟩
    · exact ⟨_, _, _, rfl⟩
  go_wp2
  go_ret
  exact ⟨_, rfl, own_below HO.out hb1, hb1.mono hB⟩
end YtaglhmoldbndkaaDoor.AM
end Go.Proofs

/- Layer 20: slices.DeleteFunc of one file, in its owner's list. -/
namespace Go.Proofs
open Go.RowKit Go.Shelf Go.Lib
attribute [local go_sem] Oper.semAt_some
set_option linter.unusedVariables false
set_option linter.unusedSimpArgs false
namespace YtaglhmoldbndkaaDoor.AM
set_option maxHeartbeats 400000 in
set_option maxRecDepth 1000000 in
theorem DelF_one (w : World) (B g cap : Nat) (cur : Array Value) (L R : List FD) (x : FD) (hI : Inv w) (hIB : ∀ wr, Below B w wr → Inv wr) (hbg : B ≤ g) (hg : w.heap[g]? = some (.cells cur 43 (0, 0))) (hnc : (L ++ x :: R).length ≤ cap) (hcm : cap ≤ maxLen) (hcs : cur.size = cap * 2)
    (htake : cur.toList.take ((L ++ x :: R).length * 2) = fcells (L ++ x :: R)) (hB : B ≤ w.heap.size) (hll : (L ++ x :: R).length ≤ 1000000) (hR : ∀ y ∈ R, y.1 ≠ itS) (hix : ixF_t 1000001 (L ++ x :: R) () = some ((L.length : Nat) : Int)) :
    Calls Tryd.prog 38 #[.slice (some ⟨g, 0, none⟩) (L ++ x :: R).length cap, .func (.func 40) #[] #[]] w fun e w' => ∃ v', e = .returned v' ∧ w'.ownsRow B 43 2 v' (L ++ R).length (fcells (L ++ R)) ∧ Below B w w' := by
  have hown : w.ownsRow B 43 2 (.slice (some ⟨g, 0, none⟩) (L ++ x :: R).length cap) (L ++ x :: R).length (fcells (L ++ x :: R)) := ⟨fcells_len _, .inr ⟨g, cap, cur, rfl, hbg, hg, hnc, hcm, hcs, htake⟩⟩
  have hX := ix_one _ _ _ w B hI hown hix
  obtain ⟨n, hn⟩ : ∃ n, n = (L ++ x :: R).length := ⟨_, rfl⟩
  have hnl : n = L.length + 1 + R.length := by rw [hn]; simp; omega
  rw [← hn] at hX htake hnc hll ⊢
  have hcm' : cap ≤ 9223372036854775807 := by unfold maxLen at hcm; omega
  have HT := hid htake
  have HN := hid hnl
  have HR := hid hR
  clear htake hown hix hn hnl hR
  go_enter Tryd.func38, Tryd.ntmps38
  go_wp2_with (go_at_call 57; refine hX.mono ?_)
  rintro e W1 ⟨rfl, hb1⟩
  clear hX
  have hg1 := (hb1.block g (heapLt hg)).trans hg
  have hbel1 : Below B w W1 := hb1.mono hB
  have hi0 : ¬ ((L.length : Nat) : Int) = -1 := by omega
  go_wp2_with fail
  go_loopw [5, 6] (fun i j wr => ∃ (m : Nat) (y : FD) (X : Array Value), m ≤ R.length ∧ i = .int .i64 ((L.length + m : Nat) : Int) ∧ j = .int .i64 ((L.length + m + 1 : Nat) : Int) ∧ wr.heap[g]? = some (.cells X 43 (0, 0)) ∧ X.size = cap * 2 ∧
    X.toList.take (n * 2) = fcells (L ++ R.take m ++ y :: R.drop m) ∧ Below B w wr) (fun _ j _ => n - (RowKit.intOf j).toNat)
  case atStart => exact ⟨0, x, cur, Nat.zero_le _, rfl, (by have h7 := HN.out; congr 1; unfold RowKit.wrap64; omega), hg1, hcs, by rw [HT.out]; simp, hbel1⟩
  case round =>
    obtain ⟨m, y, X, hm, rfl, rfl, hX, hXs, hXt, hbel⟩ := hrel
    have HX := hid hXt
    clear hXt
    by_cases hmR : m < R.length
    · have hjn : ((L.length + m + 1 : Nat) : Int) < (n : Int) := by have := HN.out; omega
      have hRm := HR.out R[m] (List.getElem_mem hmR)
      have hcell : ∀ (k : Nat) (u : Value), (fcells (L ++ R.take m ++ y :: R.drop m))[k]? = some u → wr.cell? ⟨g, k, none⟩ = some u := fun k u hk => by
        rw [cell_of_row wr g _ X _ _ hX]
        have hk2 := hk
        rw [← HX.out, List.getElem?_take] at hk2
        split at hk2
        · simpa using hk2
        · cases hk2
      have hget : (fcells (L ++ R.take m ++ y :: R.drop m))[(L.length + m + 1) * 2]? = some (.string (ba R[m].1)) ∧ (fcells (L ++ R.take m ++ y :: R.drop m))[(L.length + m + 1) * 2 + 1]? = some (.string (ba R[m].2)) := by
        have e1 : L ++ R.take m ++ y :: R.drop m = (L ++ R.take m ++ [y]) ++ R.drop m := by simp
        have e2 : (fcells (L ++ R.take m ++ [y])).length = (L.length + m + 1) * 2 := by rw [fcells_len]; simp; omega
        rw [e1, fcells_app, List.getElem?_append_right (by omega), List.getElem?_append_right (by omega), e2, List.drop_eq_getElem_cons hmR, Nat.sub_self, show (L.length + m + 1) * 2 + 1 - (L.length + m + 1) * 2 = 1 from by omega]
        exact ⟨rfl, rfl⟩
      have d0 := hcell _ _ hget.1
      have d1 := hcell _ _ hget.2
      clear hcell hget
      generalize hf : R[m] = f at *
      obtain ⟨j, hj⟩ : ∃ j, j = L.length + m + 1 := ⟨_, rfl⟩
      rw [← hj] at hjn d0 d1 ⊢
      obtain ⟨i, hi⟩ : ∃ i, i = L.length + m := ⟨_, rfl⟩
      rw [← hi] at hj ⊢
      have HF := hid hf
      have HJ := hid hj
      have HI := hid hi
      have hIr := hid (hIB wr hbel)
      have HX2 := hid hX
      have hii : (i : Int) < (n : Int) := by omega
      have hw1 : IntKind.i64.wrap ((i : Int) + 1) = ((i + 1 : Nat) : Int) := by rw [IntKind.wrap_i64]; omega
      have hw2 : IntKind.i64.wrap ((j : Int) + 1) = ((j + 1 : Nat) : Int) := by rw [IntKind.wrap_i64]; omega
      clear hf hj hi hIB
      go_wp2_with fail
      have hbA : Below wr.heap.size wr (wr.alloc (Obj.cells #[Value.string (ba f.1), Value.string (ba f.2)] 43)) := (Below.refl _ _).alloc (Nat.le_refl _) _
      have hS := seen1_one f _ (hIr.out.below hbA)
      rw [decide_eq_false hRm] at hS
      refine hS.mono ?_
      clear hS
      rintro e W4 ⟨rfl, hb4⟩
      have hB4 : Below wr.heap.size wr W4 := hbA.trans (hb4.mono hbA.size)
      have hk4 : W4.heap[wr.heap.size]? = some (Obj.cells #[Value.string (ba f.1), Value.string (ba f.2)] 43 (0, 0)) := (hb4.block _ (by simp)).trans (heap_alloc_new wr _)
      have hX4 : W4.heap[g]? = some (Obj.cells X 43 (0, 0)) := (hB4.block g (heapLt HX2.out)).trans HX2.out
      have b0 : W4.cell? ⟨wr.heap.size, 0, none⟩ = some (.string (ba f.1)) := by rw [cell_of_row W4 _ _ _ _ _ hk4]; rfl
      have b1 : W4.cell? ⟨wr.heap.size, 1, none⟩ = some (.string (ba f.2)) := by rw [cell_of_row W4 _ _ _ _ _ hk4]; rfl
      have hiX : i * 2 + 1 < X.size := by have := HI.out; have := HN.out; omega
      obtain ⟨u0, x0⟩ : ∃ u, W4.cell? ⟨g, i * 2, none⟩ = some u := ⟨X[i * 2]'(by omega), by rw [cell_of_row W4 _ _ _ _ _ hX4]; simp⟩
      obtain ⟨u1, x1⟩ : ∃ u, W4.cell? ⟨g, i * 2 + 1, none⟩ = some u := ⟨X[i * 2 + 1]'hiX, by rw [cell_of_row W4 _ _ _ _ _ hX4]; simp⟩
      have f0 : W4.frozen? ⟨g, i * 2, none⟩ = false := by simp [World.frozen?, hX4]
      have f1 : W4.frozen? ⟨g, i * 2 + 1, none⟩ = false := by simp [World.frozen?, hX4]
      clear hb4 hbA d0 d1 hk4 hiX
      go_wp2_with fail
      go_roundw
      case rel =>
        have hi := HI.out
        have hj := HJ.out
        have hnn := HN.out
        have hs1 := setCell_eq_setRow W4 g (i * 2) X 43 (0, 0) (.string (ba f.1)) hX4
        have h5 := setRow_heap W4 g X (X.setIfInBounds (i * 2) (.string (ba f.1))) _ _ hX4
        have hs2 := setCell_eq_setRow (W4.setRow g (X.setIfInBounds (i * 2) (.string (ba f.1)))) g (i * 2 + 1) _ 43 (0, 0) (.string (ba f.2)) h5
        rw [setRow_setRow] at hs2
        rw [hs1, hs2]
        refine ⟨_, _, _, _, _, _, _, _, _, _, _, _, _, _, _, _, _, _, _, _, _, _, _, ⟨m + 1, f, _, by omega, ?rA, ?rB, setRow_heap W4 g X _ _ _ hX4, by simp [hXs], ?rE, (hbel.trans (hB4.mono (Nat.le_trans hB hbel.size))).trans (below_setRow (Below.refl B W4) hbg _)⟩, rfl⟩
        case rA => congr 1; omega
        case rB => congr 1; omega
        case rE =>
          have eP : (L ++ R.take m).length = i := by simp; omega
          have eQ : R.drop m = f :: R.drop (m + 1) := by rw [List.drop_eq_getElem_cons hmR, HF.out]
          have eR : R.take (m + 1) = R.take m ++ [f] := by rw [← List.take_append_getElem hmR, HF.out]
          have eG : L ++ R.take (m + 1) ++ f :: R.drop (m + 1) = (L ++ R.take m) ++ f :: R.drop m := by rw [eR, eQ]; simp
          rw [eG, Array.toList_setIfInBounds, List.take_set, Array.toList_setIfInBounds, List.take_set, HX.out]
          generalize R.drop m = Q
          generalize L ++ R.take m = P0 at eP ⊢
          have e5 : fcells (P0 ++ y :: Q) = fcells P0 ++ ([.string (ba y.1), .string (ba y.2)] ++ fcells Q) := by rw [fcells_app]; rfl
          have e6 : fcells (P0 ++ f :: Q) = fcells P0 ++ ([.string (ba f.1), .string (ba f.2)] ++ fcells Q) := by rw [fcells_app]; rfl
          have e7 : (fcells P0).length = i * 2 := by rw [fcells_len, eP]
          rw [e5, e6, List.set_append_right _ _ (by omega), e7, Nat.sub_self, List.set_append_right _ _ (by omega), e7, show i * 2 + 1 - i * 2 = 1 from by omega]
          rfl
      case measure => have := HJ.out; have := HI.out; simp [RowKit.intOf]; omega
    · have hmm : m = R.length := by omega
      subst hmm
      obtain ⟨i0, hi0', hz, hby, z, hzz, hzs, hzl⟩ := fileInfo
      have hzc : (Builtin.zeroCells z.cells 1).toList = [.string ⟨#[]⟩, .string ⟨#[]⟩] := by
        have e : z.cells = #[.string ⟨#[]⟩, .string ⟨#[]⟩] := by rw [← Array.toList_inj]; exact hzl
        rw [e]; simp [Builtin.zeroCells, List.range_succ]
      obtain ⟨k, hk⟩ : ∃ k, k = L.length + R.length := ⟨_, rfl⟩
      have hnk : n = k + 1 := by have := HN.out; omega
      have hk1 : n - k = 1 := by omega
      have hk2 : ¬ (cap = k) := by omega
      have hk3 : (k : Int) ≤ (n : Int) := by omega
      have hk4 : k ≤ n := by omega
      have hk5 : k ≤ cap := by omega
      have hkn : ¬ ((k + 1 : Nat) : Int) < (n : Int) := by omega
      have hcl : ∀ ty cc, (Builtin.clear_ #[22] ty #[.slice (some ⟨g, k * 2, none⟩) 1 cc]).run Tryd.prog wr = .ok (.tuple #[]) (wr.setRow g (X.toList.take (k * 2) ++ [Value.string ⟨#[]⟩, Value.string ⟨#[]⟩] ++ X.toList.drop (k * 2 + 2)).toArray) := fun ty cc =>
        run_clear_one (P := Tryd.prog) wr 22 43 ty z [.string ⟨#[]⟩, .string ⟨#[]⟩] Tryd.underlying22 (fun w => by simp [zeroValue, typeInfo, hi0', hzz]) hzc (by intro v hv; simp at hv; subst hv; rfl) g (k * 2) cc X 43 hX (by simp; omega)
      have hfin : (X.toList.take (k * 2) ++ [Value.string ⟨#[]⟩, Value.string ⟨#[]⟩] ++ X.toList.drop (k * 2 + 2)).toArray.toList.take (k * 2) = fcells (L ++ R) := by
        have hl : (X.toList.take (k * 2)).length = k * 2 := by rw [List.length_take, Array.length_toList]; omega
        show List.take (k * 2) ((X.toList.take (k * 2) ++ _) ++ _) = _
        rw [List.append_assoc, List.take_append_of_le_length (by omega), List.take_take, Nat.min_self]
        have h6 : X.toList.take (k * 2) = (X.toList.take (n * 2)).take (k * 2) := by rw [List.take_take]; congr 1; omega
        have e2 : (fcells (L ++ R)).length = k * 2 := by rw [fcells_len]; simp; omega
        rw [h6, HX.out, List.take_of_length_le (Nat.le_refl R.length), fcells_app, ← e2, List.take_left]
      have hfs : (X.toList.take (k * 2) ++ [Value.string ⟨#[]⟩, Value.string ⟨#[]⟩] ++ X.toList.drop (k * 2 + 2)).toArray.size = cap * 2 := by simp; omega
      have hkl : (L ++ R).length = k := by simp; omega
      generalize (X.toList.take (k * 2) ++ [Value.string ⟨#[]⟩, Value.string ⟨#[]⟩] ++ X.toList.drop (k * 2 + 2)).toArray = Y at hcl hfin hfs
      have HFI := hid hfin
      have HKL := hid hkl
      rw [← hk]
      clear hzc hfin hkl hnk hk hI hIB hi0' hzz hzl hzs hz hby
      go_wp2_with (at_builtin; refine wpList_clear_runI _ rfl _ 22 rfl _ rfl (hcl _ _) ?_)
      go_ret
      have hkq := HKL.out
      rw [List.length_append] at hkq
      rw [hkq]
      exact ⟨_, rfl, ⟨by rw [fcells_len, HKL.out], .inr ⟨g, cap, Y, rfl, hbg, setRow_heap wr g X Y _ _ hX, by omega, hcm, hfs, HFI.out⟩⟩, hbel.trans (below_setRow (Below.refl B wr) hbg Y)⟩
end YtaglhmoldbndkaaDoor.AM
end Go.Proofs

/- Layer 20: stage.Seen (slices.DeleteFunc of one file, in its owner's list). -/
namespace Go.Proofs
open Go.RowKit Go.Shelf Go.Lib
attribute [local go_sem] Oper.semAt_some
set_option linter.unusedVariables false
set_option linter.unusedSimpArgs false
namespace YtaglhmoldbndkaaDoor.AM
theorem seen_none {l : List FD} (h : ∀ x ∈ l, x.1 ≠ itS) : seenL l = l := List.filter_eq_self.2 fun x hx => by simp [h x hx]
theorem seen_cut {L R : List FD} {x : FD} (h1 : ∀ y ∈ L, y.1 ≠ itS) (hx : x.1 = itS) (h2 : ∀ y ∈ R, y.1 ≠ itS) : seenL (L ++ x :: R) = L ++ R := by
  have e1 : seenL (L ++ x :: R) = seenL L ++ seenL (x :: R) := List.filter_append ..
  have e2 : seenL (x :: R) = seenL R := List.filter_cons_of_neg (by simp [hx])
  rw [e1, e2, seen_none h1, seen_none h2]
def sSeen_t (l : List FD) : Option (List FD) := if l.length ≤ 1000000 then some (if mayS l then seenL l else []) else none
def sSeen_fc : FC := { f := 20, args := [.one (.c (.d (.lst FT)))], res := .one (.c (.d (.lst FT))), F := fun p => sSeen_t p }
set_option maxHeartbeats 4000000 in
set_option maxRecDepth 1000000 in
theorem Seen_calls {Pc : Nat → Nat → Prop} (w : World) (v : Value) (l : List FD) (hI : Inv w) (hP : ∀ b o, Pc b o → b < w.heap.size) (hl : l.length ≤ 1000000) (h : DatRep Pc w v (.lst 2 (l.map (toDats FT)))) :
    Calls Tryd.prog 20 #[v] w fun e w' => ∃ v', e = .returned v' ∧ w'.ownsRow w.heap.size 43 2 v' (if mayS l then seenL l else []).length (fcells (if mayS l then seenL l else [])) ∧ Below w.heap.size w w' := by
  have hM := may_one l v w hI hP h hl
  have H1 := hid h
  clear h
  cases hm : mayS l with
  | false =>
    rw [hm] at hM
    go_enter Tryd.func20, Tryd.ntmps20
    go_wp2_with (go_at_call 37; refine hM.mono ?_)
    rintro e W1 ⟨rfl, hb1⟩
    go_wp2
    go_ret
    exact ⟨.slice none 0 0, rfl, World.ownsRow_nil _ _ _ _, hb1⟩
  | true =>
    rw [hm] at hM
    go_enter Tryd.func20, Tryd.ntmps20
    go_wp2_with (go_at_call 37; refine hM.mono ?_)
    rintro e W1 ⟨rfl, hb1⟩
    clear hM
    have h1' : DatRep Pc W1 v (.lst 2 (l.map (toDats FT))) := H1.out.mono (fun _ _ h => h) (fun b o hp => hb1.cell (p := ⟨b, o, none⟩) (hP b o hp))
    have hC := Clone_calls W1 v l hl h1'
    clear h1'
    go_wp2_with (go_at_call 39; refine hC.mono ?_)
    rintro e W2 ⟨v', rfl, hown, hb2⟩
    clear hC
    have hbl2 : Below w.heap.size w W2 := hb1.trans (hb2.mono hb1.size)
    have hI2 := hI.below hbl2
    have hown2 : W2.ownsRow w.heap.size 43 2 v' l.length (fcells l) := by
      refine ⟨hown.1, ?_⟩
      rcases hown.2 with h3 | ⟨g, cap, cur, h3, h4, h5, h6⟩
      · exact .inl h3
      · exact .inr ⟨g, cap, cur, h3, Nat.le_trans hb1.size h4, h5, h6⟩
    clear hown hb1 hb2
    have hD : Calls Tryd.prog 38 #[v', .func (.func 40) #[] #[]] W2 fun e w' => ∃ u, e = .returned u ∧ w'.ownsRow w.heap.size 43 2 u (seenL l).length (fcells (seenL l)) ∧ Below w.heap.size W2 w' := by
      rcases ixF_spec 1000001 l hl (by omega) with ⟨k1, k2⟩ | ⟨L, x, R, rfl, k1, k2, k3⟩
      · rw [seen_none k1]
        exact DelF_none W2 _ v' l hI2 hown2 hbl2.size k2
      · have hR : ∀ y ∈ R, y.1 ≠ itS := fun y hy e => by
          have hr := ((may_iff _).1 hm).2.2
          obtain ⟨_, hr2, _⟩ := rise_app.1 hr
          have := (List.pairwise_cons.1 hr2).1 y hy
          rw [k2, ← e] at this
          exact lt_ne this rfl
        rw [seen_cut k1 k2 hR]
        rcases hown2.2 with ⟨_, h0⟩ | ⟨g, cap, cur, rfl, h4, h5, h6, h7, h8, h9⟩
        · simp at h0
        · exact DelF_one W2 _ g cap cur L R x hI2 (fun wr hb => hI.below (hbl2.trans hb)) h4 h5 h6 h7 h8 h9 hbl2.size hl hR k3
    obtain ⟨va, vn, vc, rfl⟩ : ∃ va n vc, v' = .slice va n vc := by
      rcases hown2.2 with ⟨rfl, h0⟩ | ⟨g, cap, cur, rfl, _⟩
      · exact ⟨_, _, _, rfl⟩
      · exact ⟨_, _, _, rfl⟩
    clear hown2
    go_wp2_with (go_at_call 38; refine hD.mono ?_)
    rintro e W3 ⟨u, rfl, ho3, hb3⟩
    clear hD
    obtain ⟨va', vn', vc', rfl⟩ : ∃ va n vc, u = .slice va n vc := by
      rcases ho3.2 with ⟨rfl, h0⟩ | ⟨g, cap, cur, rfl, _⟩
      · exact ⟨_, _, _, rfl⟩
      · exact ⟨_, _, _, rfl⟩
    go_wp2
    go_ret
    exact ⟨_, rfl, ho3, hbl2.trans hb3⟩
theorem sSeen_ok : FCall Inv Tryd.prog sSeen_fc := fun G hG => ⟨⟨by kernel_rfl, fun (l : List FD) r h => by
  have h' : sSeen_t l = some r := h
  unfold sSeen_t at h'
  split at h'
  case isFalse => cases h'
  rename_i hc
  have hr := Option.some.inj h'
  intro Pc w vs hg hlt hv
  obtain ⟨vl⟩ := vs
  match vl, hv with
  | [x], ⟨h1, _⟩ =>
    refine (Seen_calls w x l (hG.im w hg) hlt hc h1).mono ?_
    rintro e w' ⟨v', rfl, hown, hb⟩
    rw [hr] at hown
    exact ⟨_, fun b o => Pc b o ∨ (w.heap.size ≤ b ∧ b < w'.heap.size), rfl, hb, fun b o hp => Or.inl hp, fun b o hp => hp, own_datP hown (fun b o h1 h2 => Or.inr ⟨h1, h2⟩)⟩⟩, rfl⟩
end YtaglhmoldbndkaaDoor.AM
end Go.Proofs
