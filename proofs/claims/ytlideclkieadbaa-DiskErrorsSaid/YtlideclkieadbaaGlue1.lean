/- Layer 1's data, as values and as arguments. -/
import Derived.Test.YtlideclkieadbaaRef2
import Derived.Test.YtlideclkieadbaaDiskS
namespace Go.Proofs.Ytlideclkieadbaa.AM
open Go.RowKit Go.ChangeShapes Go.WideShapes Go.ChangeAt
set_option linter.unusedVariables false
def actD (l : List DM.Ac) : List (List Dat) := l.map fun a => [.v (.bool a.1), .v (.int .i64 a.2.1), .v (.string a.2.2)]
def bolD (l : List Bool) : List (List Dat) := l.map fun b => [.v (.bool b)]
@[push_cast] theorem actD_len (l : List DM.Ac) : (actD l).length = l.length := by simp [actD]
@[push_cast] theorem bolD_len (l : List Bool) : (bolD l).length = l.length := by simp [bolD]
theorem actD_get {l : List DM.Ac} {k : Nat} (h : k < l.length) : (actD l).getD k [] = [.v (.bool l[k].1), .v (.int .i64 l[k].2.1), .v (.string l[k].2.2)] := by simp [actD, List.getD, h]
theorem bolD_get {l : List Bool} {k : Nat} (h : k < l.length) : (bolD l).getD k [] = [.v (.bool l[k])] := by simp [bolD, List.getD, h]
abbrev lstD (sz : Nat) (xs : List (List Dat)) : D := .one (.c (.d (.lst sz xs)))
abbrev outD (d : DM.Dk) (x : Int) : D := .tup [dk1 d, .c (valC (.int .i64 x))]

/-! ### out of data -/
section
variable {Pc : Nat → Nat → Prop} {w : World}
theorem lst_inv {v : Value} {sz : Nat} {xs : List (List Dat)} (hlt : ∀ b o, Pc b o → b < w.heap.size) (hsz : 0 < sz) (h : DatRep Pc w v (.lst sz xs)) :
    ∃ a cap, v = .slice a xs.length cap ∧ xs.length ≤ cap ∧ cap ≤ maxLen ∧ (0 < xs.length → ∃ b off, a = some ⟨b, off, none⟩ ∧ b < w.heap.size ∧
      ∀ k j (hk : k < xs.length) (hj : j < (xs[k]).length), ∃ c, w.cell? ⟨b, off + k * sz + j, none⟩ = some c ∧ DatRep Pc w c ((xs[k])[j])) := by
  cases h with
  | lst a n cap _ _ b off c hn hcap hmax hsz' ha hc hr =>
    subst hn
    exact ⟨a, cap, rfl, hcap, hmax, fun h0 => ⟨b, off, ha h0, hlt _ _ (hc 0 0 h0 hsz).1, fun k j hk hj => ⟨c k j, (hc k j hk (by rw [hsz' _ (List.getElem_mem hk)] at hj; exact hj)).2.1, hr k j hk hj⟩⟩⟩
theorem v_inv {v x : Value} (h : DatRep Pc w v (.v x)) : v = x := by cases h; rfl
theorem sv_of {v : Value} {l : List ByteArray} (hlt : ∀ b o, Pc b o → b < w.heap.size) (h : DatRep Pc w v (.lst 1 (secD l))) : ∃ a cap, v = .slice a l.length cap ∧ l.length ≤ cap ∧ cap ≤ maxLen ∧ RM.SV w v l := by
  obtain ⟨a, cap, e, h1, h2, h3⟩ := lst_inv hlt (by decide) h
  have hl := secD_len l
  rw [hl] at e h1
  refine ⟨a, cap, e, h1, h2, a, cap, e, fun h0 => ?_⟩
  obtain ⟨b, off, ea, hb, hc⟩ := h3 (by omega)
  refine ⟨b, off, ea, hb, fun j hj => ?_⟩
  obtain ⟨c, g1, g2⟩ := hc j 0 (by omega) (by simp [secD])
  simp only [secD, List.getElem_map, List.getElem_cons_zero] at g2
  rw [v_inv g2] at g1
  simpa using g1
theorem wv_of {v : Value} {l : List DM.Wr} (hlt : ∀ b o, Pc b o → b < w.heap.size) (h : DatRep Pc w v (.lst 2 (cacD l))) : ∃ a cap, v = .slice a l.length cap ∧ l.length ≤ cap ∧ cap ≤ maxLen ∧ DM.WV w v l := by
  obtain ⟨a, cap, e, h1, h2, h3⟩ := lst_inv hlt (by decide) h
  have hl := cacD_len l
  rw [hl] at e h1
  refine ⟨a, cap, e, h1, h2, a, cap, e, fun h0 => ?_⟩
  obtain ⟨b, off, ea, hb, hc⟩ := h3 (by omega)
  refine ⟨b, off, ea, hb, fun j hj => ⟨?_, ?_⟩⟩
  · obtain ⟨c, g1, g2⟩ := hc j 0 (by omega) (by simp [cacD])
    simp only [cacD, List.getElem_map, List.getElem_cons_zero] at g2
    rw [v_inv g2] at g1
    simpa using g1
  · obtain ⟨c, g1, g2⟩ := hc j 1 (by omega) (by simp [cacD])
    simp only [cacD, List.getElem_map, List.getElem_cons_succ, List.getElem_cons_zero] at g2
    rw [v_inv g2] at g1
    exact g1
theorem av_of {v : Value} {l : List DM.Ac} (hlt : ∀ b o, Pc b o → b < w.heap.size) (h : DatRep Pc w v (.lst 3 (actD l))) : ∃ a cap, v = .slice a l.length cap ∧ DM.AV w v l := by
  obtain ⟨a, cap, e, h1, h2, h3⟩ := lst_inv hlt (by decide) h
  have hl := actD_len l
  rw [hl] at e h1
  refine ⟨a, cap, e, a, cap, e, h1, h2, fun h0 => ?_⟩
  obtain ⟨b, off, ea, hb, hc⟩ := h3 (by omega)
  refine ⟨b, off, ea, hb, fun j hj => ⟨?_, ?_, ?_⟩⟩
  · obtain ⟨c, g1, g2⟩ := hc j 0 (by omega) (by simp [actD])
    simp only [actD, List.getElem_map, List.getElem_cons_zero] at g2
    rw [v_inv g2] at g1
    simpa using g1
  · obtain ⟨c, g1, g2⟩ := hc j 1 (by omega) (by simp [actD])
    simp only [actD, List.getElem_map, List.getElem_cons_succ, List.getElem_cons_zero] at g2
    rw [v_inv g2] at g1
    exact g1
  · obtain ⟨c, g1, g2⟩ := hc j 2 (by omega) (by simp [actD])
    simp only [actD, List.getElem_map, List.getElem_cons_succ, List.getElem_cons_zero] at g2
    rw [v_inv g2] at g1
    exact g1
theorem dv_of {v : Value} {d : DM.Dk} (hlt : ∀ b o, Pc b o → b < w.heap.size) (h : DRep (noEnv Pc) noSt w v (.one (dk1 d))) :
    ∃ a1 k1 a2 k2, v = .agg #[.slice a1 d.secs.length k1, .slice a2 d.cache.length k2] ∧ DM.DV w (.slice a1 d.secs.length k1) (.slice a2 d.cache.length k2) d ∧ d.secs.length ≤ maxLen ∧ d.cache.length ≤ maxLen := by
  obtain ⟨vs, rfl, hv⟩ := h
  obtain ⟨l⟩ := vs
  match l, hv with
  | [x, y], ⟨h1, h2, _⟩ =>
    obtain ⟨a1, k1, rfl, c1, c2, s1⟩ := sv_of hlt h1
    obtain ⟨a2, k2, rfl, c3, c4, s2⟩ := wv_of hlt h2
    exact ⟨a1, k1, a2, k2, rfl, ⟨s1, s2⟩, by omega, by omega⟩
theorem args1 {r : Value → D → Prop} {vs : Array Value} {d : D} (h : All2 r vs.toList [d]) : ∃ v, vs = #[v] ∧ r v d := by
  obtain ⟨l⟩ := vs
  match l, h with
  | [x], ⟨h1, _⟩ => exact ⟨x, rfl, h1⟩
theorem args2 {r : Value → D → Prop} {vs : Array Value} {d d' : D} (h : All2 r vs.toList [d, d']) : ∃ v v', vs = #[v, v'] ∧ r v d ∧ r v' d' := by
  obtain ⟨l⟩ := vs
  match l, h with
  | [x, y], ⟨h1, h2, _⟩ => exact ⟨x, y, rfl, h1, h2⟩
theorem args3 {r : Value → D → Prop} {vs : Array Value} {d d' d'' : D} (h : All2 r vs.toList [d, d', d'']) : ∃ v v' v'', vs = #[v, v', v''] ∧ r v d ∧ r v' d' ∧ r v'' d'' := by
  obtain ⟨l⟩ := vs
  match l, h with
  | [x, y, z], ⟨h1, h2, h3, _⟩ => exact ⟨x, y, z, rfl, h1, h2, h3⟩

/-! ### into data -/
theorem dat_sv {a : Option Addr} {n k : Nat} {l : List ByteArray} (h : RM.SV w (.slice a n k) l) (h1 : n ≤ k) (h2 : k ≤ maxLen) (hP : ∀ g, (Value.slice a n k).ownBlock = some g → ∀ o, g < w.heap.size → Pc g o) : DatRep Pc w (.slice a n k) (.lst 1 (secD l)) := by
  obtain ⟨a', c', e, h⟩ := h
  simp only [Value.slice.injEq] at e
  obtain ⟨rfl, rfl, rfl⟩ := e
  have hl := secD_len l
  have hx : ∀ x ∈ secD l, x.length = 1 := fun x hx => by
    unfold secD at hx
    obtain ⟨s, _, rfl⟩ := List.mem_map.1 hx
    rfl
  by_cases h0 : 0 < l.length
  · obtain ⟨b, off, rfl, hb, hc⟩ := h h0
    refine .lst _ _ _ 1 _ b off (fun k _ => .string (l.getD k ⟨#[]⟩)) hl.symm h1 h2 hx (fun _ => rfl) (fun k j hk hj => ?_) (fun k j hk hj => ?_)
    · have hk' : k < l.length := by omega
      obtain rfl : j = 0 := by omega
      refine ⟨hP b rfl _ hb, ?_, rfl⟩
      simp only [Nat.mul_one, Nat.add_zero, List.getD, List.getElem?_eq_getElem hk', Option.getD_some]
      exact hc k hk'
    · have hk' : k < l.length := by omega
      have hj' := hx _ (List.getElem_mem hk)
      obtain rfl : j = 0 := by omega
      simp only [secD, List.getElem_map, List.getElem_cons_zero, List.getD, List.getElem?_eq_getElem hk', Option.getD_some]
      exact .v _
  · exact .lst _ _ _ 1 _ 0 0 (fun _ _ => undef) hl.symm h1 h2 hx (fun h => by omega) (fun k j hk => by omega) (fun k j hk => by omega)
theorem dat_wv {a : Option Addr} {n k : Nat} {l : List DM.Wr} (h : DM.WV w (.slice a n k) l) (h1 : n ≤ k) (h2 : k ≤ maxLen) (hP : ∀ g, (Value.slice a n k).ownBlock = some g → ∀ o, g < w.heap.size → Pc g o) : DatRep Pc w (.slice a n k) (.lst 2 (cacD l)) := by
  obtain ⟨a', c', e, h⟩ := h
  simp only [Value.slice.injEq] at e
  obtain ⟨rfl, rfl, rfl⟩ := e
  have hl := cacD_len l
  have hx : ∀ x ∈ cacD l, x.length = 2 := fun x hx => by
    unfold cacD at hx
    obtain ⟨s, _, rfl⟩ := List.mem_map.1 hx
    rfl
  by_cases h0 : 0 < l.length
  · obtain ⟨b, off, rfl, hb, hc⟩ := h h0
    refine .lst _ _ _ 2 _ b off (fun k j => if j = 0 then .int .i64 (l.getD k (0, ⟨#[]⟩)).1 else .string (l.getD k (0, ⟨#[]⟩)).2) hl.symm h1 h2 hx (fun _ => rfl) (fun k j hk hj => ?_) (fun k j hk hj => ?_)
    · have hk' : k < l.length := by omega
      obtain rfl | rfl : j = 0 ∨ j = 1 := by omega
      · refine ⟨hP b rfl _ hb, ?_, rfl⟩
        simp only [if_true, Nat.add_zero, List.getD, List.getElem?_eq_getElem hk', Option.getD_some]
        exact (hc k hk').1
      · refine ⟨hP b rfl _ hb, ?_, rfl⟩
        simp only [Nat.one_ne_zero, if_false, List.getD, List.getElem?_eq_getElem hk', Option.getD_some]
        exact (hc k hk').2
    · have hk' : k < l.length := by omega
      have hj' := hx _ (List.getElem_mem hk)
      obtain rfl | rfl : j = 0 ∨ j = 1 := by omega
      · simp only [cacD, List.getElem_map, List.getElem_cons_zero, if_true, List.getD, List.getElem?_eq_getElem hk', Option.getD_some]
        exact .v _
      · simp only [cacD, List.getElem_map, List.getElem_cons_succ, List.getElem_cons_zero, Nat.one_ne_zero, if_false, List.getD, List.getElem?_eq_getElem hk', Option.getD_some]
        exact .v _
  · exact .lst _ _ _ 2 _ 0 0 (fun _ _ => undef) hl.symm h1 h2 hx (fun h => by omega) (fun k j hk => by omega) (fun k j hk => by omega)
end

/-! ### arguments that come in -/
theorem map_of {α β : Type} {p : α → Prop} {f : α → β} : ∀ {xs : List β}, (∀ x ∈ xs, ∃ s, p s ∧ x = f s) → ∃ l : List α, xs = l.map f ∧ ∀ s ∈ l, p s
  | [], _ => ⟨[], rfl, fun s h => by cases h⟩
  | x :: xs, h => by
    obtain ⟨s, h1, rfl⟩ := h x (List.mem_cons_self ..)
    obtain ⟨l, rfl, h2⟩ := map_of (fun y hy => h y (List.mem_cons_of_mem _ hy))
    exact ⟨s :: l, rfl, fun t ht => by
      rcases List.mem_cons.1 ht with rfl | ht
      · exact h1
      · exact h2 t ht⟩
theorem typ_int {k : IntKind} {x : Dat} (h : Typ (.int k) x) : ∃ n, x = .v (.int k n) ∧ (Lit.int k n).wf = true := by
  cases x with
  | v x => unfold Typ at h; obtain ⟨n, rfl, h⟩ := h; exact ⟨n, rfl, h⟩
  | lst sz xs => unfold Typ at h; exact h.elim
theorem typ_bool {x : Dat} (h : Typ .bool x) : ∃ b, x = .v (.bool b) := by
  cases x with
  | v x => unfold Typ at h; obtain ⟨n, rfl⟩ := h; exact ⟨n, rfl⟩
  | lst sz xs => unfold Typ at h; exact h.elim
theorem typ_str {x : Dat} (h : Typ .str x) : ∃ s : ByteArray, x = .v (.string s) ∧ s.size ≤ maxLen := by
  cases x with
  | v x => unfold Typ at h; obtain ⟨n, rfl, h⟩ := h; exact ⟨n, rfl, h⟩
  | lst sz xs => unfold Typ at h; exact h.elim
theorem typ_lst {e : List Sh} {x : Dat} (h : Typ (.lst e) x) : ∃ xs, x = .lst e.length xs ∧ xs.length ≤ maxLen ∧ ∀ x ∈ xs, TypL e x := by
  cases x with
  | v x => unfold Typ at h; exact h.elim
  | lst sz xs => unfold Typ at h; obtain ⟨rfl, h⟩ := h; exact ⟨xs, rfl, h⟩
theorem typL1 {a : Sh} {ds : List Dat} (h : TypL [a] ds) : ∃ x, ds = [x] ∧ Typ a x := by
  match ds, h with
  | [x], h => unfold TypL at h; exact ⟨x, rfl, h.1⟩
  | [], h => unfold TypL at h; exact h.elim
  | _ :: _ :: _, h => unfold TypL TypL at h; exact h.2.elim
theorem typL2 {a b : Sh} {ds : List Dat} (h : TypL [a, b] ds) : ∃ x y, ds = [x, y] ∧ Typ a x ∧ Typ b y := by
  match ds, h with
  | x :: l, h => unfold TypL at h; obtain ⟨y, rfl, h2⟩ := typL1 h.2; exact ⟨x, y, rfl, h.1, h2⟩
  | [], h => unfold TypL at h; exact h.elim
theorem typL3 {a b c : Sh} {ds : List Dat} (h : TypL [a, b, c] ds) : ∃ x y z, ds = [x, y, z] ∧ Typ a x ∧ Typ b y ∧ Typ c z := by
  match ds, h with
  | x :: l, h => unfold TypL at h; obtain ⟨y, z, rfl, h2⟩ := typL2 h.2; exact ⟨x, y, z, rfl, h.1, h2⟩
  | [], h => unfold TypL at h; exact h.elim
theorem typ_secs {x : Dat} (h : Typ (.lst [.str]) x) : ∃ l, x = .lst 1 (secD l) ∧ l.length ≤ maxLen ∧ ∀ s ∈ l, s.size ≤ maxLen := by
  obtain ⟨xs, rfl, h1, h2⟩ := typ_lst h
  obtain ⟨l, rfl, h3⟩ := map_of (p := fun s : ByteArray => s.size ≤ maxLen) (f := fun s => [Dat.v (.string s)]) (fun x hx => by
    obtain ⟨y, rfl, hy⟩ := typL1 (h2 x hx)
    obtain ⟨s, rfl, hs⟩ := typ_str hy
    exact ⟨s, hs, rfl⟩)
  exact ⟨l, rfl, by simpa using h1, h3⟩
theorem typ_caches {x : Dat} (h : Typ (.lst [.int .i64, .str]) x) : ∃ l, x = .lst 2 (cacD l) ∧ l.length ≤ maxLen ∧ ∀ p ∈ l, p.2.size ≤ maxLen := by
  obtain ⟨xs, rfl, h1, h2⟩ := typ_lst h
  obtain ⟨l, rfl, h3⟩ := map_of (p := fun p : DM.Wr => p.2.size ≤ maxLen) (f := fun p => [Dat.v (.int .i64 p.1), Dat.v (.string p.2)]) (fun x hx => by
    obtain ⟨y, z, rfl, hy, hz⟩ := typL2 (h2 x hx)
    obtain ⟨n, rfl, _⟩ := typ_int hy
    obtain ⟨s, rfl, hs⟩ := typ_str hz
    exact ⟨(n, s), hs, rfl⟩)
  exact ⟨l, rfl, by simpa using h1, h3⟩
theorem typ_acts {x : Dat} (h : Typ (.lst [.bool, .int .i64, .str]) x) : ∃ l, x = .lst 3 (actD l) ∧ l.length ≤ maxLen ∧ ∀ a ∈ l, a.2.2.size ≤ maxLen := by
  obtain ⟨xs, rfl, h1, h2⟩ := typ_lst h
  obtain ⟨l, rfl, h3⟩ := map_of (p := fun p : DM.Ac => p.2.2.size ≤ maxLen) (f := fun a => [Dat.v (.bool a.1), Dat.v (.int .i64 a.2.1), Dat.v (.string a.2.2)]) (fun x hx => by
    obtain ⟨y, z, t, rfl, hy, hz, ht⟩ := typL3 (h2 x hx)
    obtain ⟨b, rfl⟩ := typ_bool hy
    obtain ⟨n, rfl, _⟩ := typ_int hz
    obtain ⟨s, rfl, hs⟩ := typ_str ht
    exact ⟨(b, n, s), hs, rfl⟩)
  exact ⟨l, rfl, by simpa using h1, h3⟩
/-- a disk, and acts, that come in -/
def IsDk (w : World) (v : Value) : Prop := ∃ d : DM.Dk, (d.secs.length ≤ maxLen ∧ d.cache.length ≤ maxLen) ∧ DRep (noEnv (Old w)) noSt w v (.one (dk1 d))
def IsAc (w : World) (v : Value) : Prop := ∃ l : List DM.Ac, (l.length ≤ maxLen ∧ ∀ a ∈ l, a.2.2.size ≤ maxLen) ∧ DRep (noEnv (Old w)) noSt w v (lstD 3 (actD l))
section
variable {H : Type} {enc : TypeId × Value → H} {W : World} {base : Nat} {v : Value} {d : DataW H} {p : List MemPlace}
set_option maxRecDepth 100000 in
theorem open_dk (hv : Value.okWide Try.prog W .any base 40 v) (h : DataW.Trod enc Try.prog W 0 (fun _ => true) true 40 v d p) : IsDk W v := by
  obtain ⟨ds, h1, h2⟩ := open_agg (n := 8) (sh := [.lst [.str], .lst [.int .i64, .str]]) (by kernel_rfl) Try.underlying40 hv h
  obtain ⟨x, y, rfl, hx, hy⟩ := typL2 h1
  obtain ⟨l, rfl, b1, _⟩ := typ_secs hx
  obtain ⟨m, rfl, b2, _⟩ := typ_caches hy
  exact ⟨⟨l, m⟩, ⟨b1, b2⟩, h2⟩
set_option maxRecDepth 100000 in
theorem open_ac (hv : Value.okWide Try.prog W .any base 54 v) (h : DataW.Trod enc Try.prog W 0 (fun _ => true) true 54 v d p) : IsAc W v := by
  obtain ⟨x, h1, h2⟩ := open_cell (n := 8) (s := .lst [.bool, .int .i64, .str]) (by kernel_rfl) (by kernel_rfl) hv h
  obtain ⟨l, rfl, b⟩ := typ_acts h1
  exact ⟨l, b, h2⟩
end
end Go.Proofs.Ytlideclkieadbaa.AM
