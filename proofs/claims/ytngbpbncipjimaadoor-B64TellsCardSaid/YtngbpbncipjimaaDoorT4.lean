/- Typed data over the plain machine: operators; all operations together. -/
import Derived.Test.YtngbpbncipjimaaDoorT3
namespace Go.Proofs.YtngbpbncipjimaaDoor.AM
open Go.RowKit
set_option linter.unusedVariables false
set_option linter.unusedSimpArgs false
variable {α : Type} {P : Program} {σ : TSt}

def intT (op : BinOp) (k k' : IntKind) (a b : Int) (c : TC → Option α) : Option α := match op with
  | .shl => (shlO k a b).bind fun z => c (.d (.int k) z)
  | .shr => (shrO k a b).bind fun z => c (.d (.int k) z)
  | .add => if k = k' then letO (k.wrap (a + b)) fun z => c (.d (.int k) z) else none
  | .sub => if k = k' then letO (k.wrap (a - b)) fun z => c (.d (.int k) z) else none
  | .mul => if k = k' then letO (k.wrap (a * b)) fun z => c (.d (.int k) z) else none
  | .quo => if k = k' then (quoO k a b).bind fun z => c (.d (.int k) z) else none
  | .rem => if k = k' then (remO a b).bind fun z => c (.d (.int k) z) else none
  | .and => if k = k' then letO (andI k a b) fun z => c (.d (.int k) z) else none
  | .or => if k = k' then letO (orI k a b) fun z => c (.d (.int k) z) else none
  | .xor => if k = k' then letO (xorI k a b) fun z => c (.d (.int k) z) else none
  | .eql => if k = k' then c (.d .bool (decide (a = b))) else none
  | .neq => if k = k' then c (.d .bool (!decide (a = b))) else none
  | .lss => if k = k' then c (.d .bool (decide (a < b))) else none
  | .leq => if k = k' then c (.d .bool (decide (a ≤ b))) else none
  | .gtr => if k = k' then c (.d .bool (decide (b < a))) else none
  | .geq => if k = k' then c (.d .bool (decide (b ≤ a))) else none
  | _ => none
def strT (op : BinOp) (s t : List UInt8) (c : TC → Option α) : Option α := match op with
  | .add => (catO s t).bind fun z => c (.d .str z)
  | .eql => c (.d .bool (decide (s = t)))
  | .neq => c (.d .bool (!decide (s = t)))
  | .lss => c (.d .bool (ltS s t))
  | .leq => c (.d .bool (ltS s t || decide (s = t)))
  | .gtr => c (.d .bool (!(ltS s t || decide (s = t))))
  | .geq => c (.d .bool (!ltS s t))
  | _ => none
def vC (c : TC) : TRes := { val := .one (.c c) }
theorem intT_ok {op : BinOp} {T : TypeId} {k k' : IntKind} {a b : Int} {c : TC → Option α} {r : α} (h : intT op k k' a b c = some r) :
    ∃ x, c x = some r ∧ Sim (evBin P op T (.one (.c (.d (.v (.int k a))))) (.one (.c (.d (.v (.int k' b)))))) (vC x) := by
  unfold intT at h
  split at h
  case h_1 =>
    obtain ⟨z, hz, h⟩ := Option.bind_eq_some_iff.1 h
    unfold shlO at hz
    split at hz
    case isFalse => cases hz
    rename_i hb
    simp only [Option.some.injEq] at hz; subst hz
    exact ⟨_, h, _, hb, rfl⟩
  case h_2 =>
    obtain ⟨z, hz, h⟩ := Option.bind_eq_some_iff.1 h
    unfold shrO at hz
    split at hz
    case isFalse => cases hz
    rename_i hb
    simp only [Option.some.injEq] at hz; subst hz
    exact ⟨_, h, _, hb, rfl⟩
  case h_6 =>
    split at h
    case isFalse => cases h
    rename_i hk; subst hk
    obtain ⟨z, hz, h⟩ := Option.bind_eq_some_iff.1 h
    unfold quoO at hz
    split at hz
    case isFalse => cases hz
    rename_i hb
    simp only [Option.some.injEq] at hz; subst hz
    refine ⟨_, h, _, hb, ?_⟩
    simp only [evBin, if_true, intBin, Option.map_some]; rfl
  case h_7 =>
    split at h
    case isFalse => cases h
    rename_i hk; subst hk
    obtain ⟨z, hz, h⟩ := Option.bind_eq_some_iff.1 h
    unfold remO at hz
    split at hz
    case isFalse => cases hz
    rename_i hb
    simp only [Option.some.injEq] at hz; subst hz
    refine ⟨_, h, _, hb, ?_⟩
    simp only [evBin, if_true, intBin, Option.map_some]; rfl
  case h_17 => cases h
  all_goals
    split at h
    case isFalse => cases h
    rename_i hk; subst hk
    refine ⟨_, h, Sim.tr ?_⟩
    simp only [evBin, if_true, intBin, Option.map_some]; rfl
theorem ba_inj {s t : List UInt8} : (ba s = ba t) = (s = t) := by
  apply propext
  constructor
  · intro h
    have := congrArg ByteArray.data h
    exact Array.toList_inj.2 this |> fun h => by simpa [ba] using h
  · rintro rfl; rfl
theorem ba_toList (s : List UInt8) : (ba s).toList = s := by rw [ByteArray.toList_eq]; rfl
theorem ba_append (s t : List UInt8) : ba s ++ ba t = ba (s ++ t) := by
  apply ByteArray.ext
  rw [ByteArray.data_append]
  simp [ba]
theorem dec_ba (s t : List UInt8) : decide (ba s = ba t) = decide (s = t) := by simp only [ba_inj]
theorem strT_ok {op : BinOp} {T : TypeId} {s t : List UInt8} {c : TC → Option α} {r : α} (h : strT op s t c = some r) :
    ∃ x, c x = some r ∧ Sim (evBin P op T (.one (.c (.d (.v (.string (ba s)))))) (.one (.c (.d (.v (.string (ba t))))))) (vC x) := by
  unfold strT at h
  split at h
  case h_1 =>
    obtain ⟨z, hz, h⟩ := Option.bind_eq_some_iff.1 h
    unfold catO at hz
    split at hz
    case isFalse => cases hz
    rename_i hb
    simp only [Option.some.injEq] at hz; subst hz
    refine ⟨_, h, _, hb, ?_⟩
    simp only [evBin, strBin, Option.map_some, ba_len, ba_append]; rfl
  case h_8 => cases h
  all_goals
    refine ⟨_, h, Sim.tr ?_⟩
    simp only [evBin, strBin, Option.map_some, ba_toList, dec_ba]; rfl
/-! the equality of structs of scalars -/
def eqC1 (P : Program) (t : TypeId) (x y : TC) : Option Bool := match P.underlying t, x, y with
  | some .bool, .d .bool a, .d .bool b => some (decide ((a : Bool) = b))
  | some (.int _), .d (.int k) a, .d (.int k') b => if k = k' then some (decide ((a : Int) = b)) else none
  | some .string, .d .str a, .d .str b => some (decide ((a : List UInt8) = b))
  | _, _, _ => none
def vT : TC → Option Value
  | .d (.int k) n => some (.int k n)
  | .d .bool b => some (.bool b)
  | .d .str s => some (.string (ba s))
  | _ => none
def vTs : List TC → Option (List Value)
  | [] => some []
  | c :: cs => match vT c, vTs cs with
    | some x, some xs => some (x :: xs)
    | _, _ => none
theorem vT_ok {c : TC} {v : Value} (h : vT c = some v) : eC c = .d (.v v) := by
  unfold vT at h
  split at h <;> simp only [Option.some.injEq, reduceCtorEq] at h <;> subst h <;> rfl
theorem vTs_ok : ∀ {cs : List TC} {xs : List Value}, vTs cs = some xs → vals (cs.map eC) = some xs
  | [], xs, h => by simp only [vTs, Option.some.injEq] at h; subst h; rfl
  | c :: cs, xs, h => by
    unfold vTs at h
    split at h
    case h_2 => cases h
    rename_i x ys hx hy
    simp only [Option.some.injEq] at h; subst h
    rw [List.map_cons, vT_ok hx]
    show (vals (cs.map eC)).map (x :: ·) = _
    rw [vTs_ok hy]; rfl
def eqFsT (P : Program) : List Field → List TC → List TC → Option Bool
  | [], _, _ => some true
  | f :: fs, xs, ys => if f.name = "_" then none else match nth xs f.offset, nth ys f.offset, aggD P f.type with
    | some x, some y, some false => match eqC1 P f.type x y, eqFsT P fs xs ys with
      | some b, some c => some (b && c)
      | _, _ => none
    | _, _, _ => none
theorem eqC1_ok {t : TypeId} {x y : TC} {u v : Value} {b : Bool} (hx : vT x = some u) (hy : vT y = some v) (h : eqC1 P t x y = some b) : eqV P t u v = some b := by
  unfold eqC1 at h
  split at h
  · rename_i hu
    simp only [vT, Option.some.injEq] at hx hy h; subst hx hy h
    simp only [eqV, hu]
  · rename_i hu
    split at h
    case isFalse => cases h
    rename_i hk; subst hk
    simp only [vT, Option.some.injEq] at hx hy h; subst hx hy h
    simp only [eqV, hu, if_true]
  · rename_i hu
    simp only [vT, Option.some.injEq] at hx hy h; subst hx hy h
    simp only [eqV, hu, dec_ba]
  · cases h
theorem vTs_nth : ∀ {cs : List TC} {xs : List Value} {i : Nat} {c : TC}, vTs cs = some xs → nth cs i = some c → ∃ v, xs[i]? = some v ∧ vT c = some v
  | [], _, _, _, _, h => by cases h
  | c0 :: cs, xs, i, c, h, hn => by
    unfold vTs at h
    split at h
    case h_2 => cases h
    rename_i x ys hx hy
    simp only [Option.some.injEq] at h; subst h
    cases i with
    | zero => simp only [nth, Option.some.injEq] at hn; subst hn; exact ⟨x, rfl, hx⟩
    | succ i =>
      obtain ⟨v, h1, h2⟩ := vTs_nth hy (show nth cs i = some c from hn)
      exact ⟨v, by simpa using h1, h2⟩
theorem eqFsT_ok {us vs : List Value} {xs ys : List TC} (hx : vTs xs = some us) (hy : vTs ys = some vs) : ∀ {fs : List Field} {b : Bool}, eqFsT P fs xs ys = some b → eqFs P fs us vs = some b
  | [], b, h => h
  | f :: fs, b, h => by
    unfold eqFsT at h
    split at h
    case isTrue => cases h
    rename_i hn
    split at h
    case h_2 => cases h
    rename_i x y h1 h2 h3
    split at h
    case h_2 => cases h
    rename_i b1 b2 h4 h5
    obtain ⟨u, k1, k2⟩ := vTs_nth hx h1
    obtain ⟨v, k3, k4⟩ := vTs_nth hy h2
    unfold eqFs
    rw [if_neg hn, k1, k3, h3]
    simp only [eqC1_ok k2 k4 h4, eqFsT_ok hx hy h5]
    exact h
def eqStructT (P : Program) (t : TypeId) (xs ys : List TC) : Option Bool := match P.underlying t, vTs xs, vTs ys with
  | some (.struct fs), some _, some _ => if P.stoodInHeld t = false ∧ P.eqGuardType P.depth t = false then eqFsT P fs.toList xs ys else none
  | _, _, _ => none
theorem eqStructT_ok {t : TypeId} {xs ys : List TC} {b : Bool} (h : eqStructT P t xs ys = some b) : eqStruct P t (xs.map eC) (ys.map eC) = some b := by
  unfold eqStructT at h
  split at h
  case h_2 => cases h
  rename_i fs us vs hu hx hy
  split at h
  case isFalse => cases h
  rename_i hc
  unfold eqStruct
  rw [hu, vTs_ok hx, vTs_ok hy]
  simp only
  rw [if_pos hc]
  exact eqFsT_ok hx hy h
def tevBin (P : Program) (op : BinOp) (T : TypeId) (x y : TD) (k : TRes → Option α) : Option α := match x, y with
  | .one (.c (.d (.int kx) a)), .one (.c (.d (.int ky) b)) => intT op kx ky a b (fun c => k (vC c))
  | .one (.c (.d .str s)), .one (.c (.d .str t)) => strT op s t (fun c => k (vC c))
  | .one (.c (.d .bool a)), .one (.c (.d .bool b)) => match P.underlying T, op with
    | some .bool, .eql => k (vC (.d .bool (decide ((a : Bool) = b))))
    | some .bool, .neq => k (vC (.d .bool (!decide ((a : Bool) = b))))
    | _, _ => none
  | .one (.agg xs), .one (.agg ys) => match op, eqStructT P T xs ys with
    | .eql, some b => k (vC (.d .bool b))
    | .neq, some b => k (vC (.d .bool (!b)))
    | _, _ => none
  | _, _ => none
theorem tevBin_ok {op : BinOp} {T : TypeId} {x y : TD} {k : TRes → Option α} {r : α} (h : tevBin P op T x y k = some r) : ∃ z, k z = some r ∧ Sim (evBin P op T (eD x) (eD y)) z := by
  unfold tevBin at h
  split at h
  · obtain ⟨z, h1, h2⟩ := intT_ok (P := P) (T := T) h
    exact ⟨_, h1, h2⟩
  · obtain ⟨z, h1, h2⟩ := strT_ok (P := P) (T := T) h
    exact ⟨_, h1, h2⟩
  · split at h
    · rename_i hu
      exact ⟨_, h, Sim.tr (by simp only [evBin, eD, e1, eC, toDats, List.headD_cons, eqV, hu, Option.map_some]; rfl)⟩
    · rename_i hu
      exact ⟨_, h, Sim.tr (by simp only [evBin, eD, e1, eC, toDats, List.headD_cons, eqV, hu, Option.map_some]; rfl)⟩
    · cases h
  · split at h
    · rename_i b hb
      exact ⟨_, h, Sim.tr (by simp only [evBin, eD, e1, eqStructT_ok hb, Option.map_some]; rfl)⟩
    · rename_i b hb
      exact ⟨_, h, Sim.tr (by simp only [evBin, eD, e1, eqStructT_ok hb, Option.map_some]; rfl)⟩
    · cases h
  · cases h
def tevUn (op : UnOp) (x : TD) (k : TRes → Option α) : Option α := match op, x with
  | .not, .one (.c (.d .bool b)) => k (vC (.d .bool (!(b : Bool))))
  | .neg, .one (.c (.d (.int kk) n)) => k (vC (.d (.int kk) (kk.wrap (0 - (n : Int)))))
  | _, _ => none
theorem tevUn_ok {op : UnOp} {x : TD} {k : TRes → Option α} {r : α} (h : tevUn op x k = some r) : ∃ z, k z = some r ∧ Sim (evUn op (eD x)) z := by
  unfold tevUn at h
  split at h
  · exact ⟨_, h, Sim.tr rfl⟩
  · exact ⟨_, h, Sim.tr rfl⟩
  · cases h
def tevConv (P : Program) (src dst : TypeId) (x : TD) (k : TRes → Option α) : Option α := match P.underlying src, P.underlying dst, x with
  | some _, some (.int kk), .one (.c (.d (.int _) n)) => letO (kk.wrap n) fun z => k (vC (.d (.int kk) z))
  | some .string, some .string, .one (.c (.d .str s)) => k (vC (.d .str s))
  | _, _, _ => none
theorem tevConv_ok {src dst : TypeId} {x : TD} {k : TRes → Option α} {r : α} (h : tevConv P src dst x k = some r) : ∃ z, k z = some r ∧ Sim (evConv P src dst (eD x)) z := by
  unfold tevConv at h
  split at h
  · rename_i h1 h2
    exact ⟨_, h, Sim.tr (by simp only [evConv, eD, e1, eC, toDats, List.headD_cons, h1, h2]; rfl)⟩
  · rename_i h1 h2
    exact ⟨_, h, Sim.tr (by simp only [evConv, eD, e1, eC, toDats, List.headD_cons, h1, h2]; rfl)⟩
  · cases h
def rowConv (P : Program) (src dst : TypeId) : Bool := match P.underlying src, P.underlying dst with
  | some (.slice _), some .string => true
  | some .string, some (.slice _) => true
  | _, _ => false
def bytO (s : List UInt8) : Option (List Int) := if s.length ≤ 9223372036854775807 then some (s.map fun b => ((b.toNat : Nat) : Int)) else none
def tevConvRow (P : Program) (o : Option Nat) (src dst : TypeId) (x : TD) (σ : TSt) (k : TRes → Option α) : Option α := match P.underlying src, P.underlying dst with
  | some (.slice e), some .string => match P.underlying e, srcT x σ with
    | some (.int .u8), some ⟨.int .u8, xs⟩ => k (vC (.d .str ((xs : List Int).map fun n => UInt8.ofNat n.toNat)))
    | _, _ => none
  | some .string, some (.slice e) => match P.underlying e, x, o with
    | some (.int .u8), .one (.c (.d .str s)), some i => match lk σ.rows i with
      | none => if e < 1099511627776 then (bytO s).bind fun xs => k { val := .one (.c (.row i 0)), row := some (i, ⟨0, e + 1099511627776, true, .int .u8, xs⟩) } else none
      | some _ => none
    | _, _, _ => none
  | _, _ => none
theorem intsD_map : ∀ (xs : List Int), intsD (xs.map (toDats (.int .u8))) = some xs
  | [] => rfl
  | x :: xs => by
    show (intsD (xs.map (toDats (.int .u8)))).map (x :: ·) = _
    rw [intsD_map xs]; rfl
theorem strOf_go : ∀ (xs : List Int) (b : List UInt8), xs.foldl (fun r n => r.push (UInt8.ofNat n.toNat)) (ba b) = ba (b ++ xs.map fun n => UInt8.ofNat n.toNat)
  | [], b => by simp
  | x :: xs, b => by
    rw [List.foldl_cons, show (ba b).push (UInt8.ofNat x.toNat) = ba (b ++ [UInt8.ofNat x.toNat]) from by simp [ba, ByteArray.push], strOf_go xs]
    simp
theorem strOf_ba (xs : List Int) : strOf xs = ba (xs.map fun n => UInt8.ofNat n.toNat) := by
  have := strOf_go xs []
  rw [List.nil_append] at this
  exact this
theorem evConv_none {src dst : TypeId} {x : D} (h : rowConv P src dst = true) : evConv P src dst x = none := by
  unfold rowConv at h
  unfold evConv
  split at h
  · rename_i h1 h2; rw [h1, h2]
  · rename_i h1 h2; rw [h1, h2]
  · cases h
theorem tevConvRow_ok {o : Option Nat} {src dst : TypeId} {x : TD} {k : TRes → Option α} {r : α} (h : tevConvRow P o src dst x σ k = some r) : ∃ z, k z = some r ∧ Sim (evConvRow P o src dst (eD x) (eS σ).row) z := by
  unfold tevConvRow at h
  split at h
  · rename_i e h1 h2
    split at h
    case h_2 => cases h
    rename_i xs he hx
    have hs := srcT_ok hx
    have hs' : srcOf 1 (eD x) (eS σ).row = some (xs.map (toDats (.int .u8))) := hs
    refine ⟨_, h, Sim.tr ?_⟩
    have hi : intsD (List.map (toDats (.int .u8)) xs) = some xs := intsD_map xs
    simp only [evConvRow, h1, h2, he, hs', Option.bind_some]
    rw [hi]
    simp only [strOf_ba]
    rfl
  · rename_i e h1 h2
    split at h
    case h_2 => cases h
    rename_i s i he
    split at h
    case h_2 => cases h
    rename_i hr
    split at h
    case isFalse => cases h
    rename_i hlt
    obtain ⟨xs, hxs, h⟩ := Option.bind_eq_some_iff.1 h
    unfold bytO at hxs
    split at hxs
    case isFalse => cases hxs
    rename_i hle
    simp only [Option.some.injEq] at hxs; subst hxs
    refine ⟨_, h, (ba s).size ≤ maxLen, by rw [ba_len]; exact hle, ?_⟩
    simp only [evConvRow, h1, h2, he, eD, e1, eC, toDats, List.headD_cons, eS_noRow hr]
    rw [if_pos hlt]
    have e3 : (ba s).data.toList = s := by simp [ba]
    rw [e3]
    simp only [eRes, eD, e1, eC, Option.map_none, Option.map_some, eR, List.map_map]
    rfl
  · cases h
def tevPick (c x y : TD) (k : TRes → Option α) : Option α := match c with
  | .one (.c (.d .bool t)) => bif t then k { val := x } else k { val := y }
  | _ => none
theorem tevPick_ok {c x y : TD} {k : TRes → Option α} {r : α} (h : tevPick c x y k = some r) : ∃ z, k z = some r ∧ Sim (evPick (eD c) (eD x) (eD y)) z := by
  unfold tevPick at h
  split at h
  case h_2 => cases h
  rename_i t
  cases t with
  | true => exact ⟨_, h, Sim.tr rfl⟩
  | false => exact ⟨_, h, Sim.tr rfl⟩

/-! a list of n zeros -/
def makO (b : Nat) (q : Int) (n : Int) : Option (List Int) := if 0 ≤ n ∧ n ≤ 16777216 ∧ b * n.toNat ≤ 281474976710656 then some (List.replicate n.toNat q) else none
def tevMake (P : Program) (dst : Option Nat) (t : TypeId) (x : TD) (σ : TSt) (k : TRes → Option α) : Option α := match P.underlying t, dst, x with
  | some (.slice el), some i, .one (.c (.d (.int _) n)) => match lk σ.rows i, (P.info? el).map (fun i => (i.zero, i.size, i.bytes)) with
    | none, some (some (Value.int kk q), 1, b) => bif Nat.blt el 1099511627776 then (makO b q n).bind fun xs => k { val := .one (.c (.row i 0)), row := some (i, ⟨0, el, true, .int kk, xs⟩) } else none
    | _, _ => none
  | _, _, _ => none
theorem tevMake_ok {dst : Option Nat} {t : TypeId} {x : TD} {k : TRes → Option α} {r : α} (h : tevMake P dst t x σ k = some r) : ∃ y, k y = some r ∧ Sim (evMake P dst t (eD x) (eS σ).row) y := by
  unfold tevMake at h
  split at h
  case h_2 => cases h
  rename_i el i kx n hu
  split at h
  case h_2 => cases h
  rename_i kk q b hr hinf
  cases hb : Nat.blt el 1099511627776 with
  | false => rw [hb] at h; cases h
  | true =>
    rw [hb] at h
    have hlt : el < 1099511627776 := by simpa using hb
    obtain ⟨xs, hxs, h⟩ := Option.bind_eq_some_iff.1 h
    unfold makO at hxs
    split at hxs
    case isFalse => cases hxs
    rename_i hc
    simp only [Option.some.injEq] at hxs; subst hxs
    refine ⟨_, h, Sim.tr ?_⟩
    simp only [evMake, hu, eD, e1, eC, toDats, List.headD_cons, eS_noRow hr, hinf]
    rw [if_pos ⟨hc.1, hc.2.1, hc.2.2, hlt⟩]
    simp only [eRes, eD, e1, eC, Option.map_none, Option.map_some, eR, List.map_replicate]
    rfl
def tevMM (f : Int → Int → Int) (x y : TD) (k : TRes → Option α) : Option α := match x, y with
  | .one (.c (.d (.int kk) n)), .one (.c (.d (.int _) m)) => letO (f n m) fun z => k (vC (.d (.int kk) z))
  | _, _ => none
theorem tevMM_ok {f : Int → Int → Int} {x y : TD} {k : TRes → Option α} {r : α} (h : tevMM f x y k = some r) : ∃ z, k z = some r ∧ Sim (evMM f (eD x) (eD y)) z := by
  unfold tevMM at h
  split at h
  case h_2 => cases h
  exact ⟨_, h, Sim.tr rfl⟩
/-! all operations -/
def w1 (x : Option TD) (f : TD → Option α) : Option α := match x with | some y => f y | none => none
def w0 (σ : TSt) (x : Option Operand) (f : Option TD → Option α) : Option α := match x with
  | none => f none
  | some x => match topnd σ x with | some y => f (some y) | none => none
theorem w1_some {x : Option TD} {f : TD → Option α} {r : α} (h : w1 x f = some r) : ∃ y, x = some y ∧ f y = some r := by
  cases x with
  | none => cases h
  | some y => exact ⟨y, rfl, h⟩
theorem w0_some {x : Option Operand} {f : Option TD → Option α} {r : α} (h : w0 σ x f = some r) : ∃ y, x.map (opnd (eS σ)) = y.map eD ∧ f y = some r := by
  cases x with
  | none => exact ⟨none, rfl, h⟩
  | some x =>
    unfold w0 at h
    simp only at h
    split at h
    · rename_i y hy
      exact ⟨some y, by rw [Option.map_some, Option.map_some, topnd_ok hy], h⟩
    · cases h
def rowD : TD → Bool
  | .one (.c (.row _ _)) => true
  | _ => false
def tev (P : Program) (o : Oper) (σ : TSt) (k : TRes → Option α) : Option α := match o.op with
  | .move x => w1 (topnd σ x) fun y => k { val := y }
  | .assign x => w1 (topnd σ x) fun y => k { val := y }
  | .pick c x y => w1 (topnd σ c) fun c => w1 (topnd σ x) fun x => w1 (topnd σ y) fun y => tevPick c x y k
  | .alloc t => tevAlloc P o.dst t σ k
  | .box t x => w1 (topnd σ x) fun x => tevBox o.dst t x σ k
  | .load t x => w1 (topnd σ x) fun x => tevLoad P t x σ k
  | .store t x y => w1 (topnd σ x) fun x => w1 (topnd σ y) fun y => tevStore P t x y σ k
  | .fieldAddr t x f => w1 (topnd σ x) fun x => tevFieldAddr P t x f k
  | .field t x f => w1 (topnd σ x) fun x => tevField P t x f k
  | .index t x i => w1 (topnd σ x) fun x => w1 (topnd σ i) fun i => tevIndex P t x i k
  | .indexAddr t x i => w1 (topnd σ x) fun x => w1 (topnd σ i) fun i => tevIndexAddr P t x i σ k
  | .extract x i => w1 (topnd σ x) fun x => tevExtract x i k
  | .build t ps => tevBuild P t ps σ k
  | .buildSlice t n ps => tevBuildSlice P o.dst t n ps σ k
  | .binOp op t x y _ => w1 (topnd σ x) fun x => w1 (topnd σ y) fun y => tevBin P op t x y k
  | .unOp op _ x => w1 (topnd σ x) fun x => tevUn op x k
  | .convert s d x => w1 (topnd σ x) fun x => bif rowConv P s d then tevConvRow P o.dst s d x σ k else tevConv P s d x k
  | .slice t x lo hi none => w1 (topnd σ x) fun x => w0 σ lo fun lo => w0 σ hi fun hi => bif rowD x then tevSliceRow P t x lo hi σ k else tevSlice P t x lo hi k
  | .nilCheck x => w1 (topnd σ x) fun x => tevNil x k
  | .call ⟨.builtin .len, ⟨[x]⟩, ⟨[t]⟩⟩ => w1 (topnd σ x) fun x => tevLen P t x σ k
  | .call ⟨.builtin .append, ⟨[s, x]⟩, ⟨[t, t']⟩⟩ => if t = t' then w1 (topnd σ s) fun s => w1 (topnd σ x) fun x => tevAppend P o.dst t s x σ k else none
  | .makeSlice t x y => bif sameOp x y then w1 (topnd σ x) fun x => tevMake P o.dst t x σ k else none
  | .call ⟨.builtin .max, ⟨[x, y]⟩, ⟨[_, _]⟩⟩ => w1 (topnd σ x) fun x => w1 (topnd σ y) fun y => tevMM max x y k
  | .call ⟨.builtin .min, ⟨[x, y]⟩, ⟨[_, _]⟩⟩ => w1 (topnd σ x) fun x => w1 (topnd σ y) fun y => tevMM min x y k
  | _ => none
theorem tev_ok {o : Oper} {k : TRes → Option α} {r : α} (h : tev P o σ k = some r) : ∃ y, k y = some r ∧ Sim (evalA P o (opnd (eS σ)) (eS σ).box (eS σ).row) y := by
  unfold tev at h
  unfold evalA
  split at h
  · rename_i ho; rw [ho]
    obtain ⟨x1, e1', h⟩ := w1_some h
    exact ⟨_, h, Sim.tr (by show some _ = _; rw [topnd_ok e1']; rfl)⟩
  · rename_i ho; rw [ho]
    obtain ⟨x1, e1', h⟩ := w1_some h
    exact ⟨_, h, Sim.tr (by show some _ = _; rw [topnd_ok e1']; rfl)⟩
  · rename_i ho; rw [ho]
    obtain ⟨x1, e1', h⟩ := w1_some h
    obtain ⟨x2, e2', h⟩ := w1_some h
    obtain ⟨x3, e3', h⟩ := w1_some h
    show ∃ y, _ ∧ Sim (evPick _ _ _) y
    rw [topnd_ok e1', topnd_ok e2', topnd_ok e3']; exact tevPick_ok h
  · rename_i ho; rw [ho]
    exact tevAlloc_ok h
  · rename_i ho; rw [ho]
    obtain ⟨x1, e1', h⟩ := w1_some h
    show ∃ y, _ ∧ Sim (evBox _ _ _ _) y
    rw [topnd_ok e1']; exact tevBox_ok h
  · rename_i ho; rw [ho]
    obtain ⟨x1, e1', h⟩ := w1_some h
    show ∃ y, _ ∧ Sim (evLoad _ _ _ _ _) y
    rw [topnd_ok e1']; exact tevLoad_ok h
  · rename_i ho; rw [ho]
    obtain ⟨x1, e1', h⟩ := w1_some h
    obtain ⟨x2, e2', h⟩ := w1_some h
    show ∃ y, _ ∧ Sim (evStore _ _ _ _ _ _) y
    rw [topnd_ok e1', topnd_ok e2']; exact tevStore_ok h
  · rename_i ho; rw [ho]
    obtain ⟨x1, e1', h⟩ := w1_some h
    show ∃ y, _ ∧ Sim (evFieldAddr _ _ _ _) y
    rw [topnd_ok e1']; exact tevFieldAddr_ok h
  · rename_i ho; rw [ho]
    obtain ⟨x1, e1', h⟩ := w1_some h
    show ∃ y, _ ∧ Sim (evField _ _ _ _) y
    rw [topnd_ok e1']; exact tevField_ok h
  · rename_i ho; rw [ho]
    obtain ⟨x1, e1', h⟩ := w1_some h
    obtain ⟨x2, e2', h⟩ := w1_some h
    show ∃ y, _ ∧ Sim (evIndex _ _ _ _) y
    rw [topnd_ok e1', topnd_ok e2']; exact tevIndex_ok h
  · rename_i ho; rw [ho]
    obtain ⟨x1, e1', h⟩ := w1_some h
    obtain ⟨x2, e2', h⟩ := w1_some h
    show ∃ y, _ ∧ Sim (evIndexAddr _ _ _ _ _) y
    rw [topnd_ok e1', topnd_ok e2']; exact tevIndexAddr_ok h
  · rename_i ho; rw [ho]
    obtain ⟨x1, e1', h⟩ := w1_some h
    show ∃ y, _ ∧ Sim (evExtract _ _) y
    rw [topnd_ok e1']; exact tevExtract_ok h
  · rename_i ho; rw [ho]
    exact tevBuild_ok h
  · rename_i ho; rw [ho]
    exact tevBuildSlice_ok h
  · rename_i ho; rw [ho]
    obtain ⟨x1, e1', h⟩ := w1_some h
    obtain ⟨x2, e2', h⟩ := w1_some h
    show ∃ y, _ ∧ Sim (evBin _ _ _ _ _) y
    rw [topnd_ok e1', topnd_ok e2']; exact tevBin_ok h
  · rename_i ho; rw [ho]
    obtain ⟨x1, e1', h⟩ := w1_some h
    show ∃ y, _ ∧ Sim (evUn _ _) y
    rw [topnd_ok e1']; exact tevUn_ok h
  · rename_i ho; rw [ho]
    obtain ⟨x1, e1', h⟩ := w1_some h
    show ∃ y, _ ∧ Sim (match evConv _ _ _ _ with | some r => some r | none => evConvRow _ _ _ _ _ _) y
    rw [topnd_ok e1']
    cases hb : rowConv P _ _ with
    | true =>
      rw [hb] at h
      rw [evConv_none hb]
      exact tevConvRow_ok h
    | false =>
      rw [hb] at h
      obtain ⟨y, h1, c, h2, h3⟩ := tevConv_ok (P := P) h
      rw [h3]
      exact ⟨y, h1, c, h2, rfl⟩
  · rename_i ho; rw [ho]
    obtain ⟨x1, e1', h⟩ := w1_some h
    obtain ⟨x2, e2', h⟩ := w0_some h
    obtain ⟨x3, e3', h⟩ := w0_some h
    show ∃ y, _ ∧ Sim (match evSlice _ _ _ _ _ with | some r => some r | none => evSliceRow _ _ _ _ _ _) y
    rw [topnd_ok e1', e2', e3']
    cases hb : rowD x1 with
    | true =>
      rw [hb] at h
      obtain ⟨y, h1, h2, h3⟩ := tevSliceRow_ok (P := P) h
      rw [h2]
      exact ⟨y, h1, h3⟩
    | false =>
      rw [hb] at h
      obtain ⟨y, h1, c, h2, h3⟩ := tevSlice_ok (P := P) h
      rw [h3]
      exact ⟨y, h1, c, h2, rfl⟩
  · rename_i ho; rw [ho]
    obtain ⟨x1, e1', h⟩ := w1_some h
    show ∃ y, _ ∧ Sim (evNil _) y
    rw [topnd_ok e1']; exact tevNil_ok h
  · rename_i ho; rw [ho]
    obtain ⟨x1, e1', h⟩ := w1_some h
    show ∃ y, _ ∧ Sim (evLen _ _ _ _) y
    rw [topnd_ok e1']; exact tevLen_ok h
  · rename_i ho; rw [ho]
    split at h
    case isFalse => cases h
    rename_i ht
    obtain ⟨x1, e1', h⟩ := w1_some h
    obtain ⟨x2, e2', h⟩ := w1_some h
    show ∃ y, _ ∧ Sim (if _ = _ then evAppend _ _ _ _ _ _ else none) y
    rw [if_pos ht, topnd_ok e1', topnd_ok e2']; exact tevAppend_ok h
  · rename_i ho; rw [ho]
    cases hs : sameOp _ _ with
    | false => rw [hs] at h; cases h
    | true =>
      rw [hs] at h
      obtain ⟨x1, e1', h⟩ := w1_some h
      show ∃ y, _ ∧ Sim (bif sameOp _ _ then evMake _ _ _ _ _ else none) y
      rw [hs, topnd_ok e1']; exact tevMake_ok h
  · rename_i ho; rw [ho]
    obtain ⟨x1, e1', h⟩ := w1_some h
    obtain ⟨x2, e2', h⟩ := w1_some h
    show ∃ y, _ ∧ Sim (evMM _ _ _) y
    rw [topnd_ok e1', topnd_ok e2']; exact tevMM_ok h
  · rename_i ho; rw [ho]
    obtain ⟨x1, e1', h⟩ := w1_some h
    obtain ⟨x2, e2', h⟩ := w1_some h
    show ∃ y, _ ∧ Sim (evMM _ _ _) y
    rw [topnd_ok e1', topnd_ok e2']; exact tevMM_ok h
  · cases h
end Go.Proofs.YtngbpbncipjimaaDoor.AM
