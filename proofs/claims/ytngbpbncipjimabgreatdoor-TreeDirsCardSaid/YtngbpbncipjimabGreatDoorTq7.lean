/- One text of FilT, FilG1 (mk/pack.py). -/
import Derived.Test.YtngbpbncipjimabGreatDoorTq6
/- Layer 5: files.Path. -/
namespace Go.Proofs
open Go.RowKit Go.Shelf Go.Lib
attribute [local go_sem] Oper.semAt_some
set_option linter.unusedVariables false
set_option linter.unusedSimpArgs false
namespace YtngbpbncipjimabGreatDoor.AM
theorem part_one (x : List UInt8) (w : World) (hI : Inv w) (hx : x.length ≤ 1000000) : Calls Tryz.prog 57 #[.string (ba x)] w fun e w' => e = .returned (.bool (partS x)) ∧ Below w.heap.size w w' := by
  have h := (fPart_ok 1000001 Inv know_inv).1.2 x (partS x) (fPart_spec 1000001 x (by omega) (by omega))
  refine (h (fun _ _ => False) w #[.string (ba x)] hI (fun b o h => h.elim) ⟨drep_val _, trivial⟩).mono ?_
  rintro e w' ⟨v, Pc, rfl, hb, _, _, hv⟩
  have hv' : v = .bool (partS x) := of_val hv
  rw [hv']
  exact ⟨rfl, hb⟩
set_option maxHeartbeats 2000000 in
theorem fPath_calls (s : List UInt8) (w : World) (hI : Inv w) : Calls Tryz.prog 38 #[.string (ba s)] w fun e w' => e = .returned (.bool (pathS s)) ∧ Below w.heap.size w w' := by
  refine (callsIn_wide (n := 9)).1 ?_
  refine callsIn_of_wp_marks Tryz.func38 rfl trivial ?_ rfl
  simp only [Tryz.ntmps38, List.size_toArray, List.length_cons, List.length_nil, Nat.reduceAdd, Nat.reduceSub, Array.replicate_succ, Array.replicate_zero, List.push_toArray, List.append_toArray, List.nil_append, List.cons_append]
  have hsz : (ba s).size = s.length := ba_len s
  by_cases h2 : s.length ≤ 60
  · skip
    gi_wp2_with (refine ⟨trivial, ?_⟩; gi_at_call 56; refine (callsIn_wide.2 (SplitSeq_calls _ _ _)).mono ?_; rintro e w' ⟨rfl, rfl⟩)
    obtain ⟨W0, hW0, hs0, hb0, g0, g1, g2, g3⟩ := four w (Obj.cells #[Value.bool false] 4) (Obj.cells #[Value.string (ba s)] 9) (Obj.cells #[Value.string { data := #[47] }] 9) (Obj.cells #[Value.int IntKind.i64 0] 3)
    rw [hW0]
    clear hW0
    obtain ⟨c1, f1⟩ := boxed_cell g0
    obtain ⟨c2, f2⟩ := boxed_cell g1
    obtain ⟨c3, f3⟩ := boxed_cell g2
    obtain ⟨c4, f4⟩ := boxed_cell g3
    refine range_split (n := 9) (by omega) 47 (w.heap.size + 1) (w.heap.size + 1 + 1) (w.heap.size + 1 + 2) s (by omega) rfl ⟨c2, f2⟩
      (Rng (.string (ba [47])) (w.heap.size + 1 + 1) w.heap.size (w.heap.size + 1 + 1) (w.heap.size + 1 + 2) 47 w partS) (RngX w.heap.size w partS) (rng_own (by omega)) (rngX_own (by omega))
      (fun pre W h => ⟨h.cP, h.cC, (hI.below h.below).maxLen⟩) (fun pre W v h => rng_set v h (by omega) (by omega) (by omega) (by omega) (by omega)) ⟨c3, c1, f1, c3, c4, hb0, rfl⟩
      (fun x => { tmps := #[.string (ba s), undef, .pointer (some ⟨w.heap.size, 0, none⟩), .string (ba x), .string (ba s), .int .i64 s.length, .bool (decide ((60 : Int) < s.length)), .string (ba s), .func (.func 102) #[] #[.pointer (some ⟨w.heap.size + 1 + 1, 0, none⟩), .pointer (some ⟨w.heap.size + 1, 0, none⟩), .pointer (some ⟨w.heap.size + 1 + 2, 0, none⟩)], .string (ba x), undef, undef, undef], defers := [] }) ?assign ?body ?done ?stop
    case assign =>
      intro l x W K hK
      gi_wp2
      exact hK
    case body =>
      intro l pre x r W hi hL hx
      have k1 := hi.res
      have k2 := hi.frz
      have hc := part_one x W (hI.below hi.below) (by omega)
      cases hpx : partS x with
      | true =>
        rw [hpx] at hc
        gi_wp2_with (refine ⟨trivial, ?_⟩; gi_at_call 57; refine (CallsIn.inRound l (callsIn_wide.2 hc)).mono ?_; rintro e w' ⟨rfl, hb'⟩)
        exact ⟨keeps_below hb', rng_below hi hb' (by simp [hpx]), left_below hL hb'⟩
      | false =>
        rw [hpx] at hc
        gi_wp2_with (refine ⟨trivial, ?_⟩; gi_at_call 57; refine (CallsIn.inRound l (callsIn_wide.2 hc)).mono ?_; rintro e w' ⟨rfl, hb'⟩; have k3 := below_cell hb' hi.res; have k4 := (below_frozen hb' hi.res).trans hi.frz)
        exact ⟨(keeps_below hb').trans (KeepsOthers.setCell _ _ _), World.cell?_setCell_same' _ _ _ (by rw [k3]; rfl), (hi.below.trans (hb'.mono hi.below.size)).setCell (by simp) _, by simp [hpx]⟩
    case done =>
      intro D W hD hi hK
      have k1 := hi.res
      have k2 := hi.frz
      gi_wp2
      have hK' := (KeepsOthers.setCell W ⟨w.heap.size, 0, none⟩ (.bool true)).same D _ hK rfl
      have hW' : Below w.heap.size w (W.setCell ⟨w.heap.size, 0, none⟩ (.bool true)) := hi.below.setCell (by simp) _
      have k5 : (W.setCell ⟨w.heap.size, 0, none⟩ (.bool true)).cell? ⟨w.heap.size, 0, none⟩ = some (.bool true) := World.cell?_setCell_same' _ _ _ (by rw [k1]; rfl)
      generalize W.setCell ⟨w.heap.size, 0, none⟩ (.bool true) = W2 at hK' hW' k5
      refine ⟨by simp, .inl ⟨_, _, rfl, run_takeDeferred hK', ?_⟩⟩
      have hg := grownBy_putObj' W2 D (.deferred none)
      refine ⟨_, ret_cell (b := w.heap.size) (v := .bool true) rfl rfl hag (cell_kept k5 hg (fun r e => by cases e; exact ⟨_, hK', rfl⟩)), ?_, ?_⟩
      · have ha := hi.all
        unfold pathS; simp [h2, ha]
      · exact hW'.grown hg hW'.size (fun k e => by cases e; omega)
    case stop =>
      intro D pre x t W hD hsp hi hK
      refine ⟨by simp, .inl ⟨_, _, rfl, run_takeDeferred hK, ?_⟩⟩
      have hg := grownBy_putObj' W D (.deferred none)
      refine ⟨_, ret_cell (b := w.heap.size) (v := .bool false) rfl rfl hag (cell_kept hi.res hg (fun r e => by cases e; exact ⟨_, hK, rfl⟩)), ?_, ?_⟩
      · have ha := all_stop hsp hi.no
        unfold pathS; simp [ha]
      · exact hi.below.grown hg hi.below.size (fun k e => by cases e; omega)
  · gi_wp2
    refine ⟨_, ret_cell (b := w.heap.size) (v := .bool false) rfl rfl hag (by simp), ?_, ?_⟩
    · unfold pathS; simp [h2]
    · exact (Below.refl _ w).alloc (Nat.le_refl _) _
def fPath_t (s : List UInt8) : Option Bool := some (pathS s)
def fPath_fc : FC := { f := 38, args := [strA], res := boolA, F := fun p => fPath_t p }
theorem fPath_ok : FCall Inv Tryz.prog fPath_fc := fun G hG => ⟨⟨by kernel_rfl, fun (s : List UInt8) r h => by
  have hr : pathS s = r := Option.some.inj h
  intro Pc w vs hg hlt hv
  obtain ⟨l⟩ := vs
  match l, hv with
  | [x], ⟨h1, _⟩ =>
    obtain rfl : x = .string (ba s) := of_val h1
    refine (fPath_calls s w (hG.im w hg)).mono ?_
    rintro e w' ⟨rfl, hb⟩
    subst hr
    exact pc_done rfl hb (drep_val _)⟩, rfl⟩
end YtngbpbncipjimabGreatDoor.AM
end Go.Proofs

/- Layer 5, what the machine makes: what functions come to, as plain functions of data: written by program (shal.py); the kernel checks it. -/
namespace Go.Proofs.YtngbpbncipjimabGreatDoor.AM
open Go.RowKit
set_option linter.unusedVariables false
set_option maxRecDepth 20000
/-! armada/files.May -/
@[reducible] def fMay_sh0 : SSt := ⟨[(0, .one (.c (.d (.lst (.prod .str .str))))), (8, .one (.c (.d (.lst (.prod .str .str))))), (9, .one (.c (.d (.int .i64)))), (10, .one (.c (.d (.int .i64))))], [], []⟩
@[reducible] def fMay_outs0 : List (Exit × SSt) := [(.ret, ⟨[(2, .one (.c (.d .bool)))], [], []⟩), (.exit 0, ⟨[], [], []⟩)]
def fMay_l0 (n : Nat) (rec : (List (List UInt8 × (List UInt8))) → (List (List UInt8 × (List UInt8))) → Int → Int → Option (((Bool × (Unit)) × (Unit) × (Unit)) ⊕ ((Unit) × (Unit) × (Unit)))) (a1 : List (List UInt8 × (List UInt8))) (a2 : List (List UInt8 × (List UInt8))) (a3 : Int) (a4 : Int) : Option (((Bool × (Unit)) × (Unit) × (Unit)) ⊕ ((Unit) × (Unit) × (Unit))) :=
  (bif decide (a4 < a3) then (idxL a2 a4).bind fun (x1 : List UInt8 × (List UInt8)) => (fPath_t x1.1).bind fun (r2 : Bool) => (bif !r2 then some (Sum.inl ((false, ()), ((), ()))) else (bif decide ((4096 : Int) < ((List.length x1.2 : Nat) : Int)) then some (Sum.inl ((false, ()), ((), ()))) else (bif decide ((0 : Int) < a4) then letO (IntKind.wrap .i64 (a4 - (1 : Int))) fun (n3 : Int) => (idxL a1 n3).bind fun (x4 : List UInt8 × (List UInt8)) => (bif !ltS (x4.1) (x1.1) then some (Sum.inl ((false, ()), ((), ()))) else letO (IntKind.wrap .i64 (a4 + (1 : Int))) fun (n5 : Int) => rec a1 a2 a3 n5) else letO (IntKind.wrap .i64 (a4 + (1 : Int))) fun (n6 : Int) => rec a1 a2 a3 n6))) else some (Sum.inr (((), ((), ())))))
def fMay_F0 (n : Nat) (rec : pSt fMay_sh0 → Option (pOuts fMay_outs0)) (p : pSt fMay_sh0) : Option (pOuts fMay_outs0) := fMay_l0 n (fun a1 a2 a3 a4 => rec ((a1, (a2, (a3, (a4, ())))), ((), ()))) p.1.1 p.1.2.1 p.1.2.2.1 p.1.2.2.2.1
def fMay_loop0 (n m : Nat) (a1 : List (List UInt8 × (List UInt8))) (a2 : List (List UInt8 × (List UInt8))) (a3 : Int) (a4 : Int) : Option (((Bool × (Unit)) × (Unit) × (Unit)) ⊕ ((Unit) × (Unit) × (Unit))) := iterF (fMay_F0 n) m ((a1, (a2, (a3, (a4, ())))), ((), ()))
theorem fMay_loop0_succ (n m : Nat) (a1 : List (List UInt8 × (List UInt8))) (a2 : List (List UInt8 × (List UInt8))) (a3 : Int) (a4 : Int) : fMay_loop0 n (m + 1) a1 a2 a3 a4 = fMay_l0 n (fun a1 a2 a3 a4 => fMay_loop0 n m a1 a2 a3 a4) a1 a2 a3 a4 := rfl
def fMay_L0 (n : Nat) : LC := { sh := fMay_sh0, outs := fMay_outs0, F := iterF (fMay_F0 n) n }
def fMay_lts (n : Nat) : List LC := [fMay_L0 n]
def fMay_t (n : Nat) (a1 : List (List UInt8 × (List UInt8))) : Option (Bool) :=
  (bif decide ((40 : Int) < ((List.length a1 : Nat) : Int)) then some false else (fMay_loop0 n n a1 a1 ((List.length a1 : Nat) : Int) (0 : Int)).bind fun (o7 : ((Bool × (Unit)) × (Unit) × (Unit)) ⊕ ((Unit) × (Unit) × (Unit))) => Sum.elim (fun (q8 : (Bool × (Unit)) × (Unit) × (Unit)) => some q8.1.1) (fun (q9 : (Unit) × (Unit) × (Unit)) => some true) o7)
def fMay_fc (n : Nat) : FC := { f := 21, args := [.one (.c (.d (.lst (.prod .str .str))))], res := .one (.c (.d .bool)), F := fun p => fMay_t n p }
def fMay_ct (n : Nat) : List FC := [fPath_fc]
theorem fMay_ctok (n : Nat) {G : World → Prop} (hG : Know Inv G) : ∀ c ∈ fMay_ct n, FCok Tryz.prog G c ∧ noTup c.args = true := List.forall_mem_cons.2 ⟨fPath_ok G hG, (fun _ h => by cases h)⟩
def fMay_dh : Hints := [(6, [⟨211106232545280, 35184372088832, 0⟩, ⟨1724034232360960, 281474976710656, 1⟩, ⟨13792273858822144, 2251799813685248, 3⟩, ⟨110338190870577152, 18014398509481984, 7⟩, ⟨882705526964617216, 144115188075855872, 15⟩, ⟨7061644215716950016, 1152921504606846976, 31⟩, ⟨56637268913811365888, 9223372036854775808, 63⟩, ⟨452089344993959870464, 73786976294838206464, 127⟩, ⟨3615705953635147972608, 590295810358705651712, 255⟩, ⟨28924638822764652789760, 4722366482869645213696, 511⟩, ⟨231395957660612615471104, 37778931862957161709568, 1023⟩, ⟨1851167661284900923769344, 302231454903657293676544, 2047⟩, ⟨14847120222142164551860224, 2417851639229258349412352, 4095⟩, ⟨118512509254096616282914816, 19342813113834066795298816, 8191⟩, ⟨947797842577869272969641985, 154742504910672534362390528, 16383⟩, ⟨7446983048826115716190044672, 1237940039285380274899124224, 16383⟩, ⟨60678404738097467536852385792, 9903520314283042199192993792, 49151⟩, ⟨485446580717893574361614385152, 79228162514264337593543950336, 131071⟩, ⟨3882199306012066376150448865280, 633825300114114700748351602688, 262143⟩, ⟨31057459048404734170736023830528, 5070602400912917605986812821504, 524287⟩, ⟨243388934586633158921433810743296, 40564819207303340847894502572032, 16383⟩, ⟨1987676160500676815380897421336576, 324518553658426726783156020576256, 1064959⟩, ⟨15906479751006635643814698616356864, 2596148429267413814265248164610048, 4194303⟩, ⟨127211273053483868944694184022900736, 20769187434139310514121985316880384, 8388607⟩, ⟨1017690184272863994123840237688848384, 166153499473114484112975882535043072, 16777215⟩]), (1000006, [])]
theorem fMay_dr : drB fMay_dh (bodyOf Tryz.f21) = true := by kernel_rfl
theorem fMay_eq0 (n : Nat) : ∀ rec p, fMay_F0 n rec p = round Tryz.prog 41 (fMay_ct n) (fMay_lts n) fMay_dh 1 fMay_sh0 fMay_outs0 (bodyAt 0 0 (bodyOf Tryz.f21)) rec p := by intro rec p; kernel_rfl
theorem fMay_lok0 (n : Nat) {F : Fr} (hF : F.n = 41) (hK : Know Inv F.G) : LCok Tryz.prog F (fMay_L0 n) (bodyAt 0 0 (bodyOf Tryz.f21)) :=
  loop_ok hF (by kernel_rfl) (fMay_ctok n hK) (fMay_eq0 n) (fuel := n) (fun _ => rfl) (lok_of fun j L h1 h2 h3 => absurd h2 (Nat.not_lt.2 (Nat.le_trans (by decide +kernel) h1))) (drB_at fMay_dr)
theorem fMay_eq (n : Nat) : ∀ a, (fMay_fc n).F a = main Tryz.prog 41 (fMay_ct n) (fMay_lts n) fMay_dh (bodyOf Tryz.f21) [.tmp 2] (fMay_fc n).args (fMay_fc n).res a := by intro a; kernel_rfl
theorem fMay_ok (n : Nat) : FCall Inv Tryz.prog (fMay_fc n) := fun G hG => ⟨⟨by kernel_rfl, fun a r h => main_ok (c := bodyOf Tryz.f21) Tryz.func21 (by kernel_rfl) (by kernel_rfl) (Nat.le_of_ble_eq_true (by kernel_rfl)) hG.st (by kernel_rfl) (rs := [.tmp 2]) (by kernel_rfl) (fMay_ctok n hG) (lts := fMay_lts n) (fun F hF hFG => have hK : Know Inv F.G := hFG ▸ hG; (lok_of (c := (bodyOf Tryz.f21)) (fun j L h1 h2 h3 => by
    have h2' : j < 1 := Nat.lt_of_lt_of_le h2 (by decide +kernel)
    match j, h1, h2', h3 with
    | 0, _, _, h3 => obtain rfl := Option.some.inj h3; exact (show bodyAt 0 0 (bodyOf Tryz.f21) = bodyAt 0 0 (bodyOf Tryz.f21) by kernel_rfl) ▸ fMay_lok0 n hF hK
    | j + 1, _, h2', _ => exact absurd h2' (by omega)))) fMay_dr ((fMay_eq n a).symm.trans h)⟩, rfl⟩








/-! armada/armadaref05.part -/
@[reducible] def rPart5_sh0 : SSt := ⟨[(0, .one (.c (.d .str))), (3, .one (.c (.d (.int .i64))))], [], []⟩
@[reducible] def rPart5_outs0 : List (Exit × SSt) := [(.ret, ⟨[(2, .one (.c (.d .bool)))], [], []⟩), (.exit 0, ⟨[(0, .one (.c (.d .str)))], [], []⟩)]
def rPart5_l0 (n : Nat) (rec : (List UInt8) → Int → Option (((Bool × (Unit)) × (Unit) × (Unit)) ⊕ (((List UInt8) × (Unit)) × (Unit) × (Unit)))) (a1 : List UInt8) (a2 : Int) : Option (((Bool × (Unit)) × (Unit) × (Unit)) ⊕ (((List UInt8) × (Unit)) × (Unit) × (Unit))) :=
  (bif decide (a2 < ((List.length a1 : Nat) : Int)) then (sAt a1 a2).bind fun (c1 : Int) => (bif decide ((97 : Int) ≤ c1) then (bif decide (c1 ≤ (122 : Int)) then letO (IntKind.wrap .i64 (a2 + (1 : Int))) fun (n2 : Int) => rec a1 n2 else (bif decide ((65 : Int) ≤ c1) then (bif decide (c1 ≤ (90 : Int)) then letO (IntKind.wrap .i64 (a2 + (1 : Int))) fun (n3 : Int) => rec a1 n3 else (bif decide ((48 : Int) ≤ c1) then (bif !(decide (c1 ≤ (57 : Int))) then (bif !decide (c1 = (45 : Int)) then (bif !decide (c1 = (95 : Int)) then (bif !decide (c1 = (46 : Int)) then some (Sum.inl ((false, ()), ((), ()))) else letO (IntKind.wrap .i64 (a2 + (1 : Int))) fun (n4 : Int) => rec a1 n4) else letO (IntKind.wrap .i64 (a2 + (1 : Int))) fun (n5 : Int) => rec a1 n5) else letO (IntKind.wrap .i64 (a2 + (1 : Int))) fun (n6 : Int) => rec a1 n6) else letO (IntKind.wrap .i64 (a2 + (1 : Int))) fun (n7 : Int) => rec a1 n7) else (bif !decide (c1 = (45 : Int)) then (bif !decide (c1 = (95 : Int)) then (bif !decide (c1 = (46 : Int)) then some (Sum.inl ((false, ()), ((), ()))) else letO (IntKind.wrap .i64 (a2 + (1 : Int))) fun (n8 : Int) => rec a1 n8) else letO (IntKind.wrap .i64 (a2 + (1 : Int))) fun (n9 : Int) => rec a1 n9) else letO (IntKind.wrap .i64 (a2 + (1 : Int))) fun (n10 : Int) => rec a1 n10))) else (bif decide ((48 : Int) ≤ c1) then (bif !(decide (c1 ≤ (57 : Int))) then (bif !decide (c1 = (45 : Int)) then (bif !decide (c1 = (95 : Int)) then (bif !decide (c1 = (46 : Int)) then some (Sum.inl ((false, ()), ((), ()))) else letO (IntKind.wrap .i64 (a2 + (1 : Int))) fun (n11 : Int) => rec a1 n11) else letO (IntKind.wrap .i64 (a2 + (1 : Int))) fun (n12 : Int) => rec a1 n12) else letO (IntKind.wrap .i64 (a2 + (1 : Int))) fun (n13 : Int) => rec a1 n13) else letO (IntKind.wrap .i64 (a2 + (1 : Int))) fun (n14 : Int) => rec a1 n14) else (bif !decide (c1 = (45 : Int)) then (bif !decide (c1 = (95 : Int)) then (bif !decide (c1 = (46 : Int)) then some (Sum.inl ((false, ()), ((), ()))) else letO (IntKind.wrap .i64 (a2 + (1 : Int))) fun (n15 : Int) => rec a1 n15) else letO (IntKind.wrap .i64 (a2 + (1 : Int))) fun (n16 : Int) => rec a1 n16) else letO (IntKind.wrap .i64 (a2 + (1 : Int))) fun (n17 : Int) => rec a1 n17)))) else (bif decide ((65 : Int) ≤ c1) then (bif decide (c1 ≤ (90 : Int)) then letO (IntKind.wrap .i64 (a2 + (1 : Int))) fun (n18 : Int) => rec a1 n18 else (bif decide ((48 : Int) ≤ c1) then (bif !(decide (c1 ≤ (57 : Int))) then (bif !decide (c1 = (45 : Int)) then (bif !decide (c1 = (95 : Int)) then (bif !decide (c1 = (46 : Int)) then some (Sum.inl ((false, ()), ((), ()))) else letO (IntKind.wrap .i64 (a2 + (1 : Int))) fun (n19 : Int) => rec a1 n19) else letO (IntKind.wrap .i64 (a2 + (1 : Int))) fun (n20 : Int) => rec a1 n20) else letO (IntKind.wrap .i64 (a2 + (1 : Int))) fun (n21 : Int) => rec a1 n21) else letO (IntKind.wrap .i64 (a2 + (1 : Int))) fun (n22 : Int) => rec a1 n22) else (bif !decide (c1 = (45 : Int)) then (bif !decide (c1 = (95 : Int)) then (bif !decide (c1 = (46 : Int)) then some (Sum.inl ((false, ()), ((), ()))) else letO (IntKind.wrap .i64 (a2 + (1 : Int))) fun (n23 : Int) => rec a1 n23) else letO (IntKind.wrap .i64 (a2 + (1 : Int))) fun (n24 : Int) => rec a1 n24) else letO (IntKind.wrap .i64 (a2 + (1 : Int))) fun (n25 : Int) => rec a1 n25))) else (bif decide ((48 : Int) ≤ c1) then (bif !(decide (c1 ≤ (57 : Int))) then (bif !decide (c1 = (45 : Int)) then (bif !decide (c1 = (95 : Int)) then (bif !decide (c1 = (46 : Int)) then some (Sum.inl ((false, ()), ((), ()))) else letO (IntKind.wrap .i64 (a2 + (1 : Int))) fun (n26 : Int) => rec a1 n26) else letO (IntKind.wrap .i64 (a2 + (1 : Int))) fun (n27 : Int) => rec a1 n27) else letO (IntKind.wrap .i64 (a2 + (1 : Int))) fun (n28 : Int) => rec a1 n28) else letO (IntKind.wrap .i64 (a2 + (1 : Int))) fun (n29 : Int) => rec a1 n29) else (bif !decide (c1 = (45 : Int)) then (bif !decide (c1 = (95 : Int)) then (bif !decide (c1 = (46 : Int)) then some (Sum.inl ((false, ()), ((), ()))) else letO (IntKind.wrap .i64 (a2 + (1 : Int))) fun (n30 : Int) => rec a1 n30) else letO (IntKind.wrap .i64 (a2 + (1 : Int))) fun (n31 : Int) => rec a1 n31) else letO (IntKind.wrap .i64 (a2 + (1 : Int))) fun (n32 : Int) => rec a1 n32)))) else some (Sum.inr (((a1, ()), ((), ())))))
def rPart5_F0 (n : Nat) (rec : pSt rPart5_sh0 → Option (pOuts rPart5_outs0)) (p : pSt rPart5_sh0) : Option (pOuts rPart5_outs0) := rPart5_l0 n (fun a1 a2 => rec ((a1, (a2, ())), ((), ()))) p.1.1 p.1.2.1
def rPart5_loop0 (n m : Nat) (a1 : List UInt8) (a2 : Int) : Option (((Bool × (Unit)) × (Unit) × (Unit)) ⊕ (((List UInt8) × (Unit)) × (Unit) × (Unit))) := iterF (rPart5_F0 n) m ((a1, (a2, ())), ((), ()))
theorem rPart5_loop0_succ (n m : Nat) (a1 : List UInt8) (a2 : Int) : rPart5_loop0 n (m + 1) a1 a2 = rPart5_l0 n (fun a1 a2 => rPart5_loop0 n m a1 a2) a1 a2 := rfl
def rPart5_L0 (n : Nat) : LC := { sh := rPart5_sh0, outs := rPart5_outs0, F := iterF (rPart5_F0 n) n }
def rPart5_lts (n : Nat) : List LC := [rPart5_L0 n]
def rPart5_t (n : Nat) (a1 : List UInt8) : Option (Bool) :=
  (rPart5_loop0 n n a1 (0 : Int)).bind fun (o33 : ((Bool × (Unit)) × (Unit) × (Unit)) ⊕ (((List UInt8) × (Unit)) × (Unit) × (Unit))) => Sum.elim (fun (q34 : (Bool × (Unit)) × (Unit) × (Unit)) => some q34.1.1) (fun (q35 : ((List UInt8) × (Unit)) × (Unit) × (Unit)) => (bif !decide (q35.1.1 = ([] : List UInt8)) then (bif !decide (q35.1.1 = ([46] : List UInt8)) then some (!decide (q35.1.1 = ([46, 46] : List UInt8))) else some false) else some false)) o33
def rPart5_fc (n : Nat) : FC := { f := 37, args := [.one (.c (.d .str))], res := .one (.c (.d .bool)), F := fun p => rPart5_t n p }
def rPart5_ct (n : Nat) : List FC := []
theorem rPart5_ctok (n : Nat) {G : World → Prop} (hG : Know Inv G) : ∀ c ∈ rPart5_ct n, FCok Tryz.prog G c ∧ noTup c.args = true := (fun _ h => by cases h)
def rPart5_dh : Hints := []
theorem rPart5_dr : drB rPart5_dh (bodyOf Tryz.f37) = true := by kernel_rfl
theorem rPart5_eq0 (n : Nat) : ∀ rec p, rPart5_F0 n rec p = round Tryz.prog 61 (rPart5_ct n) (rPart5_lts n) rPart5_dh 1 rPart5_sh0 rPart5_outs0 (bodyAt 0 0 (bodyOf Tryz.f37)) rec p := by intro rec p; kernel_rfl
theorem rPart5_lok0 (n : Nat) {F : Fr} (hF : F.n = 61) (hK : Know Inv F.G) : LCok Tryz.prog F (rPart5_L0 n) (bodyAt 0 0 (bodyOf Tryz.f37)) :=
  loop_ok hF (by kernel_rfl) (rPart5_ctok n hK) (rPart5_eq0 n) (fuel := n) (fun _ => rfl) (lok_of fun j L h1 h2 h3 => absurd h2 (Nat.not_lt.2 (Nat.le_trans (by decide +kernel) h1))) (drB_at rPart5_dr)
theorem rPart5_eq (n : Nat) : ∀ a, (rPart5_fc n).F a = main Tryz.prog 61 (rPart5_ct n) (rPart5_lts n) rPart5_dh (bodyOf Tryz.f37) [.tmp 2] (rPart5_fc n).args (rPart5_fc n).res a := by intro a; kernel_rfl
theorem rPart5_ok (n : Nat) : FCall Inv Tryz.prog (rPart5_fc n) := fun G hG => ⟨⟨by kernel_rfl, fun a r h => main_ok (c := bodyOf Tryz.f37) Tryz.func37 (by kernel_rfl) (by kernel_rfl) (Nat.le_of_ble_eq_true (by kernel_rfl)) hG.st (by kernel_rfl) (rs := [.tmp 2]) (by kernel_rfl) (rPart5_ctok n hG) (lts := rPart5_lts n) (fun F hF hFG => have hK : Know Inv F.G := hFG ▸ hG; (lok_of (c := (bodyOf Tryz.f37)) (fun j L h1 h2 h3 => by
    have h2' : j < 1 := Nat.lt_of_lt_of_le h2 (by decide +kernel)
    match j, h1, h2', h3 with
    | 0, _, _, h3 => obtain rfl := Option.some.inj h3; exact (show bodyAt 0 0 (bodyOf Tryz.f37) = bodyAt 0 0 (bodyOf Tryz.f37) by kernel_rfl) ▸ rPart5_lok0 n hF hK
    | j + 1, _, h2', _ => exact absurd h2' (by omega)))) rPart5_dr ((rPart5_eq n a).symm.trans h)⟩, rfl⟩
/-! armada/armadaref05.Split -/
@[reducible] def rSplit5_sh0 : SSt := ⟨[(0, .one (.c (.d .str))), (1, .one (.c (.d (.int .u8)))), (5, .one (.c (.row 31))), (6, .one (.c (.d (.int .i64)))), (7, .one (.c (.d (.int .i64))))], [], [(31, ⟨9, true, .str⟩)]⟩
@[reducible] def rSplit5_outs0 : List (Exit × SSt) := [(.exit 0, ⟨[(5, .one (.c (.row 31)))], [], [(31, ⟨9, true, .str⟩)]⟩)]
def rSplit5_l0 (n : Nat) (rec : (List UInt8) → Int → Int → Int → (List (List UInt8)) → Option ((Unit × (Unit)) × (Unit) × ((List (List UInt8)) × (Unit)))) (a1 : List UInt8) (a2 : Int) (a3 : Int) (a4 : Int) (a5 : List (List UInt8)) : Option ((Unit × (Unit)) × (Unit) × ((List (List UInt8)) × (Unit))) :=
  (bif decide (a4 ≤ ((List.length a1 : Nat) : Int)) then (bif decide (a4 = ((List.length a1 : Nat) : Int)) then (subO a1 a3 a4).bind fun (s1 : List UInt8) => (appO 16 a5 ([s1] : List (List UInt8))).bind fun (l2 : List (List UInt8)) => letO (IntKind.wrap .i64 (a4 + (1 : Int))) fun (n3 : Int) => letO (IntKind.wrap .i64 (a4 + (1 : Int))) fun (n4 : Int) => rec a1 a2 n3 n4 l2 else (sAt a1 a4).bind fun (c5 : Int) => (bif decide (c5 = a2) then (subO a1 a3 a4).bind fun (s6 : List UInt8) => (appO 16 a5 ([s6] : List (List UInt8))).bind fun (l7 : List (List UInt8)) => letO (IntKind.wrap .i64 (a4 + (1 : Int))) fun (n8 : Int) => letO (IntKind.wrap .i64 (a4 + (1 : Int))) fun (n9 : Int) => rec a1 a2 n8 n9 l7 else letO (IntKind.wrap .i64 (a4 + (1 : Int))) fun (n10 : Int) => rec a1 a2 a3 n10 a5)) else some ((((), ()), ((), (a5, ())))))
def rSplit5_F0 (n : Nat) (rec : pSt rSplit5_sh0 → Option (pOuts rSplit5_outs0)) (p : pSt rSplit5_sh0) : Option (pOuts rSplit5_outs0) := rSplit5_l0 n (fun a1 a2 a3 a4 a5 => rec ((a1, (a2, ((), (a3, (a4, ()))))), ((), (a5, ())))) p.1.1 p.1.2.1 p.1.2.2.2.1 p.1.2.2.2.2.1 p.2.2.1
def rSplit5_loop0 (n m : Nat) (a1 : List UInt8) (a2 : Int) (a3 : Int) (a4 : Int) (a5 : List (List UInt8)) : Option ((Unit × (Unit)) × (Unit) × ((List (List UInt8)) × (Unit))) := iterF (rSplit5_F0 n) m ((a1, (a2, ((), (a3, (a4, ()))))), ((), (a5, ())))
theorem rSplit5_loop0_succ (n m : Nat) (a1 : List UInt8) (a2 : Int) (a3 : Int) (a4 : Int) (a5 : List (List UInt8)) : rSplit5_loop0 n (m + 1) a1 a2 a3 a4 a5 = rSplit5_l0 n (fun a1 a2 a3 a4 a5 => rSplit5_loop0 n m a1 a2 a3 a4 a5) a1 a2 a3 a4 a5 := rfl
def rSplit5_L0 (n : Nat) : LC := { sh := rSplit5_sh0, outs := rSplit5_outs0, F := iterF (rSplit5_F0 n) n }
def rSplit5_lts (n : Nat) : List LC := [rSplit5_L0 n]
def rSplit5_t (n : Nat) (a1 : List UInt8) (a2 : Int) : Option (List (List UInt8)) :=
  (rSplit5_loop0 n n a1 a2 (0 : Int) (0 : Int) []).bind fun (o11 : (Unit × (Unit)) × (Unit) × ((List (List UInt8)) × (Unit))) => some o11.2.2.1
def rSplit5_fc (n : Nat) : FC := { f := 36, args := [.one (.c (.d .str)), .one (.c (.d (.int .u8)))], res := .one (.c (.d (.lst .str))), F := fun p => rSplit5_t n p.1 p.2 }
def rSplit5_ct (n : Nat) : List FC := []
theorem rSplit5_ctok (n : Nat) {G : World → Prop} (hG : Know Inv G) : ∀ c ∈ rSplit5_ct n, FCok Tryz.prog G c ∧ noTup c.args = true := (fun _ h => by cases h)
def rSplit5_dh : Hints := []
theorem rSplit5_dr : drB rSplit5_dh (bodyOf Tryz.f36) = true := by kernel_rfl
theorem rSplit5_eq0 (n : Nat) : ∀ rec p, rSplit5_F0 n rec p = round Tryz.prog 35 (rSplit5_ct n) (rSplit5_lts n) rSplit5_dh 1 rSplit5_sh0 rSplit5_outs0 (bodyAt 0 0 (bodyOf Tryz.f36)) rec p := by intro rec p; kernel_rfl
theorem rSplit5_lok0 (n : Nat) {F : Fr} (hF : F.n = 35) (hK : Know Inv F.G) : LCok Tryz.prog F (rSplit5_L0 n) (bodyAt 0 0 (bodyOf Tryz.f36)) :=
  loop_ok hF (by kernel_rfl) (rSplit5_ctok n hK) (rSplit5_eq0 n) (fuel := n) (fun _ => rfl) (lok_of fun j L h1 h2 h3 => absurd h2 (Nat.not_lt.2 (Nat.le_trans (by decide +kernel) h1))) (drB_at rSplit5_dr)
theorem rSplit5_eq (n : Nat) : ∀ a, (rSplit5_fc n).F a = main Tryz.prog 35 (rSplit5_ct n) (rSplit5_lts n) rSplit5_dh (bodyOf Tryz.f36) [.tmp 4] (rSplit5_fc n).args (rSplit5_fc n).res a := by intro a; kernel_rfl
theorem rSplit5_ok (n : Nat) : FCall Inv Tryz.prog (rSplit5_fc n) := fun G hG => ⟨⟨by kernel_rfl, fun a r h => main_ok (c := bodyOf Tryz.f36) Tryz.func36 (by kernel_rfl) (by kernel_rfl) (Nat.le_of_ble_eq_true (by kernel_rfl)) hG.st (by kernel_rfl) (rs := [.tmp 4]) (by kernel_rfl) (rSplit5_ctok n hG) (lts := rSplit5_lts n) (fun F hF hFG => have hK : Know Inv F.G := hFG ▸ hG; (lok_of (c := (bodyOf Tryz.f36)) (fun j L h1 h2 h3 => by
    have h2' : j < 1 := Nat.lt_of_lt_of_le h2 (by decide +kernel)
    match j, h1, h2', h3 with
    | 0, _, _, h3 => obtain rfl := Option.some.inj h3; exact (show bodyAt 0 0 (bodyOf Tryz.f36) = bodyAt 0 0 (bodyOf Tryz.f36) by kernel_rfl) ▸ rSplit5_lok0 n hF hK
    | j + 1, _, h2', _ => exact absurd h2' (by omega)))) rSplit5_dr ((rSplit5_eq n a).symm.trans h)⟩, rfl⟩
/-! armada/armadaref05.Path -/
@[reducible] def rPath5_sh0 : SSt := ⟨[(3, .one (.c (.d (.lst .str)))), (4, .one (.c (.d (.int .i64))))], [], []⟩
@[reducible] def rPath5_outs0 : List (Exit × SSt) := [(.ret, ⟨[(2, .one (.c (.d .bool)))], [], []⟩), (.exit 0, ⟨[], [], []⟩)]
def rPath5_l0 (n : Nat) (rec : (List (List UInt8)) → Int → Option (((Bool × (Unit)) × (Unit) × (Unit)) ⊕ ((Unit) × (Unit) × (Unit)))) (a1 : List (List UInt8)) (a2 : Int) : Option (((Bool × (Unit)) × (Unit) × (Unit)) ⊕ ((Unit) × (Unit) × (Unit))) :=
  (bif decide (a2 < ((List.length a1 : Nat) : Int)) then (idxL a1 a2).bind fun (x2 : List UInt8) => (rPart5_t n x2).bind fun (r3 : Bool) => (bif !r3 then some (Sum.inl ((false, ()), ((), ()))) else letO (IntKind.wrap .i64 (a2 + (1 : Int))) fun (n4 : Int) => rec a1 n4) else some (Sum.inr (((), ((), ())))))
def rPath5_F0 (n : Nat) (rec : pSt rPath5_sh0 → Option (pOuts rPath5_outs0)) (p : pSt rPath5_sh0) : Option (pOuts rPath5_outs0) := rPath5_l0 n (fun a1 a2 => rec ((a1, (a2, ())), ((), ()))) p.1.1 p.1.2.1
def rPath5_loop0 (n m : Nat) (a1 : List (List UInt8)) (a2 : Int) : Option (((Bool × (Unit)) × (Unit) × (Unit)) ⊕ ((Unit) × (Unit) × (Unit))) := iterF (rPath5_F0 n) m ((a1, (a2, ())), ((), ()))
theorem rPath5_loop0_succ (n m : Nat) (a1 : List (List UInt8)) (a2 : Int) : rPath5_loop0 n (m + 1) a1 a2 = rPath5_l0 n (fun a1 a2 => rPath5_loop0 n m a1 a2) a1 a2 := rfl
def rPath5_L0 (n : Nat) : LC := { sh := rPath5_sh0, outs := rPath5_outs0, F := iterF (rPath5_F0 n) n }
def rPath5_lts (n : Nat) : List LC := [rPath5_L0 n]
def rPath5_t (n : Nat) (a1 : List UInt8) : Option (Bool) :=
  (bif decide ((60 : Int) < ((List.length a1 : Nat) : Int)) then some false else (rSplit5_t n a1 (47 : Int)).bind fun (r1 : List (List UInt8)) => (rPath5_loop0 n n r1 (0 : Int)).bind fun (o5 : ((Bool × (Unit)) × (Unit) × (Unit)) ⊕ ((Unit) × (Unit) × (Unit))) => Sum.elim (fun (q6 : (Bool × (Unit)) × (Unit) × (Unit)) => some q6.1.1) (fun (q7 : (Unit) × (Unit) × (Unit)) => some true) o5)
def rPath5_fc (n : Nat) : FC := { f := 20, args := [.one (.c (.d .str))], res := .one (.c (.d .bool)), F := fun p => rPath5_t n p }
def rPath5_ct (n : Nat) : List FC := [rSplit5_fc n, rPart5_fc n]
theorem rPath5_ctok (n : Nat) {G : World → Prop} (hG : Know Inv G) : ∀ c ∈ rPath5_ct n, FCok Tryz.prog G c ∧ noTup c.args = true := List.forall_mem_cons.2 ⟨rSplit5_ok n G hG, List.forall_mem_cons.2 ⟨rPart5_ok n G hG, (fun _ h => by cases h)⟩⟩
def rPath5_dh : Hints := []
theorem rPath5_dr : drB rPath5_dh (bodyOf Tryz.f20) = true := by kernel_rfl
theorem rPath5_eq0 (n : Nat) : ∀ rec p, rPath5_F0 n rec p = round Tryz.prog 22 (rPath5_ct n) (rPath5_lts n) rPath5_dh 1 rPath5_sh0 rPath5_outs0 (bodyAt 0 0 (bodyOf Tryz.f20)) rec p := by intro rec p; kernel_rfl
theorem rPath5_lok0 (n : Nat) {F : Fr} (hF : F.n = 22) (hK : Know Inv F.G) : LCok Tryz.prog F (rPath5_L0 n) (bodyAt 0 0 (bodyOf Tryz.f20)) :=
  loop_ok hF (by kernel_rfl) (rPath5_ctok n hK) (rPath5_eq0 n) (fuel := n) (fun _ => rfl) (lok_of fun j L h1 h2 h3 => absurd h2 (Nat.not_lt.2 (Nat.le_trans (by decide +kernel) h1))) (drB_at rPath5_dr)
theorem rPath5_eq (n : Nat) : ∀ a, (rPath5_fc n).F a = main Tryz.prog 22 (rPath5_ct n) (rPath5_lts n) rPath5_dh (bodyOf Tryz.f20) [.tmp 2] (rPath5_fc n).args (rPath5_fc n).res a := by intro a; kernel_rfl
theorem rPath5_ok (n : Nat) : FCall Inv Tryz.prog (rPath5_fc n) := fun G hG => ⟨⟨by kernel_rfl, fun a r h => main_ok (c := bodyOf Tryz.f20) Tryz.func20 (by kernel_rfl) (by kernel_rfl) (Nat.le_of_ble_eq_true (by kernel_rfl)) hG.st (by kernel_rfl) (rs := [.tmp 2]) (by kernel_rfl) (rPath5_ctok n hG) (lts := rPath5_lts n) (fun F hF hFG => have hK : Know Inv F.G := hFG ▸ hG; (lok_of (c := (bodyOf Tryz.f20)) (fun j L h1 h2 h3 => by
    have h2' : j < 1 := Nat.lt_of_lt_of_le h2 (by decide +kernel)
    match j, h1, h2', h3 with
    | 0, _, _, h3 => obtain rfl := Option.some.inj h3; exact (show bodyAt 0 0 (bodyOf Tryz.f20) = bodyAt 0 0 (bodyOf Tryz.f20) by kernel_rfl) ▸ rPath5_lok0 n hF hK
    | j + 1, _, h2', _ => exact absurd h2' (by omega)))) rPath5_dr ((rPath5_eq n a).symm.trans h)⟩, rfl⟩
/-! armada/armadaref05.May -/
@[reducible] def r5May_sh0 : SSt := ⟨[(0, .one (.c (.d (.lst (.prod .str .str))))), (3, .one (.c (.d (.int .i64))))], [], []⟩
@[reducible] def r5May_outs0 : List (Exit × SSt) := [(.ret, ⟨[(2, .one (.c (.d .bool)))], [], []⟩), (.exit 0, ⟨[(0, .one (.c (.d (.lst (.prod .str .str)))))], [], []⟩)]
def r5May_l0 (n : Nat) (rec : (List (List UInt8 × (List UInt8))) → Int → Option (((Bool × (Unit)) × (Unit) × (Unit)) ⊕ (((List (List UInt8 × (List UInt8))) × (Unit)) × (Unit) × (Unit)))) (a1 : List (List UInt8 × (List UInt8))) (a2 : Int) : Option (((Bool × (Unit)) × (Unit) × (Unit)) ⊕ (((List (List UInt8 × (List UInt8))) × (Unit)) × (Unit) × (Unit))) :=
  (bif decide (a2 < ((List.length a1 : Nat) : Int)) then (idxL a1 a2).bind fun (x1 : List UInt8 × (List UInt8)) => (rPath5_t n x1.1).bind fun (r2 : Bool) => (bif !r2 then some (Sum.inl ((false, ()), ((), ()))) else (idxL a1 a2).bind fun (x3 : List UInt8 × (List UInt8)) => (bif decide ((4096 : Int) < ((List.length x3.2 : Nat) : Int)) then some (Sum.inl ((false, ()), ((), ()))) else (bif decide ((0 : Int) < a2) then letO (IntKind.wrap .i64 (a2 - (1 : Int))) fun (n4 : Int) => (idxL a1 n4).bind fun (x5 : List UInt8 × (List UInt8)) => (idxL a1 a2).bind fun (x6 : List UInt8 × (List UInt8)) => (bif !ltS (x5.1) (x6.1) then some (Sum.inl ((false, ()), ((), ()))) else letO (IntKind.wrap .i64 (a2 + (1 : Int))) fun (n7 : Int) => rec a1 n7) else letO (IntKind.wrap .i64 (a2 + (1 : Int))) fun (n8 : Int) => rec a1 n8))) else some (Sum.inr (((a1, ()), ((), ())))))
def r5May_F0 (n : Nat) (rec : pSt r5May_sh0 → Option (pOuts r5May_outs0)) (p : pSt r5May_sh0) : Option (pOuts r5May_outs0) := r5May_l0 n (fun a1 a2 => rec ((a1, (a2, ())), ((), ()))) p.1.1 p.1.2.1
def r5May_loop0 (n m : Nat) (a1 : List (List UInt8 × (List UInt8))) (a2 : Int) : Option (((Bool × (Unit)) × (Unit) × (Unit)) ⊕ (((List (List UInt8 × (List UInt8))) × (Unit)) × (Unit) × (Unit))) := iterF (r5May_F0 n) m ((a1, (a2, ())), ((), ()))
theorem r5May_loop0_succ (n m : Nat) (a1 : List (List UInt8 × (List UInt8))) (a2 : Int) : r5May_loop0 n (m + 1) a1 a2 = r5May_l0 n (fun a1 a2 => r5May_loop0 n m a1 a2) a1 a2 := rfl
def r5May_L0 (n : Nat) : LC := { sh := r5May_sh0, outs := r5May_outs0, F := iterF (r5May_F0 n) n }
def r5May_lts (n : Nat) : List LC := [r5May_L0 n]
def r5May_t (n : Nat) (a1 : List (List UInt8 × (List UInt8))) : Option (Bool) :=
  (r5May_loop0 n n a1 (0 : Int)).bind fun (o9 : ((Bool × (Unit)) × (Unit) × (Unit)) ⊕ (((List (List UInt8 × (List UInt8))) × (Unit)) × (Unit) × (Unit))) => Sum.elim (fun (q10 : (Bool × (Unit)) × (Unit) × (Unit)) => some q10.1.1) (fun (q11 : ((List (List UInt8 × (List UInt8))) × (Unit)) × (Unit) × (Unit)) => some (decide (((List.length q11.1.1 : Nat) : Int) ≤ (40 : Int)))) o9
def r5May_fc (n : Nat) : FC := { f := 8, args := [.one (.c (.d (.lst (.prod .str .str))))], res := .one (.c (.d .bool)), F := fun p => r5May_t n p }
def r5May_ct (n : Nat) : List FC := [rPath5_fc n]
theorem r5May_ctok (n : Nat) {G : World → Prop} (hG : Know Inv G) : ∀ c ∈ r5May_ct n, FCok Tryz.prog G c ∧ noTup c.args = true := List.forall_mem_cons.2 ⟨rPath5_ok n G hG, (fun _ h => by cases h)⟩
def r5May_dh : Hints := [(4, [⟨6442450945, 1073741824, 0⟩, ⟨51539608064, 8589934592, 0⟩, ⟨421980536832, 68719476736, 3⟩, ⟨3367254360064, 549755813888, 7⟩, ⟨26938034880512, 4398046511104, 15⟩, ⟨215504279044096, 35184372088832, 31⟩, ⟨1724034232352768, 281474976710656, 63⟩, ⟨13792273858822144, 2251799813685248, 127⟩, ⟨110338190870577153, 18014398509481984, 255⟩, ⟨866942928268820992, 144115188075855872, 255⟩, ⟨7081910414040104960, 1152921504606846976, 1023⟩, ⟨56495405525549187072, 9223372036854775808, 2047⟩, ⟨451947481605697699840, 73786976294838206464, 4095⟩, ⟨3615564090246885801984, 590295810358705651712, 8191⟩, ⟨28924496959376390619136, 4722366482869645213696, 16383⟩, ⟨231395959912412429156352, 37778931862957161709568, 32767⟩, ⟨1851167661284900923768832, 302231454903657293676544, 65535⟩, ⟨14809341290279207390151168, 2417851639229258349412352, 131071⟩, ⟨118776961777137316414881792, 19342813113834066795298816, 262143⟩, ⟨948100074032772930263318528, 154742504910672534362390528, 524287⟩, ⟨7582382740622954183757135873, 1237940039285380274899124224, 1048575⟩, ⟨59575864390608925729520353792, 9903520314283042199192993792, 1048575⟩, ⟨485427237904779740294819086336, 79228162514264337593543950336, 3145727⟩, ⟨3883572645743148594892915081216, 633825300114114700748351602688, 8388607⟩, ⟨31057594448096531009203590922240, 5070602400912917605986812821504, 16777215⟩, ⟨248459672387237873365888190644224, 40564819207303340847894502572032, 33554431⟩, ⟨1947111476693065271371470485848065, 324518553658426726783156020576256, 1048575⟩, ⟨15576890730346987796264023350051328, 2596148429267413814265248164610048, 1048575⟩, ⟨127535791742504208536452850448859136, 20769187434139310514121985316880384, 202375167⟩, ⟨1017690184427568720102649814889529344, 166153499473114484112975882535043072, 470810623⟩, ⟨8141521474337352226446490778579501056, 1329227995784915872903807060280344576, 1007681535⟩, ⟨65132212358434827580538066382601846784, 10633823966279326983230456482242756608, 2147483647⟩, ⟨521057374347842066914657943821551140864, 85070591730234615865843651857942052864, 4294967295⟩, ⟨4168458994781496479657793844696454266880, 680564733841876926926749214863536422912, 8589934591⟩]), (1000004, [])]
theorem r5May_dr : drB r5May_dh (bodyOf Tryz.f8) = true := by kernel_rfl
theorem r5May_eq0 (n : Nat) : ∀ rec p, r5May_F0 n rec p = round Tryz.prog 47 (r5May_ct n) (r5May_lts n) r5May_dh 1 r5May_sh0 r5May_outs0 (bodyAt 0 0 (bodyOf Tryz.f8)) rec p := by intro rec p; kernel_rfl
theorem r5May_lok0 (n : Nat) {F : Fr} (hF : F.n = 47) (hK : Know Inv F.G) : LCok Tryz.prog F (r5May_L0 n) (bodyAt 0 0 (bodyOf Tryz.f8)) :=
  loop_ok hF (by kernel_rfl) (r5May_ctok n hK) (r5May_eq0 n) (fuel := n) (fun _ => rfl) (lok_of fun j L h1 h2 h3 => absurd h2 (Nat.not_lt.2 (Nat.le_trans (by decide +kernel) h1))) (drB_at r5May_dr)
theorem r5May_eq (n : Nat) : ∀ a, (r5May_fc n).F a = main Tryz.prog 47 (r5May_ct n) (r5May_lts n) r5May_dh (bodyOf Tryz.f8) [.tmp 2] (r5May_fc n).args (r5May_fc n).res a := by intro a; kernel_rfl
theorem r5May_ok (n : Nat) : FCall Inv Tryz.prog (r5May_fc n) := fun G hG => ⟨⟨by kernel_rfl, fun a r h => main_ok (c := bodyOf Tryz.f8) Tryz.func8 (by kernel_rfl) (by kernel_rfl) (Nat.le_of_ble_eq_true (by kernel_rfl)) hG.st (by kernel_rfl) (rs := [.tmp 2]) (by kernel_rfl) (r5May_ctok n hG) (lts := r5May_lts n) (fun F hF hFG => have hK : Know Inv F.G := hFG ▸ hG; (lok_of (c := (bodyOf Tryz.f8)) (fun j L h1 h2 h3 => by
    have h2' : j < 1 := Nat.lt_of_lt_of_le h2 (by decide +kernel)
    match j, h1, h2', h3 with
    | 0, _, _, h3 => obtain rfl := Option.some.inj h3; exact (show bodyAt 0 0 (bodyOf Tryz.f8) = bodyAt 0 0 (bodyOf Tryz.f8) by kernel_rfl) ▸ r5May_lok0 n hF hK
    | j + 1, _, h2', _ => exact absurd h2' (by omega)))) r5May_dr ((r5May_eq n a).symm.trans h)⟩, rfl⟩
/-! armada/armadaref05.Get -/
@[reducible] def r5Get_sh0 : SSt := ⟨[(0, .one (.c (.d (.lst (.prod .str .str))))), (1, .one (.c (.d .str))), (6, .one (.c (.d (.int .i64))))], [], []⟩
@[reducible] def r5Get_outs0 : List (Exit × SSt) := [(.ret, ⟨[(4, .one (.c (.d .str))), (5, .one (.c (.d .bool)))], [], []⟩), (.exit 0, ⟨[], [], []⟩)]
def r5Get_l0 (n : Nat) (rec : (List (List UInt8 × (List UInt8))) → (List UInt8) → Int → Option ((((List UInt8) × (Bool × (Unit))) × (Unit) × (Unit)) ⊕ ((Unit) × (Unit) × (Unit)))) (a1 : List (List UInt8 × (List UInt8))) (a2 : List UInt8) (a3 : Int) : Option ((((List UInt8) × (Bool × (Unit))) × (Unit) × (Unit)) ⊕ ((Unit) × (Unit) × (Unit))) :=
  (bif decide (a3 < ((List.length a1 : Nat) : Int)) then (idxL a1 a3).bind fun (x1 : List UInt8 × (List UInt8)) => (bif decide (x1.1 = a2) then (idxL a1 a3).bind fun (x2 : List UInt8 × (List UInt8)) => some (Sum.inl ((x2.2, (true, ())), ((), ()))) else letO (IntKind.wrap .i64 (a3 + (1 : Int))) fun (n3 : Int) => rec a1 a2 n3) else some (Sum.inr (((), ((), ())))))
def r5Get_F0 (n : Nat) (rec : pSt r5Get_sh0 → Option (pOuts r5Get_outs0)) (p : pSt r5Get_sh0) : Option (pOuts r5Get_outs0) := r5Get_l0 n (fun a1 a2 a3 => rec ((a1, (a2, (a3, ()))), ((), ()))) p.1.1 p.1.2.1 p.1.2.2.1
def r5Get_loop0 (n m : Nat) (a1 : List (List UInt8 × (List UInt8))) (a2 : List UInt8) (a3 : Int) : Option ((((List UInt8) × (Bool × (Unit))) × (Unit) × (Unit)) ⊕ ((Unit) × (Unit) × (Unit))) := iterF (r5Get_F0 n) m ((a1, (a2, (a3, ()))), ((), ()))
theorem r5Get_loop0_succ (n m : Nat) (a1 : List (List UInt8 × (List UInt8))) (a2 : List UInt8) (a3 : Int) : r5Get_loop0 n (m + 1) a1 a2 a3 = r5Get_l0 n (fun a1 a2 a3 => r5Get_loop0 n m a1 a2 a3) a1 a2 a3 := rfl
def r5Get_L0 (n : Nat) : LC := { sh := r5Get_sh0, outs := r5Get_outs0, F := iterF (r5Get_F0 n) n }
def r5Get_lts (n : Nat) : List LC := [r5Get_L0 n]
def r5Get_t (n : Nat) (a1 : List (List UInt8 × (List UInt8))) (a2 : List UInt8) : Option ((List UInt8) × (Bool)) :=
  (r5Get_loop0 n n a1 a2 (0 : Int)).bind fun (o4 : (((List UInt8) × (Bool × (Unit))) × (Unit) × (Unit)) ⊕ ((Unit) × (Unit) × (Unit))) => Sum.elim (fun (q5 : ((List UInt8) × (Bool × (Unit))) × (Unit) × (Unit)) => some (q5.1.1, q5.1.2.1)) (fun (q6 : (Unit) × (Unit) × (Unit)) => some (([] : List UInt8), false)) o4
def r5Get_fc (n : Nat) : FC := { f := 17, args := [.one (.c (.d (.lst (.prod .str .str)))), .one (.c (.d .str))], res := .tup [.c (.d .str), .c (.d .bool)], F := fun p => r5Get_t n p.1 p.2 }
def r5Get_ct (n : Nat) : List FC := []
theorem r5Get_ctok (n : Nat) {G : World → Prop} (hG : Know Inv G) : ∀ c ∈ r5Get_ct n, FCok Tryz.prog G c ∧ noTup c.args = true := (fun _ h => by cases h)
def r5Get_dh : Hints := []
theorem r5Get_dr : drB r5Get_dh (bodyOf Tryz.f17) = true := by kernel_rfl
theorem r5Get_eq0 (n : Nat) : ∀ rec p, r5Get_F0 n rec p = round Tryz.prog 25 (r5Get_ct n) (r5Get_lts n) r5Get_dh 1 r5Get_sh0 r5Get_outs0 (bodyAt 0 0 (bodyOf Tryz.f17)) rec p := by intro rec p; kernel_rfl
theorem r5Get_lok0 (n : Nat) {F : Fr} (hF : F.n = 25) (hK : Know Inv F.G) : LCok Tryz.prog F (r5Get_L0 n) (bodyAt 0 0 (bodyOf Tryz.f17)) :=
  loop_ok hF (by kernel_rfl) (r5Get_ctok n hK) (r5Get_eq0 n) (fuel := n) (fun _ => rfl) (lok_of fun j L h1 h2 h3 => absurd h2 (Nat.not_lt.2 (Nat.le_trans (by decide +kernel) h1))) (drB_at r5Get_dr)
theorem r5Get_eq (n : Nat) : ∀ a, (r5Get_fc n).F a = main Tryz.prog 25 (r5Get_ct n) (r5Get_lts n) r5Get_dh (bodyOf Tryz.f17) [.tmp 4, .tmp 5] (r5Get_fc n).args (r5Get_fc n).res a := by intro a; kernel_rfl
theorem r5Get_ok (n : Nat) : FCall Inv Tryz.prog (r5Get_fc n) := fun G hG => ⟨⟨by kernel_rfl, fun a r h => main_ok (c := bodyOf Tryz.f17) Tryz.func17 (by kernel_rfl) (by kernel_rfl) (Nat.le_of_ble_eq_true (by kernel_rfl)) hG.st (by kernel_rfl) (rs := [.tmp 4, .tmp 5]) (by kernel_rfl) (r5Get_ctok n hG) (lts := r5Get_lts n) (fun F hF hFG => have hK : Know Inv F.G := hFG ▸ hG; (lok_of (c := (bodyOf Tryz.f17)) (fun j L h1 h2 h3 => by
    have h2' : j < 1 := Nat.lt_of_lt_of_le h2 (by decide +kernel)
    match j, h1, h2', h3 with
    | 0, _, _, h3 => obtain rfl := Option.some.inj h3; exact (show bodyAt 0 0 (bodyOf Tryz.f17) = bodyAt 0 0 (bodyOf Tryz.f17) by kernel_rfl) ▸ r5Get_lok0 n hF hK
    | j + 1, _, h2', _ => exact absurd h2' (by omega)))) r5Get_dr ((r5Get_eq n a).symm.trans h)⟩, rfl⟩
/-! armada/armadaref05.without -/
@[reducible] def r5Without_sh0 : SSt := ⟨[(0, .one (.c (.d (.lst (.prod .str .str))))), (1, .one (.c (.d .str))), (5, .one (.c (.row 26))), (6, .one (.c (.d (.int .i64))))], [], [(26, ⟨31, true, (.prod .str .str)⟩)]⟩
@[reducible] def r5Without_outs0 : List (Exit × SSt) := [(.exit 0, ⟨[(5, .one (.c (.row 26)))], [], [(26, ⟨31, true, (.prod .str .str)⟩)]⟩)]
def r5Without_l0 (n : Nat) (rec : (List (List UInt8 × (List UInt8))) → (List UInt8) → Int → (List (List UInt8 × (List UInt8))) → Option ((Unit × (Unit)) × (Unit) × ((List (List UInt8 × (List UInt8))) × (Unit)))) (a1 : List (List UInt8 × (List UInt8))) (a2 : List UInt8) (a3 : Int) (a4 : List (List UInt8 × (List UInt8))) : Option ((Unit × (Unit)) × (Unit) × ((List (List UInt8 × (List UInt8))) × (Unit))) :=
  (bif decide (a3 < ((List.length a1 : Nat) : Int)) then (idxL a1 a3).bind fun (x1 : List UInt8 × (List UInt8)) => (bif !decide (x1.1 = a2) then (idxL a1 a3).bind fun (x2 : List UInt8 × (List UInt8)) => (appO 32 a4 ([x2] : List (List UInt8 × (List UInt8)))).bind fun (l3 : List (List UInt8 × (List UInt8))) => letO (IntKind.wrap .i64 (a3 + (1 : Int))) fun (n4 : Int) => rec a1 a2 n4 l3 else letO (IntKind.wrap .i64 (a3 + (1 : Int))) fun (n5 : Int) => rec a1 a2 n5 a4) else some ((((), ()), ((), (a4, ())))))
def r5Without_F0 (n : Nat) (rec : pSt r5Without_sh0 → Option (pOuts r5Without_outs0)) (p : pSt r5Without_sh0) : Option (pOuts r5Without_outs0) := r5Without_l0 n (fun a1 a2 a3 a4 => rec ((a1, (a2, ((), (a3, ())))), ((), (a4, ())))) p.1.1 p.1.2.1 p.1.2.2.2.1 p.2.2.1
def r5Without_loop0 (n m : Nat) (a1 : List (List UInt8 × (List UInt8))) (a2 : List UInt8) (a3 : Int) (a4 : List (List UInt8 × (List UInt8))) : Option ((Unit × (Unit)) × (Unit) × ((List (List UInt8 × (List UInt8))) × (Unit))) := iterF (r5Without_F0 n) m ((a1, (a2, ((), (a3, ())))), ((), (a4, ())))
theorem r5Without_loop0_succ (n m : Nat) (a1 : List (List UInt8 × (List UInt8))) (a2 : List UInt8) (a3 : Int) (a4 : List (List UInt8 × (List UInt8))) : r5Without_loop0 n (m + 1) a1 a2 a3 a4 = r5Without_l0 n (fun a1 a2 a3 a4 => r5Without_loop0 n m a1 a2 a3 a4) a1 a2 a3 a4 := rfl
def r5Without_L0 (n : Nat) : LC := { sh := r5Without_sh0, outs := r5Without_outs0, F := iterF (r5Without_F0 n) n }
def r5Without_lts (n : Nat) : List LC := [r5Without_L0 n]
def r5Without_t (n : Nat) (a1 : List (List UInt8 × (List UInt8))) (a2 : List UInt8) : Option (List (List UInt8 × (List UInt8))) :=
  (r5Without_loop0 n n a1 a2 (0 : Int) []).bind fun (o6 : (Unit × (Unit)) × (Unit) × ((List (List UInt8 × (List UInt8))) × (Unit))) => some o6.2.2.1
def r5Without_fc (n : Nat) : FC := { f := 26, args := [.one (.c (.d (.lst (.prod .str .str)))), .one (.c (.d .str))], res := .one (.c (.d (.lst (.prod .str .str)))), F := fun p => r5Without_t n p.1 p.2 }
def r5Without_ct (n : Nat) : List FC := []
theorem r5Without_ctok (n : Nat) {G : World → Prop} (hG : Know Inv G) : ∀ c ∈ r5Without_ct n, FCok Tryz.prog G c ∧ noTup c.args = true := (fun _ h => by cases h)
def r5Without_dh : Hints := []
theorem r5Without_dr : drB r5Without_dh (bodyOf Tryz.f26) = true := by kernel_rfl
theorem r5Without_eq0 (n : Nat) : ∀ rec p, r5Without_F0 n rec p = round Tryz.prog 28 (r5Without_ct n) (r5Without_lts n) r5Without_dh 1 r5Without_sh0 r5Without_outs0 (bodyAt 0 0 (bodyOf Tryz.f26)) rec p := by intro rec p; kernel_rfl
theorem r5Without_lok0 (n : Nat) {F : Fr} (hF : F.n = 28) (hK : Know Inv F.G) : LCok Tryz.prog F (r5Without_L0 n) (bodyAt 0 0 (bodyOf Tryz.f26)) :=
  loop_ok hF (by kernel_rfl) (r5Without_ctok n hK) (r5Without_eq0 n) (fuel := n) (fun _ => rfl) (lok_of fun j L h1 h2 h3 => absurd h2 (Nat.not_lt.2 (Nat.le_trans (by decide +kernel) h1))) (drB_at r5Without_dr)
theorem r5Without_eq (n : Nat) : ∀ a, (r5Without_fc n).F a = main Tryz.prog 28 (r5Without_ct n) (r5Without_lts n) r5Without_dh (bodyOf Tryz.f26) [.tmp 4] (r5Without_fc n).args (r5Without_fc n).res a := by intro a; kernel_rfl
theorem r5Without_ok (n : Nat) : FCall Inv Tryz.prog (r5Without_fc n) := fun G hG => ⟨⟨by kernel_rfl, fun a r h => main_ok (c := bodyOf Tryz.f26) Tryz.func26 (by kernel_rfl) (by kernel_rfl) (Nat.le_of_ble_eq_true (by kernel_rfl)) hG.st (by kernel_rfl) (rs := [.tmp 4]) (by kernel_rfl) (r5Without_ctok n hG) (lts := r5Without_lts n) (fun F hF hFG => have hK : Know Inv F.G := hFG ▸ hG; (lok_of (c := (bodyOf Tryz.f26)) (fun j L h1 h2 h3 => by
    have h2' : j < 1 := Nat.lt_of_lt_of_le h2 (by decide +kernel)
    match j, h1, h2', h3 with
    | 0, _, _, h3 => obtain rfl := Option.some.inj h3; exact (show bodyAt 0 0 (bodyOf Tryz.f26) = bodyAt 0 0 (bodyOf Tryz.f26) by kernel_rfl) ▸ r5Without_lok0 n hF hK
    | j + 1, _, h2', _ => exact absurd h2' (by omega)))) r5Without_dr ((r5Without_eq n a).symm.trans h)⟩, rfl⟩
/-! armada/armadaref05.with -/
@[reducible] def r5With_sh0 : SSt := ⟨[(0, .one (.c (.d (.lst (.prod .str .str))))), (3, .one (.c (.box 3 0))), (5, .one (.c (.row 29))), (6, .one (.c (.d .bool))), (7, .one (.c (.d (.int .i64))))], [(3, (31, [.d .str, .d .str]))], [(29, ⟨31, true, (.prod .str .str)⟩)]⟩
@[reducible] def r5With_outs0 : List (Exit × SSt) := [(.exit 0, ⟨[(3, .one (.c (.box 3 0))), (5, .one (.c (.row 29))), (6, .one (.c (.d .bool)))], [(3, (31, [.d .str, .d .str]))], [(29, ⟨31, true, (.prod .str .str)⟩)]⟩)]
def r5With_l0 (n : Nat) (rec : (List (List UInt8 × (List UInt8))) → Bool → Int → (List UInt8) → (List UInt8) → (List (List UInt8 × (List UInt8))) → Option ((Unit × (Unit × (Bool × (Unit)))) × (((List UInt8) × (List UInt8)) × (Unit)) × ((List (List UInt8 × (List UInt8))) × (Unit)))) (a1 : List (List UInt8 × (List UInt8))) (a2 : Bool) (a3 : Int) (a4 : List UInt8) (a5 : List UInt8) (a6 : List (List UInt8 × (List UInt8))) : Option ((Unit × (Unit × (Bool × (Unit)))) × (((List UInt8) × (List UInt8)) × (Unit)) × ((List (List UInt8 × (List UInt8))) × (Unit))) :=
  (bif decide (a3 < ((List.length a1 : Nat) : Int)) then (bif !a2 then (idxL a1 a3).bind fun (x1 : List UInt8 × (List UInt8)) => (bif ltS (a4) (x1.1) then (appO 32 a6 ([(a4, a5)] : List (List UInt8 × (List UInt8)))).bind fun (l2 : List (List UInt8 × (List UInt8))) => (idxL a1 a3).bind fun (x3 : List UInt8 × (List UInt8)) => (appO 32 l2 ([x3] : List (List UInt8 × (List UInt8)))).bind fun (l4 : List (List UInt8 × (List UInt8))) => letO (IntKind.wrap .i64 (a3 + (1 : Int))) fun (n5 : Int) => rec a1 true n5 a4 a5 l4 else (idxL a1 a3).bind fun (x6 : List UInt8 × (List UInt8)) => (appO 32 a6 ([x6] : List (List UInt8 × (List UInt8)))).bind fun (l7 : List (List UInt8 × (List UInt8))) => letO (IntKind.wrap .i64 (a3 + (1 : Int))) fun (n8 : Int) => rec a1 a2 n8 a4 a5 l7) else (idxL a1 a3).bind fun (x9 : List UInt8 × (List UInt8)) => (appO 32 a6 ([x9] : List (List UInt8 × (List UInt8)))).bind fun (l10 : List (List UInt8 × (List UInt8))) => letO (IntKind.wrap .i64 (a3 + (1 : Int))) fun (n11 : Int) => rec a1 a2 n11 a4 a5 l10) else some ((((), ((), (a2, ()))), (((a4, a5), ()), (a6, ())))))
def r5With_F0 (n : Nat) (rec : pSt r5With_sh0 → Option (pOuts r5With_outs0)) (p : pSt r5With_sh0) : Option (pOuts r5With_outs0) := r5With_l0 n (fun a1 a2 a3 a4 a5 a6 => rec ((a1, ((), ((), (a2, (a3, ()))))), (((a4, a5), ()), (a6, ())))) p.1.1 p.1.2.2.2.1 p.1.2.2.2.2.1 p.2.1.1.1 p.2.1.1.2 p.2.2.1
def r5With_loop0 (n m : Nat) (a1 : List (List UInt8 × (List UInt8))) (a2 : Bool) (a3 : Int) (a4 : List UInt8) (a5 : List UInt8) (a6 : List (List UInt8 × (List UInt8))) : Option ((Unit × (Unit × (Bool × (Unit)))) × (((List UInt8) × (List UInt8)) × (Unit)) × ((List (List UInt8 × (List UInt8))) × (Unit))) := iterF (r5With_F0 n) m ((a1, ((), ((), (a2, (a3, ()))))), (((a4, a5), ()), (a6, ())))
theorem r5With_loop0_succ (n m : Nat) (a1 : List (List UInt8 × (List UInt8))) (a2 : Bool) (a3 : Int) (a4 : List UInt8) (a5 : List UInt8) (a6 : List (List UInt8 × (List UInt8))) : r5With_loop0 n (m + 1) a1 a2 a3 a4 a5 a6 = r5With_l0 n (fun a1 a2 a3 a4 a5 a6 => r5With_loop0 n m a1 a2 a3 a4 a5 a6) a1 a2 a3 a4 a5 a6 := rfl
def r5With_L0 (n : Nat) : LC := { sh := r5With_sh0, outs := r5With_outs0, F := iterF (r5With_F0 n) n }
def r5With_lts (n : Nat) : List LC := [r5With_L0 n]
def r5With_t (n : Nat) (a1 : List (List UInt8 × (List UInt8))) (a2 : (List UInt8) × (List UInt8)) : Option (List (List UInt8 × (List UInt8))) :=
  (r5With_loop0 n n a1 false (0 : Int) a2.1 a2.2 []).bind fun (o12 : (Unit × (Unit × (Bool × (Unit)))) × (((List UInt8) × (List UInt8)) × (Unit)) × ((List (List UInt8 × (List UInt8))) × (Unit))) => (bif !o12.1.2.2.1 then (appO 32 o12.2.2.1 ([o12.2.1.1] : List (List UInt8 × (List UInt8)))).bind fun (l13 : List (List UInt8 × (List UInt8))) => some l13 else some o12.2.2.1)
def r5With_fc (n : Nat) : FC := { f := 27, args := [.one (.c (.d (.lst (.prod .str .str)))), .one (.agg [.d .str, .d .str])], res := .one (.c (.d (.lst (.prod .str .str)))), F := fun p => r5With_t n p.1 p.2 }
def r5With_ct (n : Nat) : List FC := []
theorem r5With_ctok (n : Nat) {G : World → Prop} (hG : Know Inv G) : ∀ c ∈ r5With_ct n, FCok Tryz.prog G c ∧ noTup c.args = true := (fun _ h => by cases h)
def r5With_dh : Hints := [(6, [⟨26388279328768, 4398046511104, 0⟩, ⟨215504279044096, 35184372088832, 1⟩, ⟨1724034232352768, 281474976710656, 3⟩, ⟨13792273858823680, 2251799813685248, 7⟩, ⟨110619665847288832, 18014398509481984, 15⟩, ⟨864972603431845889, 144115188075855872, 7⟩, ⟨6917810502619889664, 1152921504606846976, 7⟩, ⟨56637550388788068352, 9223372036854775808, 103⟩, ⟨451945511280860725248, 73786976294838206464, 231⟩, ⟨3615562119922048827392, 590295810358705651712, 487⟩, ⟨28924513003450063126528, 4722366482869645213696, 1023⟩, ⟨231395957942087592181760, 37778931862957161709568, 2047⟩])]
theorem r5With_dr : drB r5With_dh (bodyOf Tryz.f27) = true := by kernel_rfl
theorem r5With_eq0 (n : Nat) : ∀ rec p, r5With_F0 n rec p = round Tryz.prog 44 (r5With_ct n) (r5With_lts n) r5With_dh 1 r5With_sh0 r5With_outs0 (bodyAt 0 0 (bodyOf Tryz.f27)) rec p := by intro rec p; kernel_rfl
theorem r5With_lok0 (n : Nat) {F : Fr} (hF : F.n = 44) (hK : Know Inv F.G) : LCok Tryz.prog F (r5With_L0 n) (bodyAt 0 0 (bodyOf Tryz.f27)) :=
  loop_ok hF (by kernel_rfl) (r5With_ctok n hK) (r5With_eq0 n) (fuel := n) (fun _ => rfl) (lok_of fun j L h1 h2 h3 => absurd h2 (Nat.not_lt.2 (Nat.le_trans (by decide +kernel) h1))) (drB_at r5With_dr)
theorem r5With_eq (n : Nat) : ∀ a, (r5With_fc n).F a = main Tryz.prog 44 (r5With_ct n) (r5With_lts n) r5With_dh (bodyOf Tryz.f27) [.tmp 4] (r5With_fc n).args (r5With_fc n).res a := by intro a; kernel_rfl
theorem r5With_ok (n : Nat) : FCall Inv Tryz.prog (r5With_fc n) := fun G hG => ⟨⟨by kernel_rfl, fun a r h => main_ok (c := bodyOf Tryz.f27) Tryz.func27 (by kernel_rfl) (by kernel_rfl) (Nat.le_of_ble_eq_true (by kernel_rfl)) hG.st (by kernel_rfl) (rs := [.tmp 4]) (by kernel_rfl) (r5With_ctok n hG) (lts := r5With_lts n) (fun F hF hFG => have hK : Know Inv F.G := hFG ▸ hG; (lok_of (c := (bodyOf Tryz.f27)) (fun j L h1 h2 h3 => by
    have h2' : j < 1 := Nat.lt_of_lt_of_le h2 (by decide +kernel)
    match j, h1, h2', h3 with
    | 0, _, _, h3 => obtain rfl := Option.some.inj h3; exact (show bodyAt 0 0 (bodyOf Tryz.f27) = bodyAt 0 0 (bodyOf Tryz.f27) by kernel_rfl) ▸ r5With_lok0 n hF hK
    | j + 1, _, h2', _ => exact absurd h2' (by omega)))) r5With_dr ((r5With_eq n a).symm.trans h)⟩, rfl⟩
/-! armada/armadaref05.Apply -/
@[reducible] def r5Apply_sh0 : SSt := ⟨[(1, .one (.c (.d (.lst (.prod .bool (.prod .str .str)))))), (6, .one (.c (.d (.lst (.prod .str .str))))), (7, .one (.c (.d (.int .i64))))], [], []⟩
@[reducible] def r5Apply_outs0 : List (Exit × SSt) := [(.ret, ⟨[(4, .one (.c (.nil))), (5, .one (.c (.d (.int .i64))))], [], []⟩), (.exit 0, ⟨[(6, .one (.c (.d (.lst (.prod .str .str)))))], [], []⟩)]
def r5Apply_l0 (n : Nat) (rec : (List ((Bool) × (List UInt8 × (List UInt8)))) → (List (List UInt8 × (List UInt8))) → Int → Option (((Unit × (Int × (Unit))) × (Unit) × (Unit)) ⊕ (((List (List UInt8 × (List UInt8))) × (Unit)) × (Unit) × (Unit)))) (a1 : List ((Bool) × (List UInt8 × (List UInt8)))) (a2 : List (List UInt8 × (List UInt8))) (a3 : Int) : Option (((Unit × (Int × (Unit))) × (Unit) × (Unit)) ⊕ (((List (List UInt8 × (List UInt8))) × (Unit)) × (Unit) × (Unit))) :=
  (bif decide (a3 < ((List.length a1 : Nat) : Int)) then (idxL a1 a3).bind fun (x3 : (Bool) × (List UInt8 × (List UInt8))) => (r5Get_t n a2 x3.2.1).bind fun (r4 : (List UInt8) × (Bool)) => (rPath5_t n x3.2.1).bind fun (r5 : Bool) => (bif !r5 then some (Sum.inl (((), ((6 : Int), ())), ((), ()))) else (bif x3.1 then (bif !r4.2 then some (Sum.inl (((), ((5 : Int), ())), ((), ()))) else (bif !x3.1 then (bif decide ((4096 : Int) < ((List.length x3.2.2 : Nat) : Int)) then some (Sum.inl (((), ((2 : Int), ())), ((), ()))) else (r5Without_t n a2 x3.2.1).bind fun (r6 : List (List UInt8 × (List UInt8))) => (bif !x3.1 then (bif decide ((40 : Int) ≤ ((List.length r6 : Nat) : Int)) then some (Sum.inl (((), ((3 : Int), ())), ((), ()))) else (r5With_t n r6 x3.2).bind fun (r7 : List (List UInt8 × (List UInt8))) => letO (IntKind.wrap .i64 (a3 + (1 : Int))) fun (n8 : Int) => rec a1 r7 n8) else letO (IntKind.wrap .i64 (a3 + (1 : Int))) fun (n9 : Int) => rec a1 r6 n9)) else (r5Without_t n a2 x3.2.1).bind fun (r10 : List (List UInt8 × (List UInt8))) => (bif !x3.1 then (bif decide ((40 : Int) ≤ ((List.length r10 : Nat) : Int)) then some (Sum.inl (((), ((3 : Int), ())), ((), ()))) else (r5With_t n r10 x3.2).bind fun (r11 : List (List UInt8 × (List UInt8))) => letO (IntKind.wrap .i64 (a3 + (1 : Int))) fun (n12 : Int) => rec a1 r11 n12) else letO (IntKind.wrap .i64 (a3 + (1 : Int))) fun (n13 : Int) => rec a1 r10 n13))) else (bif !x3.1 then (bif decide ((4096 : Int) < ((List.length x3.2.2 : Nat) : Int)) then some (Sum.inl (((), ((2 : Int), ())), ((), ()))) else (r5Without_t n a2 x3.2.1).bind fun (r14 : List (List UInt8 × (List UInt8))) => (bif !x3.1 then (bif decide ((40 : Int) ≤ ((List.length r14 : Nat) : Int)) then some (Sum.inl (((), ((3 : Int), ())), ((), ()))) else (r5With_t n r14 x3.2).bind fun (r15 : List (List UInt8 × (List UInt8))) => letO (IntKind.wrap .i64 (a3 + (1 : Int))) fun (n16 : Int) => rec a1 r15 n16) else letO (IntKind.wrap .i64 (a3 + (1 : Int))) fun (n17 : Int) => rec a1 r14 n17)) else (r5Without_t n a2 x3.2.1).bind fun (r18 : List (List UInt8 × (List UInt8))) => (bif !x3.1 then (bif decide ((40 : Int) ≤ ((List.length r18 : Nat) : Int)) then some (Sum.inl (((), ((3 : Int), ())), ((), ()))) else (r5With_t n r18 x3.2).bind fun (r19 : List (List UInt8 × (List UInt8))) => letO (IntKind.wrap .i64 (a3 + (1 : Int))) fun (n20 : Int) => rec a1 r19 n20) else letO (IntKind.wrap .i64 (a3 + (1 : Int))) fun (n21 : Int) => rec a1 r18 n21)))) else some (Sum.inr (((a2, ()), ((), ())))))
def r5Apply_F0 (n : Nat) (rec : pSt r5Apply_sh0 → Option (pOuts r5Apply_outs0)) (p : pSt r5Apply_sh0) : Option (pOuts r5Apply_outs0) := r5Apply_l0 n (fun a1 a2 a3 => rec ((a1, (a2, (a3, ()))), ((), ()))) p.1.1 p.1.2.1 p.1.2.2.1
def r5Apply_loop0 (n m : Nat) (a1 : List ((Bool) × (List UInt8 × (List UInt8)))) (a2 : List (List UInt8 × (List UInt8))) (a3 : Int) : Option (((Unit × (Int × (Unit))) × (Unit) × (Unit)) ⊕ (((List (List UInt8 × (List UInt8))) × (Unit)) × (Unit) × (Unit))) := iterF (r5Apply_F0 n) m ((a1, (a2, (a3, ()))), ((), ()))
theorem r5Apply_loop0_succ (n m : Nat) (a1 : List ((Bool) × (List UInt8 × (List UInt8)))) (a2 : List (List UInt8 × (List UInt8))) (a3 : Int) : r5Apply_loop0 n (m + 1) a1 a2 a3 = r5Apply_l0 n (fun a1 a2 a3 => r5Apply_loop0 n m a1 a2 a3) a1 a2 a3 := rfl
def r5Apply_L0 (n : Nat) : LC := { sh := r5Apply_sh0, outs := r5Apply_outs0, F := iterF (r5Apply_F0 n) n }
def r5Apply_lts (n : Nat) : List LC := [r5Apply_L0 n]
def r5Apply_t (n : Nat) (a1 : List (List UInt8 × (List UInt8))) (a2 : List ((Bool) × (List UInt8 × (List UInt8)))) : Option ((List (List UInt8 × (List UInt8))) × (Int)) :=
  (r5May_t n a1).bind fun (r1 : Bool) => (bif !r1 then some ([], (1 : Int)) else (appO 32 ([] : List (List UInt8 × (List UInt8))) a1).bind fun (l2 : List (List UInt8 × (List UInt8))) => (r5Apply_loop0 n n a2 l2 (0 : Int)).bind fun (o22 : ((Unit × (Int × (Unit))) × (Unit) × (Unit)) ⊕ (((List (List UInt8 × (List UInt8))) × (Unit)) × (Unit) × (Unit))) => Sum.elim (fun (q23 : (Unit × (Int × (Unit))) × (Unit) × (Unit)) => some ([], q23.1.2.1)) (fun (q24 : ((List (List UInt8 × (List UInt8))) × (Unit)) × (Unit) × (Unit)) => some (q24.1.1, (0 : Int))) o22)
def r5Apply_fc (n : Nat) : FC := { f := 14, args := [.one (.c (.d (.lst (.prod .str .str)))), .one (.c (.d (.lst (.prod .bool (.prod .str .str)))))], res := .tup [.c (.d (.lst (.prod .str .str))), .c (.d (.int .i64))], F := fun p => r5Apply_t n p.1 p.2 }
def r5Apply_ct (n : Nat) : List FC := [r5May_fc n, r5Get_fc n, rPath5_fc n, r5Without_fc n, r5With_fc n]
theorem r5Apply_ctok (n : Nat) {G : World → Prop} (hG : Know Inv G) : ∀ c ∈ r5Apply_ct n, FCok Tryz.prog G c ∧ noTup c.args = true := List.forall_mem_cons.2 ⟨r5May_ok n G hG, List.forall_mem_cons.2 ⟨r5Get_ok n G hG, List.forall_mem_cons.2 ⟨rPath5_ok n G hG, List.forall_mem_cons.2 ⟨r5Without_ok n G hG, List.forall_mem_cons.2 ⟨r5With_ok n G hG, (fun _ h => by cases h)⟩⟩⟩⟩⟩
def r5Apply_dh : Hints := []
theorem r5Apply_dr : drB r5Apply_dh (bodyOf Tryz.f14) = true := by kernel_rfl
theorem r5Apply_eq0 (n : Nat) : ∀ rec p, r5Apply_F0 n rec p = round Tryz.prog 71 (r5Apply_ct n) (r5Apply_lts n) r5Apply_dh 1 r5Apply_sh0 r5Apply_outs0 (bodyAt 0 0 (bodyOf Tryz.f14)) rec p := by intro rec p; kernel_rfl
theorem r5Apply_lok0 (n : Nat) {F : Fr} (hF : F.n = 71) (hK : Know Inv F.G) : LCok Tryz.prog F (r5Apply_L0 n) (bodyAt 0 0 (bodyOf Tryz.f14)) :=
  loop_ok hF (by kernel_rfl) (r5Apply_ctok n hK) (r5Apply_eq0 n) (fuel := n) (fun _ => rfl) (lok_of fun j L h1 h2 h3 => absurd h2 (Nat.not_lt.2 (Nat.le_trans (by decide +kernel) h1))) (drB_at r5Apply_dr)
theorem r5Apply_eq (n : Nat) : ∀ a, (r5Apply_fc n).F a = main Tryz.prog 71 (r5Apply_ct n) (r5Apply_lts n) r5Apply_dh (bodyOf Tryz.f14) [.tmp 4, .tmp 5] (r5Apply_fc n).args (r5Apply_fc n).res a := by intro a; kernel_rfl
theorem r5Apply_ok (n : Nat) : FCall Inv Tryz.prog (r5Apply_fc n) := fun G hG => ⟨⟨by kernel_rfl, fun a r h => main_ok (c := bodyOf Tryz.f14) Tryz.func14 (by kernel_rfl) (by kernel_rfl) (Nat.le_of_ble_eq_true (by kernel_rfl)) hG.st (by kernel_rfl) (rs := [.tmp 4, .tmp 5]) (by kernel_rfl) (r5Apply_ctok n hG) (lts := r5Apply_lts n) (fun F hF hFG => have hK : Know Inv F.G := hFG ▸ hG; (lok_of (c := (bodyOf Tryz.f14)) (fun j L h1 h2 h3 => by
    have h2' : j < 1 := Nat.lt_of_lt_of_le h2 (by decide +kernel)
    match j, h1, h2', h3 with
    | 0, _, _, h3 => obtain rfl := Option.some.inj h3; exact (show bodyAt 0 0 (bodyOf Tryz.f14) = bodyAt 0 0 (bodyOf Tryz.f14) by kernel_rfl) ▸ r5Apply_lok0 n hF hK
    | j + 1, _, h2', _ => exact absurd h2' (by omega)))) r5Apply_dr ((r5Apply_eq n a).symm.trans h)⟩, rfl⟩








end Go.Proofs.YtngbpbncipjimabGreatDoor.AM
