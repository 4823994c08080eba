/-
  'armadalaw15.LedgerTells': for every input it returns true, and writes nothing that was there.
  Conditions: none but the statement's own bounds on its arguments.
-/
import Derived.Test.YtcdjkibiggjdoaaGreatDoorRows
import Derived.Test.YtcdjkibiggjdoaaGreatDoorCards
import Derived.Test.YtcdjkibiggjdoaaGreatDoorTie
import Derived.Lay
import Derived.SevenTiedAt
import Derived.HandedShaped
import Derived.LaidOnce
import Derived.WalkKit
import Derived.ProofKit
import Derived.OpenShut
import Derived.ShutString
import Derived.ChangeOld
import Derived.Below
import Derived.Test.YtcdjkibiggjdoaaGreatDoorLp21
import Derived.Test.YtcdjkibiggjdoaaGreatDoorLp8
namespace Go.Proofs.YtcdjkibiggjdoaaGreatDoor.ledgerTells
open Go.ChangeShapes Go.WideShapes Go.ChangeAt Go.RowKit
open Go.ChangeMaps (open_string shut_string)
set_option linter.unusedVariables false
theorem own:ownKnob Tryz.prog.godebug=none:=by kernel_rfl
theorem laidOut:laidOutB Tryz.prog=true:=by kernel_rfl
def IS0:=AM.IsTc (.lst (.prod .str (.prod (.int .i64) (.prod (.int .i64) (.prod (.int .i64) (.prod .str (.prod .str .str)))))))
def IS1:=AM.IsTa (.prod .str (.prod (.int .i64) (.prod (.int .i64) (.prod (.int .i64) (.prod .str (.prod .str .str))))))
theorem walk (w:World) (a0:Value) (a1:Value) (w0:IS0 w a0) (w1:IS1 w a1) :
  AM.Inv w→Calls Tryz.prog 4 #[a0,a1] w fun e w'=>e = .returned (.bool true)∧Below w.heap.size w w':=by
 intro hI
 obtain ⟨x0,o0,d0⟩:=w0
 obtain ⟨x1,o1,d1⟩:=w1
 have h:=(AM.jb7 AM.q5a AM.Inv AM.q2r).1.2 (x0,x1) true (AM.j12 x0 x1 o0 o1)
 refine (h (AM.Old w) w #[a0,a1] hI (fun b o h=>h) ⟨d0,d1,trivial⟩).mono ?_
 rintro e w' ⟨v,Pc,rfl,hb,_,_,hv⟩
 rw [AM.q07 hv]
 exact ⟨rfl,hb⟩
set_option maxRecDepth 100000 in
theorem lifted (os:Os) (started:os.Started) (H:Type) (enc:TypeId×Value→H) :
  ReturnsInHanded {} Tryz.checked os 4 .any (fun w args=>(Rows.ledgerTellsSpec.pre enc Tryz.prog Tryz.f4 [] false w args∧laidMetH Tryz.prog Rows.ledgerTellsRow.laid w)∧sizedMet enc Tryz.prog Tryz.f4 (OpenSpec.ofChange Rows.ledgerTellsSpec) false w args)
   (Rows.ledgerTellsSpec.post enc Tryz.prog Tryz.f4 false true false false):=by
 refine AM.q1v (C:=Tryz.checked) (X:=fun w _=>laidMetH Tryz.prog Rows.ledgerTellsRow.laid w) (fun _ _ _ hh h=>h.of_heap hh) own started (by kernel_rfl) Tryz.func4
  (ChangeSpec.witness_shaped (enc:=enc) (C:=Tryz.checked) (os:=os) (X:=fun w _=>laidMetH Tryz.prog Rows.ledgerTellsRow.laid w) false (World.laidAll Tryz.prog os Rows.ledgerTellsRow.laid) #[.slice none 0 0,.agg #[.string ByteArray.empty,.int .i64 0,.int .i64 0,.int .i64 0,.string ByteArray.empty,.string ByteArray.empty,.string ByteArray.empty]] 8 (World.laidAll_os _ _ _)
   (World.shaped_of_ZipB (by kernel_rfl) (by kernel_rfl)) (by kernel_rfl) (by kernel_rfl) (by kernel_rfl)
   (by rw [MakeChecks.laidMetH_plain _ _ _ (by kernel_rfl)];exact laidMet_laidAll _ (by kernel_rfl) (by kernel_rfl))) ?_
 intro W base args ds gs before hval0 hW hcnd hL hsh _
 have hval : ∀ (j:Nat) t v,Tryz.f4.params[j]? = some t→args[j]? = some v→Value.okWide Tryz.prog W .any base t v:=hval0
 have hW':=hW
 obtain ⟨p,q,hA0,hV,rfl,hfz,hnd⟩:=hW
 have hA:DataW.TrodAll enc Tryz.prog W 0 (fun _=>true) true Tryz.f4.params.toList args.toList ds p:=hA0
 rw [Tryz.params4] at hA hval
 obtain ⟨v0,vs0,d0,ds0,p0,q0,hargs,rfl,rfl,h0,r0⟩:=trodAll_cons hA
 obtain ⟨v1,vs1,d1,ds1,p1,q1,rfl,rfl,rfl,h1,r1⟩:=trodAll_cons r0
 obtain ⟨rfl,rfl,rfl⟩:=trodAll_nil r1
 obtain rfl:args = #[v0,v1]:=by cases args;simp_all
 obtain ⟨rfl,rfl⟩:=trodVars_none hV
 have k0:=h0
 have lt0 : ∀ x∈p0,x.block<W.heap.size:=by obtain ⟨m,hm⟩:=k0;exact DataW.trod_lt m _ _ _ hm
 have w0:=AM.j9k (.lst (.prod .str (.prod (.int .i64) (.prod (.int .i64) (.prod (.int .i64) (.prod .str (.prod .str .str))))))) (by kernel_rfl) (by kernel_rfl) (by kernel_rfl) (hval 0 23 v0 rfl rfl) h0
 have k1:=h1
 have lt1 : ∀ x∈p1,x.block<W.heap.size:=by obtain ⟨m,hm⟩:=k1;exact DataW.trod_lt m _ _ _ hm
 have w1:=AM.jkk (.prod .str (.prod (.int .i64) (.prod (.int .i64) (.prod (.int .i64) (.prod .str (.prod .str .str)))))) (by kernel_rfl) Tryz.underlying32 (hval 1 32 v1 rfl rfl) h1
 clear hA0 hval0
 refine ((walk W v0 v1 w0 w1) (AM.j51 hsh (by have h9:=hL;rw [MakeChecks.laidMetH_plain _ _ _ (by kernel_rfl)] at h9;exact h9))).mono fun e W' ⟨he,bel⟩=>?_
 subst he
 exact ⟨_,rfl,_,_,_,[],_,[],hW',trodAll_mk1 (shut_bool Tryz.underlying4 _),(trodAll_cons_mk (Below.trod laidOut (by kernel_rfl) (of_decide_eq_true (by kernel_rfl)) k0 bel lt0) (trodAll_cons_mk (Below.trod laidOut (by kernel_rfl) (of_decide_eq_true (by kernel_rfl)) k1 bel lt1) trodAll_mk0)),rfl,bel.frame _,fun h=>by cases h⟩
theorem over:Rows.ledgerTellsRow.holds Tryz.pinned (OpenSpec.ofChange Rows.ledgerTellsSpec) :=
 OpenClaim.holds_of_wide 4 Tryz.f4 rfl rfl rfl rfl rfl rfl rfl ⟨rfl,rfl,rfl,rfl,rfl⟩ rfl rfl rfl rfl rfl (by kernel_rfl) Tryz.func4 (by kernel_rfl)
  (of_decide_eq_true (by kernel_rfl)) (by unfold Func.isWrapper;first|(rw [if_pos (by decide +kernel)];kernel_rfl)|(rw [if_neg (by decide +kernel)];exact ⟨rfl,rfl⟩))
  (fun os started H enc _=>lifted os started H enc)
theorem proved:Rows.LedgerTellsCardSaid :=
 Claim7.holds_tied_plain_at .later [] [.data,.data,.data,.data,.sentinel,.sentinel,.pinned] true (true, "467e72078bdb4086deb25c68794a13b6caf9d6440c40e548494a61aec24032e9") true
  over (fun _ h=>by cases h) (by kernel_rfl) (fun _ h=>by cases h) ledgerTells_row_tie rfl ⟨rfl,rfl⟩ (by kernel_rfl) rfl
  (fun f fn hf hfn=>by
   obtain rfl:f=4:=Option.some.inj ((show Tryz.prog.funcNamed "armada/armadalaw15.LedgerTells" = some 4 by kernel_rfl).symm.trans hf) |>.symm
   obtain rfl:fn=Tryz.f4:=(Option.some.inj (Tryz.func4.symm.trans hfn)).symm
   exact ⟨by kernel_rfl,fun j t ht=>by
    have hm:t∈Tryz.f4.params.toList:=by simpa using Array.mem_of_getElem? ht
    have hall:(Tryz.f4.params.toList.all fun u=>!Tryz.pinned.checked.prog.wantsStandIn u)=true:=by kernel_rfl
    simpa using List.all_eq_true.1 hall t hm⟩)
  (by kernel_rfl)
#print axioms proved
end Go.Proofs.YtcdjkibiggjdoaaGreatDoor.ledgerTells
