/-
  'armadalaw15.LedgerCut': for every input it returns true, and writes nothing that was there.
  Conditions: what comes in is of at most 1048576 cells in all, and the statement's own bounds.
-/
import Derived.Test.YtlmjgghohipipaaGreatDoorRows
import Derived.Test.YtlmjgghohipipaaGreatDoorCards
import Derived.Test.YtlmjgghohipipaaGreatDoorTie
import Derived.Lay
import Derived.SevenTiedAt
import Derived.HandedShaped
import Derived.LaidOnce
import Derived.WalkKit
import Derived.ProofKit
import Derived.OpenShut
import Derived.ShutString
import Derived.ChangeOld
import Derived.Below
import Derived.Test.YtlmjgghohipipaaGreatDoorLc21
import Derived.Test.YtlmjgghohipipaaGreatDoorLc8
namespace Go.Proofs.YtlmjgghohipipaaGreatDoor.ledgerCut
open Go.ChangeShapes Go.WideShapes Go.ChangeAt Go.RowKit
open Go.ChangeMaps (open_string shut_string)
set_option linter.unusedVariables false
theorem own:ownKnob Tryz.prog.godebug=none:=by kernel_rfl
theorem laidOut:laidOutB Tryz.prog=true:=by kernel_rfl
def IS0:=AM.jdl 1048576 (.lst (.prod .str (.prod (.int .i64) (.prod (.int .i64) (.prod (.int .i64) (.prod .str (.prod .str .str)))))))
theorem walk (w:World) (a0:Value) (a1:Int) (w0:IS0 w a0) (w1:(Lit.int .i64 a1).wf=true) :
  AM.Inv w→Calls Tryz.prog 7 #[a0,.int .i64 a1] w fun e w'=>e = .returned (.bool true)∧Below w.heap.size w w':=by
 intro hI
 obtain ⟨x0,o0,s0,d0⟩:=w0
 have h:=(AM.j0e AM.qvu AM.Inv AM.q34).1.2 (x0,a1) true (AM.qnr x0 a1 o0 s0 w1)
 refine (h (AM.Old w) w #[a0,.int .i64 a1] hI (fun b o h=>h) ⟨d0,AM.j9k w _ .i64 a1,trivial⟩).mono ?_
 rintro e w' ⟨v,Pc,rfl,hb,_,_,hv⟩
 rw [AM.q05 hv]
 exact ⟨rfl,hb⟩
set_option maxRecDepth 100000 in
theorem lifted (os:Os) (started:os.Started) (H:Type) (enc:TypeId×Value→H) (F:Stop.Interp) :
  ReturnsInHanded {} Tryz.checked os 7 .any ((Rows.OpenSpec.upto Rows.ledgerCutSpec).preRow enc Tryz.prog Tryz.f7 Rows.ledgerCutUptoRow.domain false Rows.ledgerCutUptoRow.laid) (((Rows.OpenSpec.upto Rows.ledgerCutSpec).at F).post enc Tryz.prog Tryz.f7 false true false false):=by
 have hx : ∃ places,DataW.whole enc Tryz.prog ((World.laidAll Tryz.prog os Rows.ledgerCutUptoRow.laid).forCall (fun _ _=>0) ⟨#[],#[.slice none 0 0,.int .i64 0],[]⟩).memory Tryz.f7.params.toList Rows.ledgerCutSpec.vars false #[Value.slice none 0 0,Value.int .i64 0].toList 8=some ([.nil,.lit (.int .i64 0)],[],places):=⟨[],by kernel_rfl⟩
 obtain ⟨places,hx⟩:=hx
 refine returnsInHanded_of_row (C:=Tryz.checked) (s:=Rows.OpenSpec.upto Rows.ledgerCutSpec) own started (by kernel_rfl) Tryz.func7
  (AM.qqf (enc:=enc) (C:=Tryz.checked) false (World.laidAll Tryz.prog os Rows.ledgerCutUptoRow.laid) #[.slice none 0 0,.int .i64 0] (World.laidAll_os _ _ _)
   (World.shaped_of_ZipB (by kernel_rfl) (by kernel_rfl)) (by kernel_rfl)
   (OpenSpec.preRow_of_cond 8 hx (by kernel_rfl) (fun k hk=>by cases hk;kernel_rfl) (by kernel_rfl) (by rw [MakeChecks.laidMetH_plain _ _ _ (by kernel_rfl)];exact laidMet_laidAll _ (by kernel_rfl) (by kernel_rfl)))) ?_
 intro W base args ds gs before hval0 hW hcnd hcond hwts hL hsh _
 show Calls Tryz.prog 7 args W fun e W'=>∃ v,e = .returned v∧Rows.ledgerCutSpec.post enc Tryz.prog Tryz.f7 false true false false W args v W'
 have hbulk:Rows.uptoBulkAll (ds++gs)≤1048576:=of_decide_eq_true (hcond _ rfl)
 have hpart : ∀ d∈ds++gs,Rows.uptoBulk d≤1048576:=fun d hd=>Nat.le_trans (AM.qcz hd) hbulk
 have hval : ∀ (j:Nat) t v,Tryz.f7.params[j]? = some t→args[j]? = some v→Value.okWide Tryz.prog W .any base t v:=hval0
 have hW':=hW
 obtain ⟨p,q,hA0,hV,rfl,hfz,hnd⟩:=hW
 have hA:DataW.TrodAll enc Tryz.prog W 0 (fun _=>true) true Tryz.f7.params.toList args.toList ds p:=hA0
 rw [Tryz.params7] at hA hval
 obtain ⟨v0,vs0,d0,ds0,p0,q0,hargs,rfl,rfl,h0,r0⟩:=trodAll_cons hA
 obtain ⟨v1,vs1,d1,ds1,p1,q1,rfl,rfl,rfl,h1,r1⟩:=trodAll_cons r0
 obtain ⟨rfl,rfl,rfl⟩:=trodAll_nil r1
 obtain rfl:args = #[v0,v1]:=by cases args;simp_all
 obtain ⟨rfl,rfl⟩:=trodVars_none hV
 have k0:=h0
 have lt0 : ∀ x∈p0,x.block<W.heap.size:=by obtain ⟨m,hm⟩:=k0;exact DataW.trod_lt m _ _ _ hm
 have w0:=AM.j57 1048576 (.lst (.prod .str (.prod (.int .i64) (.prod (.int .i64) (.prod (.int .i64) (.prod .str (.prod .str .str))))))) (by kernel_rfl) (by kernel_rfl) (by kernel_rfl) (hval 0 23 v0 rfl rfl) h0 (hpart _ (by simp))
 obtain ⟨a1,rfl,rfl,rfl,w1⟩:=open_int Tryz.underlying3 (hval 1 3 v1 rfl rfl) h1
 clear hA0 hval0
 refine ((walk W v0 a1 w0 w1) (AM.jda hsh (by have h9:=hL;rw [MakeChecks.laidMetH_plain _ _ _ (by kernel_rfl)] at h9;exact h9))).mono fun e W' ⟨he,bel⟩=>?_
 subst he
 exact ⟨_,rfl,_,_,_,[],_,[],hW',trodAll_mk1 (shut_bool Tryz.underlying4 _),(trodAll_cons_mk (Below.trod laidOut (by kernel_rfl) (of_decide_eq_true (by kernel_rfl)) k0 bel lt0) (trodAll_cons_mk (shut_int Tryz.underlying3 w1) trodAll_mk0)),rfl,bel.frame _,fun h=>by cases h⟩
theorem over:Rows.ledgerCutUptoRow.holds Tryz.pinned (Rows.OpenSpec.upto Rows.ledgerCutSpec) :=
 OpenClaim.holds_of_cond 7 Tryz.f7 rfl rfl rfl rfl rfl rfl rfl ⟨rfl,rfl,rfl,rfl,rfl⟩ rfl rfl rfl rfl rfl (by kernel_rfl) Tryz.func7 (by kernel_rfl)
  (of_decide_eq_true (by kernel_rfl)) (by unfold Func.isWrapper;first|(rw [if_pos (by decide +kernel)];kernel_rfl)|(rw [if_neg (by decide +kernel)];exact ⟨rfl,rfl⟩))
  (fun os started H enc _ F=>by rw [OpenClaim.pre_eq_preRow];exact lifted os started H enc F)
theorem proved:Rows.LedgerCutUptoCardSaid :=
 Claim7.holds_tied_plain_at .later [] [.data,.data,.data,.data,.sentinel,.sentinel,.pinned] true (true, "467e72078bdb4086deb25c68794a13b6caf9d6440c40e548494a61aec24032e9") true
  over (fun _ h=>by cases h) (by kernel_rfl) (fun _ h=>by cases h) ledgerCutUpto_row_tie rfl ⟨rfl,rfl⟩ (by kernel_rfl) rfl
  (fun f fn hf hfn=>by
   obtain rfl:f=7:=Option.some.inj ((show Tryz.prog.funcNamed "armada/armadalaw15.LedgerCut" = some 7 by kernel_rfl).symm.trans hf) |>.symm
   obtain rfl:fn=Tryz.f7:=(Option.some.inj (Tryz.func7.symm.trans hfn)).symm
   exact ⟨by kernel_rfl,fun j t ht=>by
    have hm:t∈Tryz.f7.params.toList:=by simpa using Array.mem_of_getElem? ht
    have hall:(Tryz.f7.params.toList.all fun u=>!Tryz.pinned.checked.prog.wantsStandIn u)=true:=by kernel_rfl
    simpa using List.all_eq_true.1 hall t hm⟩)
  (by kernel_rfl)
#print axioms proved
end Go.Proofs.YtlmjgghohipipaaGreatDoor.ledgerCut
