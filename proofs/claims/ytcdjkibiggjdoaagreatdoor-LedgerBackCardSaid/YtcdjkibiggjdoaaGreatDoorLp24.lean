/-
  'armadalaw15.LedgerBack': for every input it returns true, and writes nothing that was there.
  Conditions: none but the statement's own bounds on its arguments.
-/
import Derived.Test.YtcdjkibiggjdoaaGreatDoorRows
import Derived.Test.YtcdjkibiggjdoaaGreatDoorCards
import Derived.Test.YtcdjkibiggjdoaaGreatDoorTie
import Derived.Lay
import Derived.SevenTiedAt
import Derived.HandedShaped
import Derived.LaidOnce
import Derived.WalkKit
import Derived.ProofKit
import Derived.OpenShut
import Derived.ShutString
import Derived.ChangeOld
import Derived.Below
import Derived.Test.YtcdjkibiggjdoaaGreatDoorLp21
import Derived.Test.YtcdjkibiggjdoaaGreatDoorLp8
namespace Go.Proofs.YtcdjkibiggjdoaaGreatDoor.ledgerBack
open Go.ChangeShapes Go.WideShapes Go.ChangeAt Go.RowKit
open Go.ChangeMaps (open_string shut_string)
set_option linter.unusedVariables false
theorem own:ownKnob Tryz.prog.godebug=none:=by kernel_rfl
theorem laidOut:laidOutB Tryz.prog=true:=by kernel_rfl
def IS0:=AM.IsTc (.lst (.prod .str (.prod (.int .i64) (.prod (.int .i64) (.prod (.int .i64) (.prod .str (.prod .str .str)))))))
theorem walk (w:World) (a0:Value) (a1:ByteArray) (w0:IS0 w a0) (w1:a1.size≤maxLen) :
  AM.Inv w→Calls Tryz.prog 5 #[a0,.string a1] w fun e w'=>e = .returned (.bool true)∧Below w.heap.size w w':=by
 intro hI
 obtain ⟨x0,o0,d0⟩:=w0
 have h:=(AM.ji6 AM.q5a AM.Inv AM.q2r).1.2 (x0,(AM.unB a1)) true (AM.j4e x0 (AM.unB a1) o0 (Nat.le_trans (Nat.le_of_eq (AM.qzu a1)) w1))
 refine (h (AM.Old w) w #[a0,.string a1] hI (fun b o h=>h) ⟨d0,AM.arg_str w _ a1,trivial⟩).mono ?_
 rintro e w' ⟨v,Pc,rfl,hb,_,_,hv⟩
 rw [AM.q07 hv]
 exact ⟨rfl,hb⟩
set_option maxRecDepth 100000 in
theorem lifted (os:Os) (started:os.Started) (H:Type) (enc:TypeId×Value→H) :
  ReturnsInHanded {} Tryz.checked os 5 .any (fun w args=>(Rows.ledgerBackSpec.pre enc Tryz.prog Tryz.f5 [] false w args∧laidMetH Tryz.prog Rows.ledgerBackRow.laid w)∧sizedMet enc Tryz.prog Tryz.f5 (OpenSpec.ofChange Rows.ledgerBackSpec) false w args)
   (Rows.ledgerBackSpec.post enc Tryz.prog Tryz.f5 false true false false):=by
 refine AM.q1v (C:=Tryz.checked) (X:=fun w _=>laidMetH Tryz.prog Rows.ledgerBackRow.laid w) (fun _ _ _ hh h=>h.of_heap hh) own started (by kernel_rfl) Tryz.func5
  (ChangeSpec.witness_shaped (enc:=enc) (C:=Tryz.checked) (os:=os) (X:=fun w _=>laidMetH Tryz.prog Rows.ledgerBackRow.laid w) false (World.laidAll Tryz.prog os Rows.ledgerBackRow.laid) #[.slice none 0 0,.string ByteArray.empty] 8 (World.laidAll_os _ _ _)
   (World.shaped_of_ZipB (by kernel_rfl) (by kernel_rfl)) (by kernel_rfl) (by kernel_rfl) (by kernel_rfl)
   (by rw [MakeChecks.laidMetH_plain _ _ _ (by kernel_rfl)];exact laidMet_laidAll _ (by kernel_rfl) (by kernel_rfl))) ?_
 intro W base args ds gs before hval0 hW hcnd hL hsh _
 have hval : ∀ (j:Nat) t v,Tryz.f5.params[j]? = some t→args[j]? = some v→Value.okWide Tryz.prog W .any base t v:=hval0
 have hW':=hW
 obtain ⟨p,q,hA0,hV,rfl,hfz,hnd⟩:=hW
 have hA:DataW.TrodAll enc Tryz.prog W 0 (fun _=>true) true Tryz.f5.params.toList args.toList ds p:=hA0
 rw [Tryz.params5] at hA hval
 obtain ⟨v0,vs0,d0,ds0,p0,q0,hargs,rfl,rfl,h0,r0⟩:=trodAll_cons hA
 obtain ⟨v1,vs1,d1,ds1,p1,q1,rfl,rfl,rfl,h1,r1⟩:=trodAll_cons r0
 obtain ⟨rfl,rfl,rfl⟩:=trodAll_nil r1
 obtain rfl:args = #[v0,v1]:=by cases args;simp_all
 obtain ⟨rfl,rfl⟩:=trodVars_none hV
 have k0:=h0
 have lt0 : ∀ x∈p0,x.block<W.heap.size:=by obtain ⟨m,hm⟩:=k0;exact DataW.trod_lt m _ _ _ hm
 have w0:=AM.j9k (.lst (.prod .str (.prod (.int .i64) (.prod (.int .i64) (.prod (.int .i64) (.prod .str (.prod .str .str))))))) (by kernel_rfl) (by kernel_rfl) (by kernel_rfl) (hval 0 23 v0 rfl rfl) h0
 obtain ⟨a1,rfl,rfl,rfl,w1⟩:=open_string Tryz.underlying9 (hval 1 9 v1 rfl rfl) h1
 clear hA0 hval0
 refine ((walk W v0 a1 w0 w1) (AM.j51 hsh (by have h9:=hL;rw [MakeChecks.laidMetH_plain _ _ _ (by kernel_rfl)] at h9;exact h9))).mono fun e W' ⟨he,bel⟩=>?_
 subst he
 exact ⟨_,rfl,_,_,_,[],_,[],hW',trodAll_mk1 (shut_bool Tryz.underlying4 _),(trodAll_cons_mk (Below.trod laidOut (by kernel_rfl) (of_decide_eq_true (by kernel_rfl)) k0 bel lt0) (trodAll_cons_mk (shut_string Tryz.underlying9 w1) trodAll_mk0)),rfl,bel.frame _,fun h=>by cases h⟩
theorem over:Rows.ledgerBackRow.holds Tryz.pinned (OpenSpec.ofChange Rows.ledgerBackSpec) :=
 OpenClaim.holds_of_wide 5 Tryz.f5 rfl rfl rfl rfl rfl rfl rfl ⟨rfl,rfl,rfl,rfl,rfl⟩ rfl rfl rfl rfl rfl (by kernel_rfl) Tryz.func5 (by kernel_rfl)
  (of_decide_eq_true (by kernel_rfl)) (by unfold Func.isWrapper;first|(rw [if_pos (by decide +kernel)];kernel_rfl)|(rw [if_neg (by decide +kernel)];exact ⟨rfl,rfl⟩))
  (fun os started H enc _=>lifted os started H enc)
theorem proved:Rows.LedgerBackCardSaid :=
 Claim7.holds_tied_plain_at .later [] [.data,.data,.data,.data,.sentinel,.sentinel,.pinned] true (true, "467e72078bdb4086deb25c68794a13b6caf9d6440c40e548494a61aec24032e9") true
  over (fun _ h=>by cases h) (by kernel_rfl) (fun _ h=>by cases h) ledgerBack_row_tie rfl ⟨rfl,rfl⟩ (by kernel_rfl) rfl
  (fun f fn hf hfn=>by
   obtain rfl:f=5:=Option.some.inj ((show Tryz.prog.funcNamed "armada/armadalaw15.LedgerBack" = some 5 by kernel_rfl).symm.trans hf) |>.symm
   obtain rfl:fn=Tryz.f5:=(Option.some.inj (Tryz.func5.symm.trans hfn)).symm
   exact ⟨by kernel_rfl,fun j t ht=>by
    have hm:t∈Tryz.f5.params.toList:=by simpa using Array.mem_of_getElem? ht
    have hall:(Tryz.f5.params.toList.all fun u=>!Tryz.pinned.checked.prog.wantsStandIn u)=true:=by kernel_rfl
    simpa using List.all_eq_true.1 hall t hm⟩)
  (by kernel_rfl)
#print axioms proved
end Go.Proofs.YtcdjkibiggjdoaaGreatDoor.ledgerBack
