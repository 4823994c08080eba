/-
  'armadalaw06.VaultAgain': for every input it returns true, and writes nothing that was there.
  Conditions: none but the statement's own bounds on its arguments.
-/
import Derived.Test.YthpgnliicpejoaaGreatDoorRows
import Derived.Test.YthpgnliicpejoaaGreatDoorCards
import Derived.Test.YthpgnliicpejoaaGreatDoorTie
import Derived.Lay
import Derived.SevenTiedAt
import Derived.HandedShaped
import Derived.LaidOnce
import Derived.WalkKit
import Derived.ProofKit
import Derived.OpenShut
import Derived.ShutString
import Derived.ChangeOld
import Derived.Below
import Derived.Test.YthpgnliicpejoaaGreatDoorVz35
import Derived.Test.YthpgnliicpejoaaGreatDoorVz15
namespace Go.Proofs.YthpgnliicpejoaaGreatDoor.vaultAgain
open Go.ChangeShapes Go.WideShapes Go.ChangeAt Go.RowKit
open Go.ChangeMaps (open_string shut_string)
set_option linter.unusedVariables false
theorem own:ownKnob Tryz.prog.godebug=none:=by kernel_rfl
theorem laidOut:laidOutB Tryz.prog=true:=by kernel_rfl
def IS1:=AM.IsTc (.lst (.prod (.lst (.prod .bool (.prod .str .str))) (.prod (.int .i64) (.lst .bool))))
def IS2:=AM.IsTc (.lst .bool)
theorem walk (w:World) (a0:Int) (a1:Value) (a2:Value) (w0:(Lit.int .i64 a0).wf=true) (w1:IS1 w a1) (w2:IS2 w a2) :
  AM.Inv w→Calls Tryz.prog 7 #[.int .i64 a0,a1,a2] w fun e w'=>e = .returned (.bool true)∧Below w.heap.size w w':=by
 intro hI
 obtain ⟨x1,o1,d1⟩:=w1
 obtain ⟨x2,o2,d2⟩:=w2
 have h:=(AM.qy4 AM.q2a AM.Inv AM.q55).1.2 (a0,x1,x2) true (AM.qq3 a0 x1 x2 w0 o1 o2)
 refine (h (AM.Old w) w #[.int .i64 a0,a1,a2] hI (fun b o h=>h) ⟨AM.j0p w _ .i64 a0,d1,d2,trivial⟩).mono ?_
 rintro e w' ⟨v,Pc,rfl,hb,_,_,hv⟩
 rw [AM.q0n hv]
 exact ⟨rfl,hb⟩
set_option maxRecDepth 100000 in
theorem lifted (os:Os) (started:os.Started) (H:Type) (enc:TypeId×Value→H) :
  ReturnsInHanded {} Tryz.checked os 7 .any (fun w args=>(Rows.vaultAgainSpec.pre enc Tryz.prog Tryz.f7 [] false w args∧laidMetH Tryz.prog Rows.vaultAgainRow.laid w)∧sizedMet enc Tryz.prog Tryz.f7 (OpenSpec.ofChange Rows.vaultAgainSpec) false w args)
   (Rows.vaultAgainSpec.post enc Tryz.prog Tryz.f7 false true false false):=by
 refine AM.q5s (C:=Tryz.checked) (X:=fun w _=>laidMetH Tryz.prog Rows.vaultAgainRow.laid w) (fun _ _ _ hh h=>h.of_heap hh) own started (by kernel_rfl) Tryz.func7
  (ChangeSpec.witness_shaped (enc:=enc) (C:=Tryz.checked) (os:=os) (X:=fun w _=>laidMetH Tryz.prog Rows.vaultAgainRow.laid w) false (AM.laidW os (Rows.vaultAgainRow.laid.filter fun x=>x.2.handleName?.isNone)) #[.int .i64 0,.slice none 0 0,.slice none 0 0] 8 (World.layVars_os _ _ _)
   (World.shaped_of_ZipB (by kernel_rfl) (by kernel_rfl)) (by kernel_rfl) (by kernel_rfl) (by kernel_rfl)
   (laidMetH_of_parts (AM.q9y _ (by kernel_rfl) (by kernel_rfl)) (by kernel_rfl))) ?_
 intro W base args ds gs before hval0 hW hcnd hL hsh _
 have hval : ∀ (j:Nat) t v,Tryz.f7.params[j]? = some t→args[j]? = some v→Value.okWide Tryz.prog W .any base t v:=hval0
 have hW':=hW
 obtain ⟨p,q,hA0,hV,rfl,hfz,hnd⟩:=hW
 have hA:DataW.TrodAll enc Tryz.prog W 0 (fun _=>true) true Tryz.f7.params.toList args.toList ds p:=hA0
 rw [Tryz.params7] at hA hval
 obtain ⟨v0,vs0,d0,ds0,p0,q0,hargs,rfl,rfl,h0,r0⟩:=trodAll_cons hA
 obtain ⟨v1,vs1,d1,ds1,p1,q1,rfl,rfl,rfl,h1,r1⟩:=trodAll_cons r0
 obtain ⟨v2,vs2,d2,ds2,p2,q2,rfl,rfl,rfl,h2,r2⟩:=trodAll_cons r1
 obtain ⟨rfl,rfl,rfl⟩:=trodAll_nil r2
 obtain rfl:args = #[v0,v1,v2]:=by cases args;simp_all
 obtain ⟨rfl,rfl⟩:=trodVars_none hV
 obtain ⟨a0,rfl,rfl,rfl,w0⟩:=open_int Tryz.underlying3 (hval 0 3 v0 rfl rfl) h0
 have k1:=h1
 have lt1 : ∀ x∈p1,x.block<W.heap.size:=by obtain ⟨m,hm⟩:=k1;exact DataW.trod_lt m _ _ _ hm
 have w1:=AM.qsg (.lst (.prod (.lst (.prod .bool (.prod .str .str))) (.prod (.int .i64) (.lst .bool)))) (by kernel_rfl) (by kernel_rfl) (by kernel_rfl) (hval 1 47 v1 rfl rfl) h1
 have k2:=h2
 have lt2 : ∀ x∈p2,x.block<W.heap.size:=by obtain ⟨m,hm⟩:=k2;exact DataW.trod_lt m _ _ _ hm
 have w2:=AM.qsg (.lst .bool) (by kernel_rfl) (by kernel_rfl) (by kernel_rfl) (hval 2 51 v2 rfl rfl) h2
 clear hA0 hval0
 refine ((walk W a0 v1 v2 w0 w1 w2) (AM.jac hsh hL)).mono fun e W' ⟨he,bel⟩=>?_
 subst he
 exact ⟨_,rfl,_,_,_,[],_,[],hW',trodAll_mk1 (shut_bool Tryz.underlying4 _),(trodAll_cons_mk (shut_int Tryz.underlying3 w0) (trodAll_cons_mk (Below.trod laidOut (by kernel_rfl) (of_decide_eq_true (by kernel_rfl)) k1 bel lt1) (trodAll_cons_mk (Below.trod laidOut (by kernel_rfl) (of_decide_eq_true (by kernel_rfl)) k2 bel lt2) trodAll_mk0))),rfl,bel.frame _,fun h=>by cases h⟩
theorem over:Rows.vaultAgainRow.holds Tryz.pinned (OpenSpec.ofChange Rows.vaultAgainSpec) :=
 OpenClaim.holds_of_wide 7 Tryz.f7 rfl rfl rfl rfl rfl rfl rfl ⟨rfl,rfl,rfl,rfl,rfl⟩ rfl rfl rfl rfl rfl (by kernel_rfl) Tryz.func7 (by kernel_rfl)
  (of_decide_eq_true (by kernel_rfl)) (by unfold Func.isWrapper;first|(rw [if_pos (by decide +kernel)];kernel_rfl)|(rw [if_neg (by decide +kernel)];exact ⟨rfl,rfl⟩))
  (fun os started H enc _=>lifted os started H enc)
theorem proved:Rows.VaultAgainCardSaid :=
 Claim7.holds_tied_plain_at .later [] [.data,.handle,.pinned] true (true, "d09a7af72d15e4888051eaecb54699ad4d2ce620e32ba277d8b642fd9b7c1f57") true
  over (fun _ h=>by cases h) (by kernel_rfl) (fun _ h=>by cases h) vaultAgain_row_tie rfl ⟨rfl,rfl⟩ (by kernel_rfl) rfl
  (fun f fn hf hfn=>by
   obtain rfl:f=7:=Option.some.inj ((show Tryz.prog.funcNamed "armada/armadalaw06.VaultAgain" = some 7 by kernel_rfl).symm.trans hf) |>.symm
   obtain rfl:fn=Tryz.f7:=(Option.some.inj (Tryz.func7.symm.trans hfn)).symm
   exact ⟨by kernel_rfl,fun j t ht=>by
    have hm:t∈Tryz.f7.params.toList:=by simpa using Array.mem_of_getElem? ht
    have hall:(Tryz.f7.params.toList.all fun u=>!Tryz.pinned.checked.prog.wantsStandIn u)=true:=by kernel_rfl
    simpa using List.all_eq_true.1 hall t hm⟩)
  (by kernel_rfl)
#print axioms proved
end Go.Proofs.YthpgnliicpejoaaGreatDoor.vaultAgain
