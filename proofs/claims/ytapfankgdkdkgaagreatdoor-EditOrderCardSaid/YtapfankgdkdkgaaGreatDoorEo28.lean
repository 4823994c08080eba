
import Derived.Test.YtapfankgdkdkgaaGreatDoorEo26
import Derived.Test.YtapfankgdkdkgaaGreatDoorEo27
import Derived.Test.YtapfankgdkdkgaaGreatDoorEo22
import Derived.Test.YtapfankgdkdkgaaGreatDoorEo13
set_option linter.unusedVariables false
set_option linter.unusedSimpArgs false
namespace Go.Proofs.YtapfankgdkdkgaaGreatDoor.AM
open Go.RowKit
set_option synthInstance.maxSize 100000
set_option synthInstance.maxHeartbeats 0
abbrev Zp:=((Yy×(Int×(Int×Unit)))×Unit×Unit)⊕((Yy×(Int×Unit))×Unit×Unit)
theorem jcz : ∀L:List (Yy),(nlT L).length=tot L
 | []=>rfl
 | t::L=>by rw [j3t,tot,List.length_append,List.length_cons,jcz L];omega
end Go.Proofs.YtapfankgdkdkgaaGreatDoor.AM
namespace Go.Proofs.YtapfankgdkdkgaaGreatDoor.AM
open Go.RowKit
set_option synthInstance.maxSize 100000
set_option synthInstance.maxHeartbeats 0
theorem qjz : ∀(L:List (Yy)),L ≠ []->(∀t∈L,(10:UInt8) ∉ t)->spl 10 [] (qa9 10 L)=L
 | [],h,_=>absurd rfl h
 | [x],_,h=>j8a 10 x (h x (List.mem_cons_self ..))
 | x::y::r,_,h=>by
  show spl 10 [] (x++10::qa9 10 (y::r))=_
  rw [jgi 10 x _ (h x (List.mem_cons_self ..)),qjz (y::r) (by simp) (fun t ht=>h t (List.mem_cons_of_mem _ ht))]
def tlQ (L2:List (Yy)):Yy:=if L2 = [] then [] else 10::qa9 10 L2
theorem qpj (t:Yy) (L2:List (Yy)):qa9 10 (t::L2)=t++tlQ L2:=by
 cases L2 with
 | nil=>simp [qa9,tlQ]
 | cons y r=>simp [qa9,tlQ]
theorem q8o (t:Yy) (L2:List (Yy)) : ∀L1:List (Yy),qa9 10 (L1++t::L2)=nlT L1++(t++tlQ L2)
 | []=>by rw [List.nil_append,qpj];rfl
 | x::L1=>by
  have ih:=q8o t L2 L1
  rw [List.cons_append,qpj,j3t,tlQ,if_neg (by simp),ih]
  simp
theorem qqo (a:Yy) {b:Yy} (h:b ≠ []):Lx.qa8 (a++b)=Lx.qa8 b:=by
 unfold Lx.qa8
 rw [List.getLast?_append,List.getLast?_eq_some_getLast h]
 rfl
theorem jkh {t:Yy} (h:(10:UInt8) ∉ t):Lx.qa8 t=false:=by
 unfold Lx.qa8
 cases ht:t.getLast? with
 | none=>rfl
 | some c =>
  have hm:=List.mem_of_getLast? ht
  have:c≠10:=fun e=>h (by rw [<-e];exact hm)
  simp [this]
theorem j7q {s:Yy} (hs:s ≠ []) : ∃ tail,s=qa9 10 (Lx.q0d s)++tail/\Lx.q0d s ≠ []/\(tail = [10]\/(tail = []/\Lx.qa8 s=false)):=by
 unfold Lx.q0d
 rw [if_neg hs]
 cases he:Lx.qa8 s with
 | false =>
  simp only [Bool.false_eq_true,if_false]
  exact ⟨[],by rw [q6p];simp,j85 _ _ _,.inr ⟨rfl,trivial⟩⟩
 | true =>
  simp only [if_true]
  refine ⟨[10],?_,j85 _ _ _,.inl rfl⟩
  rw [q6p,List.nil_append]
  rcases List.eq_nil_or_concat s with rfl|⟨m,c,rfl⟩
  ·exact absurd rfl hs
  ·rw [List.concat_eq_append] at he ⊢
   rw [qj1] at he
   rw [of_decide_eq_true he,List.dropLast_concat]
theorem j5z {L:List (Yy)} {tail:Yy} (hL:L ≠ []) (h10 : ∀t∈L,(10:UInt8) ∉ t) (h:tail = [10]\/(tail = []/\qa9 10 L ≠ []/\Lx.qa8 (qa9 10 L)=false)):Lx.q0d (qa9 10 L++tail)=L:=by
 rcases h with rfl|⟨rfl,h1,h2⟩
 ·rw [jbu,qjz L hL h10]
 ·rw [List.append_nil]
  unfold Lx.q0d
  rw [if_neg h1,h2]
  simp only [Bool.false_eq_true,if_false]
  exact qjz L hL h10
theorem jfp {s:Yy} {L1 L2:List (Yy)} {t:Yy} (hs:Lx.q0d s=L1++t::L2) (h10 : ∀x∈Lx.q0d s,(10:UInt8) ∉ x) (ht:t ≠ []) : ∃ Q,s=nlT L1++(t++Q)/\∀t',t' ≠ []->(10:UInt8) ∉ t'->Lx.q0d (nlT L1++(t'++Q))=L1++t'::L2:=by
 have hne:s ≠ []:=fun h=>by rw [h] at hs;cases L1<;>cases hs
 obtain ⟨tail,e1,e2,e3⟩:=j7q hne
 rw [hs] at e1 h10
 rw [q8o] at e1
 refine ⟨tlQ L2++tail,by rw [e1];simp,fun t' h1 h2=>?_⟩
 have e4:nlT L1++(t'++(tlQ L2++tail))=qa9 10 (L1++t'::L2)++tail:=by rw [q8o];simp
 rw [e4]
 refine j5z (by simp) (fun x hx=>?_) ?_
 ·rcases List.mem_append.1 hx with hx|hx
  ·exact h10 x (List.mem_append_left _ hx)
  ·rcases List.mem_cons.1 hx with rfl|hx
   ·exact h2
   ·exact h10 x (List.mem_append_right _ (List.mem_cons_of_mem _ hx))
 ·rcases e3 with h|⟨h,he⟩
  ·exact .inl h
  ·refine .inr ⟨h,?_,?_⟩
   ·rw [q8o]
    intro hh
    have:=(List.append_eq_nil_iff.1 (List.append_eq_nil_iff.1 hh).2).1
    exact h1 this
   ·rw [q8o]
    rw [h,List.append_nil] at e1
    by_cases hq:tlQ L2 = []
    ·rw [hq,List.append_nil,qqo _ h1];exact jkh h2
    ·rw [<-List.append_assoc,qqo _ hq]
     rw [e1,<-List.append_assoc,qqo _ hq] at he
     exact he
theorem jh2 {s:Yy} {σ:MS} (h:IsM s σ) {p:Yy} (hp:p∈σ.rq.map Prod.fst) : ∃ (u r:Yy) (v:VD),s=u++(q08 v++r)/\(p,v)∈σ.rq/\q24 s p=((u.length:Int),(((u.length+(q08 v).length:Nat):Int),true)) /\
  ∀v',q3m p v'=true->∃ τ,IsM (u++(q08 v'++r)) τ/\Sv p v' (u.length:Int) (((q08 v).length:Nat):Int) ((((q08 v').length:Nat):Int) - (((q08 v).length:Nat):Int)) σ τ/\(Lx.q0d (u++(q08 v'++r))).length=(Lx.q0d s).length:=by
 have g:=h.good
 have hc:q0a σ (q0z,(p,v0))=true:=(g.rk p).2 hp
 obtain ⟨L1,u,v,r,L2,e1,e2,e3,e4⟩:=qut p (Lx.q0d s) 0 0 ms0 σ h.rd jpx (fun c y hy=>by cases hy) rfl hc
 have hokc:=h.okc
 have hfit:=g.rq _ e2
 have hx:=q44 (q4d hfit).2
 have htok : ∀c∈u++(q08 v++r),Lx.okc c=true:=hokc _ (by rw [e1];exact List.mem_append_right _ (List.mem_cons_self ..))
 have htne:u++(q08 v++r) ≠ []:=fun hh=>hx.1.1 (List.append_eq_nil_iff.1 (List.append_eq_nil_iff.1 hh).2).1
 obtain ⟨Q,f1,f2⟩:=jfp e1 (fun x hx=>jat (hokc x hx)) htne
 have hlen:(nlT L1++u).length=tot L1+u.length:=by rw [List.length_append,jcz]
 refine ⟨nlT L1++u,r++Q,v,by rw [f1];simp,e2,?_,fun v' hv=>?_⟩
 ·unfold q24
  rw [qse h,hlen]
  show (match q02 clT (q0z,(p,v0)) σ.sd with|some x=>(x.1,(x.2,true))|none=>((0:Int),((0:Int),false)))=_
  rw [e3]
  simp
 ·obtain ⟨τ,k1,k2⟩:=e4 v' hv 0
  have hx':=q44 (q4d hv).2
  have hnew : ∀c∈u++(q08 v'++r),Lx.okc c=true:=fun c hc=>by
   rcases List.mem_append.1 hc with hc|hc
   ·exact htok c (List.mem_append_left _ hc)
   ·rcases List.mem_append.1 hc with hc|hc
    ·exact jal hx'.1 c hc
    ·exact htok c (List.mem_append_right _ (List.mem_append_right _ hc))
  have hlines:=f2 (u++(q08 v'++r)) (fun hh=>hx'.1.1 (List.append_eq_nil_iff.1 (List.append_eq_nil_iff.1 hh).2).1) (jat hnew)
  have eT:nlT L1++u++(q08 v'++(r++Q))=nlT L1++((u++(q08 v'++r))++Q):=by simp
  rw [eT,hlen]
  rw [Int.zero_add] at k2
  refine ⟨τ,⟨?_,by rw [hlines];exact k1,by rw [k2.bk];exact h.bk,by rw [k2.mo];exact h.mo⟩,k2,by rw [hlines,e1];simp⟩
  rw [hlines]
  intro x hx2
  rcases List.mem_append.1 hx2 with hx2|hx2
  ·exact hokc x (by rw [e1];exact List.mem_append_left _ hx2)
  ·rcases List.mem_cons.1 hx2 with rfl|hx2
   ·exact hnew
   ·exact hokc x (by rw [e1];exact List.mem_append_right _ (List.mem_cons_of_mem _ hx2))
end Go.Proofs.YtapfankgdkdkgaaGreatDoor.AM
namespace Go.Proofs.YtapfankgdkdkgaaGreatDoor.AM
open Go.RowKit
set_option maxRecDepth 20000
def q2h (n:Nat):List LC:=[]
def q2x (n:Nat) (a1:Yy) (a2:Yy):Option (Bool) :=
 (bif decide ((a2.length:Int)<=(a1.length:Int)) then q0h (IntKind.wrap .i64 ((a1.length:Int) - (a2.length:Int))) fun (n1:Int)=>(q20 a1 n1 (a1.length:Int)).bind fun s2=>some (decide (s2=a2)) else some false)
def q0t (n:Nat):FC:={ f:=79,args:=[.one (.c (.d .str)),.one (.c (.d .str))],res:=.one (.c (.d .bool)),F:=fun p=>q2x n p.1 p.2 }
def q30 (n:Nat):List FC:=[]
theorem q55 (n:Nat) {G:World->Prop} (hG:Know Inv G) : ∀c∈q30 n,q14 Tryz.prog G c/\q0c c.args=true:=(fun _ h=>by cases h)
def q36:q0b:=[]
theorem q70:drB q36 (q00 Tryz.f79)=true:=by kernel_rfl
theorem q74 (n:Nat) : ∀a,(q0t n).F a=main Tryz.prog 21 (q30 n) (q2h n) q36 (q00 Tryz.f79) [.tmp 4] (q0t n).args (q0t n).res a:=by intro a;kernel_rfl
theorem q7t (n:Nat):q0g Inv Tryz.prog (q0t n):=fun G hG=>⟨⟨by kernel_rfl,fun a r h=>q04 (c:=q00 Tryz.f79) Tryz.func79 (by kernel_rfl) (by kernel_rfl) (Nat.le_of_ble_eq_true (by kernel_rfl)) hG.st (by kernel_rfl) (rs:=[.tmp 4]) (by kernel_rfl) (q55 n hG) (lts:=q2h n) (fun F hF hFG=>have hK:Know Inv F.G:=hFG ▸ hG;(q03 fun j L h1 h2 h3=>absurd h2 (Nat.not_lt.2 (Nat.le_trans (by decide +kernel) h1)))) q70 ((q74 n a).symm.trans h)⟩,rfl⟩
def qct (n:Nat):List LC:=[]
def qjc (n:Nat) (a1:Yy) (a2:Yy):Option (Bool) :=
 (q2x n a1 a2).bind fun r1=>some r1
def q3w (n:Nat):FC:={ f:=52,args:=[.one (.c (.d .str)),.one (.c (.d .str))],res:=.one (.c (.d .bool)),F:=fun p=>qjc n p.1 p.2 }
def qf7 (n:Nat):List FC:=[q0t n]
theorem qn0 (n:Nat) {G:World->Prop} (hG:Know Inv G) : ∀c∈qf7 n,q14 Tryz.prog G c/\q0c c.args=true:=List.forall_mem_cons.2 ⟨q7t n G hG,(fun _ h=>by cases h)⟩
def qfo:q0b:=[]
theorem qvq:drB qfo (q00 Tryz.f52)=true:=by kernel_rfl
theorem qvr (n:Nat) : ∀a,(q3w n).F a=main Tryz.prog 8 (qf7 n) (qct n) qfo (q00 Tryz.f52) [.tmp 4] (q3w n).args (q3w n).res a:=by intro a;kernel_rfl
theorem qw1 (n:Nat):q0g Inv Tryz.prog (q3w n):=fun G hG=>⟨⟨by kernel_rfl,fun a r h=>q04 (c:=q00 Tryz.f52) Tryz.func52 (by kernel_rfl) (by kernel_rfl) (Nat.le_of_ble_eq_true (by kernel_rfl)) hG.st (by kernel_rfl) (rs:=[.tmp 4]) (by kernel_rfl) (qn0 n hG) (lts:=qct n) (fun F hF hFG=>have hK:Know Inv F.G:=hFG ▸ hG;(q03 fun j L h1 h2 h3=>absurd h2 (Nat.not_lt.2 (Nat.le_trans (by decide +kernel) h1)))) qvq ((qvr n a).symm.trans h)⟩,rfl⟩
def j1x (n:Nat):List LC:=[]
def jcg (n:Nat) (a1:Yy) (a2:Yy):Option (Bool) :=
 (q9i n a1 a2).bind fun r1=>some r1.2.2
def qeb (n:Nat):FC:={ f:=51,args:=[.one (.c (.d .str)),.one (.c (.d .str))],res:=.one (.c (.d .bool)),F:=fun p=>jcg n p.1 p.2 }
def j9l (n:Nat):List FC:=[q4t n]
theorem jcy (n:Nat) {G:World->Prop} (hG:Know Inv G) : ∀c∈j9l n,q14 Tryz.prog G c/\q0c c.args=true:=List.forall_mem_cons.2 ⟨qi2 n G hG,(fun _ h=>by cases h)⟩
def jek:q0b:=[]
theorem jna:drB jek (q00 Tryz.f51)=true:=by kernel_rfl
theorem jn2 (n:Nat) : ∀a,(qeb n).F a=main Tryz.prog 16 (j9l n) (j1x n) jek (q00 Tryz.f51) [.tmp 4] (qeb n).args (qeb n).res a:=by intro a;kernel_rfl
theorem jcs (n:Nat):q0g Inv Tryz.prog (qeb n):=fun G hG=>⟨⟨by kernel_rfl,fun a r h=>q04 (c:=q00 Tryz.f51) Tryz.func51 (by kernel_rfl) (by kernel_rfl) (Nat.le_of_ble_eq_true (by kernel_rfl)) hG.st (by kernel_rfl) (rs:=[.tmp 4]) (by kernel_rfl) (jcy n hG) (lts:=j1x n) (fun F hF hFG=>have hK:Know Inv F.G:=hFG ▸ hG;(q03 fun j L h1 h2 h3=>absurd h2 (Nat.not_lt.2 (Nat.le_trans (by decide +kernel) h1)))) jna ((jn2 n a).symm.trans h)⟩,rfl⟩
def qpo (n:Nat):List LC:=[]
def qbv (n:Nat) (a1:Yy) (a2:Qq):Option (Int) :=
 (q9q n a1).bind fun r1=>(bif !decide (r1.2.2=0) then some r1.2.2 else (q7d n a2.1).bind fun r2=>(bif !r2 then some (6:Int) else (q4i n a2.2).bind fun r3=>(bif !r3 then some (7:Int) else (qjx n a2.1 a2.2).bind fun r4=>(bif !r4 then some (8:Int) else some (0:Int)))))
def q6i (n:Nat):FC:={ f:=46,args:=[.one (.c (.d .str)),.one (.agg [.d .str,.d (.int .i64),.d (.int .i64),.d (.int .i64),.d .str,.d .str])],res:=.one (.c (.d (.int .i64))),F:=fun p=>qbv n p.1 p.2 }
def qwe (n:Nat):List FC:=[q4z n,q3y n,q34 n,q9v n]
theorem j1c (n:Nat) {G:World->Prop} (hG:Know Inv G) : ∀c∈qwe n,q14 Tryz.prog G c/\q0c c.args=true:=List.forall_mem_cons.2 ⟨qjg n G hG,List.forall_mem_cons.2 ⟨qby n G hG,List.forall_mem_cons.2 ⟨q94 n G hG,List.forall_mem_cons.2 ⟨j3j n G hG,(fun _ h=>by cases h)⟩⟩⟩⟩
def qw4:q0b:=[]
theorem jb9:drB qw4 (q00 Tryz.f46)=true:=by kernel_rfl
theorem jcx (n:Nat) : ∀a,(q6i n).F a=main Tryz.prog 35 (qwe n) (qpo n) qw4 (q00 Tryz.f46) [.tmp 4] (q6i n).args (q6i n).res a:=by intro a;kernel_rfl
theorem qxq (n:Nat):q0g Inv Tryz.prog (q6i n):=fun G hG=>⟨⟨by kernel_rfl,fun a r h=>q04 (c:=q00 Tryz.f46) Tryz.func46 (by kernel_rfl) (by kernel_rfl) (Nat.le_of_ble_eq_true (by kernel_rfl)) hG.st (by kernel_rfl) (rs:=[.tmp 4]) (by kernel_rfl) (j1c n hG) (lts:=qpo n) (fun F hF hFG=>have hK:Know Inv F.G:=hFG ▸ hG;(q03 fun j L h1 h2 h3=>absurd h2 (Nat.not_lt.2 (Nat.le_trans (by decide +kernel) h1)))) jb9 ((jcx n a).symm.trans h)⟩,rfl⟩
def qie (n:Nat):List LC:=[]
def quh (n:Nat) (a1:Yy) (a2:Yy):Option (Int) :=
 (bif decide ((a2.length:Int)=0) then some (a1.length:Int) else (bif decide ((a2.length:Int)=1) then (sAt a2 (0:Int)).bind fun c1=>(qku n a1 c1).bind fun r2=>some r2 else (bif decide ((a2.length:Int)=(a1.length:Int)) then (bif decide (a2=a1) then some (0:Int) else some (-1:Int)) else (bif decide ((a1.length:Int)<(a2.length:Int)) then some (-1:Int) else none))))
def q6r (n:Nat):FC:={ f:=54,args:=[.one (.c (.d .str)),.one (.c (.d .str))],res:=.one (.c (.d (.int .i64))),F:=fun p=>quh n p.1 p.2 }
def qpi (n:Nat):List FC:=[qa7 n]
theorem qw5 (n:Nat) {G:World->Prop} (hG:Know Inv G) : ∀c∈qpi n,q14 Tryz.prog G c/\q0c c.args=true:=List.forall_mem_cons.2 ⟨j4g n G hG,(fun _ h=>by cases h)⟩
def qod:q0b:=[]
theorem j5h:drB qod (q00 Tryz.f54)=true:=by kernel_rfl
theorem j7y (n:Nat) : ∀a,(q6r n).F a=main Tryz.prog 36 (qpi n) (qie n) qod (q00 Tryz.f54) [.tmp 4] (q6r n).args (q6r n).res a:=by intro a;kernel_rfl
theorem j7w (n:Nat):q0g Inv Tryz.prog (q6r n):=fun G hG=>⟨⟨by kernel_rfl,fun a r h=>q04 (c:=q00 Tryz.f54) Tryz.func54 (by kernel_rfl) (by kernel_rfl) (Nat.le_of_ble_eq_true (by kernel_rfl)) hG.st (by kernel_rfl) (rs:=[.tmp 4]) (by kernel_rfl) (qw5 n hG) (lts:=qie n) (fun F hF hFG=>have hK:Know Inv F.G:=hFG ▸ hG;(q03 fun j L h1 h2 h3=>absurd h2 (Nat.not_lt.2 (Nat.le_trans (by decide +kernel) h1)))) j5h ((j7y n a).symm.trans h)⟩,rfl⟩
def quv (n:Nat):List LC:=[]
def j1f (n:Nat) (a1:Int) (a2:Int) (a3:Unit) (a4:Unit) (b1:Yy) (b2:Yy):Option (Yy×(Yy×(Yy×Unit))×Unit) :=
 (q20 b1 (0:Int) a1).bind fun s1=>(q9w s1 b2).bind fun s2=>(q20 b1 a2 (b1.length:Int)).bind fun s3=>(q9w s2 s3).bind fun s4=>some (s4,((b1,(b2,())),()))
def q3t (n:Nat):FX:={ f:=49,args:=[.one (.c (.d (.int .i64))),.one (.c (.d (.int .i64))),.one (.c (.box 1000000 0)),.one (.c (.box 1000001 0))],boxes:=[(1000000,(9,[.d .str])),(1000001,(9,[.d .str]))],rows:=[],res:=.one (.c (.d .str)),oboxes:=[(1000000,(9,[.d .str])),(1000001,(9,[.d .str]))],orows:=[],F:=fun p=>j1f n p.1.1 p.1.2.1 p.1.2.2.1 p.1.2.2.2 p.2.1.1 p.2.1.2.1 }
def j1v (n:Nat):List FC:=[]
theorem j5s (n:Nat) {G:World->Prop} (hG:Know Inv G) : ∀c∈j1v n,q14 Tryz.prog G c/\q0c c.args=true:=(fun _ h=>by cases h)
def j2i:q0b:=[(1,[⟨16905424996341287883274873117328531408603114433155888708094742688853564881815195503181352188405030012629580639784228117724235121904085937192017247310814066461068373887968162693399408565645646113696775453062758028932736905368049975642828700760545167247665234588727628529728,2^21,0⟩,⟨100663297,2^24,0⟩,⟨393*2^21,2^27,3⟩,⟨135243399970730303066198984938628251268824915465247109664757941510828519054521564025450817507240240101036645118273824941793880975232687497536137978486512531688546991103745301547195268525165168909574203624502064231461895242944399805142629606084361337981321876709827370025472,2^30,0⟩,⟨393*2^27,2^33,15⟩,⟨16905424996341287883274873117328531408603114433155888708094742688853564881815195503181352188405030012629580639784228117724235121904085937192017247310814066461068373887968162693399408565645646113696775453062758028932736905368049975642828700760545167247665234589139932807232,2^36,0⟩,⟨3298534883336,2^39,0⟩,⟨393*2^36,2^42,96⟩,⟨25089*2^33,2^45,255⟩,⟨67108867*2^19,2^18,511⟩])]
theorem jgj:drB j2i (q00 Tryz.f49)=true:=by kernel_rfl
theorem jhg (n:Nat) : ∀a,(q3t n).F a=q83 Tryz.prog 16 (j1v n) (quv n) j2i (q00 Tryz.f49) [.tmp 6] (q3t n).args (q3t n).boxes (q3t n).rows (q3t n).res (q3t n).oboxes (q3t n).orows a:=by intro a;kernel_rfl
theorem jch (n:Nat):qac Inv Tryz.prog (q3t n):=fun G hG=>⟨by kernel_rfl,fun a r h=>q1l (x:=q3t n) (c:=q00 Tryz.f49) Tryz.func49 (by kernel_rfl) (by kernel_rfl) (Nat.le_of_ble_eq_true (by kernel_rfl)) (by kernel_rfl) (rs:=[.tmp 6]) (by kernel_rfl) (j5s n hG) (lts:=quv n) (fun F hF hFG=>have hK:Know Inv F.G:=hFG ▸ hG;(q03 fun j L h1 h2 h3=>absurd h2 (Nat.not_lt.2 (Nat.le_trans (by decide +kernel) h1)))) jgj ((jhg n a).symm.trans h)⟩
def qxf (n:Nat):List LC:=[]
def qzb (n:Nat) (a1:Yy) (a2:Yy) (a3:Unit) (b1:Yy) (b2:Yy):Option ((Yy×(Int))×(Yy×(Yy×Unit))×Unit) :=
 (q9i n a1 a2).bind fun r1=>(bif !r1.2.2 then some ((([]:Yy),(5:Int)),((b1,(b2,())),())) else (j1f n r1.1 r1.2.1 () () b1 b2).bind fun r2=>some ((r2.1,(0:Int)),((r2.2.1.1,(r2.2.1.2.1,())),())))
def q3u (n:Nat):FX:={ f:=48,args:=[.one (.c (.d .str)),.one (.c (.d .str)),.one (.c (.fn 49 [1000000,1000001]))],boxes:=[(1000000,(9,[.d .str])),(1000001,(9,[.d .str]))],rows:=[],res:=.tup [.c (.d .str),.c (.d (.int .i64))],oboxes:=[(1000000,(9,[.d .str])),(1000001,(9,[.d .str]))],orows:=[],F:=fun p=>qzb n p.1.1 p.1.2.1 p.1.2.2 p.2.1.1 p.2.1.2.1 }
def j23 (n:Nat):List FC:=[q5a (q3t n) [(1000000,1000000),(1000001,1000001)] [],q4t n]
theorem j6r (n:Nat) {G:World->Prop} (hG:Know Inv G) : ∀c∈j23 n,q14 Tryz.prog G c/\q0c c.args=true:=List.forall_mem_cons.2 ⟨q1p (jch n G hG),List.forall_mem_cons.2 ⟨qi2 n G hG,(fun _ h=>by cases h)⟩⟩
def j4d:q0b:=[]
theorem jhx:drB j4d (q00 Tryz.f48)=true:=by kernel_rfl
theorem jfc (n:Nat) : ∀a,(q3u n).F a=q83 Tryz.prog 24 (j23 n) (qxf n) j4d (q00 Tryz.f48) [.tmp 6,.tmp 7] (q3u n).args (q3u n).boxes (q3u n).rows (q3u n).res (q3u n).oboxes (q3u n).orows a:=by intro a;kernel_rfl
theorem je9 (n:Nat):qac Inv Tryz.prog (q3u n):=fun G hG=>⟨by kernel_rfl,fun a r h=>q1l (x:=q3u n) (c:=q00 Tryz.f48) Tryz.func48 (by kernel_rfl) (by kernel_rfl) (Nat.le_of_ble_eq_true (by kernel_rfl)) (by kernel_rfl) (rs:=[.tmp 6,.tmp 7]) (by kernel_rfl) (j6r n hG) (lts:=qxf n) (fun F hF hFG=>have hK:Know Inv F.G:=hFG ▸ hG;(q03 fun j L h1 h2 h3=>absurd h2 (Nat.not_lt.2 (Nat.le_trans (by decide +kernel) h1)))) jhx ((jfc n a).symm.trans h)⟩
def j2p (n:Nat):List LC:=[]
def q8z (n:Nat) (a1:Yy) (a2:Qq):Option (Yy×(Int)) :=
 (qbv n a1 a2).bind fun r1=>(bif !decide (r1=0) then some (([]:Yy),r1) else (qar n a2.2).bind fun r2=>(qzb n a1 a2.1 () a1 r2).bind fun r3=>some r3.1)
def qat (n:Nat):FC:={ f:=27,args:=[.one (.c (.d .str)),.one (.agg [.d .str,.d (.int .i64),.d (.int .i64),.d (.int .i64),.d .str,.d .str])],res:=.tup [.c (.d .str),.c (.d (.int .i64))],F:=fun p=>q8z n p.1 p.2 }
def j93 (n:Nat):List FC:=[q5a (q3u n) [(1000000,2),(1000001,7)] [],q6i n,q7n n]
theorem jcm (n:Nat) {G:World->Prop} (hG:Know Inv G) : ∀c∈j93 n,q14 Tryz.prog G c/\q0c c.args=true:=List.forall_mem_cons.2 ⟨q1p (je9 n G hG),List.forall_mem_cons.2 ⟨qxq n G hG,List.forall_mem_cons.2 ⟨qs3 n G hG,(fun _ h=>by cases h)⟩⟩⟩
def jbe:q0b:=[]
theorem jm2:drB jbe (q00 Tryz.f27)=true:=by kernel_rfl
theorem jnc (n:Nat) : ∀a,(qat n).F a=main Tryz.prog 24 (j93 n) (j2p n) jbe (q00 Tryz.f27) [.tmp 4,.tmp 5] (qat n).args (qat n).res a:=by intro a;kernel_rfl
theorem qzx (n:Nat):q0g Inv Tryz.prog (qat n):=fun G hG=>⟨⟨by kernel_rfl,fun a r h=>q04 (c:=q00 Tryz.f27) Tryz.func27 (by kernel_rfl) (by kernel_rfl) (Nat.le_of_ble_eq_true (by kernel_rfl)) hG.st (by kernel_rfl) (rs:=[.tmp 4,.tmp 5]) (by kernel_rfl) (jcm n hG) (lts:=j2p n) (fun F hF hFG=>have hK:Know Inv F.G:=hFG ▸ hG;(q03 fun j L h1 h2 h3=>absurd h2 (Nat.not_lt.2 (Nat.le_trans (by decide +kernel) h1)))) jm2 ((jnc n a).symm.trans h)⟩,rfl⟩
def j3y (n:Nat):List LC:=[]
def je7 (n:Nat) (a1:Yy) (a2:Qq):Option (Yy×(Int)) :=
 (qbv n a1 a2).bind fun r1=>(bif !decide (r1=0) then some (([]:Yy),r1) else (jcg n a1 a2.1).bind fun r2=>(bif r2 then some (([]:Yy),(11:Int)) else (qjc n a1 ([10]:Yy)).bind fun r3=>(bif !r3 then (q9w a1 ([10]:Yy)).bind fun s4=>(q9w s4 ([114,101,113,117,105,114,101]:Yy)).bind fun s5=>(q9w s5 ([32]:Yy)).bind fun s6=>(q9w s6 a2.1).bind fun s7=>(q9w s7 ([32]:Yy)).bind fun s8=>(qar n a2.2).bind fun r9=>(q9w s8 r9).bind fun s10=>(q9w s10 ([10]:Yy)).bind fun s11=>some (s11,(0:Int)) else (q9w a1 ([114,101,113,117,105,114,101]:Yy)).bind fun s12=>(q9w s12 ([32]:Yy)).bind fun s13=>(q9w s13 a2.1).bind fun s14=>(q9w s14 ([32]:Yy)).bind fun s15=>(qar n a2.2).bind fun r16=>(q9w s15 r16).bind fun s17=>(q9w s17 ([10]:Yy)).bind fun s18=>some (s18,(0:Int)))))
def qk4 (n:Nat):FC:={ f:=30,args:=[.one (.c (.d .str)),.one (.agg [.d .str,.d (.int .i64),.d (.int .i64),.d (.int .i64),.d .str,.d .str])],res:=.tup [.c (.d .str),.c (.d (.int .i64))],F:=fun p=>je7 n p.1 p.2 }
def j8e (n:Nat):List FC:=[q6i n,qeb n,q3w n,q7n n]
theorem jdd (n:Nat) {G:World->Prop} (hG:Know Inv G) : ∀c∈j8e n,q14 Tryz.prog G c/\q0c c.args=true:=List.forall_mem_cons.2 ⟨qxq n G hG,List.forall_mem_cons.2 ⟨jcs n G hG,List.forall_mem_cons.2 ⟨qw1 n G hG,List.forall_mem_cons.2 ⟨qs3 n G hG,(fun _ h=>by cases h)⟩⟩⟩⟩
def j8y:q0b:=[(8,[⟨442721857769029238785,2^66,0⟩,⟨49*2^66,2^69,1⟩,⟨49*2^69,2^72,3⟩,⟨226673591177742970258944,2^75,0⟩,⟨1851167661284900923769856,2^78,8⟩,⟨3137*2^72,2^81,31⟩,⟨49*2^81,2^84,63⟩,⟨928455029464035206174344704,2^87,0⟩,⟨7582382740622954183757136896,2^90,128⟩,⟨49*2^90,2^93,384⟩,⟨25089*2^84,2^96,1023⟩,⟨49*2^96,2^99,2047⟩,⟨633825300114114700748351627264,4096,4095⟩,⟨196608,32768,8191⟩]),(1000008,[])]
theorem jmh:drB j8y (q00 Tryz.f30)=true:=by kernel_rfl
theorem jkp (n:Nat) : ∀a,(qk4 n).F a=main Tryz.prog 34 (j8e n) (j3y n) j8y (q00 Tryz.f30) [.tmp 4,.tmp 5] (qk4 n).args (qk4 n).res a:=by intro a;kernel_rfl
theorem jmb (n:Nat):q0g Inv Tryz.prog (qk4 n):=fun G hG=>⟨⟨by kernel_rfl,fun a r h=>q04 (c:=q00 Tryz.f30) Tryz.func30 (by kernel_rfl) (by kernel_rfl) (Nat.le_of_ble_eq_true (by kernel_rfl)) hG.st (by kernel_rfl) (rs:=[.tmp 4,.tmp 5]) (by kernel_rfl) (jdd n hG) (lts:=j3y n) (fun F hF hFG=>have hK:Know Inv F.G:=hFG ▸ hG;(q03 fun j L h1 h2 h3=>absurd h2 (Nat.not_lt.2 (Nat.le_trans (by decide +kernel) h1)))) jmh ((jkp n a).symm.trans h)⟩,rfl⟩
def qo1 (n:Nat):List LC:=[]
def j2e (n:Nat) (a1:Int) (a2:Int) (a3:Unit) (b1:Yy):Option (Yy×(Yy×Unit)×Unit) :=
 (q20 b1 (0:Int) a1).bind fun s1=>(quh n s1 ([10]:Yy)).bind fun r2=>q0h (IntKind.wrap .i64 (r2+(1:Int))) fun n3=>(q20 b1 a2 (b1.length:Int)).bind fun s4=>(qs0 n s4 ([10]:Yy)).bind fun r5=>(q20 b1 (0:Int) n3).bind fun s6=>(q9w s6 r5.2.1).bind fun s7=>some (s7,((b1,()),()))
def q2q (n:Nat):FX:={ f:=53,args:=[.one (.c (.d (.int .i64))),.one (.c (.d (.int .i64))),.one (.c (.box 1000000 0))],boxes:=[(1000000,(9,[.d .str]))],rows:=[],res:=.one (.c (.d .str)),oboxes:=[(1000000,(9,[.d .str]))],orows:=[],F:=fun p=>j2e n p.1.1 p.1.2.1 p.1.2.2 p.2.1.1 }
def qsz (n:Nat):List FC:=[q6r n,qma n]
theorem qy4 (n:Nat) {G:World->Prop} (hG:Know Inv G) : ∀c∈qsz n,q14 Tryz.prog G c/\q0c c.args=true:=List.forall_mem_cons.2 ⟨j7w n G hG,List.forall_mem_cons.2 ⟨jac n G hG,(fun _ h=>by cases h)⟩⟩
def qw6:q0b:=[]
theorem j8f:drB qw6 (q00 Tryz.f53)=true:=by kernel_rfl
theorem jbi (n:Nat) : ∀a,(q2q n).F a=q83 Tryz.prog 28 (qsz n) (qo1 n) qw6 (q00 Tryz.f53) [.tmp 5] (q2q n).args (q2q n).boxes (q2q n).rows (q2q n).res (q2q n).oboxes (q2q n).orows a:=by intro a;kernel_rfl
theorem j6a (n:Nat):qac Inv Tryz.prog (q2q n):=fun G hG=>⟨by kernel_rfl,fun a r h=>q1l (x:=q2q n) (c:=q00 Tryz.f53) Tryz.func53 (by kernel_rfl) (by kernel_rfl) (Nat.le_of_ble_eq_true (by kernel_rfl)) (by kernel_rfl) (rs:=[.tmp 5]) (by kernel_rfl) (qy4 n hG) (lts:=qo1 n) (fun F hF hFG=>have hK:Know Inv F.G:=hFG ▸ hG;(q03 fun j L h1 h2 h3=>absurd h2 (Nat.not_lt.2 (Nat.le_trans (by decide +kernel) h1)))) j8f ((jbi n a).symm.trans h)⟩
def qt1 (n:Nat):List LC:=[]
def jdp (n:Nat) (a1:Yy) (a2:Yy) (a3:Unit) (b1:Yy):Option ((Yy×(Int))×(Yy×Unit)×Unit) :=
 (q9i n a1 a2).bind fun r1=>(bif !r1.2.2 then some ((([]:Yy),(5:Int)),((b1,()),())) else (j2e n r1.1 r1.2.1 () b1).bind fun r2=>some ((r2.1,(0:Int)),((r2.2.1.1,()),())))
def q3s (n:Nat):FX:={ f:=48,args:=[.one (.c (.d .str)),.one (.c (.d .str)),.one (.c (.fn 53 [1000000]))],boxes:=[(1000000,(9,[.d .str]))],rows:=[],res:=.tup [.c (.d .str),.c (.d (.int .i64))],oboxes:=[(1000000,(9,[.d .str]))],orows:=[],F:=fun p=>jdp n p.1.1 p.1.2.1 p.1.2.2 p.2.1.1 }
def j1s (n:Nat):List FC:=[q5a (q2q n) [(1000000,1000000)] [],q4t n]
theorem j7l (n:Nat) {G:World->Prop} (hG:Know Inv G) : ∀c∈j1s n,q14 Tryz.prog G c/\q0c c.args=true:=List.forall_mem_cons.2 ⟨q1p (j6a n G hG),List.forall_mem_cons.2 ⟨qi2 n G hG,(fun _ h=>by cases h)⟩⟩
def j47:q0b:=[]
theorem jgz:drB j47 (q00 Tryz.f48)=true:=by kernel_rfl
theorem jih (n:Nat) : ∀a,(q3s n).F a=q83 Tryz.prog 24 (j1s n) (qt1 n) j47 (q00 Tryz.f48) [.tmp 6,.tmp 7] (q3s n).args (q3s n).boxes (q3s n).rows (q3s n).res (q3s n).oboxes (q3s n).orows a:=by intro a;kernel_rfl
theorem j84 (n:Nat):qac Inv Tryz.prog (q3s n):=fun G hG=>⟨by kernel_rfl,fun a r h=>q1l (x:=q3s n) (c:=q00 Tryz.f48) Tryz.func48 (by kernel_rfl) (by kernel_rfl) (Nat.le_of_ble_eq_true (by kernel_rfl)) (by kernel_rfl) (rs:=[.tmp 6,.tmp 7]) (by kernel_rfl) (j7l n hG) (lts:=qt1 n) (fun F hF hFG=>have hK:Know Inv F.G:=hFG ▸ hG;(q03 fun j L h1 h2 h3=>absurd h2 (Nat.not_lt.2 (Nat.le_trans (by decide +kernel) h1)))) jgz ((jih n a).symm.trans h)⟩
def qv5 (n:Nat):List LC:=[]
def j9j (n:Nat) (a1:Yy) (a2:Yy):Option (Yy×(Int)) :=
 (q9q n a1).bind fun r1=>(bif !decide (r1.2.2=0) then some (([]:Yy),r1.2.2) else (jdp n a1 a2 () a1).bind fun r2=>some r2.1)
def qcd (n:Nat):FC:={ f:=31,args:=[.one (.c (.d .str)),.one (.c (.d .str))],res:=.tup [.c (.d .str),.c (.d (.int .i64))],F:=fun p=>j9j n p.1 p.2 }
def j4h (n:Nat):List FC:=[q5a (q3s n) [(1000000,2)] [],q4z n]
theorem j5w (n:Nat) {G:World->Prop} (hG:Know Inv G) : ∀c∈j4h n,q14 Tryz.prog G c/\q0c c.args=true:=List.forall_mem_cons.2 ⟨q1p (j84 n G hG),List.forall_mem_cons.2 ⟨qjg n G hG,(fun _ h=>by cases h)⟩⟩
def j2o:q0b:=[]
theorem jgd:drB j2o (q00 Tryz.f31)=true:=by kernel_rfl
theorem jhl (n:Nat) : ∀a,(qcd n).F a=main Tryz.prog 24 (j4h n) (qv5 n) j2o (q00 Tryz.f31) [.tmp 4,.tmp 5] (qcd n).args (qcd n).res a:=by intro a;kernel_rfl
theorem jif (n:Nat):q0g Inv Tryz.prog (qcd n):=fun G hG=>⟨⟨by kernel_rfl,fun a r h=>q04 (c:=q00 Tryz.f31) Tryz.func31 (by kernel_rfl) (by kernel_rfl) (Nat.le_of_ble_eq_true (by kernel_rfl)) hG.st (by kernel_rfl) (rs:=[.tmp 4,.tmp 5]) (by kernel_rfl) (j5w n hG) (lts:=qv5 n) (fun F hF hFG=>have hK:Know Inv F.G:=hFG ▸ hG;(q03 fun j L h1 h2 h3=>absurd h2 (Nat.not_lt.2 (Nat.le_trans (by decide +kernel) h1)))) jgd ((jhl n a).symm.trans h)⟩,rfl⟩
@[reducible] def qgd:SSt:=⟨[(0,.one (.c (.d .str))),(10,.one (.c (.d (.int .i64)))),(24,.one (.c (.d (.lst (.prod .str Tv))))),(25,.one (.c (.d (.int .i64)))),(26,.one (.c (.d (.int .i64))))],[],[]⟩
@[reducible] def q9x:List (Exit×SSt):=[(.ret,⟨[(4,.one (.c (.d .str))),(5,.one (.c (.d (.int .i64)))),(6,.one (.c (.d (.int .i64))))],[],[]⟩),(.exit 0,⟨[(0,.one (.c (.d .str))),(10,.one (.c (.d (.int .i64))))],[],[]⟩)]
def jmz (n:Nat) (rec:(Yy)->Int->LQ->Int->Int->Option Zp) (a1:Yy) (a2:Int) (a3:List (Qq)) (a4:Int) (a5:Int):Option Zp :=
 (bif decide (a5<a4) then (q2g a3 a5).bind fun x2=>(jcg n a1 x2.1).bind fun r3=>(bif !r3 then q0h (IntKind.wrap .i64 (a5+1)) fun n4=>rec a1 a2 a3 a4 n4 else (q8z n a1 x2).bind fun r5=>(bif !decide (r5.2=0) then some (Sum.inl ((([]:Yy),((0:Int),(r5.2,()))),((),()))) else q0h (IntKind.wrap .i64 (a2+1)) fun n6=>q0h (IntKind.wrap .i64 (a5+1)) fun n7=>rec r5.1 n6 a3 a4 n7)) else some (Sum.inr (((a1,(a2,())),((),())))))
def qzt (n:Nat) (rec:pSt qgd->Option (q1e q9x)) (p:pSt qgd):Option (q1e q9x):=jmz n (fun a1 a2 a3 a4 a5=>rec ((a1,(a2,(a3,(a4,(a5,()))))),((),()))) p.1.1 p.1.2.1 p.1.2.2.1 p.1.2.2.2.1 p.1.2.2.2.2.1
def j5p (n m:Nat) (a1:Yy) (a2:Int) (a3:List (Qq)) (a4:Int) (a5:Int):Option Zp:=q1n (qzt n) m ((a1,(a2,(a3,(a4,(a5,()))))),((),()))
def j9v (n:Nat):LC:={ sh:=qgd,outs:=q9x,F:=q1n (qzt n) n }
def qq5 (n:Nat):List LC:=[j9v n]
def jji (n:Nat) (a1:Yy) (a2:List (Qq)):Option (Yy×(Int×(Int))) :=
 (q9q n a1).bind fun r1=>(bif !decide (r1.2.2=0) then some (([]:Yy),((0:Int),r1.2.2)) else (j5p n n a1 (0:Int) a2 (a2.length:Int) (0:Int)).bind fun o8=>Sum.elim (fun (q9:(Yy×(Int×(Int×Unit)))×Unit×Unit)=>some (q9.1.1,(q9.1.2.1,q9.1.2.2.1))) (fun (q10:(Yy×(Int×Unit))×Unit×Unit)=>some (q10.1.1,(q10.1.2.1,(0:Int)))) o8)
def qhz (n:Nat):FC:={ f:=32,args:=[.one (.c (.d .str)),.one (.c (.d (.lst (.prod .str Tv))))],res:=.tup [.c (.d .str),.c (.d (.int .i64)),.c (.d (.int .i64))],F:=fun p=>jji n p.1 p.2 }
def j0i (n:Nat):List FC:=[q4z n,qeb n,qat n]
theorem qt4 (n:Nat) {G:World->Prop} (hG:Know Inv G) : ∀c∈j0i n,q14 Tryz.prog G c/\q0c c.args=true:=List.forall_mem_cons.2 ⟨qjg n G hG,List.forall_mem_cons.2 ⟨jcs n G hG,List.forall_mem_cons.2 ⟨qzx n G hG,(fun _ h=>by cases h)⟩⟩⟩
def j0f:q0b:=[]
theorem ja2:drB j0f (q00 Tryz.f32)=true:=by kernel_rfl
theorem jim (n:Nat) : ∀rec p,qzt n rec p=round Tryz.prog 50 (j0i n) (qq5 n) j0f 1 qgd q9x (q05 0 0 (q00 Tryz.f32)) rec p:=by intro rec p;kernel_rfl
theorem jeo (n:Nat) {F:Fr} (hF:F.n=50) (hK:Know Inv F.G):qne Tryz.prog F (j9v n) (q05 0 0 (q00 Tryz.f32)) :=
 q1w hF (by kernel_rfl) (qt4 n hK) (jim n) (fuel:=n) (fun _=>rfl) (q03 fun j L h1 h2 h3=>absurd h2 (Nat.not_lt.2 (Nat.le_trans (by decide +kernel) h1))) (q3i ja2)
theorem jkd (n:Nat) : ∀a,(qhz n).F a=main Tryz.prog 50 (j0i n) (qq5 n) j0f (q00 Tryz.f32) [.tmp 4,.tmp 5,.tmp 6] (qhz n).args (qhz n).res a:=by intro a;kernel_rfl
theorem jma (n:Nat):q0g Inv Tryz.prog (qhz n):=fun G hG=>⟨⟨by kernel_rfl,fun a r h=>q04 (c:=q00 Tryz.f32) Tryz.func32 (by kernel_rfl) (by kernel_rfl) (Nat.le_of_ble_eq_true (by kernel_rfl)) hG.st (by kernel_rfl) (rs:=[.tmp 4,.tmp 5,.tmp 6]) (by kernel_rfl) (qt4 n hG) (lts:=qq5 n) (fun F hF hFG=>have hK:Know Inv F.G:=hFG ▸ hG;(q03 (c:=(q00 Tryz.f32)) (fun j L h1 h2 h3=>by
  have h2':j<1:=Nat.lt_of_lt_of_le h2 (by decide +kernel)
  match j,h1,h2',h3 with
  | 0,_,_,h3=>obtain rfl:=Option.some.inj h3;exact (show q05 0 0 (q00 Tryz.f32)=q05 0 0 (q00 Tryz.f32) by kernel_rfl) ▸ jeo n hF hK
  | j+1,_,h2',_=>exact absurd h2' (by omega)))) ja2 ((jkd n a).symm.trans h)⟩,rfl⟩
end Go.Proofs.YtapfankgdkdkgaaGreatDoor.AM
