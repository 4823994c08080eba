
import Derived.Test.YtlmjgghohipipaaGreatDoorLc18
import Derived.Test.YtlmjgghohipipaaGreatDoorLc19
namespace Go.Proofs.YtlmjgghohipipaaGreatDoor.AM
open Go.RowKit
set_option linter.unusedVariables false
set_option maxRecDepth 20000
def qgo (n:Nat):List LC:=[]
def q22 (n:Nat)  : Option (Bool) :=
 (q47 n ([(([101,120,47,97]:List UInt8),((0:Int),((1:Int),((0:Int),(([]:List UInt8),(([]:List UInt8),([104,49,58,52,55,68,69,81,112,106,56,72,66,83,97,43,47,84,73,109,87,43,53,74,67,101,117,81,101,82,107,109,53,78,77,112,74,87,90,71,51,104,83,117,70,85,61]:List UInt8))))))),(([101,120,47,97]:List UInt8),((0:Int),((2:Int),((0:Int),(([]:List UInt8),(([]:List UInt8),([104,49,58,52,55,68,69,81,112,106,56,72,66,83,97,43,47,84,73,109,87,43,53,74,67,101,117,81,101,82,107,109,53,78,77,112,74,87,90,71,51,104,83,117,70,85,61]:List UInt8)))))))]:List (List UInt8×((Int)×((Int)×((Int)×(List UInt8×(List UInt8×(List UInt8))))))))).bind fun (r1:(List UInt8)×(Int))=>(q5j n r1.1).bind fun (r2:(List (List UInt8×((Int)×((Int)×((Int)×(List UInt8×(List UInt8×(List UInt8))))))))×(Int×(Int)))=>(q47 n ([(([101,120,47,97]:List UInt8),((0:Int),((2:Int),((0:Int),(([]:List UInt8),(([]:List UInt8),([104,49,58,52,55,68,69,81,112,106,56,72,66,83,97,43,47,84,73,109,87,43,53,74,67,101,117,81,101,82,107,109,53,78,77,112,74,87,90,71,51,104,83,117,70,85,61]:List UInt8))))))),(([101,120,47,97]:List UInt8),((0:Int),((1:Int),((0:Int),(([]:List UInt8),(([]:List UInt8),([104,49,58,52,55,68,69,81,112,106,56,72,66,83,97,43,47,84,73,109,87,43,53,74,67,101,117,81,101,82,107,109,53,78,77,112,74,87,90,71,51,104,83,117,70,85,61]:List UInt8)))))))]:List (List UInt8×((Int)×((Int)×((Int)×(List UInt8×(List UInt8×(List UInt8))))))))).bind fun (r3:(List UInt8)×(Int))=>(q5j n ([101,120,47,97,32,118,48,46,49,46,48,32,104,49,58,52,55,68,69,81,112,106,56,72,66,83,97,43,47,84,73,109,87,43,53,74,67,101,117,81,101,82,107,109,53,78,77,112,74,87,90,71,51,104,83,117,70,85,61,10,101,120,47,97,32,32,118,48,46,50,46,48,32,104,49,58,52,55,68,69,81,112,106,56,72,66,83,97,43,47,84,73,109,87,43,53,74,67,101,117,81,101,82,107,109,53,78,77,112,74,87,90,71,51,104,83,117,70,85,61,10]:List UInt8)).bind fun (r4:(List (List UInt8×((Int)×((Int)×((Int)×(List UInt8×(List UInt8×(List UInt8))))))))×(Int×(Int)))=>(j2t n r2.1 (([101,120,47,98,47,118,50]:List UInt8),((2:Int),((0:Int),((0:Int),(([]:List UInt8),(([]:List UInt8),([104,49,58,52,55,68,69,81,112,106,56,72,66,83,97,43,47,84,73,109,87,43,53,74,67,101,117,81,101,82,107,109,53,78,77,112,74,87,90,71,51,104,83,117,70,85,61]:List UInt8)))))))).bind fun (r5:(List (List UInt8×((Int)×((Int)×((Int)×(List UInt8×(List UInt8×(List UInt8))))))))×(Int))=>(j2t n r2.1 (([101,120,47,98]:List UInt8),((2:Int),((0:Int),((0:Int),(([]:List UInt8),(([]:List UInt8),([104,49,58,52,55,68,69,81,112,106,56,72,66,83,97,43,47,84,73,109,87,43,53,74,67,101,117,81,101,82,107,109,53,78,77,112,74,87,90,71,51,104,83,117,70,85,61]:List UInt8)))))))).bind fun (r6:(List (List UInt8×((Int)×((Int)×((Int)×(List UInt8×(List UInt8×(List UInt8))))))))×(Int))=>(qf2 n r2.1 ([101,120,47,97]:List UInt8)).bind fun (r7:((List UInt8)×(Int×(Int×(Int×((List UInt8)×((List UInt8)×(List UInt8)))))))×(Bool))=>(qf2 n r2.1 ([101,120,47,98]:List UInt8)).bind fun (r8:((List UInt8)×(Int×(Int×(Int×((List UInt8)×((List UInt8)×(List UInt8)))))))×(Bool))=>(bif decide (r1.2=(0:Int)) then (bif decide (r1.1=([101,120,47,97,32,118,48,46,49,46,48,32,104,49,58,52,55,68,69,81,112,106,56,72,66,83,97,43,47,84,73,109,87,43,53,74,67,101,117,81,101,82,107,109,53,78,77,112,74,87,90,71,51,104,83,117,70,85,61,10,101,120,47,97,32,118,48,46,50,46,48,32,104,49,58,52,55,68,69,81,112,106,56,72,66,83,97,43,47,84,73,109,87,43,53,74,67,101,117,81,101,82,107,109,53,78,77,112,74,87,90,71,51,104,83,117,70,85,61,10]:List UInt8)) then (bif decide (((List.length r2.1:Nat):Int)=(2:Int)) then (bif decide (r2.2.1=(2:Int)) then (bif decide (r2.2.2=(0:Int)) then (bif decide (r3.2=(13:Int)) then (bif decide (r4.2.1=(1:Int)) then (bif decide (r4.2.2=(10:Int)) then (bif decide (((List.length r5.1:Nat):Int)=(3:Int)) then (bif decide (r5.2=(0:Int)) then (bif decide (r6.2=(8:Int)) then (bif (decide (r7.1.1=([101,120,47,97]:List UInt8))&&((decide (r7.1.2.1=(0:Int))&&(decide (r7.1.2.2.1=(2:Int))&&(decide (r7.1.2.2.2.1=(0:Int))&&(decide (r7.1.2.2.2.2.1=([]:List UInt8))&&(decide (r7.1.2.2.2.2.2.1=([]:List UInt8))&&true)))))&&(decide (r7.1.2.2.2.2.2.2=([104,49,58,52,55,68,69,81,112,106,56,72,66,83,97,43,47,84,73,109,87,43,53,74,67,101,117,81,101,82,107,109,53,78,77,112,74,87,90,71,51,104,83,117,70,85,61]:List UInt8))&&true))) then (bif r7.2 then some (!r8.2) else some false) else some false) else some false) else some false) else some false) else some false) else some false) else some false) else some false) else some false) else some false) else some false) else some false)
def q4k (n:Nat):FC:={ f:=9,args:=[],res:=.one (.c (.d .bool)),F:=fun p=>q22 n  }
def qj6 (n:Nat):List FC:=[q7g n,q4h n,qhf n,q4m n]
theorem qne (n:Nat) {G:World->Prop} (hG:Know Inv G) : ∀c∈qj6 n,q1b Tryz.prog G c/\q0i c.args=true:=List.forall_mem_cons.2 ⟨qun n G hG,List.forall_mem_cons.2 ⟨qok n G hG,List.forall_mem_cons.2 ⟨j9s n G hG,List.forall_mem_cons.2 ⟨qxm n G hG,(fun _ h=>by cases h)⟩⟩⟩⟩
def qjw:q0f:=[]
theorem qzf:drB qjw (q00 Tryz.f9)=true:=by kernel_rfl
theorem qyk (n:Nat) : ∀a,(q4k n).F a=main Tryz.prog 130 (qj6 n) (qgo n) qjw (q00 Tryz.f9) [.tmp 0] (q4k n).args (q4k n).res a:=by intro a;kernel_rfl
theorem qxx (n:Nat):q0d Inv Tryz.prog (q4k n):=fun G hG=>⟨⟨by kernel_rfl,fun a r h=>q06 (c:=q00 Tryz.f9) Tryz.func9 (by kernel_rfl) (by kernel_rfl) (Nat.le_of_ble_eq_true (by kernel_rfl)) hG.st (by kernel_rfl) (rs:=[.tmp 0]) (by kernel_rfl) (qne n hG) (lts:=qgo n) (fun F hF hFG=>have hK:Know Inv F.G:=hFG ▸ hG;(q07 fun j L h1 h2 h3=>absurd h2 (Nat.not_lt.2 (Nat.le_trans (by decide +kernel) h1)))) qzf ((qyk n a).symm.trans h)⟩,rfl⟩
def qid (n:Nat):List LC:=[]
def qaa (n:Nat) (a1:List (List UInt8×((Int)×((Int)×((Int)×(List UInt8×(List UInt8×(List UInt8)))))))) (a2:Int):Option (Bool) :=
 (q47 n a1).bind fun (r1:(List UInt8)×(Int))=>(qdp n a1).bind fun (r2:Bool)=>(bif !r2 then (q22 n).bind fun (r3:Bool)=>some r3 else (bif !decide (r1.2=(0:Int)) then (q22 n).bind fun (r4:Bool)=>some r4 else (bif decide (a2<(0:Int)) then (q22 n).bind fun (r5:Bool)=>some r5 else (bif decide (((List.length a1:Nat):Int)<a2) then (q22 n).bind fun (r6:Bool)=>some r6 else (q5y a1 (0:Int) a2).bind fun (s7:List (List UInt8×((Int)×((Int)×((Int)×(List UInt8×(List UInt8×(List UInt8))))))))=>(q47 n s7).bind fun (r8:(List UInt8)×(Int))=>(bif !decide (r8.2=(0:Int)) then some false else (bif decide (((List.length r1.1:Nat):Int)<((List.length r8.1:Nat):Int)) then some false else (q5y r1.1 (0:Int) ((List.length r8.1:Nat):Int)).bind fun (s9:List UInt8)=>(bif !decide (s9=r8.1) then some false else (q5y r1.1 (0:Int) ((List.length r8.1:Nat):Int)).bind fun (s10:List UInt8)=>(q5j n s10).bind fun (r11:(List (List UInt8×((Int)×((Int)×((Int)×(List UInt8×(List UInt8×(List UInt8))))))))×(Int×(Int)))=>(q5y r1.1 ((List.length r8.1:Nat):Int) ((List.length r1.1:Nat):Int)).bind fun (s12:List UInt8)=>(q5j n s12).bind fun (r13:(List (List UInt8×((Int)×((Int)×((Int)×(List UInt8×(List UInt8×(List UInt8))))))))×(Int×(Int)))=>(bif decide (r11.2.2=(0:Int)) then (bif decide (r11.2.1=a2) then (q5y a1 (0:Int) a2).bind fun (s14:List (List UInt8×((Int)×((Int)×((Int)×(List UInt8×(List UInt8×(List UInt8))))))))=>(q6h n r11.1 s14).bind fun (r15:Bool)=>(bif r15 then q2f (IntKind.wrap .i64 (((List.length a1:Nat):Int) - a2)) fun (n16:Int)=>(bif decide (r13.2.1=n16) then (q5y a1 a2 ((List.length a1:Nat):Int)).bind fun (s17:List (List UInt8×((Int)×((Int)×((Int)×(List UInt8×(List UInt8×(List UInt8))))))))=>(q6h n r13.1 s17).bind fun (r18:Bool)=>(bif r18 then (q22 n).bind fun (r19:Bool)=>some r19 else some false) else some false) else some false) else some false) else some false))))))))
def q8v (n:Nat):FC:={ f:=7,args:=[.one (.c (.d (.lst (.prod .str (.prod (.int .i64) (.prod (.int .i64) (.prod (.int .i64) (.prod .str (.prod .str .str))))))))),.one (.c (.d (.int .i64)))],res:=.one (.c (.d .bool)),F:=fun p=>qaa n p.1 p.2 }
def qqg (n:Nat):List FC:=[q7g n,q6v n,q4k n,q4h n,q4r n]
theorem qtd (n:Nat) {G:World->Prop} (hG:Know Inv G) : ∀c∈qqg n,q1b Tryz.prog G c/\q0i c.args=true:=List.forall_mem_cons.2 ⟨qun n G hG,List.forall_mem_cons.2 ⟨j1i n G hG,List.forall_mem_cons.2 ⟨qxx n G hG,List.forall_mem_cons.2 ⟨qok n G hG,List.forall_mem_cons.2 ⟨qxy n G hG,(fun _ h=>by cases h)⟩⟩⟩⟩⟩
def qnp:q0f:=[]
theorem qzv:drB qnp (q00 Tryz.f7)=true:=by kernel_rfl
theorem j2m (n:Nat) : ∀a,(q8v n).F a=main Tryz.prog 112 (qqg n) (qid n) qnp (q00 Tryz.f7) [.tmp 4] (q8v n).args (q8v n).res a:=by intro a;kernel_rfl
theorem j0e (n:Nat):q0d Inv Tryz.prog (q8v n):=fun G hG=>⟨⟨by kernel_rfl,fun a r h=>q06 (c:=q00 Tryz.f7) Tryz.func7 (by kernel_rfl) (by kernel_rfl) (Nat.le_of_ble_eq_true (by kernel_rfl)) hG.st (by kernel_rfl) (rs:=[.tmp 4]) (by kernel_rfl) (qtd n hG) (lts:=qid n) (fun F hF hFG=>have hK:Know Inv F.G:=hFG ▸ hG;(q07 fun j L h1 h2 h3=>absurd h2 (Nat.not_lt.2 (Nat.le_trans (by decide +kernel) h1)))) qzv ((j2m n a).symm.trans h)⟩,rfl⟩
end Go.Proofs.YtlmjgghohipipaaGreatDoor.AM
namespace Go.Proofs.YtlmjgghohipipaaGreatDoor.AM
open Go.RowKit
set_option linter.unusedVariables false
set_option linter.unusedSimpArgs false
theorem jc4 {l:List TgD} (h:fewS l=true):l.length<=60/\∀t∈l,few t:=by
 unfold fewS at h
 obtain ⟨h1,h2⟩:=Bool.and_eq_true_iff.1 h
 refine ⟨of_decide_eq_true h2,fun t ht=>?_⟩
 have h3:=List.all_eq_true.1 h1 t ht
 unfold fewT at h3
 obtain ⟨h4,h5⟩:=Bool.and_eq_true_iff.1 h3
 obtain ⟨h6,h7⟩:=Bool.and_eq_true_iff.1 h5
 have h4':=of_decide_eq_true h4
 have h6':=of_decide_eq_true h6
 exact ⟨by omega,by show t.2.2.2.2.2.2.length<=5000;omega⟩
theorem Good.inv {l:List TgD} {t:TgD} (h:Good (l ++ [t])):Good l/\q0a l t=0:=by
 generalize hx:l ++ [t]=x at h
 cases h with
 | nil=>simp at hx
 | @snoc l' t' h1 h2 =>
  obtain ⟨e1,e2⟩:=List.append_inj' hx rfl
  subst e1
  obtain rfl:=List.singleton_inj.1 e2
  exact ⟨h1,h2⟩
theorem qp0 : ∀(l d:List TgD),Good d->(q3z d l).2=0->Good (d++l)/\(q3z d l).1=((d++l).map q2p).flatten
 | [],d,hd,h=>by rw [List.append_nil];exact ⟨hd,rfl⟩
 | t::l,d,hd,h=>by
  have e:q3z d (t::l)=if q0a d t=0 then q3z (d ++ [t]) l else ([],q0a d t):=rfl
  rw [e] at h ⊢
  by_cases hw:q0a d t=0
  ·rw [if_pos hw] at h ⊢
   have:=qp0 l (d ++ [t]) (.snoc hd hw) h
   rw [List.append_assoc] at this
   exact this
  ·rw [if_neg hw] at h;exact absurd h hw
theorem qvc : ∀(k:Nat) {a m:List TgD},m.length=k->Good (a++m)->Good a
 | 0,a,m,hm,h=>by
  have:m = []:=List.eq_nil_of_length_eq_zero hm
  rw [this,List.append_nil] at h;exact h
 | k+1,a,m,hm,h=>by
  rcases List.eq_nil_or_concat m with rfl|⟨m',x,rfl⟩
  ·simp at hm
  ·rw [List.concat_eq_append,<-List.append_assoc] at h
   rw [List.concat_eq_append,List.length_append] at hm
   exact qvc k (by simpa using hm) h.inv.1
theorem qmr {a m:List TgD} (h:Good (a++m)):Good a:=qvc m.length rfl h
theorem qf5 : ∀(l d:List TgD),Good (d++l)->q3z d l=(((d++l).map q2p).flatten,0)
 | [],d,hd=>by rw [List.append_nil];rfl
 | t::l,d,hd=>by
  have e:q3z d (t::l)=if q0a d t=0 then q3z (d ++ [t]) l else ([],q0a d t):=rfl
  have h2:d++t::l=(d ++ [t])++l:=by simp
  have hw:q0a d t=0:=(qmr (m:=l) (by rw [h2] at hd;exact hd)).inv.2
  rw [e,if_pos hw,h2]
  exact qf5 l (d ++ [t]) (by rw [<-h2];exact hd)
def step (p:List UInt8) (b:Option TgD) (t:TgD):Option TgD:=if t.1=p then (match b with
   | none=>some t
   | some m=>if 0<qd6 (tV t) (tV m) then some t else b) else b
end Go.Proofs.YtlmjgghohipipaaGreatDoor.AM
namespace Go.Proofs.YtlmjgghohipipaaGreatDoor.AM
open Go.RowKit
set_option linter.unusedVariables false
set_option linter.unusedSimpArgs false
end Go.Proofs.YtlmjgghohipipaaGreatDoor.AM
namespace Go.Proofs.YtlmjgghohipipaaGreatDoor.AM
open Go.RowKit
set_option linter.unusedVariables false
set_option linter.unusedSimpArgs false
def gap (c:UInt8):Prop:=c=10\/c=32
theorem jbu {c:UInt8} (h:gap c):qrb c=false:=by rcases h with rfl|rfl<;>decide
theorem j9e {c:UInt8} (h:gap c):q23 c=false:=by rcases h with rfl|rfl<;>decide
theorem jdx {c:UInt8} (h:gap c):qmf c=false:=by rcases h with rfl|rfl<;>decide
theorem j7b (w:List UInt8) (h:qe9 w=true):w.all qmf=true:=by
 unfold qe9 at h
 simp only [Bool.and_eq_true] at h
 exact h.2.2.2
theorem j2p {p:List UInt8} (h:okS p=true) {c:UInt8} (hc:gap c):c ∉ p:=by
 intro hm
 unfold okS q9w at h
 have h1:=(Bool.and_eq_true_iff.1 (Bool.and_eq_true_iff.1 h).1).2
 have h2:=((qmv 47 qmf p []).1 (List.all_eq_true.2 fun w hw=>j7b w (List.all_eq_true.1 h1 w hw))).2 c hm
 rcases h2 with h2|h2
 ·subst h2;rcases hc with hc|hc<;>exact absurd hc (by decide)
 ·rw [jdx hc] at h2;cases h2
theorem ok_ne {p:List UInt8} (h:okS p=true):p ≠ []:=fun h0=>by subst h0;exact absurd h (by decide)
theorem j03 : ∀(s:List UInt8) (c:UInt8),c∈Bs.q4n s->c=61 \/ ∃ k,k<64/\c=Bs.sg k
 | a::b::d::r,c,h=>by
  have ha:=UInt8.toNat_lt a;have hb:=UInt8.toNat_lt b;have hd:=UInt8.toNat_lt d
  unfold Bs.q4n at h
  simp only [List.mem_cons] at h
  rcases h with h|h|h|h|h
  ·exact Or.inr ⟨_,by omega,h⟩
  ·exact Or.inr ⟨_,by omega,h⟩
  ·exact Or.inr ⟨_,by omega,h⟩
  ·exact Or.inr ⟨_,by omega,h⟩
  ·exact j03 r c h
 | [a,b],c,h=>by
  have ha:=UInt8.toNat_lt a;have hb:=UInt8.toNat_lt b
  unfold Bs.q4n at h
  simp only [List.mem_cons,List.not_mem_nil,or_false] at h
  rcases h with h|h|h|h
  ·exact Or.inr ⟨_,by omega,h⟩
  ·exact Or.inr ⟨_,by omega,h⟩
  ·exact Or.inr ⟨_,by omega,h⟩
  ·exact Or.inl h
 | [a],c,h=>by
  have ha:=UInt8.toNat_lt a
  unfold Bs.q4n at h
  simp only [List.mem_cons,List.not_mem_nil,or_false] at h
  rcases h with h|h|h|h
  ·exact Or.inr ⟨_,by omega,h⟩
  ·exact Or.inr ⟨_,by omega,h⟩
  ·exact Or.inl h
  ·exact Or.inl h
 | [],c,h=>by cases h
theorem jci : ∀k:Fin 64,Bs.sg k.val≠10/\Bs.sg k.val≠32:=by decide +kernel
theorem jdw (s:List UInt8) {c:UInt8} (hc:gap c):c ∉ Bs.q4n s:=fun h=>by
 rcases j03 s c h with h1|⟨k,hk,h1⟩
 ·subst h1;rcases hc with hc|hc<;>exact absurd hc (by decide)
 ·have:=jci ⟨k,hk⟩
  rcases hc with hc|hc
  ·exact this.1 (h1.symm.trans hc)
  ·exact this.2 (h1.symm.trans hc)
theorem j2l {h:List UInt8} (hh:q21 h=true) {c:UInt8} (hc:gap c):c ∉ h:=by
 intro hm
 unfold q21 at hh
 obtain ⟨h1,h2⟩:=Bool.and_eq_true_iff.1 hh
 obtain ⟨h3,h4⟩:=Bool.and_eq_true_iff.1 h2
 obtain ⟨r,hr⟩:=of_decide_eq_true h1
 have hd:h.drop 3=r:=by rw [<-hr];rfl
 have he:Bs.q4n (Bs.q6j (h.drop 3)).1=h.drop 3:=Bs.j05 (by rw [<-h3])
 rw [<-hr] at hm
 rcases List.mem_append.1 hm with hm|hm
 ·unfold h1L at hm
  rcases hc with rfl|rfl<;>revert hm<;>decide
 ·rw [<-hd,<-he] at hm
  exact jdw _ hc hm
theorem hash_ne {h:List UInt8} (hh:q21 h=true):h ≠ []:=fun h0=>by subst h0;exact absurd hh (by decide)
theorem qvh {d:UInt8} {s:List UInt8} {c:UInt8} (hc:gap c) (hd : ¬ gap d) (h : ∀b∈s,b=46\/qrb b=true):c ∉ q3m d s:=by
 unfold q3m
 split
 ·exact List.not_mem_nil
 ·intro hm
  rcases List.mem_cons.1 hm with hm|hm
  ·exact hd (hm ▸ hc)
  ·rcases h _ hm with h2|h2
   ·subst h2;rcases hc with hc|hc<;>exact absurd hc (by decide)
   ·rw [jbu hc] at h2;cases h2
theorem qzt {v:VD} (h:q0n v=true) {c:UInt8} (hc:gap c):c ∉ q5b v:=by
 obtain ⟨h1,h2,h3,h4,h5⟩:=q1p h
 have g45 : ¬ gap 45:=fun h=>by rcases h with h|h<;>exact absurd h (by decide)
 have g43 : ¬ gap 43:=fun h=>by rcases h with h|h<;>exact absurd h (by decide)
 have n118:c≠118:=fun h=>by subst h;rcases hc with hc|hc<;>exact absurd hc (by decide)
 have n46:c≠46:=fun h=>by subst h;rcases hc with hc|hc<;>exact absurd hc (by decide)
 have t1:=qvh (d:=45) hc g45 (qm7 qqe h4)
 have t2:=qvh (d:=43) hc g43 (qm7 qij h5)
 have d:=fun n=>qlm (j9e hc) n
 unfold q5b
 rw [if_pos h]
 unfold j7v
 rw [q1g h1.1,q1g h2.1,q1g h3.1]
 simp [n118,n46,d,t1,t2]
def qcq (t:TgD):List UInt8:=t.1++32::(q5b (tV t)++32::tH t)
theorem j7r (t:TgD):q2p t=qcq t ++ [10]:=by unfold q2p qcq;simp
theorem qxi {t:TgD} (h:q16 t=0):(10:UInt8) ∉ qcq t:=by
 obtain ⟨h1,h2,_,h4⟩:=q1v h
 have g:gap 10:=Or.inl rfl
 unfold qcq
 simp [j2p h1 g,qzt h2 g,j2l h4 g]
theorem qys {t:TgD} (h:q16 t=0):qyl t.1 (q5b (tV t)) (tH t)=some t:=by
 obtain ⟨h1,h2,_,h4⟩:=q1v h
 have hp:=j73 h2 rfl
 rw [qpt ⟨by rw [hp],ok_ne h1,hash_ne h4⟩,hp]
 rfl
theorem qxd {t:TgD} (h:q16 t=0):qi7 (qcq t)=some t:=by
 obtain ⟨h1,h2,_,h4⟩:=q1v h
 have g:gap 32:=Or.inr rfl
 unfold qi7 qcq
 rw [qm1 32 _ _ (j2p h1 g),qm1 32 _ _ (qzt h2 g),qov 32 _ (j2l h4 g)]
 exact qys h
def F10 (l:List (List UInt8)):List UInt8:=(l.map (· ++ [10])).flatten
theorem qd9 (x:List UInt8) (l:List (List UInt8)):F10 (x::l)=x++10::F10 l:=by unfold F10;simp
theorem jcr (x:List UInt8) (l:List (List UInt8)):F10 (x::l) ≠ []:=by rw [qd9];simp
theorem qx3 : ∀(x:List UInt8) (l:List (List UInt8)),F10 (x::l)=(F10 (x::l)).dropLast ++ [10]/\((∀y∈x::l,(10:UInt8) ∉ y)->spl 10 [] (F10 (x::l)).dropLast=x::l)
 | x,[]=>by
  have e:F10 [x]=x ++ [10]:=by rw [qd9];rfl
  rw [e,List.dropLast_concat]
  exact ⟨rfl,fun h=>qov 10 x (h x (by simp))⟩
 | x,y::l=>by
  obtain ⟨h1,h2⟩:=qx3 y l
  have e:(F10 (x::y::l)).dropLast=x++10::(F10 (y::l)).dropLast:=by
   rw [qd9 x,h1,show x++10::((F10 (y::l)).dropLast ++ [10])=(x++10::(F10 (y::l)).dropLast) ++ [10] by simp,List.dropLast_concat]
   rw [<-h1]
  rw [e]
  refine ⟨?_,fun h=>?_⟩
  ·rw [qd9 x]
   rw [List.append_assoc,List.cons_append,<-h1]
  ·rw [qm1 10 x _ (h x (by simp)),h2 (fun z hz=>h z (by simp [List.mem_cons] at hz ⊢;exact Or.inr hz))]
theorem qsv {l:List (List UInt8)} (h : ∀y∈l,(10:UInt8) ∉ y):q2h (F10 l)=l:=by
 cases l with
 | nil=>rfl
 | cons x l =>
  obtain ⟨h1,h2⟩:=qx3 x l
  unfold q2h
  rw [if_neg (jcr x l)]
  have he:qkn (F10 (x::l))=true:=by unfold qkn;rw [h1];simp
  rw [if_pos he,h2 h]
theorem j7a (l:List TgD):(l.map q2p).flatten=F10 (l.map qcq):=by
 unfold F10
 rw [List.map_map]
 congr 1
 exact List.map_congr_left fun t _=>j7r t
theorem qkb {l:List TgD} (h : ∀t∈l,q16 t=0):q2h (l.map q2p).flatten=l.map qcq:=by
 rw [j7a]
 refine qsv fun y hy=>?_
 obtain ⟨t,ht,rfl⟩:=List.mem_map.1 hy
 exact qxi (h t ht)
theorem qjx : ∀(l d:List TgD),Good (d++l)->q2y d (l.map qcq)=(d++l,((((d++l).length:Nat):Int),0))
 | [],d,_=>by rw [List.append_nil];rfl
 | t::l,d,h=>by
  have h2:d++t::l=(d ++ [t])++l:=by simp
  have hw:q0a d t=0:=(qmr (m:=l) (by rw [h2] at h;exact h)).inv.2
  have hj:=(q6x hw).1
  show (match qi7 (qcq t) with
    | none=>([],((d.length:Int),10))
    | some t=>if q0a d t=0 then q2y (d ++ [t]) (l.map qcq) else ([],((d.length:Int),q0a d t)))=_
  rw [qxd hj]
  show (if q0a d t=0 then q2y (d ++ [t]) (l.map qcq) else ([],((d.length:Int),q0a d t)))=_
  rw [if_pos hw,h2]
  exact qjx l (d ++ [t]) (by rw [<-h2];exact h)
theorem qik {l:List TgD} (h:Good l):q2y [] (q2h (l.map q2p).flatten)=(l,(((l.length:Nat):Int),0)):=by
 rw [qkb h.judge]
 exact qjx l [] (by rw [List.nil_append];exact h)
end Go.Proofs.YtlmjgghohipipaaGreatDoor.AM
