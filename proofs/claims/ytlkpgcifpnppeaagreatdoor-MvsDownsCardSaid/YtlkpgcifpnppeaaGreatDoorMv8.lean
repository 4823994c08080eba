
import Derived.Test.YtlkpgcifpnppeaaGreatDoorMv7
import Derived.Test.YtlkpgcifpnppeaaGreatDoorMv4
import Derived.Lib.SplitLaws
import Derived.RangeFuncNested
import Derived.RangeFuncBound
import Derived.RangeFuncCalls
import Derived.RangeFuncLeaves
import Derived.RangeFuncFrom
import Derived.Shelf.Abstract
import Derived.Shelf.RegionOpen
import Derived.WalkKit
import Derived.OwnWalkIn
import Derived.TacticsInMore
import Derived.LoopNIn
import Derived.LoopIn
import Derived.Ground.NamesProg
import Derived.Shelf.Lay
import Derived.Shelf.LaysM
import Derived.Shelf.Strings.Search3
import Derived.Test.YtlkpgcifpnppeaaGreatDoorProg
import Derived.Handed
import Derived.HandedShaped
import Derived.LaidOnce
set_option linter.unusedVariables false
set_option linter.unusedSimpArgs false
namespace Go.Proofs.YtlkpgcifpnppeaaGreatDoor.AM
open Go.RowKit
variable {P:Program} {F:Fr} {e:Env} {w:World}
@[reducible] def qip:List (Exit×SSt)->Type
 | []=>Empty
 | [x]=>pSt x.2
 | x::x'::l=>pSt x.2⊕qip (x'::l)
structure LC where
 sh:SSt
 outs:List (Exit×SSt)
 F:pSt sh->Option (qip outs)
def outK {α:Type} : (l:List (Exit×SSt))->qip l->(Exit->TSt->Option α)->Option α
 | [],p,_=>nomatch p
 | [x],p,k=>k x.1 (rSt x.2 p)
 | x::x'::l,(p:pSt x.2⊕qip (x'::l)),k=>Sum.elim (fun q=>k x.1 (rSt x.2 q)) (fun q=>outK (x'::l) q k) p
def exB:Exit->Exit->Bool
 | .normal,.normal=>true
 | .exit i,.exit j=>Nat.beq i j
 | .ret,.ret=>true
 | _,_=>false
theorem jlh : ∀{x y:Exit},exB x y=true->x=y
 | .normal,.normal,_=>rfl
 | .exit i,.exit j,h=>by rw [Nat.eq_of_beq_eq_true h]
 | .ret,.ret,_=>rfl
 | .normal,.exit _,h=>by cases h
 | .normal,.ret,h=>by cases h
 | .normal,.goto _,h=>by cases h
 | .normal,.panic _,h=>by cases h
 | .normal,.outgrown,h=>by cases h
 | .exit _,.normal,h=>by cases h
 | .exit _,.ret,h=>by cases h
 | .exit _,.goto _,h=>by cases h
 | .exit _,.panic _,h=>by cases h
 | .exit _,.outgrown,h=>by cases h
 | .ret,.normal,h=>by cases h
 | .ret,.exit _,h=>by cases h
 | .ret,.goto _,h=>by cases h
 | .ret,.panic _,h=>by cases h
 | .ret,.outgrown,h=>by cases h
 | .goto _,_,h=>by cases h
 | .panic _,_,h=>by cases h
 | .outgrown,_,h=>by cases h
def jov (sh:SSt) (σ:TSt):Option (pSt sh):=match cSt sh σ with
 | some p=>some p
 | none=>cSt sh (j3v σ)
def j1b:(l:List (Exit×SSt))->Exit->TSt->Option (qip l)
 | [],_,_=>none
 | [x],ex,σ=>bif exB x.1 ex then jov x.2 σ else none
 | x::x'::l,ex,σ=>bif exB x.1 ex then (match jov x.2 σ with
   | some p=>some (Sum.inl p)
   | none=>(j1b (x'::l) ex σ).map Sum.inr) else (j1b (x'::l) ex σ).map Sum.inr
theorem jfi {sh:SSt} {σ:TSt} {p:pSt sh} (h:cSt sh σ=some p):Wk F (eS σ) (eS (rSt sh p)):=fun e a w hR=>⟨_,jc3 h hR⟩
theorem jqd (σ:TSt):Wk F (eS σ) (eS (j3v σ)):=fun e a w hR=>by
 obtain ⟨e',hf,hh⟩:=hR.hp.frz
 rw [qxx]
 exact ⟨e',hR.defers,hR.size,fun i=>(hR.slots i).fwd hf,hh⟩
theorem j6c {sh:SSt} {σ:TSt} {p:pSt sh} (h:jov sh σ=some p):Wk F (eS σ) (eS (rSt sh p)):=by
 unfold jov at h
 split at h
 ·rename_i q hq
  simp only [Option.some.injEq] at h;subst h
  exact jfi hq
 ·intro e a w hR
  obtain ⟨e',h1⟩:=jqd σ e a w hR
  exact jfi h e' a w h1
theorem j6v {α:Type} {k:Exit->TSt->Option α} {r:α} : ∀{l:List (Exit×SSt)} {ex:Exit} {σ:TSt} {o:qip l},j1b l ex σ=some o->outK l o k=some r->∃ τ,k ex τ=some r/\Wk F (eS σ) (eS τ)
 | [],_,_,_,h,_=>by cases h
 | [x],ex,σ,o,h,hk=>by
  unfold j1b at h
  cases hb:exB x.1 ex with
  | false=>rw [hb] at h;cases h
  | true =>
   rw [hb] at h
   have:=jlh hb
   subst this
   exact ⟨_,hk,j6c h⟩
 | x::x'::l,ex,σ,o,h,hk=>by
  have next:(j1b (x'::l) ex σ).map Sum.inr=some o->∃ τ,k ex τ=some r/\Wk F (eS σ) (eS τ):=fun h=>by
   obtain ⟨q,hq,rfl⟩:=Option.map_eq_some_iff.1 h
   exact j6v hq hk
  unfold j1b at h
  cases hb:exB x.1 ex with
  | false=>rw [hb] at h;exact next h
  | true =>
   rw [hb] at h
   simp only [cond_true] at h
   split at h
   ·rename_i p hp
    have:=jlh hb
    subst this
    obtain rfl:Sum.inl p=o:=Option.some.inj h
    exact ⟨_,hk,j6c hp⟩
   ·exact next h
def nl:Code->Nat
 | .seq a b=>nl a+nl b
 | .cond _ a b=>nl a+nl b
 | .block _ a=>nl a
 | .loop a=>nl a+1
 | .scope a=>nl a
 | _=>0
def jkz (n:Nat) (ops:List Oper):Bool:=ops.all (qml n)
abbrev q1m:=List (Nat×List Ht)
def fzD (dh:q1m) (id:Nat) (ops:List Oper):Bool:=jly ops&&(lk dh (id+1000000)).isNone
def j9t (P:Program) (dh:q1m) (id:Nat) (σ:TSt):TSt:=match lk dh (id+2000000) with
 | some (h::_)=>jl8 P (tb h.W) (qel (tb h.W) σ)
 | _=>σ
theorem jiq {F:Fr} (P:Program) (dh:q1m) (id:Nat) (σ:TSt):Wk F (eS σ) (eS (j9t P dh id σ)):=by
 unfold j9t
 split
 ·rename_i h l _
  exact fun e a w hR=>by
   obtain ⟨e',h1⟩:=j5c (tb h.W) σ e a w hR
   exact jbm P (tb h.W) (qel (tb h.W) σ) e' a w h1
 ·exact fun e a w hR=>⟨e,hR⟩
def run (P:Program) (n:Nat) (ct:List FC) (lts:List LC) (dh:q1m) {α:Type} : Nat->Code->TSt->(Exit->TSt->Option α)->Option α
 | _,.skip,σ,k=>k .normal σ
 | _,.region id ops draw,σ,k=>bif jkz n ops.toList then (match draw with
   | false=>qi6 P ct ops.toList ops.toList (j9t P dh id σ) (k .normal)
   | true=>match lk dh id with
    | some hs=>(match lk dh (id+3000000) with
     | some (m::_)=>bif jar hs m.R then qas P ct false ops.toList (ops.toList.take m.R) (hs.take m.R) (j9t P dh id σ) (fun τ=>qi6 P ct ops.toList (ops.toList.drop m.R) τ (k .normal)) else none
     | _=>qas P ct (fzD dh id ops.toList) ops.toList ops.toList hs (qlz (fzD dh id ops.toList) (j9t P dh id σ)) (k .normal))
    | none=>none) else none
 | i,.seq a b,σ,k=>run P n ct lts dh i a σ fun ex σ'=>match ex with
   | .normal=>run P n ct lts dh (i+nl a) b σ' k
   | ex=>k ex σ'
 | i,.cond c a b,σ,k=>match q0p σ c with
   | some (.one (.c (.d .bool t)))=>bif t then run P n ct lts dh i a σ k else run P n ct lts dh (i+nl a) b σ k
   | _=>none
 | i,.block id a,σ,k=>run P n ct lts dh i a σ fun ex σ'=>match ex with
   | .exit id'=>bif Nat.beq id' id then k .normal σ' else k (.exit id') σ'
   | ex=>k ex σ'
 | i,.loop _,σ,k=>match nth lts i with
   | some L=>match jov L.sh σ with
    | some p=>(L.F p).bind fun o=>outK L.outs o k
    | none=>none
   | none=>none
 | _,.exit id,σ,k=>k (.exit id) σ
 | _,.ret,σ,k=>k .ret σ
 | i,.scope a,σ,k=>run P n ct lts dh i a σ fun ex σ'=>match ex with
   | .goto _=>none
   | ex=>k ex σ'
 | _,_,_,_=>none
def drB (dh:q1m):Code->Bool
 | .region id ops true=>match lk dh id with
  | some hs=>okH hs 0 ops.toList hs []
  | none=>true
 | .seq a b=>drB dh a&&drB dh b
 | .cond _ a b=>drB dh a&&drB dh b
 | .block _ a=>drB dh a
 | .loop a=>drB dh a
 | .scope a=>drB dh a
 | _=>true
def LCok (P:Program) (F:Fr) (L:LC) (body:Code):Prop :=
 ∀p o,L.F p=some o->∀{α:Type} (k:Exit->TSt->Option α) (r:α),outK L.outs o k=some r->∀Q:Exit->St->Prop,(∀ex σ',k ex σ'=some r->Q ex (eS σ'))->q1w P F (.loop body) (eS (rSt L.sh p)) Q
def LOk (P:Program) (F:Fr) (lts:List LC):Nat->Code->Prop
 | i,.seq a b=>LOk P F lts i a/\LOk P F lts (i+nl a) b
 | i,.cond _ a b=>LOk P F lts i a/\LOk P F lts (i+nl a) b
 | i,.block _ a=>LOk P F lts i a
 | i,.scope a=>LOk P F lts i a
 | i,.loop a=>∀L,nth lts i=some L->LCok P F L a
 | _,_=>True
theorem j5l {c:Code} {σ σ':St} {Q:Exit->St->Prop} (h:Wk F σ σ') (hc:q1w P F c σ' Q):q1w P F c σ Q:=fun e a w hR=>by
 obtain ⟨e',hR'⟩:=h e a w hR
 exact hc e' a w hR'
theorem j89 {c:Code} {σ:St} {Q Q':Exit->St->Prop} (hc:q1w P F c σ Q) (h : ∀ex σ',Q ex σ'->∃ σ'',Q' ex σ''/\Wk F σ' σ''):q1w P F c σ Q':=fun e a w hR =>
 wp_mono (hc e a w hR) fun ex a' w' ⟨σ',e',h1,h2⟩=>by
  obtain ⟨σ'',h3,h4⟩:=h ex σ' h1
  obtain ⟨e'',h5⟩:=h4 e' a' w' h2
  exact ⟨σ'',e'',h3,h5⟩
theorem jbg {n:Nat} {ct:List FC} {lts:List LC} {dh:q1m} (hnF:F.n=n) (hm:P.follows .mixedOrders=true) (hct : ∀c∈ct,qyj P F.G c/\qgq c.args=true) {α:Type} {r:α} :
  ∀{c:Code} {i:Nat} {σ:TSt} {k:Exit->TSt->Option α} {Q:Exit->St->Prop},LOk P F lts i c->drB dh c=true->run P n ct lts dh i c σ k=some r->(∀ex σ',k ex σ'=some r->Q ex (eS σ'))->q1w P F c (eS σ) Q:=by
 intro c
 have hct' : ∀c∈ct,qyj P F.G c:=fun c hc=>(hct c hc).1
 induction c with
 | skip=>intro i σ k Q _ hdr h hq;exact ja4 (hq _ _ h)
 | region id ops draw =>
  intro i σ0 k Q _ hdr h hq
  unfold run at h
  refine j5l (jiq P dh id σ0) ?_
  generalize j9t P dh id σ0=σ at h ⊢
  cases hb:jkz n ops.toList with
  | false=>rw [hb] at h;cases h
  | true =>
   rw [hb] at h
   have hn:q8q F.n ops.toList.toArray=true:=by
    rw [hnF]
    unfold q8q
    rw [List.all_toArray]
    exact hb
   have hops:ops=ops.toList.toArray:=by simp
   rw [hops]
   cases draw with
   | false=>exact qhu hn (q4b hct' h fun σ' hσ=>hq _ _ hσ)
   | true =>
    simp only [cond_true] at h
    split at h
    case h_2=>cases h
    rename_i hs hhs
    unfold drB at hdr
    rw [hhs] at hdr
    simp only at hdr
    have hlen:=(qke hdr rfl rfl).1
    split at h
    ·rename_i m _ _
     cases hbg:jar hs m.R with
     | false=>rw [hbg] at h;cases h
     | true =>
     rw [hbg] at h
     replace h:qas P ct false ops.toList (ops.toList.take m.R) (hs.take m.R) σ (fun τ=>qi6 P ct ops.toList (ops.toList.drop m.R) τ (k .normal))=some r:=h
     have hmm:m.R<hs.length:=by
      unfold jar at hbg
      split at hbg
      ·rename_i hm;rw [q5k] at hm;exact (List.getElem?_eq_some_iff.1 hm).1
      ·cases hbg
     have hl2:(hs.take m.R).length=(ops.toList.take m.R).length:=by rw [List.length_take,List.length_take];omega
     obtain ⟨post,h1,h2,τ,h3,h4⟩:=qgl (pre:=[]) (H1:=[]) (Z:=fun es=>OkB ops.toList.toArray es/\es.length=m.R) hct (fun es he=>⟨jqm hdr hbg he,by rw [he.length,List.length_take];omega⟩) rfl trivial hl2 h hn ⟨ops.toList.drop m.R,by simp⟩
     refine qlt hm hn post h1 (by simpa using h2.1) ?_
     have hpl:post.length=m.R:=by simpa using h2.2
     rw [hpl,h4]
     exact q4b hct' h3 fun σ' hσ=>hq _ _ hσ
    have key:q1w P F (.region id ops.toList.toArray true) (eS (qlz (fzD dh id ops.toList) σ)) Q:=by
     obtain ⟨post,h1,h2,τ,h3,h4⟩:=qgl (pre:=[]) (H1:=[]) (Z:=OkS ops.toList.toArray) hct (fun es he=>jpp hdr he) rfl trivial hlen.symm h hn ⟨[],by simp⟩
     exact j2n hm hn post h1 (by simpa using h2) (by rw [h4];exact hq _ _ h3)
    cases hc:fzD dh id ops.toList with
    | false=>rw [hc] at key;exact key
    | true =>
     rw [hc] at key
     have key':q1w P F (.region id ops.toList.toArray true) (eS (j3v σ)) Q:=key
     rw [qxx] at key'
     exact jen key'
 | seq a b iha ihb =>
  intro i σ k Q hl hdr h hq
  unfold run at h
  unfold drB at hdr
  simp only [Bool.and_eq_true] at hdr
  obtain ⟨hl1,hl2⟩:=hl
  refine qkd (iha hl1 hdr.1 h fun ex σ' hσ=>?_)
  cases ex with
  | normal=>exact ihb hl2 hdr.2 hσ hq
  | exit id=>exact hq _ _ hσ
  | ret=>exact hq _ _ hσ
  | goto l=>exact hq _ _ hσ
  | panic ch=>exact hq _ _ hσ
  | outgrown=>exact hq _ _ hσ
 | cond c a b iha ihb =>
  intro i σ k Q hl hdr h hq
  unfold run at h
  unfold drB at hdr
  simp only [Bool.and_eq_true] at hdr
  obtain ⟨hl1,hl2⟩:=hl
  split at h
  case h_2=>cases h
  rename_i t ht
  have hb:qpy (opnd (eS σ) c)=some t:=by rw [q05 ht];rfl
  cases t with
  | true=>exact jah hb (iha hl1 hdr.1 h hq)
  | false=>exact j1q hb (ihb hl2 hdr.2 h hq)
 | block id a iha =>
  intro i σ k Q hl hdr h hq
  unfold run at h
  refine j2x (iha hl hdr h fun ex σ' hσ=>?_)
  cases ex with
  | exit id' =>
   have hσ':(bif Nat.beq id' id then k .normal σ' else k (.exit id') σ')=some r:=hσ
   show if id'=id then _ else _
   cases hb:Nat.beq id' id with
   | true =>
    rw [hb] at hσ'
    rw [if_pos (Nat.eq_of_beq_eq_true hb)]
    exact hq _ _ hσ'
   | false =>
    rw [hb] at hσ'
    rw [if_neg (fun he=>by subst he;rw [Nat.beq_refl] at hb;cases hb)]
    exact hq _ _ hσ'
  | normal=>exact hq _ _ hσ
  | ret=>exact hq _ _ hσ
  | goto l=>exact hq _ _ hσ
  | panic ch=>exact hq _ _ hσ
  | outgrown=>exact hq _ _ hσ
 | loop body _ =>
  intro i σ k Q hl hdr h hq
  unfold run at h
  split at h
  case h_2=>cases h
  rename_i L hL
  split at h
  case h_2=>cases h
  rename_i p hp
  obtain ⟨o,ho,h⟩:=Option.bind_eq_some_iff.1 h
  exact j5l (j6c hp) (hl L hL p o ho k r h Q hq)
 | exit id=>intro i σ k Q _ hdr h hq;exact j9s (hq _ _ h)
 | ret=>intro i σ k Q _ hdr h hq;exact jbc (hq _ _ h)
 | scope a iha =>
  intro i σ k Q hl hdr h hq
  unfold run at h
  refine j09 (iha hl hdr h fun ex σ' hσ=>?_)
  cases ex with
  | goto l=>cases hσ
  | exit id=>exact hq _ _ hσ
  | normal=>exact hq _ _ hσ
  | ret=>exact hq _ _ hσ
  | panic ch=>exact hq _ _ hσ
  | outgrown=>exact hq _ _ hσ
 | _=>intro i σ k Q _ hdr h hq;cases h
def q0i {A B:Type} (f:(A->Option B)->A->Option B):Nat->A->Option B
 | 0,_=>none
 | n+1,a=>f (q0i f n) a
def round (P:Program) (n:Nat) (ct:List FC) (lts:List LC) (dh:q1m) (i:Nat) (sh:SSt) (outs:List (Exit×SSt)) (body:Code) (rec:pSt sh->Option (qip outs)) (p:pSt sh):Option (qip outs) :=
 run P n ct lts dh i body (rSt sh p) fun ex σ'=>match ex with
  | .normal=>match jov sh σ' with
   | some q=>rec q
   | none=>none
  | ex=>j1b outs ex σ'
theorem j27 {c:Code} {Q:Exit->St->Prop} {σ:St} (Inv:Nat->St->Prop) (n:Nat) (h0:Inv n σ)
  (rnd : ∀n σ,Inv n σ->q1w P F c σ (andThen (fun σ'=>∃ m σ'',m<n/\Inv m σ''/\Wk F σ' σ'') Q)):q1w P F (.loop c) σ Q:=fun e a w hR=>by
 refine wp_loop_ghost (fun n a w=>∃ σ e,Inv n σ/\R F σ e a w) n ⟨σ,e,h0,hR⟩ ?_
 rintro n a w ⟨σ1,e1,hI,hR1⟩
 refine wp_mono (rnd n σ1 hI e1 a w hR1) fun ex a' w' hh=>?_
 obtain ⟨σ',e',h1,h2⟩:=hh
 cases ex with
 | normal =>
  obtain ⟨m,σ'',hm,hI',hl⟩:=h1
  obtain ⟨e'',h3⟩:=hl e' a' w' h2
  exact ⟨m,hm,σ'',e'',hI',h3⟩
 | _=>exact ⟨σ',e',h1,h2⟩
theorem jni {n:Nat} {ct:List FC} {lts:List LC} {dh:q1m} {i:Nat} (hnF:F.n=n) (hm:P.follows .mixedOrders=true) (hct : ∀c∈ct,qyj P F.G c/\qgq c.args=true) {L:LC} {body:Code}
  {step:(pSt L.sh->Option (qip L.outs))->pSt L.sh->Option (qip L.outs)} (hs : ∀rec p,step rec p=round P n ct lts dh i L.sh L.outs body rec p) {fuel:Nat} (hF : ∀p,L.F p=q0i step fuel p) (hl:LOk P F lts i body) (hdr:drB dh body=true):LCok P F L body:=by
 intro p o hpo α k r hk Q hq
 rw [hF] at hpo
 refine j27 (fun m σ=>∃ p,σ=eS (rSt L.sh p)/\q0i step m p=some o) fuel ⟨p,rfl,hpo⟩ ?_
 rintro m σ ⟨q,rfl,hq1⟩
 cases m with
 | zero=>cases hq1
 | succ m =>
  have h1:step (q0i step m) q=some o:=hq1
  rw [hs] at h1
  unfold round at h1
  let Q1:Exit->St->Prop:=fun ex σ'=>match ex with
   | .normal=>∃ σ'',(∃ p,σ''=eS (rSt L.sh p)/\q0i step m p=some o)/\Wk F σ' σ''
   | ex=>∃ σ'',Q ex σ''/\Wk F σ' σ''
  refine j89 (jbg hnF hm hct (Q:=Q1) hl hdr h1 ?_) ?_
  ·intro ex σ' hσ
   cases ex with
   | normal =>
    simp only at hσ
    split at hσ
    ·rename_i q' hq'
     exact ⟨_,⟨q',rfl,hσ⟩,j6c hq'⟩
    ·cases hσ
   | _ =>
    obtain ⟨τ,h2,h3⟩:=j6v (F:=F) hσ hk
    exact ⟨_,hq _ _ h2,h3⟩
  ·intro ex σ' h
   cases ex with
   | normal =>
    obtain ⟨σ'',h2,h3⟩:=h
    exact ⟨σ',⟨m,σ'',Nat.lt_succ_self m,h2,h3⟩,fun e a w hR=>⟨e,hR⟩⟩
   | _=>exact h
def q1d:Nat->Nat->Code->Code
 | i,j,.seq a b=>bif Nat.blt j (i+nl a) then q1d i j a else q1d (i+nl a) j b
 | i,j,.cond _ a b=>bif Nat.blt j (i+nl a) then q1d i j a else q1d (i+nl a) j b
 | i,j,.block _ a=>q1d i j a
 | i,j,.scope a=>q1d i j a
 | i,j,.loop a=>bif Nat.beq j i then a else q1d (i+1) j a
 | _,_,_=>.skip
theorem j93 {a b:Nat} (h:a<b):Nat.blt a b=true:=by simpa using h
theorem j8h {a b:Nat} (h:b<=a):Nat.blt a b=false:=by
 cases hb:Nat.blt a b with
 | false=>rfl
 | true =>
      have:a<b:=by simpa using hb
      omega
theorem jlf {lts:List LC} : ∀{c:Code} {i:Nat},(∀j L,i<=j->j<i+nl c->nth lts j=some L->LCok P F L (q1d i j c))->LOk P F lts i c:=by
 intro c
 induction c with
 | seq a b iha ihb =>
  intro i h
  refine ⟨iha fun j L h1 h2 h3=>?_,ihb fun j L h1 h2 h3=>?_⟩
  ·have:=h j L h1 (by show j<i+(nl a+nl b);omega) h3
   unfold q1d at this
   rwa [j93 h2] at this
  ·have:=h j L (by omega) (by show j<i+(nl a+nl b);omega) h3
   unfold q1d at this
   rwa [j8h h1] at this
 | cond c a b iha ihb =>
  intro i h
  refine ⟨iha fun j L h1 h2 h3=>?_,ihb fun j L h1 h2 h3=>?_⟩
  ·have:=h j L h1 (by show j<i+(nl a+nl b);omega) h3
   unfold q1d at this
   rwa [j93 h2] at this
  ·have:=h j L (by omega) (by show j<i+(nl a+nl b);omega) h3
   unfold q1d at this
   rwa [j8h h1] at this
 | block id a ih=>intro i h;exact ih fun j L h1 h2 h3=>h j L h1 h2 h3
 | scope a ih=>intro i h;exact ih fun j L h1 h2 h3=>h j L h1 h2 h3
 | loop a ih =>
  intro i h L hL
  have:=h i L (Nat.le_refl _) (by show i<i+(nl a+1);omega) hL
  unfold q1d at this
  rwa [Nat.beq_refl] at this
 | _=>intro i h;exact trivial
theorem jri {dh:q1m} : ∀{c:Code} {i j:Nat},drB dh c=true->drB dh (q1d i j c)=true:=by
 intro c
 induction c with
 | seq a b iha ihb =>
  intro i j h
  unfold drB at h
  simp only [Bool.and_eq_true] at h
  unfold q1d
  cases Nat.blt j (i+nl a) with
  | true=>exact iha h.1
  | false=>exact ihb h.2
 | cond c a b iha ihb =>
  intro i j h
  unfold drB at h
  simp only [Bool.and_eq_true] at h
  unfold q1d
  cases Nat.blt j (i+nl a) with
  | true=>exact iha h.1
  | false=>exact ihb h.2
 | block id a ih=>intro i j h;exact ih h
 | scope a ih=>intro i j h;exact ih h
 | loop a ih =>
  intro i j h
  unfold q1d
  cases Nat.beq j i with
  | true=>exact h
  | false=>exact ih h
 | _=>intro i j h;rfl
def qe7 (fn:Func):Code:=fn.body.getD .skip
structure Know (I:World->Prop) (G:World->Prop):Prop where
 st:Stab G
 im : ∀w,G w->I w
def q09 (I:World->Prop) (P:Program) (c:FC):Prop:=∀G,Know I G->qyj P G c/\qgq c.args=true
def jny (P:Program) (σ:TSt):ResultVar->Option TD1
 | .tmp t=>match lk σ.slots t with
  | some (.one x)=>some x
  | _=>none
 | .cell p ty=>match lk σ.slots p with
  | some (.one (.c (.box β off)))=>match lk σ.boxes β with
   | some q=>bif q7e q.1 then (match loadT P ty (q.2.drop off) with
    | some (.one x)=>some x
    | _=>none) else none
   | none=>none
  | _=>none
def qys (P:Program) (σ:TSt):List ResultVar->Option (List TD1)
 | []=>some []
 | r::rs=>match jny P σ r,qys P σ rs with
  | some x,some xs=>some (x::xs)
  | _,_=>none
def resT (P:Program) (rs:List ResultVar):(d:SD)->(σ:TSt)->Option (pD d)
 | .one s,σ=>match qys P (j3v σ) rs with
  | some [x]=>c1 sh0 (j3v σ) s x
  | _=>none
 | .tup ss,σ=>match qys P (j3v σ) rs with
  | some xs=>if xs.length=1 then none else c1s sh0 (j3v σ) ss xs
  | none=>none
def qp0:Nat->List TD->List (Nat×TD)
 | _,[]=>[]
 | i,x::xs=>(i,x)::qp0 (i+1) xs
theorem qs6 : ∀(xs:List TD) (i j:Nat),lk (qp0 i xs) j=if i<=j then xs[j - i]? else none
 | [],i,j=>by simp [qp0,lk]
 | x::xs,i,j=>by
  rw [qp0,q0f,qs6 xs]
  by_cases h1:j=i
  ·subst h1;simp
  ·rw [if_neg h1]
   by_cases h2:i<=j
   ·rw [if_pos (by omega),if_pos h2]
    have:j - i=(j - (i+1))+1:=by omega
    rw [this,List.getElem?_cons_succ]
   ·rw [if_neg (by omega),if_neg h2]
def main (P:Program) (n:Nat) (ct:List FC) (lts:List LC) (dh:q1m) (c:Code) (rs:List ResultVar) (args:List SD) (res:SD) (a:pDs args):Option (pD res) :=
 run P n ct lts dh 0 c ⟨qp0 0 (rDs args a),[],[]⟩ fun ex σ=>match ex with
  | .normal=>resT P rs res σ
  | .ret=>resT P rs res σ
  | _=>none
theorem jj4 {a:Act} {σ:TSt} (hR:R F (eS σ) e a w) {r:ResultVar} {x:TD1} (h:jny P σ r=some x) : ∃ v,(jjx a r).run P w = .ok v w/\q80 e (eS σ) w v (e1 x):=by
 unfold jny at h
 split at h
 ·rename_i t
  split at h
  case h_2=>cases h
  rename_i y hy
  simp only [Option.some.injEq] at h;subst h
  have h1:=hR.slots t
  have e2:(eS σ).slot t = .one (e1 y):=by show (match lk σ.slots t with|some x=>eD x|none=>_)=_;rw [hy];rfl
  rw [e2] at h1
  exact ⟨_,rfl,h1⟩
 ·rename_i p ty
  split at h
  case h_2=>cases h
  rename_i β off hx
  split at h
  case h_2=>cases h
  rename_i q hb
  obtain ⟨hpb,h⟩:=q99 h
  split at h
  case h_2=>cases h
  rename_i y hl
  simp only [Option.some.injEq] at h;subst h
  have h1:=hR.slots p
  have e2:(eS σ).slot p = .one (.c (.box β off)):=by show (match lk σ.slots p with|some x=>eD x|none=>_)=_;rw [hx];rfl
  rw [e2] at h1
  obtain ⟨_,h3⟩:((eS σ).box β).isSome=true/\a.tmps.getD p undef = .pointer (some ⟨e.m β,off,none⟩):=h1
  obtain ⟨vs,h4,h5,_⟩:=(hR.hp.boxes β q.1 (q.2.map eC) (q5j hb)).2.cells (q3o hpb)
  have hl':=qj6 hl
  rw [List.map_drop] at hl'
  obtain ⟨v,h6,h7⟩:=q5d (b:=e.m β) (off:=off) hl' (h5.drop off) (fun j hj=>by
   rw [cell_of_row w (e.m β) _ vs q.1 _ h4,List.getElem_drop]
   simp)
  refine ⟨v,?_,h7⟩
  simp only [jjx,h3,asAddr,Sem.run_bind,Sem.run_pure,Result.andThen_ok,h6]
theorem qrx {a:Act} {σ:TSt} (hR:R F (eS σ) e a w) : ∀{rs:List ResultVar} {xs:List TD1},qys P σ rs=some xs ->
  ∃ vs:List Value,(rs.mapM (jjx a)).run P w = .ok vs w/\q0b (q80 e (eS σ) w) vs (xs.map e1)
 | [],xs,h=>by
  simp only [qys,Option.some.injEq] at h;subst h
  exact ⟨[],by simp,trivial⟩
 | r::rs,xs,h=>by
  unfold qys at h
  split at h
  case h_2=>cases h
  rename_i x ys hx hxs
  simp only [Option.some.injEq] at h;subst h
  obtain ⟨v,h1,h2⟩:=jj4 hR hx
  obtain ⟨vs,h3,h4⟩:=qrx hR hxs
  refine ⟨v::vs,?_,h2,h4⟩
  rw [List.mapM_cons]
  simp only [Sem.run_bind,h1,Result.andThen_ok,h3,Sem.run_pure]
theorem jnc {n:Nat} {ct:List FC} {lts:List LC} {dh:q1m} {c:Code} {f:Nat} {fn:Func} {args:List SD} {res:SD} {G:World->Prop} (hf:P.funcs[f]? = some fn) (hb:fn.body=some c) (hnt:fn.ntmps=n) (hn:args.length<=n) (hst:Stab G) (hm:P.follows .mixedOrders=true)
  {rs:List ResultVar} (hrs:fn.results.toList=rs) (hct : ∀c∈ct,qyj P G c/\qgq c.args=true) (hl : ∀F:Fr,F.n=n->F.G=G->LOk P F lts 0 c) (hdr:drB dh c=true) {x:pDs args} {r:pD res} (h:main P n ct lts dh c rs args res x=some r):qfh P G f ((rDs args x).map eD) (eD (rD res r)):=by
 intro Pc w vs hg hlt hv
 have hvl:=hv.length
 rw [Array.length_toList,List.length_map] at hvl
 have hargs:(rDs args x).length=args.length:=by
  have : ∀(l:List SD) (p:pDs l),(rDs l p).length=l.length:=by
   intro l
   induction l with
   | nil=>intro p;rfl
   | cons d l ih =>
    intro p
    cases l with
    | nil=>rfl
    | cons d' l=>show (_::rDs (d'::l) _).length=_;rw [List.length_cons,ih];rfl
  exact this _ _
 refine calls_of_wp hf hb ?_
 let F:Fr:={ n:=n,w0:=w,Pc:=Pc,G:=G,g0:=hg,gst:=hst }
 have hR:R F (eS ⟨qp0 0 (rDs args x),[],[]⟩) (q57 Pc) { tmps:=vs++Array.replicate (fn.ntmps - vs.size) undef,defers:=[] } w:=by
  refine ⟨rfl,by simp;show vs.size+(fn.ntmps - vs.size)=n;omega,fun i=>?_,⟨Below.refl _ _,fun _ _ h=>h,fun _ _ h=>Or.inl h,hlt,(fun β T cs hx=>by cases hx),(fun β hβ=>by cases hβ),(fun β β' hβ=>by cases hβ),(fun t r hr=>by cases hr),(fun t r b hr=>by cases hr),(fun t r b hr=>by cases hr),(fun t r b β hr=>by cases hr),(fun t t' r r' b hn hr=>by cases hr),⟨fun b hb=>False.elim hb,Nat.le_refl _,(fun β hβ=>by cases hβ),(fun t r b hr=>by cases hr),(fun b o hp=>Or.inl hp),(fun _ _ _=>rfl),(fun β a h=>by cases h),(fun t v r h=>by cases h)⟩⟩⟩
  show q1l _ _ w _ (match lk (qp0 0 (rDs args x)) i with|some x=>eD x|none=>.one (.c .bad))
  rw [qs6,if_pos (Nat.zero_le _),Nat.sub_zero]
  by_cases hi:i<(rDs args x).length
  ·have e1:(vs++Array.replicate (fn.ntmps - vs.size) undef).getD i undef=vs[i]'(by omega):=by
    have:i<vs.size:=by omega
    simp [Array.getD,Array.getElem_append_left this]
    intro hh;omega
   rw [e1,List.getElem?_eq_getElem hi]
   have:=hv.get i (by rw [Array.length_toList];omega) (by rw [List.length_map];exact hi)
   rw [Array.getElem_toList,List.getElem_map] at this
   exact this.fwd ⟨fun _ _ h=>h,fun _ _ _=>rfl,(fun β hβ=>by cases hβ),(fun t r g hr=>by cases hr)⟩
  ·rw [List.getElem?_eq_none (by omega)];trivial
 unfold main at h
 have hrun:=jbg (F:=F) (Q:=fun ex σ=>(ex = .normal\/ex = .ret)/\∃ τ,σ=eS τ/\resT P rs res τ=some r) rfl hm hct (hl F rfl rfl) hdr h (fun ex σ' hσ=>by
  cases ex with
  | normal=>exact ⟨Or.inl rfl,σ',rfl,hσ⟩
  | ret=>exact ⟨Or.inr rfl,σ',rfl,hσ⟩
  | _=>cases hσ)
 refine wp_mono (hrun _ _ _ hR) fun ex a' w' hh=>?_
 obtain ⟨σ',e',⟨hex,τ,rfl,hres⟩,hR'⟩:=hh
 have fin:a'.defers = []/\∃ v,(results fn a'.tmps).run P w' = .ok v w'/\∃ v' Pc',Ending.returned v = .returned v'/\Below w.heap.size w w'/\(∀b o,Pc b o->Pc' b o)/\(∀b o,Pc' b o->Pc b o\/(w.heap.size<=b/\b<w'.heap.size))/\q1l (q57 Pc') q7p w' v' (eD (rD res r)):=by
  refine ⟨hR'.defers,?_⟩
  obtain ⟨e'',hf2,hh2⟩:=hR'.hp.frz
  have hR2:R F (eS (j3v τ)) e'' a' w':=by
   rw [qxx]
   exact ⟨hR'.defers,hR'.size,fun i=>(hR'.slots i).fwd hf2,hh2⟩
  have hpc:(∀b o,Pc b o->e''.Pc b o)/\(∀b o,e''.Pc b o->Pc b o\/(w.heap.size<=b/\b<w'.heap.size)):=⟨hh2.pc0,fun b o hp=>by
   rcases hh2.pcNew b o hp with h1|h1
   ·exact Or.inl h1
   ·exact Or.inr ⟨h1,hh2.pcLt b o hp⟩⟩
  unfold resT at hres
  have key : ∀xs,qys P (j3v τ) rs=some xs->∃ us:List Value,(results fn a'.tmps).run P w' = .ok (if h:us.toArray.size=1 then us.toArray[0] else .tuple us.toArray) w'/\q0b (q80 e'' (eS (j3v τ)) w') us (xs.map e1):=fun xs hxs=>by
   obtain ⟨us,g1,g2⟩:=qrx hR2 hxs
   refine ⟨us,?_,g2⟩
   have e1:results fn a'.tmps=(do let vs <-fn.results.mapM (jjx a');pure (if h:vs.size=1 then vs[0] else .tuple vs)):=rfl
   rw [e1,Array.mapM_eq_mapM_toList,hrs]
   simp only [Sem.run_bind,Sem.run_map,g1]
   rfl
  cases res with
  | one s =>
   simp only at hres
   split at hres
   case h_2=>cases hres
   rename_i y hy
   obtain ⟨us,g1,g2⟩:=key _ hy
   match us,g2 with
   | [u],g2' =>
    refine ⟨u,by simpa using g1,u,e''.Pc,rfl,hR'.hp.below,hpc.1,hpc.2,?_⟩
    exact ji2 (qsn hR2.hp) hres (qu2 _) g2'.1
  | tup ss =>
   simp only at hres
   split at hres
   case h_2=>cases hres
   rename_i xs hxs
   split at hres
   case isTrue=>cases hres
   rename_i hl1
   obtain ⟨us,g1,g2⟩:=key _ hxs
   have hl:us.length≠1:=fun h1=>by
    have:=g2.length
    rw [h1,List.length_map] at this
    exact hl1 this.symm
   refine ⟨.tuple us.toArray,?_,.tuple us.toArray,e''.Pc,rfl,hR'.hp.below,hpc.1,hpc.2,us.toArray,rfl,?_⟩
   ·rw [g1]
    simp [hl]
   ·exact jgh (qsn hR2.hp) hres (fun x _=>qu2 _) g2
 rcases hex with rfl|rfl
 ·exact fin
 ·exact fin
theorem Hp.re {F F':Fr} {σ σ':St} {e:Env} {w:World} (h:Hp F σ e w) (h1:F'.w0=F.w0) (h2:F'.Pc=F.Pc) (h3:F'.K=F.K) (h4:F'.wk=F.wk) (h5:F'.m0=F.m0) (h6:F'.r0=F.r0) (hb:σ'.box=σ.box) (hr:σ'.row=σ.row):Hp F' σ' e w:=by
 have hf:Fwd e σ w e σ' w:=⟨fun _ _ h=>h,fun _ _ _=>rfl,fun _ h=>⟨by rw [hb];exact h,rfl⟩,fun t r g h hg=>⟨⟨r,by rw [hr];exact h,hg,rfl⟩,rfl⟩⟩
 refine ⟨by rw [h1];exact h.below,by rw [h2];exact h.pc0,by rw [h2,h1];exact h.pcNew,h.pcLt,fun β T cs hx=>?_,by rw [hb];exact h.boxPc,by rw [hb];exact h.boxNe,by rw [hr,h1];exact h.rows,by rw [hr];exact h.rowPro,by rw [hr];exact h.rowPc,by rw [hr,hb];exact h.rowBox,by rw [hr];exact h.rowNe,
  ⟨by rw [h3,h4];exact h.kp.keep,by rw [h4];exact h.kp.wkLe,by rw [hb,h3];exact h.kp.boxK,by rw [hr,h3];exact h.kp.rowK,by rw [h2,h3];exact h.kp.pcK,by rw [h2,h4];exact h.kp.cellK,by rw [h5];exact h.kp.boxM,by rw [h6,hr];exact h.kp.rowM⟩⟩
 rw [hb] at hx
 obtain ⟨g0,g1⟩:=h.boxes β T cs hx
 rw [h1]
 exact ⟨g0,g1.fwd hf rfl⟩
def jp1:List TD1->TD
 | [x]=>.one x
 | xs=>.tup xs
theorem jhv {σ:St} : ∀{xs:List TD1} {us:List Value},q0b (q80 e σ w) us (xs.map e1)->q1l e σ w (if h:us.toArray.size=1 then us.toArray[0] else .tuple us.toArray) (eD (jp1 xs))
 | [],[],g2=>⟨#[],rfl,trivial⟩
 | [y],[u],g2=>g2.1
 | y::y'::ys,u::u'::us,g2=>⟨(u::u'::us).toArray,by simp,g2⟩
 | [],_::_,h=>h.elim
 | _::_,[],h=>h.elim
 | [_],_::_::_,h=>h.2.elim
 | _::_::_,[_],h=>h.2.elim
def clrD:TD->TD:=jms (fun _=>none) (fun _ _=>none)
theorem Hp.forget {σ:St} (h:Hp F σ e w):Hp F (eS ⟨[],[],[]⟩) e w:=by
 have hb : ∀β,¬ ((eS ⟨[],[],[]⟩).box β).isSome=true:=fun β hβ=>by
  have h':((lk ([]:List (Nat×(Nat×List TC))) β).map eB).isSome=true:=hβ
  cases h'
 have hr : ∀t r,¬ (eS ⟨[],[],[]⟩).row t=some r:=fun t r hr=>by
  have h':(lk ([]:List (Nat×TRow)) t).map eR=some r:=hr
  cases h'
 exact ⟨h.below,h.pc0,h.pcNew,h.pcLt,fun β T cs hx=>absurd (isSome_some hx) (hb β),fun β hβ=>absurd hβ (hb β),fun β β' hβ=>absurd hβ (hb β),fun t r h=>absurd h (hr t r),fun t r b h=>absurd h (hr t r),fun t r b h=>absurd h (hr t r),fun t r b β h=>absurd h (hr t r),fun t t' r r' b hn h=>absurd h (hr t r),
  ⟨h.kp.keep,h.kp.wkLe,fun β hβ=>absurd hβ (hb β),fun t r b h=>absurd h (hr t r),h.kp.pcK,h.kp.cellK,h.kp.boxM,fun t v r _ h=>absurd h (hr t r)⟩⟩
def jow (l:List (Nat×SR)) (t:Nat):Bool:=match lk l t with|some r=>r.wr|none=>false
def resX (P:Program) (rs:List ResultVar) (res:SD) (ob:List (Nat×(Nat×List SC))) (orw:List (Nat×SR)) (σ:TSt):Option (pD res×(pBx ob×pRw orw)) :=
 match qys P (qel (fun t=>!(jow orw t)) σ) rs with
 | some xs=>match cSt ⟨[(0,res)],ob,orw⟩ ⟨[(0,jp1 xs)],σ.boxes,(qel (fun t=>!(jow orw t)) σ).rows⟩ with
  | some p=>some (p.1.1,p.2)
  | none=>match cSt ⟨[(0,res)],ob,orw⟩ ⟨[(0,clrD (jp1 xs))],[],[]⟩ with
   | some p=>some (p.1.1,p.2)
   | none=>none
 | none=>none
def jmd (P:Program) (n:Nat) (ct:List FC) (lts:List LC) (dh:q1m) (c:Code) (rs:List ResultVar) (args:List SD) (bx:List (Nat×(Nat×List SC))) (rw:List (Nat×SR)) (res:SD) (ob:List (Nat×(Nat×List SC))) (orw:List (Nat×SR)) (a:pDs args×(pBx bx×pRw rw)):Option (pD res×(pBx ob×pRw orw)) :=
 run P n ct lts dh 0 c ⟨qp0 0 (rDs args a.1),rBx bx a.2.1,rRw rw a.2.2⟩ fun ex σ=>match ex with
  | .normal=>resX P rs res ob orw σ
  | .ret=>resX P rs res ob orw σ
  | _=>none
theorem jhl {n:Nat} {ct:List FC} {lts:List LC} {dh:q1m} {c:Code} {x:FX} {fn:Func} {G:World->Prop} (hf:P.funcs[x.f]? = some fn) (hb:fn.body=some c) (hnt:fn.ntmps=n) (hn:x.args.length<=n) (hn2:n<=2000000) (hm:P.follows .mixedOrders=true)
  {rs:List ResultVar} (hrs:fn.results.toList=rs) (hct : ∀c∈ct,qyj P G c/\qgq c.args=true) (hl : ∀F:Fr,F.n=n->F.G=G->LOk P F lts 0 c) (hdr:drB dh c=true)
  {p:pDs x.args×(pBx x.boxes×pRw x.rows)} {q:pD x.res×(pBx x.oboxes×pRw x.orows)} (h:jmd P n ct lts dh c rs x.args x.boxes x.rows x.res x.oboxes x.orows p=some q) :
  jkq P G x.f (eS (rSt (shI x) ((),p.2))) ((rDs x.args p.1).map eD) (eS (rSt (shO x) ((),q.2))) (eD (rD x.res q.1)):=by
 intro F0 hFG e w vs hh hv
 have hvl:=hv.length
 rw [Array.length_toList,List.length_map] at hvl
 have hargs:(rDs x.args p.1).length=x.args.length:=by
  have : ∀(l:List SD) (p:pDs l),(rDs l p).length=l.length:=by
   intro l
   induction l with
   | nil=>intro p;rfl
   | cons d l ih =>
    intro p
    cases l with
    | nil=>rfl
    | cons d' l=>show (_::rDs (d'::l) _).length=_;rw [List.length_cons,ih];rfl
  exact this _ _
 refine calls_of_wp hf hb ?_
 let F:Fr:={ F0 with n:=n,r0le:=fun t v h=>Nat.le_trans hn2 (F0.r0ge t v h) }
 let σ0:TSt:=⟨qp0 0 (rDs x.args p.1),rBx x.boxes p.2.1,rRw x.rows p.2.2⟩
 have hR:R F (eS σ0) e { tmps:=vs++Array.replicate (fn.ntmps - vs.size) undef,defers:=[] } w:=by
  refine ⟨rfl,by simp;show vs.size+(fn.ntmps - vs.size)=n;omega,fun i=>?_,hh.re rfl rfl rfl rfl rfl rfl rfl rfl⟩
  show q1l _ _ w _ (match lk (qp0 0 (rDs x.args p.1)) i with|some x=>eD x|none=>.one (.c .bad))
  rw [qs6,if_pos (Nat.zero_le _),Nat.sub_zero]
  by_cases hi:i<(rDs x.args p.1).length
  ·have e1:(vs++Array.replicate (fn.ntmps - vs.size) undef).getD i undef=vs[i]'(by omega):=by
    have:i<vs.size:=by omega
    simp [Array.getD,Array.getElem_append_left this]
    intro hh;omega
   rw [e1,List.getElem?_eq_getElem hi]
   have:=hv.get i (by rw [Array.length_toList];omega) (by rw [List.length_map];exact hi)
   rw [Array.getElem_toList,List.getElem_map] at this
   exact q1l.slot (σ:=eS (rSt (shI x) ((),p.2))) rfl rfl this
  ·rw [List.getElem?_eq_none (by omega)];trivial
 unfold jmd at h
 have hrun:=jbg (F:=F) (Q:=fun ex σ=>(ex = .normal\/ex = .ret)/\∃ τ,σ=eS τ/\resX P rs x.res x.oboxes x.orows τ=some q) rfl hm (fun c hc=>by show qyj P F0.G c/\_;rw [hFG];exact hct c hc) (hl F rfl hFG) hdr h (fun ex σ' hσ=>by
  cases ex with
  | normal=>exact ⟨Or.inl rfl,σ',rfl,hσ⟩
  | ret=>exact ⟨Or.inr rfl,σ',rfl,hσ⟩
  | _=>cases hσ)
 refine wp_mono (hrun _ _ _ hR) fun ex a' w' hh'=>?_
 obtain ⟨σ',e',⟨hex,τ,rfl,hres⟩,hR'⟩:=hh'
 have fin:a'.defers = []/\∃ v,(results fn a'.tmps).run P w' = .ok v w'/\∃ v' e'',Ending.returned v = .returned v'/\Hp F0 (eS (rSt (shO x) ((),q.2))) e'' w'/\q1l e'' (eS (rSt (shO x) ((),q.2))) w' v' (eD (rD x.res q.1)):=by
  refine ⟨hR'.defers,?_⟩
  obtain ⟨e2,hf2,hh2⟩:=hR'.hp.frzB (fun t=>!(jow x.orows t))
  have hR2:R F (eS (qel (fun t=>!(jow x.orows t)) τ)) e2 a' w':=by
   rw [qjy]
   exact ⟨hR'.defers,hR'.size,fun i=>(hR'.slots i).fwd hf2,hh2⟩
  unfold resX at hres
  split at hres
  case h_2=>cases hres
  rename_i xs hxs
  obtain ⟨us,g1,g2⟩:=qrx hR2 hxs
  have hrun2:(results fn a'.tmps).run P w' = .ok (if h:us.toArray.size=1 then us.toArray[0] else .tuple us.toArray) w':=by
   have e1:results fn a'.tmps=(do let vs <-fn.results.mapM (jjx a');pure (if h:vs.size=1 then vs[0] else .tuple vs)):=rfl
   rw [e1,Array.mapM_eq_mapM_toList,hrs]
   simp only [Sem.run_bind,Sem.run_map,g1]
   rfl
  have hrep:=jhv g2
  let F1:Fr:={ F0 with n:=1,r0le:=fun t v h=>Nat.le_trans (by decide) (F0.r0ge t v h) }
  have last : ∀(τ1:TSt) (y:TD) pp,cSt ⟨[(0,x.res)],x.oboxes,x.orows⟩ τ1=some pp->τ1.slots = [(0,y)]->some (pp.1.1,pp.2)=some q->Hp F1 (eS τ1) e2 w'->q1l e2 (eS τ1) w' (if h:us.toArray.size=1 then us.toArray[0] else .tuple us.toArray) (eD y) ->
    ∃ v,(results fn a'.tmps).run P w' = .ok v w'/\∃ v' e'',Ending.returned v = .returned v'/\Hp F0 (eS (rSt (shO x) ((),q.2))) e'' w'/\q1l e'' (eS (rSt (shO x) ((),q.2))) w' v' (eD (rD x.res q.1)):=by
   intro τ1 y pp hpp hsl hq hp1 hd1
   simp only [Option.some.injEq] at hq
   subst hq
   refine ⟨_,hrun2,_,jp9 τ1 e2,rfl,?_⟩
   generalize (if h:us.toArray.size=1 then us.toArray[0] else .tuple us.toArray)=v at hd1
   have hR3:R F1 (eS τ1) e2 { tmps:=#[v],defers:=[] } w':=by
    refine ⟨rfl,rfl,fun i=>?_,hp1⟩
    show q1l _ _ w' _ (match lk τ1.slots i with|some x=>eD x|none=>.one (.c .bad))
    rw [hsl,q0f]
    by_cases hi:i=0
    ·subst hi
     rw [if_pos rfl]
     exact hd1
    ·rw [if_neg hi];trivial
   have hR4:=jc3 (sh:=⟨[(0,x.res)],x.oboxes,x.orows⟩) hpp hR3
   refine ⟨hR4.hp.re rfl rfl rfl rfl rfl rfl rfl rfl,?_⟩
   have:=hR4.slots 0
   exact q1l.slot (σ:=eS (rSt ⟨[(0,x.res)],x.oboxes,x.orows⟩ pp)) rfl rfl this
  split at hres
  ·rename_i pp hpp
   refine last _ (jp1 xs) pp hpp rfl hres (hR2.hp.re rfl rfl rfl rfl rfl rfl rfl rfl) ?_
   exact q1l.slot (σ:=eS (qel (fun t=>!(jow x.orows t)) τ)) rfl rfl hrep
  ·split at hres
   case h_2=>cases hres
   rename_i pp hpp
   have hfg:Hp F1 (eS ⟨[],[],[]⟩) e2 w':=(hR2.hp.forget).re rfl rfl rfl rfl rfl rfl rfl rfl
   refine last _ (clrD (jp1 xs)) pp hpp rfl hres (hfg.re rfl rfl rfl rfl rfl rfl rfl rfl) ?_
   have hren:Ren (fun _=>none) (fun _ _=>none) e2 (eS (qel (fun t=>!(jow x.orows t)) τ)) w' e2 (eS ⟨[(0,clrD (jp1 xs))],[],[]⟩) w':=⟨fun _ _ h=>h,fun _ _ _=>rfl,fun β κ h=>(by cases h),fun t g κ g' h=>(by cases h)⟩
   exact hren.drep hrep
 rcases hex with rfl|rfl
 ·exact fin
 ·exact fin
def q88 (I:World->Prop) (P:Program) (x:FX):Prop:=∀G,Know I G->q5h P x.f=true/\jp4 P G x
def q5g (x:FX) (hb hr:List (Nat×Nat)):FC:={ f:=x.f,args:=[],res:=.tup [],F:=fun _=>none,x:=some { x:=x,hb:=hb,hr:=hr } }
theorem q1g {G:World->Prop} {x:FX} {hb hr:List (Nat×Nat)} (h:q5h P x.f=true/\jp4 P G x):qyj P G (q5g x hb hr)/\qgq (q5g x hb hr).args=true:=⟨⟨h.1,rfl,h.2⟩,rfl⟩
def jbs (x:FX) (hb hr nb:List (Nat×Nat)):FC:={ f:=x.f,args:=[],res:=.tup [],F:=fun _=>none,x:=some { x:=x,hb:=hb,hr:=hr,nb:=nb } }
theorem jit {G:World->Prop} {x:FX} {hb hr nb:List (Nat×Nat)} (h:q5h P x.f=true/\jp4 P G x):qyj P G (jbs x hb hr nb)/\qgq (jbs x hb hr nb).args=true:=⟨⟨h.1,rfl,h.2⟩,rfl⟩
end Go.Proofs.YtlkpgcifpnppeaaGreatDoor.AM
namespace Go.Proofs.YtlkpgcifpnppeaaGreatDoor.AM
open Go.RowKit
variable {P:Program} {I:World->Prop}
def qy2 (I:World->Prop) (P:Program) (ct:List FC):Prop:=∀G,Know I G->∀c∈ct,qyj P G c/\qgq c.args=true
theorem cn:qy2 I P []:=fun _ _ _ h=>by cases h
theorem cc {c:FC} {ct:List FC} (h:q09 I P c) (h2:qy2 I P ct):qy2 I P (c::ct):=fun G hG=>List.forall_mem_cons.2 ⟨h G hG,h2 G hG⟩
theorem je2 : ∀{c:Code} {i j k:Nat},i<=j->j<i+nl c->j+1<=k->k<j+1+nl (q1d i j c)->q1d (j+1) k (q1d i j c)=q1d i k c/\k<i+nl c:=by
 intro c
 induction c with
 | seq a b iha ihb =>
  intro i j k h1 h2 h3 h4
  have e0:nl (.seq a b)=nl a+nl b:=rfl
  have E : ∀y,q1d i y (.seq a b)=bif Nat.blt y (i+nl a) then q1d i y a else q1d (i+nl a) y b:=fun _=>rfl
  rw [e0] at h2 ⊢
  rw [E] at h4
  rw [E,E]
  by_cases h:j<i+nl a
  ·rw [j93 h] at h4 ⊢
   simp only [cond_true] at h4 ⊢
   obtain ⟨e1,e2⟩:=iha h1 h h3 h4
   rw [j93 e2]
   exact ⟨e1,by omega⟩
  ·rw [j8h (by omega)] at h4 ⊢
   simp only [cond_false] at h4 ⊢
   obtain ⟨e1,e2⟩:=ihb (by omega) (by omega) h3 h4
   rw [j8h (by omega)]
   exact ⟨e1,by omega⟩
 | cond x a b iha ihb =>
  intro i j k h1 h2 h3 h4
  have e0:nl (.cond x a b)=nl a+nl b:=rfl
  have E : ∀y,q1d i y (.cond x a b)=bif Nat.blt y (i+nl a) then q1d i y a else q1d (i+nl a) y b:=fun _=>rfl
  rw [e0] at h2 ⊢
  rw [E] at h4
  rw [E,E]
  by_cases h:j<i+nl a
  ·rw [j93 h] at h4 ⊢
   simp only [cond_true] at h4 ⊢
   obtain ⟨e1,e2⟩:=iha h1 h h3 h4
   rw [j93 e2]
   exact ⟨e1,by omega⟩
  ·rw [j8h (by omega)] at h4 ⊢
   simp only [cond_false] at h4 ⊢
   obtain ⟨e1,e2⟩:=ihb (by omega) (by omega) h3 h4
   rw [j8h (by omega)]
   exact ⟨e1,by omega⟩
 | block x a ih=>intro i j k h1 h2 h3 h4;exact ih h1 h2 h3 h4
 | scope a ih=>intro i j k h1 h2 h3 h4;exact ih h1 h2 h3 h4
 | loop a ih =>
  intro i j k h1 h2 h3 h4
  have e0:nl (.loop a)=nl a+1:=rfl
  have E : ∀y,q1d i y (.loop a)=bif Nat.beq y i then a else q1d (i+1) y a:=fun _=>rfl
  rw [e0] at h2 ⊢
  rw [E] at h4
  rw [E,E]
  by_cases h:j=i
  ·subst h
   have hk:Nat.beq k j=false:=by
    cases hb:Nat.beq k j with
    | false=>rfl
    | true=>have:=Nat.eq_of_beq_eq_true hb;omega
   rw [Nat.beq_refl] at h4 ⊢
   rw [hk]
   simp only [cond_true,cond_false] at h4 ⊢
   exact ⟨trivial,by omega⟩
  ·have hj:Nat.beq j i=false:=by
    cases hb:Nat.beq j i with
    | false=>rfl
    | true=>exact absurd (Nat.eq_of_beq_eq_true hb) h
   rw [hj] at h4 ⊢
   simp only [cond_false] at h4 ⊢
   obtain ⟨e1,e2⟩:=ih (by omega) (by omega) h3 h4
   have hk:Nat.beq k i=false:=by
    cases hb:Nat.beq k i with
    | false=>rfl
    | true=>have:=Nat.eq_of_beq_eq_true hb;omega
   rw [hk]
   exact ⟨e1,by omega⟩
 | _=>intro i j k h1 h2 _ _;exact absurd h2 (by show ¬ j<i+0;omega)
abbrev Stp (sh:SSt) (outs:List (Exit×SSt)):Type:=(pSt sh->Option (qip outs))->pSt sh->Option (qip outs)
@[reducible] def q3x {sh:SSt} {outs:List (Exit×SSt)} (F:Nat->Stp sh outs) (n:Nat):LC:={ sh:=sh,outs:=outs,F:=q0i (F n) n }
@[reducible] def noLC:LC:=⟨⟨[],[],[]⟩,[],fun _=>none⟩
def jhb (P:Program) (n:Nat) (ct:List FC) (lts:List LC) (dh:q1m) (c:Code) (j:Nat) (L:LC):Prop :=
 (∀p,L.F p=none) \/ ∃ (step:Stp L.sh L.outs) (fuel:Nat),(∀p,L.F p=q0i step fuel p)/\∀rec p,step rec p=round P n ct lts dh (j+1) L.sh L.outs (q1d 0 j c) rec p
def jqi (P:Program) (n:Nat) (ct:List FC) (lts:List LC) (dh:q1m) (c:Code):Nat->List LC->Prop
 | _,[]=>True
 | j,L::r=>jhb P n ct lts dh c j L/\jqi P n ct lts dh c (j+1) r
theorem ls {n:Nat} {ct:List FC} {lts:List LC} {dh:q1m} {c:Code} {j:Nat} {sh:SSt} {outs:List (Exit×SSt)} {F:Nat->Stp sh outs} {m:Nat}
  (h : ∀rec p,F m rec p=round P n ct lts dh (j+1) sh outs (q1d 0 j c) rec p):jhb P n ct lts dh c j (q3x F m):=Or.inr ⟨F m,m,fun _=>rfl,h⟩
theorem l0 {n:Nat} {ct:List FC} {lts:List LC} {dh:q1m} {c:Code} {j:Nat} : jhb P n ct lts dh c j noLC:=Or.inl fun _=>rfl
theorem j5a {n:Nat} {ct:List FC} {lts:List LC} {dh:q1m} {c:Code} : ∀{l:List LC} {j k:Nat} {L:LC},jqi P n ct lts dh c j l->nth l k=some L->jhb P n ct lts dh c (j+k) L
 | [],_,_,_,_,h=>by cases h
 | L0::r,j,0,L,h,hn=>by
  obtain rfl:L0=L:=Option.some.inj hn
  exact h.1
 | L0::r,j,k+1,L,h,hn=>by
  have:=j5a (l:=r) (k:=k) h.2 hn
  rwa [show j+1+k=j+(k+1) by omega] at this
theorem jkd {F:Fr} {n:Nat} {ct:List FC} {lts:List LC} {dh:q1m} {c:Code} (hnF:F.n=n) (hm:P.follows .mixedOrders=true) (hct : ∀c∈ct,qyj P F.G c/\qgq c.args=true) (hdr:drB dh c=true) (h:jqi P n ct lts dh c 0 lts):LOk P F lts 0 c:=by
 have key : ∀m j,nl c - j<=m->j<nl c->∀L,nth lts j=some L->LCok P F L (q1d 0 j c):=by
  intro m
  induction m with
  | zero=>intro j h1 h2;omega
  | succ m ih =>
   intro j h1 h2 L hL
   have h3:=j5a h hL
   rw [Nat.zero_add] at h3
   rcases h3 with h3|⟨step,fuel,h4,h5⟩
   ·intro p o hp;rw [h3] at hp;cases hp
   ·refine jni hnF hm hct h5 h4 (jlf fun k L' g1 g2 g3=>?_) (jri hdr)
    obtain ⟨e1,e2⟩:=je2 (Nat.zero_le j) (by omega) g1 g2
    rw [e1]
    exact ih k (by omega) (by omega) L' g3
 exact jlf fun j L _ h2 h3=>key _ j (Nat.le_refl _) (by omega) L h3
def chkF (P:Program) (f:Nat) (fn:Func) (args:List SD) (dh:q1m):Bool:=fn.body.isSome&&(Nat.ble args.length fn.ntmps&&(Nat.ble fn.ntmps 2000000&&(q5h P f&&(P.follows .mixedOrders&&(drB dh (qe7 fn)&&qgq args)))))
theorem mkF {f:Nat} {fn:Func} {args:List SD} {res:SD} {F:pDs args->Option (pD res)} {ct:List FC} (hf:P.funcs[f]? = some fn) (dh:q1m) (lts:List LC) (hct:qy2 I P ct) (hc:chkF P f fn args dh=true)
  (hl:jqi P fn.ntmps ct lts dh (qe7 fn) 0 lts) (heq : ∀a,F a=main P fn.ntmps ct lts dh (qe7 fn) fn.results.toList args res a):q09 I P { f:=f,args:=args,res:=res,F:=F }:=by
 intro G hG
 unfold chkF at hc
 simp only [Bool.and_eq_true] at hc
 obtain ⟨hb,hn,hn2,hh,hm,hd,ht⟩:=hc
 obtain ⟨c,hc⟩:=Option.isSome_iff_exists.1 hb
 have e1:qe7 fn=c:=by unfold qe7;rw [hc];rfl
 refine ⟨⟨hh,fun a r h=>?_⟩,ht⟩
 rw [e1] at hd hl heq
 exact jnc hf hc rfl (Nat.le_of_ble_eq_true hn) hG.st hm rfl (hct G hG) (fun F hF hFG=>jkd hF hm (by rw [hFG];exact hct G hG) hd hl) hd ((heq a).symm.trans h)
theorem mkX {x:FX} {fn:Func} {ct:List FC} (hf:P.funcs[x.f]? = some fn) (dh:q1m) (lts:List LC) (hct:qy2 I P ct) (hc:chkF P x.f fn x.args dh=true)
  (hl:jqi P fn.ntmps ct lts dh (qe7 fn) 0 lts) (heq : ∀a,x.F a=jmd P fn.ntmps ct lts dh (qe7 fn) fn.results.toList x.args x.boxes x.rows x.res x.oboxes x.orows a):q88 I P x:=by
 intro G hG
 unfold chkF at hc
 simp only [Bool.and_eq_true] at hc
 obtain ⟨hb,hn,hn2,hh,hm,hd,ht⟩:=hc
 obtain ⟨c,hc⟩:=Option.isSome_iff_exists.1 hb
 have e1:qe7 fn=c:=by unfold qe7;rw [hc];rfl
 rw [e1] at hd hl heq
 exact ⟨hh,fun a r h=>jhl hf hc rfl (Nat.le_of_ble_eq_true hn) (Nat.le_of_ble_eq_true hn2) hm rfl (hct G hG) (fun F hF hFG=>jkd hF hm (by rw [hFG];exact hct G hG) hd hl) hd ((heq a).symm.trans h)⟩
end Go.Proofs.YtlkpgcifpnppeaaGreatDoor.AM
namespace Go.Proofs.YtlkpgcifpnppeaaGreatDoor.AM
open Go.RowKit Go.ChangeShapes Go.WideShapes Go.ChangeAt
def j82:Ty->List Sh
 | .int k=>[.int k]
 | .bool=>[.bool]
 | .str=>[.str]
 | .lst e=>[.lst (j82 e)]
 | .prod a b=>j82 a++j82 b
 | .any=>[.bool]
 | .unit=>[]
theorem qjd : ∀ty:Ty,(j82 ty).length=width ty
 | .int _=>rfl
 | .bool=>rfl
 | .str=>rfl
 | .lst _=>rfl
 | .prod a b=>by rw [j82,List.length_append,qjd a,qjd b];rfl
 | .any=>rfl
 | .unit=>rfl
def q4g:(ty:Ty)->den ty->Prop
 | .int k,(n:Int)=>(Lit.int k n).wf=true
 | .bool,_=>True
 | .str,(s:Yy)=>s.length<=maxLen
 | .lst e,(l:List (den e))=>l.length<=maxLen/\∀x∈l,q4g e x
 | .prod a b,(p:den a×den b)=>q4g a p.1/\q4g b p.2
 | .any,_=>True
 | .unit,_=>True
theorem q52.split : ∀{ss ss':List Sh} {ds:List Dat},q52 (ss++ss') ds->∃ d1 d2,ds=d1++d2/\q52 ss d1/\q52 ss' d2
 | [],ss',ds,h=>⟨[],ds,rfl,by unfold q52;trivial,h⟩
 | s::ss,ss',[],h=>by rw [List.cons_append] at h;unfold q52 at h;exact h.elim
 | s::ss,ss',d::ds,h=>by
  rw [List.cons_append] at h
  unfold q52 at h
  obtain ⟨d1,d2,rfl,h1,h2⟩:=q52.split h.2
  exact ⟨d::d1,d2,rfl,by unfold q52;exact ⟨h.1,h1⟩,h2⟩
theorem jcj {α β:Type} {p:α->Prop} {f:α->β} : ∀{xs:List β},(∀x∈xs,∃ s,x=f s/\p s)->∃ l:List α,xs=l.map f/\∀s∈l,p s
 | [],_=>⟨[],rfl,fun _ h=>by cases h⟩
 | x::xs,h=>by
  obtain ⟨s,rfl,hs⟩:=h x List.mem_cons_self
  obtain ⟨l,rfl,hl⟩:=jcj (fun y hy=>h y (List.mem_cons_of_mem _ hy))
  exact ⟨s::l,rfl,fun y hy=>by
   rcases List.mem_cons.1 hy with rfl|hy
   ·exact hs
   ·exact hl y hy⟩
theorem qmb {s:Sh} {ds:List Dat} (h:q52 [s] ds) : ∃ x,ds = [x]/\Typ s x:=by
 cases ds with
 | nil=>unfold q52 at h;exact h.elim
 | cons x ds =>
  unfold q52 at h
  obtain ⟨h1,h2⟩:=h
  cases ds with
  | nil=>exact ⟨x,rfl,h1⟩
  | cons y ds=>unfold q52 at h2;exact h2.elim
theorem qmz : ∀(ty:Ty) (ds:List Dat),q52 (j82 ty) ds->∃ x:den ty,ds=q01 ty x/\q4g ty x
 | .int k,ds,h=>by
  obtain ⟨x,rfl,g⟩:=qmb h
  cases x with
  | v x=>obtain ⟨n,rfl,hn⟩:=g;exact ⟨n,rfl,hn⟩
  | lst sz xs=>exact g.elim
 | .bool,ds,h=>by
  obtain ⟨x,rfl,g⟩:=qmb h
  cases x with
  | v x=>obtain ⟨b,rfl⟩:=g;exact ⟨b,rfl,trivial⟩
  | lst sz xs=>exact g.elim
 | .str,ds,h=>by
  obtain ⟨x,rfl,g⟩:=qmb h
  cases x with
  | v x =>
   obtain ⟨s,rfl,hs⟩:=g
   refine ⟨s.data.toList,?_,?_⟩
   ·show _ = [Dat.v (.string (ba s.data.toList))]
    have:ba s.data.toList=s:=by cases s;simp [ba]
    rw [this]
   ·show s.data.toList.length<=maxLen
    rw [Array.length_toList];exact hs
  | lst sz xs=>exact g.elim
 | .lst e,ds,h=>by
  obtain ⟨x,rfl,g⟩:=qmb h
  cases x with
  | v x=>exact g.elim
  | lst sz xs =>
   obtain ⟨rfl,h1,h2⟩:sz=(j82 e).length/\xs.length<=maxLen/\∀x∈xs,q52 (j82 e) x:=by unfold Typ at g;exact g
   obtain ⟨l,rfl,hl⟩:=jcj (f:=q01 e) (p:=q4g e) (fun x hx=>qmz e x (h2 x hx))
   refine ⟨l,?_,⟨by simpa using h1,hl⟩⟩
   show [Dat.lst (j82 e).length _] = [Dat.lst (width e) _]
   rw [qjd]
 | .prod a b,ds,h=>by
  obtain ⟨d1,d2,rfl,h1,h2⟩:=q52.split h
  obtain ⟨x,rfl,hx⟩:=qmz a d1 h1
  obtain ⟨y,rfl,hy⟩:=qmz b d2 h2
  exact ⟨(x,y),rfl,hx,hy⟩
 | .unit,[],_=>⟨(),rfl,trivial⟩
 | .unit,_::_,h=>by unfold q52 at h;exact h.elim
 | .any,ds,h=>by
  obtain ⟨x,rfl,g⟩:=qmb (s:=.bool) h
  cases x with
  | v x=>obtain ⟨b,rfl⟩:=g;exact ⟨(⟨.bool b,rfl⟩:IV),rfl,trivial⟩
  | lst sz xs=>exact g.elim
variable {H:Type} {enc:TypeId×Value->H} {P:Program} {W:World}
def qyx (ty:Ty) (w:World) (v:Value):Prop:=∃ x:den ty,q4g ty x/\q1l (q57 (Old w)) q7p w v (jph false (q01 ty x))
def IsTa (ty:Ty) (w:World) (v:Value):Prop:=∃ x:den ty,q4g ty x/\q1l (q57 (Old w)) q7p w v (jph true (q01 ty x))
theorem q3c {base:Nat} {t:TypeId} (ty:Ty) {v:Value} {d:DataW H} {p:List MemPlace} (hs:shapeOf P 8 t=some (j82 ty)) (hw:width ty=1) (ha:qn8 P t=some false)
  (hv:Value.okWide P W .any base t v) (h:DataW.Trod enc P W 0 (fun _=>true) true t v d p):qyx ty W v:=by
 have hl:=qjd ty
 rw [hw] at hl
 obtain ⟨s,e1⟩ : ∃ s,j82 ty = [s]:=by
  cases h1:j82 ty with
  | nil=>rw [h1] at hl;cases hl
  | cons s l=>cases l with
   | nil=>exact ⟨s,rfl⟩
   | cons _ _=>rw [h1] at hl;simp at hl
 rw [e1] at hs
 obtain ⟨x,h1,h2⟩:=jgb hs ha hv h
 obtain ⟨y,h3,h4⟩:=qmz ty [x] (by rw [e1];unfold q52;exact ⟨h1,by unfold q52;trivial⟩)
 exact ⟨y,h4,by rw [<-h3];exact h2⟩
theorem j1f {base:Nat} {t:TypeId} {fs:Array Field} (ty:Ty) {v:Value} {d:DataW H} {p:List MemPlace} (hs:shapeOf P 8 t=some (j82 ty)) (hu:P.underlying t=some (.struct fs))
  (hv:Value.okWide P W .any base t v) (h:DataW.Trod enc P W 0 (fun _=>true) true t v d p):IsTa ty W v:=by
 obtain ⟨ds,h1,h2⟩:=jj9 hs hu hv h
 obtain ⟨y,rfl,h4⟩:=qmz ty ds h1
 exact ⟨y,h4,h2⟩
def unB (b:ByteArray):Yy:=b.data.toList
theorem jla (b:ByteArray):ba (unB b)=b:=by cases b;simp [ba,unB]
theorem jmr (w:World) (Pc:Nat->Nat->Prop) (k:IntKind) (n:Int):q1l (q57 Pc) q7p w (.int k n) (jph false (q01 (.int k) n)):=q04 _
end Go.Proofs.YtlkpgcifpnppeaaGreatDoor.AM
namespace Go.Proofs.YtlkpgcifpnppeaaGreatDoor.AM
open Go.RowKit
def spl (c:UInt8):Yy->Yy->List Yy
 | cur,[]=>[cur]
 | cur,b::l=>if b=c then cur::spl c [] l else spl c (cur ++ [b]) l
theorem j54 (c:UInt8) : ∀(l:Yy),∃ h t,∀cur,spl c cur l=(cur++h)::t
 | []=>⟨[],[],fun cur=>by simp [spl]⟩
 | b::l=>by
  obtain ⟨h,t,ih⟩:=j54 c l
  by_cases hb:b=c
  ·exact ⟨[],spl c [] l,fun cur=>by simp [spl,hb]⟩
  ·exact ⟨b::h,t,fun cur=>by rw [spl,if_neg hb,ih];simp⟩
theorem index_self (c:UInt8) (l:Yy):Lib.index (c::l) [c]=((0:Nat):Int):=by rw [Lib.index];simp [List.isPrefixOf]
theorem jh0 {b c:UInt8} (h:b≠c) (l:Yy):Lib.index (b::l) [c]=if Lib.index l [c] == -1 then -1 else Lib.index l [c]+1:=by
 have hp:([c]:Yy).isPrefixOf (b::l)=false:=by simp [List.isPrefixOf,Ne.symm h]
 rw [Lib.index,hp];simp
theorem q8e (c:UInt8) : ∀(s:Yy),Lib.splitK [c] 0 (Lib.count s [c]) s=spl c [] s
 | []=>by
  rw [Lib.count_miss (by simp [Lib.index])];rfl
 | b::l=>by
  have ih:=q8e c l
  by_cases hb:b=c
  ·subst hb
   rw [Lib.count_cons_eq,Nat.add_comm,Lib.splitK,index_self]
   simp only [spl,if_true]
   rw [<-ih]
   simp
  ·obtain ⟨h,t,hs⟩:=j54 c l
   rw [spl,if_neg hb,List.nil_append,hs [b],Lib.count_cons_ne b c l hb]
   rw [hs []] at ih
   by_cases hm:Lib.index l [c] = -1
   ·rw [Lib.count_miss hm] at ih ⊢
    simp only [Lib.splitK,List.nil_append,List.cons.injEq] at ih ⊢
    obtain ⟨rfl,rfl⟩:=ih
    exact ⟨rfl,rfl⟩
   ·have hge:=Lib.index_ge l [c]
    obtain ⟨j,hj⟩ : ∃ j:Nat,Lib.index l [c]=j:=⟨(Lib.index l [c]).toNat,by omega⟩
    have hix':Lib.index (b::l) [c]=((j+1:Nat):Int):=by rw [jh0 hb,if_neg (fun e=>hm (beq_iff_eq.1 e)),hj];omega
    obtain ⟨k,hk⟩ : ∃ k,Lib.count l [c]=k+1:=by rw [Lib.count_hit (by simp) hj];exact ⟨_,Nat.add_comm _ _⟩
    rw [hk] at ih ⊢
    have n1 : ¬ (Lib.index l [c] == -1)=true:=fun e=>hm (beq_iff_eq.1 e)
    have n2 : ¬ (Lib.index (b::l) [c] == -1)=true:=fun e=>by have:=beq_iff_eq.1 e;omega
    rw [Lib.splitK,if_neg n1,hj] at ih
    rw [Lib.splitK,if_neg n2,hix']
    simp only [Int.toNat_natCast,List.nil_append,List.cons.injEq,List.length_cons,List.length_nil,Nat.add_zero] at ih ⊢
    obtain ⟨rfl,rfl⟩:=ih
    refine ⟨?_,?_⟩
    ·rw [show j+1=j.succ from rfl,List.take_succ_cons];rfl
    ·rw [show j+1+(0+1)=(j+(0+1)).succ from by omega,List.drop_succ_cons]
theorem ja7 (c:UInt8) (s:Yy):(Lib.splitB (ba [c]) 0 (Lib.countB (ba s) (ba [c])) (ba s)).map unB=spl c [] s:=by
 have h:=Lib.splitB_data (ba [c]) 0 (Lib.countB (ba s) (ba [c])) (ba s)
 have e1:(ba [c]).data.toList = [c]:=by simp [ba]
 have e2:(ba s).data.toList=s:=by simp [ba]
 have e3:Lib.countB (ba s) (ba [c])=Lib.count s [c]:=by show Lib.count _ _=_;rw [e1,e2]
 rw [e1,e2,e3,q8e] at h
 rw [e3,<-h]
 rfl
theorem j78 (c:UInt8) : ∀(l cur r:Yy),c ∉ l->spl c cur (l++r)=spl c (cur++l) r
 | [],cur,r,_=>by simp
 | b::l,cur,r,h=>by
  rw [List.cons_append,spl,if_neg (fun e=>h (by simp [e])),j78 c l _ r (fun e=>h (by simp [e]))]
  simp
theorem q6i (c:UInt8) : ∀(l cur:Yy),1<=(spl c cur l).length/\(spl c cur l).length<=l.length+1
 | [],cur=>by simp [spl]
 | b::l,cur=>by
  rw [spl]
  split
  ·have:=q6i c l [];simp;omega
  ·have:=q6i c l (cur ++ [b]);simp;omega
theorem q9a (c:UInt8) : ∀(l cur x:Yy),x∈spl c cur l->x.length<=cur.length+l.length
 | [],cur,x,h=>by simp [spl] at h;subst h;simp
 | b::l,cur,x,h=>by
  rw [spl] at h
  split at h
  ·rcases List.mem_cons.1 h with rfl|h
   ·simp
   ·have:=q9a c l [] x h;simp at this ⊢;omega
  ·have:=q9a c l _ x h;simp at this ⊢;omega
end Go.Proofs.YtlkpgcifpnppeaaGreatDoor.AM
namespace Go.Proofs
open Go.RowKit Go.Shelf Go.Lib
attribute [local go_sem] Oper.semAt_some
shelf_lay LaysM.n143 Nm 143 at Tryz as Tryz.laysIndex
namespace YtlkpgcifpnppeaaGreatDoor.AM
theorem j4j (c:UInt8) (r:List UInt8) (h:Lib.index r [c] = -1):spl c [] r = [r]:=by
 rw [<-q8e,Lib.count_miss h];rfl
theorem jor (c:UInt8) (r:List UInt8) (i:Nat) (h:Lib.index r [c]=(i:Int)):spl c [] r=r.take i::spl c [] (r.drop (i+1)):=by
 have n1 : ¬ (Lib.index r [c] == -1)=true:=fun e=>by have:=beq_iff_eq.1 e;omega
 rw [<-q8e,Lib.count_hit (by simp) h,Nat.add_comm,Lib.splitK,if_neg n1,h]
 simp only [Int.toNat_natCast,Nat.add_zero,List.length_cons,List.length_nil,Nat.zero_add]
 rw [q8e]
theorem jh1 (c:UInt8) (r:List UInt8) (i:Nat) (h:Lib.index r [c]=(i:Int)):i<r.length:=by
 have:=Lib.index_room r [c] (by omega)
 rw [h] at this
 simp at this
 omega
def jlw (p:Nat) (w:World):Nat:=match w.cell? ⟨p,0,none⟩ with
 | some (.string b)=>b.size
 | _=>0
theorem qou (s sep:ByteArray) (w:World):Calls Tryz.prog 131 #[.string s,.string sep,.int .i64 0] w fun e w' =>
  e = .returned (.func (.func 151) #[] #[.pointer (some ⟨w.heap.size+1,0,none⟩),.pointer (some ⟨w.heap.size,0,none⟩),.pointer (some ⟨w.heap.size+2,0,none⟩)])/\w'=((w.alloc (.cells #[.string s] 9)).alloc (.cells #[.string sep] 9)).alloc (.cells #[.int .i64 0] 3):=by
 go_enter Tryz.func131,Tryz.ntmps131
 go_wp2
 go_ret
 exact ⟨rfl,rfl⟩
theorem q4k (s sep:ByteArray) (w:World):Calls Tryz.prog 111 #[.string s,.string sep] w fun e w' =>
  e = .returned (.func (.func 151) #[] #[.pointer (some ⟨w.heap.size+1,0,none⟩),.pointer (some ⟨w.heap.size,0,none⟩),.pointer (some ⟨w.heap.size+2,0,none⟩)])/\w'=((w.alloc (.cells #[.string s] 9)).alloc (.cells #[.string sep] 9)).alloc (.cells #[.int .i64 0] 3):=by
 go_enter Tryz.func111,Tryz.ntmps111
 go_wp2_with (go_at_call 131;refine (qou s sep w).mono ?_;rintro e w' ⟨rfl,rfl⟩)
 go_ret
 exact ⟨rfl,rfl⟩
theorem qmo (r:List UInt8) (c:UInt8) (w:World) (m:Int) (hr:r.length<4294967281) (hm:w.cell? ⟨Tryz.laysIndex_ren.g 1,0,none⟩=some (.int .i64 m)) :
  Calls Tryz.prog 149 #[.string (ba r),.string (ba [c])] w fun e w'=>e = .returned (.int .i64 (Lib.index r [c]))/\w=w':=by
 have e1:(ba r).data.toList=r:=by simp [ba]
 have e2:(ba [c]).data.toList = [c]:=by simp [ba]
 have h:=Any.strings_Index { Tryz.laysIndex with } (ba r) (ba [c]) m w (by rw [q44];exact hr) hm
 rw [e1,e2] at h
 exact h.mono fun e w' ⟨h1,h2⟩=>⟨h1,h2.symm⟩
def Capt (pP pC:Nat) (c:UInt8) (W:World):Prop:=W.cell? ⟨pP,0,none⟩=some (.string (ba [c]))/\W.cell? ⟨pC,0,none⟩=some (.int .i64 0)/\∃ m,W.cell? ⟨Tryz.laysIndex_ren.g 1,0,none⟩=some (.int .i64 m)
def Left (pS:Nat) (r:List UInt8) (W:World):Prop:=W.cell? ⟨pS,0,none⟩=some (.string (ba r))/\W.frozen? ⟨pS,0,none⟩=false
theorem j4r {pS:Nat} {r:List UInt8} {W:World} (h:Left pS r W):jlw pS W=r.length:=by
 unfold jlw;rw [h.1];exact q44 r
set_option maxHeartbeats 2000000 in
theorem jpv (n l:Nat) (hn:2<=n) (c:UInt8) (pS pP pC:Nat) (J Jx:List (List UInt8)->World->Prop) (s:List UInt8) (hs:s.length<4294967281)
  (hJ : ∀pre W v,J pre W->J pre (W.setCell ⟨pS,0,none⟩ v)) (hC : ∀pre W,J pre W->Capt pP pC c W)
  (hY : ∀pre x r W,J pre W->Left pS r W->x.length<=s.length->YieldAt Fence.wide (n - 1) Tryz.prog l #[.string (ba x)] W fun e W' =>
   (e = .returned (.bool true)/\J (pre ++ [x]) W'/\Left pS r W')\/(e = .returned (.bool false)/\Jx (pre ++ [x]) W'))
  (W:World) (h0:J [] W) (hL:Left pS s W) :
  CallsIn Fence.wide n Tryz.prog 151 #[.func (.yield l) #[] #[],.pointer (some ⟨pP,0,none⟩),.pointer (some ⟨pS,0,none⟩),.pointer (some ⟨pC,0,none⟩)] W fun e W' =>
   (∃ v,e = .returned v)/\(J (spl c [] s) W' \/ ∃ pre x t,spl c [] s=pre++x::t/\Jx (pre ++ [x]) W'):=by
 refine callsIn_of_wp Tryz.func151 rfl trivial ?_ rfl
 simp only [Tryz.ntmps151,List.size_toArray,List.length_cons,List.length_nil,Nat.reduceAdd,Nat.reduceSub,Array.replicate_succ,Array.replicate_zero,List.push_toArray,List.append_toArray,List.nil_append,List.cons_append]
 obtain ⟨cP,cC,m0,cM⟩:=hC [] W h0
 have hb1:(ba [c]).size=1:=q44 [c]
 gi_wp2
 gi_loopw [] (fun wr=>∃ (pre:List (List UInt8)) (r:List UInt8),spl c [] s=pre++spl c [] r/\r.length<=s.length/\J pre wr/\Left pS r wr) (fun wr=>jlw pS wr)
 case atStart=>exact ⟨[],s,rfl,Nat.le_refl _,h0,hL⟩
 case round =>
  obtain ⟨pre,r,hsp,hrl,hJr,hLr⟩:=hrel
  obtain ⟨dP,dC,m,dM⟩:=hC pre wr hJr
  obtain ⟨dS,dF⟩:=hLr
  have hbr:(ba r).size=r.length:=q44 r
  by_cases hix:Lib.index r [c] = -1
  ·obtain ⟨fn,tmps,assign,body,hy,hR⟩:=hY pre r r wr hJr ⟨dS,dF⟩ hrl
   gi_wp2_with (refine ⟨trivial,fun h=>(by cases h),?_⟩;gi_at_call 149;refine (callsIn_wide.2 (qmo r c wr m (by omega) dM)).mono ?_;rw [hix];rintro e w' ⟨rfl,rfl⟩)
   refine ⟨fun h=>(by cases h),hR.mono ?_⟩
   rintro e W' (⟨rfl,hJ3,hL3⟩|⟨rfl,hJx⟩)
   ·gi_wp2
    go_end0
    exact ⟨⟨_,rfl⟩,.inl (by rw [hsp,j4j c r hix];exact hJ3)⟩
   ·gi_wp2
    go_end0
    exact ⟨⟨_,rfl⟩,.inr ⟨pre,r,[],by rw [hsp,j4j c r hix],hJx⟩⟩
  ·have hge:=Lib.index_ge r [c]
   obtain ⟨i,hi⟩ : ∃ i:Nat,Lib.index r [c]=(i:Int):=⟨(Lib.index r [c]).toNat,by omega⟩
   have hlt:=jh1 c r i hi
   have b1:((i:Nat):Int)<=(((ba r).size:Nat):Int):=by omega
   have x1:(ba r).extract 0 i=ba (r.take i):=by rw [qg9];simp
   obtain ⟨fn,tmps,assign,body,hy,hR⟩:=hY pre (r.take i) r wr hJr ⟨dS,dF⟩ (by rw [List.length_take];omega)
   gi_wp2_with (refine ⟨trivial,fun h=>(by cases h),?_⟩;gi_at_call 149;refine (callsIn_wide.2 (qmo r c wr m (by omega) dM)).mono ?_;rw [hi];rintro e w' ⟨rfl,rfl⟩)
   have hsp2:=jor c r i hi
   refine ⟨fun h=>(by cases h),hR.mono ?_⟩
   rintro e W' (⟨rfl,hJ3,hL3⟩|⟨rfl,hJx⟩)
   ·obtain ⟨eP,eC,m',eM⟩:=hC _ W' hJ3
    obtain ⟨eS,eF⟩:=hL3
    have b2:((i:Nat):Int)+1<=(((ba r).size:Nat):Int):=by omega
    have x2:(ba r).extract (i+1) r.length=ba (r.drop (i+1)):=by
     rw [qg9,List.take_of_length_le (by rw [List.length_drop];exact Nat.le_refl _)]
    gi_wp2
    have hL4:Left pS (r.drop (i+1)) (W'.setCell ⟨pS,0,none⟩ (.string (ba (r.drop (i+1))))):=⟨World.cell?_setCell_same' _ _ _ (by rw [eS];rfl),by rw [World.frozen?_setCell];exact eF⟩
    exact ⟨⟨pre ++ [r.take i],r.drop (i+1),by rw [hsp,hsp2];simp,by rw [List.length_drop];omega,hJ _ _ _ hJ3,hL4⟩,by rw [j4r hL4,j4r ⟨dS,dF⟩,List.length_drop];omega⟩
   ·gi_wp2
    refine bodyPost_ret (results_none rfl _ _ _) rfl ?_
    exact ⟨⟨_,rfl⟩,.inr ⟨pre,r.take i,spl c [] (r.drop (i+1)),by rw [hsp,hsp2],hJx⟩⟩
def jio (I Ix:List (List UInt8)->World->Prop) (pS:Nat) (r:List UInt8) (xs:List (List UInt8)) (W:World):Exit->Act->World->Prop
 | .normal,_,W'=>KeepsOthers W W'/\I xs W'/\Left pS r W'
 | .ret,_,W'=>KeepsOthers W W'/\Ix xs W'
 | _,_,_=>False
theorem q8r {B:Nat} {a:Addr} {v:Value} {W W':World} {row:Option Nat} (h:W.cell? a=some v) (hg:W.grownBy W' row) (hr : ∀r,row=some r->B<=r/\∃ o:Obj,W.heap[r]? = some o/\o.isCells=false):W'.cell? a=some v :=
 cell_kept h hg (fun r e=>(hr r e).2)
theorem qjw {B pS:Nat} {r:List UInt8} {W W':World} {row:Option Nat} (h:Left pS r W) (hg:W.grownBy W' row) (hr : ∀r,row=some r->B<=r/\∃ o:Obj,W.heap[r]? = some o/\o.isCells=false):Left pS r W' :=
 ⟨q8r h.1 hg hr,(frozen_kept h.1 hg (fun r e=>(hr r e).2)).trans h.2⟩
theorem range_split {n:Nat} (hn:4<=n) {g:Operand} {p:Tmp} {assign body:Code} {Q:Exit->Act->World->Prop} {a:Act} {w:World} (c:UInt8) (pS pP pC:Nat) (s:List UInt8) (hs:s.length<4294967281)
  (hg:a.eval g = .func (.func 151) #[] #[.pointer (some ⟨pP,0,none⟩),.pointer (some ⟨pS,0,none⟩),.pointer (some ⟨pC,0,none⟩)]) (hL:Left pS s w)
  (I Ix:List (List UInt8)->World->Prop) (hI:OwnFrom w.heap.size I) (hIx:OwnFrom w.heap.size Ix) (hC : ∀pre W,I pre W->Capt pP pC c W) (hSt : ∀pre W v,I pre W->I pre (W.setCell ⟨pS,0,none⟩ v)) (h0:I [] w)
  (a₁:List UInt8->Act)
  (hassign : ∀(l:Nat) (x:List UInt8) (W:World) (K:Act->World->Prop),K (a₁ x) W ->
   assign.wpIn (Fence.wide.inRound l) (n - 1 - 1) Tryz.prog (Exit.then K (fun _ _ _=>False)) { tmps:=a.tmps.setIfInBounds p (.string (ba x)),defers:=[] } W)
  (hbody : ∀(l:Nat) (pre:List (List UInt8)) (x r:List UInt8) (W:World),I pre W->Left pS r W->x.length<=s.length->body.wpIn (Fence.wide.inRound l) (n - 1 - 1) Tryz.prog (jio I Ix pS r (pre ++ [x]) W) (a₁ x) W)
  (hdone : ∀(D:Nat) (W:World),w.heap.size<=D->I (spl c [] s) W->W.heap[D]? = some (.deferred (some []))->Q .normal { a with defers:={ target:=.collected D,args:=#[] } :: a.defers } W)
  (hstop : ∀(D:Nat) (pre:List (List UInt8)) (x:List UInt8) (t:List (List UInt8)) (W:World),w.heap.size<=D->spl c [] s=pre++x::t->Ix (pre ++ [x]) W->W.heap[D]? = some (.deferred (some []))->Q .ret { a with defers:={ target:=.collected D,args:=#[] } :: a.defers } W) :
  (Code.rangeFunc g #[p] assign body).wpIn Fence.wide n Tryz.prog Q a w:=by
 refine wpIn_rangeFunc fun fn hfn=>?_
 generalize hrec:(fun st pe=>({ state:=st,pending:=pe,fn,tmps:=a.tmps,params:=#[p],assign,body,defers:=w.heap.size } : Loop))=rec
 have hr1 : ∀st pe,rec st pe = { state:=st,pending:=pe,fn,tmps:=a.tmps,params:=#[p],assign,body,defers:=w.heap.size }:=fun st pe=>by rw [<-hrec]
 generalize hW1:(w.alloc (.deferred (some []))).alloc (.loop (rec .ready none))=W1
 have hk1:W1.heap[w.heap.size]? = some (.deferred (some [])):=by
  rw [<-hW1];exact (Below.heap_alloc _ _ _ (by simp)).trans (World.alloc_heap_new w _)
 have hl1:W1.heap[w.heap.size+1]? = some (.loop (rec .ready none)):=by
  have:=World.alloc_heap_new (w.alloc (.deferred (some []))) (.loop (rec .ready none))
  rw [World.size_alloc] at this
  rw [<-hW1];exact this
 have hi1:I [] W1:=by rw [<-hW1];exact hI.alloc _ (hI.alloc _ h0)
 have hL1:Left pS s W1:=by
  rw [<-hW1]
  exact qjw (qjw hL (World.grownBy_alloc w _ none) (B:=0) (fun r e=>by cases e)) (World.grownBy_alloc _ _ none) (B:=0) (fun r e=>by cases e)
 have keep : ∀{W:World} {k:Nat} {o:Obj} {v:Value},W.heap[k]? = some o->o.isCells=false->(W.setCell ⟨pS,0,none⟩ v).heap[k]? = some o:=fun h ho=>(KeepsOthers.setCell _ _ _).same _ _ h ho
 refine ⟨w.heap.size+1,[{ target:=.collected w.heap.size,args:=#[] }],W1,{ target:=.fn (.func 151) #[.pointer (some ⟨pP,0,none⟩),.pointer (some ⟨pS,0,none⟩),.pointer (some ⟨pC,0,none⟩)],args:=#[.func (.yield (w.heap.size+1)) #[] #[]] },W1,151,
  #[.func (.yield (w.heap.size+1)) #[] #[],.pointer (some ⟨pP,0,none⟩),.pointer (some ⟨pS,0,none⟩),.pointer (some ⟨pC,0,none⟩)],W1,?_,?_,fun _ _=>trivial,?_,(fun h=>by cases h),?_⟩
 ·rw [<-hW1,hr1];exact run_enterLoop_outer _ _ _ _ _
 ·simp only [resolve,hg]
  simp [go_sem]
 ·have eg : ∀args w,(callFunc 151 args).run Tryz.prog w = .ok (.enter 151 args) w:=enters_of Tryz.func151 (by kernel_rfl) rfl
  simp [invoke,go_sem,eg]
 ·refine (jpv (n - 1) (w.heap.size+1) (by omega) c pS pP pC
   (fun pre W=>I pre W/\W.heap[w.heap.size+1]? = some (.loop (rec .ready none))/\W.heap[w.heap.size]? = some (.deferred (some [])))
   (fun pre W=>Ix pre W/\W.heap[w.heap.size+1]? = some (.loop (rec .done (some .ret)))/\W.heap[w.heap.size]? = some (.deferred (some [])))
   s hs (fun pre W v h=>⟨hSt pre W v h.1,keep h.2.1 rfl,keep h.2.2 rfl⟩) (fun pre W h=>hC pre W h.1) ?_ W1 ⟨hi1,hl1,hk1⟩ hL1).mono ?_
  ·rintro pre x r W ⟨hi,hl,hk⟩ hLr hx
   have hy:=run_yield (P:=Tryz.prog) (args:=#[.string (ba x)]) hl (by rw [hr1];rfl)
   rw [hr1] at hy
   have hz:(Array.zip #[p] #[Value.string (ba x)]).foldl (fun tmps (t,a)=>tmps.setIfInBounds t a) a.tmps=a.tmps.setIfInBounds p (.string (ba x)):=by simp
   dsimp only at hy
   rw [hz] at hy
   refine ⟨fn,_,assign,body,hy,roundIn_of_wpIn hfn (hassign _ x W _ ?_)⟩
   refine ⟨_,run_beginRound hl (by rw [hr1]),?_⟩
   have hlt:w.heap.size+1<W.heap.size:=(Array.getElem?_eq_some_iff.1 hl).1
   generalize hW2:W.putObj (w.heap.size+1) (.loop { rec .ready none with state:=.busy })=W2
   have hl2:W2.heap[w.heap.size+1]? = some (.loop { rec .ready none with state:=.busy }):=by rw [<-hW2];exact World.putObj_heap_same hlt
   have hk2:W2.heap[w.heap.size]? = some (.deferred (some [])):=by rw [<-hW2];exact (World.putObj_heap_other (by omega)).trans hk
   have hi2:I pre W2:=by rw [<-hW2];exact hI.putObj _ hi (by omega) hl rfl
   have hL2:Left pS r W2:=by rw [<-hW2];exact qjw hLr (grownBy_putObj' _ _ _) (B:=0) (fun r e=>by cases e;exact ⟨Nat.zero_le _,_,hl,rfl⟩)
   have fin : ∀(jump:Option Code) (W3:World),KeepsOthers W2 W3->(Instr.endRound (w.heap.size+1) jump).run Tryz.prog W3 = .ok (.bool jump.isNone) (W3.putObj (w.heap.size+1) (.loop (rec (if jump.isNone then .ready else .done) jump))) /\
     W3.heap[w.heap.size+1]? = some (.loop { rec .ready none with state:=.busy }) /\
     (W3.putObj (w.heap.size+1) (.loop (rec (if jump.isNone then .ready else .done) jump))).heap[w.heap.size+1]? = some (.loop (rec (if jump.isNone then .ready else .done) jump)) /\
     (W3.putObj (w.heap.size+1) (.loop (rec (if jump.isNone then .ready else .done) jump))).heap[w.heap.size]? = some (.deferred (some [])):=fun jump W3 hk3=>by
    have hl3:=hk3.same _ _ hl2 rfl
    have he:=run_endRound (P:=Tryz.prog) jump hl3
    rw [hr1] at he
    refine ⟨by rw [hr1];exact he,hl3,World.putObj_heap_same (Array.getElem?_eq_some_iff.1 hl3).1,(World.putObj_heap_other (by omega)).trans (hk3.same _ _ hk2 rfl)⟩
   refine wpIn_mono (hbody _ pre x r W2 hi2 hL2 hx) ?_
   rintro e a3 W3 hp
   cases e with
   | normal =>
    obtain ⟨q1,q2,q3⟩:=hp
    obtain ⟨f1,f2,f3,f4⟩:=fin none W3 q1
    exact ⟨_,_,f1,.inl ⟨rfl,⟨hI.putObj _ q2 (by omega) f2 rfl,f3,f4⟩,qjw q3 (grownBy_putObj' _ _ _) (B:=0) (fun r e=>by cases e;exact ⟨Nat.zero_le _,_,f2,rfl⟩)⟩⟩
   | ret =>
    obtain ⟨q1,q2⟩:=hp
    obtain ⟨f1,f2,f3,f4⟩:=fin (some .ret) W3 q1
    exact ⟨_,_,f1,.inr ⟨rfl,hIx.putObj _ q2 (by omega) f2 rfl,f3,f4⟩⟩
   | _=>exact hp.elim
  ·rintro e W2 ⟨⟨v,rfl⟩,(⟨hi,hl,hk⟩|⟨pre,x,t,hsp,hi,hl,hk⟩)⟩
   ·have he:=run_endLoop (P:=Tryz.prog) hl (by rw [hr1];simp)
    rw [hr1] at he
    exact ⟨none,_,he,hdone _ _ (Nat.le_refl _) (hI.putObj _ hi (by omega) hl rfl) ((World.putObj_heap_other (by omega)).trans hk)⟩
   ·have he:=run_endLoop (P:=Tryz.prog) hl (by rw [hr1];simp)
    rw [hr1] at he
    exact ⟨some .ret,_,he,wpIn_ret (hstop _ pre x t _ (Nat.le_refl _) hsp (hIx.putObj _ hi (by omega) hl rfl) ((World.putObj_heap_other (by omega)).trans hk))⟩
end YtlkpgcifpnppeaaGreatDoor.AM
end Go.Proofs
namespace Go.Proofs.YtlkpgcifpnppeaaGreatDoor.AM
open Go
theorem q0s {H:Type} {enc:TypeId×Value->H} {a:Assume} {C:Checked} {os:Os} {f:FuncId} {fn:Func} {s:ChangeSpec} {conds:List PathCond} {apart fresh handsOn again:Bool} {X:World->Array Value->Prop}
  (hX : ∀(w w':World) (args:Array Value),w.heap=w'.heap->X w args->X w' args)
  (own:ownKnob C.prog.godebug=none) (started:os.Started) (noInit:C.prog.inits.idxOf? f=none) (hfn:C.prog.funcs[f]? = some fn)
  (witness : ∃ (w:World) (tape:Tape) (i:Input),w.os=os/\(w.forCall tape i).Shaped C.prog/\i.vars = []/\Input.okWide C.prog (w.forCall tape i) .any w.heap.size f i /\
   ((s.pre enc C.prog fn conds apart (w.forCall tape i).memory i.args/\X (w.forCall tape i).memory i.args)/\sizedMet enc C.prog fn (OpenSpec.ofChange s) apart (w.forCall tape i).memory i.args)/\a.holds C.prog (lone (Frame.enter C.prog f i.args .normal) [] (w.forCall tape i)))
  (contract : ∀(W:World) (base:Nat) (args:Array Value) (ds gs:List (DataW H)) (before:List MemPlace),
   (∀(j:Nat) t v,fn.params[j]? = some t->args[j]? = some v->Value.okWide C.prog W .any base t v) ->
   DataW.Whole enc C.prog fn.params.toList s.vars apart W args.toList ds gs before ->
   conds.all (PathCond.test C.prog ⟨fn.params.toList,ds,s.plain.varTypes C.prog,gs⟩)=true->X W args ->
   W.ShapedOpen C.prog ->
   a.holds C.prog (lone (Frame.enter C.prog f args .normal) [] W) ->
   Calls C.prog f args W fun e W'=>∃ v,e = .returned v/\s.post enc C.prog fn apart fresh handsOn again W args v W') :
  ReturnsInHanded a C os f .any (fun w args=>(s.pre enc C.prog fn conds apart w args/\X w args)/\sizedMet enc C.prog fn (OpenSpec.ofChange s) apart w args) (s.post enc C.prog fn apart fresh handsOn again):=by
 refine returnsInHanded_of_calls own started noInit witness ?_
 intro w tape i _ hsh _ hok hpre hholds
 obtain ⟨_,_,_,fn',hfn',_,_,_,_,hval⟩:=hok
 have e:fn'=fn:=Option.some.inj (hfn'.symm.trans hfn)
 subst e
 obtain ⟨⟨⟨ds,gs,before,hw,hc⟩,hx⟩,hz⟩:=hpre
 have hw':=DataW.Whole.of_heap (w':=w.forCall tape i) (by rfl) hw
 refine (contract (w.forCall tape i) w.heap.size i.args ds gs before hval hw' hc (hX _ _ _ (by rfl) hx) hsh hholds).mono fun e W' ⟨v,he,hp⟩=>?_
 subst he
 exact ChangeSpec.post_blind hp
end Go.Proofs.YtlkpgcifpnppeaaGreatDoor.AM
