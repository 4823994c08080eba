
import Derived.Test.YtapfankgdkdkgaaGreatDoorEb3
import Derived.Deep.LoopGhost
import Derived.ProofKit
import Derived.OpenShut
import Derived.ShutString
import Derived.ChangeOld
import Derived.SliceStrings
import Derived.Deep.Slices
set_option linter.unusedVariables false
set_option linter.unusedSimpArgs false
namespace Go.Proofs.YtapfankgdkdkgaaGreatDoor.AM
open Go.RowKit
variable {F:Fr} {σ:St} {e:Env} {a:Act} {w:World} {P:Program}
def q2h (P:Program) (F:Fr) (c:Code) (σ:St) (Q:Exit->St->Prop):Prop :=
 ∀e a w,R F σ e a w->c.wp P (fun ex a' w'=>∃ σ' e',Q ex σ'/\R F σ' e' a' w') a w
variable {c x y:Code} {Q Q':Exit->St->Prop}
theorem jlq (h:Q .normal σ):q2h P F .skip σ Q:=fun e a w hR=>wp_skip ⟨σ,e,h,hR⟩
theorem jo8 {id:Nat} (h:Q (.exit id) σ):q2h P F (.exit id) σ Q:=fun e a w hR=>wp_exit ⟨σ,e,h,hR⟩
theorem jrf (h:Q .ret σ):q2h P F .ret σ Q:=fun e a w hR=>wp_ret ⟨σ,e,h,hR⟩
def andThen (next:St->Prop) (Q:Exit->St->Prop):Exit->St->Prop
 | .normal,σ=>next σ
 | ex,σ=>Q ex σ
theorem qtq (h:q2h P F x σ (andThen (fun σ'=>q2h P F y σ' Q) Q)):q2h P F (.seq x y) σ Q:=fun e a w hR=>by
 refine wp_seq (wp_mono (h e a w hR) fun ex a' w' hh=>?_)
 obtain ⟨σ',e',h1,h2⟩:=hh
 cases ex with
 | normal=>exact h1 e' a' w' h2
 | _=>exact ⟨σ',e',h1,h2⟩
def inBlock (id:Nat) (Q:Exit->St->Prop):Exit->St->Prop
 | .exit id',σ=>if id'=id then Q .normal σ else Q (.exit id') σ
 | ex,σ=>Q ex σ
theorem je2 {id:Nat} (h:q2h P F x σ (inBlock id Q)):q2h P F (.block id x) σ Q:=fun e a w hR=>by
 refine wp_block (wp_mono (h e a w hR) fun ex a' w' hh=>?_)
 obtain ⟨σ',e',h1,h2⟩:=hh
 cases ex with
 | exit id' =>
  show if id'=id then _ else _
  by_cases hid:id'=id
  ·rw [if_pos hid]
   have h1':if id'=id then Q .normal σ' else Q (.exit id') σ':=h1
   rw [if_pos hid] at h1'
   exact ⟨σ',e',h1',h2⟩
  ·rw [if_neg hid]
   have h1':if id'=id then Q .normal σ' else Q (.exit id') σ':=h1
   rw [if_neg hid] at h1'
   exact ⟨σ',e',h1',h2⟩
 | _=>exact ⟨σ',e',h1,h2⟩
def j14:D->Option Bool
 | .one (.c (.d (.v (.bool b))))=>some b
 | _=>none
theorem j0j {cnd:Operand} {b:Bool} (hb:j14 (opnd σ cnd)=some b) (ht:b=true->q2h P F x σ Q) (hf:b=false->q2h P F y σ Q):q2h P F (.cond cnd x y) σ Q:=fun e a w hR=>by
 unfold j14 at hb
 split at hb
 case h_2=>cases hb
 rename_i b' hx
 simp only [Option.some.injEq] at hb
 subst hb
 have h1:=hR.opnd cnd
 rw [hx] at h1
 cases b'
 ·exact wp_cond_false (q0d h1) (hf rfl e a w hR)
 ·exact wp_cond_true (q0d h1) (ht rfl e a w hR)
theorem qog {id:Nat} {l:List Oper} (hn:qb5 F.n l.toArray=true) (h:ql1 P F l.toArray l σ (Q .normal)):q2h P F (.region id l.toArray false) σ Q:=fun e a w hR=>by
 have hall : ∀o∈l,qtb F.n o=true:=fun o ho=>Array.all_eq_true_iff_forall_mem.1 hn o (by simpa using ho)
 refine wp_mono (wp_region_lit (h hn hall e a w hR)) fun ex a' w' hh=>?_
 obtain ⟨rfl,σ',e',h1,h2⟩:=hh
 exact ⟨σ',e',h1,h2⟩
theorem jev (h:q2h P F x σ (fun ex σ'=>match ex with | .goto _=>False|ex=>Q ex σ')):q2h P F (.scope x) σ Q:=fun e a w hR=>by
 refine wp_scope_straight (wp_mono (h e a w hR) fun ex a' w' hh=>?_)
 obtain ⟨σ',e',h1,h2⟩:=hh
 cases ex with
 | goto l=>exact h1.elim
 | _=>exact ⟨σ',e',h1,h2⟩
def clC (σ:St):C->Prop
 | .box β _=>(σ.box β).isSome=true
 | .bsl β _=>(σ.box β).isSome=true
 | .mv β=>(σ.box β).isSome=true
 | .row t g=>∃ r,σ.row t=some r/\g<=r.gen
 | .wp t g _ _=>∃ r,σ.row t=some r/\g<=r.gen
 | .fn _ caps=>∀β∈caps,(σ.box β).isSome=true
 | _=>True
def cl1 (σ:St):D1->Prop
 | .c x=>clC σ x
 | .agg cs=>∀c∈cs,clC σ c
def clD (σ:St):D->Prop
 | .one x=>cl1 σ x
 | .tup xs=>∀x∈xs,cl1 σ x
structure Le (σ' σ:St):Prop where
 slot : ∀i,σ'.slot i = .one (.c .bad)\/(σ'.slot i=σ.slot i/\clD σ' (σ'.slot i))
 box : ∀β T cs,σ'.box β=some (T,cs)->σ.box β=some (T,cs)/\∀c∈cs,clC σ' c
 row : ∀t r,σ'.row t=some r->σ.row t=some r
variable {σ':St}
theorem Le.crep (h:Le σ' σ) {v:Value} {c:C} (hc:clC σ' c) (hv:q2v e σ w v c):q2v e σ' w v c:=by
 cases c with
 | d x=>exact hv
 | box β off=>exact ⟨hc,hv.2⟩
 | bsl β n=>exact ⟨hc,hv.2⟩
 | mv β=>exact ⟨hc,hv.2⟩
 | row t g=>exact ⟨hc,hv.2⟩
 | rp cs=>exact hv
 | wp t g k off =>
  obtain ⟨r,b,h1,h2,h3,h4⟩:=hv
  obtain ⟨r',h5,h6⟩:=hc
  have:=h.row t r' h5
  rw [h1] at this;cases this
  exact ⟨r,b,h5,h6,h3,h4⟩
 | fn f caps=>exact ⟨hc,hv.2⟩
 | bad=>trivial
theorem qqg {α β:Type} {r r':α->β->Prop} : ∀{l:List α} {m:List β},(∀a b,b∈m->r a b->r' a b)->q0j r l m->q0j r' l m
 | [],[],_,_=>trivial
 | _::_,b::_,h,hh=>⟨h _ _ (List.mem_cons_self ..) hh.1,qqg (fun a b' hb=>h a b' (List.mem_cons_of_mem _ hb)) hh.2⟩
 | [],_::_,_,h=>h.elim
 | _::_,[],_,h=>h.elim
theorem Le.rep1 (h:Le σ' σ) {v:Value} {d:D1} (hc:cl1 σ' d) (hv:q9g e σ w v d):q9g e σ' w v d:=by
 cases d with
 | c x=>exact h.crep hc hv
 | agg cs =>
  obtain ⟨vs,h1,h2⟩:=hv
  exact ⟨vs,h1,qqg (fun a b hb=>h.crep (hc b hb)) h2⟩
theorem Le.drep (h:Le σ' σ) {v:Value} {d:D} (hc:clD σ' d) (hv:q2a e σ w v d):q2a e σ' w v d:=by
 cases d with
 | one x=>exact h.rep1 hc hv
 | tup xs =>
  obtain ⟨vs,h1,h2⟩:=hv
  exact ⟨vs,h1,qqg (fun a b hb=>h.rep1 (hc b hb)) h2⟩
theorem R.le (h:Le σ' σ) (hR:R F σ e a w):R F σ' e a w:=by
 have hbs : ∀β,(σ'.box β).isSome=true->(σ.box β).isSome=true:=fun β hβ=>by
  obtain ⟨⟨T,cs⟩,hx⟩:=Option.isSome_iff_exists.1 hβ
  rw [(h.box β T cs hx).1];rfl
 refine ⟨hR.defers,hR.size,fun i=>?_,?_⟩
 ·rcases h.slot i with h1|⟨h1,h2⟩
  ·rw [h1];trivial
  ·refine h.drep h2 ?_
   rw [h1];exact hR.slots i
 ·have hp:=hR.hp
  refine ⟨hp.below,hp.pc0,hp.pcNew,hp.pcLt,fun β T cs hx=>?_,fun β hβ=>hp.boxPc β (hbs β hβ),fun β β' hβ hβ'=>hp.boxNe β β' (hbs β hβ) (hbs β' hβ'),
   fun t r hr=>hp.rows t r (h.row t r hr),fun t r b hr=>hp.rowPro t r b (h.row t r hr),fun t r b hr=>hp.rowPc t r b (h.row t r hr),
   fun t r b β hr hb hβ=>hp.rowBox t r b β (h.row t r hr) hb (hbs β hβ),fun t t' r r' b hn hr hr'=>hp.rowNe t t' r r' b hn (h.row t r hr) (h.row t' r' hr'),⟨hp.kp.keep,hp.kp.wkLe,fun β hβ=>hp.kp.boxK β (hbs β hβ),fun t r b hr=>hp.kp.rowK t r b (h.row t r hr),hp.kp.pcK,hp.kp.cellK,hp.kp.boxM⟩⟩
  obtain ⟨h1,h2⟩:=h.box β T cs hx
  obtain ⟨h3,h4⟩:=hp.boxes β T cs h1
  refine ⟨h3,?_⟩
  rcases h4 with ⟨k0,vs,k4,k5,k6⟩|⟨k0,sz,xs,k4,k5⟩
  ·exact Or.inl ⟨k0,vs,k4,qqg (fun a b hb=>h.crep (h2 b hb)) k5,k6⟩
  ·exact Or.inr ⟨k0,sz,xs,k4,k5⟩
def St.of (slots:List (Nat×D)) (boxes:List (Nat×(Nat×List C))) (rows:List (Nat×Row)):St :=
 {slot:=fun i=>(slots.lookup i).getD (.one (.c .bad)),box:=fun i=>boxes.lookup i,row:=fun i=>rows.lookup i }
theorem qet {β:Type} : ∀{l:List (Nat×β)} {i:Nat} {x:β},l.lookup i=some x->(i,x)∈l
 | (j,y)::l,i,x,h=>by
  rw [List.lookup_cons] at h
  by_cases hij:i=j
  ·subst hij
   simp only [beq_self_eq_true] at h
   rw [Option.some.inj h];exact List.mem_cons_self ..
  ·have:(i==j)=false:=by simpa using hij
   simp only [this] at h
   exact List.mem_cons_of_mem _ (qet h)
theorem Le.of {slots:List (Nat×D)} {boxes:List (Nat×(Nat×List C))} {rows:List (Nat×Row)}
  (h1 : ∀p∈slots,p.2=σ.slot p.1/\clD (St.of slots boxes rows) p.2) (h2 : ∀p∈boxes,σ.box p.1=some p.2/\∀c∈p.2.2,clC (St.of slots boxes rows) c) (h3 : ∀p∈rows,σ.row p.1=some p.2):Le (St.of slots boxes rows) σ:=by
 refine ⟨fun i=>?_,fun β T cs hx=>?_,fun t r hr=>h3 _ (qet hr)⟩
 ·cases hl:slots.lookup i with
  | none=>left;show (slots.lookup i).getD _=_;rw [hl];rfl
  | some d =>
   right
   have:=h1 _ (qet hl)
   have he:(St.of slots boxes rows).slot i=d:=by show (slots.lookup i).getD _=_;rw [hl];rfl
   rw [he];exact this
 ·exact h2 _ (qet hx)
def frz (σ:St):St:={ σ with row:=fun t=>(σ.row t).map fun r=>{ r with wr:=false } }
theorem Hp.frz (h:Hp F σ e w) : ∃ e',Fwd e σ w e' (frz σ) w/\Hp F (AM.frz σ) e' w:=by
 let N:Nat->Nat->Prop:=fun b o=>∃ t r,σ.row t=some r/\(e.rv t r.gen).ownBlock=some b/\o<r.xs.length*r.sz
 have hrow : ∀t r,(AM.frz σ).row t=some r->∃ r0,σ.row t=some r0/\r = { r0 with wr:=false }:=fun t r hr=>by
  obtain ⟨r0,h1,h2⟩:=Option.map_eq_some_iff.1 hr
  exact ⟨r0,h1,h2.symm⟩
 have hf:Fwd e σ w { e with Pc:=fun b o=>e.Pc b o\/N b o } (AM.frz σ) w:=⟨fun _ _ h=>Or.inl h,fun _ _ _=>rfl,fun _ h=>⟨h,rfl⟩,fun t r g hr hg=>⟨⟨{ r with wr:=false },by show (σ.row t).map _=_;rw [hr];rfl,hg,rfl⟩,rfl⟩⟩
 refine ⟨_,hf,h.below,fun b o hp=>Or.inl (h.pc0 b o hp),?_,?_,fun β T cs hx=>?_,?_,h.boxNe,fun t r hr=>?_,fun t r b hr _ hb o ho=>?_,fun t r b hr hb o hp=>?_,fun t r b β hr hb hβ=>?_,fun t t' r r' b hn hr hr' hb=>?_,⟨h.kp.keep,h.kp.wkLe,h.kp.boxK,fun t r b hr hb=>?_,?_,h.kp.cellK,h.kp.boxM⟩⟩
 ·rintro b o (hp|⟨t,r,h1,h2,h3⟩)
  ·exact h.pcNew b o hp
  ·exact Or.inr (h.rowLt h1 h2).1
 ·rintro b o (hp|⟨t,r,h1,h2,h3⟩)
  ·exact h.pcLt b o hp
  ·exact (h.rowLt h1 h2).2
 ·obtain ⟨h0,h1⟩:=h.boxes β T cs hx
  exact ⟨h0,h1.fwd hf rfl⟩
 ·rintro β hβ o (hp|⟨t,r,h1,h2,h3⟩)
  ·exact h.boxPc β hβ o hp
  ·exact h.rowBox t r _ β h1 h2 hβ rfl
 ·obtain ⟨r0,h1,rfl⟩:=hrow t r hr
  obtain ⟨hs,cells,k1,k2,k3⟩:=h.rows t r0 h1
  exact ⟨hs,cells,k1,k2.mono fun _ _=>DatRep.mono (fun _ _ h=>Or.inl h) (fun _ _ _=>rfl),k3⟩
 ·obtain ⟨r0,h1,rfl⟩:=hrow t r hr
  exact Or.inr ⟨t,r0,h1,hb,ho⟩
 ·obtain ⟨r0,h1,rfl⟩:=hrow t r hr
  refine ⟨rfl,?_⟩
  rcases hp with hp|⟨t',r',h2,h3,h4⟩
  ·exact (h.rowPc t r0 b h1 hb o hp).2
  ·by_cases ht:t=t'
   ·subst ht
    rw [h1] at h2;cases h2
    exact h4
   ·exact absurd h3 (h.rowNe t t' r0 r' b ht h1 h2 hb)
 ·obtain ⟨r0,h1,rfl⟩:=hrow t r hr
  exact h.rowBox t r0 b β h1 hb hβ
 ·obtain ⟨r0,h1,rfl⟩:=hrow t r hr
  obtain ⟨r1,h2,rfl⟩:=hrow t' r' hr'
  exact h.rowNe t t' r0 r1 b hn h1 h2 hb
 ·obtain ⟨r0,h1,rfl⟩:=hrow t r hr
  exact h.kp.rowK t r0 b h1 hb
 ·rintro b o (hp|⟨t,r,h1,h2,h3⟩)
  ·exact h.kp.pcK b o hp
  ·exact Or.inr (h.kp.rowK t r b h1 h2)
def frzB (p:Nat->Bool) (σ:St):St:={ σ with row:=fun t=>(σ.row t).map fun r=>if p t=true then { r with wr:=false } else r }
theorem Hp.frzB (p:Nat->Bool) (h:Hp F σ e w) : ∃ e',Fwd e σ w e' (frzB p σ) w/\Hp F (AM.frzB p σ) e' w:=by
 let N:Nat->Nat->Prop:=fun b o=>∃ t r,p t=true/\σ.row t=some r/\(e.rv t r.gen).ownBlock=some b/\o<r.xs.length*r.sz
 have hrow : ∀t r,(AM.frzB p σ).row t=some r->∃ r0,σ.row t=some r0/\((p t=true/\r = { r0 with wr:=false })\/(p t=false/\r=r0)):=fun t r hr=>by
  obtain ⟨r0,h1,h2⟩:=Option.map_eq_some_iff.1 hr
  cases hp:p t with
  | true=>rw [hp] at h2;exact ⟨r0,h1,Or.inl ⟨rfl,h2.symm⟩⟩
  | false=>rw [hp] at h2;exact ⟨r0,h1,Or.inr ⟨rfl,h2.symm⟩⟩
 have hsame : ∀t r,(AM.frzB p σ).row t=some r->∃ r0,σ.row t=some r0/\r.gen=r0.gen/\r.xs=r0.xs/\r.sz=r0.sz/\r.E=r0.E:=fun t r hr=>by
  obtain ⟨r0,h1,⟨_,rfl⟩|⟨_,rfl⟩⟩:=hrow t r hr
  ·exact ⟨r0,h1,rfl,rfl,rfl,rfl⟩
  ·exact ⟨r,h1,rfl,rfl,rfl,rfl⟩
 have hf:Fwd e σ w { e with Pc:=fun b o=>e.Pc b o\/N b o } (AM.frzB p σ) w:=⟨fun _ _ h=>Or.inl h,fun _ _ _=>rfl,fun _ h=>⟨h,rfl⟩,fun t r g hr hg=>⟨⟨if p t=true then { r with wr:=false } else r,by show (σ.row t).map _=_;rw [hr];rfl,by split<;>exact hg,by split<;>rfl⟩,rfl⟩⟩
 refine ⟨_,hf,h.below,fun b o hp=>Or.inl (h.pc0 b o hp),?_,?_,fun β T cs hx=>?_,?_,h.boxNe,fun t r hr=>?_,fun t r b hr hw hb o ho=>?_,fun t r b hr hb o hp=>?_,fun t r b β hr hb hβ=>?_,fun t t' r r' b hn hr hr' hb=>?_,⟨h.kp.keep,h.kp.wkLe,h.kp.boxK,fun t r b hr hb=>?_,?_,h.kp.cellK,h.kp.boxM⟩⟩
 ·rintro b o (hp|⟨t,r,_,h1,h2,h3⟩)
  ·exact h.pcNew b o hp
  ·exact Or.inr (h.rowLt h1 h2).1
 ·rintro b o (hp|⟨t,r,_,h1,h2,h3⟩)
  ·exact h.pcLt b o hp
  ·exact (h.rowLt h1 h2).2
 ·obtain ⟨h0,h1⟩:=h.boxes β T cs hx
  exact ⟨h0,h1.fwd hf rfl⟩
 ·rintro β hβ o (hp|⟨t,r,_,h1,h2,h3⟩)
  ·exact h.boxPc β hβ o hp
  ·exact h.rowBox t r _ β h1 h2 hβ rfl
 ·obtain ⟨r0,h1,q1,q2,q3,q4⟩:=hsame t r hr
  obtain ⟨hs,cells,k1,k2,k3⟩:=h.rows t r0 h1
  rw [q1,q2,q3,q4]
  exact ⟨hs,cells,k1,k2.mono fun _ _=>DatRep.mono (fun _ _ h=>Or.inl h) (fun _ _ _=>rfl),k3⟩
 ·obtain ⟨r0,h1,⟨hp,rfl⟩|⟨hp,rfl⟩⟩:=hrow t r hr
  ·exact Or.inr ⟨t,r0,hp,h1,hb,ho⟩
  ·exact Or.inl (h.rowPro t r b h1 hw hb o ho)
 ·have key : ∀t0 r0,σ.row t0=some r0->t0=t->r0.gen=r.gen->r0.xs=r.xs->r0.sz=r.sz->(r0.wr=false\/p t=true->r.wr=false)->r.wr=false/\o<r.xs.length*r.sz:=by
   intro t0 r0 h1 et q1 q2 q3 q5
   subst et
   rcases hp with hp|⟨t',r',hp',h2,h3,h4⟩
   ·have:=h.rowPc t0 r0 b h1 (by rw [q1];exact hb) o hp
    rw [<-q2,<-q3]
    exact ⟨q5 (Or.inl this.1),this.2⟩
   ·by_cases ht:t0=t'
    ·subst ht
     rw [h1] at h2;cases h2
     rw [<-q2,<-q3]
     exact ⟨q5 (Or.inr hp'),h4⟩
    ·exact absurd h3 (h.rowNe t0 t' r0 r' b ht h1 h2 (by rw [q1];exact hb))
  obtain ⟨r0,h1,⟨hp1,rfl⟩|⟨hp1,rfl⟩⟩:=hrow t r hr
  ·exact key t r0 h1 rfl rfl rfl rfl (fun _=>rfl)
  ·exact key t r h1 rfl rfl rfl rfl (fun hh=>hh.elim id (fun h2=>by rw [hp1] at h2;cases h2))
 ·obtain ⟨r0,h1,q1,_⟩:=hsame t r hr
  exact h.rowBox t r0 b β h1 (by rw [<-q1];exact hb) hβ
 ·obtain ⟨r0,h1,q1,_⟩:=hsame t r hr
  obtain ⟨r1,h2,q2,_⟩:=hsame t' r' hr'
  show (e.rv t' r'.gen).ownBlock≠some b
  rw [q2]
  exact h.rowNe t t' r0 r1 b hn h1 h2 (by rw [<-q1];exact hb)
 ·obtain ⟨r0,h1,q1,_⟩:=hsame t r hr
  exact h.kp.rowK t r0 b h1 (by rw [<-q1];exact hb)
 ·rintro b o (hp|⟨t,r,_,h1,h2,h3⟩)
  ·exact h.kp.pcK b o hp
  ·exact Or.inr (h.kp.rowK t r b h1 h2)
theorem jqa (hc:q2h P F c (frz σ) Q):q2h P F c σ Q:=fun e a w hR=>by
 obtain ⟨e',hf,hh⟩:=hR.hp.frz
 exact hc e' a w ⟨hR.defers,hR.size,fun i=>(hR.slots i).fwd hf,hh⟩
theorem k0v {ops:Array Oper} {l:List Oper} {K:St->Prop} (hc:ql1 P F ops l (frz σ) K):ql1 P F ops l σ K:=fun hn hall e a w hR=>by
 obtain ⟨e',hf,hh⟩:=hR.hp.frz
 exact hc hn hall e' a w ⟨hR.defers,hR.size,fun i=>(hR.slots i).fwd hf,hh⟩
def jkl (P:Program) (σ:St):ResultVar->Option D1
 | .tmp t=>match σ.slot t with
  | .one x=>jha (frz σ).row x
  | _=>none
 | .cell p ty=>match σ.slot p with
  | .one (.c (.box β off))=>match σ.box β with
   | some (T,cs)=>if T<2199023255552 then match qtp P ty (cs.drop off) with
    | some (.one x)=>jha (frz σ).row x
    | _=>none
    else none
   | none=>none
  | _=>none
def qtx (P:Program) (σ:St):List ResultVar->Option (List D1)
 | []=>some []
 | r::rs=>match jkl P σ r,qtx P σ rs with
  | some x,some xs=>some (x::xs)
  | _,_=>none
def resD (P:Program) (rs:Array ResultVar) (σ:St):Option D:=match qtx P σ rs.toList with
 | some [x]=>some (.one x)
 | some xs=>some (.tup xs)
 | none=>none
theorem jla (h:Hp F σ e w) {v:Value} {d d':D1} (hd:jha σ.row d=some d') (hv:q9g e σ w v d):q9g (q6u e.Pc) qq0 w v d':=by
 cases d with
 | c x =>
  obtain ⟨z,hz,rfl⟩:=Option.map_eq_some_iff.1 hd
  exact j2j h hz hv
 | agg cs =>
  obtain ⟨z,hz,rfl⟩:=Option.map_eq_some_iff.1 hd
  obtain ⟨us,h1,h2⟩:=hv
  exact ⟨us,h1,qw0 h hz h2⟩
def k0n (a:Act) (r:ResultVar):Sem Value:=match r with
 | .tmp t=>pure (a.tmps.getD t undef)
 | .cell p t=>do loadVar t (<-asAddr (a.tmps.getD p undef))
theorem jvr (hR:R F σ e a w) {e':Env} (hf:Fwd e σ w e' (frz σ) w) (hh:Hp F (frz σ) e' w) {r:ResultVar} {d:D1} (h:jkl P σ r=some d) :
  ∃ v,(k0n a r).run P w = .ok v w/\q9g (q6u e'.Pc) qq0 w v d:=by
 unfold jkl at h
 split at h
 ·rename_i t
  split at h
  case h_2=>cases h
  rename_i x hx
  have h1:=hR.slots t
  rw [hx] at h1
  exact ⟨_,rfl,jla hh h (q9g.fwd hf h1)⟩
 ·rename_i p ty
  split at h
  case h_2=>cases h
  rename_i β off hx
  split at h
  case h_2=>cases h
  rename_i T cs hb
  split at h
  case isFalse=>cases h
  rename_i hT
  split at h
  case h_2=>cases h
  rename_i x hl
  have h1:=hR.slots p
  rw [hx] at h1
  obtain ⟨_,h3⟩:(σ.box β).isSome=true/\a.tmps.getD p undef = .pointer (some ⟨e.m β,off,none⟩):=h1
  obtain ⟨vs,h4,h5,_⟩:=(hR.hp.boxes β T cs hb).2.cells hT
  obtain ⟨v,h6,h7⟩:=q5l (b:=e.m β) (off:=off) hl (h5.drop off) (fun j hj=>by
   rw [cell_of_row w (e.m β) _ vs T _ h4,List.getElem_drop]
   simp)
  refine ⟨v,?_,jla hh h (q9g.fwd hf h7)⟩
  simp only [k0n,h3,asAddr,Sem.run_bind,Sem.run_pure,Result.andThen_ok,h6]
theorem j87 (hR:R F σ e a w) {e':Env} (hf:Fwd e σ w e' (frz σ) w) (hh:Hp F (frz σ) e' w) : ∀{rs:List ResultVar} {ds:List D1},qtx P σ rs=some ds ->
  ∃ vs:List Value,(rs.mapM (k0n a)).run P w = .ok vs w/\q0j (q9g (q6u e'.Pc) qq0 w) vs ds
 | [],ds,h=>by
  simp only [qtx,Option.some.injEq] at h;subst h
  exact ⟨[],by simp,trivial⟩
 | r::rs,ds,h=>by
  unfold qtx at h
  split at h
  case h_2=>cases h
  rename_i x xs hx hxs
  simp only [Option.some.injEq] at h;subst h
  obtain ⟨v,h1,h2⟩:=jvr hR hf hh hx
  obtain ⟨vs,h3,h4⟩:=j87 hR hf hh hxs
  refine ⟨v::vs,?_,h2,h4⟩
  rw [List.mapM_cons]
  simp only [Sem.run_bind,h1,Result.andThen_ok,h3,Sem.run_pure]
theorem k7m {f:FuncId} {fn:Func} {ds:List D} {d:D} (hf:P.funcs[f]? = some fn) (hb:fn.body=some c) (hn:ds.length<=fn.ntmps) {G:World->Prop} (hst:Stab G)
  (h' : ∀F:Fr,F.n=fn.ntmps->F.G=G->∀Q:Exit->St->Prop,(∀σ,resD P fn.results σ=some d->Q .normal σ/\Q .ret σ)->q2h P F c { slot:=fun i=>ds.getD i (.one (.c .bad)),box:=fun _=>none,row:=fun _=>none } Q):qkc P G f ds d:=by
 have h : ∀F:Fr,F.n=fn.ntmps->F.G=G->q2h P F c { slot:=fun i=>ds.getD i (.one (.c .bad)),box:=fun _=>none,row:=fun _=>none } (fun ex σ=>(ex = .normal\/ex = .ret)/\resD P fn.results σ=some d):=fun F hF hG=>h' F hF hG _ fun σ hσ=>⟨⟨Or.inl rfl,hσ⟩,Or.inr rfl,hσ⟩
 intro Pc w vs hg hlt hv
 have hvl:=hv.length
 rw [Array.length_toList] at hvl
 refine calls_of_wp hf hb ?_
 let F:Fr:={ n:=fn.ntmps,w0:=w,Pc:=Pc,G:=G,g0:=hg,gst:=hst }
 have hR:R F { slot:=fun i=>ds.getD i (.one (.c .bad)),box:=fun _=>none,row:=fun _=>none } (q6u Pc) { tmps:=vs++Array.replicate (fn.ntmps - vs.size) undef,defers:=[] } w:=by
  refine ⟨rfl,by simp;show vs.size+(fn.ntmps - vs.size)=fn.ntmps;omega,fun i=>?_,⟨Below.refl _ _,fun _ _ h=>h,fun _ _ h=>Or.inl h,hlt,(fun β T cs hx=>by cases hx),(fun β hβ=>by cases hβ),(fun β β' hβ=>by cases hβ),(fun t r hr=>by cases hr),(fun t r b hr=>by cases hr),(fun t r b hr=>by cases hr),(fun t r b β hr=>by cases hr),(fun t t' r r' b hn hr=>by cases hr),⟨fun b hb=>False.elim hb,Nat.le_refl _,(fun β hβ=>by cases hβ),(fun t r b hr=>by cases hr),(fun b o hp=>Or.inl hp),(fun _ _ _=>rfl),(fun β a h=>by cases h)⟩⟩⟩
  show q2a _ _ w _ (ds.getD i (.one (.c .bad)))
  by_cases hi:i<ds.length
  ·have e1:(vs++Array.replicate (fn.ntmps - vs.size) undef).getD i undef=vs[i]'(by omega):=by
    have:i<vs.size:=by omega
    simp [Array.getD,Array.getElem_append_left this]
    intro hh;omega
   have e2:ds.getD i (.one (.c .bad))=ds[i]:=by simp [List.getD,hi]
   rw [e1,e2]
   have:=hv.get i (by rw [Array.length_toList];omega) hi
   rw [Array.getElem_toList] at this
   exact this.fwd ⟨fun _ _ h=>h,fun _ _ _=>rfl,(fun β hβ=>by cases hβ),(fun t r g hr=>by cases hr)⟩
  ·have e2:ds.getD i (.one (.c .bad)) = .one (.c .bad):=by simp [List.getD,hi]
   rw [e2];trivial
 refine wp_mono (h F rfl rfl _ _ _ hR) fun ex a' w' hh=>?_
 obtain ⟨σ',e',⟨hex,hres⟩,hR'⟩:=hh
 have fin:a'.defers = []/\∃ v,(results fn a'.tmps).run P w' = .ok v w'/\∃ v' Pc',Ending.returned v = .returned v'/\Below w.heap.size w w'/\(∀b o,Pc b o->Pc' b o)/\(∀b o,Pc' b o->Pc b o\/(w.heap.size<=b/\b<w'.heap.size))/\q2a (q6u Pc') qq0 w' v' d:=by
  refine ⟨hR'.defers,?_⟩
  obtain ⟨e'',hf2,hh2⟩:=hR'.hp.frz
  have hpc:(∀b o,Pc b o->e''.Pc b o)/\(∀b o,e''.Pc b o->Pc b o\/(w.heap.size<=b/\b<w'.heap.size)):=⟨hh2.pc0,fun b o hp=>by
   rcases hh2.pcNew b o hp with h1|h1
   ·exact Or.inl h1
   ·exact Or.inr ⟨h1,hh2.pcLt b o hp⟩⟩
  unfold resD at hres
  have key : ∀xs,qtx P σ' fn.results.toList=some xs->∃ us:List Value,(results fn a'.tmps).run P w' = .ok (if h:us.toArray.size=1 then us.toArray[0] else .tuple us.toArray) w'/\q0j (q9g (q6u e''.Pc) qq0 w') us xs:=fun xs hxs=>by
   obtain ⟨us,g1,g2⟩:=j87 hR' hf2 hh2 hxs
   refine ⟨us,?_,g2⟩
   have e1:results fn a'.tmps=(do let vs <-fn.results.mapM (k0n a');pure (if h:vs.size=1 then vs[0] else .tuple vs)):=rfl
   rw [e1,Array.mapM_eq_mapM_toList]
   simp only [Sem.run_bind,Sem.run_map,g1]
   rfl
  split at hres
  ·rename_i x hx
   simp only [Option.some.injEq] at hres;subst hres
   obtain ⟨us,g1,g2⟩:=key _ hx
   match us,g2 with
   | [u],g2' =>
    refine ⟨u,by simpa using g1,u,e''.Pc,rfl,hR'.hp.below,hpc.1,hpc.2,g2'.1⟩
  ·rename_i xs hxs hne
   simp only [Option.some.injEq] at hres;subst hres
   obtain ⟨us,g1,g2⟩:=key _ hne
   have hl:us.length≠1:=fun h1=>by
    have:=g2.length
    rw [h1] at this
    match xs,this with
    | [x],_=>exact hxs x rfl
   refine ⟨.tuple us.toArray,?_,.tuple us.toArray,e''.Pc,rfl,hR'.hp.below,hpc.1,hpc.2,us.toArray,rfl,g2⟩
   rw [g1]
   simp [hl]
  ·cases hres
 rcases hex with rfl|rfl
 ·exact fin
 ·exact fin
end Go.Proofs.YtapfankgdkdkgaaGreatDoor.AM
namespace Go.Proofs.YtapfankgdkdkgaaGreatDoor.AM
open Go.RowKit
variable {F:Fr} {σ σ':St} {P:Program} {x y c:Code} {Q:Exit->St->Prop} {next:St->Prop}
theorem jpe {id:Nat} {l:List Oper} (hn:qb5 F.n l.toArray=true) (h:ql1 P F l.toArray l σ (fun σ'=>q2h P F y σ' Q)):q2h P F (.seq (.region id l.toArray false) y) σ Q:=qtq (qog hn h)
theorem jxu (h:next σ):andThen next Q .normal σ:=h
theorem k2s {id:Nat} (h:Q (.exit id) σ):andThen next Q (.exit id) σ:=h
theorem k4e (h:Q .ret σ):andThen next Q .ret σ:=h
theorem jxz {id:Nat} (h:Q .normal σ):inBlock id Q .normal σ:=h
theorem k5o {id:Nat} (h:Q .ret σ):inBlock id Q .ret σ:=h
theorem k2x {id:Nat} (h:Q .normal σ):inBlock id Q (.exit id) σ:=by show if id=id then _ else _;rw [if_pos rfl];exact h
theorem k0p {id id':Nat} (hne:(id'==id)=false) (h:Q (.exit id') σ):inBlock id Q (.exit id') σ:=by
 have : ¬ id'=id:=by simpa using hne
 show if id'=id then _ else _;rw [if_neg this];exact h
theorem jo5 {cnd:Operand} (hb:j14 (opnd σ cnd)=some true) (h:q2h P F x σ Q):q2h P F (.cond cnd x y) σ Q:=j0j hb (fun _=>h) (fun h=>by cases h)
theorem jdd {cnd:Operand} (hb:j14 (opnd σ cnd)=some false) (h:q2h P F y σ Q):q2h P F (.cond cnd x y) σ Q:=j0j hb (fun h=>by cases h) (fun _=>h)
theorem wrap64 {n:Int} (h1 : -9223372036854775808<=n) (h2:n<=9223372036854775807):IntKind.i64.wrap n=n:=by rw [IntKind.wrap_i64];omega
theorem k7r {n:Int} (h1:0<=n) (h2:n<=255):IntKind.u8.wrap n=n:=by
 unfold IntKind.wrap
 simp only [IntKind.bits,IntKind.signed,Bool.false_and,Bool.false_eq_true,if_false]
 omega
theorem jvw {α:Type} (f:Nat->α) (i:Nat) (x:α) (j:Nat):upd f i x j=if j=i then x else f j:=rfl
theorem k7v (b:Bool):(b==true)=b:=by cases b<;>rfl
theorem k9v (b:Bool):(b==false) = !b:=by cases b<;>rfl
attribute [push_cast] cond_true cond_false q4w qov qh8 k9n j4o k6q resD qtx jkl jha j70 qjr je1 qck frz j14 qhg q47 k38 opnd jom q70 qvb j1y qcf qxo q9e q3z q2m qd1 q78 q65 q19 q7c qmy qh6 q1a q3d qe2 k71 qgf q4j q2x q3c qtp qsu j02 jjt q0r okC qpf bnd setAt qcn qwz qm3 chunk rep qpk St.app St.put
 jvw List.all_cons List.all_nil Bool.and_true Bool.true_and Bool.and_self if_true if_false List.getD_cons_zero List.getD_cons_succ true_and and_true Option.map_some Option.map_none List.drop_zero List.drop_succ_cons List.take_zero List.take_succ_cons List.drop_nil List.take_nil List.length_cons List.length_nil List.map_cons List.map_nil List.nil_append List.cons_append
 Option.some.injEq Value.oneCell' ite_true ite_false Option.bind_some
 k7v k9v Bool.not_true Bool.not_false Bool.not_not Bool.false_and Bool.and_false Bool.or_true Bool.true_or Bool.or_false Bool.false_or
 List.getElem?_toArray List.mapM_cons List.mapM_nil List.getElem?_cons_zero List.getElem?_cons_succ
end Go.Proofs.YtapfankgdkdkgaaGreatDoor.AM
namespace Go.Proofs.YtapfankgdkdkgaaGreatDoor.AM
open Go.RowKit
variable {F:Fr} {σ σ':St} {e:Env} {a:Act} {w:World} {P:Program}
inductive Loc where
 | s (i:Nat)
 | b (i:Nat)
 | r (i:Nat)
deriving DecidableEq
inductive LV where
 | s (d:D)
 | b (x:Option (Nat×List C))
 | r (x:Option Row)
def St.get (σ:St):Loc->LV
 | .s i=>.s (σ.slot i)
 | .b i=>.b (σ.box i)
 | .r i=>.r (σ.row i)
theorem St.ext' (h : ∀l,σ.get l=σ'.get l):σ=σ':=by
 obtain ⟨s1,b1,r1⟩:=σ
 obtain ⟨s2,b2,r2⟩:=σ'
 have h1:s1=s2:=funext fun i=>by have:=h (.s i);simpa [St.get] using this
 have h2:b1=b2:=funext fun i=>by have:=h (.b i);simpa [St.get] using this
 have h3:r1=r2:=funext fun i=>by have:=h (.r i);simpa [St.get] using this
 rw [h1,h2,h3]
structure En where
 reads:List Loc
 dst:Option Nat
 res:Res
def En.app (en:En) (σ:St):St:=(σ.app en.res).put en.dst en.res.val
def En.val (en:En):Loc->Option LV
 | .s i=>if en.dst=some i then some (.s en.res.val) else none
 | .b i=>match en.res.box with
  | some (j,x)=>if j=i then some (.b (some x)) else none
  | none=>none
 | .r i=>match en.res.row with
  | some (j,x)=>if j=i then some (.r (some x)) else none
  | none=>none
theorem qlg (en:En) (σ:St) (l:Loc):(en.app σ).get l=(en.val l).getD (σ.get l):=by
 obtain ⟨rd,dst,c,v,bx,rw⟩:=en
 cases l with
 | s i =>
  cases dst with
  | none=>simp [En.app,En.val,St.put,St.get,St.app]
  | some k =>
   by_cases hk:k=i
   ·subst hk;simp [En.app,En.val,St.put,St.get,St.app,upd]
   ·have : ¬ i=k:=fun h=>hk h.symm
    simp [En.app,En.val,St.put,St.get,St.app,upd,hk,this]
 | b i =>
  have hp : ∀(σ:St),(σ.put dst v).box=σ.box:=fun σ=>by cases dst<;>rfl
  cases bx with
  | none=>simp [En.app,En.val,St.get,hp,St.app]
  | some p =>
   obtain ⟨k,x⟩:=p
   by_cases hk:k=i
   ·subst hk;simp [En.app,En.val,St.get,hp,St.app,upd]
   ·have : ¬ i=k:=fun h=>hk h.symm
    simp [En.app,En.val,St.get,hp,St.app,upd,hk,this]
 | r i =>
  have hp : ∀(σ:St),(σ.put dst v).row=σ.row:=fun σ=>by cases dst<;>rfl
  cases rw with
  | none=>simp [En.app,En.val,St.get,hp,St.app]
  | some p =>
   obtain ⟨k,x⟩:=p
   by_cases hk:k=i
   ·subst hk;simp [En.app,En.val,St.get,hp,St.app,upd]
   ·have : ¬ i=k:=fun h=>hk h.symm
    simp [En.app,En.val,St.get,hp,St.app,upd,hk,this]
def stS:List En->(Nat->Bool)->Nat->St->St
 | [],_,_,σ=>σ
 | en::es,S,k,σ=>stS es S (k+1) (if S k then en.app σ else σ)
theorem get_congr {l:Loc} : ∀(es:List En) (S S':Nat->Bool) (k:Nat) (σ σ':St),(∀i en,es[i]? = some en->(en.val l).isSome=true->S (k+i)=S' (k+i))->σ.get l=σ'.get l->(stS es S k σ).get l=(stS es S' k σ').get l
 | [],_,_,_,_,_,_,h=>h
 | en::es,S,S',k,σ,σ',hw,h=>by
  refine get_congr es S S' (k+1) _ _ (fun i en' he hv=>by have:=hw (i+1) en' (by simpa using he) hv;rwa [show k+(i+1)=k+1+i from by omega] at this) ?_
  cases hv:en.val l with
  | none =>
   have e1 : ∀σ:St,(en.app σ).get l=σ.get l:=fun σ=>by rw [qlg,hv];rfl
   split<;>split<;>first|(simp only [e1];exact h)|exact h
  | some v =>
   have:=hw 0 en rfl (by rw [hv];rfl)
   rw [Nat.add_zero] at this
   have e1 : ∀σ:St,(en.app σ).get l=v:=fun σ=>by rw [qlg,hv];rfl
   rw [<-this]
   split
   ·rw [e1,e1]
   ·exact h
theorem get_none {l:Loc} : ∀(es:List En) (S:Nat->Bool) (k:Nat) (σ:St),(∀i en,es[i]? = some en->(en.val l).isSome=true->S (k+i)=false)->(stS es S k σ).get l=σ.get l
 | [],_,_,_,_=>rfl
 | en::es,S,k,σ,hw=>by
  show (stS es S (k+1) _).get l=_
  rw [get_none es S (k+1) _ (fun i en' he hv=>by have:=hw (i+1) en' (by simpa using he) hv;rwa [show k+(i+1)=k+1+i from by omega] at this)]
  cases hv:en.val l with
  | none=>split<;>first|rfl|(rw [qlg,hv];rfl)
  | some v =>
   have:=hw 0 en rfl (by rw [hv];rfl)
   rw [Nat.add_zero] at this
   rw [this];rfl
theorem j3u {l:Loc} {v:LV} : ∀(es:List En) (S:Nat->Bool) (k j:Nat) (σ:St) (en:En),es[j]? = some en->en.val l=some v->S (k+j)=true->(∀i en',j<i->es[i]? = some en'->(en'.val l).isSome=true->S (k+i)=false)->(stS es S k σ).get l=v
 | [],_,_,j,_,_,h,_,_,_=>by simp at h
 | en0::es,S,k,0,σ,en,he,hv,hS,hw=>by
  obtain rfl:en0=en:=by simpa using he
  rw [Nat.add_zero] at hS
  show (stS es S (k+1) _).get l=_
  rw [get_none es S (k+1) _ (fun i en' he' hv'=>by have:=hw (i+1) en' (by omega) (by simpa using he') hv';rwa [show k+(i+1)=k+1+i from by omega] at this),hS,if_pos rfl,qlg,hv]
  rfl
 | en0::es,S,k,j+1,σ,en,he,hv,hS,hw =>
  j3u es S (k+1) j _ en (by simpa using he) hv (by rwa [show k+1+j=k+(j+1) from by omega]) (fun i en' hi he' hv'=>by have:=hw (i+1) en' (by omega) (by simpa using he') hv';rwa [show k+(i+1)=k+1+i from by omega] at this)
inductive Anc (ops:Array Oper):Nat->Nat->Prop
 | one {i j:Nat} {o:Oper} {ed:Edge} (ho:ops[j]? = some o) (he:ed∈o.after) (hb:Region.binds .any ed=true) (hi:ed.on=i):Anc ops i j
 | more {i k j:Nat} (h1:Anc ops i k) (h2:Anc ops k j):Anc ops i j
def k2p (ops:List Oper):List (List Nat)->List (List Nat)
 | acc=>match ops with
  | []=>acc
  | o::rest=>k2p rest (acc ++ [(o.after.toList.filter fun ed=>Region.binds .any ed&&decide (ed.on<acc.length)).flatMap fun ed=>ed.on::acc.getD ed.on []])
theorem jw1 {ops:Array Oper} : ∀(rest:List Oper) (acc:List (List Nat)),(∀j,(rest[j]?)=ops[acc.length+j]?)->(∀j l,acc[j]? = some l->∀i∈l,Anc ops i j)->∀j l,(k2p rest acc)[j]? = some l->∀i∈l,Anc ops i j
 | [],acc,_,h=>h
 | o::rest,acc,hr,h=>by
  unfold k2p
  refine jw1 rest _ (fun j=>?_) ?_
  ·have:=hr (j+1)
   simp only [List.getElem?_cons_succ] at this
   rw [this,List.length_append,List.length_singleton]
   congr 1;omega
  ·intro j l hl i hi
   have ho:ops[acc.length]? = some o:=by have:=hr 0;simpa using this.symm
   rcases Nat.lt_or_ge j acc.length with hj|hj
   ·rw [List.getElem?_append_left hj] at hl
    exact h j l hl i hi
   ·rw [List.getElem?_append_right hj] at hl
    by_cases hj0:j - acc.length=0
    ·rw [hj0] at hl
     simp only [List.getElem?_cons_zero,Option.some.injEq] at hl
     subst hl
     have hjj:j=acc.length:=by omega
     subst hjj
     obtain ⟨ed,hed,hi⟩:=List.mem_flatMap.1 hi
     obtain ⟨hed,hb⟩:=List.mem_filter.1 hed
     simp only [Bool.and_eq_true,decide_eq_true_eq] at hb
     have h1:Anc ops ed.on acc.length:=.one ho (by simpa using hed) hb.1 rfl
     rcases List.mem_cons.1 hi with rfl|hi
     ·exact h1
     ·have hg:acc[ed.on]? = some (acc.getD ed.on []):=by
       rw [List.getElem?_eq_getElem hb.2];simp [List.getD,hb.2]
      exact .more (h ed.on _ hg i hi) h1
    ·obtain ⟨k,hk⟩ : ∃ k,j - acc.length=k+1:=⟨j - acc.length - 1,by omega⟩
     rw [hk] at hl
     simp at hl
def k3t (l:List Loc) (en:En):Bool:=l.any fun x=>(en.val x).isSome
def j9m (en:En):List Loc:=(match en.dst with|some i=>[Loc.s i]|none=>[])++(match en.res.box with|some (i,_)=>[Loc.b i]|none=>[])++(match en.res.row with|some (i,_)=>[Loc.r i]|none=>[])
theorem qjp {en:En} {l:Loc} (h:(en.val l).isSome=true):l∈j9m en:=by
 obtain ⟨rd,dst,c,v,bx,rw⟩:=en
 cases l with
 | s i =>
  simp only [En.val] at h
  split at h
  ·rename_i hd;subst hd;simp [j9m]
  ·cases h
 | b i =>
  simp only [En.val] at h
  split at h
  ·split at h
   ·rename_i hj;subst hj;simp [j9m]
   ·cases h
  ·cases h
 | r i =>
  simp only [En.val] at h
  split at h
  ·split at h
   ·rename_i hj;subst hj;simp [j9m]
   ·cases h
  ·cases h
def qb1 (x y:En):Bool:=k3t (j9m x) y||k3t x.reads y||k3t y.reads x
def j3w (an:List (List Nat)):Nat->List En->List En->Bool
 | _,_,[]=>true
 | k,pre,y::post=>(List.range pre.length).all (fun i=>!(qb1 (pre.getD i ⟨[],none,⟨True,.one (.c .bad),none,none⟩⟩) y)||(an.getD k []).contains i)&&j3w an (k+1) (pre ++ [y]) post
def jhk (ops:Array Oper) (es:List En):Bool:=decide (es.length=ops.size)&&j3w (k2p ops.toList []) 0 [] es&&ops.toList.zipIdx.all (fun p=>p.1.after.toList.all fun ed=>!Region.binds .any ed||decide (ed.on<p.2))
theorem j1z {an:List (List Nat)} : ∀(post:List En) (k:Nat) (pre:List En),pre.length=k->j3w an k pre post=true->∀i j x y,i<j->k<=j->(pre++post)[i]? = some x->(pre++post)[j]? = some y->qb1 x y=true->i∈an.getD j []
 | [],k,pre,hk,_,i,j,x,y,hij,hkj,hx,hy,_=>by
  rw [List.append_nil] at hy
  have:=(List.getElem?_eq_some_iff.1 hy).1
  omega
 | z::post,k,pre,hk,h,i,j,x,y,hij,hkj,hx,hy,hc=>by
  simp only [j3w,Bool.and_eq_true] at h
  by_cases hjk:j=k
  ·subst hjk
   have hyz:y=z:=by
    rw [List.getElem?_append_right (by omega),show j - pre.length=0 from by omega] at hy
    simpa using hy.symm
   subst hyz
   have hip:i<pre.length:=by omega
   have hxg:pre.getD i ⟨[],none,⟨True,.one (.c .bad),none,none⟩⟩=x:=by
    rw [List.getElem?_append_left hip] at hx
    simp [List.getD,hx]
   have:=List.all_eq_true.1 h.1 i (List.mem_range.2 hip)
   rw [hxg,hc] at this
   simpa using this
  ·have e1:pre++z::post=(pre ++ [z])++post:=by simp
   rw [e1] at hx hy
   exact j1z post (k+1) (pre ++ [z]) (by simp [hk]) h.2 i j x y hij (by omega) hx hy hc
def ju1 (P:Program) (F:Fr) (ops:Array Oper) (j:Nat) (en:En) (σ:St):Prop :=
 ∀σ',(∀l∈en.reads,σ'.get l=σ.get l)->∀e a w,R F σ' e a w->∀(Qx:Exit->Act->World->Prop) (K:Act->World->Prop),(∀a' w' e',R F (en.app σ') e' a' w'->K a' w')->wpOp P ops Qx j K a w
def qi1 (P:Program) (F:Fr) (ops:Array Oper):Nat->St->List En->Prop
 | _,_,[]=>True
 | j,σ,en::es=>ju1 P F ops j en σ/\qi1 P F ops (j+1) (en.app σ) es
def qjy:List En->St->St
 | [],σ=>σ
 | en::es,σ=>qjy es (en.app σ)
theorem jfl : ∀(es:List En) (k:Nat) (σ:St),stS es (fun _=>true) k σ=qjy es σ
 | [],_,_=>rfl
 | en::es,k,σ=>jfl es (k+1) (en.app σ)
theorem quq : ∀(es:List En) (S S':Nat->Bool) (k:Nat) (σ:St),(∀i,i<es.length->S (k+i)=S' (k+i))->stS es S k σ=stS es S' k σ
 | [],_,_,_,_,_=>rfl
 | en::es,S,S',k,σ,h=>by
  have h0:=h 0 (by simp)
  rw [Nat.add_zero] at h0
  show stS es S (k+1) (if S k then _ else _)=stS es S' (k+1) (if S' k then _ else _)
  rw [h0]
  exact quq es S S' (k+1) _ (fun i hi=>by have:=h (i+1) (by simp;omega);rwa [show k+(i+1)=k+1+i from by omega] at this)
theorem qpx : ∀(es:List En) (S:Nat->Bool) (k:Nat) (σ:St),(∀i,i<es.length->S (k+i)=false)->stS es S k σ=σ
 | [],_,_,_,_=>rfl
 | en::es,S,k,σ,h=>by
  have h0:=h 0 (by simp)
  rw [Nat.add_zero] at h0
  show stS es S (k+1) (if S k then _ else _)=σ
  rw [h0]
  exact qpx es S (k+1) _ (fun i hi=>by have:=h (i+1) (by simp;omega);rwa [show k+(i+1)=k+1+i from by omega] at this)
theorem j4b {ops:Array Oper} : ∀(es:List En) (k:Nat) (σ:St),qi1 P F ops k σ es->∀(j:Nat) (en:En),es[j]? = some en->ju1 P F ops (k+j) en (stS es (fun i=>decide (i<k+j)) k σ)
 | en0::es,k,σ,h,0,en,he=>by
  obtain rfl:en0=en:=by simpa using he
  rw [qpx (en0::es) _ k σ (fun i _=>by simp)]
  exact h.1
 | en0::es,k,σ,h,j+1,en,he=>by
  have:=j4b es (k+1) (en0.app σ) h.2 j en (by simpa using he)
  rw [show k+1+j=k+(j+1) from by omega] at this
  show ju1 P F ops (k+(j+1)) en (stS es _ (k+1) (if decide (k<k+(j+1)) then en0.app σ else σ))
  rw [if_pos (by simp)]
  exact this
 | [],_,_,_,_,_,he=>by simp at he
theorem count_set : ∀(l:List Bool) (j:Nat) (hj:j<l.length),l[j]=false->(l.set j true).countP (fun b=>!b)+1<=l.countP (fun b=>!b)
 | b::l,0,_,h=>by
  have hb:b=false:=h
  subst hb
  simp
 | b::l,j+1,hj,h=>by
  have:=count_set l j (by simpa using hj) h
  rw [List.set_cons_succ,List.countP_cons,List.countP_cons]
  omega
theorem qzp {id:Nat} {l:List Oper} {Q:Exit->St->Prop} (hm:P.follows .mixedOrders=true) (hn:qb5 F.n l.toArray=true) (es:List En) (hch:qi1 P F l.toArray 0 σ es) (hok:jhk l.toArray es=true) (h:Q .normal (qjy es σ)):q2h P F (.region id l.toArray true) σ Q:=by
 intro e a w hR
 unfold jhk at hok
 simp only [Bool.and_eq_true,decide_eq_true_eq] at hok
 obtain ⟨⟨hlen,hpairs⟩,hdep⟩:=hok
 have hlen':es.length=l.length:=by simpa using hlen
 have hanc : ∀i j x y,i<j->es[i]? = some x->es[j]? = some y->qb1 x y=true->Anc l.toArray i j:=fun i j x y hij hx hy hc=>by
  have h1:=j1z es 0 [] rfl hpairs i j x y hij (Nat.zero_le _) (by simpa using hx) (by simpa using hy) hc
  have hj:j<(k2p l.toArray.toList []).length:=by
   rcases Nat.lt_or_ge j (k2p l.toArray.toList []).length with h2|h2
   ·exact h2
   ·rw [List.getD_eq_getElem?_getD,List.getElem?_eq_none h2] at h1
    simp at h1
  have hg:(k2p l.toArray.toList [])[j]? = some ((k2p l.toArray.toList []).getD j []):=by
   rw [List.getElem?_eq_getElem hj];simp [List.getD,hj]
  exact jw1 (ops:=l.toArray) l.toArray.toList [] (fun j=>by simp) (fun j l' hl=>by simp at hl) j _ hg i h1
 have hdeps : ∀j o,l.toArray[j]? = some o->∀ed∈o.after,Region.binds .any ed=true->ed.on<j:=fun j o ho ed hed hb=>by
  have ho':l[j]? = some o:=by simpa using ho
  have hmem:(o,j)∈l.toArray.toList.zipIdx:=by
   rw [List.mem_zipIdx_iff_getElem?];simpa using ho'
  have h1:=List.all_eq_true.1 (List.all_eq_true.1 hdep _ hmem) ed (by simpa using hed)
  simp only [hb,Bool.not_true,Bool.false_or,decide_eq_true_eq] at h1
  exact h1
 let T:Array Bool->Nat->Bool:=fun listed i=>listed.getD i false
 have closed : ∀listed:Array Bool,(∀j o,l.toArray[j]? = some o->listed.getD j false=true->∀ed∈o.after,Region.binds .any ed=true->listed.getD ed.on false=true)->∀i j,Anc l.toArray i j->listed.getD j false=true->listed.getD i false=true:=by
  intro listed hc i j han
  induction han with
  | one ho he hb hi=>intro hj;subst hi;exact hc _ _ ho hj _ he hb
  | more _ _ ih1 ih2=>intro hj;exact ih1 (ih2 hj)
 have main : ∀(fuel:Nat) (listed:Array Bool) (a:Act) (w:World),listed.size=l.length->(∀j o,l.toArray[j]? = some o->listed.getD j false=true->∀ed∈o.after,Region.binds .any ed=true->listed.getD ed.on false=true) ->
   (∃ e,R F (stS es (T listed) 0 σ) e a w)->(listed.toList.countP (fun b=>!b)<=fuel) ->
   wpAny P .any l.toArray (fun ex a' w'=>∃ σ' e',Q ex σ'/\R F σ' e' a' w') fuel listed a w:=by
  have done : ∀(listed:Array Bool) (a:Act) (w:World),listed.size=l.length->(∃ e,R F (stS es (T listed) 0 σ) e a w)->Region.ready .any l.toArray listed = []->∃ σ' e',Q .normal σ'/\R F σ' e' a w:=by
   intro listed a w hsz ⟨e,hR⟩ hr
   have hall : ∀n i,i<=n->i<l.length->listed.getD i false=true:=by
    intro n
    induction n with
    | zero =>
     intro i hi hil
     obtain rfl:i=0:=by omega
     refine Classical.byContradiction fun hne=>?_
     have hmem:0∈Region.ready .any l.toArray listed:=mem_ready.2 ⟨by
      have:listed.getD 0 true=listed.getD 0 false:=by simp [Array.getD,hsz,hil]
      rw [this];simpa using hne,l[0],by simp [hil],fun ed hed hb=>by have:=hdeps 0 l[0] (by simp [hil]) ed hed hb;omega⟩
     rw [hr] at hmem;cases hmem
    | succ n ih =>
     intro i hi hil
     refine Classical.byContradiction fun hne=>?_
     have hmem:i∈Region.ready .any l.toArray listed:=mem_ready.2 ⟨by
      have:listed.getD i true=listed.getD i false:=by simp [Array.getD,hsz,hil]
      rw [this];simpa using hne,l[i],by simp [hil],fun ed hed hb=>by
       have:=hdeps i l[i] (by simp [hil]) ed hed hb
       exact ih ed.on (by omega) (by omega)⟩
     rw [hr] at hmem;cases hmem
   have he:stS es (T listed) 0 σ=qjy es σ:=by
    rw [<-jfl es 0 σ]
    refine quq es _ _ 0 σ (fun i hi=>?_)
    rw [Nat.zero_add]
    exact hall i i (Nat.le_refl _) (by omega)
   rw [he] at hR
   exact ⟨_,e,h,hR⟩
  intro fuel
  induction fuel with
  | zero =>
   intro listed a w hsz hc hR hcount
   have hr:Region.ready .any l.toArray listed = []:=by
    refine List.eq_nil_iff_forall_not_mem.2 fun i hi=>?_
    obtain ⟨h1,o,ho,_⟩:=mem_ready.1 hi
    have hil:i<listed.size:=by rw [hsz];have:=(Array.getElem?_eq_some_iff.1 ho).1;simpa using this
    have h2:listed[i]=false:=by simpa [Array.getD,hil] using h1
    have h3:0<listed.toList.countP (fun b=>!b):=List.countP_pos_iff.2 ⟨listed[i],by simp,by simp [h2]⟩
    omega
   exact ⟨hr,done listed a w hsz hR hr⟩
  | succ fuel ih =>
   intro listed a w hsz hc hR hcount
   refine ⟨done listed a w hsz hR,fun j hj=>?_⟩
   obtain ⟨e,hR⟩:=hR
   obtain ⟨h1,o,ho,hdl⟩:=mem_ready.1 hj
   have hjl:j<l.length:=by have:=(Array.getElem?_eq_some_iff.1 ho).1;simpa using this
   have hjs:j<listed.size:=by omega
   have hjf:listed.getD j false=false:=by
    have:listed.getD j true=listed.getD j false:=by simp [Array.getD,hjs]
    rw [<-this];exact h1
   obtain ⟨en,hen⟩ : ∃ en,es[j]? = some en:=⟨es[j]'(by omega),List.getElem?_eq_getElem (by omega)⟩
   have hup : ∀i,Anc l.toArray i j->listed.getD i false=true:=fun i han=>by
    have key : ∀i j,Anc l.toArray i j->(∀o,l.toArray[j]? = some o->∀ed∈o.after,Region.binds .any ed=true->listed.getD ed.on false=true)->listed.getD i false=true:=by
     intro i j han
     induction han with
     | one ho he hb hi=>intro hh;subst hi;exact hh _ ho _ he hb
     | more a1 _ ih1 ih2=>intro hh;exact closed listed hc _ _ a1 (ih2 hh)
    exact key i j han fun o' ho'=>by rw [ho] at ho';cases ho';exact hdl
   have hdown : ∀i,Anc l.toArray j i->listed.getD i false=false:=fun i han=>by
    refine Classical.byContradiction fun hne=>?_
    have:=closed listed hc j i han (by simpa using hne)
    rw [hjf] at this;cases this
   have hE:=j4b es 0 σ hch j en hen
   rw [Nat.zero_add] at hE
   refine hE (stS es (T listed) 0 σ) (fun x hx=>?_) e a w hR _ _ ?_
   ·refine get_congr es _ _ 0 σ σ (fun i en' he' hv=>?_) rfl
    rw [Nat.zero_add]
    rcases Nat.lt_trichotomy i j with hij|hij|hij
    ·have hcl:qb1 en' en=true:=by
      unfold qb1;simp only [Bool.or_eq_true];right
      exact List.any_eq_true.2 ⟨x,hx,hv⟩
     rw [show decide (i<j)=true from by simpa using hij]
     exact hup i (hanc i j en' en hij he' hen hcl)
    ·subst hij;rw [show decide (i<i)=false from by simp];exact hjf
    ·have hcl:qb1 en en'=true:=by
      unfold qb1;simp only [Bool.or_eq_true];left;right
      exact List.any_eq_true.2 ⟨x,hx,hv⟩
     rw [show decide (i<j)=false from by simp;omega]
     exact hdown i (hanc j i en en' hij hen he' hcl)
   ·intro a' w' e' hR'
    have hT:stS es (T (listed.setIfInBounds j true)) 0 σ=en.app (stS es (T listed) 0 σ):=by
     apply St.ext'
     intro x
     rw [qlg]
     cases hv:en.val x with
     | none =>
      refine get_congr es _ _ 0 σ σ (fun i en' he' hv'=>?_) rfl
      rw [Nat.zero_add]
      by_cases hij:i=j
      ·subst hij;rw [hen] at he';cases he';rw [hv] at hv';cases hv'
      ·exact getD_set_ne false (Ne.symm hij)
     | some v =>
      refine j3u es _ 0 j σ en hen hv ?_ (fun i en' hi he' hv'=>?_)
      ·rw [Nat.zero_add];show (listed.setIfInBounds j true).getD j false=true
       simp [hjs]
      ·rw [Nat.zero_add]
       show (listed.setIfInBounds j true).getD i false=false
       rw [getD_set_ne false (by omega)]
       have hcl:qb1 en en'=true:=by
        unfold qb1;simp only [Bool.or_eq_true];left;left
        exact List.any_eq_true.2 ⟨x,qjp (by rw [hv];rfl),hv'⟩
       exact hdown i (hanc j i en en' hi hen he' hcl)
    refine ih (listed.setIfInBounds j true) a' w' (by simp [hsz]) (fun k o' ho' hk ed hed hb=>?_) ⟨e',by rw [hT];exact hR'⟩ ?_
    ·by_cases hkj:k=j
     ·subst hkj
      rw [ho] at ho';cases ho'
      exact getD_set_true (hdl ed hed hb)
     ·rw [getD_set_ne false (Ne.symm hkj)] at hk
      exact getD_set_true (hc k o' ho' hk ed hed hb)
    ·have hcnt:(listed.setIfInBounds j true).toList.countP (fun b=>!b)+1<=listed.toList.countP (fun b=>!b):=by
      rw [Array.toList_setIfInBounds]
      have hj2:j<listed.toList.length:=by simpa using hjs
      have h2:listed.toList[j]=false:=by
       have:listed[j]=false:=by simpa [Array.getD,hjs] using hjf
       simpa using this
      exact count_set _ j hj2 h2
     omega
 have hR':R F (stS es (T (Array.replicate l.length false)) 0 σ) e a { w with drawn:=w.drawn+1 }:=by
  rw [qpx es _ 0 σ (fun i hi=>by
   show (Array.replicate l.length false).getD (0+i) false=false
   simp [Array.getD])]
  obtain ⟨hf,hh⟩:=hR.hp.drew
  exact ⟨hR.defers,hR.size,fun i=>(hR.slots i).fwd hf,hh⟩
 refine wp_region_any hm ?_
 have:=main l.toArray.size (Array.replicate l.length false) a { w with drawn:=w.drawn+1 } (by simp) (fun j o ho hj=>by simp [Array.getD] at hj) ⟨e,hR'⟩ (by
  have:=List.countP_le_length (p:=fun b=>!b) (l:=(Array.replicate l.length false).toList)
  simpa using this)
 simpa using this
end Go.Proofs.YtapfankgdkdkgaaGreatDoor.AM
namespace Go.Proofs.YtapfankgdkdkgaaGreatDoor.AM
open Go.RowKit
variable {F:Fr} {σ σ':St} {e:Env} {a:Act} {w:World} {P:Program}
def jb7:C->List Loc
 | .box β _=>[.b β]
 | .bsl β _=>[.b β]
 | .mv β=>[.b β]
 | .row t _=>[.r t]
 | .wp t _ _ _=>[.r t]
 | _=>[]
def qys:List C->List Loc
 | []=>[]
 | c::cs=>jb7 c++qys cs
def jn6:D1->List Loc
 | .c x=>jb7 x
 | .agg cs=>qys cs
def q7j:D->List Loc
 | .one x=>jn6 x
 | .tup _=>[]
def AgD (d:D) (bx bx':Nat->Option (Nat×List C)) (rw rw':Nat->Option Row):Prop:=(∀β,Loc.b β∈q7j d->bx' β=bx β)/\(∀t,Loc.r t∈q7j d->rw' t=rw t)
section
variable {bx bx':Nat->Option (Nat×List C)} {rw rw':Nat->Option Row}
theorem j6z {t:TypeId} {p:D} (h:AgD p bx bx' rw rw'):q9e P t p bx' rw'=q9e P t p bx rw:=by
 unfold q9e
 split
 ·rw [h.1 _ (by simp [q7j,jn6,jb7])]
 ·rfl
 ·rw [h.2 _ (by simp [q7j,jn6,jb7])]
 ·rfl
theorem j54 {t:TypeId} {p x:D} (h:AgD p bx bx' rw rw'):q3z P t p x bx' rw'=q3z P t p x bx rw:=by
 unfold q3z
 split
 ·split
  ·split
   ·split
    ·rw [h.1 _ (by simp [q7j,jn6,jb7])]
    ·rw [h.2 _ (by simp [q7j,jn6,jb7])]
    ·rfl
   ·rfl
  ·rfl
 ·rfl
theorem qlq {t:TypeId} {x i:D} (h:AgD x bx bx' rw rw'):q19 P t x i rw'=q19 P t x i rw:=by
 unfold q19
 split
 ·split
  ·rfl
  ·rw [h.2 _ (by simp [q7j,jn6,jb7])]
  ·rfl
 ·rfl
 ·rfl
theorem jgm {t:TypeId} {x:D} (h:AgD x bx bx' rw rw'):qmy P t x rw'=qmy P t x rw:=by
 unfold qmy
 split
 ·rfl
 ·rfl
 ·rfl
 ·rw [h.2 _ (by simp [q7j,jn6,jb7])]
 ·rfl
theorem qvq {m:Nat} {x:D} (h:AgD x bx bx' rw rw'):qpk m x rw'=qpk m x rw:=by
 unfold qpk
 split
 ·rfl
 ·rfl
 ·rw [h.2 _ (by simp [q7j,jn6,jb7])]
 ·rfl
theorem qyo {dst:Option Nat} {t:TypeId} {s x:D} (hs:AgD s bx bx' rw rw') (hx:AgD x bx bx' rw rw') (hd : ∀i,dst=some i->rw' i=rw i):q3d P dst t s x rw'=q3d P dst t s x rw:=by
 unfold q3d
 simp only [qvq hx]
 split
 ·split
  ·split
   ·split
    ·rw [hs.2 _ (by simp [q7j,jn6,jb7])]
    ·split
     ·rw [hd _ rfl]
     ·rfl
    ·rfl
   ·rfl
  ·rfl
 ·rfl
theorem qj7 {dst:Option Nat} {t:TypeId} {n:Nat} {ps:Array (Nat×Operand)} {ρ:Operand->D} (hd : ∀i,dst=some i->rw' i=rw i):q1a P dst t n ps ρ rw'=q1a P dst t n ps ρ rw:=by
 unfold q1a
 split
 ·rw [hd _ rfl]
 ·rfl
theorem j35 {dst:Option Nat} {t:TypeId} (hd : ∀i,dst=some i->bx' i=bx i):qcf P dst t bx'=qcf P dst t bx:=by
 unfold qcf
 split
 ·rw [hd _ rfl]
 ·rfl
theorem jhe {dst:Option Nat} {t:TypeId} {x:D} (hd : ∀i,dst=some i->bx' i=bx i):qxo dst t x bx'=qxo dst t x bx:=by
 unfold qxo
 split
 ·rw [hd _ rfl]
 ·rfl
theorem qpl {t:TypeId} {x:D} {lo hi:Option D} (h:AgD x bx bx' rw rw'):q3f P t x lo hi rw'=q3f P t x lo hi rw:=by
 unfold q3f
 split
 ·rw [h.2 _ (by simp [q7j,jn6,jb7])]
 ·rfl
theorem qxe {dst:Option Nat} {s d:TypeId} {x:D} (h:AgD x bx bx' rw rw') (hd : ∀i,dst=some i->rw' i=rw i):q3o P dst s d x rw'=q3o P dst s d x rw:=by
 unfold q3o
 simp only [qvq h]
 split
 ·rfl
 ·split
  ·rw [hd _ rfl]
  ·rfl
 ·rfl
theorem ja4 {dst:Option Nat} {t:TypeId} {x:D} (hd : ∀i,dst=some i->rw' i=rw i):qij P dst t x rw'=qij P dst t x rw:=by
 unfold qij
 split
 ·rw [hd _ rfl]
 ·rfl
theorem qwg {dst:Option Nat} {t:TypeId} (hd : ∀i,dst=some i->bx' i=bx i):q4j P dst t bx'=q4j P dst t bx:=by
 unfold q4j
 split
 ·rw [hd _ rfl]
 ·rfl
theorem qyj {t:TypeId} {x i:D} {ok:Bool} (h:AgD x bx bx' rw rw'):q2x P t x i ok bx'=q2x P t x i ok bx:=by
 unfold q2x
 split
 ·rw [h.1 _ (by simp [q7j,jn6,jb7])]
 ·rfl
theorem qgi {t:TypeId} {m i x:D} (h:AgD m bx bx' rw rw'):q3c P t m i x bx'=q3c P t m i x bx:=by
 unfold q3c
 split
 ·rw [h.1 _ (by simp [q7j,jn6,jb7])]
 ·rfl
theorem qeb {ρ ρ':Operand->D} : ∀{ps:List (Nat×Operand)},(∀p∈ps,ρ' p.2=ρ p.2)->qcn ρ' ps=qcn ρ ps
 | [],_=>rfl
 | (i,x)::ps,h=>by
  unfold qcn
  rw [h _ (List.mem_cons_self ..),qeb (fun p hp=>h p (List.mem_cons_of_mem _ hp))]
theorem jgk {o:Oper} {ρ ρ':Operand->D} (hρ : ∀x∈o.op.operands.toList,ρ' x=ρ x) (hl : ∀x∈o.op.operands.toList,AgD (ρ x) bx bx' rw rw') (hb : ∀i,o.dst=some i->bx' i=bx i) (hr : ∀i,o.dst=some i->rw' i=rw i) :
  qhg P o ρ' bx' rw'=qhg P o ρ bx rw:=by
 unfold qhg
 generalize hop:o.op=op at hρ hl ⊢
 split<;>simp only [Op.operands,Call.operands] at hρ hl
 ·rw [hρ _ (by simp)]
 ·rw [hρ _ (by simp)]
 ·rw [hρ _ (by simp),hρ _ (by simp),hρ _ (by simp)]
 ·exact j35 hb
 ·rw [hρ _ (by simp)];exact jhe hb
 ·rw [hρ _ (by simp)];exact j6z (hl _ (by simp))
 ·rw [hρ _ (by simp),hρ _ (by simp)];exact j54 (hl _ (by simp))
 ·rw [hρ _ (by simp)]
 ·rw [hρ _ (by simp)]
 ·rw [hρ _ (by simp),hρ _ (by simp)]
 ·rw [hρ _ (by simp),hρ _ (by simp)];exact qlq (bx:=bx) (bx':=bx') (hl _ (by simp))
 ·rw [hρ _ (by simp)]
 ·unfold qh6
  rw [qeb (ρ:=ρ) (ρ':=ρ') fun p hp=>hρ p.2 (by simpa using ⟨p.1,Array.mem_toList_iff.1 hp⟩)]
 ·rw [qj7 hr]
  unfold q1a
  rw [qeb (ρ:=ρ) (ρ':=ρ') fun p hp=>hρ p.2 (by simpa using ⟨p.1,Array.mem_toList_iff.1 hp⟩)]
 ·rw [hρ _ (by simp),hρ _ (by simp)]
 ·rw [hρ _ (by simp)]
 ·rw [hρ _ (by simp)]
 ·rw [hρ _ (by simp),qxe (bx:=bx) (bx':=bx') (hl _ (by simp)) hr]
 ·rename_i t x lo hi
  rw [hρ x (by simp)]
  have e1:lo.map ρ'=lo.map ρ:=by cases lo<;>simp;exact hρ _ (by simp)
  have e2:hi.map ρ'=hi.map ρ:=by cases hi<;>simp;exact hρ _ (by simp)
  rw [e1,e2,qpl (bx:=bx) (bx':=bx') (hl _ (by simp))]
 ·rw [hρ _ (by simp)]
 ·rw [hρ _ (by simp)];exact jgm (bx:=bx) (bx':=bx') (hl _ (by simp))
 ·split
  ·rw [hρ _ (by simp),hρ _ (by simp)];exact qyo (bx:=bx) (bx':=bx') (hl _ (by simp)) (hl _ (by simp)) hr
  ·rfl
 ·rw [hρ _ (by simp),ja4 hr]
 ·rw [hρ _ (by simp),hρ _ (by simp)]
 ·rw [hρ _ (by simp),hρ _ (by simp)]
 ·congr 1
  exact List.map_congr_left fun x hx=>hρ x (by simpa using hx)
 ·exact qwg hb
 ·rw [hρ _ (by simp),hρ _ (by simp)];exact qyj (hl _ (by simp))
 ·rw [hρ _ (by simp),hρ _ (by simp),hρ _ (by simp)];exact qgi (hl _ (by simp))
 ·rw [hρ _ (by simp),hρ _ (by simp),hρ _ (by simp)];exact qgi (hl _ (by simp))
 ·rfl
end
def qho (σ:St):List Operand->List Loc
 | []=>[]
 | x::xs=>q7j (opnd σ x)++qho σ xs
def qla:List Operand->List Loc
 | []=>[]
 | .tmp t::xs=>.s t::qla xs
 | _::xs=>qla xs
def qqs (ops:Array Oper) (o:Oper):List Loc:=match o.guard with
 | some (g,_)=>match (ops[g]?).bind (·.dst) with
  | some t=>[.s t]
  | none=>[]
 | none=>[]
def j28 (o:Oper):List Loc:=match o.dst with
 | some i=>[.b i,.r i]
 | none=>[]
def q41 (ops:Array Oper) (σ:St) (o:Oper):List Loc:=qqs ops o++(qla o.op.operands.toList++(qho σ o.op.operands.toList++j28 o))
theorem qsz {t:Nat} : ∀{xs:List Operand},Operand.tmp t∈xs->Loc.s t∈qla xs
 | x::xs,h=>by
  rcases List.mem_cons.1 h with rfl|h
  ·exact List.mem_cons_self ..
  ·have ih:=qsz h
   cases x with
   | tmp t'=>exact List.mem_cons_of_mem _ ih
   | const v=>exact ih
   | global g=>exact ih
   | func f=>exact ih
theorem qtw {x:Operand} {l:Loc} : ∀{xs:List Operand},x∈xs->l∈q7j (opnd σ x)->l∈qho σ xs
 | y::xs,h,hl=>by
  rw [qho,List.mem_append]
  rcases List.mem_cons.1 h with rfl|h
  ·exact Or.inl hl
  ·exact Or.inr (qtw h hl)
variable {ops:Array Oper} {o:Oper} {j:Nat} {rest:List Oper} {pre:List En} {K:St->Prop}
theorem qeq (h : ∀l∈q41 ops σ o,σ'.get l=σ.get l) : ∀x∈o.op.operands.toList,opnd σ' x=opnd σ x:=by
 intro x hx
 cases x with
 | tmp t =>
  have:=h (.s t) (by unfold q41;simp only [List.mem_append];exact Or.inr (Or.inl (qsz hx)))
  simp only [St.get,LV.s.injEq] at this
  exact this
 | _=>rfl
theorem qfy (h : ∀l∈q41 ops σ o,σ'.get l=σ.get l) : ∀x∈o.op.operands.toList,AgD (opnd σ x) σ.box σ'.box σ.row σ'.row:=by
 intro x hx
 have hm : ∀l,l∈q7j (opnd σ x)->l∈q41 ops σ o:=fun l hl=>by
  unfold q41;simp only [List.mem_append];exact Or.inr (Or.inr (Or.inl (qtw hx hl)))
 exact ⟨fun β hβ=>by have:=h _ (hm _ hβ);simpa [St.get] using this,fun t ht=>by have:=h _ (hm _ ht);simpa [St.get] using this⟩
theorem j7m (h : ∀l∈q41 ops σ o,σ'.get l=σ.get l):(∀i,o.dst=some i->σ'.box i=σ.box i)/\(∀i,o.dst=some i->σ'.row i=σ.row i):=by
 have hm : ∀i,o.dst=some i->Loc.b i∈q41 ops σ o/\Loc.r i∈q41 ops σ o:=fun i hi=>by
  unfold q41 j28;rw [hi];simp
 exact ⟨fun i hi=>by have:=h _ (hm i hi).1;simpa [St.get] using this,fun i hi=>by have:=h _ (hm i hi).2;simpa [St.get] using this⟩
theorem qf4 (h : ∀l∈q41 ops σ o,σ'.get l=σ.get l):q47 ops σ' o=q47 ops σ o:=by
 unfold q47
 cases hg:o.guard with
 | none=>rfl
 | some p =>
  obtain ⟨g,want⟩:=p
  simp only
  cases ht:(ops[g]?).bind (·.dst) with
  | none=>rfl
  | some t =>
   have:=h (.s t) (by unfold q41 qqs;rw [hg];simp [ht])
   have h2:σ'.slot t=σ.slot t:=by simpa [St.get] using this
   simp only [h2]
theorem jr7 (hn:qb5 F.n ops=true) (ho:ops[j]? = some o) (hw:q47 ops σ o=some true) {res:Res} (he:qhg P o (opnd σ) σ.box σ.row=some res) (hc:res.cond):ju1 P F ops j ⟨q41 ops σ o,o.dst,res⟩ σ:=by
 intro σ' h e a w hR Qx K hK
 have hd : ∀k,o.dst=some k->k<F.n:=fun k hk=>q2r hn (by rw [ho];exact hk)
 have he':qhg P o (opnd σ') σ'.box σ'.row=some res:=by
  rw [jgk (qeq h) (qfy h) (j7m h).1 (j7m h).2];exact he
 obtain ⟨v,w',e',h1,h2,h3,h4⟩:=jlo he' e a w hR hc
 have hR':R F ((σ'.app res).put o.dst res.val) e' (a.put o.dst v) w':=hR.next h2 h3 rfl o.dst hd v res.val h4
 have hnext:=hK _ _ e' hR'
 unfold wpOp
 simp only [ho]
 rw [q8a hR ((qf4 h).trans hw) (fun g _ t ht=>q2r hn ht),if_pos rfl]
 refine .inl ?_
 unfold Oper.wp
 rcases h1 with h1|⟨h1,rfl⟩
 ·rw [h1];exact hnext
 ·rw [h1];exact hnext
theorem jxq (hn:qb5 F.n ops=true) (ho:ops[j]? = some o) (hw:q47 ops σ o=some false):ju1 P F ops j ⟨q41 ops σ o,o.dst,{ cond:=True,val:=q70 undef }⟩ σ:=by
 intro σ' h e a w hR Qx K hK
 have hd : ∀k,o.dst=some k->k<F.n:=fun k hk=>q2r hn (by rw [ho];exact hk)
 have hR':R F (σ'.put o.dst (q70 undef)) e (a.put o.dst undef) w:=hR.pure hd (q08 _)
 unfold wpOp
 simp only [ho]
 rw [q8a hR ((qf4 h).trans hw) (fun g _ t ht=>q2r hn ht),if_neg (by decide)]
 exact hK _ _ e hR'
theorem qve {rw rw':Nat->Option Row} {c:C} (h : ∀t,Loc.r t∈jb7 c->rw' t=rw t):j70 rw' c=j70 rw c:=by
 unfold j70
 split
 ·rfl
 ·rfl
 ·rw [h _ (by simp [jb7])]
 ·rfl
theorem qpa {rw rw':Nat->Option Row} : ∀{cs:List C},(∀t,Loc.r t∈qys cs->rw' t=rw t)->qjr rw' cs=qjr rw cs
 | [],_=>rfl
 | c::cs,h=>by
  unfold qjr
  rw [qve (fun t ht=>h t (by rw [qys,List.mem_append];exact Or.inl ht)),qpa (fun t ht=>h t (by rw [qys,List.mem_append];exact Or.inr ht))]
theorem jg3 {rw rw':Nat->Option Row} {d:D} (h : ∀t,Loc.r t∈q7j d->rw' t=rw t):je1 rw' d=je1 rw d:=by
 cases d with
 | one x =>
  cases x with
  | c x=>simp only [je1,jha,qve (c:=x) h]
  | agg cs=>simp only [je1,jha,qpa (cs:=cs) h]
 | tup xs=>rfl
theorem qob {rw rw':Nat->Option Row} : ∀{ds:List D},(∀d∈ds,∀t,Loc.r t∈q7j d->rw' t=rw t)->qck rw' ds=qck rw ds
 | [],_=>rfl
 | d::ds,h=>by
  unfold qck
  rw [jg3 (h d (List.mem_cons_self ..)),qob (fun d' hd'=>h d' (List.mem_cons_of_mem _ hd'))]
theorem k68 (hn:qb5 F.n ops=true) (ho:ops[j]? = some o) (hw:q47 ops σ o=some true) {x:Operand} {xs:Array Operand} {ts:Array TypeId} (hop:o.op = .call { callee:=.value x,args:=xs,argTypes:=ts })
  {f:FuncId} (hf:callee σ x=some f) (hb:q66 P f=true) {ds:List D} (hds:qck σ.row (xs.toList.map (opnd σ))=some ds) {d:D} (hc:qkc P F.G f ds d):ju1 P F ops j ⟨q41 ops σ o,o.dst,{ cond:=True,val:=d }⟩ σ:=by
 intro σ' h e a w hR Qx K hK
 have hd : ∀k,o.dst=some k->k<F.n:=fun k hk=>q2r hn (by rw [ho];exact hk)
 have hops:=qeq h
 have hheap:=qfy h
 rw [hop] at hops hheap
 simp only [Op.operands,Call.operands] at hops hheap
 have hx:opnd σ' x=opnd σ x:=hops x (by simp)
 have hxs:xs.toList.map (opnd σ')=xs.toList.map (opnd σ):=List.map_congr_left fun y hy=>hops y (by simp;exact Or.inr (by simpa using hy))
 have hds':qck σ'.row (xs.toList.map (opnd σ'))=some ds:=by
  rw [hxs,qob (rw:=σ.row) (rw':=σ'.row)]
  ·exact hds
  ·intro d' hd' t ht
   obtain ⟨y,hy,rfl⟩:=List.mem_map.1 hd'
   exact (hheap y (by simp;exact Or.inr (by simpa using hy))).2 t ht
 have hf':callee σ' x=some f:=by unfold callee at *;rw [hx];exact hf
 unfold wpOp
 simp only [ho]
 rw [q8a hR ((qf4 h).trans hw) (fun g _ t ht=>q2r hn ht),if_pos rfl]
 refine .inl ?_
 unfold callee at hf'
 split at hf'
 case h_2=>cases hf'
 rename_i f' hxx
 simp only [Option.some.injEq] at hf'
 subst hf'
 have h1:=hR.opnd x
 rw [hxx] at h1
 have h2:=q0d h1
 have hrun:(execOp a.eval o).run P w = .ok (.enter f' (xs.map a.eval)) w:=by
  have:=qq6 hb (xs.map a.eval) w
  simp [execOp,hop,Sem.run_bind,resolve,h2,Deferred.ofValue,invoke,this]
 unfold Oper.wp
 rw [hrun]
 refine (qi4 hc hR.hp (vs:=xs.map a.eval) (by rw [Array.toList_map];exact qrn hR.hp hds' (qj8 hR _))).mono ?_
 rintro en w' ⟨v,e',rfl,h3,h4,h5⟩
 exact hK _ _ e' (hR.next h3 h4 rfl o.dst hd v d h5)
def qrb (P:Program) (F:Fr) (ops:Array Oper) (pre:List En) (rest:List Oper) (σ:St) (K:St->Prop):Prop :=
 qb5 F.n ops=true->ops.toList.drop pre.length=rest->∃ post,qi1 P F ops pre.length σ post/\jhk ops (pre.reverse++post)=true/\K (qjy post σ)
theorem k9l (hok:jhk ops pre.reverse=true) (h:K σ):qrb P F ops pre [] σ K:=fun _ _=>⟨[],trivial,by simpa using hok,h⟩
theorem j4y {en:En} (hen:qb5 F.n ops=true->ops[pre.length]? = some o->ju1 P F ops pre.length en σ) (h:qrb P F ops (en::pre) rest (en.app σ) K):qrb P F ops pre (o::rest) σ K:=by
 intro hn hdrop
 have ho:ops[pre.length]? = some o:=by
  have:(ops.toList.drop pre.length)[0]? = some o:=by rw [hdrop];rfl
  rw [List.getElem?_drop,Nat.add_zero] at this
  simpa using this
 have hdrop':ops.toList.drop (en::pre).length=rest:=by
  rw [List.length_cons,<-List.drop_drop,hdrop];rfl
 obtain ⟨post,h1,h2,h3⟩:=h hn hdrop'
 exact ⟨en::post,⟨hen hn ho,h1⟩,by simpa using h2,h3⟩
def k5f (σ:St) (rl:List Loc) (dst:Option Nat) (K1:En->St->Prop):Option Bool->Option Res->Prop
 | some true,some res=>res.cond/\K1 ⟨rl,dst,res⟩ ((σ.app res).put dst res.val)
 | some false,_=>K1 ⟨rl,dst,{ cond:=True,val:=q70 undef }⟩ (σ.put dst (q70 undef))
 | _,_=>False
theorem k6u (h : ∀K1:En->St->Prop,(∀en σ',qrb P F ops (en::pre) rest σ' K->K1 en σ')->k5f σ (q41 ops σ o) o.dst K1 (q47 ops σ o) (qhg P o (opnd σ) σ.box σ.row)):qrb P F ops pre (o::rest) σ K:=by
 have h:=h (fun en σ'=>qrb P F ops (en::pre) rest σ' K) (fun _ _ h=>h)
 unfold k5f at h
 split at h
 ·rename_i res hw he
  exact j4y (fun hn ho=>jr7 hn ho hw he h.1) h.2
 ·rename_i hw
  refine j4y (en:=⟨q41 ops σ o,o.dst,{ cond:=True,val:=q70 undef }⟩) (fun hn ho=>jxq hn ho hw) ?_
  have e1:(⟨q41 ops σ o,o.dst,{ cond:=True,val:=q70 undef }⟩:En).app σ=σ.put o.dst (q70 undef):=rfl
  rw [e1];exact h
 ·exact h.elim
theorem k6v (hw:q47 ops σ o=some true) {x:Operand} {xs:Array Operand} {ts:Array TypeId} (hop:o.op = .call { callee:=.value x,args:=xs,argTypes:=ts })
  {f:FuncId} (hf:callee σ x=some f) (hb:q66 P f=true) {ds:List D} (hds:qck σ.row (xs.toList.map (opnd σ))=some ds) {d:D} (hc:qkc P F.G f ds d)
  (h : ∀K1:En->St->Prop,(∀en σ',qrb P F ops (en::pre) rest σ' K->K1 en σ')->K1 ⟨q41 ops σ o,o.dst,{ cond:=True,val:=d }⟩ (σ.put o.dst d)):qrb P F ops pre (o::rest) σ K:=by
 have h:=h (fun en σ'=>qrb P F ops (en::pre) rest σ' K) (fun _ _ h=>h)
 refine j4y (fun hn ho=>k68 hn ho hw hop hf hb hds hc) ?_
 have e1:(⟨q41 ops σ o,o.dst,{ cond:=True,val:=d }⟩:En).app σ=σ.put o.dst d:=rfl
 rw [e1];exact h
theorem jxy {id:Nat} {l:List Oper} {y:Code} {Q:Exit->St->Prop} (hm:P.follows .mixedOrders=true) (hn:qb5 F.n l.toArray=true) (h:qrb P F l.toArray [] l σ (fun σ'=>q2h P F y σ' Q)):q2h P F (.seq (.region id l.toArray true) y) σ Q:=by
 obtain ⟨post,h1,h2,h3⟩:=h hn (by simp)
 exact qtq (qzp hm hn post h1 (by simpa using h2) h3)
theorem jxw {id:Nat} {l:List Oper} {Q:Exit->St->Prop} (hm:P.follows .mixedOrders=true) (hn:qb5 F.n l.toArray=true) (h:qrb P F l.toArray [] l σ (Q .normal)):q2h P F (.region id l.toArray true) σ Q:=by
 obtain ⟨post,h1,h2,h3⟩:=h hn (by simp)
 exact qzp hm hn post h1 (by simpa using h2) h3
theorem k64 (a:Array UInt8):(ByteArray.mk a).size=a.size:=rfl
attribute [push_cast] Option.pure_def Option.bind_eq_bind Option.bind_some Nat.zero_mul Nat.mul_zero Nat.one_mul Nat.mul_one Nat.zero_le Option.isSome_some Option.isSome_none k64 List.size_toArray Nat.zero_add Nat.add_zero St.of List.lookup_cons List.lookup_nil Option.getD_some Option.getD_none beq_self_eq_true clD cl1 clC List.forall_mem_cons k5f q41 qqs qla qho j28 q7j jn6 jb7 qys Op.operands Call.operands callee List.append_nil
end Go.Proofs.YtapfankgdkdkgaaGreatDoor.AM
namespace Go.Proofs.YtapfankgdkdkgaaGreatDoor.AM
open Go.RowKit Go.ChangeShapes Go.WideShapes Go.ChangeAt
inductive Sh where
 | int (k:IntKind)
 | bool
 | str
 | lst (e:List Sh)
mutual
def Typ:Sh->Dat->Prop
 | .int k,.v x=>∃ n,x = .int k n/\(Lit.int k n).wf=true
 | .bool,.v x=>∃ b,x = .bool b
 | .str,.v x=>∃ s:ByteArray,x = .string s/\s.size<=maxLen
 | .lst e,.lst sz xs=>sz=e.length/\xs.length<=maxLen/\∀x∈xs,q6g e x
 | _,_=>False
def q6g:List Sh->List Dat->Prop
 | [],[]=>True
 | s::ss,d::ds=>Typ s d/\q6g ss ds
 | _,_=>False
end
theorem q6g.len : ∀{ss:List Sh} {ds:List Dat},q6g ss ds->ds.length=ss.length
 | [],[],_=>rfl
 | _::ss,_::ds,h=>by
  unfold q6g at h
  rw [List.length_cons,List.length_cons,q6g.len h.2]
 | [],_::_,h=>by unfold q6g at h;exact h.elim
 | _::_,[],h=>by unfold q6g at h;exact h.elim
theorem q6g.app : ∀{ss:List Sh} {ds:List Dat} {ss':List Sh} {ds':List Dat},q6g ss ds->q6g ss' ds'->q6g (ss++ss') (ds++ds')
 | [],[],_,_,_,h=>h
 | _::ss,_::ds,_,_,h,h'=>by
  unfold q6g at h
  rw [List.cons_append,List.cons_append]
  unfold q6g
  exact ⟨h.1,q6g.app h.2 h'⟩
 | [],_::_,_,_,h,_=>by unfold q6g at h;exact h.elim
 | _::_,[],_,_,h,_=>by unfold q6g at h;exact h.elim
def qxa (f:TypeId->Option (List Sh)) (cells:TypeId->Nat):List Field->List Sh->Option (List Sh)
 | [],acc=>some acc
 | fd::fs,acc=>match f fd.type with
  | some s=>if fd.offset=acc.length/\s.length=cells fd.type then qxa f cells fs (acc++s) else none
  | none=>none
def shapeOf (P:Program):Nat->TypeId->Option (List Sh)
 | 0,_=>none
 | n+1,t=>match P.underlying t with
  | some (.int k)=>some [.int k]
  | some .bool=>some [.bool]
  | some .string=>some [.str]
  | some (.slice e)=>match shapeOf P n e with
   | some s=>if 0<s.length/\s.length=P.cellsOf e then some [.lst s] else none
   | none=>none
  | some (.struct fs)=>match qxa (shapeOf P n) P.cellsOf fs.toList [] with
   | some s=>if s.length=P.cellsOf t then some s else none
   | none=>none
  | _=>none
variable {H:Type} {enc:TypeId×Value->H} {P:Program} {W:World}
def Old (W:World):Nat->Nat->Prop:=fun b _=>b<W.heap.size
theorem k8s {w:World} {a:Addr} {v:Value} (h:w.cell? a=some v):a.block<w.heap.size:=by
 unfold World.cell? at h
 split at h
 ·rename_i he
  exact jl0 he
 ·cases h
def k7c (enc:TypeId×Value->H) (P:Program) (W:World) (t:TypeId) (sh:List Sh):Prop :=
 ∀(fuel:Nat) (cells:List Value) (x:DataW H×List MemPlace),DataW.trod enc P W 0 (fun _=>true) true fuel t cells=some x ->
  ∃ ds,q0j (DatRep (Old W) W) cells ds/\q6g sh ds/\∀c∈cells,c.oneCell'=true
theorem qwd {f:TypeId->Option (List Sh)} (hf : ∀t s,f t=some s->k7c enc P W t s) {cells:List Value} {n:Nat} : ∀(fs:List Field) (acc sh:List Sh) (ds:List Dat),qxa f P.cellsOf fs acc=some sh ->
  (∀fd∈fs,∃ x,DataW.trod enc P W 0 (fun _=>true) true n fd.type ((cells.drop fd.offset).take (P.cellsOf fd.type))=some x)->acc.length<=cells.length->q0j (DatRep (Old W) W) (cells.take acc.length) ds->q6g acc ds->(∀c∈cells.take acc.length,c.oneCell'=true) ->
  sh.length<=cells.length/\∃ ds',q0j (DatRep (Old W) W) (cells.take sh.length) ds'/\q6g sh ds'/\∀c∈cells.take sh.length,c.oneCell'=true
 | [],acc,sh,ds,h,_,hl,h1,h2,h3=>by
  simp only [qxa,Option.some.injEq] at h
  subst h
  exact ⟨hl,ds,h1,h2,h3⟩
 | fd::fs,acc,sh,ds,h,hr,hl,h1,h2,h3=>by
  unfold qxa at h
  split at h
  case h_2=>cases h
  rename_i s hs
  split at h
  case isFalse=>cases h
  rename_i hc
  obtain ⟨hc1,hc2⟩:=hc
  obtain ⟨x,hx⟩:=hr fd (List.mem_cons_self ..)
  obtain ⟨ds2,g1,g2,g3⟩:=hf _ _ hs _ _ _ hx
  have hlen:=g1.length
  have hlen2:=g2.len
  rw [List.length_take,List.length_drop] at hlen
  have e1:cells.take (acc++s).length=cells.take acc.length++(cells.drop fd.offset).take (P.cellsOf fd.type):=by
   rw [hc1,<-hc2,List.length_append,List.take_add]
  have hl':(acc++s).length<=cells.length:=by
   rw [List.length_append]
   rcases Nat.eq_zero_or_pos s.length with h0|h0
   ·omega
   ·omega
  refine qwd hf fs (acc++s) sh (ds++ds2) h (fun fd' hfd=>hr fd' (List.mem_cons_of_mem _ hfd)) hl' (by rw [e1];exact h1.append g1) (h2.app g2) (fun c hc=>?_)
  rw [e1,List.mem_append] at hc
  rcases hc with hc|hc
  ·exact h3 c hc
  ·exact g3 c hc
theorem opens : ∀(n:Nat) (t:TypeId) (sh:List Sh),shapeOf P n t=some sh->k7c enc P W t sh
 | 0,_,_,h=>by cases h
 | n+1,t,sh,h=>by
  intro fuel cells x hx
  unfold shapeOf at h
  split at h
  ·rename_i k hu
   simp only [Option.some.injEq] at h;subst h
   obtain ⟨m,rfl,_,hw⟩:=DataW.trod_int hu hx
   exact ⟨[.v (.int k m)],⟨.v _,trivial⟩,by unfold q6g q6g Typ;exact ⟨⟨m,rfl,hw⟩,trivial⟩,fun c hc=>by simp at hc;rw [hc];rfl⟩
  ·rename_i hu
   simp only [Option.some.injEq] at h;subst h
   obtain ⟨b,rfl,_⟩:=DataW.trod_bool hu hx
   exact ⟨[.v (.bool b)],⟨.v _,trivial⟩,by unfold q6g q6g Typ;exact ⟨⟨b,rfl⟩,trivial⟩,fun c hc=>by simp at hc;rw [hc];rfl⟩
  ·rename_i hu
   simp only [Option.some.injEq] at h;subst h
   obtain ⟨s,rfl,_,hs⟩:=DataW.trod_string hu hx
   exact ⟨[.v (.string s)],⟨.v _,trivial⟩,by unfold q6g q6g Typ;exact ⟨⟨s,rfl,hs⟩,trivial⟩,fun c hc=>by simp at hc;rw [hc];rfl⟩
  ·rename_i e hu
   split at h
   case h_2=>cases h
   rename_i s hs
   split at h
   case isFalse=>cases h
   rename_i hc
   obtain ⟨hc1,hc2⟩:=hc
   simp only [Option.some.injEq] at h;subst h
   have ih:=opens n e s hs
   rcases Deep.open_slice hu hx with ⟨rfl,_⟩|⟨a,len,cap,m,n',D,Pl,rfl,hb,hl,hm,hmm,_,hi⟩
   ·refine ⟨[.lst s.length []],⟨.lst none 0 0 s.length [] 0 0 (fun _ _=>undef) rfl (Nat.le_refl _) (Nat.zero_le _) (fun x hx=>by cases hx) (fun h=>by simp at h) (fun k j hk=>by simp at hk) (fun k j hk=>by simp at hk),trivial⟩,?_,fun c hc=>by simp at hc;rw [hc];rfl⟩
    unfold q6g q6g Typ
    exact ⟨⟨rfl,by simp,fun x hx=>by cases hx⟩,trivial⟩
   ·have hge:len<=m:=by rw [hmm];split<;>omega
    have hp : ∀i,∃ p:List Value×List Dat,i<len->(∀j (hj:j<p.1.length),W.cell? ((a.add (i*s.length)).add j)=some p.1[j])/\q0j (DatRep (Old W) W) p.1 p.2/\q6g s p.2/\∀c∈p.1,c.oneCell'=true:=by
     intro i
     by_cases h:i<len
     ·obtain ⟨cs',hcs,ht⟩:=hi i (by omega)
      obtain ⟨_,hlen',hat⟩:=World.cells?_some hcs
      obtain ⟨ds,g1,g2,g3⟩:=ih _ _ _ ht
      refine ⟨(cs',ds),fun _=>⟨fun j hj=>?_,g1,g2,g3⟩⟩
      have hj':j<cs'.length:=hj
      have:=hat j (by omega)
      rw [<-hc2] at this
      exact this.trans (List.getElem?_eq_getElem hj')
     ·exact ⟨([],[]),fun h'=>absurd h' h⟩
    obtain ⟨f,hfp⟩:=Classical.axiomOfChoice hp
    have hlenD : ∀i,i<len->(f i).2.length=s.length/\(f i).1.length=s.length:=fun i hi=>by
     obtain ⟨_,g1,g2,_⟩:=hfp i hi
     exact ⟨g2.len,g1.length.trans g2.len⟩
    have htl:((List.range len).map fun i=>(f i).2).length=len:=by simp
    refine ⟨[.lst s.length ((List.range len).map fun i=>(f i).2)],⟨?_,trivial⟩,?_,fun c hc=>by simp at hc;rw [hc];rfl⟩
    ·by_cases h0:len=0
     ·subst h0
      exact .lst _ _ _ s.length _ 0 0 (fun _ _=>undef) rfl hl hm (fun x hx=>by simp at hx) (fun h=>by simp at h) (fun k j hk=>by simp at hk) (fun k j hk=>by simp at hk)
     ·obtain ⟨b,off,sp⟩:=a
      have hl0:=(hlenD 0 (by omega)).2
      have g0:=(hfp 0 (by omega)).1 0 (by omega)
      have hspot:sp=none:=by simpa [Addr.add] using World.cell?_spot g0
      subst hspot
      refine .lst _ _ _ s.length _ b off (fun k j=>(f k).1.getD j undef) htl.symm hl hm (fun x hx=>?_) (fun _=>rfl) (fun k j hk hj=>?_) (fun k j hk hj=>?_)
      ·obtain ⟨i,hi',rfl⟩:=List.mem_map.1 hx
       exact (hlenD i (List.mem_range.1 hi')).1
      ·rw [htl] at hk
       have hjl:j<(f k).1.length:=by rw [(hlenD k hk).2];exact hj
       have gj:=(hfp k hk).1 j hjl
       rw [Addr.add_lit,Addr.add_lit] at gj
       have hgd:(f k).1.getD j undef=(f k).1[j]:=by simp [List.getD,hjl]
       rw [hgd]
       exact ⟨k8s gj,gj,(hfp k hk).2.2.2 _ (List.getElem_mem _)⟩
      ·rw [htl] at hk
       simp only [List.getElem_map,List.getElem_range] at hj ⊢
       have hjl:j<(f k).1.length:=by rw [(hlenD k hk).2,<-(hlenD k hk).1];exact hj
       have hgd:(f k).1.getD j undef=(f k).1[j]:=by simp [List.getD,hjl]
       rw [hgd]
       exact (hfp k hk).2.1.get j hjl hj
    ·unfold q6g q6g Typ
     refine ⟨⟨rfl,by rw [htl];omega,fun x hx=>?_⟩,trivial⟩
     obtain ⟨i,hi',rfl⟩:=List.mem_map.1 hx
     exact (hfp i (List.mem_range.1 hi')).2.2.1
  ·rename_i fs hu
   split at h
   case h_2=>cases h
   rename_i s hs
   split at h
   case isFalse=>cases h
   rename_i hst
   simp only [Option.some.injEq] at h;subst h
   obtain ⟨xs,n',_,_,hcl,hl,he⟩:=DataW.trod_struct hu hx
   obtain ⟨h1,ds,h2,h3,h4⟩:=qwd (cells:=cells) (n:=n') (fun t s=>opens n t s) fs.toList [] s [] hs (fun fd hfd=>by
    obtain ⟨i,hi,rfl⟩:=List.getElem_of_mem hfd
    have hif:i<fs.size:=by simpa using hi
    have:=he i fs[i] (Array.getElem?_eq_getElem hif)
    rw [List.getElem?_eq_getElem (by omega)] at this
    exact ⟨_,by simpa using this⟩) (Nat.zero_le _) trivial (by unfold q6g;trivial) (fun c hc=>by simp at hc)
   rw [List.take_of_length_le (by omega)] at h2 h4
   exact ⟨ds,h2,h3,h4⟩
  ·cases h
def argD:Bool->List Dat->D
 | true,ds=>.one (.agg (ds.map .d))
 | false,[d]=>.one (.c (.d d))
 | false,_=>.one (.c .bad)
theorem jqw {e:Env} {σ:St} {w:World} : ∀{us:List Value} {ds:List Dat},q0j (DatRep e.Pc w) us ds->q0j (q2v e σ w) us (ds.map .d)
 | [],[],_=>trivial
 | _::_,_::_,h=>⟨h.1,jqw h.2⟩
 | [],_::_,h=>h.elim
 | _::_,[],h=>h.elim
theorem k1k {n base:Nat} {t:TypeId} {sh:List Sh} {fs:Array Field} {v:Value} {d:DataW H} {p:List MemPlace} (hs:shapeOf P n t=some sh) (hu:P.underlying t=some (.struct fs))
  (hv:Value.okWide P W .any base t v) (h:DataW.Trod enc P W 0 (fun _=>true) true t v d p) : ∃ ds,q6g sh ds/\q2a (q6u (Old W)) qq0 W v (argD true ds):=by
 obtain ⟨cs,rfl,hsz⟩:=okWide_struct hu hv
 obtain ⟨fuel,hf⟩:=h
 obtain ⟨ds,h1,h2,_⟩:=opens n t sh hs _ _ _ hf
 exact ⟨ds,h2,cs,rfl,jqw h1⟩
end Go.Proofs.YtapfankgdkdkgaaGreatDoor.AM
