
import Derived.Test.YtcdjkibiggjdoaaGreatDoorLp5
namespace Go.Proofs.YtcdjkibiggjdoaaGreatDoor.AM
open Go.RowKit
set_option linter.unusedVariables false
set_option linter.unusedSimpArgs false
def q10 (l:List (Nat×Nat)):List (Nat×Nat):=l.map fun p=>(p.2,p.1)
def jwk (x:Nat):List (Nat×Nat)->Bool
 | []=>false
 | p::l=>Nat.beq p.1 x||jwk x l
def nodupB:List (Nat×Nat)->Bool
 | []=>true
 | p::l=>!(jwk p.1 l)&&nodupB l
theorem j9c : ∀{l:List (Nat×Nat)} {x:Nat},jwk x l=false->lk l x=none
 | [],x,_=>rfl
 | (j,y)::l,x,h=>by
  simp only [jwk,Bool.or_eq_false_iff] at h
  rw [q0p,if_neg (fun e=>by subst e;rw [Nat.beq_refl] at h;exact absurd h.1 (by decide)),j9c h.2]
theorem qp3 : ∀{l:List (Nat×Nat)},nodupB (q10 l)=true->∀{κ β:Nat},lk l κ=some β->lk (q10 l) β=some κ
 | [],_,κ,β,h=>by cases h
 | (j,y)::l,hd,κ,β,h=>by
  have hd':(!(jwk y (q10 l))&&nodupB (q10 l))=true:=hd
  simp only [Bool.and_eq_true,Bool.not_eq_true'] at hd'
  rw [q0p] at h
  show lk ((y,j)::q10 l) β=_
  rw [q0p]
  split at h
  ·rename_i hj
   subst hj
   simp only [Option.some.injEq] at h;subst h
   rw [if_pos rfl]
  ·have:=qp3 hd'.2 h
   rw [if_neg (fun e=>by subst e;rw [j9c hd'.1] at this;cases this),this]
theorem swap_swap : ∀(l:List (Nat×Nat)),q10 (q10 l)=l
 | []=>rfl
 | p::l=>congrArg (p :: ·) (swap_swap l)
theorem jco {l:List (Nat×Nat)} (hd:nodupB l=true) {κ β:Nat} (h:lk (q10 l) β=some κ):lk l κ=some β:=by
 have:=qp3 (l:=q10 l) (by rw [swap_swap];exact hd) h
 rw [swap_swap] at this;exact this
def qk4 {β:Type} (f:Nat->Nat->Option β):List (Nat×Nat)->Option (List (Nat×β))
 | []=>some []
 | p::l=>match f p.1 p.2,qk4 f l with
  | some x,some xs=>some ((p.2,x)::xs)
  | _,_=>none
theorem qoo {β:Type} {f:Nat->Nat->Option β} : ∀{l:List (Nat×Nat)} {m:List (Nat×β)},qk4 f l=some m->∀t,lk m t=match lk (q10 l) t with|some κ=>f κ t|none=>none
 | [],m,h,t=>by simp only [qk4,Option.some.injEq] at h;subst h;rfl
 | (κ,t0)::l,m,h,t=>by
  unfold qk4 at h
  split at h
  case h_2=>cases h
  rename_i x xs hx hxs
  simp only [Option.some.injEq] at h;subst h
  show lk ((t0,x)::xs) t=match lk ((t0,κ)::q10 l) t with|some κ=>f κ t|none=>none
  rw [q0p,q0p]
  by_cases ht:t=t0
  ·subst ht
   rw [if_pos rfl,if_pos rfl]
   exact hx.symm
  ·rw [if_neg ht,if_neg ht]
   exact qoo hxs t
def j7t {β:Type} (f:Nat->Option β):List (Nat×Nat)->List (Nat×β)
 | []=>[]
 | p::l=>match f p.1 with
  | some x=>(p.2,x)::j7t f l
  | none=>j7t f l
theorem jen {β:Type} {f:Nat->Option β} : ∀{l:List (Nat×Nat)},nodupB (q10 l)=true->∀κ,lk (j7t f l) κ=(lk (q10 l) κ).bind f
 | [],_,κ=>rfl
 | (t0,κ0)::l,hd,κ=>by
  have hd':(!(jwk κ0 (q10 l))&&nodupB (q10 l))=true:=hd
  simp only [Bool.and_eq_true,Bool.not_eq_true'] at hd'
  have ih:=jen (f:=f) hd'.2 κ
  show lk (match f t0 with|some x=>(κ0,x)::j7t f l|none=>j7t f l) κ=(lk ((κ0,t0)::q10 l) κ).bind f
  rw [q0p]
  by_cases hk:κ=κ0
  ·subst hk
   rw [if_pos rfl]
   cases hf:f t0 with
   | some x =>
    show lk ((κ,x)::_) κ=_
    rw [q0p,if_pos rfl];exact hf.symm
   | none =>
    show lk (j7t f l) κ=_
    rw [ih,j9c hd'.1];exact hf.symm
  ·rw [if_neg hk]
   cases hf:f t0 with
   | some x =>
    show lk ((κ0,x)::_) κ=_
    rw [q0p,if_neg hk];exact ih
   | none=>exact ih
theorem quk {β:Type} : ∀(a b:List (Nat×β)) (i:Nat),lk (a++b) i=match lk a i with|some x=>some x|none=>lk b i
 | [],b,i=>rfl
 | (j,x)::a,b,i=>by
  show lk ((j,x)::(a++b)) i=_
  rw [q0p,q0p]
  by_cases h:i=j
  ·rw [if_pos h,if_pos h]
  ·rw [if_neg h,if_neg h];exact quk a b i
def jbz (mb:Nat->Option Nat):List Nat->Option (List Nat)
 | []=>some []
 | c::cs=>match mb c,jbz mb cs with
  | some x,some xs=>some (x::xs)
  | _,_=>none
def jaf (mb:Nat->Option Nat) (mr:Nat->Nat->Option (Nat×Nat)):TC->TC
 | .box β o=>match mb β with|some κ=>.box κ o|none=>.bad
 | .row t g=>match mr t g with|some p=>.row p.1 p.2|none=>.bad
 | .wp _ _ _ _=>.bad
 | .bp _ _ _ _=>.bad
 | .mv β=>match mb β with|some κ=>.mv κ|none=>.bad
 | .fn f []=>.fn f []
 | .fn f (c::cs)=>match jbz mb (c::cs) with|some xs=>.fn f xs|none=>.bad
 | .d ty x=>.d ty x
 | .nil=>.nil
 | .rp e o x=>.rp e o x
 | .undef=>.undef
 | .bad=>.bad
def ren1 (mb:Nat->Option Nat) (mr:Nat->Nat->Option (Nat×Nat)):TD1->TD1
 | .c x=>.c (jaf mb mr x)
 | .agg cs=>.agg (cs.map (jaf mb mr))
def jw4 (mb:Nat->Option Nat) (mr:Nat->Nat->Option (Nat×Nat)):TD->TD
 | .one x=>.one (ren1 mb mr x)
 | .tup xs=>.tup (xs.map (ren1 mb mr))
structure Ren (mb:Nat->Option Nat) (mr:Nat->Nat->Option (Nat×Nat)) (e:Env) (σ:St) (w:World) (e':Env) (σ':St) (w':World):Prop where
 pc : ∀b o,e.Pc b o->e'.Pc b o
 cell : ∀b o,e.Pc b o->w'.cell? ⟨b,o,none⟩=w.cell? ⟨b,o,none⟩
 bx : ∀β κ,mb β=some κ->(σ.box β).isSome=true->(σ'.box κ).isSome=true/\e'.m κ=e.m β
 rw : ∀t g κ g',mr t g=some (κ,g')->∀r,σ.row t=some r->g<=r.gen->(∃ r',σ'.row κ=some r'/\g'<=r'.gen)/\e'.rv κ g'=e.rv t g
variable {mb:Nat->Option Nat} {mr:Nat->Nat->Option (Nat×Nat)} {e e':Env} {σ σ':St} {w w':World}
theorem Ren.fns (h:Ren mb mr e σ w e' σ' w') : ∀{cs xs:List Nat},jbz mb cs=some xs->(∀β∈cs,(σ.box β).isSome=true)->(∀β∈xs,(σ'.box β).isSome=true)/\xs.map (fun β=>Value.pointer (some ⟨e'.m β,0,none⟩))=cs.map (fun β=>Value.pointer (some ⟨e.m β,0,none⟩))
 | [],xs,hx,_=>by
  simp only [jbz,Option.some.injEq] at hx;subst hx
  exact ⟨fun β hβ=>(by cases hβ),rfl⟩
 | c::cs,xs,hx,hs=>by
  unfold jbz at hx
  split at hx
  case h_2=>cases hx
  rename_i y ys hy hys
  simp only [Option.some.injEq] at hx;subst hx
  obtain ⟨h1,h2⟩:=h.fns hys (fun β hβ=>hs β (List.mem_cons_of_mem _ hβ))
  obtain ⟨h3,h4⟩:=h.bx c y hy (hs c (List.mem_cons_self ..))
  refine ⟨fun β hβ=>?_,by rw [List.map_cons,List.map_cons,h2,h4]⟩
  rcases List.mem_cons.1 hβ with rfl|hβ
  ·exact h3
  ·exact h1 β hβ
theorem Ren.crep (h:Ren mb mr e σ w e' σ' w') {v:Value} : ∀{x:TC},q2g e σ w v (eC x)->q2g e' σ' w' v (eC (jaf mb mr x))
 | .d ty x,hv=>DatRep.mono h.pc h.cell hv
 | .nil,hv=>DatRep.mono h.pc h.cell hv
 | .undef,hv=>DatRep.mono h.pc h.cell hv
 | .bad,hv=>trivial
 | .wp _ _ _ _,hv=>trivial
 | .bp _ _ _ _,hv=>trivial
 | .fn f [],hv=>DatRep.mono h.pc h.cell hv
 | .rp ee o x,hv=>by
  obtain ⟨b,q,h3,us,h4,h5⟩ : ∃ b o',v = .pointer (some ⟨b,o',none⟩)/\∃ us:List Value,q0l (DatRep e.Pc w) us ((q04 ee x).drop o)/\∀(j:Nat) (h:j<us.length),e.Pc b (o'+j)/\w.cell? ⟨b,o'+j,none⟩=some us[j]/\(us[j]).oneCell'=true:=hv
  exact ⟨b,q,h3,us,h4.mono fun _ _=>DatRep.mono h.pc h.cell,fun j hj=>⟨h.pc _ _ (h5 j hj).1,(h.cell _ _ (h5 j hj).1).trans (h5 j hj).2.1,(h5 j hj).2.2⟩⟩
 | .box β o,hv=>by
  have hv':(σ.box β).isSome=true/\v = .pointer (some ⟨e.m β,o,none⟩):=hv
  show q2g e' σ' w' v (eC (match mb β with|some κ=>.box κ o|none=>.bad))
  cases hm:mb β with
  | none=>trivial
  | some κ =>
   obtain ⟨h1,h2⟩:=h.bx β κ hm hv'.1
   exact ⟨h1,by rw [h2];exact hv'.2⟩
 | .mv β,hv=>by
  have hv':(σ.box β).isSome=true/\v = .map (some (e.m β)):=hv
  show q2g e' σ' w' v (eC (match mb β with|some κ=>.mv κ|none=>.bad))
  cases hm:mb β with
  | none=>trivial
  | some κ =>
   obtain ⟨h1,h2⟩:=h.bx β κ hm hv'.1
   exact ⟨h1,by rw [h2];exact hv'.2⟩
 | .row t g,hv=>by
  have hv':(∃ r,σ.row t=some r/\g<=r.gen)/\v=e.rv t g/\∃ a n c,v = .slice a n c:=hv
  show q2g e' σ' w' v (eC (match mr t g with|some p=>.row p.1 p.2|none=>.bad))
  cases hm:mr t g with
  | none=>trivial
  | some p =>
   obtain ⟨κ,g'⟩:=p
   obtain ⟨⟨r,h1,h2⟩,h3,h4⟩:=hv'
   obtain ⟨h5,h6⟩:=h.rw t g κ g' hm r h1 h2
   exact ⟨h5,by rw [h6];exact h3,h4⟩
 | .fn f (c::cs),hv=>by
  have hv':(∀β∈c::cs,(σ.box β).isSome=true)/\v = .func (.func f) #[] ((c::cs).map fun β=>Value.pointer (some ⟨e.m β,0,none⟩)).toArray:=hv
  show q2g e' σ' w' v (eC (match jbz mb (c::cs) with|some xs=>.fn f xs|none=>.bad))
  cases hm:jbz mb (c::cs) with
  | none=>trivial
  | some xs =>
   obtain ⟨h1,h2⟩:=h.fns hm hv'.1
   match xs,hm,h1,h2 with
   | [],_,_,h2=>simp at h2
   | x::xs,_,h1,h2=>exact ⟨h1,by rw [hv'.2,h2]⟩
theorem Ren.creps (h:Ren mb mr e σ w e' σ' w') : ∀{vs:List Value} {xs:List TC},q0l (q2g e σ w) vs (xs.map eC)->q0l (q2g e' σ' w') vs ((xs.map (jaf mb mr)).map eC)
 | [],[],_=>trivial
 | v::vs,x::xs,hv=>⟨h.crep hv.1,h.creps hv.2⟩
 | [],_::_,hv=>hv.elim
 | _::_,[],hv=>hv.elim
theorem jsf {sz:Nat} {ys:List (List Dat)} : ∀{x:TC},eC x = .d (.lst sz ys)->jaf mb mr x=x
 | .d _ _,_=>rfl
 | .nil,_=>rfl
 | .undef,_=>rfl
 | .bad,_=>rfl
 | .fn _ [],_=>rfl
 | .rp _ _ _,_=>rfl
 | .box _ _,h=>by cases h
 | .row _ _,h=>by cases h
 | .wp _ _ _ _,h=>by cases h
 | .bp _ _ _ _,h=>by cases h
 | .mv _,h=>by cases h
 | .fn _ (_::_),h=>by cases h
theorem Ren.boxR (h:Ren mb mr e σ w e' σ' w') {b T:Nat} {xs:List TC} (hb:w'.heap[b]? = w.heap[b]?) (hv:j2g e σ w b T (xs.map eC)):j2g e' σ' w' b T ((xs.map (jaf mb mr)).map eC):=by
 rcases hv with ⟨h0,vs,h1,h2,h3⟩|⟨h0,sz,ys,h1,h2⟩
 ·exact Or.inl ⟨h0,vs,hb.trans h1,h.creps h2,h3⟩
 ·cases xs with
  | nil=>cases h1
  | cons x xs =>
   have h4:eC x = .d (.lst sz ys):=(List.cons.inj h1).1
   have h5:xs.map eC = []:=(List.cons.inj h1).2
   have h6:xs = []:=by simpa using h5
   subst h6
   refine Or.inr ⟨h0,sz,ys,?_,h2.mono h.pc h.cell hb⟩
   show [eC (jaf mb mr x)]=_
   rw [jsf h4,h4]
theorem Ren.rep1 (h:Ren mb mr e σ w e' σ' w') {v:Value} {x:TD1} (hv:q90 e σ w v (e1 x)):q90 e' σ' w' v (e1 (ren1 mb mr x)):=by
 cases x with
 | c x=>exact h.crep hv
 | agg cs =>
  obtain ⟨vs,h1,h2⟩:=hv
  exact ⟨vs,h1,h.creps h2⟩
theorem Ren.rep1s (h:Ren mb mr e σ w e' σ' w') : ∀{vs:List Value} {xs:List TD1},q0l (q90 e σ w) vs (xs.map e1)->q0l (q90 e' σ' w') vs ((xs.map (ren1 mb mr)).map e1)
 | [],[],_=>trivial
 | v::vs,x::xs,hv=>⟨h.rep1 hv.1,h.rep1s hv.2⟩
 | [],_::_,hv=>hv.elim
 | _::_,[],hv=>hv.elim
theorem Ren.drep (h:Ren mb mr e σ w e' σ' w') {v:Value} {x:TD} (hv:q1w e σ w v (eD x)):q1w e' σ' w' v (eD (jw4 mb mr x)):=by
 cases x with
 | one x=>exact h.rep1 hv
 | tup xs =>
  obtain ⟨vs,h1,h2⟩:=hv
  exact ⟨vs,h1,h.rep1s h2⟩
theorem Ren.dreps (h:Ren mb mr e σ w e' σ' w') : ∀{vs:List Value} {xs:List TD},q0l (q1w e σ w) vs (xs.map eD)->q0l (q1w e' σ' w') vs ((xs.map (jw4 mb mr)).map eD)
 | [],[],_=>trivial
 | v::vs,x::xs,hv=>⟨h.drep hv.1,h.dreps hv.2⟩
 | [],_::_,hv=>hv.elim
 | _::_,[],hv=>hv.elim
structure FX where
 f:Nat
 args:List SD
 boxes:List (Nat×(Nat×List SC))
 rows:List (Nat×SR)
 res:SD
 oboxes:List (Nat×(Nat×List SC))
 orows:List (Nat×SR)
 F:pDs args×(pBx boxes×pRw rows)->Option (pD res×(pBx oboxes×pRw orows))
@[reducible] def shI (x:FX):SSt:=⟨[],x.boxes,x.rows⟩
@[reducible] def shO (x:FX):SSt:=⟨[],x.oboxes,x.orows⟩
def jxs (P:Program) (G:World->Prop) (x:FX):Prop :=
 ∀p q,x.F p=some q->jt0 P G x.f (eS (rSt (shI x) ((),p.2))) ((rDs x.args p.1).map eD) (eS (rSt (shO x) ((),q.2))) (eD (rD x.res q.1))
structure XC where
 x:FX
 hb:List (Nat×Nat)
 hr:List (Nat×Nat)
def jwu:List (Nat×Nat)->Bool
 | []=>true
 | p::l=>Nat.ble 1000000 p.1&&jwu l
theorem jno : ∀{l:List (Nat×Nat)},jwu l=true->∀κ β,lk l κ=some β->1000000<=κ
 | [],_,κ,β,h=>by cases h
 | (j,y)::l,hb,κ,β,h=>by
  simp only [jwu,Bool.and_eq_true] at hb
  rw [q0p] at h
  split at h
  ·rename_i hj;subst hj;exact Nat.le_of_ble_eq_true hb.1
  ·exact jno hb.2 κ β h
def jwi (x:XC) (t g:Nat):Option (Nat×Nat):=(lk (q10 x.hr) t).map fun κ=>(κ,g)
def stIn (x:XC) (σ:TSt):Option TSt :=
 (qk4 (fun β _=>(lk σ.boxes β).map fun q=>(q.1,q.2.map (jaf (lk (q10 x.hb)) (jwi x)))) (q10 x.hb)).map fun bs=>⟨[],bs,j7t (lk σ.rows) (q10 x.hr)⟩
def jsy (x:XC) (σ:TSt):Bool:=x.hr.all fun p=>isS (lk x.x.rows p.1) || !(isS (lk σ.rows p.2))
def inX (x:XC) (σ:TSt) (ys:List TD):Option (pDs x.x.args×(pBx x.x.boxes×pRw x.x.rows)) :=
 bif jsy x σ then match stIn x σ with
 | some σc=>match cDs (shI x.x) σc x.x.args (ys.map (jw4 (lk (q10 x.hb)) (jwi x))),cSt (shI x.x) σc with
  | some a,some p=>some (a,p.2)
  | _,_=>none
 | none=>none
 else none
def jva (σ:TSt) (t:Nat):Nat:=match lk σ.rows t with|some r=>r.gen+1|none=>0
def jth (x:XC) (σ:TSt) (κ g:Nat):Option (Nat×Nat):=match g with|0=>(lk x.hr κ).map fun t=>(t,jva σ t)|_+1=>none
def jc3 (σ σ1:TSt) (κ t:Nat):Option TRow:=match lk σ1.rows κ with
 | some r1=>match lk σ.rows t with
  | some r=>if width r1.e=width r.e then some { r1 with gen:=jva σ t } else none
  | none=>some { r1 with gen:=jva σ t }
 | none=>none
def outX {α:Type} (x:XC) (σ:TSt) (q:pD x.x.res×(pBx x.x.oboxes×pRw x.x.orows)) (k:TSt->TD->Option α):Option α :=
 match qk4 (fun κ _=>(lk (rSt (shO x.x) ((),q.2)).boxes κ).map fun z=>(z.1,z.2.map (jaf (lk x.hb) (jth x σ)))) x.hb,qk4 (jc3 σ (rSt (shO x.x) ((),q.2))) x.hr with
 | some bs,some rs=>bif nodupB x.hb&&nodupB (q10 x.hb)&&nodupB x.hr&&nodupB (q10 x.hr)&&jwu x.hb then k ⟨σ.slots,bs++σ.boxes,rs++σ.rows⟩ (jw4 (lk x.hb) (jth x σ) (rD x.x.res q.1)) else none
 | _,_=>none
theorem jag (σ:TSt) (t:Nat):jva σ t=j2f (eS σ) t:=by
 unfold jva j2f
 show _=match (lk σ.rows t).map eR with|some r=>r.gen+1|none=>0
 cases lk σ.rows t<;>rfl
theorem jro {F:Fr} {σ:TSt} {e:Env} {w:World} (hs:σ.slots = []) (h:Hp F (eS σ) e w):R F (eS σ) e { tmps:=Array.replicate F.n undef,defers:=[] } w :=
 ⟨rfl,by simp,fun i=>by
  show q1w e (eS σ) w _ (match lk σ.slots i with|some x=>eD x|none=>.one (.c .bad))
  rw [hs];trivial,h⟩
theorem jpw {P:Program} {F:Fr} {x:XC} (hx:jxs P F.G x.x) {α:Type} {r:α} {σ:TSt} {ys:List TD} {k:TSt->TD->Option α} {p:pDs x.x.args×(pBx x.x.boxes×pRw x.x.rows)} {q:pD x.x.res×(pBx x.x.oboxes×pRw x.x.orows)}
  (hp:inX x σ ys=some p) (hq:x.x.F p=some q) (h:outX x σ q k=some r) : ∃ σ' d,k σ' d=some r/\σ'.slots=σ.slots/\∀e w (vs:Array Value),Hp F (eS σ) e w->q0l (q1w e (eS σ) w) vs.toList (ys.map eD) ->
   Calls P x.x.f vs w fun en w'=>∃ v e',en = .returned v/\Fwd e (eS σ) w e' (eS σ') w'/\Hp F (eS σ') e' w'/\q1w e' (eS σ') w' v (eD d):=by
 unfold outX at h
 split at h
 case h_2=>cases h
 rename_i bs rs hbs hrs
 cases hck:(nodupB x.hb&&nodupB (q10 x.hb)&&nodupB x.hr&&nodupB (q10 x.hr)&&jwu x.hb) with
 | false=>rw [hck] at h;cases h
 | true =>
 rw [hck] at h
 replace h:k ⟨σ.slots,bs++σ.boxes,rs++σ.rows⟩ (jw4 (lk x.hb) (jth x σ) (rD x.x.res q.1))=some r:=h
 simp only [Bool.and_eq_true] at hck
 obtain ⟨⟨⟨⟨n1,n2⟩,n3⟩,n4⟩,n5⟩:=hck
 refine ⟨_,_,h,rfl,fun e w vs hh hv=>?_⟩
 unfold inX at hp
 cases hfr0:jsy x σ with
 | false=>rw [hfr0] at hp;cases hp
 | true =>
 rw [hfr0] at hp
 simp only [cond_true] at hp
 split at hp
 case h_2=>cases hp
 rename_i σc hσc
 split at hp
 case h_2=>cases hp
 rename_i a p' ha hpp
 simp only [Option.some.injEq] at hp
 subst hp
 obtain ⟨bs0,hbs0,rfl⟩:=Option.map_eq_some_iff.1 hσc
 have hfb : ∀κ β,lk x.hb κ=some β->lk (q10 x.hb) β=some κ:=fun κ β=>qp3 n2
 have hib : ∀β κ,lk (q10 x.hb) β=some κ->lk x.hb κ=some β:=fun β κ=>jco n1
 have hfr : ∀κ t,lk x.hr κ=some t->lk (q10 x.hr) t=some κ:=fun κ β=>qp3 n4
 have hir : ∀t κ,lk (q10 x.hr) t=some κ->lk x.hr κ=some t:=fun β κ=>jco n3
 have hge:=jno n5
 let σc:TSt:=⟨[],bs0,j7t (lk σ.rows) (q10 x.hr)⟩
 have cbx : ∀κ,lk bs0 κ=match lk x.hb κ with|some β=>(lk σ.boxes β).map fun q=>(q.1,q.2.map (jaf (lk (q10 x.hb)) (jwi x)))|none=>none:=fun κ=>by
  have:=qoo hbs0 κ
  rw [swap_swap] at this;exact this
 have crw : ∀κ,lk σc.rows κ=(lk x.hr κ).bind (lk σ.rows):=fun κ=>by
  have:=jen (f:=lk σ.rows) (l:=q10 x.hr) (by rw [swap_swap];exact n3) κ
  rw [swap_swap] at this;exact this
 have hren:Ren (lk (q10 x.hb)) (jwi x) e (eS σ) w (jtg e (lk x.hb) (lk x.hr)) (eS σc) w:=by
  refine ⟨fun _ _ h=>h,fun _ _ _=>rfl,fun β κ hm hs=>?_,fun t g κ g' hm r hr hg=>?_⟩
  ·have hb:=hib β κ hm
   refine ⟨?_,qnu hb⟩
   obtain ⟨z,hz⟩:=Option.isSome_iff_exists.1 hs
   obtain ⟨z',hz',_⟩:=Option.map_eq_some_iff.1 (show (lk σ.boxes β).map eB=some z from hz)
   show ((lk bs0 κ).map eB).isSome=true
   rw [cbx,hb]
   simp only [hz']
   rfl
  ·obtain ⟨κ',h1,h2⟩:=Option.map_eq_some_iff.1 (show (lk (q10 x.hr) t).map (fun κ=>(κ,g))=some (κ,g') from hm)
   simp only [Prod.mk.injEq] at h2
   obtain ⟨rfl,rfl⟩:=h2
   have hb:=hir t κ' h1
   refine ⟨⟨r,?_,hg⟩,qca hb⟩
   show (lk σc.rows κ').map eR=some r
   rw [crw,hb];exact hr
 have hin:Hp (frX F (eS σ) e w (lk x.hb) (lk x.hr) hge) (eS σc) (jtg e (lk x.hb) (lk x.hr)) w:=by
  refine hp_in hh hge hfb hfr (fun κ T cs' hx'=>?_) (fun κ r hr=>?_)
  ·obtain ⟨z,hz,hze⟩:=Option.map_eq_some_iff.1 (show (lk bs0 κ).map eB=some (T,cs') from hx')
   rw [cbx] at hz
   split at hz
   case h_2=>cases hz
   rename_i β hβ
   obtain ⟨y,hy,rfl⟩:=Option.map_eq_some_iff.1 hz
   simp only [eB,Prod.mk.injEq] at hze
   obtain ⟨rfl,rfl⟩:=hze
   exact ⟨β,y.2.map eC,hβ,q5x hy,fun hB=>hren.boxR rfl hB⟩
  ·obtain ⟨z,hz,rfl⟩:=Option.map_eq_some_iff.1 (show (lk σc.rows κ).map eR=some r from hr)
   rw [crw] at hz
   obtain ⟨t,h1,h2⟩:=Option.bind_eq_some_iff.1 hz
   exact ⟨t,h1,q2y h2⟩
 have hvc:q0l (q1w (jtg e (lk x.hb) (lk x.hr)) (eS σc) w) vs.toList ((ys.map (jw4 (lk (q10 x.hb)) (jwi x))).map eD):=hren.dreps hv
 have hR:=jmc (sh:=shI x.x) hpp (jro (σ:=σc) rfl hin)
 have hvr:q0l (q1w (jwf σc (jtg e (lk x.hb) (lk x.hr))) (eS (rSt (shI x.x) p')) w) vs.toList ((rDs x.x.args a).map eD):=jdo (jy5 hpp hin) ha (fun y _=>jc5 y) hvc
 refine (hx (a,p'.2) q hq (frX F (eS σ) e w (lk x.hb) (lk x.hr) hge) rfl _ w vs hR.hp hvr).mono ?_
 rintro en w' ⟨v,e1,rfl,h1,hd⟩
 refine ⟨v,jp2 (eS σ) e e1 (lk (q10 x.hr)),rfl,?_⟩
 let σ1:TSt:=rSt (shO x.x) ((),q.2)
 let σ':TSt:=⟨σ.slots,bs++σ.boxes,rs++σ.rows⟩
 have obx : ∀β,lk bs β=match lk (q10 x.hb) β with|some κ=>(lk σ1.boxes κ).map fun z=>(z.1,z.2.map (jaf (lk x.hb) (jth x σ)))|none=>none:=qoo hbs
 have orw : ∀t,lk rs t=match lk (q10 x.hr) t with|some κ=>jc3 σ σ1 κ t|none=>none:=qoo hrs
 have gens : ∀κ r,lk σ1.rows κ=some r->r.gen=0:=by
  have : ∀(l:List (Nat×SR)) (p:pRw l) κ r,lk (rRw l p) κ=some r->r.gen=0:=by
   intro l
   induction l with
   | nil=>intro p κ r h;cases h
   | cons y l ih =>
    intro p κ r h
    obtain ⟨p1,p2⟩:=p
    have h':lk ((y.1,(⟨0,y.2.E,y.2.wr,y.2.e,p1⟩:TRow))::rRw l p2) κ=some r:=h
    rw [q0p] at h'
    split at h'
    ·rw [<-Option.some.inj h']
    ·exact ih p2 κ r h'
  exact this _ _
 have some_bs : ∀κ β,lk (q10 x.hb) β=some κ->∃ z,lk σ1.boxes κ=some z:=fun κ β hm=>by
  have key : ∀(l:List (Nat×Nat)) (m:List (Nat×(Nat×List TC))),qk4 (fun κ _=>(lk σ1.boxes κ).map fun z=>(z.1,z.2.map (jaf (lk x.hb) (jth x σ)))) l=some m->∀κ β,lk (q10 l) β=some κ->∃ z,lk σ1.boxes κ=some z:=by
   intro l
   induction l with
   | nil=>intro m _ κ β h;cases h
   | cons y l ih =>
    intro m hm κ β h
    unfold qk4 at hm
    split at hm
    case h_2=>cases hm
    rename_i x1 xs1 hx1 hxs1
    have h':lk ((y.2,y.1)::q10 l) β=some κ:=h
    rw [q0p] at h'
    split at h'
    ·obtain rfl:=Option.some.inj h'
     obtain ⟨z,hz,_⟩:=Option.map_eq_some_iff.1 hx1
     exact ⟨z,hz⟩
    ·exact ih xs1 hxs1 κ β h'
  exact key _ _ hbs κ β hm
 have some_rs : ∀κ t,lk (q10 x.hr) t=some κ->∃ r1,jc3 σ σ1 κ t=some r1:=fun κ t hm=>by
  have key : ∀(l:List (Nat×Nat)) (m:List (Nat×TRow)),qk4 (jc3 σ σ1) l=some m->∀κ β,lk (q10 l) β=some κ->∃ z,jc3 σ σ1 κ β=some z:=by
   intro l
   induction l with
   | nil=>intro m _ κ β h;cases h
   | cons y l ih =>
    intro m hm κ β h
    unfold qk4 at hm
    split at hm
    case h_2=>cases hm
    rename_i x1 xs1 hx1 hxs1
    have h':lk ((y.2,y.1)::q10 l) β=some κ:=h
    rw [q0p] at h'
    split at h'
    ·rename_i hj
     subst hj
     obtain rfl:=Option.some.inj h'
     exact ⟨_,hx1⟩
    ·exact ih xs1 hxs1 κ β h'
  exact key _ _ hrs κ t hm
 have sbx : ∀β,(eS σ').box β=match lk (q10 x.hb) β with|some κ=>(lk σ1.boxes κ).map (fun z=>(z.1,(z.2.map (jaf (lk x.hb) (jth x σ))).map eC))|none=>(eS σ).box β:=fun β=>by
  show (lk (bs++σ.boxes) β).map eB=_
  rw [quk,obx]
  cases hm:lk (q10 x.hb) β with
  | none=>rfl
  | some κ =>
   obtain ⟨z,hz⟩:=some_bs κ β hm
   simp only [hz,Option.map_some]
   rfl
 have srw : ∀t,(eS σ').row t=match lk (q10 x.hr) t with|some κ=>(jc3 σ σ1 κ t).map eR|none=>(eS σ).row t:=fun t=>by
  show (lk (rs++σ.rows) t).map eR=_
  rw [quk,orw]
  cases hm:lk (q10 x.hr) t with
  | none=>rfl
  | some κ =>
   obtain ⟨z,hz⟩:=some_rs κ t hm
   simp only [hz]
 have hB:Back (eS σ) (eS σ1) (eS σ') (lk (q10 x.hb)) (lk (q10 x.hr)):=by
  refine ⟨fun β hm=>by rw [sbx,hm],fun β κ hm=>?_,fun β κ hm=>?_,fun t hm=>by rw [srw,hm],fun t κ hm=>?_,fun κ r hr=>?_⟩
  ·have hb:=hib β κ hm
   have key : ∀(l:List (Nat×Nat)) (m:List (Nat×(Nat×List TC))),qk4 (fun β _=>(lk σ.boxes β).map fun q=>(q.1,q.2.map (jaf (lk (q10 x.hb)) (jwi x)))) l=some m->∀κ β,lk (q10 l) κ=some β->∃ z,lk σ.boxes β=some z:=by
    intro l
    induction l with
    | nil=>intro m _ κ β h;cases h
    | cons y l ih =>
     intro m hm κ β h
     unfold qk4 at hm
     split at hm
     case h_2=>cases hm
     rename_i x1 xs1 hx1 hxs1
     have h':lk ((y.2,y.1)::q10 l) κ=some β:=h
     rw [q0p] at h'
     split at h'
     ·obtain rfl:=Option.some.inj h'
      obtain ⟨z,hz,_⟩:=Option.map_eq_some_iff.1 hx1
      exact ⟨z,hz⟩
     ·exact ih xs1 hxs1 κ β h'
   obtain ⟨z,hz⟩:=key _ _ hbs0 κ β (by rw [swap_swap];exact hb)
   rw [q5x hz];rfl
  ·obtain ⟨z,hz⟩:=some_bs κ β hm
   exact ⟨z.1,z.2.map eC,(z.2.map (jaf (lk x.hb) (jth x σ))).map eC,q5x hz,by rw [sbx,hm];simp only [hz,Option.map_some]⟩
  ·obtain ⟨r1,h2⟩:=some_rs κ t hm
   have h2':=h2
   unfold jc3 at h2
   split at h2
   case h_2=>cases h2
   rename_i r0 hr0
   have fin : { r0 with gen:=jva σ t } = r1->(∀r,(eS σ).row t=some r->width r0.e=r.sz)->∃ r1,(eS σ1).row κ=some r1/\(eS σ').row t=some { r1 with gen:=j2f (eS σ) t }/\∀r,(eS σ).row t=some r->r1.sz=r.sz:=fun he hw=>by
    refine ⟨eR r0,q2y hr0,?_,hw⟩
    rw [srw,hm]
    simp only [h2',Option.map_some]
    rw [<-he,<-jag];rfl
   split at h2
   ·rename_i r hr
    split at h2
    case isFalse=>cases h2
    rename_i hw
    refine fin (Option.some.inj h2) (fun r' hr'=>?_)
    rw [q2y hr] at hr'
    rw [<-Option.some.inj hr'];exact hw
   ·rename_i hr
    refine fin (Option.some.inj h2) (fun r' hr'=>?_)
    rw [qb1 hr] at hr';cases hr'
  ·obtain ⟨z,hz,rfl⟩:=Option.map_eq_some_iff.1 (show (lk σ1.rows κ).map eR=some r from hr)
   exact gens κ z hz
 have hbak:Ren (lk x.hb) (jth x σ) e1 (eS σ1) w' (jp2 (eS σ) e e1 (lk (q10 x.hr))) (eS σ') w':=by
  refine ⟨fun _ _ h=>h,fun _ _ _=>rfl,fun κ β hm hs=>?_,fun κ g t g' hm r hr hg=>?_⟩
  ·have hi:=hfb κ β hm
   obtain ⟨T,c1,c2,_,h3⟩:=hB.new β κ hi
   refine ⟨by rw [h3];rfl,?_⟩
   exact (h1.kp.boxM κ (e.m β) (by show (lk x.hb κ).map e.m=_;rw [hm];rfl)).symm
  ·cases g with
   | succ g=>cases hm
   | zero =>
    obtain ⟨t',h2,h3⟩:=Option.map_eq_some_iff.1 (show (lk x.hr κ).map (fun t=>(t,jva σ t))=some (t,g') from hm)
    simp only [Prod.mk.injEq] at h3
    obtain ⟨rfl,rfl⟩:=h3
    have hi:=hfr κ t' h2
    obtain ⟨r1,h4,h5,_⟩:=hB.rnew t' κ hi
    refine ⟨⟨_,h5,by rw [jag];exact Nat.le_refl _⟩,?_⟩
    rw [jag];exact je8 hi
 obtain ⟨hf,hh2⟩:=jxr hge hh hB h1 hfb hib hfr hir (fun β κ T cs1 cs' hm hs1 hs' hBx=>by
  obtain ⟨z,hz⟩:=some_bs κ β hm
  rw [sbx,hm] at hs'
  rw [q5x (σ:=σ1) hz] at hs1
  simp only [Option.some.injEq,Prod.mk.injEq] at hs1
  obtain ⟨rfl,rfl⟩:=hs1
  simp only [hz,Option.map_some,Option.some.injEq,Prod.mk.injEq] at hs'
  obtain ⟨_,rfl⟩:=hs'
  exact hbak.boxR rfl hBx)
 exact ⟨hf,hh2,hbak.drep hd⟩
end Go.Proofs.YtcdjkibiggjdoaaGreatDoor.AM
