
import Derived.Test.YtlkpgcifpnppeaaGreatDoorMv5
set_option linter.unusedVariables false
set_option linter.unusedSimpArgs false
namespace Go.Proofs.YtlkpgcifpnppeaaGreatDoor.AM
open Go.RowKit
inductive SC where
 | d (ty:Ty)
 | nil
 | box (β off:Nat)
 | row (t:Nat)
 | fn (f:Nat) (caps:List Nat)
 | mv (β:Nat)
 | undef
 | bad
inductive S1 where
 | c (x:SC)
 | agg (cs:List SC)
inductive SD where
 | one (x:S1)
 | tup (xs:List S1)
@[reducible] def pC:SC->Type
 | .d ty=>den ty
 | _=>Unit
@[reducible] def pCs:List SC->Type
 | []=>Unit
 | [c]=>pC c
 | c::c'::cs=>pC c×pCs (c'::cs)
@[reducible] def p1:S1->Type
 | .c x=>pC x
 | .agg cs=>pCs cs
@[reducible] def p1s:List S1->Type
 | []=>Unit
 | [x]=>p1 x
 | x::x'::xs=>p1 x×p1s (x'::xs)
@[reducible] def pD:SD->Type
 | .one x=>p1 x
 | .tup xs=>p1s xs
@[reducible] def pDs:List SD->Type
 | []=>Unit
 | [x]=>pD x
 | x::x'::xs=>pD x×pDs (x'::xs)
def rC:(c:SC)->pC c->TC
 | .d ty,x=>.d ty x
 | .nil,_=>.nil
 | .box β o,_=>.box β o
 | .row t,_=>.row t 0
 | .fn f cs,_=>.fn f cs
 | .mv β,_=>.mv β
 | .undef,_=>.undef
 | .bad,_=>.bad
def rCs:(cs:List SC)->pCs cs->List TC
 | [],_=>[]
 | [c],x=>[rC c x]
 | c::c'::cs,(p:pC c×pCs (c'::cs))=>rC c p.1::rCs (c'::cs) p.2
def r1:(s:S1)->p1 s->TD1
 | .c x,p=>.c (rC x p)
 | .agg cs,p=>.agg (rCs cs p)
def r1s:(xs:List S1)->p1s xs->List TD1
 | [],_=>[]
 | [x],p=>[r1 x p]
 | x::x'::xs,(p:p1 x×p1s (x'::xs))=>r1 x p.1::r1s (x'::xs) p.2
def rD:(d:SD)->pD d->TD
 | .one x,p=>.one (r1 x p)
 | .tup xs,p=>.tup (r1s xs p)
def rDs:(ds:List SD)->pDs ds->List TD
 | [],_=>[]
 | [x],p=>[rD x p]
 | x::x'::xs,(p:pD x×pDs (x'::xs))=>rD x p.1::rDs (x'::xs) p.2
structure SR where
 E:Nat
 wr:Bool
 e:Ty
structure SSt where
 slots:List (Nat×SD)
 boxes:List (Nat×(Nat×List SC))
 rows:List (Nat×SR)
@[reducible] def pSl:List (Nat×SD)->Type
 | []=>Unit
 | x::l=>pD x.2×pSl l
@[reducible] def pBx:List (Nat×(Nat×List SC))->Type
 | []=>Unit
 | x::l=>pCs x.2.2×pBx l
@[reducible] def pRw:List (Nat×SR)->Type
 | []=>Unit
 | x::l=>List (den x.2.e)×pRw l
@[reducible] def pSt (sh:SSt):Type:=pSl sh.slots×pBx sh.boxes×pRw sh.rows
def rSl:(l:List (Nat×SD))->pSl l->List (Nat×TD)
 | [],_=>[]
 | x::l,(p:pD x.2×pSl l)=>(x.1,rD x.2 p.1)::rSl l p.2
def rBx:(l:List (Nat×(Nat×List SC)))->pBx l->List (Nat×(Nat×List TC))
 | [],_=>[]
 | x::l,(p:pCs x.2.2×pBx l)=>(x.1,(x.2.1,rCs x.2.2 p.1))::rBx l p.2
def rRw:(l:List (Nat×SR))->pRw l->List (Nat×TRow)
 | [],_=>[]
 | x::l,(p:List (den x.2.e)×pRw l)=>(x.1,⟨0,x.2.E,x.2.wr,x.2.e,p.1⟩)::rRw l p.2
def rSt (sh:SSt) (p:pSt sh):TSt:=⟨rSl sh.slots p.1,rBx sh.boxes p.2.1,rRw sh.rows p.2.2⟩
def isS {β:Type} : Option β->Bool
 | some _=>true
 | none=>false
def cDat (σ:TSt) (ty:Ty):TC->Option (den ty)
 | .d ty' y=>if h:ty'=ty then some (h ▸ y) else none
 | .nil=>match ty with
  | .lst e=>some ([]:List (den e))
  | _=>none
 | .row t g=>match lk σ.rows t with
  | some r=>if h:Ty.lst r.e=ty then (if r.gen=g/\r.wr=false then some (h ▸ r.xs) else none) else none
  | none=>none
 | _=>none
def cC (sh:SSt) (σ:TSt):(c:SC)->TC->Option (pC c)
 | .d ty,x=>cDat σ ty x
 | .bad,_=>some ()
 | .nil,.nil=>some ()
 | .box β o,.box β' o'=>if β=β'/\o=o'/\isS (lk sh.boxes β)=true then some () else none
 | .row t,.row t' g=>match lk σ.rows t' with
  | some r=>if t=t'/\r.gen=g/\isS (lk sh.rows t)=true then some () else none
  | none=>none
 | .row t,.nil=>if isS (lk σ.rows t)=false/\isS (lk sh.rows t)=true then some () else none
 | .fn f cs,.fn f' cs'=>if f=f'/\cs=cs'/\cs.all (fun β=>isS (lk sh.boxes β))=true then some () else none
 | .mv β,.mv β'=>if β=β'/\isS (lk sh.boxes β)=true then some () else none
 | .undef,.undef=>some ()
 | _,_=>none
def cCs (sh:SSt) (σ:TSt):(cs:List SC)->List TC->Option (pCs cs)
 | [],[]=>some ()
 | [c],[x]=>cC sh σ c x
 | c::c'::cs,x::xs=>match cC sh σ c x,cCs sh σ (c'::cs) xs with
  | some p,some q=>some (p,q)
  | _,_=>none
 | _,_=>none
def c1 (sh:SSt) (σ:TSt):(s:S1)->TD1->Option (p1 s)
 | .c c,.c x=>cC sh σ c x
 | .agg cs,.agg xs=>cCs sh σ cs xs
 | _,_=>none
def c1s (sh:SSt) (σ:TSt):(ss:List S1)->List TD1->Option (p1s ss)
 | [],[]=>some ()
 | [c],[x]=>c1 sh σ c x
 | c::c'::cs,x::xs=>match c1 sh σ c x,c1s sh σ (c'::cs) xs with
  | some p,some q=>some (p,q)
  | _,_=>none
 | _,_=>none
def cD (sh:SSt) (σ:TSt):(d:SD)->TD->Option (pD d)
 | .one s,.one x=>c1 sh σ s x
 | .tup ss,.tup xs=>c1s sh σ ss xs
 | _,_=>none
def cDs (sh:SSt) (σ:TSt):(ds:List SD)->List TD->Option (pDs ds)
 | [],[]=>some ()
 | [c],[x]=>cD sh σ c x
 | c::c'::cs,x::xs=>match cD sh σ c x,cDs sh σ (c'::cs) xs with
  | some p,some q=>some (p,q)
  | _,_=>none
 | _,_=>none
def cSl (sh:SSt) (σ:TSt):(l:List (Nat×SD))->Option (pSl l)
 | []=>some ()
 | x::l=>match (lk σ.slots x.1).bind (cD sh σ x.2),cSl sh σ l with
  | some p,some q=>some (p,q)
  | _,_=>none
def mSh2:List SC->List TC->Bool
 | [.d _],[.d _ _]=>true
 | _,_=>false
theorem jmy {cs:List SC} {xs:List TC} (h:(bif false then true else mSh2 cs xs)=true) : ∃ ty ty' y,cs = [.d ty]/\xs = [.d ty' y]:=by
 replace h:mSh2 cs xs=true:=h
 unfold mSh2 at h
 split at h
 ·exact ⟨_,_,_,rfl,rfl⟩
 ·cases h
def mSh (T:Nat) (cs:List SC) (xs:List TC):Bool:=bif q7e T then true else mSh2 cs xs
def cBx (sh:SSt) (σ:TSt):(l:List (Nat×(Nat×List SC)))->Option (pBx l)
 | []=>some ()
 | x::l=>match (lk σ.boxes x.1).bind (fun q=>if q.1=x.2.1/\mSh x.2.1 x.2.2 q.2=true then cCs sh σ x.2.2 q.2 else none),cBx sh σ l with
  | some p,some q=>some (p,q)
  | _,_=>none
def cR (sr:SR):Option TRow->Option (List (den sr.e))
 | none=>some []
 | some r=>if h:r.e=sr.e then (if r.E=sr.E/\r.wr=sr.wr then some (h ▸ r.xs) else none) else none
def cRk (k:Nat) (s:SR) (o:Option TRow):Option (List (den s.e)):=match o with
 | none=>bif Nat.blt k 2000000 then cR s none else none
 | some r=>cR s (some r)
def cRw (σ:TSt):(l:List (Nat×SR))->Option (pRw l)
 | []=>some ()
 | x::l=>match cRk x.1 x.2 (lk σ.rows x.1),cRw σ l with
  | some p,some q=>some (p,q)
  | _,_=>none
def cSt (sh:SSt) (σ:TSt):Option (pSt sh):=match cSl sh σ sh.slots,cBx sh σ sh.boxes,cRw σ sh.rows with
 | some a,some b,some c=>some (a,b,c)
 | _,_,_=>none
structure Rd (sh:SSt) (σ:TSt) (F:Fr) (σa:St) (e:Env) (w:World) (σ':St) (e':Env):Prop where
 hp:Hp F σa e w
 pc:e'.Pc=e.Pc
 bx : ∀β,isS (lk sh.boxes β)=true->(σ'.box β).isSome=true/\e'.m β=e.m β
 rw : ∀t,isS (lk sh.rows t)=true->(∃ r',σ'.row t=some r'/\0<=r'.gen)/\e'.rv t 0=match lk σ.rows t with|some r=>e.rv t r.gen|none=>.slice none 0 0
def jk7 (σ:TSt) (σa:St):TC->Prop
 | .row t _=>∀r,lk σ.rows t=some r->σa.row t=some (eR r)
 | _=>True
variable {sh:SSt} {σ:TSt} {F:Fr} {σa σ':St} {e e':Env} {w:World}
theorem qnv {Pc:Nat->Nat->Prop} {w:World} (sz:Nat):DatRep Pc w (.slice none 0 0) (.lst sz []) :=
 .lst none 0 0 sz [] 0 0 (fun _ _=>undef) rfl (Nat.le_refl _) (by unfold maxLen;omega) (fun x hx=>by cases hx) (fun h0=>by simp at h0) (fun k j hk=>by simp at hk) (fun k j hk=>by simp at hk)
theorem jqo {β:Type} {x:Option β} (h:isS x=false):x=none:=by
 cases x with
 | none=>rfl
 | some y=>cases h
theorem jnd (h:Rd sh σ F σa e w σ' e') {ty:Ty} {x:TC} {p:den ty} (hc:cDat σ ty x=some p) (hs:jk7 σ σa x) {v:Value} (hv:q2k e σa w v (eC x)):q2k e' σ' w v (eC (.d ty p)):=by
 unfold cDat at hc
 split at hc
 ·rename_i ty' y
  split at hc
  case isFalse=>cases hc
  rename_i ht
  subst ht
  simp only [Option.some.injEq] at hc
  subst hc
  show DatRep e'.Pc w v _
  rw [h.pc];exact hv
 ·split at hc
  ·simp only [Option.some.injEq] at hc
   subst hc
   have:v = .slice none 0 0:=qai hv
   subst this
   show DatRep e'.Pc w _ _
   exact qnv _
  ·cases hc
 ·rename_i t g
  split at hc
  case h_2=>cases hc
  rename_i r hr
  split at hc
  case isFalse=>cases hc
  rename_i ht
  subst ht
  split at hc
  case isFalse=>cases hc
  rename_i hg
  obtain ⟨rfl,hw⟩:=hg
  simp only [Option.some.injEq] at hc
  subst hc
  obtain ⟨_,h5,_⟩:(∃ r',σa.row t=some r'/\r.gen<=r'.gen)/\v=e.rv t r.gen/\_:=hv
  show DatRep e'.Pc w v _
  rw [h.pc,h5]
  exact h.hp.rowDat (r:=eR r) (hs r hr) hw
 ·cases hc
theorem jmf (h:Rd sh σ F σa e w σ' e') {c:SC} {x:TC} {p:pC c} (hc:cC sh σ c x=some p) (hs:jk7 σ σa x) {v:Value} (hv:q2k e σa w v (eC x)):q2k e' σ' w v (eC (rC c p)):=by
 unfold cC at hc
 split at hc
 ·exact jnd h hc hs hv
 ·trivial
 ·show DatRep e'.Pc w v _
  rw [h.pc];exact hv
 ·rename_i β o β' o'
  split at hc
  case isFalse=>cases hc
  rename_i hh
  obtain ⟨rfl,rfl,hb⟩:=hh
  obtain ⟨h1,h2⟩:=h.bx β hb
  exact ⟨h1,by rw [h2];exact hv.2⟩
 ·rename_i t t' g
  split at hc
  case h_2=>cases hc
  rename_i r hr
  split at hc
  case isFalse=>cases hc
  rename_i hh
  obtain ⟨rfl,rfl,hb⟩:=hh
  obtain ⟨h1,h2⟩:=h.rw t hb
  refine ⟨h1,?_,hv.2.2⟩
  rw [h2,hr];exact hv.2.1
 ·rename_i t
  split at hc
  case isFalse=>cases hc
  rename_i hh
  obtain ⟨hn,hb⟩:=hh
  obtain ⟨h1,h2⟩:=h.rw t hb
  have:v = .slice none 0 0:=qai hv
  subst this
  refine ⟨h1,?_,none,0,0,rfl⟩
  rw [h2,jqo hn]
 ·rename_i f cs f' cs'
  split at hc
  case isFalse=>cases hc
  rename_i hh
  obtain ⟨rfl,rfl,hb⟩:=hh
  cases cs with
  | nil =>
   show DatRep e'.Pc w v _
   rw [h.pc];exact hv
  | cons c cs =>
   have hv':(∀β∈c::cs,(σa.box β).isSome=true)/\v=fnV f ((c::cs).map e.m):=hv
   refine ⟨fun β hβ=>(h.bx β (List.all_eq_true.1 hb β hβ)).1,?_⟩
   rw [hv'.2]
   congr 1
   apply List.map_congr_left
   intro β hβ
   rw [(h.bx β (List.all_eq_true.1 hb β hβ)).2]
 ·rename_i β β'
  split at hc
  case isFalse=>cases hc
  rename_i hh
  obtain ⟨rfl,hb⟩:=hh
  obtain ⟨h1,h2⟩:=h.bx β hb
  exact ⟨h1,by rw [h2];exact hv.2⟩
 ·show DatRep e'.Pc w v _
  rw [h.pc];exact hv
 ·cases hc
theorem jce (h:Rd sh σ F σa e w σ' e') : ∀{cs:List SC} {xs:List TC} {p:pCs cs},cCs sh σ cs xs=some p->(∀x∈xs,jk7 σ σa x)->∀{vs:List Value},q0b (q2k e σa w) vs (xs.map eC)->q0b (q2k e' σ' w) vs ((rCs cs p).map eC)
 | [],[],p,_,_,[],_=>trivial
 | [],[],p,_,_,_::_,hv=>hv.elim
 | [c],[x],p,hc,hs,[v],hv=>⟨jmf h hc (hs _ (List.mem_cons_self ..)) hv.1,trivial⟩
 | [c],[x],p,hc,hs,[],hv=>hv.elim
 | [c],[x],p,hc,hs,_::_::_,hv=>hv.2.elim
 | c::c'::cs,x::xs,p,hc,hs,v::vs,hv=>by
  unfold cCs at hc
  split at hc
  case h_2=>cases hc
  rename_i p1 q1 h1 h2
  obtain rfl:(p1,q1)=p:=Option.some.inj hc
  exact ⟨jmf h h1 (hs _ (List.mem_cons_self ..)) hv.1,jce h h2 (fun y hy=>hs y (List.mem_cons_of_mem _ hy)) hv.2⟩
 | c::c'::cs,x::xs,p,hc,hs,[],hv=>hv.elim
 | [],_::_,_,hc,_,_,_=>by simp [cCs] at hc
 | [_],[],_,hc,_,_,_=>by simp [cCs] at hc
 | [_],_::_::_,_,hc,_,_,_=>by simp [cCs] at hc
 | _::_::_,[],_,hc,_,_,_=>by simp [cCs] at hc
theorem jnx (h:Rd sh σ F σa e w σ' e') {b T:Nat} {cs:List SC} {xs:List TC} {p:pCs cs} (hm:mSh T cs xs=true) (hc:cCs sh σ cs xs=some p) (hs : ∀x∈xs,jk7 σ σa x) (hv:quv e σa w b T (xs.map eC)):quv e' σ' w b T ((rCs cs p).map eC):=by
 rcases hv with ⟨h0,vs,h1,h2,h3⟩|⟨h0,sz,ys,h1,h2⟩
 ·exact Or.inl ⟨h0,vs,h1,jce h hc hs h2,h3⟩
 ·unfold mSh at hm
  cases hb:q7e T with
  | true=>have:=q3o hb;omega
  | false =>
  rw [hb] at hm
  obtain ⟨ty,ty',y,rfl,rfl⟩:=jmy hm
  replace hc:(if h:ty'=ty then some (h ▸ y) else none)=some p:=hc
  split at hc
  case isFalse=>cases hc
  rename_i ht
  subst ht
  have hp:y=p:=Option.some.inj hc
  subst hp
  exact Or.inr ⟨h0,sz,ys,h1,by rw [h.pc];exact h2⟩
def jr8 (σ:TSt) (σa:St):TD1->Prop
 | .c x=>jk7 σ σa x
 | .agg xs=>∀x∈xs,jk7 σ σa x
theorem ji2 (h:Rd sh σ F σa e w σ' e') {s:S1} {x:TD1} {p:p1 s} (hc:c1 sh σ s x=some p) (hs:jr8 σ σa x) {v:Value} (hv:q80 e σa w v (e1 x)):q80 e' σ' w v (e1 (r1 s p)):=by
 unfold c1 at hc
 split at hc
 ·exact jmf h hc hs hv
 ·obtain ⟨vs,rfl,h2⟩:=hv
  exact ⟨vs,rfl,jce h hc hs h2⟩
 ·cases hc
theorem jgh (h:Rd sh σ F σa e w σ' e') : ∀{cs:List S1} {xs:List TD1} {p:p1s cs},c1s sh σ cs xs=some p->(∀x∈xs,jr8 σ σa x)->∀{vs:List Value},q0b (q80 e σa w) vs (xs.map e1)->q0b (q80 e' σ' w) vs ((r1s cs p).map e1)
 | [],[],p,_,_,[],_=>trivial
 | [],[],p,_,_,_::_,hv=>hv.elim
 | [c],[x],p,hc,hs,[v],hv=>⟨ji2 h hc (hs _ (List.mem_cons_self ..)) hv.1,trivial⟩
 | [c],[x],p,hc,hs,[],hv=>hv.elim
 | [c],[x],p,hc,hs,_::_::_,hv=>hv.2.elim
 | c::c'::cs,x::xs,p,hc,hs,v::vs,hv=>by
  unfold c1s at hc
  split at hc
  case h_2=>cases hc
  rename_i p1 q1 h1 h2
  obtain rfl:(p1,q1)=p:=Option.some.inj hc
  exact ⟨ji2 h h1 (hs _ (List.mem_cons_self ..)) hv.1,jgh h h2 (fun y hy=>hs y (List.mem_cons_of_mem _ hy)) hv.2⟩
 | c::c'::cs,x::xs,p,hc,hs,[],hv=>hv.elim
 | [],_::_,_,hc,_,_,_=>by simp [c1s] at hc
 | [_],[],_,hc,_,_,_=>by simp [c1s] at hc
 | [_],_::_::_,_,hc,_,_,_=>by simp [c1s] at hc
 | _::_::_,[],_,hc,_,_,_=>by simp [c1s] at hc
def SrcD (σ:TSt) (σa:St):TD->Prop
 | .one x=>jr8 σ σa x
 | .tup xs=>∀x∈xs,jr8 σ σa x
theorem jof (h:Rd sh σ F σa e w σ' e') {d:SD} {x:TD} {p:pD d} (hc:cD sh σ d x=some p) (hs:SrcD σ σa x) {v:Value} (hv:q1l e σa w v (eD x)):q1l e' σ' w v (eD (rD d p)):=by
 unfold cD at hc
 split at hc
 ·exact ji2 h hc hs hv
 ·obtain ⟨vs,rfl,h2⟩:=hv
  exact ⟨vs,rfl,jgh h hc hs h2⟩
 ·cases hc
theorem j6q (h:Rd sh σ F σa e w σ' e') : ∀{cs:List SD} {xs:List TD} {p:pDs cs},cDs sh σ cs xs=some p->(∀x∈xs,SrcD σ σa x)->∀{vs:List Value},q0b (q1l e σa w) vs (xs.map eD)->q0b (q1l e' σ' w) vs ((rDs cs p).map eD)
 | [],[],p,_,_,[],_=>trivial
 | [],[],p,_,_,_::_,hv=>hv.elim
 | [c],[x],p,hc,hs,[v],hv=>⟨jof h hc (hs _ (List.mem_cons_self ..)) hv.1,trivial⟩
 | [c],[x],p,hc,hs,[],hv=>hv.elim
 | [c],[x],p,hc,hs,_::_::_,hv=>hv.2.elim
 | c::c'::cs,x::xs,p,hc,hs,v::vs,hv=>by
  unfold cDs at hc
  split at hc
  case h_2=>cases hc
  rename_i p1 q1 h1 h2
  obtain rfl:(p1,q1)=p:=Option.some.inj hc
  exact ⟨jof h h1 (hs _ (List.mem_cons_self ..)) hv.1,j6q h h2 (fun y hy=>hs y (List.mem_cons_of_mem _ hy)) hv.2⟩
 | c::c'::cs,x::xs,p,hc,hs,[],hv=>hv.elim
 | [],_::_,_,hc,_,_,_=>by simp [cDs] at hc
 | [_],[],_,hc,_,_,_=>by simp [cDs] at hc
 | [_],_::_::_,_,hc,_,_,_=>by simp [cDs] at hc
 | _::_::_,[],_,hc,_,_,_=>by simp [cDs] at hc
theorem j0p : ∀x:TC,jk7 σ (eS σ) x
 | .row t g=>fun r hr=>q2p hr
 | .d _ _=>trivial
 | .nil=>trivial
 | .box _ _=>trivial
 | .mv _=>trivial
 | .rp _ _ _=>trivial
 | .wp _ _ _ _=>trivial
 | .bp _ _ _ _=>trivial
 | .fn _ _=>trivial
 | .undef=>trivial
 | .bad=>trivial
theorem qu2 (x:TD1):jr8 σ (eS σ) x:=by
 cases x with
 | c x=>exact j0p x
 | agg xs=>exact fun x _=>j0p x
theorem j2m (x:TD):SrcD σ (eS σ) x:=by
 cases x with
 | one x=>exact qu2 x
 | tup xs=>exact fun x _=>qu2 x
theorem jll : ∀{l:List (Nat×SD)} {p:pSl l} {i:Nat},cSl sh σ l=some p->(lk (rSl l p) i=none) \/ ∃ d x q,lk σ.slots i=some x/\cD sh σ d x=some q/\lk (rSl l p) i=some (rD d q)
 | [],_,i,_=>Or.inl rfl
 | x::l,p,i,h=>by
  unfold cSl at h
  split at h
  case h_2=>cases h
  rename_i p1 q1 h1 h2
  obtain rfl:(p1,q1)=p:=Option.some.inj h
  obtain ⟨y,hy,h3⟩:=Option.bind_eq_some_iff.1 h1
  have e0:lk (rSl (x::l) (p1,q1)) i=if i=x.1 then some (rD x.2 p1) else lk (rSl l q1) i:=q0f ..
  rw [e0]
  by_cases hi:i=x.1
  ·rw [if_pos hi];subst hi
   exact Or.inr ⟨x.2,y,p1,hy,h3,rfl⟩
  ·rw [if_neg hi]
   exact jll h2
theorem jgq : ∀{l:List (Nat×(Nat×List SC))} {p:pBx l} {i:Nat},cBx sh σ l=some p->(lk (rBx l p) i=none/\lk l i=none) \/ ∃ T cs xs q,lk σ.boxes i=some (T,xs)/\cCs sh σ cs xs=some q/\lk (rBx l p) i=some (T,rCs cs q)/\lk l i=some (T,cs)/\mSh T cs xs=true
 | [],_,i,_=>Or.inl ⟨rfl,rfl⟩
 | x::l,p,i,h=>by
  unfold cBx at h
  split at h
  case h_2=>cases h
  rename_i p1 q1 h1 h2
  obtain rfl:(p1,q1)=p:=Option.some.inj h
  obtain ⟨y,hy,h3⟩:=Option.bind_eq_some_iff.1 h1
  split at h3
  case isFalse=>cases h3
  rename_i hT
  obtain ⟨hT,hsh⟩:=hT
  have e0:lk (rBx (x::l) (p1,q1)) i=if i=x.1 then some (x.2.1,rCs x.2.2 p1) else lk (rBx l q1) i:=q0f ..
  have e1:lk (x::l) i=if i=x.1 then some x.2 else lk l i:=q0f ..
  rw [e0,e1]
  by_cases hi:i=x.1
  ·rw [if_pos hi,if_pos hi];subst hi
   exact Or.inr ⟨x.2.1,x.2.2,y.2,p1,by rw [hy,<-hT],h3,rfl,rfl,hsh⟩
  ·rw [if_neg hi,if_neg hi]
   exact jgq h2
theorem jbo : ∀{l:List (Nat×SR)} {p:pRw l} {i:Nat},cRw σ l=some p->(lk (rRw l p) i=none/\lk l i=none) \/ ∃ r' sr,lk (rRw l p) i=some r'/\lk l i=some sr/\r'.gen=0/\((∃ r,lk σ.rows i=some r/\r' = { r with gen:=0 })\/(lk σ.rows i=none/\r'.xs = []/\i<2000000))
 | [],_,i,_=>Or.inl ⟨rfl,rfl⟩
 | x::l,p,i,h=>by
  unfold cRw at h
  split at h
  case h_2=>cases h
  rename_i p1 q1 h1 h2
  obtain rfl:(p1,q1)=p:=Option.some.inj h
  have e0:lk (rRw (x::l) (p1,q1)) i=if i=x.1 then some ⟨0,x.2.E,x.2.wr,x.2.e,p1⟩ else lk (rRw l q1) i:=q0f ..
  have e1:lk (x::l) i=if i=x.1 then some x.2 else lk l i:=q0f ..
  rw [e0,e1]
  by_cases hi:i=x.1
  ·rw [if_pos hi,if_pos hi];subst hi
   refine Or.inr ⟨_,_,rfl,rfl,rfl,?_⟩
   unfold cRk at h1
   split at h1
   ·rename_i hn
    obtain ⟨hb,h1⟩:=q99 h1
    unfold cR at h1
    simp only [Option.some.injEq] at h1
    exact Or.inr ⟨hn,h1.symm,by simpa using hb⟩
   ·rename_i r hr
    unfold cR at h1
    dsimp only at h1
    obtain ⟨i,⟨E,wr,e⟩⟩:=x
    obtain ⟨gen,E',wr',e',xs⟩:=r
    split at h1
    case isFalse=>cases h1
    rename_i he
    have he':e'=e:=he
    subst he'
    split at h1
    case isFalse=>cases h1
    rename_i hh
    obtain ⟨hh1,hh2⟩:=hh
    have hh1':E'=E:=hh1
    have hh2':wr'=wr:=hh2
    subst hh1' hh2'
    have h1':xs=p1:=Option.some.inj h1
    subst h1'
    exact Or.inl ⟨_,hr,rfl⟩
  ·rw [if_neg hi,if_neg hi]
   exact jbo h2
def jp9 (σ:TSt) (e:Env):Env:={ e with rv:=fun t g=>match lk σ.rows t with|some r=>e.rv t r.gen|none=>.slice none 0 0 }
theorem j4y {p:pSt sh} (h:cSt sh σ=some p):cSl sh σ sh.slots=some p.1/\cBx sh σ sh.boxes=some p.2.1/\cRw σ sh.rows=some p.2.2:=by
 unfold cSt at h
 split at h
 case h_2=>cases h
 rename_i a b c h1 h2 h3
 obtain rfl:(a,b,c)=p:=Option.some.inj h
 exact ⟨h1,h2,h3⟩
theorem jqw {p:pSt sh} (h:cSt sh σ=some p) (hp:Hp F (eS σ) e w):Rd sh σ F (eS σ) e w (eS (rSt sh p)) (jp9 σ e):=by
 obtain ⟨h1,h2,h3⟩:=j4y h
 refine ⟨hp,rfl,fun β hβ=>⟨?_,rfl⟩,fun t ht=>⟨?_,rfl⟩⟩
 ·rcases jgq (i:=β) h2 with ⟨_,h5⟩|⟨T,cs,xs,q,h5,h6,h7,h8⟩
  ·rw [h5] at hβ;cases hβ
  ·rw [q5j (σ:=rSt sh p) (show lk (rSt sh p).boxes β=_ from h7)];rfl
 ·rcases jbo (i:=t) h3 with ⟨_,h5⟩|⟨r',sr,h5,h6,h7,h8⟩
  ·rw [h5] at ht;cases ht
  ·exact ⟨eR r',q2p (σ:=rSt sh p) h5,Nat.zero_le _⟩
theorem jc3 {a:Act} {p:pSt sh} (h:cSt sh σ=some p) (hR:R F (eS σ) e a w):R F (eS (rSt sh p)) (jp9 σ e) a w:=by
 have hd:=jqw h hR.hp
 obtain ⟨h1,h2,h3⟩:=j4y h
 have hp:=hR.hp
 have boxes : ∀β T cs',(eS (rSt sh p)).box β=some (T,cs')->∃ cs xs q,lk σ.boxes β=some (T,xs)/\cCs sh σ cs xs=some q/\cs'=(rCs cs q).map eC/\mSh T cs xs=true:=fun β T cs' hb=>by
  rcases jgq (i:=β) h2 with ⟨h5,_⟩|⟨T',cs,xs,q,h5,h6,h7,h8⟩
  ·rw [qja (σ:=rSt sh p) h5] at hb;cases hb
  ·rw [q5j (σ:=rSt sh p) (show lk (rSt sh p).boxes β=_ from h7)] at hb
   simp only [Option.some.injEq,Prod.mk.injEq] at hb
   obtain ⟨rfl,rfl⟩:=hb
   exact ⟨cs,xs,q,h5,h6,rfl,h8.2⟩
 have boxS : ∀β,((eS (rSt sh p)).box β).isSome=true->((eS σ).box β).isSome=true:=fun β hβ=>by
  obtain ⟨⟨T,cs⟩,hx⟩:=Option.isSome_iff_exists.1 hβ
  obtain ⟨_,xs,_,h5,_⟩:=boxes β T cs hx
  rw [q5j h5];rfl
 have rows : ∀t r',(eS (rSt sh p)).row t=some r'->(∃ r,lk σ.rows t=some r/\r' = { eR r with gen:=0 }/\(jp9 σ e).rv t r'.gen=e.rv t r.gen)\/(lk σ.rows t=none/\r'.xs = []/\(jp9 σ e).rv t r'.gen = .slice none 0 0/\t<2000000):=fun t r' hr=>by
  rcases jbo (i:=t) h3 with ⟨h5,_⟩|⟨r1,sr,h5,h6,h7,h8⟩
  ·rw [q9g (σ:=rSt sh p) h5] at hr;cases hr
  ·rw [q2p (σ:=rSt sh p) h5] at hr
   simp only [Option.some.injEq] at hr
   subst hr
   rcases h8 with ⟨r,h9,rfl⟩|⟨h9,h10,h11⟩
   ·exact Or.inl ⟨r,h9,rfl,by show (match lk σ.rows t with|some r=>e.rv t r.gen|none=>_)=_;rw [h9]⟩
   ·exact Or.inr ⟨h9,by show r1.xs.map _ = [];rw [h10];rfl,by show (match lk σ.rows t with|some r=>e.rv t r.gen|none=>_)=_;rw [h9],h11⟩
 refine ⟨hR.defers,hR.size,fun i=>?_,?_⟩
 ·rcases jll (i:=i) h1 with h5|⟨d,x,q,h5,h6,h7⟩
  ·show q1l _ _ w _ (match lk (rSl sh.slots p.1) i with|some x=>eD x|none=>.one (.c .bad))
   rw [h5];trivial
  ·show q1l _ _ w _ (match lk (rSl sh.slots p.1) i with|some x=>eD x|none=>.one (.c .bad))
   rw [h7]
   refine jof hd h6 (j2m x) ?_
   have:=hR.slots i
   show q1l e (eS σ) w _ (eD x)
   have e5:(eS σ).slot i=eD x:=by show (match lk σ.slots i with|some x=>eD x|none=>_)=_;rw [h5]
   rw [<-e5];exact this
 ·refine ⟨hp.below,hp.pc0,hp.pcNew,hp.pcLt,fun β T cs' hx=>?_,fun β hβ=>hp.boxPc β (boxS β hβ),fun β β' hβ hβ'=>hp.boxNe β β' (boxS β hβ) (boxS β' hβ'),fun t r' hr=>?_,fun t r' b hr hw hb o ho=>?_,fun t r' b hr hb o ho=>?_,fun t r' b β hr hb hβ=>?_,fun t t' r r' b hn hr hr' hb=>?_,⟨hp.kp.keep,hp.kp.wkLe,fun β hβ=>hp.kp.boxK β (boxS β hβ),fun t r' b hr hb=>?_,hp.kp.pcK,hp.kp.cellK,hp.kp.boxM,fun t v0 r' h0 hr=>?_⟩⟩
  ·obtain ⟨cs,xs,q,h5,h6,rfl,h7⟩:=boxes β T cs' hx
   obtain ⟨g1,g2⟩:=hp.boxes β T (xs.map eC) (q5j h5)
   exact ⟨g1,jnx hd h7 h6 (fun x _=>j0p x) g2⟩
  ·rcases rows t r' hr with ⟨r,h5,rfl,h6⟩|⟨h5,h6,h7,_⟩
   ·obtain ⟨g1,cells,g2,g3,g4⟩:=hp.rows t (eR r) (q2p h5)
    refine ⟨g1,cells,?_,g3,g4⟩
    rw [h6];exact g2
   ·rw [h7,h6]
    exact ⟨fun x hx=>(by cases hx),[],jd8 _ _ _ _,trivial,fun u hu=>(by cases hu)⟩
  ·rcases rows t r' hr with ⟨r,h5,rfl,h6⟩|⟨h5,h6,h7,_⟩
   ·rw [h6] at hb
    exact hp.rowPro t (eR r) b (q2p h5) hw hb o ho
   ·rw [h7] at hb;cases hb
  ·rcases rows t r' hr with ⟨r,h5,rfl,h6⟩|⟨h5,h6,h7,_⟩
   ·rw [h6] at hb
    exact hp.rowPc t (eR r) b (q2p h5) hb o ho
   ·rw [h7] at hb;cases hb
  ·rcases rows t r' hr with ⟨r,h5,rfl,h6⟩|⟨h5,h6,h7,_⟩
   ·rw [h6] at hb
    exact hp.rowBox t (eR r) b β (q2p h5) hb (boxS β hβ)
   ·rw [h7] at hb;cases hb
  ·rcases rows t r hr with ⟨r1,h5,rfl,h6⟩|⟨h5,h6,h7,_⟩
   ·rw [h6] at hb
    rcases rows t' r' hr' with ⟨r2,k5,rfl,k6⟩|⟨k5,k6,k7,_⟩
    ·rw [k6];exact hp.rowNe t t' (eR r1) (eR r2) b hn (q2p h5) (q2p k5) hb
    ·rw [k7];simp [Value.ownBlock]
   ·rw [h7] at hb;cases hb
  ·rcases rows t r' hr with ⟨r,h5,rfl,h6⟩|⟨h5,h6,h7,_⟩
   ·rw [h6] at hb
    exact hp.kp.rowK t (eR r) b (q2p h5) hb
   ·rw [h7] at hb;cases hb
  ·rcases rows t r' hr with ⟨r,h5,rfl,h6⟩|⟨h5,h6,h7,h8⟩
   ·rw [h6];exact hp.kp.rowM t v0 (eR r) h0 (q2p h5)
   ·exact absurd h0 (F.r0lt h8 v0)
end Go.Proofs.YtlkpgcifpnppeaaGreatDoor.AM
namespace Go.Proofs.YtlkpgcifpnppeaaGreatDoor.AM
open Go.RowKit
def jkq (P:Program) (G:World->Prop) (f:FuncId) (σ0:St) (ds:List D) (σ1:St) (d:D):Prop :=
 ∀(F:Fr),F.G=G->∀e w (vs:Array Value),Hp F σ0 e w->q0b (q1l e σ0 w) vs.toList ds ->
  Calls P f vs w fun en w'=>∃ v e',en = .returned v/\Hp F σ1 e' w'/\q1l e' σ1 w' v d
variable {F:Fr} {σ σc σ1 σ':St} {e e1:Env} {w w':World} {fb fr ib tb ir:Nat->Option Nat}
def jkc (e:Env) (fb fr:Nat->Option Nat):Env :=
 {m:=fun κ=>match fb κ with|some β=>e.m β|none=>0
  rv:=fun κ g=>match fr κ with|some t=>e.rv t g|none=>.slice none 0 0
  Pc:=e.Pc }
def j9n (σ:St) (e:Env) (w:World) (fb fr:Nat->Option Nat) (b:Nat):Prop :=
 b<w.heap.size/\(∀κ β,fb κ=some β->e.m β≠b)/\(∀κ t r,fr κ=some t->σ.row t=some r->(e.rv t r.gen).ownBlock≠some b)
theorem jch {a b:Nat} (h:a<b):Nat.blt a b=true:=by simpa using h
def frX (F:Fr) (σ:St) (e:Env) (w:World) (fb fr:Nat->Option Nat) (hge : ∀κ β,fb κ=some β->1000000<=κ):Fr :=
 {n:=0,w0:=F.w0,Pc:=e.Pc,G:=F.G,g0:=F.g0,gst:=F.gst,K:=j9n σ e w fb fr,wk:=w,kLt:=fun b h=>h.1,m0:=fun κ=>(fb κ).map e.m
  m0ge:=fun κ a h=>by
   obtain ⟨β,h1,_⟩:=Option.map_eq_some_iff.1 h
   exact hge κ β h1
  r0:=fun κ=>match Nat.blt κ 2000000 with
   | true=>none
   | false=>(fr κ).bind fun t=>(σ.row t).map fun r=>e.rv t r.gen
  r0ge:=fun κ v h=>by
   cases hb:Nat.blt κ 2000000 with
   | true=>rw [hb] at h;cases h
   | false=>exact Nat.le_of_not_lt fun hlt=>by rw [jch hlt] at hb;cases hb
  r0le:=fun _ _ _=>Nat.zero_le _ }
theorem jrb {F:Fr} {σ:St} {e:Env} {w:World} {fb fr:Nat->Option Nat} {hge : ∀κ β,fb κ=some β->1000000<=κ} {κ:Nat} {v:Value} (h:(frX F σ e w fb fr hge).r0 κ=some v):2000000<=κ/\∃ t r,fr κ=some t/\σ.row t=some r/\v=e.rv t r.gen:=by
 refine ⟨(frX F σ e w fb fr hge).r0ge κ v h,?_⟩
 have h':(match Nat.blt κ 2000000 with|true=>none|false=>(fr κ).bind fun t=>(σ.row t).map fun (r:Row)=>e.rv t r.gen)=some v:=h
 cases hb:Nat.blt κ 2000000 with
 | true=>rw [hb] at h';cases h'
 | false =>
  rw [hb] at h'
  obtain ⟨t,h1,h2⟩:=Option.bind_eq_some_iff.1 h'
  obtain ⟨r,h3,h4⟩:=Option.map_eq_some_iff.1 h2
  exact ⟨t,r,h1,h3,h4.symm⟩
theorem jnv {F:Fr} {σ:St} {e:Env} {w:World} {fb fr:Nat->Option Nat} {hge : ∀κ β,fb κ=some β->1000000<=κ} {κ t:Nat} {r:Row} (h:2000000<=κ) (h1:fr κ=some t) (h2:σ.row t=some r):(frX F σ e w fb fr hge).r0 κ=some (e.rv t r.gen):=by
 show (match Nat.blt κ 2000000 with|true=>none|false=>(fr κ).bind fun t=>(σ.row t).map fun (r:Row)=>e.rv t r.gen)=_
 cases hb:Nat.blt κ 2000000 with
 | true=>exact absurd (show κ<2000000 by simpa using hb) (by omega)
 | false=>rw [h1];show (σ.row t).map _=_;rw [h2];rfl
theorem qi0 {κ β:Nat} (h:fb κ=some β):(jkc e fb fr).m κ=e.m β:=by show (match fb κ with|some β=>e.m β|none=>0)=_;rw [h]
theorem q8w {κ t g:Nat} (h:fr κ=some t):(jkc e fb fr).rv κ g=e.rv t g:=by show (match fr κ with|some t=>e.rv t g|none=>.slice none 0 0)=_;rw [h]
theorem hp_in (h:Hp F σ e w) (hge : ∀κ β,fb κ=some β->1000000<=κ) (hfb : ∀κ β,fb κ=some β->ib β=some κ) (hfr : ∀κ t,fr κ=some t->ir t=some κ)
  (hcb : ∀κ T cs',σc.box κ=some (T,cs')->∃ β cs,fb κ=some β/\σ.box β=some (T,cs)/\(quv e σ w (e.m β) T cs->quv (jkc e fb fr) σc w (e.m β) T cs'))
  (hcr : ∀κ r,σc.row κ=some r->∃ t,fr κ=some t/\σ.row t=some r):Hp (frX F σ e w fb fr hge) σc (jkc e fb fr) w:=by
 have bx : ∀κ,(σc.box κ).isSome=true->∃ β,fb κ=some β/\(σ.box β).isSome=true:=fun κ hκ=>by
  obtain ⟨⟨T,cs⟩,hx⟩:=Option.isSome_iff_exists.1 hκ
  obtain ⟨β,cs',h1,h2,_⟩:=hcb κ T cs hx
  exact ⟨β,h1,by rw [h2];rfl⟩
 have injb : ∀κ κ' β,fb κ=some β->fb κ'=some β->κ=κ':=fun κ κ' β h1 h2=>by
  have:=hfb κ β h1;rw [hfb κ' β h2] at this;exact (Option.some.inj this).symm
 have injr : ∀κ κ' t,fr κ=some t->fr κ'=some t->κ=κ':=fun κ κ' t h1 h2=>by
  have:=hfr κ t h1;rw [hfr κ' t h2] at this;exact (Option.some.inj this).symm
 refine ⟨h.below,fun b o hp=>hp,fun b o hp=>Or.inl hp,h.pcLt,fun κ T cs' hx=>?_,fun κ hκ o hp=>?_,fun κ κ' hκ hκ' hn=>?_,fun κ r hr=>?_,fun κ r b hr hw hb o ho=>?_,fun κ r b hr hb o hp=>?_,fun κ r b β' hr hb hβ=>?_,fun κ κ' r r' b hn hr hr' hb=>?_,
  ⟨fun b hb=>rfl,Nat.le_refl _,fun κ hκ hk=>?_,fun κ r b hr hb hk=>?_,fun b o hp=>Or.inl hp,fun b o hp=>rfl,fun κ a ha=>?_,fun κ v0 r h0 hr=>?_⟩⟩
 ·obtain ⟨β,cs,h1,h2,h3⟩:=hcb κ T cs' hx
  obtain ⟨g0,g1⟩:=h.boxes β T cs h2
  rw [qi0 h1]
  exact ⟨g0,h3 g1⟩
 ·obtain ⟨β,h1,h2⟩:=bx κ hκ
  rw [qi0 h1] at hp
  exact h.boxPc β h2 o hp
 ·obtain ⟨β,h1,h2⟩:=bx κ hκ
  obtain ⟨β',h3,h4⟩:=bx κ' hκ'
  rw [qi0 h1,qi0 h3]
  exact h.boxNe β β' h2 h4 (fun he=>hn (injb κ κ' β h1 (he ▸ h3)))
 ·obtain ⟨t,h1,h2⟩:=hcr κ r hr
  obtain ⟨k1,cells,k2,k3,k4⟩:=h.rows t r h2
  exact ⟨k1,cells,by rw [q8w h1];exact k2,k3,k4⟩
 ·obtain ⟨t,h1,h2⟩:=hcr κ r hr
  rw [q8w h1] at hb
  exact h.rowPro t r b h2 hw hb o ho
 ·obtain ⟨t,h1,h2⟩:=hcr κ r hr
  rw [q8w h1] at hb
  exact h.rowPc t r b h2 hb o hp
 ·obtain ⟨t,h1,h2⟩:=hcr κ r hr
  obtain ⟨β,h3,h4⟩:=bx β' hβ
  rw [q8w h1] at hb
  rw [qi0 h3]
  exact h.rowBox t r b β h2 hb h4
 ·obtain ⟨t,h1,h2⟩:=hcr κ r hr
  obtain ⟨t',h3,h4⟩:=hcr κ' r' hr'
  rw [q8w h1] at hb
  rw [q8w h3]
  exact h.rowNe t t' r r' b (fun he=>hn (injr κ κ' t h1 (he ▸ h3))) h2 h4 hb
 ·obtain ⟨β,h1,h2⟩:=bx κ hκ
  rw [qi0 h1] at hk
  exact hk.2.1 κ β h1 rfl
 ·obtain ⟨t,h1,h2⟩:=hcr κ r hr
  rw [q8w h1] at hb
  exact hk.2.2 κ t r h1 h2 hb
 ·obtain ⟨β,h1,h2⟩:=Option.map_eq_some_iff.1 (show (fb κ).map e.m=some a from ha)
  rw [qi0 h1,h2]
 ·obtain ⟨_,t,r1,h1,h2,rfl⟩:=jrb h0
  obtain ⟨t',h3,h4⟩:=hcr κ r hr
  rw [h1] at h3
  obtain rfl:=Option.some.inj h3
  rw [h2] at h4
  obtain rfl:=Option.some.inj h4
  exact q8w h1
def quy (σ:St) (κ t:Nat):Nat:=match σ.row t with
 | some r=>(match Nat.blt κ 2000000 with|true=>r.gen+1|false=>r.gen)
 | none=>0
def j06 (σ:St) (e e1:Env) (tb ir:Nat->Option Nat):Env :=
 {m:=fun β=>match tb β with|some κ=>e1.m κ|none=>e.m β
  rv:=fun t g=>match ir t with|some κ=>if g=quy σ κ t then e1.rv κ 0 else e.rv t g|none=>e.rv t g
  Pc:=e1.Pc }
theorem ji3 {t g:Nat} (h:ir t=none):(j06 σ e e1 tb ir).rv t g=e.rv t g:=by show (match ir t with|some κ=>if g=quy σ κ t then e1.rv κ 0 else e.rv t g|none=>e.rv t g)=_;rw [h]
theorem j73 {t κ:Nat} (h:ir t=some κ):(j06 σ e e1 tb ir).rv t (quy σ κ t)=e1.rv κ 0:=by show (match ir t with|some κ'=>if quy σ κ t=quy σ κ' t then e1.rv κ' 0 else e.rv t (quy σ κ t)|none=>e.rv t (quy σ κ t))=_;rw [h];simp
theorem joh {t g:Nat} {r:Row} (hr:σ.row t=some r) (hg:g<=r.gen) (hk : ∀κ,ir t=some κ->2000000<=κ->e1.rv κ 0=e.rv t r.gen):(j06 σ e e1 tb ir).rv t g=e.rv t g:=by
 show (match ir t with|some κ=>if g=quy σ κ t then e1.rv κ 0 else e.rv t g|none=>e.rv t g)=_
 cases hi:ir t with
 | none=>rfl
 | some κ =>
  show (if g=quy σ κ t then e1.rv κ 0 else e.rv t g)=_
  have:quy σ κ t=match Nat.blt κ 2000000 with|true=>r.gen+1|false=>r.gen:=by unfold quy;rw [hr]
  rw [this]
  cases hb:Nat.blt κ 2000000 with
  | true=>exact if_neg (by simp only;omega)
  | false =>
   simp only
   split
   ·rename_i he
    rw [he]
    exact hk κ hi (Nat.le_of_not_lt fun hlt=>by rw [jch hlt] at hb;cases hb)
   ·rfl
theorem j04 {β κ:Nat} (h:tb β=some κ):(j06 σ e e1 tb ir).m β=e1.m κ:=by show (match tb β with|some κ=>e1.m κ|none=>e.m β)=_;rw [h]
theorem quq {β:Nat} (h:tb β=none):(j06 σ e e1 tb ir).m β=e.m β:=by show (match tb β with|some κ=>e1.m κ|none=>e.m β)=_;rw [h]
structure Back (σ σ1 σ':St) (ib tb ir:Nat->Option Nat):Prop where
 old : ∀β,tb β=none->σ'.box β=σ.box β
 was : ∀β κ,ib β=some κ->(σ.box β).isSome=true
 sub : ∀β κ,ib β=some κ->tb β=some κ
 frs : ∀β κ,tb β=some κ->ib β=none->σ.box β=none/\β<1000000
 inj : ∀β β' κ,tb β=some κ->tb β'=some κ->β=β'
 new : ∀β κ,tb β=some κ->∃ T cs1 cs',σ1.box κ=some (T,cs1)/\σ'.box β=some (T,cs')
 rold : ∀t,ir t=none->σ'.row t=σ.row t
 rnew : ∀t κ,ir t=some κ->∃ r1,σ1.row κ=some r1/\σ'.row t=some { r1 with gen:=quy σ κ t }/\∀r,σ.row t=some r->r1.sz=r.sz
 gens : ∀κ r,σ1.row κ=some r->r.gen=0
 stay : ∀t κ,ir t=some κ->2000000<=t->2000000<=κ/\∃ r,σ.row t=some r
theorem jr9 (hge : ∀κ β,fb κ=some β->1000000<=κ) (h:Hp F σ e w) (hB:Back σ σ1 σ' ib tb ir) (h1:Hp (frX F σ e w fb fr hge) σ1 e1 w') (hfb : ∀κ β,fb κ=some β->ib β=some κ) (hib : ∀β κ,ib β=some κ->fb κ=some β) (hfr : ∀κ t,fr κ=some t->ir t=some κ) (hir : ∀t κ,ir t=some κ->fr κ=some t)
  (hcs : ∀β κ T cs1 cs',tb β=some κ->σ1.box κ=some (T,cs1)->σ'.box β=some (T,cs')->quv e1 σ1 w' (e1.m κ) T cs1->quv (j06 σ e e1 tb ir) σ' w' (e1.m κ) T cs') :
  Fwd e σ w (j06 σ e e1 tb ir) σ' w'/\Hp F σ' (j06 σ e e1 tb ir) w':=by
 have hsz:w.heap.size<=w'.heap.size:=h1.kp.wkLe
 have hpc : ∀b o,e.Pc b o->e1.Pc b o:=h1.pc0
 have hcell : ∀b o,e.Pc b o->w'.cell? ⟨b,o,none⟩=w.cell? ⟨b,o,none⟩:=h1.kp.cellK
 have hkeep : ∀b,j9n σ e w fb fr b->w'.heap[b]? = w.heap[b]?:=h1.kp.keep
 have hpcK : ∀b o,e1.Pc b o->e.Pc b o \/ ¬ j9n σ e w fb fr b:=h1.kp.pcK
 have hm : ∀β κ,ib β=some κ->e1.m κ=e.m β:=fun β κ hi=>h1.kp.boxM κ (e.m β) (by show (fb κ).map e.m=_;rw [hib β κ hi];rfl)
 have boxKept : ∀β,ib β=none->(σ.box β).isSome=true->j9n σ e w fb fr (e.m β):=fun β hi hβ=>by
  refine ⟨h.boxLt hβ,fun κ β' hκ he=>?_,fun κ t r hκ hr he=>h.rowBox t r _ β hr he hβ rfl⟩
  have hi':=hfb κ β' hκ
  refine h.boxNe β' β (hB.was β' κ hi') hβ (fun hh=>?_) he
  rw [hh,hi] at hi';cases hi'
 have rowKept : ∀t r b,ir t=none->σ.row t=some r->(e.rv t r.gen).ownBlock=some b->j9n σ e w fb fr b:=fun t r b hi hr hb=>by
  refine ⟨(h.rowLt hr hb).2,fun κ β hκ=>h.rowBox t r b β hr hb (hB.was β κ (hfb κ β hκ)),fun κ t' r' hκ hr' he=>?_⟩
  refine h.rowNe t' t r' r b (fun hh=>?_) hr' hr he hb
  have:=hfr κ t' hκ
  rw [hh,hi] at this;cases this
 have fk : ∀b,F.K b->j9n σ e w fb fr b:=fun b hb=>⟨h.kp.lt hb,fun κ β hκ he=>h.kp.boxK β (hB.was β κ (hfb κ β hκ)) (he ▸ hb),fun κ t r hκ hr he=>h.kp.rowK t r b hr he hb⟩
 have ibN : ∀β,tb β=none->ib β=none:=fun β hβ=>by
  cases hi:ib β with
  | none=>rfl
  | some κ=>rw [hB.sub β κ hi] at hβ;cases hβ
 have hmo : ∀β,(σ.box β).isSome=true->(j06 σ e e1 tb ir).m β=e.m β:=fun β hβ=>by
  cases ht:tb β with
  | none=>exact quq ht
  | some κ =>
   rw [j04 ht]
   cases hi:ib β with
   | none=>rw [(hB.frs β κ ht hi).1] at hβ;cases hβ
   | some κ' =>
    have:=hB.sub β κ' hi
    rw [ht] at this
    obtain rfl:=Option.some.inj this
    exact hm β κ hi
 have bdom' : ∀β,(σ.box β).isSome=true->(σ'.box β).isSome=true:=fun β hβ=>by
  cases hi:tb β with
  | none=>rw [hB.old β hi];exact hβ
  | some κ=>obtain ⟨T,c1,c2,_,h3⟩:=hB.new β κ hi;rw [h3];rfl
 have bxc : ∀β,(σ'.box β).isSome=true->(tb β=none/\(σ.box β).isSome=true/\(j06 σ e e1 tb ir).m β=e.m β)\/(∃ κ,tb β=some κ/\(σ1.box κ).isSome=true/\(j06 σ e e1 tb ir).m β=e1.m κ):=fun β hβ=>by
  cases ht:tb β with
  | none=>exact Or.inl ⟨rfl,by rw [hB.old β ht] at hβ;exact hβ,quq ht⟩
  | some κ=>obtain ⟨T,c1,c2,h2,h3⟩:=hB.new β κ ht;exact Or.inr ⟨κ,rfl,isSome_some h2,j04 ht⟩
 have hkk : ∀t κ r,ir t=some κ->σ.row t=some r->2000000<=κ->e1.rv κ 0=e.rv t r.gen:=fun t κ r hi hr hk=>by
  obtain ⟨r1,h2,_⟩:=hB.rnew t κ hi
  have:=h1.kp.rowM κ _ r1 (jnv hk (hir t κ hi) hr) h2
  rw [hB.gens κ r1 h2] at this
  exact this
 have hf:Fwd e σ w (j06 σ e e1 tb ir) σ' w':=by
  refine ⟨hpc,hcell,fun β hβ=>⟨bdom' β hβ,hmo β hβ⟩,fun t r g hr hg=>⟨?_,joh hr hg fun κ hi hk=>hkk t κ r hi hr hk⟩⟩
  cases hi:ir t with
  | none=>exact ⟨r,by rw [hB.rold t hi];exact hr,hg,rfl⟩
  | some κ =>
   obtain ⟨r1,h2,h3,h4⟩:=hB.rnew t κ hi
   refine ⟨_,h3,?_,h4 r hr⟩
   show g<=quy σ κ t
   unfold quy;rw [hr]
   show g<=match Nat.blt κ 2000000 with|true=>r.gen+1|false=>r.gen
   cases Nat.blt κ 2000000 with
   | true=>exact Nat.le_succ_of_le hg
   | false=>exact hg
 have rowc : ∀t r,σ'.row t=some r->(ir t=none/\σ.row t=some r/\(j06 σ e e1 tb ir).rv t r.gen=e.rv t r.gen)\/(∃ κ r1,ir t=some κ/\σ1.row κ=some r1/\r = { r1 with gen:=quy σ κ t }/\(j06 σ e e1 tb ir).rv t r.gen=e1.rv κ r1.gen):=fun t r hr=>by
  cases hi:ir t with
  | none =>
   rw [hB.rold t hi] at hr
   exact Or.inl ⟨rfl,hr,ji3 hi⟩
  | some κ =>
   obtain ⟨r1,h2,h3,_⟩:=hB.rnew t κ hi
   rw [h3] at hr
   obtain rfl:=Option.some.inj hr
   exact Or.inr ⟨κ,r1,rfl,h2,rfl,by rw [hB.gens κ r1 h2];exact j73 hi⟩
 refine ⟨hf,h1.below,fun b o hp=>hpc b o (h.pc0 b o hp),fun b o hp=>?_,h1.pcLt,fun β T cs hx=>?_,fun β hβ o hp=>?_,fun β β' hβ hβ' hn=>?_,fun t r hr=>?_,fun t r b hr hw hb o ho=>?_,fun t r b hr hb o hp=>?_,fun t r b β hr hb hβ=>?_,fun t t' r r' b hn hr hr' hb=>?_,
  ⟨fun b hb=>(hkeep b (fk b hb)).trans (h.kp.keep b hb),Nat.le_trans h.kp.wkLe hsz,fun β hβ=>?_,fun t r b hr hb=>?_,fun b o hp=>?_,fun b o hp=>(hcell b o (h.pc0 b o hp)).trans (h.kp.cellK b o hp),fun β a ha=>?_,fun t v0 r h0 hr=>?_⟩⟩
 ·rcases h1.pcNew b o hp with hp|hp
  ·exact h.pcNew b o hp
  ·exact Or.inr hp
 ·cases hi:tb β with
  | none =>
   rw [hB.old β hi] at hx
   obtain ⟨g0,g1⟩:=h.boxes β T cs hx
   rw [quq hi]
   exact ⟨g0,g1.fwd hf (hkeep _ (boxKept β (ibN β hi) (isSome_some hx)))⟩
  | some κ =>
   obtain ⟨T',cs1,cs',h2,h3⟩:=hB.new β κ hi
   have h3':=h3
   rw [hx] at h3
   simp only [Option.some.injEq,Prod.mk.injEq] at h3
   obtain ⟨rfl,rfl⟩:=h3
   obtain ⟨g0,g1⟩:=h1.boxes κ T cs1 h2
   have g2:=hcs β κ T cs1 cs hi h2 h3' g1
   rw [j04 hi]
   exact ⟨g0,g2⟩
 ·rcases bxc β hβ with ⟨hi,hs,hv⟩|⟨κ,hi,hs,hv⟩
  ·rw [hv] at hp
   rcases hpcK _ o hp with h5|h5
   ·exact h.boxPc β hs o h5
   ·exact h5 (boxKept β (ibN β hi) hs)
  ·rw [hv] at hp
   exact h1.boxPc κ hs o hp
 ·rcases bxc β hβ with ⟨hi,hs,hv⟩|⟨κ,hi,hs,hv⟩
  ·rcases bxc β' hβ' with ⟨hi',hs',hv'⟩|⟨κ',hi',hs',hv'⟩
   ·rw [hv,hv'];exact h.boxNe β β' hs hs' hn
   ·rw [hv,hv']
    exact fun he=>h1.kp.boxK κ' hs' (he ▸ boxKept β (ibN β hi) hs)
  ·rcases bxc β' hβ' with ⟨hi',hs',hv'⟩|⟨κ',hi',hs',hv'⟩
   ·rw [hv,hv']
    exact fun he=>h1.kp.boxK κ hs (he ▸ boxKept β' (ibN β' hi') hs')
   ·rw [hv,hv']
    refine h1.boxNe κ κ' hs hs' (fun he=>hn ?_)
    subst he
    exact hB.inj β β' κ hi hi'
 ·rcases rowc t r hr with ⟨hi,hr',hv⟩|⟨κ,r1,hi,h2,rfl,hv⟩
  ·obtain ⟨k1,cells,k2,k3,k4⟩:=h.rows t r hr'
   refine ⟨k1,cells,?_,k3.mono fun _ _=>DatRep.mono hpc hcell,k4⟩
   rw [hv]
   refine ⟨k2.1,?_⟩
   rcases k2.2 with k5|⟨g,cap,cur,k5,k6,k7,k8⟩
   ·exact .inl k5
   ·exact .inr ⟨g,cap,cur,k5,k6,(hkeep g (rowKept t r g hi hr' (by rw [k5];rfl))).trans k7,k8⟩
  ·obtain ⟨k1,cells,k2,k3,k4⟩:=h1.rows κ r1 h2
   refine ⟨k1,cells,?_,k3,k4⟩
   rw [hv];exact k2
 ·rcases rowc t r hr with ⟨hi,hr',hv⟩|⟨κ,r1,hi,h2,rfl,hv⟩
  ·rw [hv] at hb
   exact hpc b o (h.rowPro t r b hr' hw hb o ho)
  ·rw [hv] at hb
   exact h1.rowPro κ r1 b h2 hw hb o ho
 ·rcases rowc t r hr with ⟨hi,hr',hv⟩|⟨κ,r1,hi,h2,rfl,hv⟩
  ·rw [hv] at hb
   rcases hpcK b o hp with h5|h5
   ·exact h.rowPc t r b hr' hb o h5
   ·exact absurd (rowKept t r b hi hr' hb) h5
  ·rw [hv] at hb
   exact h1.rowPc κ r1 b h2 hb o hp
 ·rcases rowc t r hr with ⟨hi,hr',hv⟩|⟨κ,r1,hi,h2,rfl,hv⟩
  ·rw [hv] at hb
   rcases bxc β hβ with ⟨hj,hs,hv'⟩|⟨κ',hj,hs,hv'⟩
   ·rw [hv'];exact h.rowBox t r b β hr' hb hs
   ·rw [hv']
    exact fun he=>h1.kp.boxK κ' hs (he ▸ rowKept t r b hi hr' hb)
  ·rw [hv] at hb
   rcases bxc β hβ with ⟨hj,hs,hv'⟩|⟨κ',hj,hs,hv'⟩
   ·rw [hv']
    intro he
    exact h1.kp.rowK κ r1 b h2 hb (he ▸ boxKept β (ibN β hj) hs)
   ·rw [hv']
    exact h1.rowBox κ r1 b κ' h2 hb hs
 ·rcases rowc t r hr with ⟨hi,k1,hv⟩|⟨κ,r1,hi,k1,rfl,hv⟩
  ·rw [hv] at hb
   rcases rowc t' r' hr' with ⟨hj,k2,hv'⟩|⟨κ',r1',hj,k2,rfl,hv'⟩
   ·rw [hv'];exact h.rowNe t t' r r' b hn k1 k2 hb
   ·rw [hv']
    intro hh
    exact h1.kp.rowK κ' r1' b k2 hh (rowKept t r b hi k1 hb)
  ·rw [hv] at hb
   rcases rowc t' r' hr' with ⟨hj,k2,hv'⟩|⟨κ',r1',hj,k2,rfl,hv'⟩
   ·rw [hv']
    intro hh
    exact h1.kp.rowK κ r1 b k1 hb (rowKept t' r' b hj k2 hh)
   ·rw [hv']
    refine h1.rowNe κ κ' r1 r1' b (fun he=>hn ?_) k1 k2 hb
    subst he
    have:=hir t κ hi
    rw [hir t' κ hj] at this
    exact (Option.some.inj this).symm
 ·rcases bxc β hβ with ⟨hj,hs,hv'⟩|⟨κ',hj,hs,hv'⟩
  ·rw [hv'];exact h.kp.boxK β hs
  ·rw [hv'];exact fun hk=>h1.kp.boxK κ' hs (fk _ hk)
 ·rcases rowc t r hr with ⟨hi,k1,hv⟩|⟨κ,r1,hi,k1,rfl,hv⟩
  ·rw [hv] at hb
   exact h.kp.rowK t r b k1 hb
  ·rw [hv] at hb
   exact fun hk=>h1.kp.rowK κ r1 b k1 hb (fk b hk)
 ·rcases hpcK b o hp with h5|h5
  ·exact h.kp.pcK b o h5
  ·exact Or.inr fun hk=>h5 (fk b hk)
 ·have hge':=F.m0ge β a ha
  cases ht:tb β with
  | none=>rw [quq ht];exact h.kp.boxM β a ha
  | some κ =>
   cases hi:ib β with
   | none=>exact absurd (hB.frs β κ ht hi).2 (by omega)
   | some κ' =>
    have:=hB.sub β κ' hi
    rw [ht] at this
    obtain rfl:=Option.some.inj this
    rw [j04 ht,hm β κ hi];exact h.kp.boxM β a ha
 ·rcases rowc t r hr with ⟨hi,hr',hv⟩|⟨κ,r1,hi,h2,rfl,hv⟩
  ·rw [hv];exact h.kp.rowM t v0 r h0 hr'
  ·obtain ⟨hk,r2,hr2⟩:=hB.stay t κ hi (F.r0ge t v0 h0)
   rw [hv,hB.gens κ r1 h2,hkk t κ r2 hi hr2 hk]
   exact h.kp.rowM t v0 r2 h0 hr2
end Go.Proofs.YtlkpgcifpnppeaaGreatDoor.AM
namespace Go.Proofs.YtlkpgcifpnppeaaGreatDoor.AM
open Go.RowKit
def q0h (l:List (Nat×Nat)):List (Nat×Nat):=l.map fun p=>(p.2,p.1)
def jp3 (x:Nat):List (Nat×Nat)->Bool
 | []=>false
 | p::l=>Nat.beq p.1 x||jp3 x l
def nodupB:List (Nat×Nat)->Bool
 | []=>true
 | p::l=>!(jp3 p.1 l)&&nodupB l
theorem j3d : ∀{l:List (Nat×Nat)} {x:Nat},jp3 x l=false->lk l x=none
 | [],x,_=>rfl
 | (j,y)::l,x,h=>by
  simp only [jp3,Bool.or_eq_false_iff] at h
  rw [q0f,if_neg (fun e=>by subst e;rw [Nat.beq_refl] at h;exact absurd h.1 (by decide)),j3d h.2]
theorem jkp {α:Type} : ∀{l:List (Nat×α)} {κ:Nat} {β:α},lk l κ=some β->(κ,β)∈l
 | [],_,_,h=>by cases h
 | y::l,κ,β,h=>by
  obtain ⟨i,z⟩:=y
  rw [q0f] at h
  split at h
  ·rename_i hi
   subst hi
   obtain rfl:=Option.some.inj h
   exact List.mem_cons_self ..
  ·exact List.mem_cons_of_mem _ (jkp h)
theorem qej : ∀{l:List (Nat×Nat)},nodupB (q0h l)=true->∀{κ β:Nat},lk l κ=some β->lk (q0h l) β=some κ
 | [],_,κ,β,h=>by cases h
 | (j,y)::l,hd,κ,β,h=>by
  have hd':(!(jp3 y (q0h l))&&nodupB (q0h l))=true:=hd
  simp only [Bool.and_eq_true,Bool.not_eq_true'] at hd'
  rw [q0f] at h
  show lk ((y,j)::q0h l) β=_
  rw [q0f]
  split at h
  ·rename_i hj
   subst hj
   simp only [Option.some.injEq] at h;subst h
   rw [if_pos rfl]
  ·have:=qej hd'.2 h
   rw [if_neg (fun e=>by subst e;rw [j3d hd'.1] at this;cases this),this]
theorem swap_swap : ∀(l:List (Nat×Nat)),q0h (q0h l)=l
 | []=>rfl
 | p::l=>congrArg (p :: ·) (swap_swap l)
theorem qsu {l:List (Nat×Nat)} (hd:nodupB l=true) {κ β:Nat} (h:lk (q0h l) β=some κ):lk l κ=some β:=by
 have:=qej (l:=q0h l) (by rw [swap_swap];exact hd) h
 rw [swap_swap] at this;exact this
def qhd {β:Type} (f:Nat->Nat->Option β):List (Nat×Nat)->Option (List (Nat×β))
 | []=>some []
 | p::l=>match f p.1 p.2,qhd f l with
  | some x,some xs=>some ((p.2,x)::xs)
  | _,_=>none
theorem qk0 {β:Type} {f:Nat->Nat->Option β} : ∀{l:List (Nat×Nat)} {m:List (Nat×β)},qhd f l=some m->∀t,lk m t=match lk (q0h l) t with|some κ=>f κ t|none=>none
 | [],m,h,t=>by simp only [qhd,Option.some.injEq] at h;subst h;rfl
 | (κ,t0)::l,m,h,t=>by
  unfold qhd at h
  split at h
  case h_2=>cases h
  rename_i x xs hx hxs
  simp only [Option.some.injEq] at h;subst h
  show lk ((t0,x)::xs) t=match lk ((t0,κ)::q0h l) t with|some κ=>f κ t|none=>none
  rw [q0f,q0f]
  by_cases ht:t=t0
  ·subst ht
   rw [if_pos rfl,if_pos rfl]
   exact hx.symm
  ·rw [if_neg ht,if_neg ht]
   exact qk0 hxs t
def qwa {β:Type} (f:Nat->Option β):List (Nat×Nat)->List (Nat×β)
 | []=>[]
 | p::l=>match f p.1 with
  | some x=>(p.2,x)::qwa f l
  | none=>qwa f l
theorem j5y {β:Type} {f:Nat->Option β} : ∀{l:List (Nat×Nat)},nodupB (q0h l)=true->∀κ,lk (qwa f l) κ=(lk (q0h l) κ).bind f
 | [],_,κ=>rfl
 | (t0,κ0)::l,hd,κ=>by
  have hd':(!(jp3 κ0 (q0h l))&&nodupB (q0h l))=true:=hd
  simp only [Bool.and_eq_true,Bool.not_eq_true'] at hd'
  have ih:=j5y (f:=f) hd'.2 κ
  show lk (match f t0 with|some x=>(κ0,x)::qwa f l|none=>qwa f l) κ=(lk ((κ0,t0)::q0h l) κ).bind f
  rw [q0f]
  by_cases hk:κ=κ0
  ·subst hk
   rw [if_pos rfl]
   cases hf:f t0 with
   | some x =>
    show lk ((κ,x)::_) κ=_
    rw [q0f,if_pos rfl];exact hf.symm
   | none =>
    show lk (qwa f l) κ=_
    rw [ih,j3d hd'.1];exact hf.symm
  ·rw [if_neg hk]
   cases hf:f t0 with
   | some x =>
    show lk ((κ0,x)::_) κ=_
    rw [q0f,if_neg hk];exact ih
   | none=>exact ih
theorem qfu {β:Type} : ∀(a b:List (Nat×β)) (i:Nat),lk (a++b) i=match lk a i with|some x=>some x|none=>lk b i
 | [],b,i=>rfl
 | (j,x)::a,b,i=>by
  show lk ((j,x)::(a++b)) i=_
  rw [q0f,q0f]
  by_cases h:i=j
  ·rw [if_pos h,if_pos h]
  ·rw [if_neg h,if_neg h];exact qfu a b i
def j25 (mb:Nat->Option Nat):List Nat->Option (List Nat)
 | []=>some []
 | c::cs=>match mb c,j25 mb cs with
  | some x,some xs=>some (x::xs)
  | _,_=>none
def j3e (mb:Nat->Option Nat) (mr:Nat->Nat->Option (Nat×Nat)):TC->TC
 | .box β o=>match mb β with|some κ=>.box κ o|none=>.bad
 | .row t g=>match mr t g with|some p=>.row p.1 p.2|none=>.bad
 | .wp _ _ _ _=>.bad
 | .bp _ _ _ _=>.bad
 | .mv β=>match mb β with|some κ=>.mv κ|none=>.bad
 | .fn f []=>.fn f []
 | .fn f (c::cs)=>match j25 mb (c::cs) with|some xs=>.fn f xs|none=>.bad
 | .d ty x=>.d ty x
 | .nil=>.nil
 | .rp e o x=>.rp e o x
 | .undef=>.undef
 | .bad=>.bad
def ren1 (mb:Nat->Option Nat) (mr:Nat->Nat->Option (Nat×Nat)):TD1->TD1
 | .c x=>.c (j3e mb mr x)
 | .agg cs=>.agg (cs.map (j3e mb mr))
def jms (mb:Nat->Option Nat) (mr:Nat->Nat->Option (Nat×Nat)):TD->TD
 | .one x=>.one (ren1 mb mr x)
 | .tup xs=>.tup (xs.map (ren1 mb mr))
structure Ren (mb:Nat->Option Nat) (mr:Nat->Nat->Option (Nat×Nat)) (e:Env) (σ:St) (w:World) (e':Env) (σ':St) (w':World):Prop where
 pc : ∀b o,e.Pc b o->e'.Pc b o
 cell : ∀b o,e.Pc b o->w'.cell? ⟨b,o,none⟩=w.cell? ⟨b,o,none⟩
 bx : ∀β κ,mb β=some κ->(σ.box β).isSome=true->(σ'.box κ).isSome=true/\e'.m κ=e.m β
 rw : ∀t g κ g',mr t g=some (κ,g')->∀r,σ.row t=some r->g<=r.gen->(∃ r',σ'.row κ=some r'/\g'<=r'.gen)/\e'.rv κ g'=e.rv t g
variable {mb:Nat->Option Nat} {mr:Nat->Nat->Option (Nat×Nat)} {e e':Env} {σ σ':St} {w w':World}
theorem Ren.fns (h:Ren mb mr e σ w e' σ' w') : ∀{cs xs:List Nat},j25 mb cs=some xs->(∀β∈cs,(σ.box β).isSome=true)->(∀β∈xs,(σ'.box β).isSome=true)/\xs.map e'.m=cs.map e.m
 | [],xs,hx,_=>by
  simp only [j25,Option.some.injEq] at hx;subst hx
  exact ⟨fun β hβ=>(by cases hβ),rfl⟩
 | c::cs,xs,hx,hs=>by
  unfold j25 at hx
  split at hx
  case h_2=>cases hx
  rename_i y ys hy hys
  simp only [Option.some.injEq] at hx;subst hx
  obtain ⟨h1,h2⟩:=h.fns hys (fun β hβ=>hs β (List.mem_cons_of_mem _ hβ))
  obtain ⟨h3,h4⟩:=h.bx c y hy (hs c (List.mem_cons_self ..))
  refine ⟨fun β hβ=>?_,by rw [List.map_cons,List.map_cons,h2,h4]⟩
  rcases List.mem_cons.1 hβ with rfl|hβ
  ·exact h3
  ·exact h1 β hβ
theorem Ren.crep (h:Ren mb mr e σ w e' σ' w') {v:Value} : ∀{x:TC},q2k e σ w v (eC x)->q2k e' σ' w' v (eC (j3e mb mr x))
 | .d ty x,hv=>DatRep.mono h.pc h.cell hv
 | .nil,hv=>DatRep.mono h.pc h.cell hv
 | .undef,hv=>DatRep.mono h.pc h.cell hv
 | .bad,hv=>trivial
 | .wp _ _ _ _,hv=>trivial
 | .bp _ _ _ _,hv=>trivial
 | .fn f [],hv=>DatRep.mono h.pc h.cell hv
 | .rp ee o x,hv=>by
  obtain ⟨b,q,h3,us,h4,h5⟩ : ∃ b o',v = .pointer (some ⟨b,o',none⟩)/\∃ us:List Value,q0b (DatRep e.Pc w) us ((q01 ee x).drop o)/\∀(j:Nat) (h:j<us.length),e.Pc b (o'+j)/\w.cell? ⟨b,o'+j,none⟩=some us[j]/\(us[j]).oneCell'=true:=hv
  exact ⟨b,q,h3,us,h4.mono fun _ _=>DatRep.mono h.pc h.cell,fun j hj=>⟨h.pc _ _ (h5 j hj).1,(h.cell _ _ (h5 j hj).1).trans (h5 j hj).2.1,(h5 j hj).2.2⟩⟩
 | .box β o,hv=>by
  have hv':(σ.box β).isSome=true/\v = .pointer (some ⟨e.m β,o,none⟩):=hv
  show q2k e' σ' w' v (eC (match mb β with|some κ=>.box κ o|none=>.bad))
  cases hm:mb β with
  | none=>trivial
  | some κ =>
   obtain ⟨h1,h2⟩:=h.bx β κ hm hv'.1
   exact ⟨h1,by rw [h2];exact hv'.2⟩
 | .mv β,hv=>by
  have hv':(σ.box β).isSome=true/\v = .map (some (e.m β)):=hv
  show q2k e' σ' w' v (eC (match mb β with|some κ=>.mv κ|none=>.bad))
  cases hm:mb β with
  | none=>trivial
  | some κ =>
   obtain ⟨h1,h2⟩:=h.bx β κ hm hv'.1
   exact ⟨h1,by rw [h2];exact hv'.2⟩
 | .row t g,hv=>by
  have hv':(∃ r,σ.row t=some r/\g<=r.gen)/\v=e.rv t g/\∃ a n c,v = .slice a n c:=hv
  show q2k e' σ' w' v (eC (match mr t g with|some p=>.row p.1 p.2|none=>.bad))
  cases hm:mr t g with
  | none=>trivial
  | some p =>
   obtain ⟨κ,g'⟩:=p
   obtain ⟨⟨r,h1,h2⟩,h3,h4⟩:=hv'
   obtain ⟨h5,h6⟩:=h.rw t g κ g' hm r h1 h2
   exact ⟨h5,by rw [h6];exact h3,h4⟩
 | .fn f (c::cs),hv=>by
  have hv':(∀β∈c::cs,(σ.box β).isSome=true)/\v=fnV f ((c::cs).map e.m):=hv
  show q2k e' σ' w' v (eC (match j25 mb (c::cs) with|some xs=>.fn f xs|none=>.bad))
  cases hm:j25 mb (c::cs) with
  | none=>trivial
  | some xs =>
   obtain ⟨h1,h2⟩:=h.fns hm hv'.1
   match xs,hm,h1,h2 with
   | [],_,_,h2=>simp at h2
   | x::xs,_,h1,h2=>exact ⟨h1,by rw [hv'.2,h2]⟩
theorem Ren.creps (h:Ren mb mr e σ w e' σ' w') : ∀{vs:List Value} {xs:List TC},q0b (q2k e σ w) vs (xs.map eC)->q0b (q2k e' σ' w') vs ((xs.map (j3e mb mr)).map eC)
 | [],[],_=>trivial
 | v::vs,x::xs,hv=>⟨h.crep hv.1,h.creps hv.2⟩
 | [],_::_,hv=>hv.elim
 | _::_,[],hv=>hv.elim
theorem jhg {sz:Nat} {ys:List (List Dat)} : ∀{x:TC},eC x = .d (.lst sz ys)->j3e mb mr x=x
 | .d _ _,_=>rfl
 | .nil,_=>rfl
 | .undef,_=>rfl
 | .bad,_=>rfl
 | .fn _ [],_=>rfl
 | .rp _ _ _,_=>rfl
 | .box _ _,h=>by cases h
 | .row _ _,h=>by cases h
 | .wp _ _ _ _,h=>by cases h
 | .bp _ _ _ _,h=>by cases h
 | .mv _,h=>by cases h
 | .fn _ (_::_),h=>by cases h
theorem Ren.boxR (h:Ren mb mr e σ w e' σ' w') {b T:Nat} {xs:List TC} (hb:w'.heap[b]? = w.heap[b]?) (hv:quv e σ w b T (xs.map eC)):quv e' σ' w' b T ((xs.map (j3e mb mr)).map eC):=by
 rcases hv with ⟨h0,vs,h1,h2,h3⟩|⟨h0,sz,ys,h1,h2⟩
 ·exact Or.inl ⟨h0,vs,hb.trans h1,h.creps h2,h3⟩
 ·cases xs with
  | nil=>cases h1
  | cons x xs =>
   have h4:eC x = .d (.lst sz ys):=(List.cons.inj h1).1
   have h5:xs.map eC = []:=(List.cons.inj h1).2
   have h6:xs = []:=by simpa using h5
   subst h6
   refine Or.inr ⟨h0,sz,ys,?_,h2.mono h.pc h.cell hb⟩
   show [eC (j3e mb mr x)]=_
   rw [jhg h4,h4]
theorem Ren.rep1 (h:Ren mb mr e σ w e' σ' w') {v:Value} {x:TD1} (hv:q80 e σ w v (e1 x)):q80 e' σ' w' v (e1 (ren1 mb mr x)):=by
 cases x with
 | c x=>exact h.crep hv
 | agg cs =>
  obtain ⟨vs,h1,h2⟩:=hv
  exact ⟨vs,h1,h.creps h2⟩
theorem Ren.rep1s (h:Ren mb mr e σ w e' σ' w') : ∀{vs:List Value} {xs:List TD1},q0b (q80 e σ w) vs (xs.map e1)->q0b (q80 e' σ' w') vs ((xs.map (ren1 mb mr)).map e1)
 | [],[],_=>trivial
 | v::vs,x::xs,hv=>⟨h.rep1 hv.1,h.rep1s hv.2⟩
 | [],_::_,hv=>hv.elim
 | _::_,[],hv=>hv.elim
theorem Ren.drep (h:Ren mb mr e σ w e' σ' w') {v:Value} {x:TD} (hv:q1l e σ w v (eD x)):q1l e' σ' w' v (eD (jms mb mr x)):=by
 cases x with
 | one x=>exact h.rep1 hv
 | tup xs =>
  obtain ⟨vs,h1,h2⟩:=hv
  exact ⟨vs,h1,h.rep1s h2⟩
theorem Ren.dreps (h:Ren mb mr e σ w e' σ' w') : ∀{vs:List Value} {xs:List TD},q0b (q1l e σ w) vs (xs.map eD)->q0b (q1l e' σ' w') vs ((xs.map (jms mb mr)).map eD)
 | [],[],_=>trivial
 | v::vs,x::xs,hv=>⟨h.drep hv.1,h.dreps hv.2⟩
 | [],_::_,hv=>hv.elim
 | _::_,[],hv=>hv.elim
structure FX where
 f:Nat
 args:List SD
 boxes:List (Nat×(Nat×List SC))
 rows:List (Nat×SR)
 res:SD
 oboxes:List (Nat×(Nat×List SC))
 orows:List (Nat×SR)
 F:pDs args×(pBx boxes×pRw rows)->Option (pD res×(pBx oboxes×pRw orows))
@[reducible] def shI (x:FX):SSt:=⟨[],x.boxes,x.rows⟩
@[reducible] def shO (x:FX):SSt:=⟨[],x.oboxes,x.orows⟩
def jp4 (P:Program) (G:World->Prop) (x:FX):Prop :=
 ∀p q,x.F p=some q->jkq P G x.f (eS (rSt (shI x) ((),p.2))) ((rDs x.args p.1).map eD) (eS (rSt (shO x) ((),q.2))) (eD (rD x.res q.1))
structure XC where
 x:FX
 hb:List (Nat×Nat)
 hr:List (Nat×Nat)
 nb:List (Nat×Nat):=[]
 alt:Bool:=false
@[reducible] def XC.tb (x:XC):List (Nat×Nat):=x.hb++x.nb
def newB (x:XC) (σ:TSt):Bool:=nodupB x.tb&&nodupB (q0h x.tb)&&x.nb.all fun p=>Nat.blt p.2 1000000 && !(isS (lk σ.boxes p.2))
def jq6:List (Nat×Nat)->Bool
 | []=>true
 | p::l=>Nat.ble 1000000 p.1&&jq6 l
theorem jby : ∀{l:List (Nat×Nat)},jq6 l=true->∀κ β,lk l κ=some β->1000000<=κ
 | [],_,κ,β,h=>by cases h
 | (j,y)::l,hb,κ,β,h=>by
  simp only [jq6,Bool.and_eq_true] at hb
  rw [q0f] at h
  split at h
  ·rename_i hj;subst hj;exact Nat.le_of_ble_eq_true hb.1
  ·exact jby hb.2 κ β h
def jp2 (x:XC) (t g:Nat):Option (Nat×Nat):=(lk (q0h x.hr) t).map fun κ=>(κ,g)
def stIn (x:XC) (σ:TSt):Option TSt :=
 (qhd (fun β _=>(lk σ.boxes β).map fun q=>(q.1,q.2.map (j3e (lk (q0h x.hb)) (jp2 x)))) (q0h x.hb)).map fun bs=>⟨[],bs,qwa (lk σ.rows) (q0h x.hr)⟩
def jko (x:XC) (σ:TSt):Bool:=x.hr.all fun p=>isS (lk x.x.rows p.1) || !(isS (lk σ.rows p.2))
def inX (x:XC) (σ:TSt) (ys:List TD):Option (pDs x.x.args×(pBx x.x.boxes×pRw x.x.rows)) :=
 bif jko x σ then match stIn x σ with
 | some σc=>match cDs (shI x.x) σc x.x.args (ys.map (jms (lk (q0h x.hb)) (jp2 x))),cSt (shI x.x) σc with
  | some a,some p=>some (a,p.2)
  | _,_=>none
 | none=>none
 else none
def jlx (σ:TSt) (κ t:Nat):Nat:=match lk σ.rows t with
 | some r=>(match Nat.blt κ 2000000 with|true=>r.gen+1|false=>r.gen)
 | none=>0
def jqg (x:XC) (σ:TSt):Bool:=x.hr.all fun p=>Nat.blt p.2 2000000||(!(Nat.blt p.1 2000000)&&isS (lk σ.rows p.2))
def jjz (x:XC) (σ:TSt) (κ g:Nat):Option (Nat×Nat):=match g with|0=>(lk x.hr κ).map fun t=>(t,jlx σ κ t)|_+1=>none
def j1o (σ σ1:TSt) (κ t:Nat):Option TRow:=match lk σ1.rows κ with
 | some r1=>match lk σ.rows t with
  | some r=>if width r1.e=width r.e then some { r1 with gen:=jlx σ κ t } else none
  | none=>some { r1 with gen:=jlx σ κ t }
 | none=>none
def jmt {α:Type} (x:XC) (σ:TSt) (q:pD x.x.res×(pBx x.x.oboxes×pRw x.x.orows)) (k:TSt->TD->Option α):Option α :=
 match qhd (fun κ _=>(lk (rSt (shO x.x) ((),q.2)).boxes κ).map fun z=>(z.1,z.2.map (j3e (lk x.tb) (jjz x σ)))) x.tb,qhd (j1o σ (rSt (shO x.x) ((),q.2))) x.hr with
 | some bs,some rs=>bif nodupB x.hb&&nodupB (q0h x.hb)&&nodupB x.hr&&nodupB (q0h x.hr)&&jq6 x.hb&&newB x σ&&jqg x σ then k ⟨σ.slots,bs++σ.boxes,rs++σ.rows⟩ (jms (lk x.tb) (jjz x σ) (rD x.x.res q.1)) else none
 | _,_=>none
theorem j0g (σ:TSt) (κ t:Nat):jlx σ κ t=quy (eS σ) κ t:=by
 unfold jlx quy
 show _=match (lk σ.rows t).map eR with|some r=>(match Nat.blt κ 2000000 with|true=>r.gen+1|false=>r.gen)|none=>0
 cases lk σ.rows t<;>rfl
theorem jii {F:Fr} {σ:TSt} {e:Env} {w:World} (hs:σ.slots = []) (h:Hp F (eS σ) e w):R F (eS σ) e { tmps:=Array.replicate F.n undef,defers:=[] } w :=
 ⟨rfl,by simp,fun i=>by
  show q1l e (eS σ) w _ (match lk σ.slots i with|some x=>eD x|none=>.one (.c .bad))
  rw [hs];trivial,h⟩
theorem ji0 {P:Program} {F:Fr} {x:XC} (hx:jp4 P F.G x.x) {α:Type} {r:α} {σ:TSt} {ys:List TD} {k:TSt->TD->Option α} {p:pDs x.x.args×(pBx x.x.boxes×pRw x.x.rows)} {q:pD x.x.res×(pBx x.x.oboxes×pRw x.x.orows)}
  (hp:inX x σ ys=some p) (hq:x.x.F p=some q) (h:jmt x σ q k=some r) : ∃ σ' d,k σ' d=some r/\σ'.slots=σ.slots/\∀e w (vs:Array Value),Hp F (eS σ) e w->q0b (q1l e (eS σ) w) vs.toList (ys.map eD) ->
   Calls P x.x.f vs w fun en w'=>∃ v e',en = .returned v/\Fwd e (eS σ) w e' (eS σ') w'/\Hp F (eS σ') e' w'/\q1l e' (eS σ') w' v (eD d):=by
 unfold jmt at h
 split at h
 case h_2=>cases h
 rename_i bs rs hbs hrs
 cases hck:(nodupB x.hb&&nodupB (q0h x.hb)&&nodupB x.hr&&nodupB (q0h x.hr)&&jq6 x.hb&&newB x σ&&jqg x σ) with
 | false=>rw [hck] at h;cases h
 | true =>
 rw [hck] at h
 replace h:k ⟨σ.slots,bs++σ.boxes,rs++σ.rows⟩ (jms (lk x.tb) (jjz x σ) (rD x.x.res q.1))=some r:=h
 rw [Bool.and_eq_true] at hck
 obtain ⟨hck,hstay⟩:=hck
 rw [Bool.and_eq_true] at hck
 obtain ⟨hck,hnw⟩:=hck
 simp only [Bool.and_eq_true] at hck
 obtain ⟨⟨⟨⟨n1,n2⟩,n3⟩,n4⟩,n5⟩:=hck
 unfold newB at hnw
 simp only [Bool.and_eq_true,List.all_eq_true] at hnw
 obtain ⟨⟨m1,m2⟩,m3⟩:=hnw
 refine ⟨_,_,h,rfl,fun e w vs hh hv=>?_⟩
 unfold inX at hp
 cases hfr0:jko x σ with
 | false=>rw [hfr0] at hp;cases hp
 | true =>
 rw [hfr0] at hp
 simp only [cond_true] at hp
 split at hp
 case h_2=>cases hp
 rename_i σc hσc
 split at hp
 case h_2=>cases hp
 rename_i a p' ha hpp
 simp only [Option.some.injEq] at hp
 subst hp
 obtain ⟨bs0,hbs0,rfl⟩:=Option.map_eq_some_iff.1 hσc
 have hfb : ∀κ β,lk x.hb κ=some β->lk (q0h x.hb) β=some κ:=fun κ β=>qej n2
 have hib : ∀β κ,lk (q0h x.hb) β=some κ->lk x.hb κ=some β:=fun β κ=>qsu n1
 have hfr : ∀κ t,lk x.hr κ=some t->lk (q0h x.hr) t=some κ:=fun κ β=>qej n4
 have hir : ∀t κ,lk (q0h x.hr) t=some κ->lk x.hr κ=some t:=fun β κ=>qsu n3
 have hge:=jby n5
 let σc:TSt:=⟨[],bs0,qwa (lk σ.rows) (q0h x.hr)⟩
 have cbx : ∀κ,lk bs0 κ=match lk x.hb κ with|some β=>(lk σ.boxes β).map fun q=>(q.1,q.2.map (j3e (lk (q0h x.hb)) (jp2 x)))|none=>none:=fun κ=>by
  have:=qk0 hbs0 κ
  rw [swap_swap] at this;exact this
 have crw : ∀κ,lk σc.rows κ=(lk x.hr κ).bind (lk σ.rows):=fun κ=>by
  have:=j5y (f:=lk σ.rows) (l:=q0h x.hr) (by rw [swap_swap];exact n3) κ
  rw [swap_swap] at this;exact this
 have hren:Ren (lk (q0h x.hb)) (jp2 x) e (eS σ) w (jkc e (lk x.hb) (lk x.hr)) (eS σc) w:=by
  refine ⟨fun _ _ h=>h,fun _ _ _=>rfl,fun β κ hm hs=>?_,fun t g κ g' hm r hr hg=>?_⟩
  ·have hb:=hib β κ hm
   refine ⟨?_,qi0 hb⟩
   obtain ⟨z,hz⟩:=Option.isSome_iff_exists.1 hs
   obtain ⟨z',hz',_⟩:=Option.map_eq_some_iff.1 (show (lk σ.boxes β).map eB=some z from hz)
   show ((lk bs0 κ).map eB).isSome=true
   rw [cbx,hb]
   simp only [hz']
   rfl
  ·obtain ⟨κ',h1,h2⟩:=Option.map_eq_some_iff.1 (show (lk (q0h x.hr) t).map (fun κ=>(κ,g))=some (κ,g') from hm)
   simp only [Prod.mk.injEq] at h2
   obtain ⟨rfl,rfl⟩:=h2
   have hb:=hir t κ' h1
   refine ⟨⟨r,?_,hg⟩,q8w hb⟩
   show (lk σc.rows κ').map eR=some r
   rw [crw,hb];exact hr
 have hin:Hp (frX F (eS σ) e w (lk x.hb) (lk x.hr) hge) (eS σc) (jkc e (lk x.hb) (lk x.hr)) w:=by
  refine hp_in hh hge hfb hfr (fun κ T cs' hx'=>?_) (fun κ r hr=>?_)
  ·obtain ⟨z,hz,hze⟩:=Option.map_eq_some_iff.1 (show (lk bs0 κ).map eB=some (T,cs') from hx')
   rw [cbx] at hz
   split at hz
   case h_2=>cases hz
   rename_i β hβ
   obtain ⟨y,hy,rfl⟩:=Option.map_eq_some_iff.1 hz
   simp only [eB,Prod.mk.injEq] at hze
   obtain ⟨rfl,rfl⟩:=hze
   exact ⟨β,y.2.map eC,hβ,q5j hy,fun hB=>hren.boxR rfl hB⟩
  ·obtain ⟨z,hz,rfl⟩:=Option.map_eq_some_iff.1 (show (lk σc.rows κ).map eR=some r from hr)
   rw [crw] at hz
   obtain ⟨t,h1,h2⟩:=Option.bind_eq_some_iff.1 hz
   exact ⟨t,h1,q2p h2⟩
 have hvc:q0b (q1l (jkc e (lk x.hb) (lk x.hr)) (eS σc) w) vs.toList ((ys.map (jms (lk (q0h x.hb)) (jp2 x))).map eD):=hren.dreps hv
 have hR:=jc3 (sh:=shI x.x) hpp (jii (σ:=σc) rfl hin)
 have hvr:q0b (q1l (jp9 σc (jkc e (lk x.hb) (lk x.hr))) (eS (rSt (shI x.x) p')) w) vs.toList ((rDs x.x.args a).map eD):=j6q (jqw hpp hin) ha (fun y _=>j2m y) hvc
 refine (hx (a,p'.2) q hq (frX F (eS σ) e w (lk x.hb) (lk x.hr) hge) rfl _ w vs hR.hp hvr).mono ?_
 rintro en w' ⟨v,e1,rfl,h1,hd⟩
 refine ⟨v,j06 (eS σ) e e1 (lk (q0h x.tb)) (lk (q0h x.hr)),rfl,?_⟩
 have hft : ∀κ β,lk x.tb κ=some β->lk (q0h x.tb) β=some κ:=fun κ β=>qej m2
 have hit : ∀β κ,lk (q0h x.tb) β=some κ->lk x.tb κ=some β:=fun β κ=>qsu m1
 have swt : ∀β,lk (q0h x.tb) β=match lk (q0h x.hb) β with|some κ=>some κ|none=>lk (q0h x.nb) β:=fun β=>by
  rw [show q0h x.tb=q0h x.hb++q0h x.nb from List.map_append ..];rw [qfu];cases lk (q0h x.hb) β<;>rfl
 let σ1:TSt:=rSt (shO x.x) ((),q.2)
 let σ':TSt:=⟨σ.slots,bs++σ.boxes,rs++σ.rows⟩
 have obx : ∀β,lk bs β=match lk (q0h x.tb) β with|some κ=>(lk σ1.boxes κ).map fun z=>(z.1,z.2.map (j3e (lk x.tb) (jjz x σ)))|none=>none:=qk0 hbs
 have orw : ∀t,lk rs t=match lk (q0h x.hr) t with|some κ=>j1o σ σ1 κ t|none=>none:=qk0 hrs
 have gens : ∀κ r,lk σ1.rows κ=some r->r.gen=0:=by
  have : ∀(l:List (Nat×SR)) (p:pRw l) κ r,lk (rRw l p) κ=some r->r.gen=0:=by
   intro l
   induction l with
   | nil=>intro p κ r h;cases h
   | cons y l ih =>
    intro p κ r h
    obtain ⟨p1,p2⟩:=p
    have h':lk ((y.1,(⟨0,y.2.E,y.2.wr,y.2.e,p1⟩:TRow))::rRw l p2) κ=some r:=h
    rw [q0f] at h'
    split at h'
    ·rw [<-Option.some.inj h']
    ·exact ih p2 κ r h'
  exact this _ _
 have some_bs : ∀κ β,lk (q0h x.tb) β=some κ->∃ z,lk σ1.boxes κ=some z:=fun κ β hm=>by
  have key : ∀(l:List (Nat×Nat)) (m:List (Nat×(Nat×List TC))),qhd (fun κ _=>(lk σ1.boxes κ).map fun z=>(z.1,z.2.map (j3e (lk x.tb) (jjz x σ)))) l=some m->∀κ β,lk (q0h l) β=some κ->∃ z,lk σ1.boxes κ=some z:=by
   intro l
   induction l with
   | nil=>intro m _ κ β h;cases h
   | cons y l ih =>
    intro m hm κ β h
    unfold qhd at hm
    split at hm
    case h_2=>cases hm
    rename_i x1 xs1 hx1 hxs1
    have h':lk ((y.2,y.1)::q0h l) β=some κ:=h
    rw [q0f] at h'
    split at h'
    ·obtain rfl:=Option.some.inj h'
     obtain ⟨z,hz,_⟩:=Option.map_eq_some_iff.1 hx1
     exact ⟨z,hz⟩
    ·exact ih xs1 hxs1 κ β h'
  exact key _ _ hbs κ β hm
 have some_rs : ∀κ t,lk (q0h x.hr) t=some κ->∃ r1,j1o σ σ1 κ t=some r1:=fun κ t hm=>by
  have key : ∀(l:List (Nat×Nat)) (m:List (Nat×TRow)),qhd (j1o σ σ1) l=some m->∀κ β,lk (q0h l) β=some κ->∃ z,j1o σ σ1 κ β=some z:=by
   intro l
   induction l with
   | nil=>intro m _ κ β h;cases h
   | cons y l ih =>
    intro m hm κ β h
    unfold qhd at hm
    split at hm
    case h_2=>cases hm
    rename_i x1 xs1 hx1 hxs1
    have h':lk ((y.2,y.1)::q0h l) β=some κ:=h
    rw [q0f] at h'
    split at h'
    ·rename_i hj
     subst hj
     obtain rfl:=Option.some.inj h'
     exact ⟨_,hx1⟩
    ·exact ih xs1 hxs1 κ β h'
  exact key _ _ hrs κ t hm
 have sbx : ∀β,(eS σ').box β=match lk (q0h x.tb) β with|some κ=>(lk σ1.boxes κ).map (fun z=>(z.1,(z.2.map (j3e (lk x.tb) (jjz x σ))).map eC))|none=>(eS σ).box β:=fun β=>by
  show (lk (bs++σ.boxes) β).map eB=_
  rw [qfu,obx]
  cases hm:lk (q0h x.tb) β with
  | none=>rfl
  | some κ =>
   obtain ⟨z,hz⟩:=some_bs κ β hm
   simp only [hz,Option.map_some]
   rfl
 have srw : ∀t,(eS σ').row t=match lk (q0h x.hr) t with|some κ=>(j1o σ σ1 κ t).map eR|none=>(eS σ).row t:=fun t=>by
  show (lk (rs++σ.rows) t).map eR=_
  rw [qfu,orw]
  cases hm:lk (q0h x.hr) t with
  | none=>rfl
  | some κ =>
   obtain ⟨z,hz⟩:=some_rs κ t hm
   simp only [hz]
 have hB:Back (eS σ) (eS σ1) (eS σ') (lk (q0h x.hb)) (lk (q0h x.tb)) (lk (q0h x.hr)):=by
  refine ⟨fun β hm=>by rw [sbx,hm],fun β κ hm=>?_,fun β κ hm=>by rw [swt,hm],fun β κ hm hn=>?_,fun β β' κ h1 h2=>?_,fun β κ hm=>?_,fun t hm=>by rw [srw,hm],fun t κ hm=>?_,fun κ r hr=>?_,fun t κ hm ht=>?_⟩
  ·have hb:=hib β κ hm
   have key : ∀(l:List (Nat×Nat)) (m:List (Nat×(Nat×List TC))),qhd (fun β _=>(lk σ.boxes β).map fun q=>(q.1,q.2.map (j3e (lk (q0h x.hb)) (jp2 x)))) l=some m->∀κ β,lk (q0h l) κ=some β->∃ z,lk σ.boxes β=some z:=by
    intro l
    induction l with
    | nil=>intro m _ κ β h;cases h
    | cons y l ih =>
     intro m hm κ β h
     unfold qhd at hm
     split at hm
     case h_2=>cases hm
     rename_i x1 xs1 hx1 hxs1
     have h':lk ((y.2,y.1)::q0h l) κ=some β:=h
     rw [q0f] at h'
     split at h'
     ·obtain rfl:=Option.some.inj h'
      obtain ⟨z,hz,_⟩:=Option.map_eq_some_iff.1 hx1
      exact ⟨z,hz⟩
     ·exact ih xs1 hxs1 κ β h'
   obtain ⟨z,hz⟩:=key _ _ hbs0 κ β (by rw [swap_swap];exact hb)
   rw [q5j hz];rfl
  ·rw [swt,hn] at hm
   have hmem:(κ,β)∈x.nb:=by
    have key : ∀(l:List (Nat×Nat)),lk (q0h l) β=some κ->(κ,β)∈l:=by
     intro l
     induction l with
     | nil=>intro h;cases h
     | cons y l ih =>
      intro h
      have h':lk ((y.2,y.1)::q0h l) β=some κ:=h
      rw [q0f] at h'
      split at h'
      ·rename_i hj
       subst hj
       obtain rfl:=Option.some.inj h'
       exact List.mem_cons_self ..
      ·exact List.mem_cons_of_mem _ (ih h')
    exact key _ hm
   have h3:=m3 _ hmem
   refine ⟨?_,by simpa using h3.1⟩
   show (lk σ.boxes β).map eB=none
   cases hl:lk σ.boxes β with
   | none=>rfl
   | some z=>have:=h3.2;rw [hl] at this;cases this
  ·have:=hit β κ h1
   rw [hit β' κ h2] at this
   exact (Option.some.inj this).symm
  ·obtain ⟨z,hz⟩:=some_bs κ β hm
   exact ⟨z.1,z.2.map eC,(z.2.map (j3e (lk x.tb) (jjz x σ))).map eC,q5j hz,by rw [sbx,hm];simp only [hz,Option.map_some]⟩
  ·obtain ⟨r1,h2⟩:=some_rs κ t hm
   have h2':=h2
   unfold j1o at h2
   split at h2
   case h_2=>cases h2
   rename_i r0 hr0
   have fin : { r0 with gen:=jlx σ κ t } = r1->(∀r,(eS σ).row t=some r->width r0.e=r.sz)->∃ r1,(eS σ1).row κ=some r1/\(eS σ').row t=some { r1 with gen:=quy (eS σ) κ t }/\∀r,(eS σ).row t=some r->r1.sz=r.sz:=fun he hw=>by
    refine ⟨eR r0,q2p hr0,?_,hw⟩
    rw [srw,hm]
    simp only [h2',Option.map_some]
    rw [<-he,<-j0g];rfl
   split at h2
   ·rename_i r hr
    split at h2
    case isFalse=>cases h2
    rename_i hw
    refine fin (Option.some.inj h2) (fun r' hr'=>?_)
    rw [q2p hr] at hr'
    rw [<-Option.some.inj hr'];exact hw
   ·rename_i hr
    refine fin (Option.some.inj h2) (fun r' hr'=>?_)
    rw [q9g hr] at hr';cases hr'
  ·obtain ⟨z,hz,rfl⟩:=Option.map_eq_some_iff.1 (show (lk σ1.rows κ).map eR=some r from hr)
   exact gens κ z hz
  ·have h1:=hir t κ hm
   have h2:=List.all_eq_true.1 hstay (κ,t) (jkp h1)
   simp only [Bool.or_eq_true,Bool.and_eq_true,Bool.not_eq_true'] at h2
   rcases h2 with h2|⟨h2,h3⟩
   ·exact absurd (show t<2000000 by simpa using h2) (by omega)
   ·refine ⟨Nat.le_of_not_lt fun hlt=>(by rw [jch hlt] at h2;cases h2),?_⟩
    cases hr:lk σ.rows t with
    | none=>rw [hr] at h3;cases h3
    | some r=>exact ⟨_,q2p hr⟩
 have hbak:Ren (lk x.tb) (jjz x σ) e1 (eS σ1) w' (j06 (eS σ) e e1 (lk (q0h x.tb)) (lk (q0h x.hr))) (eS σ') w':=by
  refine ⟨fun _ _ h=>h,fun _ _ _=>rfl,fun κ β hm hs=>?_,fun κ g t g' hm r hr hg=>?_⟩
  ·have hi:=hft κ β hm
   obtain ⟨T,c1,c2,_,h3⟩:=hB.new β κ hi
   refine ⟨by rw [h3];rfl,?_⟩
   exact j04 hi
  ·cases g with
   | succ g=>cases hm
   | zero =>
    obtain ⟨t',h2,h3⟩:=Option.map_eq_some_iff.1 (show (lk x.hr κ).map (fun t=>(t,jlx σ κ t))=some (t,g') from hm)
    simp only [Prod.mk.injEq] at h3
    obtain ⟨rfl,rfl⟩:=h3
    have hi:=hfr κ t' h2
    obtain ⟨r1,h4,h5,_⟩:=hB.rnew t' κ hi
    refine ⟨⟨_,h5,by rw [j0g];exact Nat.le_refl _⟩,?_⟩
    rw [j0g];exact j73 hi
 obtain ⟨hf,hh2⟩:=jr9 hge hh hB h1 hfb hib hfr hir (fun β κ T cs1 cs' hm hs1 hs' hBx=>by
  obtain ⟨z,hz⟩:=some_bs κ β hm
  rw [sbx,hm] at hs'
  rw [q5j (σ:=σ1) hz] at hs1
  simp only [Option.some.injEq,Prod.mk.injEq] at hs1
  obtain ⟨rfl,rfl⟩:=hs1
  simp only [hz,Option.map_some,Option.some.injEq,Prod.mk.injEq] at hs'
  obtain ⟨_,rfl⟩:=hs'
  exact hbak.boxR rfl hBx)
 exact ⟨hf,hh2,hbak.drep hd⟩
end Go.Proofs.YtlkpgcifpnppeaaGreatDoor.AM
