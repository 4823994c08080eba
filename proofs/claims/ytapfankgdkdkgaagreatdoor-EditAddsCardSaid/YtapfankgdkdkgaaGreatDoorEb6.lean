
import Derived.Test.YtapfankgdkdkgaaGreatDoorEb5
set_option linter.unusedVariables false
set_option linter.unusedSimpArgs false
namespace Go.Proofs.YtapfankgdkdkgaaGreatDoor.AM
open Go.RowKit
inductive SC where
 | d (ty:Ty)
 | nil
 | box (β off:Nat)
 | row (t:Nat)
 | fn (f:Nat) (caps:List Nat)
 | mv (β:Nat)
 | undef
 | bad
inductive S1 where
 | c (x:SC)
 | agg (cs:List SC)
inductive SD where
 | one (x:S1)
 | tup (xs:List S1)
@[reducible] def pC:SC->Type
 | .d ty=>den ty
 | _=>Unit
@[reducible] def pCs:List SC->Type
 | []=>Unit
 | [c]=>pC c
 | c::c'::cs=>pC c×pCs (c'::cs)
@[reducible] def p1:S1->Type
 | .c x=>pC x
 | .agg cs=>pCs cs
@[reducible] def p1s:List S1->Type
 | []=>Unit
 | [x]=>p1 x
 | x::x'::xs=>p1 x×p1s (x'::xs)
@[reducible] def pD:SD->Type
 | .one x=>p1 x
 | .tup xs=>p1s xs
@[reducible] def pDs:List SD->Type
 | []=>Unit
 | [x]=>pD x
 | x::x'::xs=>pD x×pDs (x'::xs)
def rC:(c:SC)->pC c->TC
 | .d ty,x=>.d ty x
 | .nil,_=>.nil
 | .box β o,_=>.box β o
 | .row t,_=>.row t 0
 | .fn f cs,_=>.fn f cs
 | .mv β,_=>.mv β
 | .undef,_=>.undef
 | .bad,_=>.bad
def rCs:(cs:List SC)->pCs cs->List TC
 | [],_=>[]
 | [c],x=>[rC c x]
 | c::c'::cs,(p:pC c×pCs (c'::cs))=>rC c p.1::rCs (c'::cs) p.2
def r1:(s:S1)->p1 s->TD1
 | .c x,p=>.c (rC x p)
 | .agg cs,p=>.agg (rCs cs p)
def r1s:(xs:List S1)->p1s xs->List TD1
 | [],_=>[]
 | [x],p=>[r1 x p]
 | x::x'::xs,(p:p1 x×p1s (x'::xs))=>r1 x p.1::r1s (x'::xs) p.2
def rD:(d:SD)->pD d->TD
 | .one x,p=>.one (r1 x p)
 | .tup xs,p=>.tup (r1s xs p)
def rDs:(ds:List SD)->pDs ds->List TD
 | [],_=>[]
 | [x],p=>[rD x p]
 | x::x'::xs,(p:pD x×pDs (x'::xs))=>rD x p.1::rDs (x'::xs) p.2
structure SR where
 E:Nat
 wr:Bool
 e:Ty
structure SSt where
 slots:List (Nat×SD)
 boxes:List (Nat×(Nat×List SC))
 rows:List (Nat×SR)
@[reducible] def pSl:List (Nat×SD)->Type
 | []=>Unit
 | x::l=>pD x.2×pSl l
@[reducible] def pBx:List (Nat×(Nat×List SC))->Type
 | []=>Unit
 | x::l=>pCs x.2.2×pBx l
@[reducible] def pRw:List (Nat×SR)->Type
 | []=>Unit
 | x::l=>List (den x.2.e)×pRw l
@[reducible] def pSt (sh:SSt):Type:=pSl sh.slots×pBx sh.boxes×pRw sh.rows
def rSl:(l:List (Nat×SD))->pSl l->List (Nat×TD)
 | [],_=>[]
 | x::l,(p:pD x.2×pSl l)=>(x.1,rD x.2 p.1)::rSl l p.2
def rBx:(l:List (Nat×(Nat×List SC)))->pBx l->List (Nat×(Nat×List TC))
 | [],_=>[]
 | x::l,(p:pCs x.2.2×pBx l)=>(x.1,(x.2.1,rCs x.2.2 p.1))::rBx l p.2
def rRw:(l:List (Nat×SR))->pRw l->List (Nat×TRow)
 | [],_=>[]
 | x::l,(p:List (den x.2.e)×pRw l)=>(x.1,⟨0,x.2.E,x.2.wr,x.2.e,p.1⟩)::rRw l p.2
def rSt (sh:SSt) (p:pSt sh):TSt:=⟨rSl sh.slots p.1,rBx sh.boxes p.2.1,rRw sh.rows p.2.2⟩
def isS {β:Type} : Option β->Bool
 | some _=>true
 | none=>false
def cDat (σ:TSt) (ty:Ty):TC->Option (den ty)
 | .d ty' y=>if h:ty'=ty then some (h ▸ y) else none
 | .nil=>match ty with
  | .lst e=>some ([]:List (den e))
  | _=>none
 | .row t g=>match lk σ.rows t with
  | some r=>if h:Ty.lst r.e=ty then (if r.gen=g/\r.wr=false then some (h ▸ r.xs) else none) else none
  | none=>none
 | _=>none
def cC (sh:SSt) (σ:TSt):(c:SC)->TC->Option (pC c)
 | .d ty,x=>cDat σ ty x
 | .bad,_=>some ()
 | .nil,.nil=>some ()
 | .box β o,.box β' o'=>if β=β'/\o=o'/\isS (lk sh.boxes β)=true then some () else none
 | .row t,.row t' g=>match lk σ.rows t' with
  | some r=>if t=t'/\r.gen=g/\isS (lk sh.rows t)=true then some () else none
  | none=>none
 | .row t,.nil=>if isS (lk σ.rows t)=false/\isS (lk sh.rows t)=true then some () else none
 | .fn f cs,.fn f' cs'=>if f=f'/\cs=cs'/\cs.all (fun β=>isS (lk sh.boxes β))=true then some () else none
 | .mv β,.mv β'=>if β=β'/\isS (lk sh.boxes β)=true then some () else none
 | .undef,.undef=>some ()
 | _,_=>none
def cCs (sh:SSt) (σ:TSt):(cs:List SC)->List TC->Option (pCs cs)
 | [],[]=>some ()
 | [c],[x]=>cC sh σ c x
 | c::c'::cs,x::xs=>match cC sh σ c x,cCs sh σ (c'::cs) xs with
  | some p,some q=>some (p,q)
  | _,_=>none
 | _,_=>none
def c1 (sh:SSt) (σ:TSt):(s:S1)->TD1->Option (p1 s)
 | .c c,.c x=>cC sh σ c x
 | .agg cs,.agg xs=>cCs sh σ cs xs
 | _,_=>none
def c1s (sh:SSt) (σ:TSt):(ss:List S1)->List TD1->Option (p1s ss)
 | [],[]=>some ()
 | [c],[x]=>c1 sh σ c x
 | c::c'::cs,x::xs=>match c1 sh σ c x,c1s sh σ (c'::cs) xs with
  | some p,some q=>some (p,q)
  | _,_=>none
 | _,_=>none
def cD (sh:SSt) (σ:TSt):(d:SD)->TD->Option (pD d)
 | .one s,.one x=>c1 sh σ s x
 | .tup ss,.tup xs=>c1s sh σ ss xs
 | _,_=>none
def cDs (sh:SSt) (σ:TSt):(ds:List SD)->List TD->Option (pDs ds)
 | [],[]=>some ()
 | [c],[x]=>cD sh σ c x
 | c::c'::cs,x::xs=>match cD sh σ c x,cDs sh σ (c'::cs) xs with
  | some p,some q=>some (p,q)
  | _,_=>none
 | _,_=>none
def cSl (sh:SSt) (σ:TSt):(l:List (Nat×SD))->Option (pSl l)
 | []=>some ()
 | x::l=>match (lk σ.slots x.1).bind (cD sh σ x.2),cSl sh σ l with
  | some p,some q=>some (p,q)
  | _,_=>none
def mSh2:List SC->List TC->Bool
 | [.d _],[.d _ _]=>true
 | _,_=>false
theorem jmd {cs:List SC} {xs:List TC} (h:(bif false then true else mSh2 cs xs)=true) : ∃ ty ty' y,cs = [.d ty]/\xs = [.d ty' y]:=by
 replace h:mSh2 cs xs=true:=h
 unfold mSh2 at h
 split at h
 ·exact ⟨_,_,_,rfl,rfl⟩
 ·cases h
def mSh (T:Nat) (cs:List SC) (xs:List TC):Bool:=bif q5z T then true else mSh2 cs xs
def cBx (sh:SSt) (σ:TSt):(l:List (Nat×(Nat×List SC)))->Option (pBx l)
 | []=>some ()
 | x::l=>match (lk σ.boxes x.1).bind (fun q=>if q.1=x.2.1/\mSh x.2.1 x.2.2 q.2=true then cCs sh σ x.2.2 q.2 else none),cBx sh σ l with
  | some p,some q=>some (p,q)
  | _,_=>none
def cR (sr:SR):Option TRow->Option (List (den sr.e))
 | none=>some []
 | some r=>if h:r.e=sr.e then (if r.E=sr.E/\r.wr=sr.wr then some (h ▸ r.xs) else none) else none
def cRw (σ:TSt):(l:List (Nat×SR))->Option (pRw l)
 | []=>some ()
 | x::l=>match cR x.2 (lk σ.rows x.1),cRw σ l with
  | some p,some q=>some (p,q)
  | _,_=>none
def cSt (sh:SSt) (σ:TSt):Option (pSt sh):=match cSl sh σ sh.slots,cBx sh σ sh.boxes,cRw σ sh.rows with
 | some a,some b,some c=>some (a,b,c)
 | _,_,_=>none
structure Rd (sh:SSt) (σ:TSt) (F:Fr) (σa:St) (e:Env) (w:World) (σ':St) (e':Env):Prop where
 hp:Hp F σa e w
 pc:e'.Pc=e.Pc
 bx : ∀β,isS (lk sh.boxes β)=true->(σ'.box β).isSome=true/\e'.m β=e.m β
 rw : ∀t,isS (lk sh.rows t)=true->(∃ r',σ'.row t=some r'/\0<=r'.gen)/\e'.rv t 0=match lk σ.rows t with|some r=>e.rv t r.gen|none=>.slice none 0 0
def jit (σ:TSt) (σa:St):TC->Prop
 | .row t _=>∀r,lk σ.rows t=some r->σa.row t=some (eR r)
 | _=>True
variable {sh:SSt} {σ:TSt} {F:Fr} {σa σ':St} {e e':Env} {w:World}
theorem qim {Pc:Nat->Nat->Prop} {w:World} (sz:Nat):DatRep Pc w (.slice none 0 0) (.lst sz []) :=
 .lst none 0 0 sz [] 0 0 (fun _ _=>undef) rfl (Nat.le_refl _) (by unfold maxLen;omega) (fun x hx=>by cases hx) (fun h0=>by simp at h0) (fun k j hk=>by simp at hk) (fun k j hk=>by simp at hk)
theorem joy {β:Type} {x:Option β} (h:isS x=false):x=none:=by
 cases x with
 | none=>rfl
 | some y=>cases h
theorem jlz (h:Rd sh σ F σa e w σ' e') {ty:Ty} {x:TC} {p:den ty} (hc:cDat σ ty x=some p) (hs:jit σ σa x) {v:Value} (hv:q2f e σa w v (eC x)):q2f e' σ' w v (eC (.d ty p)):=by
 unfold cDat at hc
 split at hc
 ·rename_i ty' y
  split at hc
  case isFalse=>cases hc
  rename_i ht
  subst ht
  simp only [Option.some.injEq] at hc
  subst hc
  show DatRep e'.Pc w v _
  rw [h.pc];exact hv
 ·split at hc
  ·simp only [Option.some.injEq] at hc
   subst hc
   have:v = .slice none 0 0:=q9h hv
   subst this
   show DatRep e'.Pc w _ _
   exact qim _
  ·cases hc
 ·rename_i t g
  split at hc
  case h_2=>cases hc
  rename_i r hr
  split at hc
  case isFalse=>cases hc
  rename_i ht
  subst ht
  split at hc
  case isFalse=>cases hc
  rename_i hg
  obtain ⟨rfl,hw⟩:=hg
  simp only [Option.some.injEq] at hc
  subst hc
  obtain ⟨_,h5,_⟩:(∃ r',σa.row t=some r'/\r.gen<=r'.gen)/\v=e.rv t r.gen/\_:=hv
  show DatRep e'.Pc w v _
  rw [h.pc,h5]
  exact h.hp.rowDat (r:=eR r) (hs r hr) hw
 ·cases hc
theorem jlc (h:Rd sh σ F σa e w σ' e') {c:SC} {x:TC} {p:pC c} (hc:cC sh σ c x=some p) (hs:jit σ σa x) {v:Value} (hv:q2f e σa w v (eC x)):q2f e' σ' w v (eC (rC c p)):=by
 unfold cC at hc
 split at hc
 ·exact jlz h hc hs hv
 ·trivial
 ·show DatRep e'.Pc w v _
  rw [h.pc];exact hv
 ·rename_i β o β' o'
  split at hc
  case isFalse=>cases hc
  rename_i hh
  obtain ⟨rfl,rfl,hb⟩:=hh
  obtain ⟨h1,h2⟩:=h.bx β hb
  exact ⟨h1,by rw [h2];exact hv.2⟩
 ·rename_i t t' g
  split at hc
  case h_2=>cases hc
  rename_i r hr
  split at hc
  case isFalse=>cases hc
  rename_i hh
  obtain ⟨rfl,rfl,hb⟩:=hh
  obtain ⟨h1,h2⟩:=h.rw t hb
  refine ⟨h1,?_,hv.2.2⟩
  rw [h2,hr];exact hv.2.1
 ·rename_i t
  split at hc
  case isFalse=>cases hc
  rename_i hh
  obtain ⟨hn,hb⟩:=hh
  obtain ⟨h1,h2⟩:=h.rw t hb
  have:v = .slice none 0 0:=q9h hv
  subst this
  refine ⟨h1,?_,none,0,0,rfl⟩
  rw [h2,joy hn]
 ·rename_i f cs f' cs'
  split at hc
  case isFalse=>cases hc
  rename_i hh
  obtain ⟨rfl,rfl,hb⟩:=hh
  cases cs with
  | nil =>
   show DatRep e'.Pc w v _
   rw [h.pc];exact hv
  | cons c cs =>
   have hv':(∀β∈c::cs,(σa.box β).isSome=true)/\v = .func (.func f) #[] ((c::cs).map fun β=>Value.pointer (some ⟨e.m β,0,none⟩)).toArray:=hv
   refine ⟨fun β hβ=>(h.bx β (List.all_eq_true.1 hb β hβ)).1,?_⟩
   rw [hv'.2]
   congr 2
   apply List.map_congr_left
   intro β hβ
   rw [(h.bx β (List.all_eq_true.1 hb β hβ)).2]
 ·rename_i β β'
  split at hc
  case isFalse=>cases hc
  rename_i hh
  obtain ⟨rfl,hb⟩:=hh
  obtain ⟨h1,h2⟩:=h.bx β hb
  exact ⟨h1,by rw [h2];exact hv.2⟩
 ·show DatRep e'.Pc w v _
  rw [h.pc];exact hv
 ·cases hc
theorem jbz (h:Rd sh σ F σa e w σ' e') : ∀{cs:List SC} {xs:List TC} {p:pCs cs},cCs sh σ cs xs=some p->(∀x∈xs,jit σ σa x)->∀{vs:List Value},q0c (q2f e σa w) vs (xs.map eC)->q0c (q2f e' σ' w) vs ((rCs cs p).map eC)
 | [],[],p,_,_,[],_=>trivial
 | [],[],p,_,_,_::_,hv=>hv.elim
 | [c],[x],p,hc,hs,[v],hv=>⟨jlc h hc (hs _ (List.mem_cons_self ..)) hv.1,trivial⟩
 | [c],[x],p,hc,hs,[],hv=>hv.elim
 | [c],[x],p,hc,hs,_::_::_,hv=>hv.2.elim
 | c::c'::cs,x::xs,p,hc,hs,v::vs,hv=>by
  unfold cCs at hc
  split at hc
  case h_2=>cases hc
  rename_i p1 q1 h1 h2
  obtain rfl:(p1,q1)=p:=Option.some.inj hc
  exact ⟨jlc h h1 (hs _ (List.mem_cons_self ..)) hv.1,jbz h h2 (fun y hy=>hs y (List.mem_cons_of_mem _ hy)) hv.2⟩
 | c::c'::cs,x::xs,p,hc,hs,[],hv=>hv.elim
 | [],_::_,_,hc,_,_,_=>by simp [cCs] at hc
 | [_],[],_,hc,_,_,_=>by simp [cCs] at hc
 | [_],_::_::_,_,hc,_,_,_=>by simp [cCs] at hc
 | _::_::_,[],_,hc,_,_,_=>by simp [cCs] at hc
theorem jmn (h:Rd sh σ F σa e w σ' e') {b T:Nat} {cs:List SC} {xs:List TC} {p:pCs cs} (hm:mSh T cs xs=true) (hc:cCs sh σ cs xs=some p) (hs : ∀x∈xs,jit σ σa x) (hv:qs1 e σa w b T (xs.map eC)):qs1 e' σ' w b T ((rCs cs p).map eC):=by
 rcases hv with ⟨h0,vs,h1,h2,h3⟩|⟨h0,sz,ys,h1,h2⟩
 ·exact Or.inl ⟨h0,vs,h1,jbz h hc hs h2,h3⟩
 ·unfold mSh at hm
  cases hb:q5z T with
  | true=>have:=q38 hb;omega
  | false =>
  rw [hb] at hm
  obtain ⟨ty,ty',y,rfl,rfl⟩:=jmd hm
  replace hc:(if h:ty'=ty then some (h ▸ y) else none)=some p:=hc
  split at hc
  case isFalse=>cases hc
  rename_i ht
  subst ht
  have hp:y=p:=Option.some.inj hc
  subst hp
  exact Or.inr ⟨h0,sz,ys,h1,by rw [h.pc];exact h2⟩
def jp1 (σ:TSt) (σa:St):TD1->Prop
 | .c x=>jit σ σa x
 | .agg xs=>∀x∈xs,jit σ σa x
theorem jf6 (h:Rd sh σ F σa e w σ' e') {s:S1} {x:TD1} {p:p1 s} (hc:c1 sh σ s x=some p) (hs:jp1 σ σa x) {v:Value} (hv:q6z e σa w v (e1 x)):q6z e' σ' w v (e1 (r1 s p)):=by
 unfold c1 at hc
 split at hc
 ·exact jlc h hc hs hv
 ·obtain ⟨vs,rfl,h2⟩:=hv
  exact ⟨vs,rfl,jbz h hc hs h2⟩
 ·cases hc
theorem j7x (h:Rd sh σ F σa e w σ' e') : ∀{cs:List S1} {xs:List TD1} {p:p1s cs},c1s sh σ cs xs=some p->(∀x∈xs,jp1 σ σa x)->∀{vs:List Value},q0c (q6z e σa w) vs (xs.map e1)->q0c (q6z e' σ' w) vs ((r1s cs p).map e1)
 | [],[],p,_,_,[],_=>trivial
 | [],[],p,_,_,_::_,hv=>hv.elim
 | [c],[x],p,hc,hs,[v],hv=>⟨jf6 h hc (hs _ (List.mem_cons_self ..)) hv.1,trivial⟩
 | [c],[x],p,hc,hs,[],hv=>hv.elim
 | [c],[x],p,hc,hs,_::_::_,hv=>hv.2.elim
 | c::c'::cs,x::xs,p,hc,hs,v::vs,hv=>by
  unfold c1s at hc
  split at hc
  case h_2=>cases hc
  rename_i p1 q1 h1 h2
  obtain rfl:(p1,q1)=p:=Option.some.inj hc
  exact ⟨jf6 h h1 (hs _ (List.mem_cons_self ..)) hv.1,j7x h h2 (fun y hy=>hs y (List.mem_cons_of_mem _ hy)) hv.2⟩
 | c::c'::cs,x::xs,p,hc,hs,[],hv=>hv.elim
 | [],_::_,_,hc,_,_,_=>by simp [c1s] at hc
 | [_],[],_,hc,_,_,_=>by simp [c1s] at hc
 | [_],_::_::_,_,hc,_,_,_=>by simp [c1s] at hc
 | _::_::_,[],_,hc,_,_,_=>by simp [c1s] at hc
def SrcD (σ:TSt) (σa:St):TD->Prop
 | .one x=>jp1 σ σa x
 | .tup xs=>∀x∈xs,jp1 σ σa x
theorem jjk (h:Rd sh σ F σa e w σ' e') {d:SD} {x:TD} {p:pD d} (hc:cD sh σ d x=some p) (hs:SrcD σ σa x) {v:Value} (hv:q1r e σa w v (eD x)):q1r e' σ' w v (eD (rD d p)):=by
 unfold cD at hc
 split at hc
 ·exact jf6 h hc hs hv
 ·obtain ⟨vs,rfl,h2⟩:=hv
  exact ⟨vs,rfl,j7x h hc hs h2⟩
 ·cases hc
theorem j10 (h:Rd sh σ F σa e w σ' e') : ∀{cs:List SD} {xs:List TD} {p:pDs cs},cDs sh σ cs xs=some p->(∀x∈xs,SrcD σ σa x)->∀{vs:List Value},q0c (q1r e σa w) vs (xs.map eD)->q0c (q1r e' σ' w) vs ((rDs cs p).map eD)
 | [],[],p,_,_,[],_=>trivial
 | [],[],p,_,_,_::_,hv=>hv.elim
 | [c],[x],p,hc,hs,[v],hv=>⟨jjk h hc (hs _ (List.mem_cons_self ..)) hv.1,trivial⟩
 | [c],[x],p,hc,hs,[],hv=>hv.elim
 | [c],[x],p,hc,hs,_::_::_,hv=>hv.2.elim
 | c::c'::cs,x::xs,p,hc,hs,v::vs,hv=>by
  unfold cDs at hc
  split at hc
  case h_2=>cases hc
  rename_i p1 q1 h1 h2
  obtain rfl:(p1,q1)=p:=Option.some.inj hc
  exact ⟨jjk h h1 (hs _ (List.mem_cons_self ..)) hv.1,j10 h h2 (fun y hy=>hs y (List.mem_cons_of_mem _ hy)) hv.2⟩
 | c::c'::cs,x::xs,p,hc,hs,[],hv=>hv.elim
 | [],_::_,_,hc,_,_,_=>by simp [cDs] at hc
 | [_],[],_,hc,_,_,_=>by simp [cDs] at hc
 | [_],_::_::_,_,hc,_,_,_=>by simp [cDs] at hc
 | _::_::_,[],_,hc,_,_,_=>by simp [cDs] at hc
theorem qxd : ∀x:TC,jit σ (eS σ) x
 | .row t g=>fun r hr=>q2x hr
 | .d _ _=>trivial
 | .nil=>trivial
 | .box _ _=>trivial
 | .mv _=>trivial
 | .rp _ _ _=>trivial
 | .wp _ _ _ _=>trivial
 | .bp _ _ _ _=>trivial
 | .fn _ _=>trivial
 | .undef=>trivial
 | .bad=>trivial
theorem qoz (x:TD1):jp1 σ (eS σ) x:=by
 cases x with
 | c x=>exact qxd x
 | agg xs=>exact fun x _=>qxd x
theorem qzx (x:TD):SrcD σ (eS σ) x:=by
 cases x with
 | one x=>exact qoz x
 | tup xs=>exact fun x _=>qoz x
theorem jib : ∀{l:List (Nat×SD)} {p:pSl l} {i:Nat},cSl sh σ l=some p->(lk (rSl l p) i=none) \/ ∃ d x q,lk σ.slots i=some x/\cD sh σ d x=some q/\lk (rSl l p) i=some (rD d q)
 | [],_,i,_=>Or.inl rfl
 | x::l,p,i,h=>by
  unfold cSl at h
  split at h
  case h_2=>cases h
  rename_i p1 q1 h1 h2
  obtain rfl:(p1,q1)=p:=Option.some.inj h
  obtain ⟨y,hy,h3⟩:=Option.bind_eq_some_iff.1 h1
  have e0:lk (rSl (x::l) (p1,q1)) i=if i=x.1 then some (rD x.2 p1) else lk (rSl l q1) i:=q0i ..
  rw [e0]
  by_cases hi:i=x.1
  ·rw [if_pos hi];subst hi
   exact Or.inr ⟨x.2,y,p1,hy,h3,rfl⟩
  ·rw [if_neg hi]
   exact jib h2
theorem jc6 : ∀{l:List (Nat×(Nat×List SC))} {p:pBx l} {i:Nat},cBx sh σ l=some p->(lk (rBx l p) i=none/\lk l i=none) \/ ∃ T cs xs q,lk σ.boxes i=some (T,xs)/\cCs sh σ cs xs=some q/\lk (rBx l p) i=some (T,rCs cs q)/\lk l i=some (T,cs)/\mSh T cs xs=true
 | [],_,i,_=>Or.inl ⟨rfl,rfl⟩
 | x::l,p,i,h=>by
  unfold cBx at h
  split at h
  case h_2=>cases h
  rename_i p1 q1 h1 h2
  obtain rfl:(p1,q1)=p:=Option.some.inj h
  obtain ⟨y,hy,h3⟩:=Option.bind_eq_some_iff.1 h1
  split at h3
  case isFalse=>cases h3
  rename_i hT
  obtain ⟨hT,hsh⟩:=hT
  have e0:lk (rBx (x::l) (p1,q1)) i=if i=x.1 then some (x.2.1,rCs x.2.2 p1) else lk (rBx l q1) i:=q0i ..
  have e1:lk (x::l) i=if i=x.1 then some x.2 else lk l i:=q0i ..
  rw [e0,e1]
  by_cases hi:i=x.1
  ·rw [if_pos hi,if_pos hi];subst hi
   exact Or.inr ⟨x.2.1,x.2.2,y.2,p1,by rw [hy,<-hT],h3,rfl,rfl,hsh⟩
  ·rw [if_neg hi,if_neg hi]
   exact jc6 h2
theorem j9y : ∀{l:List (Nat×SR)} {p:pRw l} {i:Nat},cRw σ l=some p->(lk (rRw l p) i=none/\lk l i=none) \/ ∃ r' sr,lk (rRw l p) i=some r'/\lk l i=some sr/\r'.gen=0/\((∃ r,lk σ.rows i=some r/\r' = { r with gen:=0 })\/(lk σ.rows i=none/\r'.xs = []))
 | [],_,i,_=>Or.inl ⟨rfl,rfl⟩
 | x::l,p,i,h=>by
  unfold cRw at h
  split at h
  case h_2=>cases h
  rename_i p1 q1 h1 h2
  obtain rfl:(p1,q1)=p:=Option.some.inj h
  have e0:lk (rRw (x::l) (p1,q1)) i=if i=x.1 then some ⟨0,x.2.E,x.2.wr,x.2.e,p1⟩ else lk (rRw l q1) i:=q0i ..
  have e1:lk (x::l) i=if i=x.1 then some x.2 else lk l i:=q0i ..
  rw [e0,e1]
  by_cases hi:i=x.1
  ·rw [if_pos hi,if_pos hi];subst hi
   refine Or.inr ⟨_,_,rfl,rfl,rfl,?_⟩
   unfold cR at h1
   split at h1
   ·rename_i hn
    simp only [Option.some.injEq] at h1
    exact Or.inr ⟨hn,h1.symm⟩
   ·rename_i r hr
    obtain ⟨i,⟨E,wr,e⟩⟩:=x
    obtain ⟨gen,E',wr',e',xs⟩:=r
    split at h1
    case isFalse=>cases h1
    rename_i he
    have he':e'=e:=he
    subst he'
    split at h1
    case isFalse=>cases h1
    rename_i hh
    obtain ⟨hh1,hh2⟩:=hh
    have hh1':E'=E:=hh1
    have hh2':wr'=wr:=hh2
    subst hh1' hh2'
    have h1':xs=p1:=Option.some.inj h1
    subst h1'
    exact Or.inl ⟨_,hr,rfl⟩
  ·rw [if_neg hi,if_neg hi]
   exact j9y h2
def jn6 (σ:TSt) (e:Env):Env:={ e with rv:=fun t g=>match lk σ.rows t with|some r=>e.rv t r.gen|none=>.slice none 0 0 }
theorem j2u {p:pSt sh} (h:cSt sh σ=some p):cSl sh σ sh.slots=some p.1/\cBx sh σ sh.boxes=some p.2.1/\cRw σ sh.rows=some p.2.2:=by
 unfold cSt at h
 split at h
 case h_2=>cases h
 rename_i a b c h1 h2 h3
 obtain rfl:(a,b,c)=p:=Option.some.inj h
 exact ⟨h1,h2,h3⟩
theorem jpr {p:pSt sh} (h:cSt sh σ=some p) (hp:Hp F (eS σ) e w):Rd sh σ F (eS σ) e w (eS (rSt sh p)) (jn6 σ e):=by
 obtain ⟨h1,h2,h3⟩:=j2u h
 refine ⟨hp,rfl,fun β hβ=>⟨?_,rfl⟩,fun t ht=>⟨?_,rfl⟩⟩
 ·rcases jc6 (i:=β) h2 with ⟨_,h5⟩|⟨T,cs,xs,q,h5,h6,h7,h8⟩
  ·rw [h5] at hβ;cases hβ
  ·rw [q4o (σ:=rSt sh p) (show lk (rSt sh p).boxes β=_ from h7)];rfl
 ·rcases j9y (i:=t) h3 with ⟨_,h5⟩|⟨r',sr,h5,h6,h7,h8⟩
  ·rw [h5] at ht;cases ht
  ·exact ⟨eR r',q2x (σ:=rSt sh p) h5,Nat.zero_le _⟩
theorem j8x {a:Act} {p:pSt sh} (h:cSt sh σ=some p) (hR:R F (eS σ) e a w):R F (eS (rSt sh p)) (jn6 σ e) a w:=by
 have hd:=jpr h hR.hp
 obtain ⟨h1,h2,h3⟩:=j2u h
 have hp:=hR.hp
 have boxes : ∀β T cs',(eS (rSt sh p)).box β=some (T,cs')->∃ cs xs q,lk σ.boxes β=some (T,xs)/\cCs sh σ cs xs=some q/\cs'=(rCs cs q).map eC/\mSh T cs xs=true:=fun β T cs' hb=>by
  rcases jc6 (i:=β) h2 with ⟨h5,_⟩|⟨T',cs,xs,q,h5,h6,h7,h8⟩
  ·rw [qh2 (σ:=rSt sh p) h5] at hb;cases hb
  ·rw [q4o (σ:=rSt sh p) (show lk (rSt sh p).boxes β=_ from h7)] at hb
   simp only [Option.some.injEq,Prod.mk.injEq] at hb
   obtain ⟨rfl,rfl⟩:=hb
   exact ⟨cs,xs,q,h5,h6,rfl,h8.2⟩
 have boxS : ∀β,((eS (rSt sh p)).box β).isSome=true->((eS σ).box β).isSome=true:=fun β hβ=>by
  obtain ⟨⟨T,cs⟩,hx⟩:=Option.isSome_iff_exists.1 hβ
  obtain ⟨_,xs,_,h5,_⟩:=boxes β T cs hx
  rw [q4o h5];rfl
 have rows : ∀t r',(eS (rSt sh p)).row t=some r'->(∃ r,lk σ.rows t=some r/\r' = { eR r with gen:=0 }/\(jn6 σ e).rv t r'.gen=e.rv t r.gen)\/(lk σ.rows t=none/\r'.xs = []/\(jn6 σ e).rv t r'.gen = .slice none 0 0):=fun t r' hr=>by
  rcases j9y (i:=t) h3 with ⟨h5,_⟩|⟨r1,sr,h5,h6,h7,h8⟩
  ·rw [q8e (σ:=rSt sh p) h5] at hr;cases hr
  ·rw [q2x (σ:=rSt sh p) h5] at hr
   simp only [Option.some.injEq] at hr
   subst hr
   rcases h8 with ⟨r,h9,rfl⟩|⟨h9,h10⟩
   ·exact Or.inl ⟨r,h9,rfl,by show (match lk σ.rows t with|some r=>e.rv t r.gen|none=>_)=_;rw [h9]⟩
   ·exact Or.inr ⟨h9,by show r1.xs.map _ = [];rw [h10];rfl,by show (match lk σ.rows t with|some r=>e.rv t r.gen|none=>_)=_;rw [h9]⟩
 refine ⟨hR.defers,hR.size,fun i=>?_,?_⟩
 ·rcases jib (i:=i) h1 with h5|⟨d,x,q,h5,h6,h7⟩
  ·show q1r _ _ w _ (match lk (rSl sh.slots p.1) i with|some x=>eD x|none=>.one (.c .bad))
   rw [h5];trivial
  ·show q1r _ _ w _ (match lk (rSl sh.slots p.1) i with|some x=>eD x|none=>.one (.c .bad))
   rw [h7]
   refine jjk hd h6 (qzx x) ?_
   have:=hR.slots i
   show q1r e (eS σ) w _ (eD x)
   have e5:(eS σ).slot i=eD x:=by show (match lk σ.slots i with|some x=>eD x|none=>_)=_;rw [h5]
   rw [<-e5];exact this
 ·refine ⟨hp.below,hp.pc0,hp.pcNew,hp.pcLt,fun β T cs' hx=>?_,fun β hβ=>hp.boxPc β (boxS β hβ),fun β β' hβ hβ'=>hp.boxNe β β' (boxS β hβ) (boxS β' hβ'),fun t r' hr=>?_,fun t r' b hr hw hb o ho=>?_,fun t r' b hr hb o ho=>?_,fun t r' b β hr hb hβ=>?_,fun t t' r r' b hn hr hr' hb=>?_,⟨hp.kp.keep,hp.kp.wkLe,fun β hβ=>hp.kp.boxK β (boxS β hβ),fun t r' b hr hb=>?_,hp.kp.pcK,hp.kp.cellK,hp.kp.boxM⟩⟩
  ·obtain ⟨cs,xs,q,h5,h6,rfl,h7⟩:=boxes β T cs' hx
   obtain ⟨g1,g2⟩:=hp.boxes β T (xs.map eC) (q4o h5)
   exact ⟨g1,jmn hd h7 h6 (fun x _=>qxd x) g2⟩
  ·rcases rows t r' hr with ⟨r,h5,rfl,h6⟩|⟨h5,h6,h7⟩
   ·obtain ⟨g1,cells,g2,g3,g4⟩:=hp.rows t (eR r) (q2x h5)
    refine ⟨g1,cells,?_,g3,g4⟩
    rw [h6];exact g2
   ·rw [h7,h6]
    exact ⟨fun x hx=>(by cases hx),[],j89 _ _ _ _,trivial,fun u hu=>(by cases hu)⟩
  ·rcases rows t r' hr with ⟨r,h5,rfl,h6⟩|⟨h5,h6,h7⟩
   ·rw [h6] at hb
    exact hp.rowPro t (eR r) b (q2x h5) hw hb o ho
   ·rw [h7] at hb;cases hb
  ·rcases rows t r' hr with ⟨r,h5,rfl,h6⟩|⟨h5,h6,h7⟩
   ·rw [h6] at hb
    exact hp.rowPc t (eR r) b (q2x h5) hb o ho
   ·rw [h7] at hb;cases hb
  ·rcases rows t r' hr with ⟨r,h5,rfl,h6⟩|⟨h5,h6,h7⟩
   ·rw [h6] at hb
    exact hp.rowBox t (eR r) b β (q2x h5) hb (boxS β hβ)
   ·rw [h7] at hb;cases hb
  ·rcases rows t r hr with ⟨r1,h5,rfl,h6⟩|⟨h5,h6,h7⟩
   ·rw [h6] at hb
    rcases rows t' r' hr' with ⟨r2,k5,rfl,k6⟩|⟨k5,k6,k7⟩
    ·rw [k6];exact hp.rowNe t t' (eR r1) (eR r2) b hn (q2x h5) (q2x k5) hb
    ·rw [k7];simp [Value.ownBlock]
   ·rw [h7] at hb;cases hb
  ·rcases rows t r' hr with ⟨r,h5,rfl,h6⟩|⟨h5,h6,h7⟩
   ·rw [h6] at hb
    exact hp.kp.rowK t (eR r) b (q2x h5) hb
   ·rw [h7] at hb;cases hb
end Go.Proofs.YtapfankgdkdkgaaGreatDoor.AM
namespace Go.Proofs.YtapfankgdkdkgaaGreatDoor.AM
open Go.RowKit
def jic (P:Program) (G:World->Prop) (f:FuncId) (σ0:St) (ds:List D) (σ1:St) (d:D):Prop :=
 ∀(F:Fr),F.G=G->∀e w (vs:Array Value),Hp F σ0 e w->q0c (q1r e σ0 w) vs.toList ds ->
  Calls P f vs w fun en w'=>∃ v e',en = .returned v/\Hp F σ1 e' w'/\q1r e' σ1 w' v d
variable {F:Fr} {σ σc σ1 σ':St} {e e1:Env} {w w':World} {fb fr ib tb ir:Nat->Option Nat}
def jj1 (e:Env) (fb fr:Nat->Option Nat):Env :=
 {m:=fun κ=>match fb κ with|some β=>e.m β|none=>0
  rv:=fun κ g=>match fr κ with|some t=>e.rv t g|none=>.slice none 0 0
  Pc:=e.Pc }
def j5h (σ:St) (e:Env) (w:World) (fb fr:Nat->Option Nat) (b:Nat):Prop :=
 b<w.heap.size/\(∀κ β,fb κ=some β->e.m β≠b)/\(∀κ t r,fr κ=some t->σ.row t=some r->(e.rv t r.gen).ownBlock≠some b)
def frX (F:Fr) (σ:St) (e:Env) (w:World) (fb fr:Nat->Option Nat) (hge : ∀κ β,fb κ=some β->1000000<=κ):Fr :=
 {n:=F.n,w0:=F.w0,Pc:=e.Pc,G:=F.G,g0:=F.g0,gst:=F.gst,K:=j5h σ e w fb fr,wk:=w,kLt:=fun b h=>h.1,m0:=fun κ=>(fb κ).map e.m
  m0ge:=fun κ a h=>by
   obtain ⟨β,h1,_⟩:=Option.map_eq_some_iff.1 h
   exact hge κ β h1 }
theorem qfz {κ β:Nat} (h:fb κ=some β):(jj1 e fb fr).m κ=e.m β:=by show (match fb κ with|some β=>e.m β|none=>0)=_;rw [h]
theorem qa3 {κ t g:Nat} (h:fr κ=some t):(jj1 e fb fr).rv κ g=e.rv t g:=by show (match fr κ with|some t=>e.rv t g|none=>.slice none 0 0)=_;rw [h]
theorem hp_in (h:Hp F σ e w) (hge : ∀κ β,fb κ=some β->1000000<=κ) (hfb : ∀κ β,fb κ=some β->ib β=some κ) (hfr : ∀κ t,fr κ=some t->ir t=some κ)
  (hcb : ∀κ T cs',σc.box κ=some (T,cs')->∃ β cs,fb κ=some β/\σ.box β=some (T,cs)/\(qs1 e σ w (e.m β) T cs->qs1 (jj1 e fb fr) σc w (e.m β) T cs'))
  (hcr : ∀κ r,σc.row κ=some r->∃ t,fr κ=some t/\σ.row t=some r):Hp (frX F σ e w fb fr hge) σc (jj1 e fb fr) w:=by
 have bx : ∀κ,(σc.box κ).isSome=true->∃ β,fb κ=some β/\(σ.box β).isSome=true:=fun κ hκ=>by
  obtain ⟨⟨T,cs⟩,hx⟩:=Option.isSome_iff_exists.1 hκ
  obtain ⟨β,cs',h1,h2,_⟩:=hcb κ T cs hx
  exact ⟨β,h1,by rw [h2];rfl⟩
 have injb : ∀κ κ' β,fb κ=some β->fb κ'=some β->κ=κ':=fun κ κ' β h1 h2=>by
  have:=hfb κ β h1;rw [hfb κ' β h2] at this;exact (Option.some.inj this).symm
 have injr : ∀κ κ' t,fr κ=some t->fr κ'=some t->κ=κ':=fun κ κ' t h1 h2=>by
  have:=hfr κ t h1;rw [hfr κ' t h2] at this;exact (Option.some.inj this).symm
 refine ⟨h.below,fun b o hp=>hp,fun b o hp=>Or.inl hp,h.pcLt,fun κ T cs' hx=>?_,fun κ hκ o hp=>?_,fun κ κ' hκ hκ' hn=>?_,fun κ r hr=>?_,fun κ r b hr hw hb o ho=>?_,fun κ r b hr hb o hp=>?_,fun κ r b β' hr hb hβ=>?_,fun κ κ' r r' b hn hr hr' hb=>?_,
  ⟨fun b hb=>rfl,Nat.le_refl _,fun κ hκ hk=>?_,fun κ r b hr hb hk=>?_,fun b o hp=>Or.inl hp,fun b o hp=>rfl,fun κ a ha=>?_⟩⟩
 ·obtain ⟨β,cs,h1,h2,h3⟩:=hcb κ T cs' hx
  obtain ⟨g0,g1⟩:=h.boxes β T cs h2
  rw [qfz h1]
  exact ⟨g0,h3 g1⟩
 ·obtain ⟨β,h1,h2⟩:=bx κ hκ
  rw [qfz h1] at hp
  exact h.boxPc β h2 o hp
 ·obtain ⟨β,h1,h2⟩:=bx κ hκ
  obtain ⟨β',h3,h4⟩:=bx κ' hκ'
  rw [qfz h1,qfz h3]
  exact h.boxNe β β' h2 h4 (fun he=>hn (injb κ κ' β h1 (he ▸ h3)))
 ·obtain ⟨t,h1,h2⟩:=hcr κ r hr
  obtain ⟨k1,cells,k2,k3,k4⟩:=h.rows t r h2
  exact ⟨k1,cells,by rw [qa3 h1];exact k2,k3,k4⟩
 ·obtain ⟨t,h1,h2⟩:=hcr κ r hr
  rw [qa3 h1] at hb
  exact h.rowPro t r b h2 hw hb o ho
 ·obtain ⟨t,h1,h2⟩:=hcr κ r hr
  rw [qa3 h1] at hb
  exact h.rowPc t r b h2 hb o hp
 ·obtain ⟨t,h1,h2⟩:=hcr κ r hr
  obtain ⟨β,h3,h4⟩:=bx β' hβ
  rw [qa3 h1] at hb
  rw [qfz h3]
  exact h.rowBox t r b β h2 hb h4
 ·obtain ⟨t,h1,h2⟩:=hcr κ r hr
  obtain ⟨t',h3,h4⟩:=hcr κ' r' hr'
  rw [qa3 h1] at hb
  rw [qa3 h3]
  exact h.rowNe t t' r r' b (fun he=>hn (injr κ κ' t h1 (he ▸ h3))) h2 h4 hb
 ·obtain ⟨β,h1,h2⟩:=bx κ hκ
  rw [qfz h1] at hk
  exact hk.2.1 κ β h1 rfl
 ·obtain ⟨t,h1,h2⟩:=hcr κ r hr
  rw [qa3 h1] at hb
  exact hk.2.2 κ t r h1 h2 hb
 ·obtain ⟨β,h1,h2⟩:=Option.map_eq_some_iff.1 (show (fb κ).map e.m=some a from ha)
  rw [qfz h1,h2]
def qs3 (σ:St) (t:Nat):Nat:=match σ.row t with|some r=>r.gen+1|none=>0
def qwr (σ:St) (e e1:Env) (tb ir:Nat->Option Nat):Env :=
 {m:=fun β=>match tb β with|some κ=>e1.m κ|none=>e.m β
  rv:=fun t g=>match ir t with|some κ=>if g=qs3 σ t then e1.rv κ 0 else e.rv t g|none=>e.rv t g
  Pc:=e1.Pc }
theorem jgq {t g:Nat} (h:ir t=none):(qwr σ e e1 tb ir).rv t g=e.rv t g:=by show (match ir t with|some κ=>if g=qs3 σ t then e1.rv κ 0 else e.rv t g|none=>e.rv t g)=_;rw [h]
theorem j24 {t κ:Nat} (h:ir t=some κ):(qwr σ e e1 tb ir).rv t (qs3 σ t)=e1.rv κ 0:=by show (match ir t with|some κ=>if qs3 σ t=qs3 σ t then e1.rv κ 0 else e.rv t (qs3 σ t)|none=>e.rv t (qs3 σ t))=_;rw [h];simp
theorem jm4 {t g:Nat} {r:Row} (hr:σ.row t=some r) (hg:g<=r.gen):(qwr σ e e1 tb ir).rv t g=e.rv t g:=by
 show (match ir t with|some κ=>if g=qs3 σ t then e1.rv κ 0 else e.rv t g|none=>e.rv t g)=_
 have:qs3 σ t=r.gen+1:=by unfold qs3;rw [hr]
 cases ir t with
 | none=>rfl
 | some κ =>
  show (if g=qs3 σ t then e1.rv κ 0 else e.rv t g)=_
  rw [this,if_neg (by omega)]
theorem qua {β κ:Nat} (h:tb β=some κ):(qwr σ e e1 tb ir).m β=e1.m κ:=by show (match tb β with|some κ=>e1.m κ|none=>e.m β)=_;rw [h]
theorem qpy {β:Nat} (h:tb β=none):(qwr σ e e1 tb ir).m β=e.m β:=by show (match tb β with|some κ=>e1.m κ|none=>e.m β)=_;rw [h]
structure Back (σ σ1 σ':St) (ib tb ir:Nat->Option Nat):Prop where
 old : ∀β,tb β=none->σ'.box β=σ.box β
 was : ∀β κ,ib β=some κ->(σ.box β).isSome=true
 sub : ∀β κ,ib β=some κ->tb β=some κ
 frs : ∀β κ,tb β=some κ->ib β=none->σ.box β=none/\β<1000000
 inj : ∀β β' κ,tb β=some κ->tb β'=some κ->β=β'
 new : ∀β κ,tb β=some κ->∃ T cs1 cs',σ1.box κ=some (T,cs1)/\σ'.box β=some (T,cs')
 rold : ∀t,ir t=none->σ'.row t=σ.row t
 rnew : ∀t κ,ir t=some κ->∃ r1,σ1.row κ=some r1/\σ'.row t=some { r1 with gen:=qs3 σ t }/\∀r,σ.row t=some r->r1.sz=r.sz
 gens : ∀κ r,σ1.row κ=some r->r.gen=0
theorem jqb (hge : ∀κ β,fb κ=some β->1000000<=κ) (h:Hp F σ e w) (hB:Back σ σ1 σ' ib tb ir) (h1:Hp (frX F σ e w fb fr hge) σ1 e1 w') (hfb : ∀κ β,fb κ=some β->ib β=some κ) (hib : ∀β κ,ib β=some κ->fb κ=some β) (hfr : ∀κ t,fr κ=some t->ir t=some κ) (hir : ∀t κ,ir t=some κ->fr κ=some t)
  (hcs : ∀β κ T cs1 cs',tb β=some κ->σ1.box κ=some (T,cs1)->σ'.box β=some (T,cs')->qs1 e1 σ1 w' (e1.m κ) T cs1->qs1 (qwr σ e e1 tb ir) σ' w' (e1.m κ) T cs') :
  Fwd e σ w (qwr σ e e1 tb ir) σ' w'/\Hp F σ' (qwr σ e e1 tb ir) w':=by
 have hsz:w.heap.size<=w'.heap.size:=h1.kp.wkLe
 have hpc : ∀b o,e.Pc b o->e1.Pc b o:=h1.pc0
 have hcell : ∀b o,e.Pc b o->w'.cell? ⟨b,o,none⟩=w.cell? ⟨b,o,none⟩:=h1.kp.cellK
 have hkeep : ∀b,j5h σ e w fb fr b->w'.heap[b]? = w.heap[b]?:=h1.kp.keep
 have hpcK : ∀b o,e1.Pc b o->e.Pc b o \/ ¬ j5h σ e w fb fr b:=h1.kp.pcK
 have hm : ∀β κ,ib β=some κ->e1.m κ=e.m β:=fun β κ hi=>h1.kp.boxM κ (e.m β) (by show (fb κ).map e.m=_;rw [hib β κ hi];rfl)
 have boxKept : ∀β,ib β=none->(σ.box β).isSome=true->j5h σ e w fb fr (e.m β):=fun β hi hβ=>by
  refine ⟨h.boxLt hβ,fun κ β' hκ he=>?_,fun κ t r hκ hr he=>h.rowBox t r _ β hr he hβ rfl⟩
  have hi':=hfb κ β' hκ
  refine h.boxNe β' β (hB.was β' κ hi') hβ (fun hh=>?_) he
  rw [hh,hi] at hi';cases hi'
 have rowKept : ∀t r b,ir t=none->σ.row t=some r->(e.rv t r.gen).ownBlock=some b->j5h σ e w fb fr b:=fun t r b hi hr hb=>by
  refine ⟨(h.rowLt hr hb).2,fun κ β hκ=>h.rowBox t r b β hr hb (hB.was β κ (hfb κ β hκ)),fun κ t' r' hκ hr' he=>?_⟩
  refine h.rowNe t' t r' r b (fun hh=>?_) hr' hr he hb
  have:=hfr κ t' hκ
  rw [hh,hi] at this;cases this
 have fk : ∀b,F.K b->j5h σ e w fb fr b:=fun b hb=>⟨h.kp.lt hb,fun κ β hκ he=>h.kp.boxK β (hB.was β κ (hfb κ β hκ)) (he ▸ hb),fun κ t r hκ hr he=>h.kp.rowK t r b hr he hb⟩
 have ibN : ∀β,tb β=none->ib β=none:=fun β hβ=>by
  cases hi:ib β with
  | none=>rfl
  | some κ=>rw [hB.sub β κ hi] at hβ;cases hβ
 have hmo : ∀β,(σ.box β).isSome=true->(qwr σ e e1 tb ir).m β=e.m β:=fun β hβ=>by
  cases ht:tb β with
  | none=>exact qpy ht
  | some κ =>
   rw [qua ht]
   cases hi:ib β with
   | none=>rw [(hB.frs β κ ht hi).1] at hβ;cases hβ
   | some κ' =>
    have:=hB.sub β κ' hi
    rw [ht] at this
    obtain rfl:=Option.some.inj this
    exact hm β κ hi
 have bdom' : ∀β,(σ.box β).isSome=true->(σ'.box β).isSome=true:=fun β hβ=>by
  cases hi:tb β with
  | none=>rw [hB.old β hi];exact hβ
  | some κ=>obtain ⟨T,c1,c2,_,h3⟩:=hB.new β κ hi;rw [h3];rfl
 have bxc : ∀β,(σ'.box β).isSome=true->(tb β=none/\(σ.box β).isSome=true/\(qwr σ e e1 tb ir).m β=e.m β)\/(∃ κ,tb β=some κ/\(σ1.box κ).isSome=true/\(qwr σ e e1 tb ir).m β=e1.m κ):=fun β hβ=>by
  cases ht:tb β with
  | none=>exact Or.inl ⟨rfl,by rw [hB.old β ht] at hβ;exact hβ,qpy ht⟩
  | some κ=>obtain ⟨T,c1,c2,h2,h3⟩:=hB.new β κ ht;exact Or.inr ⟨κ,rfl,isSome_some h2,qua ht⟩
 have hf:Fwd e σ w (qwr σ e e1 tb ir) σ' w':=by
  refine ⟨hpc,hcell,fun β hβ=>⟨bdom' β hβ,hmo β hβ⟩,fun t r g hr hg=>⟨?_,jm4 hr hg⟩⟩
  cases hi:ir t with
  | none=>exact ⟨r,by rw [hB.rold t hi];exact hr,hg,rfl⟩
  | some κ =>
   obtain ⟨r1,h2,h3,h4⟩:=hB.rnew t κ hi
   refine ⟨_,h3,?_,h4 r hr⟩
   show g<=qs3 σ t
   unfold qs3;rw [hr];show g<=r.gen+1;omega
 have rowc : ∀t r,σ'.row t=some r->(ir t=none/\σ.row t=some r/\(qwr σ e e1 tb ir).rv t r.gen=e.rv t r.gen)\/(∃ κ r1,ir t=some κ/\σ1.row κ=some r1/\r = { r1 with gen:=qs3 σ t }/\(qwr σ e e1 tb ir).rv t r.gen=e1.rv κ r1.gen):=fun t r hr=>by
  cases hi:ir t with
  | none =>
   rw [hB.rold t hi] at hr
   exact Or.inl ⟨rfl,hr,jgq hi⟩
  | some κ =>
   obtain ⟨r1,h2,h3,_⟩:=hB.rnew t κ hi
   rw [h3] at hr
   obtain rfl:=Option.some.inj hr
   exact Or.inr ⟨κ,r1,rfl,h2,rfl,by rw [hB.gens κ r1 h2];exact j24 hi⟩
 refine ⟨hf,h1.below,fun b o hp=>hpc b o (h.pc0 b o hp),fun b o hp=>?_,h1.pcLt,fun β T cs hx=>?_,fun β hβ o hp=>?_,fun β β' hβ hβ' hn=>?_,fun t r hr=>?_,fun t r b hr hw hb o ho=>?_,fun t r b hr hb o hp=>?_,fun t r b β hr hb hβ=>?_,fun t t' r r' b hn hr hr' hb=>?_,
  ⟨fun b hb=>(hkeep b (fk b hb)).trans (h.kp.keep b hb),Nat.le_trans h.kp.wkLe hsz,fun β hβ=>?_,fun t r b hr hb=>?_,fun b o hp=>?_,fun b o hp=>(hcell b o (h.pc0 b o hp)).trans (h.kp.cellK b o hp),fun β a ha=>?_⟩⟩
 ·rcases h1.pcNew b o hp with hp|hp
  ·exact h.pcNew b o hp
  ·exact Or.inr hp
 ·cases hi:tb β with
  | none =>
   rw [hB.old β hi] at hx
   obtain ⟨g0,g1⟩:=h.boxes β T cs hx
   rw [qpy hi]
   exact ⟨g0,g1.fwd hf (hkeep _ (boxKept β (ibN β hi) (isSome_some hx)))⟩
  | some κ =>
   obtain ⟨T',cs1,cs',h2,h3⟩:=hB.new β κ hi
   have h3':=h3
   rw [hx] at h3
   simp only [Option.some.injEq,Prod.mk.injEq] at h3
   obtain ⟨rfl,rfl⟩:=h3
   obtain ⟨g0,g1⟩:=h1.boxes κ T cs1 h2
   have g2:=hcs β κ T cs1 cs hi h2 h3' g1
   rw [qua hi]
   exact ⟨g0,g2⟩
 ·rcases bxc β hβ with ⟨hi,hs,hv⟩|⟨κ,hi,hs,hv⟩
  ·rw [hv] at hp
   rcases hpcK _ o hp with h5|h5
   ·exact h.boxPc β hs o h5
   ·exact h5 (boxKept β (ibN β hi) hs)
  ·rw [hv] at hp
   exact h1.boxPc κ hs o hp
 ·rcases bxc β hβ with ⟨hi,hs,hv⟩|⟨κ,hi,hs,hv⟩
  ·rcases bxc β' hβ' with ⟨hi',hs',hv'⟩|⟨κ',hi',hs',hv'⟩
   ·rw [hv,hv'];exact h.boxNe β β' hs hs' hn
   ·rw [hv,hv']
    exact fun he=>h1.kp.boxK κ' hs' (he ▸ boxKept β (ibN β hi) hs)
  ·rcases bxc β' hβ' with ⟨hi',hs',hv'⟩|⟨κ',hi',hs',hv'⟩
   ·rw [hv,hv']
    exact fun he=>h1.kp.boxK κ hs (he ▸ boxKept β' (ibN β' hi') hs')
   ·rw [hv,hv']
    refine h1.boxNe κ κ' hs hs' (fun he=>hn ?_)
    subst he
    exact hB.inj β β' κ hi hi'
 ·rcases rowc t r hr with ⟨hi,hr',hv⟩|⟨κ,r1,hi,h2,rfl,hv⟩
  ·obtain ⟨k1,cells,k2,k3,k4⟩:=h.rows t r hr'
   refine ⟨k1,cells,?_,k3.mono fun _ _=>DatRep.mono hpc hcell,k4⟩
   rw [hv]
   refine ⟨k2.1,?_⟩
   rcases k2.2 with k5|⟨g,cap,cur,k5,k6,k7,k8⟩
   ·exact .inl k5
   ·exact .inr ⟨g,cap,cur,k5,k6,(hkeep g (rowKept t r g hi hr' (by rw [k5];rfl))).trans k7,k8⟩
  ·obtain ⟨k1,cells,k2,k3,k4⟩:=h1.rows κ r1 h2
   refine ⟨k1,cells,?_,k3,k4⟩
   rw [hv];exact k2
 ·rcases rowc t r hr with ⟨hi,hr',hv⟩|⟨κ,r1,hi,h2,rfl,hv⟩
  ·rw [hv] at hb
   exact hpc b o (h.rowPro t r b hr' hw hb o ho)
  ·rw [hv] at hb
   exact h1.rowPro κ r1 b h2 hw hb o ho
 ·rcases rowc t r hr with ⟨hi,hr',hv⟩|⟨κ,r1,hi,h2,rfl,hv⟩
  ·rw [hv] at hb
   rcases hpcK b o hp with h5|h5
   ·exact h.rowPc t r b hr' hb o h5
   ·exact absurd (rowKept t r b hi hr' hb) h5
  ·rw [hv] at hb
   exact h1.rowPc κ r1 b h2 hb o hp
 ·rcases rowc t r hr with ⟨hi,hr',hv⟩|⟨κ,r1,hi,h2,rfl,hv⟩
  ·rw [hv] at hb
   rcases bxc β hβ with ⟨hj,hs,hv'⟩|⟨κ',hj,hs,hv'⟩
   ·rw [hv'];exact h.rowBox t r b β hr' hb hs
   ·rw [hv']
    exact fun he=>h1.kp.boxK κ' hs (he ▸ rowKept t r b hi hr' hb)
  ·rw [hv] at hb
   rcases bxc β hβ with ⟨hj,hs,hv'⟩|⟨κ',hj,hs,hv'⟩
   ·rw [hv']
    intro he
    exact h1.kp.rowK κ r1 b h2 hb (he ▸ boxKept β (ibN β hj) hs)
   ·rw [hv']
    exact h1.rowBox κ r1 b κ' h2 hb hs
 ·rcases rowc t r hr with ⟨hi,k1,hv⟩|⟨κ,r1,hi,k1,rfl,hv⟩
  ·rw [hv] at hb
   rcases rowc t' r' hr' with ⟨hj,k2,hv'⟩|⟨κ',r1',hj,k2,rfl,hv'⟩
   ·rw [hv'];exact h.rowNe t t' r r' b hn k1 k2 hb
   ·rw [hv']
    intro hh
    exact h1.kp.rowK κ' r1' b k2 hh (rowKept t r b hi k1 hb)
  ·rw [hv] at hb
   rcases rowc t' r' hr' with ⟨hj,k2,hv'⟩|⟨κ',r1',hj,k2,rfl,hv'⟩
   ·rw [hv']
    intro hh
    exact h1.kp.rowK κ r1 b k1 hb (rowKept t' r' b hj k2 hh)
   ·rw [hv']
    refine h1.rowNe κ κ' r1 r1' b (fun he=>hn ?_) k1 k2 hb
    subst he
    have:=hir t κ hi
    rw [hir t' κ hj] at this
    exact (Option.some.inj this).symm
 ·rcases bxc β hβ with ⟨hj,hs,hv'⟩|⟨κ',hj,hs,hv'⟩
  ·rw [hv'];exact h.kp.boxK β hs
  ·rw [hv'];exact fun hk=>h1.kp.boxK κ' hs (fk _ hk)
 ·rcases rowc t r hr with ⟨hi,k1,hv⟩|⟨κ,r1,hi,k1,rfl,hv⟩
  ·rw [hv] at hb
   exact h.kp.rowK t r b k1 hb
  ·rw [hv] at hb
   exact fun hk=>h1.kp.rowK κ r1 b k1 hb (fk b hk)
 ·rcases hpcK b o hp with h5|h5
  ·exact h.kp.pcK b o h5
  ·exact Or.inr fun hk=>h5 (fk b hk)
 ·have hge':=F.m0ge β a ha
  cases ht:tb β with
  | none=>rw [qpy ht];exact h.kp.boxM β a ha
  | some κ =>
   cases hi:ib β with
   | none=>exact absurd (hB.frs β κ ht hi).2 (by omega)
   | some κ' =>
    have:=hB.sub β κ' hi
    rw [ht] at this
    obtain rfl:=Option.some.inj this
    rw [qua ht,hm β κ hi];exact h.kp.boxM β a ha
end Go.Proofs.YtapfankgdkdkgaaGreatDoor.AM
namespace Go.Proofs.YtapfankgdkdkgaaGreatDoor.AM
open Go.RowKit
def q0g (l:List (Nat×Nat)):List (Nat×Nat):=l.map fun p=>(p.2,p.1)
def jne (x:Nat):List (Nat×Nat)->Bool
 | []=>false
 | p::l=>Nat.beq p.1 x||jne x l
def nodupB:List (Nat×Nat)->Bool
 | []=>true
 | p::l=>!(jne p.1 l)&&nodupB l
theorem qwv : ∀{l:List (Nat×Nat)} {x:Nat},jne x l=false->lk l x=none
 | [],x,_=>rfl
 | (j,y)::l,x,h=>by
  simp only [jne,Bool.or_eq_false_iff] at h
  rw [q0i,if_neg (fun e=>by subst e;rw [Nat.beq_refl] at h;exact absurd h.1 (by decide)),qwv h.2]
theorem qe1 : ∀{l:List (Nat×Nat)},nodupB (q0g l)=true->∀{κ β:Nat},lk l κ=some β->lk (q0g l) β=some κ
 | [],_,κ,β,h=>by cases h
 | (j,y)::l,hd,κ,β,h=>by
  have hd':(!(jne y (q0g l))&&nodupB (q0g l))=true:=hd
  simp only [Bool.and_eq_true,Bool.not_eq_true'] at hd'
  rw [q0i] at h
  show lk ((y,j)::q0g l) β=_
  rw [q0i]
  split at h
  ·rename_i hj
   subst hj
   simp only [Option.some.injEq] at h;subst h
   rw [if_pos rfl]
  ·have:=qe1 hd'.2 h
   rw [if_neg (fun e=>by subst e;rw [qwv hd'.1] at this;cases this),this]
theorem swap_swap : ∀(l:List (Nat×Nat)),q0g (q0g l)=l
 | []=>rfl
 | p::l=>congrArg (p :: ·) (swap_swap l)
theorem qp2 {l:List (Nat×Nat)} (hd:nodupB l=true) {κ β:Nat} (h:lk (q0g l) β=some κ):lk l κ=some β:=by
 have:=qe1 (l:=q0g l) (by rw [swap_swap];exact hd) h
 rw [swap_swap] at this;exact this
def qfa {β:Type} (f:Nat->Nat->Option β):List (Nat×Nat)->Option (List (Nat×β))
 | []=>some []
 | p::l=>match f p.1 p.2,qfa f l with
  | some x,some xs=>some ((p.2,x)::xs)
  | _,_=>none
theorem qhn {β:Type} {f:Nat->Nat->Option β} : ∀{l:List (Nat×Nat)} {m:List (Nat×β)},qfa f l=some m->∀t,lk m t=match lk (q0g l) t with|some κ=>f κ t|none=>none
 | [],m,h,t=>by simp only [qfa,Option.some.injEq] at h;subst h;rfl
 | (κ,t0)::l,m,h,t=>by
  unfold qfa at h
  split at h
  case h_2=>cases h
  rename_i x xs hx hxs
  simp only [Option.some.injEq] at h;subst h
  show lk ((t0,x)::xs) t=match lk ((t0,κ)::q0g l) t with|some κ=>f κ t|none=>none
  rw [q0i,q0i]
  by_cases ht:t=t0
  ·subst ht
   rw [if_pos rfl,if_pos rfl]
   exact hx.symm
  ·rw [if_neg ht,if_neg ht]
   exact qhn hxs t
def qvp {β:Type} (f:Nat->Option β):List (Nat×Nat)->List (Nat×β)
 | []=>[]
 | p::l=>match f p.1 with
  | some x=>(p.2,x)::qvp f l
  | none=>qvp f l
theorem j0o {β:Type} {f:Nat->Option β} : ∀{l:List (Nat×Nat)},nodupB (q0g l)=true->∀κ,lk (qvp f l) κ=(lk (q0g l) κ).bind f
 | [],_,κ=>rfl
 | (t0,κ0)::l,hd,κ=>by
  have hd':(!(jne κ0 (q0g l))&&nodupB (q0g l))=true:=hd
  simp only [Bool.and_eq_true,Bool.not_eq_true'] at hd'
  have ih:=j0o (f:=f) hd'.2 κ
  show lk (match f t0 with|some x=>(κ0,x)::qvp f l|none=>qvp f l) κ=(lk ((κ0,t0)::q0g l) κ).bind f
  rw [q0i]
  by_cases hk:κ=κ0
  ·subst hk
   rw [if_pos rfl]
   cases hf:f t0 with
   | some x =>
    show lk ((κ,x)::_) κ=_
    rw [q0i,if_pos rfl];exact hf.symm
   | none =>
    show lk (qvp f l) κ=_
    rw [ih,qwv hd'.1];exact hf.symm
  ·rw [if_neg hk]
   cases hf:f t0 with
   | some x =>
    show lk ((κ0,x)::_) κ=_
    rw [q0i,if_neg hk];exact ih
   | none=>exact ih
theorem qcu {β:Type} : ∀(a b:List (Nat×β)) (i:Nat),lk (a++b) i=match lk a i with|some x=>some x|none=>lk b i
 | [],b,i=>rfl
 | (j,x)::a,b,i=>by
  show lk ((j,x)::(a++b)) i=_
  rw [q0i,q0i]
  by_cases h:i=j
  ·rw [if_pos h,if_pos h]
  ·rw [if_neg h,if_neg h];exact qcu a b i
def qz5 (mb:Nat->Option Nat):List Nat->Option (List Nat)
 | []=>some []
 | c::cs=>match mb c,qz5 mb cs with
  | some x,some xs=>some (x::xs)
  | _,_=>none
def qyk (mb:Nat->Option Nat) (mr:Nat->Nat->Option (Nat×Nat)):TC->TC
 | .box β o=>match mb β with|some κ=>.box κ o|none=>.bad
 | .row t g=>match mr t g with|some p=>.row p.1 p.2|none=>.bad
 | .wp _ _ _ _=>.bad
 | .bp _ _ _ _=>.bad
 | .mv β=>match mb β with|some κ=>.mv κ|none=>.bad
 | .fn f []=>.fn f []
 | .fn f (c::cs)=>match qz5 mb (c::cs) with|some xs=>.fn f xs|none=>.bad
 | .d ty x=>.d ty x
 | .nil=>.nil
 | .rp e o x=>.rp e o x
 | .undef=>.undef
 | .bad=>.bad
def ren1 (mb:Nat->Option Nat) (mr:Nat->Nat->Option (Nat×Nat)):TD1->TD1
 | .c x=>.c (qyk mb mr x)
 | .agg cs=>.agg (cs.map (qyk mb mr))
def jld (mb:Nat->Option Nat) (mr:Nat->Nat->Option (Nat×Nat)):TD->TD
 | .one x=>.one (ren1 mb mr x)
 | .tup xs=>.tup (xs.map (ren1 mb mr))
structure Ren (mb:Nat->Option Nat) (mr:Nat->Nat->Option (Nat×Nat)) (e:Env) (σ:St) (w:World) (e':Env) (σ':St) (w':World):Prop where
 pc : ∀b o,e.Pc b o->e'.Pc b o
 cell : ∀b o,e.Pc b o->w'.cell? ⟨b,o,none⟩=w.cell? ⟨b,o,none⟩
 bx : ∀β κ,mb β=some κ->(σ.box β).isSome=true->(σ'.box κ).isSome=true/\e'.m κ=e.m β
 rw : ∀t g κ g',mr t g=some (κ,g')->∀r,σ.row t=some r->g<=r.gen->(∃ r',σ'.row κ=some r'/\g'<=r'.gen)/\e'.rv κ g'=e.rv t g
variable {mb:Nat->Option Nat} {mr:Nat->Nat->Option (Nat×Nat)} {e e':Env} {σ σ':St} {w w':World}
theorem Ren.fns (h:Ren mb mr e σ w e' σ' w') : ∀{cs xs:List Nat},qz5 mb cs=some xs->(∀β∈cs,(σ.box β).isSome=true)->(∀β∈xs,(σ'.box β).isSome=true)/\xs.map (fun β=>Value.pointer (some ⟨e'.m β,0,none⟩))=cs.map (fun β=>Value.pointer (some ⟨e.m β,0,none⟩))
 | [],xs,hx,_=>by
  simp only [qz5,Option.some.injEq] at hx;subst hx
  exact ⟨fun β hβ=>(by cases hβ),rfl⟩
 | c::cs,xs,hx,hs=>by
  unfold qz5 at hx
  split at hx
  case h_2=>cases hx
  rename_i y ys hy hys
  simp only [Option.some.injEq] at hx;subst hx
  obtain ⟨h1,h2⟩:=h.fns hys (fun β hβ=>hs β (List.mem_cons_of_mem _ hβ))
  obtain ⟨h3,h4⟩:=h.bx c y hy (hs c (List.mem_cons_self ..))
  refine ⟨fun β hβ=>?_,by rw [List.map_cons,List.map_cons,h2,h4]⟩
  rcases List.mem_cons.1 hβ with rfl|hβ
  ·exact h3
  ·exact h1 β hβ
theorem Ren.crep (h:Ren mb mr e σ w e' σ' w') {v:Value} : ∀{x:TC},q2f e σ w v (eC x)->q2f e' σ' w' v (eC (qyk mb mr x))
 | .d ty x,hv=>DatRep.mono h.pc h.cell hv
 | .nil,hv=>DatRep.mono h.pc h.cell hv
 | .undef,hv=>DatRep.mono h.pc h.cell hv
 | .bad,hv=>trivial
 | .wp _ _ _ _,hv=>trivial
 | .bp _ _ _ _,hv=>trivial
 | .fn f [],hv=>DatRep.mono h.pc h.cell hv
 | .rp ee o x,hv=>by
  obtain ⟨b,q,h3,us,h4,h5⟩ : ∃ b o',v = .pointer (some ⟨b,o',none⟩)/\∃ us:List Value,q0c (DatRep e.Pc w) us ((q01 ee x).drop o)/\∀(j:Nat) (h:j<us.length),e.Pc b (o'+j)/\w.cell? ⟨b,o'+j,none⟩=some us[j]/\(us[j]).oneCell'=true:=hv
  exact ⟨b,q,h3,us,h4.mono fun _ _=>DatRep.mono h.pc h.cell,fun j hj=>⟨h.pc _ _ (h5 j hj).1,(h.cell _ _ (h5 j hj).1).trans (h5 j hj).2.1,(h5 j hj).2.2⟩⟩
 | .box β o,hv=>by
  have hv':(σ.box β).isSome=true/\v = .pointer (some ⟨e.m β,o,none⟩):=hv
  show q2f e' σ' w' v (eC (match mb β with|some κ=>.box κ o|none=>.bad))
  cases hm:mb β with
  | none=>trivial
  | some κ =>
   obtain ⟨h1,h2⟩:=h.bx β κ hm hv'.1
   exact ⟨h1,by rw [h2];exact hv'.2⟩
 | .mv β,hv=>by
  have hv':(σ.box β).isSome=true/\v = .map (some (e.m β)):=hv
  show q2f e' σ' w' v (eC (match mb β with|some κ=>.mv κ|none=>.bad))
  cases hm:mb β with
  | none=>trivial
  | some κ =>
   obtain ⟨h1,h2⟩:=h.bx β κ hm hv'.1
   exact ⟨h1,by rw [h2];exact hv'.2⟩
 | .row t g,hv=>by
  have hv':(∃ r,σ.row t=some r/\g<=r.gen)/\v=e.rv t g/\∃ a n c,v = .slice a n c:=hv
  show q2f e' σ' w' v (eC (match mr t g with|some p=>.row p.1 p.2|none=>.bad))
  cases hm:mr t g with
  | none=>trivial
  | some p =>
   obtain ⟨κ,g'⟩:=p
   obtain ⟨⟨r,h1,h2⟩,h3,h4⟩:=hv'
   obtain ⟨h5,h6⟩:=h.rw t g κ g' hm r h1 h2
   exact ⟨h5,by rw [h6];exact h3,h4⟩
 | .fn f (c::cs),hv=>by
  have hv':(∀β∈c::cs,(σ.box β).isSome=true)/\v = .func (.func f) #[] ((c::cs).map fun β=>Value.pointer (some ⟨e.m β,0,none⟩)).toArray:=hv
  show q2f e' σ' w' v (eC (match qz5 mb (c::cs) with|some xs=>.fn f xs|none=>.bad))
  cases hm:qz5 mb (c::cs) with
  | none=>trivial
  | some xs =>
   obtain ⟨h1,h2⟩:=h.fns hm hv'.1
   match xs,hm,h1,h2 with
   | [],_,_,h2=>simp at h2
   | x::xs,_,h1,h2=>exact ⟨h1,by rw [hv'.2,h2]⟩
theorem Ren.creps (h:Ren mb mr e σ w e' σ' w') : ∀{vs:List Value} {xs:List TC},q0c (q2f e σ w) vs (xs.map eC)->q0c (q2f e' σ' w') vs ((xs.map (qyk mb mr)).map eC)
 | [],[],_=>trivial
 | v::vs,x::xs,hv=>⟨h.crep hv.1,h.creps hv.2⟩
 | [],_::_,hv=>hv.elim
 | _::_,[],hv=>hv.elim
theorem jh7 {sz:Nat} {ys:List (List Dat)} : ∀{x:TC},eC x = .d (.lst sz ys)->qyk mb mr x=x
 | .d _ _,_=>rfl
 | .nil,_=>rfl
 | .undef,_=>rfl
 | .bad,_=>rfl
 | .fn _ [],_=>rfl
 | .rp _ _ _,_=>rfl
 | .box _ _,h=>by cases h
 | .row _ _,h=>by cases h
 | .wp _ _ _ _,h=>by cases h
 | .bp _ _ _ _,h=>by cases h
 | .mv _,h=>by cases h
 | .fn _ (_::_),h=>by cases h
theorem Ren.boxR (h:Ren mb mr e σ w e' σ' w') {b T:Nat} {xs:List TC} (hb:w'.heap[b]? = w.heap[b]?) (hv:qs1 e σ w b T (xs.map eC)):qs1 e' σ' w' b T ((xs.map (qyk mb mr)).map eC):=by
 rcases hv with ⟨h0,vs,h1,h2,h3⟩|⟨h0,sz,ys,h1,h2⟩
 ·exact Or.inl ⟨h0,vs,hb.trans h1,h.creps h2,h3⟩
 ·cases xs with
  | nil=>cases h1
  | cons x xs =>
   have h4:eC x = .d (.lst sz ys):=(List.cons.inj h1).1
   have h5:xs.map eC = []:=(List.cons.inj h1).2
   have h6:xs = []:=by simpa using h5
   subst h6
   refine Or.inr ⟨h0,sz,ys,?_,h2.mono h.pc h.cell hb⟩
   show [eC (qyk mb mr x)]=_
   rw [jh7 h4,h4]
theorem Ren.rep1 (h:Ren mb mr e σ w e' σ' w') {v:Value} {x:TD1} (hv:q6z e σ w v (e1 x)):q6z e' σ' w' v (e1 (ren1 mb mr x)):=by
 cases x with
 | c x=>exact h.crep hv
 | agg cs =>
  obtain ⟨vs,h1,h2⟩:=hv
  exact ⟨vs,h1,h.creps h2⟩
theorem Ren.rep1s (h:Ren mb mr e σ w e' σ' w') : ∀{vs:List Value} {xs:List TD1},q0c (q6z e σ w) vs (xs.map e1)->q0c (q6z e' σ' w') vs ((xs.map (ren1 mb mr)).map e1)
 | [],[],_=>trivial
 | v::vs,x::xs,hv=>⟨h.rep1 hv.1,h.rep1s hv.2⟩
 | [],_::_,hv=>hv.elim
 | _::_,[],hv=>hv.elim
theorem Ren.drep (h:Ren mb mr e σ w e' σ' w') {v:Value} {x:TD} (hv:q1r e σ w v (eD x)):q1r e' σ' w' v (eD (jld mb mr x)):=by
 cases x with
 | one x=>exact h.rep1 hv
 | tup xs =>
  obtain ⟨vs,h1,h2⟩:=hv
  exact ⟨vs,h1,h.rep1s h2⟩
theorem Ren.dreps (h:Ren mb mr e σ w e' σ' w') : ∀{vs:List Value} {xs:List TD},q0c (q1r e σ w) vs (xs.map eD)->q0c (q1r e' σ' w') vs ((xs.map (jld mb mr)).map eD)
 | [],[],_=>trivial
 | v::vs,x::xs,hv=>⟨h.drep hv.1,h.dreps hv.2⟩
 | [],_::_,hv=>hv.elim
 | _::_,[],hv=>hv.elim
structure FX where
 f:Nat
 args:List SD
 boxes:List (Nat×(Nat×List SC))
 rows:List (Nat×SR)
 res:SD
 oboxes:List (Nat×(Nat×List SC))
 orows:List (Nat×SR)
 F:pDs args×(pBx boxes×pRw rows)->Option (pD res×(pBx oboxes×pRw orows))
@[reducible] def shI (x:FX):SSt:=⟨[],x.boxes,x.rows⟩
@[reducible] def shO (x:FX):SSt:=⟨[],x.oboxes,x.orows⟩
def jj9 (P:Program) (G:World->Prop) (x:FX):Prop :=
 ∀p q,x.F p=some q->jic P G x.f (eS (rSt (shI x) ((),p.2))) ((rDs x.args p.1).map eD) (eS (rSt (shO x) ((),q.2))) (eD (rD x.res q.1))
structure XC where
 x:FX
 hb:List (Nat×Nat)
 hr:List (Nat×Nat)
 nb:List (Nat×Nat):=[]
 alt:Bool:=false
@[reducible] def XC.tb (x:XC):List (Nat×Nat):=x.hb++x.nb
def newB (x:XC) (σ:TSt):Bool:=nodupB x.tb&&nodupB (q0g x.tb)&&x.nb.all fun p=>Nat.blt p.2 1000000 && !(isS (lk σ.boxes p.2))
def jon:List (Nat×Nat)->Bool
 | []=>true
 | p::l=>Nat.ble 1000000 p.1&&jon l
theorem j8n : ∀{l:List (Nat×Nat)},jon l=true->∀κ β,lk l κ=some β->1000000<=κ
 | [],_,κ,β,h=>by cases h
 | (j,y)::l,hb,κ,β,h=>by
  simp only [jon,Bool.and_eq_true] at hb
  rw [q0i] at h
  split at h
  ·rename_i hj;subst hj;exact Nat.le_of_ble_eq_true hb.1
  ·exact j8n hb.2 κ β h
def jnb (x:XC) (t g:Nat):Option (Nat×Nat):=(lk (q0g x.hr) t).map fun κ=>(κ,g)
def stIn (x:XC) (σ:TSt):Option TSt :=
 (qfa (fun β _=>(lk σ.boxes β).map fun q=>(q.1,q.2.map (qyk (lk (q0g x.hb)) (jnb x)))) (q0g x.hb)).map fun bs=>⟨[],bs,qvp (lk σ.rows) (q0g x.hr)⟩
def ji3 (x:XC) (σ:TSt):Bool:=x.hr.all fun p=>isS (lk x.x.rows p.1) || !(isS (lk σ.rows p.2))
def inX (x:XC) (σ:TSt) (ys:List TD):Option (pDs x.x.args×(pBx x.x.boxes×pRw x.x.rows)) :=
 bif ji3 x σ then match stIn x σ with
 | some σc=>match cDs (shI x.x) σc x.x.args (ys.map (jld (lk (q0g x.hb)) (jnb x))),cSt (shI x.x) σc with
  | some a,some p=>some (a,p.2)
  | _,_=>none
 | none=>none
 else none
def jjr (σ:TSt) (t:Nat):Nat:=match lk σ.rows t with|some r=>r.gen+1|none=>0
def ji5 (x:XC) (σ:TSt) (κ g:Nat):Option (Nat×Nat):=match g with|0=>(lk x.hr κ).map fun t=>(t,jjr σ t)|_+1=>none
def qy3 (σ σ1:TSt) (κ t:Nat):Option TRow:=match lk σ1.rows κ with
 | some r1=>match lk σ.rows t with
  | some r=>if width r1.e=width r.e then some { r1 with gen:=jjr σ t } else none
  | none=>some { r1 with gen:=jjr σ t }
 | none=>none
def jk8 {α:Type} (x:XC) (σ:TSt) (q:pD x.x.res×(pBx x.x.oboxes×pRw x.x.orows)) (k:TSt->TD->Option α):Option α :=
 match qfa (fun κ _=>(lk (rSt (shO x.x) ((),q.2)).boxes κ).map fun z=>(z.1,z.2.map (qyk (lk x.tb) (ji5 x σ)))) x.tb,qfa (qy3 σ (rSt (shO x.x) ((),q.2))) x.hr with
 | some bs,some rs=>bif nodupB x.hb&&nodupB (q0g x.hb)&&nodupB x.hr&&nodupB (q0g x.hr)&&jon x.hb&&newB x σ then k ⟨σ.slots,bs++σ.boxes,rs++σ.rows⟩ (jld (lk x.tb) (ji5 x σ) (rD x.x.res q.1)) else none
 | _,_=>none
theorem qxj (σ:TSt) (t:Nat):jjr σ t=qs3 (eS σ) t:=by
 unfold jjr qs3
 show _=match (lk σ.rows t).map eR with|some r=>r.gen+1|none=>0
 cases lk σ.rows t<;>rfl
theorem jgd {F:Fr} {σ:TSt} {e:Env} {w:World} (hs:σ.slots = []) (h:Hp F (eS σ) e w):R F (eS σ) e { tmps:=Array.replicate F.n undef,defers:=[] } w :=
 ⟨rfl,by simp,fun i=>by
  show q1r e (eS σ) w _ (match lk σ.slots i with|some x=>eD x|none=>.one (.c .bad))
  rw [hs];trivial,h⟩
theorem jhw {P:Program} {F:Fr} {x:XC} (hx:jj9 P F.G x.x) {α:Type} {r:α} {σ:TSt} {ys:List TD} {k:TSt->TD->Option α} {p:pDs x.x.args×(pBx x.x.boxes×pRw x.x.rows)} {q:pD x.x.res×(pBx x.x.oboxes×pRw x.x.orows)}
  (hp:inX x σ ys=some p) (hq:x.x.F p=some q) (h:jk8 x σ q k=some r) : ∃ σ' d,k σ' d=some r/\σ'.slots=σ.slots/\∀e w (vs:Array Value),Hp F (eS σ) e w->q0c (q1r e (eS σ) w) vs.toList (ys.map eD) ->
   Calls P x.x.f vs w fun en w'=>∃ v e',en = .returned v/\Fwd e (eS σ) w e' (eS σ') w'/\Hp F (eS σ') e' w'/\q1r e' (eS σ') w' v (eD d):=by
 unfold jk8 at h
 split at h
 case h_2=>cases h
 rename_i bs rs hbs hrs
 cases hck:(nodupB x.hb&&nodupB (q0g x.hb)&&nodupB x.hr&&nodupB (q0g x.hr)&&jon x.hb&&newB x σ) with
 | false=>rw [hck] at h;cases h
 | true =>
 rw [hck] at h
 replace h:k ⟨σ.slots,bs++σ.boxes,rs++σ.rows⟩ (jld (lk x.tb) (ji5 x σ) (rD x.x.res q.1))=some r:=h
 rw [Bool.and_eq_true] at hck
 obtain ⟨hck,hnw⟩:=hck
 simp only [Bool.and_eq_true] at hck
 obtain ⟨⟨⟨⟨n1,n2⟩,n3⟩,n4⟩,n5⟩:=hck
 unfold newB at hnw
 simp only [Bool.and_eq_true,List.all_eq_true] at hnw
 obtain ⟨⟨m1,m2⟩,m3⟩:=hnw
 refine ⟨_,_,h,rfl,fun e w vs hh hv=>?_⟩
 unfold inX at hp
 cases hfr0:ji3 x σ with
 | false=>rw [hfr0] at hp;cases hp
 | true =>
 rw [hfr0] at hp
 simp only [cond_true] at hp
 split at hp
 case h_2=>cases hp
 rename_i σc hσc
 split at hp
 case h_2=>cases hp
 rename_i a p' ha hpp
 simp only [Option.some.injEq] at hp
 subst hp
 obtain ⟨bs0,hbs0,rfl⟩:=Option.map_eq_some_iff.1 hσc
 have hfb : ∀κ β,lk x.hb κ=some β->lk (q0g x.hb) β=some κ:=fun κ β=>qe1 n2
 have hib : ∀β κ,lk (q0g x.hb) β=some κ->lk x.hb κ=some β:=fun β κ=>qp2 n1
 have hfr : ∀κ t,lk x.hr κ=some t->lk (q0g x.hr) t=some κ:=fun κ β=>qe1 n4
 have hir : ∀t κ,lk (q0g x.hr) t=some κ->lk x.hr κ=some t:=fun β κ=>qp2 n3
 have hge:=j8n n5
 let σc:TSt:=⟨[],bs0,qvp (lk σ.rows) (q0g x.hr)⟩
 have cbx : ∀κ,lk bs0 κ=match lk x.hb κ with|some β=>(lk σ.boxes β).map fun q=>(q.1,q.2.map (qyk (lk (q0g x.hb)) (jnb x)))|none=>none:=fun κ=>by
  have:=qhn hbs0 κ
  rw [swap_swap] at this;exact this
 have crw : ∀κ,lk σc.rows κ=(lk x.hr κ).bind (lk σ.rows):=fun κ=>by
  have:=j0o (f:=lk σ.rows) (l:=q0g x.hr) (by rw [swap_swap];exact n3) κ
  rw [swap_swap] at this;exact this
 have hren:Ren (lk (q0g x.hb)) (jnb x) e (eS σ) w (jj1 e (lk x.hb) (lk x.hr)) (eS σc) w:=by
  refine ⟨fun _ _ h=>h,fun _ _ _=>rfl,fun β κ hm hs=>?_,fun t g κ g' hm r hr hg=>?_⟩
  ·have hb:=hib β κ hm
   refine ⟨?_,qfz hb⟩
   obtain ⟨z,hz⟩:=Option.isSome_iff_exists.1 hs
   obtain ⟨z',hz',_⟩:=Option.map_eq_some_iff.1 (show (lk σ.boxes β).map eB=some z from hz)
   show ((lk bs0 κ).map eB).isSome=true
   rw [cbx,hb]
   simp only [hz']
   rfl
  ·obtain ⟨κ',h1,h2⟩:=Option.map_eq_some_iff.1 (show (lk (q0g x.hr) t).map (fun κ=>(κ,g))=some (κ,g') from hm)
   simp only [Prod.mk.injEq] at h2
   obtain ⟨rfl,rfl⟩:=h2
   have hb:=hir t κ' h1
   refine ⟨⟨r,?_,hg⟩,qa3 hb⟩
   show (lk σc.rows κ').map eR=some r
   rw [crw,hb];exact hr
 have hin:Hp (frX F (eS σ) e w (lk x.hb) (lk x.hr) hge) (eS σc) (jj1 e (lk x.hb) (lk x.hr)) w:=by
  refine hp_in hh hge hfb hfr (fun κ T cs' hx'=>?_) (fun κ r hr=>?_)
  ·obtain ⟨z,hz,hze⟩:=Option.map_eq_some_iff.1 (show (lk bs0 κ).map eB=some (T,cs') from hx')
   rw [cbx] at hz
   split at hz
   case h_2=>cases hz
   rename_i β hβ
   obtain ⟨y,hy,rfl⟩:=Option.map_eq_some_iff.1 hz
   simp only [eB,Prod.mk.injEq] at hze
   obtain ⟨rfl,rfl⟩:=hze
   exact ⟨β,y.2.map eC,hβ,q4o hy,fun hB=>hren.boxR rfl hB⟩
  ·obtain ⟨z,hz,rfl⟩:=Option.map_eq_some_iff.1 (show (lk σc.rows κ).map eR=some r from hr)
   rw [crw] at hz
   obtain ⟨t,h1,h2⟩:=Option.bind_eq_some_iff.1 hz
   exact ⟨t,h1,q2x h2⟩
 have hvc:q0c (q1r (jj1 e (lk x.hb) (lk x.hr)) (eS σc) w) vs.toList ((ys.map (jld (lk (q0g x.hb)) (jnb x))).map eD):=hren.dreps hv
 have hR:=j8x (sh:=shI x.x) hpp (jgd (σ:=σc) rfl hin)
 have hvr:q0c (q1r (jn6 σc (jj1 e (lk x.hb) (lk x.hr))) (eS (rSt (shI x.x) p')) w) vs.toList ((rDs x.x.args a).map eD):=j10 (jpr hpp hin) ha (fun y _=>qzx y) hvc
 refine (hx (a,p'.2) q hq (frX F (eS σ) e w (lk x.hb) (lk x.hr) hge) rfl _ w vs hR.hp hvr).mono ?_
 rintro en w' ⟨v,e1,rfl,h1,hd⟩
 refine ⟨v,qwr (eS σ) e e1 (lk (q0g x.tb)) (lk (q0g x.hr)),rfl,?_⟩
 have hft : ∀κ β,lk x.tb κ=some β->lk (q0g x.tb) β=some κ:=fun κ β=>qe1 m2
 have hit : ∀β κ,lk (q0g x.tb) β=some κ->lk x.tb κ=some β:=fun β κ=>qp2 m1
 have swt : ∀β,lk (q0g x.tb) β=match lk (q0g x.hb) β with|some κ=>some κ|none=>lk (q0g x.nb) β:=fun β=>by
  rw [show q0g x.tb=q0g x.hb++q0g x.nb from List.map_append ..];rw [qcu];cases lk (q0g x.hb) β<;>rfl
 let σ1:TSt:=rSt (shO x.x) ((),q.2)
 let σ':TSt:=⟨σ.slots,bs++σ.boxes,rs++σ.rows⟩
 have obx : ∀β,lk bs β=match lk (q0g x.tb) β with|some κ=>(lk σ1.boxes κ).map fun z=>(z.1,z.2.map (qyk (lk x.tb) (ji5 x σ)))|none=>none:=qhn hbs
 have orw : ∀t,lk rs t=match lk (q0g x.hr) t with|some κ=>qy3 σ σ1 κ t|none=>none:=qhn hrs
 have gens : ∀κ r,lk σ1.rows κ=some r->r.gen=0:=by
  have : ∀(l:List (Nat×SR)) (p:pRw l) κ r,lk (rRw l p) κ=some r->r.gen=0:=by
   intro l
   induction l with
   | nil=>intro p κ r h;cases h
   | cons y l ih =>
    intro p κ r h
    obtain ⟨p1,p2⟩:=p
    have h':lk ((y.1,(⟨0,y.2.E,y.2.wr,y.2.e,p1⟩:TRow))::rRw l p2) κ=some r:=h
    rw [q0i] at h'
    split at h'
    ·rw [<-Option.some.inj h']
    ·exact ih p2 κ r h'
  exact this _ _
 have some_bs : ∀κ β,lk (q0g x.tb) β=some κ->∃ z,lk σ1.boxes κ=some z:=fun κ β hm=>by
  have key : ∀(l:List (Nat×Nat)) (m:List (Nat×(Nat×List TC))),qfa (fun κ _=>(lk σ1.boxes κ).map fun z=>(z.1,z.2.map (qyk (lk x.tb) (ji5 x σ)))) l=some m->∀κ β,lk (q0g l) β=some κ->∃ z,lk σ1.boxes κ=some z:=by
   intro l
   induction l with
   | nil=>intro m _ κ β h;cases h
   | cons y l ih =>
    intro m hm κ β h
    unfold qfa at hm
    split at hm
    case h_2=>cases hm
    rename_i x1 xs1 hx1 hxs1
    have h':lk ((y.2,y.1)::q0g l) β=some κ:=h
    rw [q0i] at h'
    split at h'
    ·obtain rfl:=Option.some.inj h'
     obtain ⟨z,hz,_⟩:=Option.map_eq_some_iff.1 hx1
     exact ⟨z,hz⟩
    ·exact ih xs1 hxs1 κ β h'
  exact key _ _ hbs κ β hm
 have some_rs : ∀κ t,lk (q0g x.hr) t=some κ->∃ r1,qy3 σ σ1 κ t=some r1:=fun κ t hm=>by
  have key : ∀(l:List (Nat×Nat)) (m:List (Nat×TRow)),qfa (qy3 σ σ1) l=some m->∀κ β,lk (q0g l) β=some κ->∃ z,qy3 σ σ1 κ β=some z:=by
   intro l
   induction l with
   | nil=>intro m _ κ β h;cases h
   | cons y l ih =>
    intro m hm κ β h
    unfold qfa at hm
    split at hm
    case h_2=>cases hm
    rename_i x1 xs1 hx1 hxs1
    have h':lk ((y.2,y.1)::q0g l) β=some κ:=h
    rw [q0i] at h'
    split at h'
    ·rename_i hj
     subst hj
     obtain rfl:=Option.some.inj h'
     exact ⟨_,hx1⟩
    ·exact ih xs1 hxs1 κ β h'
  exact key _ _ hrs κ t hm
 have sbx : ∀β,(eS σ').box β=match lk (q0g x.tb) β with|some κ=>(lk σ1.boxes κ).map (fun z=>(z.1,(z.2.map (qyk (lk x.tb) (ji5 x σ))).map eC))|none=>(eS σ).box β:=fun β=>by
  show (lk (bs++σ.boxes) β).map eB=_
  rw [qcu,obx]
  cases hm:lk (q0g x.tb) β with
  | none=>rfl
  | some κ =>
   obtain ⟨z,hz⟩:=some_bs κ β hm
   simp only [hz,Option.map_some]
   rfl
 have srw : ∀t,(eS σ').row t=match lk (q0g x.hr) t with|some κ=>(qy3 σ σ1 κ t).map eR|none=>(eS σ).row t:=fun t=>by
  show (lk (rs++σ.rows) t).map eR=_
  rw [qcu,orw]
  cases hm:lk (q0g x.hr) t with
  | none=>rfl
  | some κ =>
   obtain ⟨z,hz⟩:=some_rs κ t hm
   simp only [hz]
 have hB:Back (eS σ) (eS σ1) (eS σ') (lk (q0g x.hb)) (lk (q0g x.tb)) (lk (q0g x.hr)):=by
  refine ⟨fun β hm=>by rw [sbx,hm],fun β κ hm=>?_,fun β κ hm=>by rw [swt,hm],fun β κ hm hn=>?_,fun β β' κ h1 h2=>?_,fun β κ hm=>?_,fun t hm=>by rw [srw,hm],fun t κ hm=>?_,fun κ r hr=>?_⟩
  ·have hb:=hib β κ hm
   have key : ∀(l:List (Nat×Nat)) (m:List (Nat×(Nat×List TC))),qfa (fun β _=>(lk σ.boxes β).map fun q=>(q.1,q.2.map (qyk (lk (q0g x.hb)) (jnb x)))) l=some m->∀κ β,lk (q0g l) κ=some β->∃ z,lk σ.boxes β=some z:=by
    intro l
    induction l with
    | nil=>intro m _ κ β h;cases h
    | cons y l ih =>
     intro m hm κ β h
     unfold qfa at hm
     split at hm
     case h_2=>cases hm
     rename_i x1 xs1 hx1 hxs1
     have h':lk ((y.2,y.1)::q0g l) κ=some β:=h
     rw [q0i] at h'
     split at h'
     ·obtain rfl:=Option.some.inj h'
      obtain ⟨z,hz,_⟩:=Option.map_eq_some_iff.1 hx1
      exact ⟨z,hz⟩
     ·exact ih xs1 hxs1 κ β h'
   obtain ⟨z,hz⟩:=key _ _ hbs0 κ β (by rw [swap_swap];exact hb)
   rw [q4o hz];rfl
  ·rw [swt,hn] at hm
   have hmem:(κ,β)∈x.nb:=by
    have key : ∀(l:List (Nat×Nat)),lk (q0g l) β=some κ->(κ,β)∈l:=by
     intro l
     induction l with
     | nil=>intro h;cases h
     | cons y l ih =>
      intro h
      have h':lk ((y.2,y.1)::q0g l) β=some κ:=h
      rw [q0i] at h'
      split at h'
      ·rename_i hj
       subst hj
       obtain rfl:=Option.some.inj h'
       exact List.mem_cons_self ..
      ·exact List.mem_cons_of_mem _ (ih h')
    exact key _ hm
   have h3:=m3 _ hmem
   refine ⟨?_,by simpa using h3.1⟩
   show (lk σ.boxes β).map eB=none
   cases hl:lk σ.boxes β with
   | none=>rfl
   | some z=>have:=h3.2;rw [hl] at this;cases this
  ·have:=hit β κ h1
   rw [hit β' κ h2] at this
   exact (Option.some.inj this).symm
  ·obtain ⟨z,hz⟩:=some_bs κ β hm
   exact ⟨z.1,z.2.map eC,(z.2.map (qyk (lk x.tb) (ji5 x σ))).map eC,q4o hz,by rw [sbx,hm];simp only [hz,Option.map_some]⟩
  ·obtain ⟨r1,h2⟩:=some_rs κ t hm
   have h2':=h2
   unfold qy3 at h2
   split at h2
   case h_2=>cases h2
   rename_i r0 hr0
   have fin : { r0 with gen:=jjr σ t } = r1->(∀r,(eS σ).row t=some r->width r0.e=r.sz)->∃ r1,(eS σ1).row κ=some r1/\(eS σ').row t=some { r1 with gen:=qs3 (eS σ) t }/\∀r,(eS σ).row t=some r->r1.sz=r.sz:=fun he hw=>by
    refine ⟨eR r0,q2x hr0,?_,hw⟩
    rw [srw,hm]
    simp only [h2',Option.map_some]
    rw [<-he,<-qxj];rfl
   split at h2
   ·rename_i r hr
    split at h2
    case isFalse=>cases h2
    rename_i hw
    refine fin (Option.some.inj h2) (fun r' hr'=>?_)
    rw [q2x hr] at hr'
    rw [<-Option.some.inj hr'];exact hw
   ·rename_i hr
    refine fin (Option.some.inj h2) (fun r' hr'=>?_)
    rw [q8e hr] at hr';cases hr'
  ·obtain ⟨z,hz,rfl⟩:=Option.map_eq_some_iff.1 (show (lk σ1.rows κ).map eR=some r from hr)
   exact gens κ z hz
 have hbak:Ren (lk x.tb) (ji5 x σ) e1 (eS σ1) w' (qwr (eS σ) e e1 (lk (q0g x.tb)) (lk (q0g x.hr))) (eS σ') w':=by
  refine ⟨fun _ _ h=>h,fun _ _ _=>rfl,fun κ β hm hs=>?_,fun κ g t g' hm r hr hg=>?_⟩
  ·have hi:=hft κ β hm
   obtain ⟨T,c1,c2,_,h3⟩:=hB.new β κ hi
   refine ⟨by rw [h3];rfl,?_⟩
   exact qua hi
  ·cases g with
   | succ g=>cases hm
   | zero =>
    obtain ⟨t',h2,h3⟩:=Option.map_eq_some_iff.1 (show (lk x.hr κ).map (fun t=>(t,jjr σ t))=some (t,g') from hm)
    simp only [Prod.mk.injEq] at h3
    obtain ⟨rfl,rfl⟩:=h3
    have hi:=hfr κ t' h2
    obtain ⟨r1,h4,h5,_⟩:=hB.rnew t' κ hi
    refine ⟨⟨_,h5,by rw [qxj];exact Nat.le_refl _⟩,?_⟩
    rw [qxj];exact j24 hi
 obtain ⟨hf,hh2⟩:=jqb hge hh hB h1 hfb hib hfr hir (fun β κ T cs1 cs' hm hs1 hs' hBx=>by
  obtain ⟨z,hz⟩:=some_bs κ β hm
  rw [sbx,hm] at hs'
  rw [q4o (σ:=σ1) hz] at hs1
  simp only [Option.some.injEq,Prod.mk.injEq] at hs1
  obtain ⟨rfl,rfl⟩:=hs1
  simp only [hz,Option.map_some,Option.some.injEq,Prod.mk.injEq] at hs'
  obtain ⟨_,rfl⟩:=hs'
  exact hbak.boxR rfl hBx)
 exact ⟨hf,hh2,hbak.drep hd⟩
end Go.Proofs.YtapfankgdkdkgaaGreatDoor.AM
