
import Derived.Test.YthpgnliicpejoaaGreatDoorVt2
import Derived.ProofKit
import Derived.OpenShut
import Derived.ShutString
import Derived.ChangeOld
import Derived.SliceStrings
import Derived.Deep.Slices
namespace Go.Proofs.YthpgnliicpejoaaGreatDoor.AM
open Go.RowKit
set_option linter.unusedVariables false
set_option linter.unusedSimpArgs false
variable {F:Fr} {σ σ':St} {e:Env} {a:Act} {w:World} {P:Program}
def j2r:C->List Loc
 | .box β _=>[.b β]
 | .bsl β _=>[.b β]
 | .row t _=>[.r t]
 | .wp t _ _ _=>[.r t]
 | _=>[]
def qoo:List C->List Loc
 | []=>[]
 | c::cs=>j2r c++qoo cs
def jbw:D1->List Loc
 | .c x=>j2r x
 | .agg cs=>qoo cs
def q6r:D->List Loc
 | .one x=>jbw x
 | .tup _=>[]
def AgD (d:D) (bx bx':Nat->Option (Nat×List C)) (rw rw':Nat->Option Row):Prop:=(∀β,Loc.b β∈q6r d->bx' β=bx β)/\(∀t,Loc.r t∈q6r d->rw' t=rw t)
section
variable {bx bx':Nat->Option (Nat×List C)} {rw rw':Nat->Option Row}
theorem qzc {t:TypeId} {p:D} (h:AgD p bx bx' rw rw'):q8k P t p bx' rw'=q8k P t p bx rw:=by
 unfold q8k
 split
 ·rw [h.1 _ (by simp [q6r,jbw,j2r])]
 ·rfl
 ·rw [h.2 _ (by simp [q6r,jbw,j2r])]
 ·rfl
theorem qrc {t:TypeId} {p x:D} (h:AgD p bx bx' rw rw'):q41 P t p x bx' rw'=q41 P t p x bx rw:=by
 unfold q41
 split
 ·split
  ·split
   ·split
    ·rw [h.1 _ (by simp [q6r,jbw,j2r])]
    ·rw [h.2 _ (by simp [q6r,jbw,j2r])]
    ·rfl
   ·rfl
  ·rfl
 ·rfl
theorem qh3 {t:TypeId} {x i:D} (h:AgD x bx bx' rw rw'):q1p P t x i rw'=q1p P t x i rw:=by
 unfold q1p
 split
 ·split
  ·rfl
  ·rw [h.2 _ (by simp [q6r,jbw,j2r])]
  ·rfl
 ·rfl
 ·rfl
theorem j26 {t:TypeId} {x:D} (h:AgD x bx bx' rw rw'):qgs P t x rw'=qgs P t x rw:=by
 unfold qgs
 split
 ·rfl
 ·rfl
 ·rfl
 ·rw [h.2 _ (by simp [q6r,jbw,j2r])]
 ·rfl
theorem qlj {m:Nat} {x:D} (h:AgD x bx bx' rw rw'):qio m x rw'=qio m x rw:=by
 unfold qio
 split
 ·rfl
 ·rfl
 ·rw [h.2 _ (by simp [q6r,jbw,j2r])]
 ·rfl
theorem qog {dst:Option Nat} {t:TypeId} {s x:D} (hs:AgD s bx bx' rw rw') (hx:AgD x bx bx' rw rw') (hd : ∀i,dst=some i->rw' i=rw i):q31 P dst t s x rw'=q31 P dst t s x rw:=by
 unfold q31
 simp only [qlj hx]
 split
 ·split
  ·split
   ·split
    ·rw [hs.2 _ (by simp [q6r,jbw,j2r])]
    ·split
     ·rw [hd _ rfl]
     ·rfl
    ·rfl
   ·rfl
  ·rfl
 ·rfl
theorem qeh {dst:Option Nat} {t:TypeId} {n:Nat} {ps:Array (Nat×Operand)} {ρ:Operand->D} (hd : ∀i,dst=some i->rw' i=rw i):q1x P dst t n ps ρ rw'=q1x P dst t n ps ρ rw:=by
 unfold q1x
 split
 ·rw [hd _ rfl]
 ·rfl
theorem qum {dst:Option Nat} {t:TypeId} (hd : ∀i,dst=some i->bx' i=bx i):q7p P dst t bx'=q7p P dst t bx:=by
 unfold q7p
 split
 ·rw [hd _ rfl]
 ·rfl
theorem j2u {dst:Option Nat} {t:TypeId} {x:D} (hd : ∀i,dst=some i->bx' i=bx i):qmw dst t x bx'=qmw dst t x bx:=by
 unfold qmw
 split
 ·rw [hd _ rfl]
 ·rfl
theorem qil {t:TypeId} {x:D} {lo hi:Option D} (h:AgD x bx bx' rw rw'):q30 P t x lo hi rw'=q30 P t x lo hi rw:=by
 unfold q30
 split
 ·rw [h.2 _ (by simp [q6r,jbw,j2r])]
 ·rfl
theorem qn9 {dst:Option Nat} {s d:TypeId} {x:D} (h:AgD x bx bx' rw rw') (hd : ∀i,dst=some i->rw' i=rw i):q37 P dst s d x rw'=q37 P dst s d x rw:=by
 unfold q37
 simp only [qlj h]
 split
 ·rfl
 ·split
  ·rw [hd _ rfl]
  ·rfl
 ·rfl
theorem qvj {dst:Option Nat} {t:TypeId} {x:D} (hd : ∀i,dst=some i->rw' i=rw i):qes P dst t x rw'=qes P dst t x rw:=by
 unfold qes
 split
 ·rw [hd _ rfl]
 ·rfl
theorem qa5 {ρ ρ':Operand->D} : ∀{ps:List (Nat×Operand)},(∀p∈ps,ρ' p.2=ρ p.2)->q8o ρ' ps=q8o ρ ps
 | [],_=>rfl
 | (i,x)::ps,h=>by
  unfold q8o
  rw [h _ (List.mem_cons_self ..),qa5 (fun p hp=>h p (List.mem_cons_of_mem _ hp))]
theorem j00 {o:Oper} {ρ ρ':Operand->D} (hρ : ∀x∈o.op.operands.toList,ρ' x=ρ x) (hl : ∀x∈o.op.operands.toList,AgD (ρ x) bx bx' rw rw') (hb : ∀i,o.dst=some i->bx' i=bx i) (hr : ∀i,o.dst=some i->rw' i=rw i) :
  qft P o ρ' bx' rw'=qft P o ρ bx rw:=by
 unfold qft
 generalize hop:o.op=op at hρ hl ⊢
 split<;>simp only [Op.operands,Call.operands] at hρ hl
 ·rw [hρ _ (by simp)]
 ·rw [hρ _ (by simp)]
 ·rw [hρ _ (by simp),hρ _ (by simp),hρ _ (by simp)]
 ·exact qum hb
 ·rw [hρ _ (by simp)];exact j2u hb
 ·rw [hρ _ (by simp)];exact qzc (hl _ (by simp))
 ·rw [hρ _ (by simp),hρ _ (by simp)];exact qrc (hl _ (by simp))
 ·rw [hρ _ (by simp)]
 ·rw [hρ _ (by simp)]
 ·rw [hρ _ (by simp),hρ _ (by simp)]
 ·rw [hρ _ (by simp),hρ _ (by simp)];exact qh3 (bx:=bx) (bx':=bx') (hl _ (by simp))
 ·rw [hρ _ (by simp)]
 ·unfold qcp
  rw [qa5 (ρ:=ρ) (ρ':=ρ') fun p hp=>hρ p.2 (by simpa using ⟨p.1,Array.mem_toList_iff.1 hp⟩)]
 ·rw [qeh hr]
  unfold q1x
  rw [qa5 (ρ:=ρ) (ρ':=ρ') fun p hp=>hρ p.2 (by simpa using ⟨p.1,Array.mem_toList_iff.1 hp⟩)]
 ·rw [hρ _ (by simp),hρ _ (by simp)]
 ·rw [hρ _ (by simp)]
 ·rw [hρ _ (by simp)]
 ·rw [hρ _ (by simp),qn9 (bx:=bx) (bx':=bx') (hl _ (by simp)) hr]
 ·rename_i t x lo hi
  rw [hρ x (by simp)]
  have e1:lo.map ρ'=lo.map ρ:=by cases lo<;>simp;exact hρ _ (by simp)
  have e2:hi.map ρ'=hi.map ρ:=by cases hi<;>simp;exact hρ _ (by simp)
  rw [e1,e2,qil (bx:=bx) (bx':=bx') (hl _ (by simp))]
 ·rw [hρ _ (by simp)]
 ·rw [hρ _ (by simp)];exact j26 (bx:=bx) (bx':=bx') (hl _ (by simp))
 ·split
  ·rw [hρ _ (by simp),hρ _ (by simp)];exact qog (bx:=bx) (bx':=bx') (hl _ (by simp)) (hl _ (by simp)) hr
  ·rfl
 ·rw [hρ _ (by simp),qvj hr]
 ·rw [hρ _ (by simp),hρ _ (by simp)]
 ·rw [hρ _ (by simp),hρ _ (by simp)]
 ·rfl
end
def qcx (σ:St):List Operand->List Loc
 | []=>[]
 | x::xs=>q6r (opnd σ x)++qcx σ xs
def qg1:List Operand->List Loc
 | []=>[]
 | .tmp t::xs=>.s t::qg1 xs
 | _::xs=>qg1 xs
def qja (ops:Array Oper) (o:Oper):List Loc:=match o.guard with
 | some (g,_)=>match (ops[g]?).bind (·.dst) with
  | some t=>[.s t]
  | none=>[]
 | none=>[]
def qrn (o:Oper):List Loc:=match o.dst with
 | some i=>[.b i,.r i]
 | none=>[]
def q3c (ops:Array Oper) (σ:St) (o:Oper):List Loc:=qja ops o++(qg1 o.op.operands.toList++(qcx σ o.op.operands.toList++qrn o))
theorem qjq {t:Nat} : ∀{xs:List Operand},Operand.tmp t∈xs->Loc.s t∈qg1 xs
 | x::xs,h=>by
  rcases List.mem_cons.1 h with rfl|h
  ·exact List.mem_cons_self ..
  ·have ih:=qjq h
   cases x with
   | tmp t'=>exact List.mem_cons_of_mem _ ih
   | const v=>exact ih
   | global g=>exact ih
   | func f=>exact ih
theorem qo5 {x:Operand} {l:Loc} : ∀{xs:List Operand},x∈xs->l∈q6r (opnd σ x)->l∈qcx σ xs
 | y::xs,h,hl=>by
  rw [qcx,List.mem_append]
  rcases List.mem_cons.1 h with rfl|h
  ·exact Or.inl hl
  ·exact Or.inr (qo5 h hl)
variable {ops:Array Oper} {o:Oper} {j:Nat} {rest:List Oper} {pre:List En} {K:St->Prop}
theorem qaz (h : ∀l∈q3c ops σ o,σ'.get l=σ.get l) : ∀x∈o.op.operands.toList,opnd σ' x=opnd σ x:=by
 intro x hx
 cases x with
 | tmp t =>
  have:=h (.s t) (by unfold q3c;simp only [List.mem_append];exact Or.inr (Or.inl (qjq hx)))
  simp only [St.get,LV.s.injEq] at this
  exact this
 | _=>rfl
theorem qat (h : ∀l∈q3c ops σ o,σ'.get l=σ.get l) : ∀x∈o.op.operands.toList,AgD (opnd σ x) σ.box σ'.box σ.row σ'.row:=by
 intro x hx
 have hm : ∀l,l∈q6r (opnd σ x)->l∈q3c ops σ o:=fun l hl=>by
  unfold q3c;simp only [List.mem_append];exact Or.inr (Or.inr (Or.inl (qo5 hx hl)))
 exact ⟨fun β hβ=>by have:=h _ (hm _ hβ);simpa [St.get] using this,fun t ht=>by have:=h _ (hm _ ht);simpa [St.get] using this⟩
theorem qwb (h : ∀l∈q3c ops σ o,σ'.get l=σ.get l):(∀i,o.dst=some i->σ'.box i=σ.box i)/\(∀i,o.dst=some i->σ'.row i=σ.row i):=by
 have hm : ∀i,o.dst=some i->Loc.b i∈q3c ops σ o/\Loc.r i∈q3c ops σ o:=fun i hi=>by
  unfold q3c qrn;rw [hi];simp
 exact ⟨fun i hi=>by have:=h _ (hm i hi).1;simpa [St.get] using this,fun i hi=>by have:=h _ (hm i hi).2;simpa [St.get] using this⟩
theorem qb7 (h : ∀l∈q3c ops σ o,σ'.get l=σ.get l):q4n ops σ' o=q4n ops σ o:=by
 unfold q4n
 cases hg:o.guard with
 | none=>rfl
 | some p =>
  obtain ⟨g,want⟩:=p
  simp only
  cases ht:(ops[g]?).bind (·.dst) with
  | none=>rfl
  | some t =>
   have:=h (.s t) (by unfold q3c qja;rw [hg];simp [ht])
   have h2:σ'.slot t=σ.slot t:=by simpa [St.get] using this
   simp only [h2]
theorem jcz (hn:q8s F.n ops=true) (ho:ops[j]? = some o) (hw:q4n ops σ o=some true) {res:Res} (he:qft P o (opnd σ) σ.box σ.row=some res) (hc:res.cond):jea P F ops j ⟨q3c ops σ o,o.dst,res⟩ σ:=by
 intro σ' h e a w hR Qx K hK
 have hd : ∀k,o.dst=some k->k<F.n:=fun k hk=>q2j hn (by rw [ho];exact hk)
 have he':qft P o (opnd σ') σ'.box σ'.row=some res:=by
  rw [j00 (qaz h) (qat h) (qwb h).1 (qwb h).2];exact he
 obtain ⟨v,w',e',h1,h2,h3,h4⟩:=j4p he' e a w hR hc
 have hR':R F ((σ'.app res).put o.dst res.val) e' (a.put o.dst v) w':=hR.next h2 h3 rfl o.dst hd v res.val h4
 have hnext:=hK _ _ e' hR'
 unfold wpOp
 simp only [ho]
 rw [q69 hR ((qb7 h).trans hw) (fun g _ t ht=>q2j hn ht),if_pos rfl]
 refine .inl ?_
 unfold Oper.wp
 rcases h1 with h1|⟨h1,rfl⟩
 ·rw [h1];exact hnext
 ·rw [h1];exact hnext
theorem jh7 (hn:q8s F.n ops=true) (ho:ops[j]? = some o) (hw:q4n ops σ o=some false):jea P F ops j ⟨q3c ops σ o,o.dst,{ cond:=True,val:=q21 undef }⟩ σ:=by
 intro σ' h e a w hR Qx K hK
 have hd : ∀k,o.dst=some k->k<F.n:=fun k hk=>q2j hn (by rw [ho];exact hk)
 have hR':R F (σ'.put o.dst (q21 undef)) e (a.put o.dst undef) w:=hR.pure hd (q0o _)
 unfold wpOp
 simp only [ho]
 rw [q69 hR ((qb7 h).trans hw) (fun g _ t ht=>q2j hn ht),if_neg (by decide)]
 exact hK _ _ e hR'
theorem qm0 {rw rw':Nat->Option Row} {c:C} (h : ∀t,Loc.r t∈j2r c->rw' t=rw t):qvq rw' c=qvq rw c:=by
 unfold qvq
 split
 ·rfl
 ·rfl
 ·rw [h _ (by simp [j2r])]
 ·rfl
theorem qi0 {rw rw':Nat->Option Row} : ∀{cs:List C},(∀t,Loc.r t∈qoo cs->rw' t=rw t)->qdd rw' cs=qdd rw cs
 | [],_=>rfl
 | c::cs,h=>by
  unfold qdd
  rw [qm0 (fun t ht=>h t (by rw [qoo,List.mem_append];exact Or.inl ht)),qi0 (fun t ht=>h t (by rw [qoo,List.mem_append];exact Or.inr ht))]
theorem qzo {rw rw':Nat->Option Row} {d:D} (h : ∀t,Loc.r t∈q6r d->rw' t=rw t):qzp rw' d=qzp rw d:=by
 cases d with
 | one x =>
  cases x with
  | c x=>simp only [qzp,qzs,qm0 (c:=x) h]
  | agg cs=>simp only [qzp,qzs,qi0 (cs:=cs) h]
 | tup xs=>rfl
theorem qia {rw rw':Nat->Option Row} : ∀{ds:List D},(∀d∈ds,∀t,Loc.r t∈q6r d->rw' t=rw t)->q8l rw' ds=q8l rw ds
 | [],_=>rfl
 | d::ds,h=>by
  unfold q8l
  rw [qzo (h d (List.mem_cons_self ..)),qia (fun d' hd'=>h d' (List.mem_cons_of_mem _ hd'))]
theorem jo1 (hn:q8s F.n ops=true) (ho:ops[j]? = some o) (hw:q4n ops σ o=some true) {x:Operand} {xs:Array Operand} {ts:Array TypeId} (hop:o.op = .call { callee:=.value x,args:=xs,argTypes:=ts })
  {f:FuncId} (hf:callee σ x=some f) (hb:q5l P f=true) {ds:List D} (hds:q8l σ.row (xs.toList.map (opnd σ))=some ds) {d:D} (hc:q15 P F.G f ds d):jea P F ops j ⟨q3c ops σ o,o.dst,{ cond:=True,val:=d }⟩ σ:=by
 intro σ' h e a w hR Qx K hK
 have hd : ∀k,o.dst=some k->k<F.n:=fun k hk=>q2j hn (by rw [ho];exact hk)
 have hops:=qaz h
 have hheap:=qat h
 rw [hop] at hops hheap
 simp only [Op.operands,Call.operands] at hops hheap
 have hx:opnd σ' x=opnd σ x:=hops x (by simp)
 have hxs:xs.toList.map (opnd σ')=xs.toList.map (opnd σ):=List.map_congr_left fun y hy=>hops y (by simp;exact Or.inr (by simpa using hy))
 have hds':q8l σ'.row (xs.toList.map (opnd σ'))=some ds:=by
  rw [hxs,qia (rw:=σ.row) (rw':=σ'.row)]
  ·exact hds
  ·intro d' hd' t ht
   obtain ⟨y,hy,rfl⟩:=List.mem_map.1 hd'
   exact (hheap y (by simp;exact Or.inr (by simpa using hy))).2 t ht
 have hf':callee σ' x=some f:=by unfold callee at *;rw [hx];exact hf
 unfold wpOp
 simp only [ho]
 rw [q69 hR ((qb7 h).trans hw) (fun g _ t ht=>q2j hn ht),if_pos rfl]
 refine .inl ?_
 unfold callee at hf'
 split at hf'
 case h_2=>cases hf'
 rename_i f' hxx
 simp only [Option.some.injEq] at hf'
 subst hf'
 have h1:=hR.opnd x
 rw [hxx] at h1
 have h2:=q0r h1
 have hrun:(execOp a.eval o).run P w = .ok (.enter f' (xs.map a.eval)) w:=by
  have:=qit hb (xs.map a.eval) w
  simp [execOp,hop,Sem.run_bind,resolve,h2,Deferred.ofValue,invoke,this]
 unfold Oper.wp
 rw [hrun]
 refine (qe7 hc hR.hp (vs:=xs.map a.eval) (by rw [Array.toList_map];exact qmu hR.hp hds' (qeg hR _))).mono ?_
 rintro en w' ⟨v,e',rfl,h3,h4,h5⟩
 exact hK _ _ e' (hR.next h3 h4 rfl o.dst hd v d h5)
def qn4 (P:Program) (F:Fr) (ops:Array Oper) (pre:List En) (rest:List Oper) (σ:St) (K:St->Prop):Prop :=
 q8s F.n ops=true->ops.toList.drop pre.length=rest->∃ post,qfi P F ops pre.length σ post/\j3y ops (pre.reverse++post)=true/\K (qi9 post σ)
theorem q6y (hok:j3y ops pre.reverse=true) (h:K σ):qn4 P F ops pre [] σ K:=fun _ _=>⟨[],trivial,by simpa using hok,h⟩
theorem qtj {en:En} (hen:q8s F.n ops=true->ops[pre.length]? = some o->jea P F ops pre.length en σ) (h:qn4 P F ops (en::pre) rest (en.app σ) K):qn4 P F ops pre (o::rest) σ K:=by
 intro hn hdrop
 have ho:ops[pre.length]? = some o:=by
  have:(ops.toList.drop pre.length)[0]? = some o:=by rw [hdrop];rfl
  rw [List.getElem?_drop,Nat.add_zero] at this
  simpa using this
 have hdrop':ops.toList.drop (en::pre).length=rest:=by
  rw [List.length_cons,<-List.drop_drop,hdrop];rfl
 obtain ⟨post,h1,h2,h3⟩:=h hn hdrop'
 exact ⟨en::post,⟨hen hn ho,h1⟩,by simpa using h2,h3⟩
def q9g (σ:St) (rl:List Loc) (dst:Option Nat) (K1:En->St->Prop):Option Bool->Option Res->Prop
 | some true,some res=>res.cond/\K1 ⟨rl,dst,res⟩ ((σ.app res).put dst res.val)
 | some false,_=>K1 ⟨rl,dst,{ cond:=True,val:=q21 undef }⟩ (σ.put dst (q21 undef))
 | _,_=>False
theorem q45 (h : ∀K1:En->St->Prop,(∀en σ',qn4 P F ops (en::pre) rest σ' K->K1 en σ')->q9g σ (q3c ops σ o) o.dst K1 (q4n ops σ o) (qft P o (opnd σ) σ.box σ.row)):qn4 P F ops pre (o::rest) σ K:=by
 have h:=h (fun en σ'=>qn4 P F ops (en::pre) rest σ' K) (fun _ _ h=>h)
 unfold q9g at h
 split at h
 ·rename_i res hw he
  exact qtj (fun hn ho=>jcz hn ho hw he h.1) h.2
 ·rename_i hw
  refine qtj (en:=⟨q3c ops σ o,o.dst,{ cond:=True,val:=q21 undef }⟩) (fun hn ho=>jh7 hn ho hw) ?_
  have e1:(⟨q3c ops σ o,o.dst,{ cond:=True,val:=q21 undef }⟩:En).app σ=σ.put o.dst (q21 undef):=rfl
  rw [e1];exact h
 ·exact h.elim
theorem j80 (hw:q4n ops σ o=some true) {x:Operand} {xs:Array Operand} {ts:Array TypeId} (hop:o.op = .call { callee:=.value x,args:=xs,argTypes:=ts })
  {f:FuncId} (hf:callee σ x=some f) (hb:q5l P f=true) {ds:List D} (hds:q8l σ.row (xs.toList.map (opnd σ))=some ds) {d:D} (hc:q15 P F.G f ds d)
  (h : ∀K1:En->St->Prop,(∀en σ',qn4 P F ops (en::pre) rest σ' K->K1 en σ')->K1 ⟨q3c ops σ o,o.dst,{ cond:=True,val:=d }⟩ (σ.put o.dst d)):qn4 P F ops pre (o::rest) σ K:=by
 have h:=h (fun en σ'=>qn4 P F ops (en::pre) rest σ' K) (fun _ _ h=>h)
 refine qtj (fun hn ho=>jo1 hn ho hw hop hf hb hds hc) ?_
 have e1:(⟨q3c ops σ o,o.dst,{ cond:=True,val:=d }⟩:En).app σ=σ.put o.dst d:=rfl
 rw [e1];exact h
theorem q2n {id:Nat} {l:List Oper} {y:Code} {Q:Exit->St->Prop} (hm:P.follows .mixedOrders=true) (hn:q8s F.n l.toArray=true) (h:qn4 P F l.toArray [] l σ (fun σ'=>q2b P F y σ' Q)):q2b P F (.seq (.region id l.toArray true) y) σ Q:=by
 obtain ⟨post,h1,h2,h3⟩:=h hn (by simp)
 exact q0e (qr8 hm hn post h1 (by simpa using h2) h3)
theorem q2m {id:Nat} {l:List Oper} {Q:Exit->St->Prop} (hm:P.follows .mixedOrders=true) (hn:q8s F.n l.toArray=true) (h:qn4 P F l.toArray [] l σ (Q .normal)):q2b P F (.region id l.toArray true) σ Q:=by
 obtain ⟨post,h1,h2,h3⟩:=h hn (by simp)
 exact qr8 hm hn post h1 (by simpa using h2) h3
theorem jnn (a:Array UInt8):(ByteArray.mk a).size=a.size:=rfl
attribute [push_cast] Option.pure_def Option.bind_eq_bind Option.bind_some Nat.zero_mul Nat.mul_zero Nat.one_mul Nat.mul_one Nat.zero_le Option.isSome_some Option.isSome_none jnn List.size_toArray Nat.zero_add Nat.add_zero St.of List.lookup_cons List.lookup_nil Option.getD_some Option.getD_none beq_self_eq_true clD cl1 clC List.forall_mem_cons q9g q3c qja qg1 qcx qrn q6r jbw j2r qoo Op.operands Call.operands callee List.append_nil
end Go.Proofs.YthpgnliicpejoaaGreatDoor.AM
namespace Go.Proofs.YthpgnliicpejoaaGreatDoor.AM
open Go.RowKit Go.ChangeShapes Go.WideShapes Go.ChangeAt
set_option linter.unusedVariables false
set_option linter.unusedSimpArgs false
inductive Sh where
 | int (k:IntKind)
 | bool
 | str
 | lst (e:List Sh)
mutual
def Typ:Sh->Dat->Prop
 | .int k,.v x=>∃ n,x = .int k n/\(Lit.int k n).wf=true
 | .bool,.v x=>∃ b,x = .bool b
 | .str,.v x=>∃ s:ByteArray,x = .string s/\s.size<=maxLen
 | .lst e,.lst sz xs=>sz=e.length/\xs.length<=maxLen/\∀x∈xs,q4m e x
 | _,_=>False
def q4m:List Sh->List Dat->Prop
 | [],[]=>True
 | s::ss,d::ds=>Typ s d/\q4m ss ds
 | _,_=>False
end
theorem q4m.len : ∀{ss:List Sh} {ds:List Dat},q4m ss ds->ds.length=ss.length
 | [],[],_=>rfl
 | _::ss,_::ds,h=>by
  unfold q4m at h
  rw [List.length_cons,List.length_cons,q4m.len h.2]
 | [],_::_,h=>by unfold q4m at h;exact h.elim
 | _::_,[],h=>by unfold q4m at h;exact h.elim
theorem q4m.app : ∀{ss:List Sh} {ds:List Dat} {ss':List Sh} {ds':List Dat},q4m ss ds->q4m ss' ds'->q4m (ss++ss') (ds++ds')
 | [],[],_,_,_,h=>h
 | _::ss,_::ds,_,_,h,h'=>by
  unfold q4m at h
  rw [List.cons_append,List.cons_append]
  unfold q4m
  exact ⟨h.1,q4m.app h.2 h'⟩
 | [],_::_,_,_,h,_=>by unfold q4m at h;exact h.elim
 | _::_,[],_,_,h,_=>by unfold q4m at h;exact h.elim
def qlm (f:TypeId->Option (List Sh)) (cells:TypeId->Nat):List Field->List Sh->Option (List Sh)
 | [],acc=>some acc
 | fd::fs,acc=>match f fd.type with
  | some s=>if fd.offset=acc.length/\s.length=cells fd.type then qlm f cells fs (acc++s) else none
  | none=>none
def shapeOf (P:Program):Nat->TypeId->Option (List Sh)
 | 0,_=>none
 | n+1,t=>match P.underlying t with
  | some (.int k)=>some [.int k]
  | some .bool=>some [.bool]
  | some .string=>some [.str]
  | some (.slice e)=>match shapeOf P n e with
   | some s=>if 0<s.length/\s.length=P.cellsOf e then some [.lst s] else none
   | none=>none
  | some (.struct fs)=>match qlm (shapeOf P n) P.cellsOf fs.toList [] with
   | some s=>if s.length=P.cellsOf t then some s else none
   | none=>none
  | _=>none
variable {H:Type} {enc:TypeId×Value->H} {P:Program} {W:World}
def Old (W:World):Nat->Nat->Prop:=fun b _=>b<W.heap.size
theorem jso {w:World} {a:Addr} {v:Value} (h:w.cell? a=some v):a.block<w.heap.size:=by
 unfold World.cell? at h
 split at h
 ·rename_i he
  exact q1l he
 ·cases h
def jrv (enc:TypeId×Value->H) (P:Program) (W:World) (t:TypeId) (sh:List Sh):Prop :=
 ∀(fuel:Nat) (cells:List Value) (x:DataW H×List MemPlace),DataW.trod enc P W 0 (fun _=>true) true fuel t cells=some x ->
  ∃ ds,q1a (DatRep (Old W) W) cells ds/\q4m sh ds/\∀c∈cells,c.oneCell'=true
theorem qk8 {f:TypeId->Option (List Sh)} (hf : ∀t s,f t=some s->jrv enc P W t s) {cells:List Value} {n:Nat} : ∀(fs:List Field) (acc sh:List Sh) (ds:List Dat),qlm f P.cellsOf fs acc=some sh ->
  (∀fd∈fs,∃ x,DataW.trod enc P W 0 (fun _=>true) true n fd.type ((cells.drop fd.offset).take (P.cellsOf fd.type))=some x)->acc.length<=cells.length->q1a (DatRep (Old W) W) (cells.take acc.length) ds->q4m acc ds->(∀c∈cells.take acc.length,c.oneCell'=true) ->
  sh.length<=cells.length/\∃ ds',q1a (DatRep (Old W) W) (cells.take sh.length) ds'/\q4m sh ds'/\∀c∈cells.take sh.length,c.oneCell'=true
 | [],acc,sh,ds,h,_,hl,h1,h2,h3=>by
  simp only [qlm,Option.some.injEq] at h
  subst h
  exact ⟨hl,ds,h1,h2,h3⟩
 | fd::fs,acc,sh,ds,h,hr,hl,h1,h2,h3=>by
  unfold qlm at h
  split at h
  case h_2=>cases h
  rename_i s hs
  split at h
  case isFalse=>cases h
  rename_i hc
  obtain ⟨hc1,hc2⟩:=hc
  obtain ⟨x,hx⟩:=hr fd (List.mem_cons_self ..)
  obtain ⟨ds2,g1,g2,g3⟩:=hf _ _ hs _ _ _ hx
  have hlen:=g1.length
  have hlen2:=g2.len
  rw [List.length_take,List.length_drop] at hlen
  have e1:cells.take (acc++s).length=cells.take acc.length++(cells.drop fd.offset).take (P.cellsOf fd.type):=by
   rw [hc1,<-hc2,List.length_append,List.take_add]
  have hl':(acc++s).length<=cells.length:=by
   rw [List.length_append]
   rcases Nat.eq_zero_or_pos s.length with h0|h0
   ·omega
   ·omega
  refine qk8 hf fs (acc++s) sh (ds++ds2) h (fun fd' hfd=>hr fd' (List.mem_cons_of_mem _ hfd)) hl' (by rw [e1];exact h1.append g1) (h2.app g2) (fun c hc=>?_)
  rw [e1,List.mem_append] at hc
  rcases hc with hc|hc
  ·exact h3 c hc
  ·exact g3 c hc
theorem opens : ∀(n:Nat) (t:TypeId) (sh:List Sh),shapeOf P n t=some sh->jrv enc P W t sh
 | 0,_,_,h=>by cases h
 | n+1,t,sh,h=>by
  intro fuel cells x hx
  unfold shapeOf at h
  split at h
  ·rename_i k hu
   simp only [Option.some.injEq] at h;subst h
   obtain ⟨m,rfl,_,hw⟩:=DataW.trod_int hu hx
   exact ⟨[.v (.int k m)],⟨.v _,trivial⟩,by unfold q4m q4m Typ;exact ⟨⟨m,rfl,hw⟩,trivial⟩,fun c hc=>by simp at hc;rw [hc];rfl⟩
  ·rename_i hu
   simp only [Option.some.injEq] at h;subst h
   obtain ⟨b,rfl,_⟩:=DataW.trod_bool hu hx
   exact ⟨[.v (.bool b)],⟨.v _,trivial⟩,by unfold q4m q4m Typ;exact ⟨⟨b,rfl⟩,trivial⟩,fun c hc=>by simp at hc;rw [hc];rfl⟩
  ·rename_i hu
   simp only [Option.some.injEq] at h;subst h
   obtain ⟨s,rfl,_,hs⟩:=DataW.trod_string hu hx
   exact ⟨[.v (.string s)],⟨.v _,trivial⟩,by unfold q4m q4m Typ;exact ⟨⟨s,rfl,hs⟩,trivial⟩,fun c hc=>by simp at hc;rw [hc];rfl⟩
  ·rename_i e hu
   split at h
   case h_2=>cases h
   rename_i s hs
   split at h
   case isFalse=>cases h
   rename_i hc
   obtain ⟨hc1,hc2⟩:=hc
   simp only [Option.some.injEq] at h;subst h
   have ih:=opens n e s hs
   rcases Deep.open_slice hu hx with ⟨rfl,_⟩|⟨a,len,cap,m,n',D,Pl,rfl,hb,hl,hm,hmm,_,hi⟩
   ·refine ⟨[.lst s.length []],⟨.lst none 0 0 s.length [] 0 0 (fun _ _=>undef) rfl (Nat.le_refl _) (Nat.zero_le _) (fun x hx=>by cases hx) (fun h=>by simp at h) (fun k j hk=>by simp at hk) (fun k j hk=>by simp at hk),trivial⟩,?_,fun c hc=>by simp at hc;rw [hc];rfl⟩
    unfold q4m q4m Typ
    exact ⟨⟨rfl,by simp,fun x hx=>by cases hx⟩,trivial⟩
   ·have hge:len<=m:=by rw [hmm];split<;>omega
    have hp : ∀i,∃ p:List Value×List Dat,i<len->(∀j (hj:j<p.1.length),W.cell? ((a.add (i*s.length)).add j)=some p.1[j])/\q1a (DatRep (Old W) W) p.1 p.2/\q4m s p.2/\∀c∈p.1,c.oneCell'=true:=by
     intro i
     by_cases h:i<len
     ·obtain ⟨cs',hcs,ht⟩:=hi i (by omega)
      obtain ⟨_,hlen',hat⟩:=World.cells?_some hcs
      obtain ⟨ds,g1,g2,g3⟩:=ih _ _ _ ht
      refine ⟨(cs',ds),fun _=>⟨fun j hj=>?_,g1,g2,g3⟩⟩
      have hj':j<cs'.length:=hj
      have:=hat j (by omega)
      rw [<-hc2] at this
      exact this.trans (List.getElem?_eq_getElem hj')
     ·exact ⟨([],[]),fun h'=>absurd h' h⟩
    obtain ⟨f,hfp⟩:=Classical.axiomOfChoice hp
    have hlenD : ∀i,i<len->(f i).2.length=s.length/\(f i).1.length=s.length:=fun i hi=>by
     obtain ⟨_,g1,g2,_⟩:=hfp i hi
     exact ⟨g2.len,g1.length.trans g2.len⟩
    have htl:((List.range len).map fun i=>(f i).2).length=len:=by simp
    refine ⟨[.lst s.length ((List.range len).map fun i=>(f i).2)],⟨?_,trivial⟩,?_,fun c hc=>by simp at hc;rw [hc];rfl⟩
    ·by_cases h0:len=0
     ·subst h0
      exact .lst _ _ _ s.length _ 0 0 (fun _ _=>undef) rfl hl hm (fun x hx=>by simp at hx) (fun h=>by simp at h) (fun k j hk=>by simp at hk) (fun k j hk=>by simp at hk)
     ·obtain ⟨b,off,sp⟩:=a
      have hl0:=(hlenD 0 (by omega)).2
      have g0:=(hfp 0 (by omega)).1 0 (by omega)
      have hspot:sp=none:=by simpa [Addr.add] using World.cell?_spot g0
      subst hspot
      refine .lst _ _ _ s.length _ b off (fun k j=>(f k).1.getD j undef) htl.symm hl hm (fun x hx=>?_) (fun _=>rfl) (fun k j hk hj=>?_) (fun k j hk hj=>?_)
      ·obtain ⟨i,hi',rfl⟩:=List.mem_map.1 hx
       exact (hlenD i (List.mem_range.1 hi')).1
      ·rw [htl] at hk
       have hjl:j<(f k).1.length:=by rw [(hlenD k hk).2];exact hj
       have gj:=(hfp k hk).1 j hjl
       rw [Addr.add_lit,Addr.add_lit] at gj
       have hgd:(f k).1.getD j undef=(f k).1[j]:=by simp [List.getD,hjl]
       rw [hgd]
       exact ⟨jso gj,gj,(hfp k hk).2.2.2 _ (List.getElem_mem _)⟩
      ·rw [htl] at hk
       simp only [List.getElem_map,List.getElem_range] at hj ⊢
       have hjl:j<(f k).1.length:=by rw [(hlenD k hk).2,<-(hlenD k hk).1];exact hj
       have hgd:(f k).1.getD j undef=(f k).1[j]:=by simp [List.getD,hjl]
       rw [hgd]
       exact (hfp k hk).2.1.get j hjl hj
    ·unfold q4m q4m Typ
     refine ⟨⟨rfl,by rw [htl];omega,fun x hx=>?_⟩,trivial⟩
     obtain ⟨i,hi',rfl⟩:=List.mem_map.1 hx
     exact (hfp i (List.mem_range.1 hi')).2.2.1
  ·rename_i fs hu
   split at h
   case h_2=>cases h
   rename_i s hs
   split at h
   case isFalse=>cases h
   rename_i hst
   simp only [Option.some.injEq] at h;subst h
   obtain ⟨xs,n',_,_,hcl,hl,he⟩:=DataW.trod_struct hu hx
   obtain ⟨h1,ds,h2,h3,h4⟩:=qk8 (cells:=cells) (n:=n') (fun t s=>opens n t s) fs.toList [] s [] hs (fun fd hfd=>by
    obtain ⟨i,hi,rfl⟩:=List.getElem_of_mem hfd
    have hif:i<fs.size:=by simpa using hi
    have:=he i fs[i] (Array.getElem?_eq_getElem hif)
    rw [List.getElem?_eq_getElem (by omega)] at this
    exact ⟨_,by simpa using this⟩) (Nat.zero_le _) trivial (by unfold q4m;trivial) (fun c hc=>by simp at hc)
   rw [List.take_of_length_le (by omega)] at h2 h4
   exact ⟨ds,h2,h3,h4⟩
  ·cases h
def ju6:Bool->List Dat->D
 | true,ds=>.one (.agg (ds.map .d))
 | false,[d]=>.one (.c (.d d))
 | false,_=>.one (.c .bad)
theorem jd9 {e:Env} {σ:St} {w:World} : ∀{us:List Value} {ds:List Dat},q1a (DatRep e.Pc w) us ds->q1a (q2z e σ w) us (ds.map .d)
 | [],[],_=>trivial
 | _::_,_::_,h=>⟨h.1,jd9 h.2⟩
 | [],_::_,h=>h.elim
 | _::_,[],h=>h.elim
theorem jlq {n base:Nat} {t:TypeId} {sh:List Sh} {fs:Array Field} {v:Value} {d:DataW H} {p:List MemPlace} (hs:shapeOf P n t=some sh) (hu:P.underlying t=some (.struct fs))
  (hv:Value.okWide P W .any base t v) (h:DataW.Trod enc P W 0 (fun _=>true) true t v d p) : ∃ ds,q4m sh ds/\q1z (q1y (Old W)) q2d W v (ju6 true ds):=by
 obtain ⟨cs,rfl,hsz⟩:=okWide_struct hu hv
 obtain ⟨fuel,hf⟩:=h
 obtain ⟨ds,h1,h2,_⟩:=opens n t sh hs _ _ _ hf
 exact ⟨ds,h2,cs,rfl,jd9 h1⟩
theorem jgk {n base:Nat} {t:TypeId} {s:Sh} {v:Value} {d:DataW H} {p:List MemPlace} (hs:shapeOf P n t=some [s]) (ha:qhj P t=some false)
  (hv:Value.okWide P W .any base t v) (h:DataW.Trod enc P W 0 (fun _=>true) true t v d p) : ∃ x,Typ s x/\q1z (q1y (Old W)) q2d W v (ju6 false [x]):=by
 obtain ⟨fuel,hf⟩:=h
 have hc:v.cells.toList = [v]:=by
  cases n with
  | zero=>cases hs
  | succ n =>
   unfold shapeOf at hs
   split at hs
   ·rename_i k hu;obtain ⟨m,rfl⟩:=okWide_int hu hv;rfl
   ·rename_i hu;obtain ⟨m,rfl⟩:=okWide_bool hu hv;rfl
   ·rename_i hu;obtain ⟨m,rfl⟩:=okWide_string hu hv;rfl
   ·rename_i e hu;obtain ⟨a,l,c,rfl⟩:=okWide_slice hu hv;rfl
   ·rename_i fs hu;unfold qhj at ha;rw [hu] at ha;simp at ha
   ·cases hs
 obtain ⟨ds,h1,h2,_⟩:=opens n t [s] hs _ _ _ hf
 rw [hc] at h1
 match ds,h1,h2 with
 | [x],h1,h2 =>
  unfold q4m at h2
  exact ⟨x,h2.1,h1.1⟩
end Go.Proofs.YthpgnliicpejoaaGreatDoor.AM
