
import Derived.Test.YthpgnliicpejoaaGreatDoorVp2
import Derived.ProofKit
import Derived.OpenShut
import Derived.ShutString
import Derived.ChangeOld
import Derived.SliceStrings
import Derived.Deep.Slices
namespace Go.Proofs.YthpgnliicpejoaaGreatDoor.AM
open Go.RowKit
set_option linter.unusedVariables false
set_option linter.unusedSimpArgs false
variable {F:Fr} {σ σ':St} {e:Env} {a:Act} {w:World} {P:Program}
def qwi:C->List Loc
 | .box β _=>[.b β]
 | .bsl β _=>[.b β]
 | .row t _=>[.r t]
 | .wp t _ _ _=>[.r t]
 | _=>[]
def qjw:List C->List Loc
 | []=>[]
 | c::cs=>qwi c++qjw cs
def j5f:D1->List Loc
 | .c x=>qwi x
 | .agg cs=>qjw cs
def q5x:D->List Loc
 | .one x=>j5f x
 | .tup _=>[]
def AgD (d:D) (bx bx':Nat->Option (Nat×List C)) (rw rw':Nat->Option Row):Prop:=(∀β,Loc.b β∈q5x d->bx' β=bx β)/\(∀t,Loc.r t∈q5x d->rw' t=rw t)
section
variable {bx bx':Nat->Option (Nat×List C)} {rw rw':Nat->Option Row}
theorem qta {t:TypeId} {p:D} (h:AgD p bx bx' rw rw'):q7q P t p bx' rw'=q7q P t p bx rw:=by
 unfold q7q
 split
 ·rw [h.1 _ (by simp [q5x,j5f,qwi])]
 ·rfl
 ·rw [h.2 _ (by simp [q5x,j5f,qwi])]
 ·rfl
theorem qot {t:TypeId} {p x:D} (h:AgD p bx bx' rw rw'):q3w P t p x bx' rw'=q3w P t p x bx rw:=by
 unfold q3w
 split
 ·split
  ·split
   ·split
    ·rw [h.1 _ (by simp [q5x,j5f,qwi])]
    ·rw [h.2 _ (by simp [q5x,j5f,qwi])]
    ·rfl
   ·rfl
  ·rfl
 ·rfl
theorem qde {t:TypeId} {x i:D} (h:AgD x bx bx' rw rw'):q1i P t x i rw'=q1i P t x i rw:=by
 unfold q1i
 split
 ·split
  ·rfl
  ·rw [h.2 _ (by simp [q5x,j5f,qwi])]
  ·rfl
 ·rfl
 ·rfl
theorem qu5 {t:TypeId} {x:D} (h:AgD x bx bx' rw rw'):qcy P t x rw'=qcy P t x rw:=by
 unfold qcy
 split
 ·rfl
 ·rfl
 ·rfl
 ·rw [h.2 _ (by simp [q5x,j5f,qwi])]
 ·rfl
theorem qgi {m:Nat} {x:D} (h:AgD x bx bx' rw rw'):qf5 m x rw'=qf5 m x rw:=by
 unfold qf5
 split
 ·rfl
 ·rfl
 ·rw [h.2 _ (by simp [q5x,j5f,qwi])]
 ·rfl
theorem qjs {dst:Option Nat} {t:TypeId} {s x:D} (hs:AgD s bx bx' rw rw') (hx:AgD x bx bx' rw rw') (hd : ∀i,dst=some i->rw' i=rw i):q33 P dst t s x rw'=q33 P dst t s x rw:=by
 unfold q33
 simp only [qgi hx]
 split
 ·split
  ·split
   ·split
    ·rw [hs.2 _ (by simp [q5x,j5f,qwi])]
    ·split
     ·rw [hd _ rfl]
     ·rfl
    ·rfl
   ·rfl
  ·rfl
 ·rfl
theorem qbb {dst:Option Nat} {t:TypeId} {n:Nat} {ps:Array (Nat×Operand)} {ρ:Operand->D} (hd : ∀i,dst=some i->rw' i=rw i):q1q P dst t n ps ρ rw'=q1q P dst t n ps ρ rw:=by
 unfold q1q
 split
 ·rw [hd _ rfl]
 ·rfl
theorem qmg {dst:Option Nat} {t:TypeId} (hd : ∀i,dst=some i->bx' i=bx i):q6w P dst t bx'=q6w P dst t bx:=by
 unfold q6w
 split
 ·rw [hd _ rfl]
 ·rfl
theorem quu {dst:Option Nat} {t:TypeId} {x:D} (hd : ∀i,dst=some i->bx' i=bx i):qj5 dst t x bx'=qj5 dst t x bx:=by
 unfold qj5
 split
 ·rw [hd _ rfl]
 ·rfl
theorem qf2 {t:TypeId} {x:D} {lo hi:Option D} (h:AgD x bx bx' rw rw'):q32 P t x lo hi rw'=q32 P t x lo hi rw:=by
 unfold q32
 split
 ·rw [h.2 _ (by simp [q5x,j5f,qwi])]
 ·rfl
theorem qj8 {dst:Option Nat} {s d:TypeId} {x:D} (h:AgD x bx bx' rw rw') (hd : ∀i,dst=some i->rw' i=rw i):q3d P dst s d x rw'=q3d P dst s d x rw:=by
 unfold q3d
 simp only [qgi h]
 split
 ·rfl
 ·split
  ·rw [hd _ rfl]
  ·rfl
 ·rfl
theorem qse {dst:Option Nat} {t:TypeId} {x:D} (hd : ∀i,dst=some i->rw' i=rw i):qbf P dst t x rw'=qbf P dst t x rw:=by
 unfold qbf
 split
 ·rw [hd _ rfl]
 ·rfl
theorem q8h {ρ ρ':Operand->D} : ∀{ps:List (Nat×Operand)},(∀p∈ps,ρ' p.2=ρ p.2)->q7p ρ' ps=q7p ρ ps
 | [],_=>rfl
 | (i,x)::ps,h=>by
  unfold q7p
  rw [h _ (List.mem_cons_self ..),q8h (fun p hp=>h p (List.mem_cons_of_mem _ hp))]
theorem qu8 {o:Oper} {ρ ρ':Operand->D} (hρ : ∀x∈o.op.operands.toList,ρ' x=ρ x) (hl : ∀x∈o.op.operands.toList,AgD (ρ x) bx bx' rw rw') (hb : ∀i,o.dst=some i->bx' i=bx i) (hr : ∀i,o.dst=some i->rw' i=rw i) :
  qd5 P o ρ' bx' rw'=qd5 P o ρ bx rw:=by
 unfold qd5
 generalize hop:o.op=op at hρ hl ⊢
 split<;>simp only [Op.operands,Call.operands] at hρ hl
 ·rw [hρ _ (by simp)]
 ·rw [hρ _ (by simp)]
 ·rw [hρ _ (by simp),hρ _ (by simp),hρ _ (by simp)]
 ·exact qmg hb
 ·rw [hρ _ (by simp)];exact quu hb
 ·rw [hρ _ (by simp)];exact qta (hl _ (by simp))
 ·rw [hρ _ (by simp),hρ _ (by simp)];exact qot (hl _ (by simp))
 ·rw [hρ _ (by simp)]
 ·rw [hρ _ (by simp)]
 ·rw [hρ _ (by simp),hρ _ (by simp)]
 ·rw [hρ _ (by simp),hρ _ (by simp)];exact qde (bx:=bx) (bx':=bx') (hl _ (by simp))
 ·rw [hρ _ (by simp)]
 ·unfold qad
  rw [q8h (ρ:=ρ) (ρ':=ρ') fun p hp=>hρ p.2 (by simpa using ⟨p.1,Array.mem_toList_iff.1 hp⟩)]
 ·rw [qbb hr]
  unfold q1q
  rw [q8h (ρ:=ρ) (ρ':=ρ') fun p hp=>hρ p.2 (by simpa using ⟨p.1,Array.mem_toList_iff.1 hp⟩)]
 ·rw [hρ _ (by simp),hρ _ (by simp)]
 ·rw [hρ _ (by simp)]
 ·rw [hρ _ (by simp)]
 ·rw [hρ _ (by simp),qj8 (bx:=bx) (bx':=bx') (hl _ (by simp)) hr]
 ·rename_i t x lo hi
  rw [hρ x (by simp)]
  have e1:lo.map ρ'=lo.map ρ:=by cases lo<;>simp;exact hρ _ (by simp)
  have e2:hi.map ρ'=hi.map ρ:=by cases hi<;>simp;exact hρ _ (by simp)
  rw [e1,e2,qf2 (bx:=bx) (bx':=bx') (hl _ (by simp))]
 ·rw [hρ _ (by simp)]
 ·rw [hρ _ (by simp)];exact qu5 (bx:=bx) (bx':=bx') (hl _ (by simp))
 ·split
  ·rw [hρ _ (by simp),hρ _ (by simp)];exact qjs (bx:=bx) (bx':=bx') (hl _ (by simp)) (hl _ (by simp)) hr
  ·rfl
 ·rw [hρ _ (by simp),qse hr]
 ·rw [hρ _ (by simp),hρ _ (by simp)]
 ·rw [hρ _ (by simp),hρ _ (by simp)]
 ·rfl
end
def qac (σ:St):List Operand->List Loc
 | []=>[]
 | x::xs=>q5x (opnd σ x)++qac σ xs
def qe5:List Operand->List Loc
 | []=>[]
 | .tmp t::xs=>.s t::qe5 xs
 | _::xs=>qe5 xs
def qff (ops:Array Oper) (o:Oper):List Loc:=match o.guard with
 | some (g,_)=>match (ops[g]?).bind (·.dst) with
  | some t=>[.s t]
  | none=>[]
 | none=>[]
def qmu (o:Oper):List Loc:=match o.dst with
 | some i=>[.b i,.r i]
 | none=>[]
def q3h (ops:Array Oper) (σ:St) (o:Oper):List Loc:=qff ops o++(qe5 o.op.operands.toList++(qac σ o.op.operands.toList++qmu o))
theorem qhc {t:Nat} : ∀{xs:List Operand},Operand.tmp t∈xs->Loc.s t∈qe5 xs
 | x::xs,h=>by
  rcases List.mem_cons.1 h with rfl|h
  ·exact List.mem_cons_self ..
  ·have ih:=qhc h
   cases x with
   | tmp t'=>exact List.mem_cons_of_mem _ ih
   | const v=>exact ih
   | global g=>exact ih
   | func f=>exact ih
theorem qiy {x:Operand} {l:Loc} : ∀{xs:List Operand},x∈xs->l∈q5x (opnd σ x)->l∈qac σ xs
 | y::xs,h,hl=>by
  rw [qac,List.mem_append]
  rcases List.mem_cons.1 h with rfl|h
  ·exact Or.inl hl
  ·exact Or.inr (qiy h hl)
variable {ops:Array Oper} {o:Oper} {j:Nat} {rest:List Oper} {pre:List En} {K:St->Prop}
theorem q8v (h : ∀l∈q3h ops σ o,σ'.get l=σ.get l) : ∀x∈o.op.operands.toList,opnd σ' x=opnd σ x:=by
 intro x hx
 cases x with
 | tmp t =>
  have:=h (.s t) (by unfold q3h;simp only [List.mem_append];exact Or.inr (Or.inl (qhc hx)))
  simp only [St.get,LV.s.injEq] at this
  exact this
 | _=>rfl
theorem q9f (h : ∀l∈q3h ops σ o,σ'.get l=σ.get l) : ∀x∈o.op.operands.toList,AgD (opnd σ x) σ.box σ'.box σ.row σ'.row:=by
 intro x hx
 have hm : ∀l,l∈q5x (opnd σ x)->l∈q3h ops σ o:=fun l hl=>by
  unfold q3h;simp only [List.mem_append];exact Or.inr (Or.inr (Or.inl (qiy hx hl)))
 exact ⟨fun β hβ=>by have:=h _ (hm _ hβ);simpa [St.get] using this,fun t ht=>by have:=h _ (hm _ ht);simpa [St.get] using this⟩
theorem qt6 (h : ∀l∈q3h ops σ o,σ'.get l=σ.get l):(∀i,o.dst=some i->σ'.box i=σ.box i)/\(∀i,o.dst=some i->σ'.row i=σ.row i):=by
 have hm : ∀i,o.dst=some i->Loc.b i∈q3h ops σ o/\Loc.r i∈q3h ops σ o:=fun i hi=>by
  unfold q3h qmu;rw [hi];simp
 exact ⟨fun i hi=>by have:=h _ (hm i hi).1;simpa [St.get] using this,fun i hi=>by have:=h _ (hm i hi).2;simpa [St.get] using this⟩
theorem q97 (h : ∀l∈q3h ops σ o,σ'.get l=σ.get l):q4c ops σ' o=q4c ops σ o:=by
 unfold q4c
 cases hg:o.guard with
 | none=>rfl
 | some p =>
  obtain ⟨g,want⟩:=p
  simp only
  cases ht:(ops[g]?).bind (·.dst) with
  | none=>rfl
  | some t =>
   have:=h (.s t) (by unfold q3h qff;rw [hg];simp [ht])
   have h2:σ'.slot t=σ.slot t:=by simpa [St.get] using this
   simp only [h2]
theorem j8r (hn:q7r F.n ops=true) (ho:ops[j]? = some o) (hw:q4c ops σ o=some true) {res:Res} (he:qd5 P o (opnd σ) σ.box σ.row=some res) (hc:res.cond):j6t P F ops j ⟨q3h ops σ o,o.dst,res⟩ σ:=by
 intro σ' h e a w hR Qx K hK
 have hd : ∀k,o.dst=some k->k<F.n:=fun k hk=>q2k hn (by rw [ho];exact hk)
 have he':qd5 P o (opnd σ') σ'.box σ'.row=some res:=by
  rw [qu8 (q8v h) (q9f h) (qt6 h).1 (qt6 h).2];exact he
 obtain ⟨v,w',e',h1,h2,h3,h4⟩:=qz2 he' e a w hR hc
 have hR':R F ((σ'.app res).put o.dst res.val) e' (a.put o.dst v) w':=hR.next h2 h3 rfl o.dst hd v res.val h4
 have hnext:=hK _ _ e' hR'
 unfold wpOp
 simp only [ho]
 rw [q5t hR ((q97 h).trans hw) (fun g _ t ht=>q2k hn ht),if_pos rfl]
 refine .inl ?_
 unfold Oper.wp
 rcases h1 with h1|⟨h1,rfl⟩
 ·rw [h1];exact hnext
 ·rw [h1];exact hnext
theorem j8m (hn:q7r F.n ops=true) (ho:ops[j]? = some o) (hw:q4c ops σ o=some false):j6t P F ops j ⟨q3h ops σ o,o.dst,{ cond:=True,val:=q25 undef }⟩ σ:=by
 intro σ' h e a w hR Qx K hK
 have hd : ∀k,o.dst=some k->k<F.n:=fun k hk=>q2k hn (by rw [ho];exact hk)
 have hR':R F (σ'.put o.dst (q25 undef)) e (a.put o.dst undef) w:=hR.pure hd (q0m _)
 unfold wpOp
 simp only [ho]
 rw [q5t hR ((q97 h).trans hw) (fun g _ t ht=>q2k hn ht),if_neg (by decide)]
 exact hK _ _ e hR'
theorem qgz {rw rw':Nat->Option Row} {c:C} (h : ∀t,Loc.r t∈qwi c->rw' t=rw t):qs5 rw' c=qs5 rw c:=by
 unfold qs5
 split
 ·rfl
 ·rfl
 ·rw [h _ (by simp [qwi])]
 ·rfl
theorem qep {rw rw':Nat->Option Row} : ∀{cs:List C},(∀t,Loc.r t∈qjw cs->rw' t=rw t)->qca rw' cs=qca rw cs
 | [],_=>rfl
 | c::cs,h=>by
  unfold qca
  rw [qgz (fun t ht=>h t (by rw [qjw,List.mem_append];exact Or.inl ht)),qep (fun t ht=>h t (by rw [qjw,List.mem_append];exact Or.inr ht))]
theorem qtz {rw rw':Nat->Option Row} {d:D} (h : ∀t,Loc.r t∈q5x d->rw' t=rw t):qte rw' d=qte rw d:=by
 cases d with
 | one x =>
  cases x with
  | c x=>simp only [qte,qvs,qgz (c:=x) h]
  | agg cs=>simp only [qte,qvs,qep (cs:=cs) h]
 | tup xs=>rfl
theorem qeh {rw rw':Nat->Option Row} : ∀{ds:List D},(∀d∈ds,∀t,Loc.r t∈q5x d->rw' t=rw t)->q7n rw' ds=q7n rw ds
 | [],_=>rfl
 | d::ds,h=>by
  unfold q7n
  rw [qtz (h d (List.mem_cons_self ..)),qeh (fun d' hd'=>h d' (List.mem_cons_of_mem _ hd'))]
theorem jf7 (hn:q7r F.n ops=true) (ho:ops[j]? = some o) (hw:q4c ops σ o=some true) {x:Operand} {xs:Array Operand} {ts:Array TypeId} (hop:o.op = .call { callee:=.value x,args:=xs,argTypes:=ts })
  {f:FuncId} (hf:callee σ x=some f) (hb:q5a P f=true) {ds:List D} (hds:q7n σ.row (xs.toList.map (opnd σ))=some ds) {d:D} (hc:q13 P F.G f ds d):j6t P F ops j ⟨q3h ops σ o,o.dst,{ cond:=True,val:=d }⟩ σ:=by
 intro σ' h e a w hR Qx K hK
 have hd : ∀k,o.dst=some k->k<F.n:=fun k hk=>q2k hn (by rw [ho];exact hk)
 have hops:=q8v h
 have hheap:=q9f h
 rw [hop] at hops hheap
 simp only [Op.operands,Call.operands] at hops hheap
 have hx:opnd σ' x=opnd σ x:=hops x (by simp)
 have hxs:xs.toList.map (opnd σ')=xs.toList.map (opnd σ):=List.map_congr_left fun y hy=>hops y (by simp;exact Or.inr (by simpa using hy))
 have hds':q7n σ'.row (xs.toList.map (opnd σ'))=some ds:=by
  rw [hxs,qeh (rw:=σ.row) (rw':=σ'.row)]
  ·exact hds
  ·intro d' hd' t ht
   obtain ⟨y,hy,rfl⟩:=List.mem_map.1 hd'
   exact (hheap y (by simp;exact Or.inr (by simpa using hy))).2 t ht
 have hf':callee σ' x=some f:=by unfold callee at *;rw [hx];exact hf
 unfold wpOp
 simp only [ho]
 rw [q5t hR ((q97 h).trans hw) (fun g _ t ht=>q2k hn ht),if_pos rfl]
 refine .inl ?_
 unfold callee at hf'
 split at hf'
 case h_2=>cases hf'
 rename_i f' hxx
 simp only [Option.some.injEq] at hf'
 subst hf'
 have h1:=hR.opnd x
 rw [hxx] at h1
 have h2:=q0n h1
 have hrun:(execOp a.eval o).run P w = .ok (.enter f' (xs.map a.eval)) w:=by
  have:=qfp hb (xs.map a.eval) w
  simp [execOp,hop,Sem.run_bind,resolve,h2,Deferred.ofValue,invoke,this]
 unfold Oper.wp
 rw [hrun]
 refine (qbw hc hR.hp (vs:=xs.map a.eval) (by rw [Array.toList_map];exact qgh hR.hp hds' (qcn hR _))).mono ?_
 rintro en w' ⟨v,e',rfl,h3,h4,h5⟩
 exact hK _ _ e' (hR.next h3 h4 rfl o.dst hd v d h5)
def qi1 (P:Program) (F:Fr) (ops:Array Oper) (pre:List En) (rest:List Oper) (σ:St) (K:St->Prop):Prop :=
 q7r F.n ops=true->ops.toList.drop pre.length=rest->∃ post,qdd P F ops pre.length σ post/\qyb ops (pre.reverse++post)=true/\K (qei post σ)
theorem q68 (hok:qyb ops pre.reverse=true) (h:K σ):qi1 P F ops pre [] σ K:=fun _ _=>⟨[],trivial,by simpa using hok,h⟩
theorem qnn {en:En} (hen:q7r F.n ops=true->ops[pre.length]? = some o->j6t P F ops pre.length en σ) (h:qi1 P F ops (en::pre) rest (en.app σ) K):qi1 P F ops pre (o::rest) σ K:=by
 intro hn hdrop
 have ho:ops[pre.length]? = some o:=by
  have:(ops.toList.drop pre.length)[0]? = some o:=by rw [hdrop];rfl
  rw [List.getElem?_drop,Nat.add_zero] at this
  simpa using this
 have hdrop':ops.toList.drop (en::pre).length=rest:=by
  rw [List.length_cons,<-List.drop_drop,hdrop];rfl
 obtain ⟨post,h1,h2,h3⟩:=h hn hdrop'
 exact ⟨en::post,⟨hen hn ho,h1⟩,by simpa using h2,h3⟩
def q6e (σ:St) (rl:List Loc) (dst:Option Nat) (K1:En->St->Prop):Option Bool->Option Res->Prop
 | some true,some res=>res.cond/\K1 ⟨rl,dst,res⟩ ((σ.app res).put dst res.val)
 | some false,_=>K1 ⟨rl,dst,{ cond:=True,val:=q25 undef }⟩ (σ.put dst (q25 undef))
 | _,_=>False
theorem q3v (h : ∀K1:En->St->Prop,(∀en σ',qi1 P F ops (en::pre) rest σ' K->K1 en σ')->q6e σ (q3h ops σ o) o.dst K1 (q4c ops σ o) (qd5 P o (opnd σ) σ.box σ.row)):qi1 P F ops pre (o::rest) σ K:=by
 have h:=h (fun en σ'=>qi1 P F ops (en::pre) rest σ' K) (fun _ _ h=>h)
 unfold q6e at h
 split at h
 ·rename_i res hw he
  exact qnn (fun hn ho=>j8r hn ho hw he h.1) h.2
 ·rename_i hw
  refine qnn (en:=⟨q3h ops σ o,o.dst,{ cond:=True,val:=q25 undef }⟩) (fun hn ho=>j8m hn ho hw) ?_
  have e1:(⟨q3h ops σ o,o.dst,{ cond:=True,val:=q25 undef }⟩:En).app σ=σ.put o.dst (q25 undef):=rfl
  rw [e1];exact h
 ·exact h.elim
theorem j0v (hw:q4c ops σ o=some true) {x:Operand} {xs:Array Operand} {ts:Array TypeId} (hop:o.op = .call { callee:=.value x,args:=xs,argTypes:=ts })
  {f:FuncId} (hf:callee σ x=some f) (hb:q5a P f=true) {ds:List D} (hds:q7n σ.row (xs.toList.map (opnd σ))=some ds) {d:D} (hc:q13 P F.G f ds d)
  (h : ∀K1:En->St->Prop,(∀en σ',qi1 P F ops (en::pre) rest σ' K->K1 en σ')->K1 ⟨q3h ops σ o,o.dst,{ cond:=True,val:=d }⟩ (σ.put o.dst d)):qi1 P F ops pre (o::rest) σ K:=by
 have h:=h (fun en σ'=>qi1 P F ops (en::pre) rest σ' K) (fun _ _ h=>h)
 refine qnn (fun hn ho=>jf7 hn ho hw hop hf hb hds hc) ?_
 have e1:(⟨q3h ops σ o,o.dst,{ cond:=True,val:=d }⟩:En).app σ=σ.put o.dst d:=rfl
 rw [e1];exact h
theorem q2q {id:Nat} {l:List Oper} {y:Code} {Q:Exit->St->Prop} (hm:P.follows .mixedOrders=true) (hn:q7r F.n l.toArray=true) (h:qi1 P F l.toArray [] l σ (fun σ'=>q2a P F y σ' Q)):q2a P F (.seq (.region id l.toArray true) y) σ Q:=by
 obtain ⟨post,h1,h2,h3⟩:=h hn (by simp)
 exact q0e (qm3 hm hn post h1 (by simpa using h2) h3)
theorem q2o {id:Nat} {l:List Oper} {Q:Exit->St->Prop} (hm:P.follows .mixedOrders=true) (hn:q7r F.n l.toArray=true) (h:qi1 P F l.toArray [] l σ (Q .normal)):q2a P F (.region id l.toArray true) σ Q:=by
 obtain ⟨post,h1,h2,h3⟩:=h hn (by simp)
 exact qm3 hm hn post h1 (by simpa using h2) h3
theorem jf2 (a:Array UInt8):(ByteArray.mk a).size=a.size:=rfl
attribute [push_cast] Option.pure_def Option.bind_eq_bind Option.bind_some Nat.zero_mul Nat.mul_zero Nat.one_mul Nat.mul_one Nat.zero_le Option.isSome_some Option.isSome_none jf2 List.size_toArray Nat.zero_add Nat.add_zero St.of List.lookup_cons List.lookup_nil Option.getD_some Option.getD_none beq_self_eq_true clD cl1 clC List.forall_mem_cons q6e q3h qff qe5 qac qmu q5x j5f qwi qjw Op.operands Call.operands callee List.append_nil
end Go.Proofs.YthpgnliicpejoaaGreatDoor.AM
namespace Go.Proofs.YthpgnliicpejoaaGreatDoor.AM
open Go.RowKit Go.ChangeShapes Go.WideShapes Go.ChangeAt
set_option linter.unusedVariables false
set_option linter.unusedSimpArgs false
inductive Sh where
 | int (k:IntKind)
 | bool
 | str
 | lst (e:List Sh)
mutual
def Typ:Sh->Dat->Prop
 | .int k,.v x=>∃ n,x = .int k n/\(Lit.int k n).wf=true
 | .bool,.v x=>∃ b,x = .bool b
 | .str,.v x=>∃ s:ByteArray,x = .string s/\s.size<=maxLen
 | .lst e,.lst sz xs=>sz=e.length/\xs.length<=maxLen/\∀x∈xs,q4d e x
 | _,_=>False
def q4d:List Sh->List Dat->Prop
 | [],[]=>True
 | s::ss,d::ds=>Typ s d/\q4d ss ds
 | _,_=>False
end
theorem q4d.len : ∀{ss:List Sh} {ds:List Dat},q4d ss ds->ds.length=ss.length
 | [],[],_=>rfl
 | _::ss,_::ds,h=>by
  unfold q4d at h
  rw [List.length_cons,List.length_cons,q4d.len h.2]
 | [],_::_,h=>by unfold q4d at h;exact h.elim
 | _::_,[],h=>by unfold q4d at h;exact h.elim
theorem q4d.app : ∀{ss:List Sh} {ds:List Dat} {ss':List Sh} {ds':List Dat},q4d ss ds->q4d ss' ds'->q4d (ss++ss') (ds++ds')
 | [],[],_,_,_,h=>h
 | _::ss,_::ds,_,_,h,h'=>by
  unfold q4d at h
  rw [List.cons_append,List.cons_append]
  unfold q4d
  exact ⟨h.1,q4d.app h.2 h'⟩
 | [],_::_,_,_,h,_=>by unfold q4d at h;exact h.elim
 | _::_,[],_,_,h,_=>by unfold q4d at h;exact h.elim
def qj6 (f:TypeId->Option (List Sh)) (cells:TypeId->Nat):List Field->List Sh->Option (List Sh)
 | [],acc=>some acc
 | fd::fs,acc=>match f fd.type with
  | some s=>if fd.offset=acc.length/\s.length=cells fd.type then qj6 f cells fs (acc++s) else none
  | none=>none
def shapeOf (P:Program):Nat->TypeId->Option (List Sh)
 | 0,_=>none
 | n+1,t=>match P.underlying t with
  | some (.int k)=>some [.int k]
  | some .bool=>some [.bool]
  | some .string=>some [.str]
  | some (.slice e)=>match shapeOf P n e with
   | some s=>if 0<s.length/\s.length=P.cellsOf e then some [.lst s] else none
   | none=>none
  | some (.struct fs)=>match qj6 (shapeOf P n) P.cellsOf fs.toList [] with
   | some s=>if s.length=P.cellsOf t then some s else none
   | none=>none
  | _=>none
variable {H:Type} {enc:TypeId×Value->H} {P:Program} {W:World}
def Old (W:World):Nat->Nat->Prop:=fun b _=>b<W.heap.size
theorem jiz {w:World} {a:Addr} {v:Value} (h:w.cell? a=some v):a.block<w.heap.size:=by
 unfold World.cell? at h
 split at h
 ·rename_i he
  exact q1f he
 ·cases h
def jjo (enc:TypeId×Value->H) (P:Program) (W:World) (t:TypeId) (sh:List Sh):Prop :=
 ∀(fuel:Nat) (cells:List Value) (x:DataW H×List MemPlace),DataW.trod enc P W 0 (fun _=>true) true fuel t cells=some x ->
  ∃ ds,q15 (DatRep (Old W) W) cells ds/\q4d sh ds/\∀c∈cells,c.oneCell'=true
theorem qh2 {f:TypeId->Option (List Sh)} (hf : ∀t s,f t=some s->jjo enc P W t s) {cells:List Value} {n:Nat} : ∀(fs:List Field) (acc sh:List Sh) (ds:List Dat),qj6 f P.cellsOf fs acc=some sh ->
  (∀fd∈fs,∃ x,DataW.trod enc P W 0 (fun _=>true) true n fd.type ((cells.drop fd.offset).take (P.cellsOf fd.type))=some x)->acc.length<=cells.length->q15 (DatRep (Old W) W) (cells.take acc.length) ds->q4d acc ds->(∀c∈cells.take acc.length,c.oneCell'=true) ->
  sh.length<=cells.length/\∃ ds',q15 (DatRep (Old W) W) (cells.take sh.length) ds'/\q4d sh ds'/\∀c∈cells.take sh.length,c.oneCell'=true
 | [],acc,sh,ds,h,_,hl,h1,h2,h3=>by
  simp only [qj6,Option.some.injEq] at h
  subst h
  exact ⟨hl,ds,h1,h2,h3⟩
 | fd::fs,acc,sh,ds,h,hr,hl,h1,h2,h3=>by
  unfold qj6 at h
  split at h
  case h_2=>cases h
  rename_i s hs
  split at h
  case isFalse=>cases h
  rename_i hc
  obtain ⟨hc1,hc2⟩:=hc
  obtain ⟨x,hx⟩:=hr fd (List.mem_cons_self ..)
  obtain ⟨ds2,g1,g2,g3⟩:=hf _ _ hs _ _ _ hx
  have hlen:=g1.length
  have hlen2:=g2.len
  rw [List.length_take,List.length_drop] at hlen
  have e1:cells.take (acc++s).length=cells.take acc.length++(cells.drop fd.offset).take (P.cellsOf fd.type):=by
   rw [hc1,<-hc2,List.length_append,List.take_add]
  have hl':(acc++s).length<=cells.length:=by
   rw [List.length_append]
   rcases Nat.eq_zero_or_pos s.length with h0|h0
   ·omega
   ·omega
  refine qh2 hf fs (acc++s) sh (ds++ds2) h (fun fd' hfd=>hr fd' (List.mem_cons_of_mem _ hfd)) hl' (by rw [e1];exact h1.append g1) (h2.app g2) (fun c hc=>?_)
  rw [e1,List.mem_append] at hc
  rcases hc with hc|hc
  ·exact h3 c hc
  ·exact g3 c hc
theorem opens : ∀(n:Nat) (t:TypeId) (sh:List Sh),shapeOf P n t=some sh->jjo enc P W t sh
 | 0,_,_,h=>by cases h
 | n+1,t,sh,h=>by
  intro fuel cells x hx
  unfold shapeOf at h
  split at h
  ·rename_i k hu
   simp only [Option.some.injEq] at h;subst h
   obtain ⟨m,rfl,_,hw⟩:=DataW.trod_int hu hx
   exact ⟨[.v (.int k m)],⟨.v _,trivial⟩,by unfold q4d q4d Typ;exact ⟨⟨m,rfl,hw⟩,trivial⟩,fun c hc=>by simp at hc;rw [hc];rfl⟩
  ·rename_i hu
   simp only [Option.some.injEq] at h;subst h
   obtain ⟨b,rfl,_⟩:=DataW.trod_bool hu hx
   exact ⟨[.v (.bool b)],⟨.v _,trivial⟩,by unfold q4d q4d Typ;exact ⟨⟨b,rfl⟩,trivial⟩,fun c hc=>by simp at hc;rw [hc];rfl⟩
  ·rename_i hu
   simp only [Option.some.injEq] at h;subst h
   obtain ⟨s,rfl,_,hs⟩:=DataW.trod_string hu hx
   exact ⟨[.v (.string s)],⟨.v _,trivial⟩,by unfold q4d q4d Typ;exact ⟨⟨s,rfl,hs⟩,trivial⟩,fun c hc=>by simp at hc;rw [hc];rfl⟩
  ·rename_i e hu
   split at h
   case h_2=>cases h
   rename_i s hs
   split at h
   case isFalse=>cases h
   rename_i hc
   obtain ⟨hc1,hc2⟩:=hc
   simp only [Option.some.injEq] at h;subst h
   have ih:=opens n e s hs
   rcases Deep.open_slice hu hx with ⟨rfl,_⟩|⟨a,len,cap,m,n',D,Pl,rfl,hb,hl,hm,hmm,_,hi⟩
   ·refine ⟨[.lst s.length []],⟨.lst none 0 0 s.length [] 0 0 (fun _ _=>undef) rfl (Nat.le_refl _) (Nat.zero_le _) (fun x hx=>by cases hx) (fun h=>by simp at h) (fun k j hk=>by simp at hk) (fun k j hk=>by simp at hk),trivial⟩,?_,fun c hc=>by simp at hc;rw [hc];rfl⟩
    unfold q4d q4d Typ
    exact ⟨⟨rfl,by simp,fun x hx=>by cases hx⟩,trivial⟩
   ·have hge:len<=m:=by rw [hmm];split<;>omega
    have hp : ∀i,∃ p:List Value×List Dat,i<len->(∀j (hj:j<p.1.length),W.cell? ((a.add (i*s.length)).add j)=some p.1[j])/\q15 (DatRep (Old W) W) p.1 p.2/\q4d s p.2/\∀c∈p.1,c.oneCell'=true:=by
     intro i
     by_cases h:i<len
     ·obtain ⟨cs',hcs,ht⟩:=hi i (by omega)
      obtain ⟨_,hlen',hat⟩:=World.cells?_some hcs
      obtain ⟨ds,g1,g2,g3⟩:=ih _ _ _ ht
      refine ⟨(cs',ds),fun _=>⟨fun j hj=>?_,g1,g2,g3⟩⟩
      have hj':j<cs'.length:=hj
      have:=hat j (by omega)
      rw [<-hc2] at this
      exact this.trans (List.getElem?_eq_getElem hj')
     ·exact ⟨([],[]),fun h'=>absurd h' h⟩
    obtain ⟨f,hfp⟩:=Classical.axiomOfChoice hp
    have hlenD : ∀i,i<len->(f i).2.length=s.length/\(f i).1.length=s.length:=fun i hi=>by
     obtain ⟨_,g1,g2,_⟩:=hfp i hi
     exact ⟨g2.len,g1.length.trans g2.len⟩
    have htl:((List.range len).map fun i=>(f i).2).length=len:=by simp
    refine ⟨[.lst s.length ((List.range len).map fun i=>(f i).2)],⟨?_,trivial⟩,?_,fun c hc=>by simp at hc;rw [hc];rfl⟩
    ·by_cases h0:len=0
     ·subst h0
      exact .lst _ _ _ s.length _ 0 0 (fun _ _=>undef) rfl hl hm (fun x hx=>by simp at hx) (fun h=>by simp at h) (fun k j hk=>by simp at hk) (fun k j hk=>by simp at hk)
     ·obtain ⟨b,off,sp⟩:=a
      have hl0:=(hlenD 0 (by omega)).2
      have g0:=(hfp 0 (by omega)).1 0 (by omega)
      have hspot:sp=none:=by simpa [Addr.add] using World.cell?_spot g0
      subst hspot
      refine .lst _ _ _ s.length _ b off (fun k j=>(f k).1.getD j undef) htl.symm hl hm (fun x hx=>?_) (fun _=>rfl) (fun k j hk hj=>?_) (fun k j hk hj=>?_)
      ·obtain ⟨i,hi',rfl⟩:=List.mem_map.1 hx
       exact (hlenD i (List.mem_range.1 hi')).1
      ·rw [htl] at hk
       have hjl:j<(f k).1.length:=by rw [(hlenD k hk).2];exact hj
       have gj:=(hfp k hk).1 j hjl
       rw [Addr.add_lit,Addr.add_lit] at gj
       have hgd:(f k).1.getD j undef=(f k).1[j]:=by simp [List.getD,hjl]
       rw [hgd]
       exact ⟨jiz gj,gj,(hfp k hk).2.2.2 _ (List.getElem_mem _)⟩
      ·rw [htl] at hk
       simp only [List.getElem_map,List.getElem_range] at hj ⊢
       have hjl:j<(f k).1.length:=by rw [(hlenD k hk).2,<-(hlenD k hk).1];exact hj
       have hgd:(f k).1.getD j undef=(f k).1[j]:=by simp [List.getD,hjl]
       rw [hgd]
       exact (hfp k hk).2.1.get j hjl hj
    ·unfold q4d q4d Typ
     refine ⟨⟨rfl,by rw [htl];omega,fun x hx=>?_⟩,trivial⟩
     obtain ⟨i,hi',rfl⟩:=List.mem_map.1 hx
     exact (hfp i (List.mem_range.1 hi')).2.2.1
  ·rename_i fs hu
   split at h
   case h_2=>cases h
   rename_i s hs
   split at h
   case isFalse=>cases h
   rename_i hst
   simp only [Option.some.injEq] at h;subst h
   obtain ⟨xs,n',_,_,hcl,hl,he⟩:=DataW.trod_struct hu hx
   obtain ⟨h1,ds,h2,h3,h4⟩:=qh2 (cells:=cells) (n:=n') (fun t s=>opens n t s) fs.toList [] s [] hs (fun fd hfd=>by
    obtain ⟨i,hi,rfl⟩:=List.getElem_of_mem hfd
    have hif:i<fs.size:=by simpa using hi
    have:=he i fs[i] (Array.getElem?_eq_getElem hif)
    rw [List.getElem?_eq_getElem (by omega)] at this
    exact ⟨_,by simpa using this⟩) (Nat.zero_le _) trivial (by unfold q4d;trivial) (fun c hc=>by simp at hc)
   rw [List.take_of_length_le (by omega)] at h2 h4
   exact ⟨ds,h2,h3,h4⟩
  ·cases h
def argD:Bool->List Dat->D
 | true,ds=>.one (.agg (ds.map .d))
 | false,[d]=>.one (.c (.d d))
 | false,_=>.one (.c .bad)
theorem j4h {n base:Nat} {t:TypeId} {s:Sh} {v:Value} {d:DataW H} {p:List MemPlace} (hs:shapeOf P n t=some [s]) (ha:qd3 P t=some false)
  (hv:Value.okWide P W .any base t v) (h:DataW.Trod enc P W 0 (fun _=>true) true t v d p) : ∃ x,Typ s x/\q1t (q1x (Old W)) q2i W v (argD false [x]):=by
 obtain ⟨fuel,hf⟩:=h
 have hc:v.cells.toList = [v]:=by
  cases n with
  | zero=>cases hs
  | succ n =>
   unfold shapeOf at hs
   split at hs
   ·rename_i k hu;obtain ⟨m,rfl⟩:=okWide_int hu hv;rfl
   ·rename_i hu;obtain ⟨m,rfl⟩:=okWide_bool hu hv;rfl
   ·rename_i hu;obtain ⟨m,rfl⟩:=okWide_string hu hv;rfl
   ·rename_i e hu;obtain ⟨a,l,c,rfl⟩:=okWide_slice hu hv;rfl
   ·rename_i fs hu;unfold qd3 at ha;rw [hu] at ha;simp at ha
   ·cases hs
 obtain ⟨ds,h1,h2,_⟩:=opens n t [s] hs _ _ _ hf
 rw [hc] at h1
 match ds,h1,h2 with
 | [x],h1,h2 =>
  unfold q4d at h2
  exact ⟨x,h2.1,h1.1⟩
end Go.Proofs.YthpgnliicpejoaaGreatDoor.AM
