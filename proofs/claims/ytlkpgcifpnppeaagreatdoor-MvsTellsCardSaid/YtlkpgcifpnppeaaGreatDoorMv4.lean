
import Derived.Test.YtlkpgcifpnppeaaGreatDoorMv3
import Derived.ProofKit
import Derived.OpenShut
import Derived.ShutString
import Derived.ChangeOld
import Derived.SliceStrings
import Derived.Deep.Slices
set_option linter.unusedVariables false
set_option linter.unusedSimpArgs false
namespace Go.Proofs.YtlkpgcifpnppeaaGreatDoor.AM
open Go.RowKit
variable {F:Fr} {σ σ':St} {e:Env} {a:Act} {w:World} {P:Program}
def qxa:C->List Loc
 | .box β _=>[.b β]
 | .bsl β _=>[.b β]
 | .mv β=>[.b β]
 | .row t _=>[.r t]
 | .wp t _ _ _=>[.r t]
 | _=>[]
def qp3:List C->List Loc
 | []=>[]
 | c::cs=>qxa c++qp3 cs
def j7s:D1->List Loc
 | .c x=>qxa x
 | .agg cs=>qp3 cs
def q69:D->List Loc
 | .one x=>j7s x
 | .tup _=>[]
def AgD (d:D) (bx bx':Nat->Option (Nat×List C)) (rw rw':Nat->Option Row):Prop:=(∀β,Loc.b β∈q69 d->bx' β=bx β)/\(∀t,Loc.r t∈q69 d->rw' t=rw t)
section
variable {bx bx':Nat->Option (Nat×List C)} {rw rw':Nat->Option Row}
theorem qzf {t:TypeId} {p:D} (h:AgD p bx bx' rw rw'):q81 P t p bx' rw'=q81 P t p bx rw:=by
 unfold q81
 split
 ·rw [h.1 _ (by simp [q69,j7s,qxa])]
 ·rfl
 ·rw [h.2 _ (by simp [q69,j7s,qxa])]
 ·rfl
theorem qt8 {t:TypeId} {p x:D} (h:AgD p bx bx' rw rw'):q3t P t p x bx' rw'=q3t P t p x bx rw:=by
 unfold q3t
 split
 ·split
  ·split
   ·split
    ·rw [h.1 _ (by simp [q69,j7s,qxa])]
    ·rw [h.2 _ (by simp [q69,j7s,qxa])]
    ·rfl
   ·rfl
  ·rfl
 ·rfl
theorem qhc {t:TypeId} {x i:D} (h:AgD x bx bx' rw rw'):q0u P t x i rw'=q0u P t x i rw:=by
 unfold q0u
 split
 ·split
  ·rfl
  ·rw [h.2 _ (by simp [q69,j7s,qxa])]
  ·rfl
 ·rfl
 ·rfl
theorem j45 {t:TypeId} {x:D} (h:AgD x bx bx' rw rw'):qgh P t x rw'=qgh P t x rw:=by
 unfold qgh
 split
 ·rfl
 ·rfl
 ·rfl
 ·rw [h.2 _ (by simp [q69,j7s,qxa])]
 ·rfl
theorem qko {m:Nat} {x:D} (h:AgD x bx bx' rw rw'):qiz m x rw'=qiz m x rw:=by
 unfold qiz
 split
 ·rfl
 ·rfl
 ·rw [h.2 _ (by simp [q69,j7s,qxa])]
 ·rfl
theorem qox {dst:Option Nat} {t:TypeId} {s x:D} (hs:AgD s bx bx' rw rw') (hx:AgD x bx bx' rw rw') (hd : ∀i,dst=some i->rw' i=rw i):q2u P dst t s x rw'=q2u P dst t s x rw:=by
 unfold q2u
 simp only [qko hx]
 split
 ·split
  ·split
   ·split
    ·rw [hs.2 _ (by simp [q69,j7s,qxa])]
    ·split
     ·rw [hd _ rfl]
     ·rfl
    ·rfl
   ·rfl
  ·rfl
 ·rfl
theorem qfr {dst:Option Nat} {t:TypeId} {n:Nat} {ps:Array (Nat×Operand)} {ρ:Operand->D} (hd : ∀i,dst=some i->rw' i=rw i):q0x P dst t n ps ρ rw'=q0x P dst t n ps ρ rw:=by
 unfold q0x
 split
 ·rw [hd _ rfl]
 ·rfl
theorem qtd {dst:Option Nat} {t:TypeId} (hd : ∀i,dst=some i->bx' i=bx i):q93 P dst t bx'=q93 P dst t bx:=by
 unfold q93
 split
 ·rw [hd _ rfl]
 ·rfl
theorem j2a {dst:Option Nat} {t:TypeId} {x:D} (hd : ∀i,dst=some i->bx' i=bx i):qn9 dst t x bx'=qn9 dst t x bx:=by
 unfold qn9
 split
 ·rw [hd _ rfl]
 ·rfl
theorem qim {t:TypeId} {x:D} {lo hi:Option D} (h:AgD x bx bx' rw rw'):q33 P t x lo hi rw'=q33 P t x lo hi rw:=by
 unfold q33
 split
 ·rw [h.2 _ (by simp [q69,j7s,qxa])]
 ·rfl
theorem qo3 {dst:Option Nat} {s d:TypeId} {x:D} (h:AgD x bx bx' rw rw') (hd : ∀i,dst=some i->rw' i=rw i):q3n P dst s d x rw'=q3n P dst s d x rw:=by
 unfold q3n
 simp only [qko h]
 split
 ·rfl
 ·split
  ·rw [hd _ rfl]
  ·rfl
 ·rfl
theorem qwt {dst:Option Nat} {t:TypeId} {x:D} (hd : ∀i,dst=some i->rw' i=rw i):qfn P dst t x rw'=qfn P dst t x rw:=by
 unfold qfn
 split
 ·rw [hd _ rfl]
 ·rfl
theorem ql6 {dst:Option Nat} {t:TypeId} (hd : ∀i,dst=some i->bx' i=bx i):q4a P dst t bx'=q4a P dst t bx:=by
 unfold q4a
 split
 ·rw [hd _ rfl]
 ·rfl
theorem qpc {t:TypeId} {x i:D} {ok:Bool} (h:AgD x bx bx' rw rw'):q2m P t x i ok bx'=q2m P t x i ok bx:=by
 unfold q2m
 split
 ·rw [h.1 _ (by simp [q69,j7s,qxa])]
 ·rfl
theorem qbz {t:TypeId} {m i x:D} (h:AgD m bx bx' rw rw'):q2x P t m i x bx'=q2x P t m i x bx:=by
 unfold q2x
 split
 ·rw [h.1 _ (by simp [q69,j7s,qxa])]
 ·rfl
theorem qah {ρ ρ':Operand->D} : ∀{ps:List (Nat×Operand)},(∀p∈ps,ρ' p.2=ρ p.2)->q9n ρ' ps=q9n ρ ps
 | [],_=>rfl
 | (i,x)::ps,h=>by
  unfold q9n
  rw [h _ (List.mem_cons_self ..),qah (fun p hp=>h p (List.mem_cons_of_mem _ hp))]
theorem j13 {o:Oper} {ρ ρ':Operand->D} (hρ : ∀x∈o.op.operands.toList,ρ' x=ρ x) (hl : ∀x∈o.op.operands.toList,AgD (ρ x) bx bx' rw rw') (hb : ∀i,o.dst=some i->bx' i=bx i) (hr : ∀i,o.dst=some i->rw' i=rw i) :
  qce P o ρ' bx' rw'=qce P o ρ bx rw:=by
 unfold qce
 generalize hop:o.op=op at hρ hl ⊢
 split<;>simp only [Op.operands,Call.operands] at hρ hl
 ·rw [hρ _ (by simp)]
 ·rw [hρ _ (by simp)]
 ·rw [hρ _ (by simp),hρ _ (by simp),hρ _ (by simp)]
 ·exact qtd hb
 ·rw [hρ _ (by simp)];exact j2a hb
 ·rw [hρ _ (by simp)];exact qzf (hl _ (by simp))
 ·rw [hρ _ (by simp),hρ _ (by simp)];exact qt8 (hl _ (by simp))
 ·rw [hρ _ (by simp)]
 ·rw [hρ _ (by simp)]
 ·rw [hρ _ (by simp),hρ _ (by simp)]
 ·rw [hρ _ (by simp),hρ _ (by simp)];exact qhc (bx:=bx) (bx':=bx') (hl _ (by simp))
 ·rw [hρ _ (by simp)]
 ·unfold qdw
  rw [qah (ρ:=ρ) (ρ':=ρ') fun p hp=>hρ p.2 (by simpa using ⟨p.1,Array.mem_toList_iff.1 hp⟩)]
 ·rw [qfr hr]
  unfold q0x
  rw [qah (ρ:=ρ) (ρ':=ρ') fun p hp=>hρ p.2 (by simpa using ⟨p.1,Array.mem_toList_iff.1 hp⟩)]
 ·rw [hρ _ (by simp),hρ _ (by simp)]
 ·rw [hρ _ (by simp)]
 ·rw [hρ _ (by simp)]
 ·rw [hρ _ (by simp),qo3 (bx:=bx) (bx':=bx') (hl _ (by simp)) hr]
 ·rename_i t x lo hi
  rw [hρ x (by simp)]
  have e1:lo.map ρ'=lo.map ρ:=by cases lo<;>simp;exact hρ _ (by simp)
  have e2:hi.map ρ'=hi.map ρ:=by cases hi<;>simp;exact hρ _ (by simp)
  rw [e1,e2,qim (bx:=bx) (bx':=bx') (hl _ (by simp))]
 ·rw [hρ _ (by simp)]
 ·rw [hρ _ (by simp)];exact j45 (bx:=bx) (bx':=bx') (hl _ (by simp))
 ·split
  ·rw [hρ _ (by simp),hρ _ (by simp)];exact qox (bx:=bx) (bx':=bx') (hl _ (by simp)) (hl _ (by simp)) hr
  ·rfl
 ·rw [hρ _ (by simp),qwt hr]
 ·rw [hρ _ (by simp),hρ _ (by simp)]
 ·rw [hρ _ (by simp),hρ _ (by simp)]
 ·congr 1
  exact List.map_congr_left fun x hx=>hρ x (by simpa using hx)
 ·congr 1
  exact List.map_congr_left fun x hx=>hρ x (by simpa using hx)
 ·exact ql6 hb
 ·rw [hρ _ (by simp),hρ _ (by simp)];exact qpc (hl _ (by simp))
 ·rw [hρ _ (by simp),hρ _ (by simp),hρ _ (by simp)];exact qbz (hl _ (by simp))
 ·rw [hρ _ (by simp),hρ _ (by simp),hρ _ (by simp)];exact qbz (hl _ (by simp))
 ·rfl
end
def qd0 (σ:St):List Operand->List Loc
 | []=>[]
 | x::xs=>q69 (opnd σ x)++qd0 σ xs
def qh9:List Operand->List Loc
 | []=>[]
 | .tmp t::xs=>.s t::qh9 xs
 | _::xs=>qh9 xs
def qj7 (ops:Array Oper) (o:Oper):List Loc:=match o.guard with
 | some (g,_)=>match (ops[g]?).bind (·.dst) with
  | some t=>[.s t]
  | none=>[]
 | none=>[]
def qru (o:Oper):List Loc:=match o.dst with
 | some i=>[.b i,.r i]
 | none=>[]
def q3v (ops:Array Oper) (σ:St) (o:Oper):List Loc:=qj7 ops o++(qh9 o.op.operands.toList++(qd0 σ o.op.operands.toList++qru o))
theorem qms {t:Nat} : ∀{xs:List Operand},Operand.tmp t∈xs->Loc.s t∈qh9 xs
 | x::xs,h=>by
  rcases List.mem_cons.1 h with rfl|h
  ·exact List.mem_cons_self ..
  ·have ih:=qms h
   cases x with
   | tmp t'=>exact List.mem_cons_of_mem _ ih
   | const v=>exact ih
   | global g=>exact ih
   | func f=>exact ih
theorem qk5 {x:Operand} {l:Loc} : ∀{xs:List Operand},x∈xs->l∈q69 (opnd σ x)->l∈qd0 σ xs
 | y::xs,h,hl=>by
  rw [qd0,List.mem_append]
  rcases List.mem_cons.1 h with rfl|h
  ·exact Or.inl hl
  ·exact Or.inr (qk5 h hl)
variable {ops:Array Oper} {o:Oper} {j:Nat} {rest:List Oper} {pre:List En} {K:St->Prop}
theorem qay (h : ∀l∈q3v ops σ o,σ'.get l=σ.get l) : ∀x∈o.op.operands.toList,opnd σ' x=opnd σ x:=by
 intro x hx
 cases x with
 | tmp t =>
  have:=h (.s t) (by unfold q3v;simp only [List.mem_append];exact Or.inr (Or.inl (qms hx)))
  simp only [St.get,LV.s.injEq] at this
  exact this
 | _=>rfl
theorem qbg (h : ∀l∈q3v ops σ o,σ'.get l=σ.get l) : ∀x∈o.op.operands.toList,AgD (opnd σ x) σ.box σ'.box σ.row σ'.row:=by
 intro x hx
 have hm : ∀l,l∈q69 (opnd σ x)->l∈q3v ops σ o:=fun l hl=>by
  unfold q3v;simp only [List.mem_append];exact Or.inr (Or.inr (Or.inl (qk5 hx hl)))
 exact ⟨fun β hβ=>by have:=h _ (hm _ hβ);simpa [St.get] using this,fun t ht=>by have:=h _ (hm _ ht);simpa [St.get] using this⟩
theorem qvt (h : ∀l∈q3v ops σ o,σ'.get l=σ.get l):(∀i,o.dst=some i->σ'.box i=σ.box i)/\(∀i,o.dst=some i->σ'.row i=σ.row i):=by
 have hm : ∀i,o.dst=some i->Loc.b i∈q3v ops σ o/\Loc.r i∈q3v ops σ o:=fun i hi=>by
  unfold q3v qru;rw [hi];simp
 exact ⟨fun i hi=>by have:=h _ (hm i hi).1;simpa [St.get] using this,fun i hi=>by have:=h _ (hm i hi).2;simpa [St.get] using this⟩
theorem qbk (h : ∀l∈q3v ops σ o,σ'.get l=σ.get l):q47 ops σ' o=q47 ops σ o:=by
 unfold q47
 cases hg:o.guard with
 | none=>rfl
 | some p =>
  obtain ⟨g,want⟩:=p
  simp only
  cases ht:(ops[g]?).bind (·.dst) with
  | none=>rfl
  | some t =>
   have:=h (.s t) (by unfold q3v qj7;rw [hg];simp [ht])
   have h2:σ'.slot t=σ.slot t:=by simpa [St.get] using this
   simp only [h2]
theorem jde (hn:q8q F.n ops=true) (ho:ops[j]? = some o) (hw:q47 ops σ o=some true) {res:Res} (he:qce P o (opnd σ) σ.box σ.row=some res) (hc:res.cond):jdg P F ops j ⟨q3v ops σ o,o.dst,res⟩ σ:=by
 intro σ' h e a w hR Qx K hK
 have hd : ∀k,o.dst=some k->k<F.n:=fun k hk=>q2e hn (by rw [ho];exact hk)
 have he':qce P o (opnd σ') σ'.box σ'.row=some res:=by
  rw [j13 (qay h) (qbg h) (qvt h).1 (qvt h).2];exact he
 obtain ⟨v,w',e',h1,h2,h3,h4⟩:=j6j hd he' e a w hR hc
 have hR':R F ((σ'.app res).put o.dst res.val) e' (a.put o.dst v) w':=hR.next h2 h3 rfl o.dst hd v res.val h4
 have hnext:=hK _ _ e' hR'
 unfold wpOp
 simp only [ho]
 rw [q73 hR ((qbk h).trans hw) (fun g _ t ht=>q2e hn ht),if_pos rfl]
 refine .inl ?_
 unfold Oper.wp
 rcases h1 with h1|⟨h1,rfl⟩
 ·rw [h1];exact hnext
 ·rw [h1];exact hnext
theorem jd0 (hn:q8q F.n ops=true) (ho:ops[j]? = some o) (hw:q47 ops σ o=some false):jdg P F ops j ⟨q3v ops σ o,o.dst,{ cond:=True,val:=q67 undef }⟩ σ:=by
 intro σ' h e a w hR Qx K hK
 have hd : ∀k,o.dst=some k->k<F.n:=fun k hk=>q2e hn (by rw [ho];exact hk)
 have hR':R F (σ'.put o.dst (q67 undef)) e (a.put o.dst undef) w:=hR.pure hd (q04 _)
 unfold wpOp
 simp only [ho]
 rw [q73 hR ((qbk h).trans hw) (fun g _ t ht=>q2e hn ht),if_neg (by decide)]
 exact hK _ _ e hR'
theorem qmm {rw rw':Nat->Option Row} {c:C} (h : ∀t,Loc.r t∈qxa c->rw' t=rw t):qvs rw' c=qvs rw c:=by
 unfold qvs
 split
 ·rfl
 ·rfl
 ·rw [h _ (by simp [qxa])]
 ·rfl
theorem qia {rw rw':Nat->Option Row} : ∀{cs:List C},(∀t,Loc.r t∈qp3 cs->rw' t=rw t)->qfb rw' cs=qfb rw cs
 | [],_=>rfl
 | c::cs,h=>by
  unfold qfb
  rw [qmm (fun t ht=>h t (by rw [qp3,List.mem_append];exact Or.inl ht)),qia (fun t ht=>h t (by rw [qp3,List.mem_append];exact Or.inr ht))]
theorem j10 {rw rw':Nat->Option Row} {d:D} (h : ∀t,Loc.r t∈q69 d->rw' t=rw t):j0y rw' d=j0y rw d:=by
 cases d with
 | one x =>
  cases x with
  | c x=>simp only [j0y,j0s,qmm (c:=x) h]
  | agg cs=>simp only [j0y,j0s,qia (cs:=cs) h]
 | tup xs=>rfl
theorem qic {rw rw':Nat->Option Row} : ∀{ds:List D},(∀d∈ds,∀t,Loc.r t∈q69 d->rw' t=rw t)->q9o rw' ds=q9o rw ds
 | [],_=>rfl
 | d::ds,h=>by
  unfold q9o
  rw [j10 (h d (List.mem_cons_self ..)),qic (fun d' hd'=>h d' (List.mem_cons_of_mem _ hd'))]
theorem jnp (hn:q8q F.n ops=true) (ho:ops[j]? = some o) (hw:q47 ops σ o=some true) {x:Operand} {xs:Array Operand} {ts:Array TypeId} (hop:o.op = .call { callee:=.value x,args:=xs,argTypes:=ts })
  {f:FuncId} (hf:callee σ x=some f) (hb:q5h P f=true) {ds:List D} (hds:q9o σ.row (xs.toList.map (opnd σ))=some ds) {d:D} (hc:qfh P F.G f ds d):jdg P F ops j ⟨q3v ops σ o,o.dst,{ cond:=True,val:=d }⟩ σ:=by
 intro σ' h e a w hR Qx K hK
 have hd : ∀k,o.dst=some k->k<F.n:=fun k hk=>q2e hn (by rw [ho];exact hk)
 have hops:=qay h
 have hheap:=qbg h
 rw [hop] at hops hheap
 simp only [Op.operands,Call.operands] at hops hheap
 have hx:opnd σ' x=opnd σ x:=hops x (by simp)
 have hxs:xs.toList.map (opnd σ')=xs.toList.map (opnd σ):=List.map_congr_left fun y hy=>hops y (by simp;exact Or.inr (by simpa using hy))
 have hds':q9o σ'.row (xs.toList.map (opnd σ'))=some ds:=by
  rw [hxs,qic (rw:=σ.row) (rw':=σ'.row)]
  ·exact hds
  ·intro d' hd' t ht
   obtain ⟨y,hy,rfl⟩:=List.mem_map.1 hd'
   exact (hheap y (by simp;exact Or.inr (by simpa using hy))).2 t ht
 have hf':callee σ' x=some f:=by unfold callee at *;rw [hx];exact hf
 unfold wpOp
 simp only [ho]
 rw [q73 hR ((qbk h).trans hw) (fun g _ t ht=>q2e hn ht),if_pos rfl]
 refine .inl ?_
 unfold callee at hf'
 split at hf'
 case h_2=>cases hf'
 rename_i f' hxx
 simp only [Option.some.injEq] at hf'
 subst hf'
 have h1:=hR.opnd x
 rw [hxx] at h1
 have h2:=q07 h1
 have hrun:(execOp a.eval o).run P w = .ok (.enter f' (xs.map a.eval)) w:=by
  have:=qj5 hb (xs.map a.eval) w
  simp [execOp,hop,Sem.run_bind,resolve,h2,Deferred.ofValue,invoke,this]
 unfold Oper.wp
 rw [hrun]
 refine (qfq hc hR.hp (vs:=xs.map a.eval) (by rw [Array.toList_map];exact qle hR.hp hds' (qeu hR _))).mono ?_
 rintro en w' ⟨v,e',rfl,h3,h4,h5⟩
 exact hK _ _ e' (hR.next h3 h4 rfl o.dst hd v d h5)
def qll (P:Program) (F:Fr) (ops:Array Oper) (pre:List En) (rest:List Oper) (σ:St) (K:St->Prop):Prop :=
 q8q F.n ops=true->ops.toList.drop pre.length=rest->∃ post,qe0 P F ops pre.length σ post/\j5g ops (pre.reverse++post)=true/\K (qfx post σ)
theorem jpu (hok:j5g ops pre.reverse=true) (h:K σ):qll P F ops pre [] σ K:=fun _ _=>⟨[],trivial,by simpa using hok,h⟩
theorem qti {en:En} (hen:q8q F.n ops=true->ops[pre.length]? = some o->jdg P F ops pre.length en σ) (h:qll P F ops (en::pre) rest (en.app σ) K):qll P F ops pre (o::rest) σ K:=by
 intro hn hdrop
 have ho:ops[pre.length]? = some o:=by
  have:(ops.toList.drop pre.length)[0]? = some o:=by rw [hdrop];rfl
  rw [List.getElem?_drop,Nat.add_zero] at this
  simpa using this
 have hdrop':ops.toList.drop (en::pre).length=rest:=by
  rw [List.length_cons,<-List.drop_drop,hdrop];rfl
 obtain ⟨post,h1,h2,h3⟩:=h hn hdrop'
 exact ⟨en::post,⟨hen hn ho,h1⟩,by simpa using h2,h3⟩
def jnr (σ:St) (rl:List Loc) (dst:Option Nat) (K1:En->St->Prop):Option Bool->Option Res->Prop
 | some true,some res=>res.cond/\K1 ⟨rl,dst,res⟩ ((σ.app res).put dst res.val)
 | some false,_=>K1 ⟨rl,dst,{ cond:=True,val:=q67 undef }⟩ (σ.put dst (q67 undef))
 | _,_=>False
theorem jpa (h : ∀K1:En->St->Prop,(∀en σ',qll P F ops (en::pre) rest σ' K->K1 en σ')->jnr σ (q3v ops σ o) o.dst K1 (q47 ops σ o) (qce P o (opnd σ) σ.box σ.row)):qll P F ops pre (o::rest) σ K:=by
 have h:=h (fun en σ'=>qll P F ops (en::pre) rest σ' K) (fun _ _ h=>h)
 unfold jnr at h
 split at h
 ·rename_i res hw he
  exact qti (fun hn ho=>jde hn ho hw he h.1) h.2
 ·rename_i hw
  refine qti (en:=⟨q3v ops σ o,o.dst,{ cond:=True,val:=q67 undef }⟩) (fun hn ho=>jd0 hn ho hw) ?_
  have e1:(⟨q3v ops σ o,o.dst,{ cond:=True,val:=q67 undef }⟩:En).app σ=σ.put o.dst (q67 undef):=rfl
  rw [e1];exact h
 ·exact h.elim
theorem jox (hw:q47 ops σ o=some true) {x:Operand} {xs:Array Operand} {ts:Array TypeId} (hop:o.op = .call { callee:=.value x,args:=xs,argTypes:=ts })
  {f:FuncId} (hf:callee σ x=some f) (hb:q5h P f=true) {ds:List D} (hds:q9o σ.row (xs.toList.map (opnd σ))=some ds) {d:D} (hc:qfh P F.G f ds d)
  (h : ∀K1:En->St->Prop,(∀en σ',qll P F ops (en::pre) rest σ' K->K1 en σ')->K1 ⟨q3v ops σ o,o.dst,{ cond:=True,val:=d }⟩ (σ.put o.dst d)):qll P F ops pre (o::rest) σ K:=by
 have h:=h (fun en σ'=>qll P F ops (en::pre) rest σ' K) (fun _ _ h=>h)
 refine qti (fun hn ho=>jnp hn ho hw hop hf hb hds hc) ?_
 have e1:(⟨q3v ops σ o,o.dst,{ cond:=True,val:=d }⟩:En).app σ=σ.put o.dst d:=rfl
 rw [e1];exact h
theorem jgv {id:Nat} {l:List Oper} {y:Code} {Q:Exit->St->Prop} (hm:P.follows .mixedOrders=true) (hn:q8q F.n l.toArray=true) (h:qll P F l.toArray [] l σ (fun σ'=>q1w P F y σ' Q)):q1w P F (.seq (.region id l.toArray true) y) σ Q:=by
 obtain ⟨post,h1,h2,h3⟩:=h hn (by simp)
 exact qkd (qq7 hm hn post h1 (by simpa using h2) h3)
theorem jgr {id:Nat} {l:List Oper} {Q:Exit->St->Prop} (hm:P.follows .mixedOrders=true) (hn:q8q F.n l.toArray=true) (h:qll P F l.toArray [] l σ (Q .normal)):q1w P F (.region id l.toArray true) σ Q:=by
 obtain ⟨post,h1,h2,h3⟩:=h hn (by simp)
 exact qq7 hm hn post h1 (by simpa using h2) h3
theorem jml (a:Array UInt8):(ByteArray.mk a).size=a.size:=rfl
attribute [push_cast] Option.pure_def Option.bind_eq_bind Option.bind_some Nat.zero_mul Nat.mul_zero Nat.one_mul Nat.mul_one Nat.zero_le Option.isSome_some Option.isSome_none jml List.size_toArray Nat.zero_add Nat.add_zero St.of List.lookup_cons List.lookup_nil Option.getD_some Option.getD_none beq_self_eq_true clD cl1 clC List.forall_mem_cons jnr q3v qj7 qh9 qd0 qru q69 j7s qxa qp3 Op.operands Call.operands callee List.append_nil
end Go.Proofs.YtlkpgcifpnppeaaGreatDoor.AM
namespace Go.Proofs.YtlkpgcifpnppeaaGreatDoor.AM
open Go.RowKit Go.ChangeShapes Go.WideShapes Go.ChangeAt
inductive Sh where
 | int (k:IntKind)
 | bool
 | str
 | lst (e:List Sh)
mutual
def Typ:Sh->Dat->Prop
 | .int k,.v x=>∃ n,x = .int k n/\(Lit.int k n).wf=true
 | .bool,.v x=>∃ b,x = .bool b
 | .str,.v x=>∃ s:ByteArray,x = .string s/\s.size<=maxLen
 | .lst e,.lst sz xs=>sz=e.length/\xs.length<=maxLen/\∀x∈xs,q52 e x
 | _,_=>False
def q52:List Sh->List Dat->Prop
 | [],[]=>True
 | s::ss,d::ds=>Typ s d/\q52 ss ds
 | _,_=>False
end
theorem q52.len : ∀{ss:List Sh} {ds:List Dat},q52 ss ds->ds.length=ss.length
 | [],[],_=>rfl
 | _::ss,_::ds,h=>by
  unfold q52 at h
  rw [List.length_cons,List.length_cons,q52.len h.2]
 | [],_::_,h=>by unfold q52 at h;exact h.elim
 | _::_,[],h=>by unfold q52 at h;exact h.elim
theorem q52.app : ∀{ss:List Sh} {ds:List Dat} {ss':List Sh} {ds':List Dat},q52 ss ds->q52 ss' ds'->q52 (ss++ss') (ds++ds')
 | [],[],_,_,_,h=>h
 | _::ss,_::ds,_,_,h,h'=>by
  unfold q52 at h
  rw [List.cons_append,List.cons_append]
  unfold q52
  exact ⟨h.1,q52.app h.2 h'⟩
 | [],_::_,_,_,h,_=>by unfold q52 at h;exact h.elim
 | _::_,[],_,_,h,_=>by unfold q52 at h;exact h.elim
def qm8 (f:TypeId->Option (List Sh)) (cells:TypeId->Nat):List Field->List Sh->Option (List Sh)
 | [],acc=>some acc
 | fd::fs,acc=>match f fd.type with
  | some s=>if fd.offset=acc.length/\s.length=cells fd.type then qm8 f cells fs (acc++s) else none
  | none=>none
def shapeOf (P:Program):Nat->TypeId->Option (List Sh)
 | 0,_=>none
 | n+1,t=>match P.underlying t with
  | some (.int k)=>some [.int k]
  | some .bool=>some [.bool]
  | some .string=>some [.str]
  | some (.slice e)=>match shapeOf P n e with
   | some s=>if 0<s.length/\s.length=P.cellsOf e then some [.lst s] else none
   | none=>none
  | some (.struct fs)=>match qm8 (shapeOf P n) P.cellsOf fs.toList [] with
   | some s=>if s.length=P.cellsOf t then some s else none
   | none=>none
  | _=>none
variable {H:Type} {enc:TypeId×Value->H} {P:Program} {W:World}
def Old (W:World):Nat->Nat->Prop:=fun b _=>b<W.heap.size
theorem jr7 {w:World} {a:Addr} {v:Value} (h:w.cell? a=some v):a.block<w.heap.size:=by
 unfold World.cell? at h
 split at h
 ·rename_i he
  exact q39 he
 ·cases h
def jqr (enc:TypeId×Value->H) (P:Program) (W:World) (t:TypeId) (sh:List Sh):Prop :=
 ∀(fuel:Nat) (cells:List Value) (x:DataW H×List MemPlace),DataW.trod enc P W 0 (fun _=>true) true fuel t cells=some x ->
  ∃ ds,q0b (DatRep (Old W) W) cells ds/\q52 sh ds/\∀c∈cells,c.oneCell'=true
theorem qn2 {f:TypeId->Option (List Sh)} (hf : ∀t s,f t=some s->jqr enc P W t s) {cells:List Value} {n:Nat} : ∀(fs:List Field) (acc sh:List Sh) (ds:List Dat),qm8 f P.cellsOf fs acc=some sh ->
  (∀fd∈fs,∃ x,DataW.trod enc P W 0 (fun _=>true) true n fd.type ((cells.drop fd.offset).take (P.cellsOf fd.type))=some x)->acc.length<=cells.length->q0b (DatRep (Old W) W) (cells.take acc.length) ds->q52 acc ds->(∀c∈cells.take acc.length,c.oneCell'=true) ->
  sh.length<=cells.length/\∃ ds',q0b (DatRep (Old W) W) (cells.take sh.length) ds'/\q52 sh ds'/\∀c∈cells.take sh.length,c.oneCell'=true
 | [],acc,sh,ds,h,_,hl,h1,h2,h3=>by
  simp only [qm8,Option.some.injEq] at h
  subst h
  exact ⟨hl,ds,h1,h2,h3⟩
 | fd::fs,acc,sh,ds,h,hr,hl,h1,h2,h3=>by
  unfold qm8 at h
  split at h
  case h_2=>cases h
  rename_i s hs
  split at h
  case isFalse=>cases h
  rename_i hc
  obtain ⟨hc1,hc2⟩:=hc
  obtain ⟨x,hx⟩:=hr fd (List.mem_cons_self ..)
  obtain ⟨ds2,g1,g2,g3⟩:=hf _ _ hs _ _ _ hx
  have hlen:=g1.length
  have hlen2:=g2.len
  rw [List.length_take,List.length_drop] at hlen
  have e1:cells.take (acc++s).length=cells.take acc.length++(cells.drop fd.offset).take (P.cellsOf fd.type):=by
   rw [hc1,<-hc2,List.length_append,List.take_add]
  have hl':(acc++s).length<=cells.length:=by
   rw [List.length_append]
   rcases Nat.eq_zero_or_pos s.length with h0|h0
   ·omega
   ·omega
  refine qn2 hf fs (acc++s) sh (ds++ds2) h (fun fd' hfd=>hr fd' (List.mem_cons_of_mem _ hfd)) hl' (by rw [e1];exact h1.append g1) (h2.app g2) (fun c hc=>?_)
  rw [e1,List.mem_append] at hc
  rcases hc with hc|hc
  ·exact h3 c hc
  ·exact g3 c hc
theorem opens : ∀(n:Nat) (t:TypeId) (sh:List Sh),shapeOf P n t=some sh->jqr enc P W t sh
 | 0,_,_,h=>by cases h
 | n+1,t,sh,h=>by
  intro fuel cells x hx
  unfold shapeOf at h
  split at h
  ·rename_i k hu
   simp only [Option.some.injEq] at h;subst h
   obtain ⟨m,rfl,_,hw⟩:=DataW.trod_int hu hx
   exact ⟨[.v (.int k m)],⟨.v _,trivial⟩,by unfold q52 q52 Typ;exact ⟨⟨m,rfl,hw⟩,trivial⟩,fun c hc=>by simp at hc;rw [hc];rfl⟩
  ·rename_i hu
   simp only [Option.some.injEq] at h;subst h
   obtain ⟨b,rfl,_⟩:=DataW.trod_bool hu hx
   exact ⟨[.v (.bool b)],⟨.v _,trivial⟩,by unfold q52 q52 Typ;exact ⟨⟨b,rfl⟩,trivial⟩,fun c hc=>by simp at hc;rw [hc];rfl⟩
  ·rename_i hu
   simp only [Option.some.injEq] at h;subst h
   obtain ⟨s,rfl,_,hs⟩:=DataW.trod_string hu hx
   exact ⟨[.v (.string s)],⟨.v _,trivial⟩,by unfold q52 q52 Typ;exact ⟨⟨s,rfl,hs⟩,trivial⟩,fun c hc=>by simp at hc;rw [hc];rfl⟩
  ·rename_i e hu
   split at h
   case h_2=>cases h
   rename_i s hs
   split at h
   case isFalse=>cases h
   rename_i hc
   obtain ⟨hc1,hc2⟩:=hc
   simp only [Option.some.injEq] at h;subst h
   have ih:=opens n e s hs
   rcases Deep.open_slice hu hx with ⟨rfl,_⟩|⟨a,len,cap,m,n',D,Pl,rfl,hb,hl,hm,hmm,_,hi⟩
   ·refine ⟨[.lst s.length []],⟨.lst none 0 0 s.length [] 0 0 (fun _ _=>undef) rfl (Nat.le_refl _) (Nat.zero_le _) (fun x hx=>by cases hx) (fun h=>by simp at h) (fun k j hk=>by simp at hk) (fun k j hk=>by simp at hk),trivial⟩,?_,fun c hc=>by simp at hc;rw [hc];rfl⟩
    unfold q52 q52 Typ
    exact ⟨⟨rfl,by simp,fun x hx=>by cases hx⟩,trivial⟩
   ·have hge:len<=m:=by rw [hmm];split<;>omega
    have hp : ∀i,∃ p:List Value×List Dat,i<len->(∀j (hj:j<p.1.length),W.cell? ((a.add (i*s.length)).add j)=some p.1[j])/\q0b (DatRep (Old W) W) p.1 p.2/\q52 s p.2/\∀c∈p.1,c.oneCell'=true:=by
     intro i
     by_cases h:i<len
     ·obtain ⟨cs',hcs,ht⟩:=hi i (by omega)
      obtain ⟨_,hlen',hat⟩:=World.cells?_some hcs
      obtain ⟨ds,g1,g2,g3⟩:=ih _ _ _ ht
      refine ⟨(cs',ds),fun _=>⟨fun j hj=>?_,g1,g2,g3⟩⟩
      have hj':j<cs'.length:=hj
      have:=hat j (by omega)
      rw [<-hc2] at this
      exact this.trans (List.getElem?_eq_getElem hj')
     ·exact ⟨([],[]),fun h'=>absurd h' h⟩
    obtain ⟨f,hfp⟩:=Classical.axiomOfChoice hp
    have hlenD : ∀i,i<len->(f i).2.length=s.length/\(f i).1.length=s.length:=fun i hi=>by
     obtain ⟨_,g1,g2,_⟩:=hfp i hi
     exact ⟨g2.len,g1.length.trans g2.len⟩
    have htl:((List.range len).map fun i=>(f i).2).length=len:=by simp
    refine ⟨[.lst s.length ((List.range len).map fun i=>(f i).2)],⟨?_,trivial⟩,?_,fun c hc=>by simp at hc;rw [hc];rfl⟩
    ·by_cases h0:len=0
     ·subst h0
      exact .lst _ _ _ s.length _ 0 0 (fun _ _=>undef) rfl hl hm (fun x hx=>by simp at hx) (fun h=>by simp at h) (fun k j hk=>by simp at hk) (fun k j hk=>by simp at hk)
     ·obtain ⟨b,off,sp⟩:=a
      have hl0:=(hlenD 0 (by omega)).2
      have g0:=(hfp 0 (by omega)).1 0 (by omega)
      have hspot:sp=none:=by simpa [Addr.add] using World.cell?_spot g0
      subst hspot
      refine .lst _ _ _ s.length _ b off (fun k j=>(f k).1.getD j undef) htl.symm hl hm (fun x hx=>?_) (fun _=>rfl) (fun k j hk hj=>?_) (fun k j hk hj=>?_)
      ·obtain ⟨i,hi',rfl⟩:=List.mem_map.1 hx
       exact (hlenD i (List.mem_range.1 hi')).1
      ·rw [htl] at hk
       have hjl:j<(f k).1.length:=by rw [(hlenD k hk).2];exact hj
       have gj:=(hfp k hk).1 j hjl
       rw [Addr.add_lit,Addr.add_lit] at gj
       have hgd:(f k).1.getD j undef=(f k).1[j]:=by simp [List.getD,hjl]
       rw [hgd]
       exact ⟨jr7 gj,gj,(hfp k hk).2.2.2 _ (List.getElem_mem _)⟩
      ·rw [htl] at hk
       simp only [List.getElem_map,List.getElem_range] at hj ⊢
       have hjl:j<(f k).1.length:=by rw [(hlenD k hk).2,<-(hlenD k hk).1];exact hj
       have hgd:(f k).1.getD j undef=(f k).1[j]:=by simp [List.getD,hjl]
       rw [hgd]
       exact (hfp k hk).2.1.get j hjl hj
    ·unfold q52 q52 Typ
     refine ⟨⟨rfl,by rw [htl];omega,fun x hx=>?_⟩,trivial⟩
     obtain ⟨i,hi',rfl⟩:=List.mem_map.1 hx
     exact (hfp i (List.mem_range.1 hi')).2.2.1
  ·rename_i fs hu
   split at h
   case h_2=>cases h
   rename_i s hs
   split at h
   case isFalse=>cases h
   rename_i hst
   simp only [Option.some.injEq] at h;subst h
   obtain ⟨xs,n',_,_,hcl,hl,he⟩:=DataW.trod_struct hu hx
   obtain ⟨h1,ds,h2,h3,h4⟩:=qn2 (cells:=cells) (n:=n') (fun t s=>opens n t s) fs.toList [] s [] hs (fun fd hfd=>by
    obtain ⟨i,hi,rfl⟩:=List.getElem_of_mem hfd
    have hif:i<fs.size:=by simpa using hi
    have:=he i fs[i] (Array.getElem?_eq_getElem hif)
    rw [List.getElem?_eq_getElem (by omega)] at this
    exact ⟨_,by simpa using this⟩) (Nat.zero_le _) trivial (by unfold q52;trivial) (fun c hc=>by simp at hc)
   rw [List.take_of_length_le (by omega)] at h2 h4
   exact ⟨ds,h2,h3,h4⟩
  ·cases h
def jph:Bool->List Dat->D
 | true,ds=>.one (.agg (ds.map .d))
 | false,[d]=>.one (.c (.d d))
 | false,_=>.one (.c .bad)
theorem jfz {e:Env} {σ:St} {w:World} : ∀{us:List Value} {ds:List Dat},q0b (DatRep e.Pc w) us ds->q0b (q2k e σ w) us (ds.map .d)
 | [],[],_=>trivial
 | _::_,_::_,h=>⟨h.1,jfz h.2⟩
 | [],_::_,h=>h.elim
 | _::_,[],h=>h.elim
theorem jj9 {n base:Nat} {t:TypeId} {sh:List Sh} {fs:Array Field} {v:Value} {d:DataW H} {p:List MemPlace} (hs:shapeOf P n t=some sh) (hu:P.underlying t=some (.struct fs))
  (hv:Value.okWide P W .any base t v) (h:DataW.Trod enc P W 0 (fun _=>true) true t v d p) : ∃ ds,q52 sh ds/\q1l (q57 (Old W)) q7p W v (jph true ds):=by
 obtain ⟨cs,rfl,hsz⟩:=okWide_struct hu hv
 obtain ⟨fuel,hf⟩:=h
 obtain ⟨ds,h1,h2,_⟩:=opens n t sh hs _ _ _ hf
 exact ⟨ds,h2,cs,rfl,jfz h1⟩
theorem jgb {n base:Nat} {t:TypeId} {s:Sh} {v:Value} {d:DataW H} {p:List MemPlace} (hs:shapeOf P n t=some [s]) (ha:qn8 P t=some false)
  (hv:Value.okWide P W .any base t v) (h:DataW.Trod enc P W 0 (fun _=>true) true t v d p) : ∃ x,Typ s x/\q1l (q57 (Old W)) q7p W v (jph false [x]):=by
 obtain ⟨fuel,hf⟩:=h
 have hc:v.cells.toList = [v]:=by
  cases n with
  | zero=>cases hs
  | succ n =>
   unfold shapeOf at hs
   split at hs
   ·rename_i k hu;obtain ⟨m,rfl⟩:=okWide_int hu hv;rfl
   ·rename_i hu;obtain ⟨m,rfl⟩:=okWide_bool hu hv;rfl
   ·rename_i hu;obtain ⟨m,rfl⟩:=okWide_string hu hv;rfl
   ·rename_i e hu;obtain ⟨a,l,c,rfl⟩:=okWide_slice hu hv;rfl
   ·rename_i fs hu;unfold qn8 at ha;rw [hu] at ha;simp at ha
   ·cases hs
 obtain ⟨ds,h1,h2,_⟩:=opens n t [s] hs _ _ _ hf
 rw [hc] at h1
 match ds,h1,h2 with
 | [x],h1,h2 =>
  unfold q52 at h2
  exact ⟨x,h2.1,h1.1⟩
end Go.Proofs.YtlkpgcifpnppeaaGreatDoor.AM
namespace Go.Proofs.YtlkpgcifpnppeaaGreatDoor.AM
open Go.RowKit
abbrev IV:={ v:Value // v.oneCell'=true }
def nilIV:IV:=⟨.nilIface,rfl⟩
def nilFV:IV:=⟨.nilFunc,rfl⟩
def nilPV:IV:=⟨.pointer none,rfl⟩
def nilMV:IV:=⟨.map none,rfl⟩
def mkIV (t:TypeId) (v:Value):IV:=⟨.iface t v,rfl⟩
inductive Ty where
 | int (k:IntKind)
 | bool
 | str
 | lst (e:Ty)
 | prod (a b:Ty)
 | any
 | unit
deriving DecidableEq
@[reducible] def den:Ty->Type
 | .int _=>Int
 | .bool=>Bool
 | .str=>Yy
 | .lst e=>List (den e)
 | .prod a b=>den a×den b
 | .any=>IV
 | .unit=>Unit
def width:Ty->Nat
 | .prod a b=>width a+width b
 | .unit=>0
 | _=>1
def ba (s:Yy):ByteArray:=⟨s.toArray⟩
def q01:(e:Ty)->den e->List Dat
 | .int k,(n:Int)=>[.v (.int k n)]
 | .bool,(b:Bool)=>[.v (.bool b)]
 | .str,(s:Yy)=>[.v (.string (ba s))]
 | .lst e,(l:List (den e))=>[.lst (width e) (l.map (q01 e))]
 | .prod a b,(p:den a×den b)=>q01 a p.1++q01 b p.2
 | .any,(v:IV)=>[.v v.1]
 | .unit,_=>[]
theorem qmt (a b:Ty) (p:den (.prod a b)):q01 (.prod a b) p=q01 a (Prod.fst (p:den a×den b))++q01 b (Prod.snd (p:den a×den b)):=rfl
theorem q0c : ∀(e:Ty) (x:den e),(q01 e x).length=width e
 | .int _,_=>rfl
 | .bool,_=>rfl
 | .str,_=>rfl
 | .lst _,_=>rfl
 | .prod a b,p=>by rw [qmt,List.length_append,q0c a,q0c b];rfl
 | .any,_=>rfl
 | .unit,_=>rfl
inductive TC where
 | d (ty:Ty) (x:den ty)
 | nil
 | box (β off:Nat)
 | row (t g:Nat)
 | rp (e:Ty) (off:Nat) (x:den e)
 | wp (t g k off:Nat)
 | bp (β off len:Nat) (n:Int)
 | mv (β:Nat)
 | fn (f:Nat) (caps:List Nat)
 | undef
 | bad
def eC:TC->C
 | .d ty x=>.d ((q01 ty x).headD (.v Go.undef))
 | .nil=>.d (.v (.slice none 0 0))
 | .box β o=>.box β o
 | .row t g=>.row t g
 | .rp e off x=>.rp ((q01 e x).drop off)
 | .wp t g k o=>.wp t g k o
 | .bp β o _ n=>.box β (o+Int.toNat n*1)
 | .mv β=>.mv β
 | .fn f []=>.d (.v (.func (.func f) #[] #[]))
 | .fn f (c::cs)=>.fn f (c::cs)
 | .undef=>.d (.v Go.undef)
 | .bad=>.bad
def q7e (T:Nat):Bool:=Nat.blt T 2199023255552
theorem q3o {T:Nat} (h:q7e T=true):T<2199023255552:=Nat.le_of_ble_eq_true h
theorem jr3 {T:Nat} (h:q7e T=false):2199023255552<=T:=by
 by_cases h1:T<2199023255552
 ·rw [show q7e T=true from Nat.ble_eq_true_of_le h1] at h;cases h
 ·omega
inductive TD1 where
 | c (x:TC)
 | agg (cs:List TC)
inductive TD where
 | one (x:TD1)
 | tup (xs:List TD1)
def e1:TD1->D1
 | .c x=>.c (eC x)
 | .agg cs=>.agg (cs.map eC)
def eD:TD->D
 | .one x=>.one (e1 x)
 | .tup xs=>.tup (xs.map e1)
structure TRow where
 gen:Nat
 E:Nat
 wr:Bool
 e:Ty
 xs:List (den e)
def eR (r:TRow):Row:=⟨r.gen,r.E,width r.e,r.wr,r.xs.map (q01 r.e)⟩
structure TSt where
 slots:List (Nat×TD)
 boxes:List (Nat×(Nat×List TC))
 rows:List (Nat×TRow)
def lk {α:Type} : List (Nat×α)->Nat->Option α
 | [],_=>none
 | (j,x)::l,i=>bif Nat.beq j i then some x else lk l i
def eB (p:Nat×List TC):Nat×List C:=(p.1,p.2.map eC)
def eS (σ:TSt):St :=
 {slot:=fun i=>match lk σ.slots i with|some x=>eD x|none=>.one (.c .bad)
  box:=fun i=>(lk σ.boxes i).map eB
  row:=fun i=>(lk σ.rows i).map eR }
theorem q0f {α:Type} (j:Nat) (x:α) (l:List (Nat×α)) (i:Nat):lk ((j,x)::l) i=if i=j then some x else lk l i:=by
 show (bif Nat.beq j i then some x else lk l i)=_
 by_cases h:i=j
 ·subst h;rw [if_pos rfl];have:Nat.beq i i=true:=Nat.beq_refl i;rw [this];rfl
 ·rw [if_neg h]
  cases hb:Nat.beq j i with
  | false=>rfl
  | true=>exact absurd (Nat.eq_of_beq_eq_true hb).symm h
structure TRes where
 val:TD
 box:Option (Nat×(Nat×List TC)):=none
 row:Option (Nat×TRow):=none
def q9r (c:Prop) (t:TRes):Res:={ cond:=c,val:=eD t.val,box:=t.box.map fun p=>(p.1,eB p.2),row:=t.row.map fun p=>(p.1,eR p.2) }
def TSt.app (σ:TSt) (r:TRes):TSt :=
 {slots:=σ.slots
  boxes:=match r.box with|some p=>p::σ.boxes|none=>σ.boxes
  rows:=match r.row with|some p=>p::σ.rows|none=>σ.rows }
def TSt.put (σ:TSt) (d:Option Nat) (x:TD):TSt:=match d with
 | some i=>{ σ with slots:=(i,x)::σ.slots }
 | none=>σ
theorem qxe (σ:TSt) (r:TRes) (c:Prop):eS (σ.app r)=(eS σ).app (q9r c r):=by
 obtain ⟨v,bx,rw⟩:=r
 unfold eS TSt.app St.app q9r
 congr 1
 ·cases bx with
  | none=>rfl
  | some p =>
   funext i
   obtain ⟨j,x⟩:=p
   simp only [Option.map_some,q0f,upd]
   split<;>rfl
 ·cases rw with
  | none=>rfl
  | some p =>
   funext i
   obtain ⟨j,x⟩:=p
   simp only [Option.map_some,q0f,upd]
   split<;>rfl
theorem qbw (σ:TSt) (d:Option Nat) (x:TD):eS (σ.put d x)=(eS σ).put d (eD x):=by
 cases d with
 | none=>rfl
 | some i =>
  unfold eS TSt.put St.put
  simp only
  congr 1
  funext j
  simp only [q0f,upd]
  by_cases hj:j=i
  ·simp only [hj,if_true]
  ·simp only [hj,if_false]
def tval:Value->Option TC
 | .int k n=>some (.d (.int k) n)
 | .bool b=>some (.d .bool b)
 | .string s=>some (.d .str s.data.toList)
 | .slice none 0 0=>some .nil
 | .func (.func f) ⟨[]⟩ ⟨[]⟩=>some (.fn f [])
 | .tuple ⟨[]⟩=>some .undef
 | .nilIface=>some (.d .any nilIV)
 | .nilFunc=>some (.d .any nilFV)
 | .pointer none=>some (.d .any nilPV)
 | .map none=>some (.d .any nilMV)
 | _=>none
def qnw:List Value->Option (List TC)
 | []=>some []
 | v::vs=>match tval v,qnw vs with
  | some x,some xs=>some (x::xs)
  | _,_=>none
theorem jdv {v:Value} {x:TC} (h:tval v=some x):eC x=qns v:=by
 unfold tval at h
 split at h<;>simp only [Option.some.injEq,reduceCtorEq] at h<;>subst h<;>first|rfl|skip
theorem q5u : ∀{vs:List Value} {xs:List TC},qnw vs=some xs->xs.map eC=vs.map qns
 | [],xs,h=>by simp only [qnw,Option.some.injEq] at h;subst h;rfl
 | v::vs,xs,h=>by
  unfold qnw at h
  split at h
  case h_2=>cases h
  rename_i x ys hx hy
  simp only [Option.some.injEq] at h
  subst h
  rw [List.map_cons,List.map_cons,jdv hx,q5u hy]
def jn9:Value->Option TD
 | .agg cs=>(qnw cs.toList).map fun xs=>.one (.agg xs)
 | v=>(tval v).map fun x=>.one (.c x)
theorem jh8 {v:Value} {x:TD} (h:jn9 v=some x):eD x=j94 v:=by
 unfold jn9 at h
 split at h
 ·obtain ⟨xs,h1,rfl⟩:=Option.map_eq_some_iff.1 h
  simp only [eD,e1,j94,q5u h1]
 ·rename_i v' hv
  obtain ⟨xs,h1,rfl⟩:=Option.map_eq_some_iff.1 h
  simp only [eD,e1,jdv h1]
  cases v<;>first|rfl|exact absurd rfl (hv _)
def q0p (σ:TSt):Operand->Option TD
 | .tmp t=>lk σ.slots t
 | .const v=>jn9 v
 | .func f=>some (.one (.c (.fn f [])))
 | .global g=>none
theorem q05 {σ:TSt} {x:Operand} {y:TD} (h:q0p σ x=some y):opnd (eS σ) x=eD y:=by
 cases x with
 | tmp t=>unfold q0p at h;simp only [opnd,eS,h]
 | const v=>exact (jh8 h).symm
 | func f=>simp only [q0p,Option.some.injEq] at h;subst h;rfl
 | global g=>cases h
def qnc (e:Ty) (x:den e):List TC:=match e,x with
 | .int k,x=>[.d (.int k) x]
 | .bool,x=>[.d .bool x]
 | .str,x=>[.d .str x]
 | .lst e,x=>[.d (.lst e) x]
 | .prod a b,(p:den a×den b)=>qnc a p.1++qnc b p.2
 | .any,x=>[.d .any x]
 | .unit,_=>[]
theorem q6f : ∀(e:Ty) (x:den e),(qnc e x).map eC=(q01 e x).map C.d
 | .int _,_=>rfl
 | .bool,_=>rfl
 | .str,_=>rfl
 | .lst _,_=>rfl
 | .prod a b,p=>by rw [qmt,List.map_append,<-q6f a,<-q6f b,<-List.map_append];rfl
 | .any,_=>rfl
 | .unit,_=>rfl
def unD (ty:Ty):List TC->Option (den ty)
 | [.d ty' x]=>if h:ty'=ty then some (h ▸ x) else none
 | _=>none
theorem qqn {ty:Ty} {cs:List TC} {x:den ty} (h:unD ty cs=some x):cs = [.d ty x]:=by
 unfold unD at h
 split at h
 ·rename_i ty' y
  split at h
  ·rename_i hty
   subst hty
   simp only [Option.some.injEq] at h
   subst h;rfl
  ·cases h
 ·cases h
def qoq:(e:Ty)->List TC->Option (den e)
 | .prod a b,cs=>match qoq a (cs.take (width a)),qoq b (cs.drop (width a)) with
  | some x,some y=>some (x,y)
  | _,_=>none
 | .int k,cs=>unD (.int k) cs
 | .bool,cs=>unD .bool cs
 | .str,cs=>unD .str cs
 | .lst e,cs=>unD (.lst e) cs
 | .any,cs=>unD .any cs
 | .unit,[]=>some ()
 | .unit,_=>none
theorem q7c : ∀{e:Ty} {cs:List TC} {x:den e},qoq e cs=some x->cs.map eC=(q01 e x).map C.d
 | .prod a b,cs,x,h=>by
  unfold qoq at h
  split at h
  case h_2=>cases h
  rename_i y z hy hz
  obtain rfl:(y,z)=x:=Option.some.inj h
  have h1:=q7c hy
  have h2:=q7c hz
  show List.map eC cs=List.map C.d (q01 a y++q01 b z)
  rw [List.map_append,<-h1,<-h2,<-List.map_append,List.take_append_drop]
 | .int k,cs,x,h=>by rw [qqn h];rfl
 | .bool,cs,x,h=>by rw [qqn h];rfl
 | .str,cs,x,h=>by rw [qqn h];rfl
 | .lst e,cs,x,h=>by rw [qqn h];rfl
 | .any,cs,x,h=>by rw [qqn h];rfl
 | .unit,[],x,h=>rfl
 | .unit,_::_,x,h=>by cases h
variable {α:Type} {P:Program} {σ:TSt}
def nth {β:Type} : List β->Nat->Option β
 | [],_=>none
 | x::_,0=>some x
 | _::l,n+1=>nth l n
theorem q5k {β:Type} : ∀(l:List β) (n:Nat),nth l n=l[n]?
 | [],n=>by simp [nth]
 | _::_,0=>rfl
 | _::l,n+1=>by rw [nth,q5k l n];simp
def q0w {β:Type} (l:List β) (i:Int):Option β:=if 0<=i then nth l i.toNat else none
def sAt (s:Yy) (i:Int):Option Int:=(q0w s i).map fun c=>(c.toNat:Int)
def qoa {β:Type} (l:List β) (a b:Int):Option (List β):=if 0<=a/\a<=b/\b<=l.length then some ((l.drop a.toNat).take (b.toNat - a.toNat)) else none
def catO (s t:Yy):Option Yy:=if s.length+t.length<=9223372036854775807 then some (s++t) else none
def q7r {β:Type} (bytes:Nat) (xs ys:List β):Option (List β):=if (xs.length+ys.length)*bytes<=140737488355328 then some (xs++ys) else none
def q08 {β:Type} (x:β) (f:β->Option α):Option α:=f x
def jap {β:Type} (x:Option β) (f:β->Option α) (g:Option α):Option α:=match x with
 | some q=>f q
 | none=>g
def quoO (k:IntKind) (x y:Int):Option Int:=if y≠0 then some (k.wrap (x.tdiv y)) else none
def remO (x y:Int):Option Int:=if y≠0 then some (x.tmod y) else none
def shlO (k:IntKind) (x y:Int):Option Int:=if 0<=y then some (k.wrap (x*2 ^ (min y.toNat k.bits))) else none
def jpj (k:IntKind) (x y:Int):Option Int:=if 0<=y then some (x.fdiv (2 ^ (min y.toNat k.bits))) else none
def andI (k:IntKind) (x y:Int):Int:=k.wrap (BitVec.ofInt k.bits x &&& BitVec.ofInt k.bits y).toNat
def orI (k:IntKind) (x y:Int):Int:=k.wrap (BitVec.ofInt k.bits x ||| BitVec.ofInt k.bits y).toNat
def xorI (k:IntKind) (x y:Int):Int:=k.wrap (BitVec.ofInt k.bits x ^^^ BitVec.ofInt k.bits y).toNat
def ltS (s t:Yy):Bool:=Op.bytesLess s t
def inA (n:Int) (len:Nat):Bool:=decide (0<=n)&&decide (n<(len:Int))
theorem jlo {n:Int} {len:Nat} (h:inA n len=true):0<=n/\n<(len:Int):=by
 simp only [inA,Bool.and_eq_true,decide_eq_true_eq] at h;exact h
def upd1 {β:Type} (i:Nat) (n:Int) (y x:β):β:=bif Nat.beq i (Int.toNat n) then y else x
def jkr {β:Type} (n:Int) (y:β):Nat->List β->List β
 | _,[]=>[]
 | i,x::xs=>upd1 i n y x::jkr n y (i+1) xs
theorem jg7 {β:Type} (n:Int) (y:β) : ∀(xs:List β) (i:Nat),jkr n y i xs=if i<=n.toNat then xs.set (n.toNat - i) y else xs
 | [],i=>by simp [jkr]
 | x::xs,i=>by
  rw [jkr,jg7 n y xs (i+1),upd1]
  by_cases h:i=n.toNat
  ·have hb:Nat.beq i n.toNat=true:=by rw [h];exact Nat.beq_refl _
   rw [hb,if_neg (by omega),if_pos (by omega),h,Nat.sub_self];rfl
  ·have hb:Nat.beq i n.toNat=false:=by
    cases hb:Nat.beq i n.toNat with
    | false=>rfl
    | true=>exact absurd (Nat.eq_of_beq_eq_true hb) h
   rw [hb]
   by_cases hi:i<=n.toNat
   ·rw [if_pos (by omega),if_pos hi]
    obtain ⟨k,hk⟩ : ∃ k,n.toNat - i=k+1:=⟨n.toNat - i - 1,by omega⟩
    have:n.toNat - (i+1)=k:=by omega
    rw [hk,this];rfl
   ·rw [if_neg (by omega),if_neg hi];rfl
theorem jir {β:Type} (n:Int) (y:β) (xs:List β):jkr n y 0 xs=xs.set n.toNat y:=by
 rw [jg7,if_pos (Nat.zero_le _),Nat.sub_zero]
theorem jmu {β:Type} {l xs:List β} {o len j:Nat} {c:β} (h:(l.drop o).take len=xs) (hj:j<xs.length):l.take o++xs.set j c++l.drop (o+len)=setAt l (o+j) [c]:=by
 subst h
 have hl:j<(l.drop o).length/\j<len:=by rw [List.length_take] at hj;omega
 have ho:o+j<l.length:=by rw [List.length_drop] at hl;omega
 unfold setAt
 apply List.ext_getElem?
 intro i
 rw [List.append_assoc,List.append_assoc,List.getElem?_append,List.getElem?_append,List.getElem?_append,List.getElem?_append,List.getElem?_set,List.getElem?_take,List.getElem?_take,List.getElem?_take,List.getElem?_drop,List.getElem?_drop,List.getElem?_drop]
 simp only [List.length_take,List.length_set,List.length_drop,List.length_cons,List.length_nil]
 by_cases h1:i<o
 ·rw [if_pos (by omega),if_pos h1,if_pos (by omega),if_pos (by omega)]
 ·rw [if_neg (by omega)]
  have e1:min o l.length=o:=by omega
  have e2:min (o+j) l.length=o+j:=by omega
  rw [e1,e2]
  by_cases h2:i<o+j
  ·rw [if_pos h2,if_pos (by omega),if_pos h2,if_neg (by omega),if_pos (by omega)]
   congr 1;omega
  ·rw [if_neg h2]
   by_cases h3:i=o+j
   ·subst h3
    have e3:o+j - o=j:=by omega
    rw [e3,Nat.sub_self,if_pos (by omega),if_pos rfl,if_pos (by omega),if_pos (by omega)];rfl
   ·rw [if_neg (by omega : ¬ i - (o+j)<0+1)]
    by_cases h4:i - o<min len (l.length - o)
    ·rw [if_pos h4,if_neg (by omega),if_pos (by omega)]
     congr 1;omega
    ·rw [if_neg h4]
     by_cases h5:len<=l.length - o
     ·congr 1;omega
     ·rw [List.getElem?_eq_none (by omega),List.getElem?_eq_none (by omega)]
def Sim (x:Option Res) (t:TRes):Prop:=∃ c:Prop,c/\x=some (q9r c t)
theorem Sim.tr {x:Option Res} {t:TRes} (h:x=some (q9r True t)):Sim x t:=⟨True,trivial,h⟩
theorem q5j {i:Nat} {p:Nat×List TC} (h:lk σ.boxes i=some p):(eS σ).box i=some (p.1,p.2.map eC):=by show (lk σ.boxes i).map eB=_;rw [h];rfl
theorem q2p {i:Nat} {r:TRow} (h:lk σ.rows i=some r):(eS σ).row i=some (eR r):=by show (lk σ.rows i).map eR=_;rw [h];rfl
theorem qja {i:Nat} (h:lk σ.boxes i=none):(eS σ).box i=none:=by show (lk σ.boxes i).map eB=_;rw [h];rfl
theorem q9g {i:Nat} (h:lk σ.rows i=none):(eS σ).row i=none:=by show (lk σ.rows i).map eR=_;rw [h];rfl
theorem qa2 {β γ:Type} (f:β->γ) (l:List β) (off:Nat) (xs:List β):(setAt l off xs).map f=setAt (l.map f) off (xs.map f):=by
 unfold setAt;simp
def jng (ty:Ty):List TC->Option (List (den ty))
 | []=>some []
 | c::cs=>match unD ty [c],jng ty cs with
  | some x,some xs=>some (x::xs)
  | _,_=>none
theorem qrk {ty:Ty} : ∀{cs:List TC} {xs:List (den ty)},jng ty cs=some xs->cs=xs.map (TC.d ty)
 | [],xs,h=>by simp only [jng,Option.some.injEq] at h;subst h;rfl
 | c::cs,xs,h=>by
  unfold jng at h
  split at h
  case h_2=>cases h
  rename_i x ys h1 h2
  simp only [Option.some.injEq] at h
  subst h
  have:=qqn h1
  simp only [List.cons.injEq,and_true] at this
  rw [List.map_cons,<-qrk h2,this]
def loadT (P:Program) (t:TypeId) (cs:List TC):Option TD:=match qn8 P t,tsz P t with
 | some true,some n=>if n<=cs.length then some (.one (.agg (cs.take n))) else none
 | some false,_=>match cs with|c::_=>some (.one (.c c)) | []=>none
 | _,_=>none
theorem qj6 {t:TypeId} {cs:List TC} {d:TD} (h:loadT P t cs=some d):qmp P t (cs.map eC)=some (eD d):=by
 unfold loadT at h
 unfold qmp
 split at h
 ·rename_i n h1 h2
  rw [h1,h2]
  split at h
  ·rename_i hle
   simp only [Option.some.injEq] at h
   subst h
   simp only [List.length_map,hle,if_true,eD,e1,List.map_take]
  ·cases h
 ·rename_i h1
  rw [h1]
  split at h
  ·simp only [Option.some.injEq] at h
   subst h;rfl
  ·cases h
 ·cases h
theorem q99 {b:Bool} {x:Option α} {r:α} (h:(bif b then x else none)=some r):b=true/\x=some r:=by
 cases b with
 | true=>exact ⟨rfl,h⟩
 | false=>cases h
def j2f (P:Program) (t:TypeId) (p:TD) (σ:TSt) (k:TRes->Option α):Option α:=match p with
 | .one (.c (.box β off))=>match lk σ.boxes β with
  | some q=>bif q7e q.1 then (match loadT P t (q.2.drop off) with|some d=>k { val:=d } | none=>none) else none
  | none=>none
 | .one (.c (.rp e off x))=>match loadT P t ((qnc e x).drop off) with|some d=>k { val:=d } | none=>none
 | .one (.c (.wp tt g j off))=>match lk σ.rows tt with
  | some r=>if r.gen=g then (nth r.xs j).bind fun x=>match loadT P t ((qnc r.e x).drop off) with|some d=>k { val:=d } | none=>none else none
  | none=>none
 | .one (.c (.bp β o len n))=>match qn8 P t,lk σ.boxes β with
  | some false,some q=>bif q7e q.1 then (match (q.2.drop o).take len with
   | .d e x0::cs0=>match jng e (.d e x0::cs0) with
    | some xs=>(nth xs (Int.toNat n)).bind fun y=>k { val:=.one (.c (.d e y)) }
    | none=>none
   | _=>none) else none
  | _,_=>none
 | _=>none
theorem qt6 {e:Ty} {xs:List (den e)} {j:Nat} {x:den e} (h:nth xs j=some x):(xs.map (q01 e)).getD j []=q01 e x/\j<(xs.map (q01 e)).length:=by
 rw [q5k] at h
 obtain ⟨h1,rfl⟩:=List.getElem?_eq_some_iff.1 h
 have:j<(xs.map (q01 e)).length:=by rw [List.length_map];exact h1
 exact ⟨by simp [List.getD,h1],this⟩
theorem j83 {t:TypeId} {p:TD} {k:TRes->Option α} {r:α} (h:j2f P t p σ k=some r) :
  ∃ x,k x=some r/\Sim (q81 P t (eD p) (eS σ).box (eS σ).row) x:=by
 unfold j2f at h
 split at h
 ·rename_i β off
  split at h
  case h_2=>cases h
  rename_i q hq
  obtain ⟨hpb,h⟩:=q99 h
  split at h
  case h_2=>cases h
  rename_i d hd
  refine ⟨_,h,Sim.tr ?_⟩
  have:=qj6 hd
  rw [List.map_drop] at this
  simp only [q81,eD,e1,eC,q5j hq,q3o hpb,if_true,this,Option.map_some]
  rfl
 ·rename_i e off x
  split at h
  case h_2=>cases h
  rename_i d hd
  refine ⟨_,h,Sim.tr ?_⟩
  have:=qj6 hd
  rw [List.map_drop,q6f] at this
  simp only [q81,eD,e1,eC,List.map_drop,this,Option.map_some]
  rfl
 ·rename_i tt g j off
  split at h
  case h_2=>cases h
  rename_i r' hr
  split at h
  case isFalse=>cases h
  rename_i hg
  obtain ⟨x,hx,h⟩:=Option.bind_eq_some_iff.1 h
  split at h
  case h_2=>cases h
  rename_i d hd
  have:=qj6 hd
  rw [List.map_drop,q6f] at this
  obtain ⟨h1,h2⟩:=qt6 hx
  refine ⟨_,h,_,h2,?_⟩
  simp only [q81,eD,e1,eC,q2p hr]
  have hg':(eR r').gen=g:=hg
  rw [if_pos hg']
  have h3:(eR r').xs.getD j []=q01 r'.e x:=h1
  rw [h3,List.map_drop,this]
  rfl
 ·rename_i β o len n
  split at h
  case h_2=>cases h
  rename_i q ha hq
  obtain ⟨hpb,h⟩:=q99 h
  split at h
  case h_2=>cases h
  rename_i e x0 cs0 hcs
  split at h
  case h_2=>cases h
  rename_i xs hxs
  obtain ⟨y,hy,h⟩:=Option.bind_eq_some_iff.1 h
  rw [q5k] at hy
  have h1:=qrk hxs
  rw [h1] at hcs
  have h2:(q.2.drop (o+n.toNat*1)).head? = some (.d e y):=by
   have h3:((q.2.drop o).take len)[n.toNat]? = some (.d e y):=by rw [hcs,List.getElem?_map,hy];rfl
   rw [List.getElem?_take] at h3
   split at h3
   ·rw [List.getElem?_drop] at h3
    rw [List.head?_drop,Nat.mul_one];exact h3
   ·cases h3
  refine ⟨_,h,Sim.tr ?_⟩
  have h4:qmp P t ((q.2.map eC).drop (o+n.toNat*1))=some (eD (.one (.c (.d e y)))):=by
   rw [<-List.map_drop]
   generalize q.2.drop (o+n.toNat*1)=l at h2
   cases l with
   | nil=>cases h2
   | cons c cs =>
    simp only [List.head?_cons,Option.some.injEq] at h2
    subst h2
    simp only [qmp,ha,List.map_cons]
    rfl
  simp only [q81,eD,e1,eC,q5j hq,q3o hpb,if_true,h4,Option.map_some]
  rfl
 ·cases h
def q77:TD1->List TC
 | .c x=>[x]
 | .agg cs=>cs
def okTy:Ty->Bool
 | .unit=>false
 | .prod _ _=>false
 | _=>true
def okT:TC->Bool
 | .d ty _=>okTy ty
 | .undef=>false
 | .bad=>false
 | .bp _ _ _ _=>false
 | _=>true
theorem jqp : ∀{x:TC},okT x=true->okC (eC x)=true
 | .d (.int _) _,_=>rfl
 | .d .bool _,_=>rfl
 | .d .str _,_=>rfl
 | .d (.lst _) _,_=>rfl
 | .d .any v,_=>by
  show okC (.d (.v (Subtype.val (v:IV))))=true
  exact (v:IV).2
 | .nil,_=>rfl
 | .box _ _,_=>rfl
 | .row _ _,_=>rfl
 | .rp _ _ _,_=>rfl
 | .wp _ _ _ _,_=>rfl
 | .fn _ [],_=>rfl
 | .fn _ (_::_),_=>rfl
 | .mv _,_=>rfl
theorem q2h (x:TD1):q0j (e1 x)=(q77 x).map eC:=by cases x<;>rfl
theorem qt4 {cs:List TC} (h:cs.all okT=true):(cs.map eC).all okC=true:=by
 rw [List.all_map]
 refine List.all_eq_true.2 fun x hx=>jqp (List.all_eq_true.1 h x hx)
theorem q87 : ∀(l:List Dat),(l.map C.d).mapM qiq=some l
 | []=>rfl
 | x::l=>by rw [List.map_cons,List.mapM_cons,q87 l];rfl
def setT (e:Ty) (x:den e) (off:Nat) (ys:List TC):Option (den e):=qoq e (setAt (qnc e x) off ys)
def qs1 (P:Program) (t:TypeId) (p x:TD) (σ:TSt) (k:TRes->Option α):Option α:=match x with
 | .one x=>match tsz P t with
  | some n=>if (q77 x).length=n/\(q77 x).all okT=true then
    match p with
    | .one (.c (.box β off))=>match lk σ.boxes β with
     | some q=>if off+n<=q.2.length/\q7e q.1=true then k { val:=.one (.c .undef),box:=some (β,(q.1,setAt q.2 off (q77 x))) } else none
     | none=>none
    | .one (.c (.wp tt g j off))=>match lk σ.rows tt with
     | some r=>if r.gen=g/\r.wr=true/\off+n<=width r.e then (nth r.xs j).bind fun y=>match setT r.e y off (q77 x) with
       | some y'=>k { val:=.one (.c .undef),row:=some (tt,{ r with xs:=r.xs.set j y' }) }
       | none=>none
      else none
     | none=>none
    | .one (.c (.bp β o len n))=>match lk σ.boxes β,q77 x with
     | some q,[.d e y]=>match jng e ((q.2.drop o).take len) with
      | some xs=>bif q7e q.1&&inA n xs.length then k { val:=.one (.c .undef),box:=some (β,(q.1,q.2.take o++(jkr n y 0 xs).map (TC.d e)++q.2.drop (o+len))) } else none
      | none=>none
     | _,_=>none
    | _=>none
   else none
  | none=>none
 | _=>none
theorem jma : ∀{l m:List Dat},l.map C.d=m.map C.d->l=m
 | [],[],_=>rfl
 | x::l,y::m,h=>by
  simp only [List.map_cons,List.cons.injEq,C.d.injEq] at h
  rw [h.1,jma h.2]
 | [],_::_,h=>by simp at h
 | _::_,[],h=>by simp at h
theorem jlp {e:Ty} {x x':den e} {off:Nat} {ys:List TC} (h:setT e x off ys=some x') (hl:off+ys.length<=width e) :
  ∃ ds,(ys.map eC).mapM qiq=some ds/\q01 e x'=setAt (q01 e x) off ds:=by
 have h1:=q7c h
 rw [qa2,q6f] at h1
 have hx:=q0c e x
 have hx':=q0c e x'
 have h2:ys.map eC=(((q01 e x').drop off).take ys.length).map C.d:=by
  rw [List.map_take,List.map_drop,<-h1]
  unfold setAt
  have e0:((List.map C.d (q01 e x)).take off).length=off:=by rw [List.length_take,List.length_map];omega
  rw [List.append_assoc,List.drop_append,e0,Nat.sub_self,List.drop_zero,List.drop_eq_nil_of_le (by omega),List.nil_append,List.take_append_of_le_length (by rw [List.length_map];omega),List.take_of_length_le (by rw [List.length_map];omega)]
 refine ⟨_,by rw [h2];exact q87 _,?_⟩
 apply jma
 rw [<-h1,qa2,h2]
theorem j4d {t:TypeId} {p x:TD} {k:TRes->Option α} {r:α} (h:qs1 P t p x σ k=some r) :
  ∃ y,k y=some r/\Sim (q3t P t (eD p) (eD x) (eS σ).box (eS σ).row) y:=by
 unfold qs1 at h
 split at h
 case h_2=>cases h
 rename_i x1
 split at h
 case h_2=>cases h
 rename_i n hn
 split at h
 case isFalse=>cases h
 rename_i hc
 obtain ⟨hc1,hc2⟩:=hc
 have hc1':(q0j (e1 x1)).length=n:=by rw [q2h,List.length_map];exact hc1
 have hc2':(q0j (e1 x1)).all okC=true:=by rw [q2h];exact qt4 hc2
 split at h
 ·rename_i β off
  split at h
  case h_2=>cases h
  rename_i q hq
  split at h
  case isFalse=>cases h
  rename_i hle
  obtain ⟨hle,hpb⟩:=hle
  refine ⟨_,h,Sim.tr ?_⟩
  show q3t P t (.one (.c (.box β off))) (.one (e1 x1)) _ _=_
  have e5:=q2h x1
  generalize e1 x1=y1 at hc1' hc2' e5
  rw [e5] at hc2'
  simp only [q3t,hn,e5,hc1,hc2',and_self,if_true,q5j hq,List.length_map,hle,q3o hpb,q9r,Option.map_some,eB,qa2]
  rfl
 ·rename_i tt g j off
  split at h
  case h_2=>cases h
  rename_i r' hr
  split at h
  case isFalse=>cases h
  rename_i hg
  obtain ⟨hg1,hg2,hg3⟩:=hg
  obtain ⟨y,hy,h⟩:=Option.bind_eq_some_iff.1 h
  split at h
  case h_2=>cases h
  rename_i y' hy'
  obtain ⟨ds,k1,k2⟩:=jlp hy' (by omega)
  obtain ⟨h1,h2⟩:=qt6 hy
  refine ⟨_,h,_,h2,?_⟩
  rw [<-q2h] at k1
  show q3t P t (.one (.c (.wp tt g j off))) (.one (e1 x1)) _ _=_
  generalize e1 x1=y1 at hc1' hc2' k1
  simp only [q3t,hn,hc1',hc2',and_self,if_true,q2p hr,k1]
  have hg':(eR r').gen=g/\(eR r').wr=true/\off+n<=(eR r').sz:=⟨hg1,hg2,hg3⟩
  rw [if_pos hg']
  have h3:(eR r').xs.getD j []=q01 r'.e y:=h1
  rw [h3,<-k2]
  simp only [q9r,Option.map_some,eR,List.map_set]
  rfl
 ·rename_i β o len m
  split at h
  case h_2=>cases h
  rename_i q e y hq hy
  split at h
  case h_2=>cases h
  rename_i xs hxs
  obtain ⟨hb0,h⟩:=q99 h
  obtain ⟨hpb,hb⟩:=Bool.and_eq_true_iff.1 hb0
  replace h:k { val:=.one (.c .undef),box:=some (β,(q.1,q.2.take o++(jkr m y 0 xs).map (TC.d e)++q.2.drop (o+len))) } = some r:=h
  obtain ⟨hb1,hb2⟩:=jlo hb
  refine ⟨_,h,Sim.tr ?_⟩
  have hmid:=qrk hxs
  have hj:m.toNat<(xs.map (TC.d e)).length:=by rw [List.length_map];omega
  have key:q.2.take o++(jkr m y 0 xs).map (TC.d e)++q.2.drop (o+len)=setAt q.2 (o+m.toNat*1) [.d e y]:=by
   rw [jir,List.map_set,Nat.mul_one]
   exact jmu hmid hj
  have hlen:o+m.toNat*1+1<=q.2.length:=by
   have:=congrArg List.length hmid
   rw [List.length_take,List.length_drop] at this
   omega
  rw [key]
  have hn1:n=1:=by rw [<-hc1,hy];rfl
  subst hn1
  show q3t P t (.one (.c (.box β (o+m.toNat*1)))) (.one (e1 x1)) _ _=_
  have e5:=q2h x1
  generalize e1 x1=y1 at hc1' hc2' e5
  rw [e5] at hc2'
  rw [hy] at e5 hc2'
  simp only [q3t,hn,e5,List.map_cons,List.map_nil,List.length_cons,List.length_nil,q5j hq,List.length_map,q9r,Option.map_some,eB,qa2]
  rw [if_pos ⟨trivial,by simpa using hc2'⟩,if_pos ⟨hlen,q3o hpb⟩]
  rfl
 ·cases h
def qte (P:Program) (dst:Option Nat) (t:TypeId) (σ:TSt) (k:TRes->Option α):Option α:=match dst,qn4 P t with
 | some i,some z=>match lk σ.boxes i,qnw z with
  | none,some cs=>if z.all Value.oneCell'=true/\i<1000000/\q7e t=true then k { val:=.one (.c (.box i 0)),box:=some (i,(t,cs)) } else none
  | _,_=>none
 | _,_=>none
theorem j0z {dst:Option Nat} {t:TypeId} {k:TRes->Option α} {r:α} (h:qte P dst t σ k=some r) :
  ∃ y,k y=some r/\Sim (q93 P dst t (eS σ).box) y:=by
 unfold qte at h
 split at h
 case h_2=>cases h
 rename_i i z hz
 split at h
 case h_2=>cases h
 rename_i cs hb hcs
 split at h
 case isFalse=>cases h
 rename_i ha
 refine ⟨_,h,Sim.tr ?_⟩
 obtain ⟨ha,hi,hpb⟩:=ha
 simp only [q93,hz,qja hb,ha,hi,q3o hpb,and_self,if_true,q9r,eD,e1,eC,Option.map_some,eB,q5u hcs,Option.map_none]
def jbu (dst:Option Nat) (t:TypeId) (x:TD) (σ:TSt) (k:TRes->Option α):Option α:=match dst,x with
 | some i,.one x=>match lk σ.boxes i with
  | none=>if (q77 x).all okT=true/\i<1000000/\q7e t=true then k { val:=.one (.c (.box i 0)),box:=some (i,(t,q77 x)) } else none
  | some _=>none
 | _,_=>none
theorem jax {dst:Option Nat} {t:TypeId} {x:TD} {k:TRes->Option α} {r:α} (h:jbu dst t x σ k=some r) :
  ∃ y,k y=some r/\Sim (qn9 dst t (eD x) (eS σ).box) y:=by
 unfold jbu at h
 split at h
 case h_2=>cases h
 rename_i i x1
 split at h
 case h_2=>cases h
 rename_i hb
 split at h
 case isFalse=>cases h
 rename_i ha
 refine ⟨_,h,Sim.tr ?_⟩
 obtain ⟨ha,hi,hpb⟩:=ha
 have ha':(q0j (e1 x1)).all okC=true:=by rw [q2h];exact qt4 ha
 show qn9 (some i) t (.one (e1 x1)) _=_
 have e5:=q2h x1
 generalize e1 x1=y1 at ha' e5
 rw [e5] at ha'
 simp only [qn9,e5,qja hb,ha',hi,q3o hpb,and_self,if_true,q9r,Option.map_some,eB,Option.map_none]
 rfl
def qa6 (P:Program) (t:TypeId) (p:TD) (f:Nat) (k:TRes->Option α):Option α:=match qno P t f with
 | some (off,_)=>match p with
  | .one (.c (.box β o))=>k { val:=.one (.c (.box β (o+off))) }
  | .one (.c (.rp e o x))=>if o+off<=width e then k { val:=.one (.c (.rp e (o+off) x)) } else none
  | .one (.c (.wp tt g j o))=>k { val:=.one (.c (.wp tt g j (o+off))) }
  | _=>none
 | none=>none
theorem qm6 {t:TypeId} {p:TD} {f:Nat} {k:TRes->Option α} {r:α} (h:qa6 P t p f k=some r) :
  ∃ y,k y=some r/\Sim (q26 P t (eD p) f) y:=by
 unfold qa6 at h
 split at h
 case h_2=>cases h
 rename_i off ft hf
 split at h
 ·exact ⟨_,h,Sim.tr (by simp only [q26,hf,eD,e1,eC];rfl)⟩
 ·rename_i e o x
  split at h
  case isFalse=>cases h
  rename_i hle
  refine ⟨_,h,Sim.tr ?_⟩
  have:off<=((q01 e x).drop o).length:=by rw [List.length_drop,q0c];omega
  simp only [q26,hf,eD,e1,eC,this,if_true,List.drop_drop,q9r,Option.map_none]
 ·exact ⟨_,h,Sim.tr (by simp only [q26,hf,eD,e1,eC];rfl)⟩
 ·cases h
def qup (P:Program) (t:TypeId) (x:TD) (f:Nat) (k:TRes->Option α):Option α:=match qno P t f,x with
 | some (off,ft),.one (.agg cs)=>match qn8 P ft,tsz P ft with
  | some true,some n=>if off+n<=cs.length then k { val:=.one (.agg ((cs.drop off).take n)) } else none
  | some false,_=>match nth cs off with
   | some c=>k { val:=.one (.c c) }
   | none=>none
  | _,_=>none
 | _,_=>none
theorem j47 {t:TypeId} {x:TD} {f:Nat} {k:TRes->Option α} {r:α} (h:qup P t x f k=some r) :
  ∃ y,k y=some r/\Sim (q9x P t (eD x) f) y:=by
 unfold qup at h
 split at h
 case h_2=>cases h
 rename_i off ft cs hf
 split at h
 ·rename_i n h1 h2
  split at h
  case isFalse=>cases h
  rename_i hle
  refine ⟨_,h,Sim.tr ?_⟩
  simp only [q9x,hf,eD,e1,h1,h2,List.length_map,hle,if_true,q9r,List.map_take,List.map_drop,Option.map_none]
 ·rename_i h1
  split at h
  case h_2=>cases h
  rename_i c hc
  refine ⟨_,h,Sim.tr ?_⟩
  rw [q5k] at hc
  simp only [q9x,hf,eD,e1,h1,List.getElem?_map,hc,Option.map_some,q9r,Option.map_none]
 ·cases h
def qhg (x:TD) (i:Nat) (k:TRes->Option α):Option α:=match x with
 | .tup xs=>match nth xs i with
  | some y=>k { val:=.one y }
  | none=>none
 | _=>none
theorem qro {x:TD} {i:Nat} {k:TRes->Option α} {r:α} (h:qhg x i k=some r) : ∃ y,k y=some r/\Sim (q6l (eD x) i) y:=by
 unfold qhg at h
 split at h
 case h_2=>cases h
 rename_i xs
 split at h
 case h_2=>cases h
 rename_i y hy
 rw [q5k] at hy
 exact ⟨_,h,Sim.tr (by simp only [q6l,eD,List.getElem?_map,hy,Option.map_some,q9r,Option.map_none])⟩
def joy (n:Int) (len:Nat) (f:Nat->Option α):Option α:=if n=0 then (bif Nat.blt 0 len then f 0 else none) else if n=1 then (bif Nat.blt 1 len then f 1 else none) else none
theorem qyn {n:Int} {len:Nat} {f:Nat->Option α} {r:α} (h:joy n len f=some r) : ∃ j:Nat,n=j/\j<len/\f j=some r:=by
 unfold joy at h
 split at h
 ·rename_i h0
  cases hb:Nat.blt 0 len with
  | false=>rw [hb] at h;cases h
  | true=>rw [hb] at h;exact ⟨0,h0,by simpa using hb,h⟩
 ·split at h
  case isFalse=>cases h
  rename_i h1
  cases hb:Nat.blt 1 len with
  | false=>rw [hb] at h;cases h
  | true=>rw [hb] at h;exact ⟨1,h1,by simpa using hb,h⟩
def qdp (P:Program) (t:TypeId) (cs:List TC) (n:Int) (k:TRes->Option α):Option α:=match cs,P.underlying t with
 | .d e _::_,some (.array m el)=>match tsz P el,qn8 P el,jng e cs with
  | some 1,some false,some xs=>if m=xs.length then (q0w xs n).bind fun y=>k { val:=.one (.c (.d e y)) } else none
  | _,_,_=>none
 | _,_=>none
def jk5 (P:Program) (t:TypeId):Bool:=match P.underlying t with
 | some (.array _ el)=>match qn8 P el with
  | some true=>true
  | _=>false
 | _=>false
def qcp (P:Program) (t:TypeId) (cs:List TC) (n:Int) (k:TRes->Option α):Option α:=match P.underlying t with
 | some (.array m el)=>match tsz P el,qn8 P el with
  | some z,some true=>bif (Nat.ble m 2&&Nat.beq cs.length (m*z)) then joy n m (fun j=>k { val:=.one (.agg ((cs.drop (j*z)).take z)) }) else none
  | _,_=>none
 | _=>none
theorem qpf {t:TypeId} {cs:List TC} {ik:IntKind} {n:Int} {k:TRes->Option α} {r:α} (h:qcp P t cs n k=some r) :
  ∃ y,k y=some r/\Sim (q5i P t (eD (.one (.agg cs))) (eD (.one (.c (.d (.int ik) n))))) y:=by
 unfold qcp at h
 split at h
 case h_2=>cases h
 rename_i m el hu
 split at h
 case h_2=>cases h
 rename_i z hs ha
 cases hc:(Nat.ble m 2&&Nat.beq cs.length (m*z)) with
 | false=>rw [hc] at h;cases h
 | true =>
  rw [hc] at h
  replace h:joy n m (fun j=>k { val:=.one (.agg ((cs.drop (j*z)).take z)) })=some r:=h
  have hl:cs.length=m*z:=Nat.eq_of_beq_eq_true (Bool.and_eq_true_iff.1 hc).2
  obtain ⟨j,hj,hjl,h⟩:=qyn h
  have hj':Int.toNat n=j:=by rw [hj];rfl
  refine ⟨_,h,((0:Int)<=n/\n<(m:Int)/\(cs.map eC).length=m*z),⟨by rw [hj];exact Int.natCast_nonneg j,by rw [hj];exact Int.ofNat_lt.2 hjl,by rw [List.length_map];exact hl⟩,?_⟩
  have e0 : ∀z':Nat,z'=z->q5i P t (.one (.agg (cs.map eC))) (.one (.c (.d (.v (.int ik n)))))=some { cond:=(0:Int)<=n/\n<(m:Int)/\(cs.map eC).length=m*z,val:=.one (.agg (((cs.map eC).drop (j*z)).take z)) }:=fun z' _=>by
   simp only [q5i,hu,hs,ha,hj']
  rw [show eD (.one (.agg cs)) = .one (.agg (cs.map eC)) from rfl,show eD (.one (.c (.d (.int ik) n))) = .one (.c (.d (.v (.int ik n)))) from rfl,e0 z rfl]
  simp only [q9r,eD,e1,Option.map_none,List.map_take,List.map_drop]
def qsr (P:Program) (t:TypeId) (x i:TD) (k:TRes->Option α):Option α:=match x,i with
 | .one (.c (.d .str s)),.one (.c (.d (.int _) n))=>match P.underlying t with
  | some .string=>(sAt s n).bind fun c=>k { val:=.one (.c (.d (.int .u8) c)) }
  | _=>none
 | .one (.agg cs),.one (.c (.d (.int _) n))=>bif jk5 P t then qcp P t cs n k else qdp P t cs n k
 | _,_=>none
theorem jic {s:Yy} {n c:Int} (h:sAt s n=some c):(0<=n/\n<(ba s).size)/\c=qzm (ba s) n:=by
 unfold sAt q0w at h
 split at h
 case isFalse=>cases h
 rename_i hn
 obtain ⟨b,hb,rfl⟩:=Option.map_eq_some_iff.1 h
 rw [q5k] at hb
 obtain ⟨h1,rfl⟩:=List.getElem?_eq_some_iff.1 hb
 have hsz:(ba s).size=s.length:=by simp [ba,ByteArray.size]
 refine ⟨⟨hn,by omega⟩,?_⟩
 unfold qzm ba
 simp [List.getD,h1]
theorem j85 {β:Type} {l:List β} {n:Int} {y:β} (h:q0w l n=some y):(0<=n/\n<l.length)/\nth l n.toNat=some y:=by
 unfold q0w at h
 split at h
 case isFalse=>cases h
 rename_i hn
 have h':=h
 rw [q5k] at h'
 obtain ⟨h1,_⟩:=List.getElem?_eq_some_iff.1 h'
 exact ⟨⟨hn,by omega⟩,h⟩
theorem qol {t:TypeId} {cs:List TC} {ik:IntKind} {n:Int} {k:TRes->Option α} {r:α} (h:qdp P t cs n k=some r) : ∃ y,k y=some r/\Sim (q5i P t (.one (.agg (cs.map eC))) (.one (.c (.d (.v (.int ik n)))))) y:=by
 unfold qdp at h
 split at h
 case h_2=>cases h
 rename_i e x0 cs0 m el hu
 split at h
 case h_2=>cases h
 rename_i xs hs ha hxs
 split at h
 case isFalse=>cases h
 rename_i hm
 obtain ⟨y,hy,h⟩:=Option.bind_eq_some_iff.1 h
 obtain ⟨h1,h2⟩:=j85 hy
 have hcs:=qrk hxs
 refine ⟨_,h,(0<=n/\n<((List.map eC (TC.d e x0::cs0)).length:Int)/\m=(List.map eC (TC.d e x0::cs0)).length),?_,?_⟩
 ·rw [hcs,List.length_map,List.length_map]
  exact ⟨h1.1,h1.2,hm⟩
 ·have e5:(List.map eC (TC.d e x0::cs0)).getD n.toNat C.bad=eC (TC.d e y):=by
   rw [q5k] at h2
   rw [hcs]
   simp [List.getD,h2]
  simp only [q5i,hu,hs,ha,e5,q9r,Option.map_none]
  rfl
theorem j22 {t:TypeId} {x i:TD} {k:TRes->Option α} {r:α} (h:qsr P t x i k=some r) : ∃ y,k y=some r/\Sim (q5i P t (eD x) (eD i)) y:=by
 unfold qsr at h
 split at h
 case h_3=>cases h
 case h_2 =>
  rename_i cs ik n
  cases hb:jk5 P t with
  | true=>rw [hb] at h;exact qpf (ik:=ik) h
  | false=>rw [hb] at h;exact qol (ik:=ik) h
 rename_i s k' n
 split at h
 case h_2=>cases h
 rename_i hu
 obtain ⟨c,hc,h⟩:=Option.bind_eq_some_iff.1 h
 obtain ⟨h1,rfl⟩:=jic hc
 refine ⟨_,h,_,h1,?_⟩
 simp only [eD,e1,eC,q01,List.headD_cons,q5i,hu]
 rfl
def qa9 (P:Program) (t:TypeId) (x i:TD) (σ:TSt) (k:TRes->Option α):Option α:=match P.underlying t with
 | some (.slice el)=>match tsz P el,x,i with
  | some m,.one (.c (.d (.lst e) l)),.one (.c (.d (.int _) n))=>if m=width e then (q0w l n).bind fun y=>k { val:=.one (.c (.rp e 0 y)) } else none
  | some m,.one (.c (.row tt g)),.one (.c (.d (.int _) n))=>match lk σ.rows tt with
   | some r=>if r.gen=g/\width r.e=m then (q0w r.xs n).bind fun _=>k { val:=.one (.c (.wp tt g (Int.toNat n) 0)) } else none
   | none=>none
  | _,_,_=>none
 | some (.array len el)=>match tsz P el,x,i with
  | some m,.one (.c (.box β o)),.one (.c (.d (.int _) n))=>bif Nat.beq len 12&&Nat.beq m 1 then (bif inA n len then k { val:=.one (.c (.bp β o len n)) } else none) else bif Nat.ble len 2 then joy n len (fun j=>k { val:=.one (.c (.box β (o+j*m))) }) else if (@LE.le Int _ 0 n/\@LT.lt Int _ n ((len:Nat):Int)) then k { val:=.one (.c (.box β (o+Int.toNat n*m))) } else none
  | _,_,_=>none
 | _=>none
theorem qxr {β:Type} {l:List β} {n:Int} {y:β} (h:q0w l n=some y):(0<=n/\n<l.length)/\nth l n.toNat=some y:=by
 unfold q0w at h
 split at h
 case isFalse=>cases h
 rename_i hn
 have h':=h
 rw [q5k] at h'
 obtain ⟨h1,_⟩:=List.getElem?_eq_some_iff.1 h'
 exact ⟨⟨hn,by omega⟩,h⟩
theorem qmq {t:TypeId} {x i:TD} {k:TRes->Option α} {r:α} (h:qa9 P t x i σ k=some r) : ∃ y,k y=some r/\Sim (q0u P t (eD x) (eD i) (eS σ).row) y:=by
 unfold qa9 at h
 split at h
 case h_3=>cases h
 case h_2 =>
  rename_i len el hu
  split at h
  case h_2=>cases h
  rename_i m β o k' n hm
  cases h12:Nat.beq len 12&&Nat.beq m 1 with
  | true =>
   rw [h12] at h
   replace h:(bif inA n len then k { val:=.one (.c (.bp β o len n)) } else none)=some r:=h
   cases hb:inA n len with
   | false=>rw [hb] at h;cases h
   | true =>
   rw [hb] at h
   have hm1:m=1:=Nat.eq_of_beq_eq_true (Bool.and_eq_true_iff.1 h12).2
   subst hm1
   exact ⟨_,h,(@LE.le Int _ 0 n/\@LT.lt Int _ n ((len:Nat):Int)),jlo hb,by simp only [eD,e1,eC,q01,List.headD_cons,q0u,hu,hm,q9r,Option.map_none]⟩
  | false =>
  rw [h12] at h
  cases hle:Nat.ble len 2 with
  | true =>
   rw [hle] at h
   replace h:joy n len (fun j=>k { val:=.one (.c (.box β (o+j*m))) })=some r:=h
   obtain ⟨j,hj,hjl,h⟩:=qyn h
   have hj':Int.toNat n=j:=by rw [hj];rfl
   exact ⟨_,h,(@LE.le Int _ 0 n/\@LT.lt Int _ n ((len:Nat):Int)),⟨by rw [hj];exact Int.natCast_nonneg j,by rw [hj];exact Int.ofNat_lt.2 hjl⟩,by simp only [eD,e1,eC,q01,List.headD_cons,q0u,hu,hm,q9r,Option.map_none,hj']⟩
  | false =>
  rw [hle] at h
  replace h:(if (@LE.le Int _ 0 n/\@LT.lt Int _ n ((len:Nat):Int)) then k { val:=.one (.c (.box β (o+Int.toNat n*m))) } else none)=some r:=h
  split at h
  case isFalse=>cases h
  rename_i hc
  exact ⟨_,h,(@LE.le Int _ 0 n/\@LT.lt Int _ n ((len:Nat):Int)),hc,by simp only [eD,e1,eC,q01,List.headD_cons,q0u,hu,hm,q9r,Option.map_none]⟩
 rename_i el hu
 split at h
 ·rename_i m e l k' n hm
  split at h
  case isFalse=>cases h
  rename_i hme
  subst hme
  obtain ⟨y,hy,h⟩:=Option.bind_eq_some_iff.1 h
  obtain ⟨h1,h2⟩:=qxr hy
  obtain ⟨h3,h4⟩:=qt6 h2
  refine ⟨_,h,(@LE.le Int _ 0 n/\@LT.lt Int _ n ((l.map (q01 e)).length:Nat)),by rw [List.length_map];exact h1,?_⟩
  have h3':((l:List (den e)).map (q01 e)).getD (Int.toNat n) []=q01 e y:=h3
  simp only [eD,e1,eC,q01,List.headD_cons,q0u,hu,hm,if_true,h3',q9r,Option.map_none,List.drop_zero]
 ·rename_i m tt g k' n hm
  split at h
  case h_2=>cases h
  rename_i r' hr
  split at h
  case isFalse=>cases h
  rename_i hg
  obtain ⟨y,hy,h⟩:=Option.bind_eq_some_iff.1 h
  obtain ⟨h1,h2⟩:=qxr hy
  refine ⟨_,h,(@LE.le Int _ 0 n/\@LT.lt Int _ n ((eR r').xs.length:Nat)),by show _/\@LT.lt Int _ n ((r'.xs.map (q01 r'.e)).length:Nat);rw [List.length_map];exact h1,?_⟩
  have hg':(eR r').gen=g/\(eR r').sz=m:=hg
  simp only [eD,e1,eC,q01,List.headD_cons,q0u,hu,hm,q2p hr,hg',and_self,if_true,q9r,Option.map_none]
 ·cases h
end Go.Proofs.YtlkpgcifpnppeaaGreatDoor.AM
