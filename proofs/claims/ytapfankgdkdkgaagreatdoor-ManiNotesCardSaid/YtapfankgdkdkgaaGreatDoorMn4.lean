
import Derived.Test.YtapfankgdkdkgaaGreatDoorMn3
import Derived.ProofKit
import Derived.OpenShut
import Derived.ShutString
import Derived.ChangeOld
import Derived.SliceStrings
import Derived.Deep.Slices
namespace Go.Proofs.YtapfankgdkdkgaaGreatDoor.AM
open Go.RowKit
set_option linter.unusedVariables false
set_option linter.unusedSimpArgs false
variable {F:Fr} {σ σ':St} {e:Env} {a:Act} {w:World} {P:Program}
def qwv:C->List Loc
 | .box β _=>[.b β]
 | .bsl β _=>[.b β]
 | .mv β=>[.b β]
 | .row t _=>[.r t]
 | .wp t _ _ _=>[.r t]
 | _=>[]
def qpk:List C->List Loc
 | []=>[]
 | c::cs=>qwv c++qpk cs
def j9s:D1->List Loc
 | .c x=>qwv x
 | .agg cs=>qpk cs
def q51:D->List Loc
 | .one x=>j9s x
 | .tup _=>[]
def AgD (d:D) (bx bx':Nat->Option (Nat×List C)) (rw rw':Nat->Option Row):Prop:=(∀β,Loc.b β∈q51 d->bx' β=bx β)/\(∀t,Loc.r t∈q51 d->rw' t=rw t)
section
variable {bx bx':Nat->Option (Nat×List C)} {rw rw':Nat->Option Row}
theorem qxq {t:TypeId} {p:D} (h:AgD p bx bx' rw rw'):q6u P t p bx' rw'=q6u P t p bx rw:=by
 unfold q6u
 split
 ·rw [h.1 _ (by simp [q51,j9s,qwv])]
 ·rfl
 ·rw [h.2 _ (by simp [q51,j9s,qwv])]
 ·rfl
theorem qv7 {t:TypeId} {p x:D} (h:AgD p bx bx' rw rw'):q2x P t p x bx' rw'=q2x P t p x bx rw:=by
 unfold q2x
 split
 ·split
  ·split
   ·split
    ·rw [h.1 _ (by simp [q51,j9s,qwv])]
    ·rw [h.2 _ (by simp [q51,j9s,qwv])]
    ·rfl
   ·rfl
  ·rfl
 ·rfl
theorem qhi {t:TypeId} {x i:D} (h:AgD x bx bx' rw rw'):q0t P t x i rw'=q0t P t x i rw:=by
 unfold q0t
 split
 ·split
  ·rfl
  ·rw [h.2 _ (by simp [q51,j9s,qwv])]
  ·rfl
 ·rfl
 ·rfl
theorem j1j {t:TypeId} {x:D} (h:AgD x bx bx' rw rw'):qgm P t x rw'=qgm P t x rw:=by
 unfold qgm
 split
 ·rfl
 ·rfl
 ·rfl
 ·rw [h.2 _ (by simp [q51,j9s,qwv])]
 ·rfl
theorem qp5 {m:Nat} {x:D} (h:AgD x bx bx' rw rw'):qiq m x rw'=qiq m x rw:=by
 unfold qiq
 split
 ·rfl
 ·rfl
 ·rw [h.2 _ (by simp [q51,j9s,qwv])]
 ·rfl
theorem qq4 {dst:Option Nat} {t:TypeId} {s x:D} (hs:AgD s bx bx' rw rw') (hx:AgD x bx bx' rw rw') (hd : ∀i,dst=some i->rw' i=rw i):q2f P dst t s x rw'=q2f P dst t s x rw:=by
 unfold q2f
 simp only [qp5 hx]
 split
 ·split
  ·split
   ·split
    ·rw [hs.2 _ (by simp [q51,j9s,qwv])]
    ·split
     ·rw [hd _ rfl]
     ·rfl
    ·rfl
   ·rfl
  ·rfl
 ·rfl
theorem qcz {dst:Option Nat} {t:TypeId} {n:Nat} {ps:Array (Nat×Operand)} {ρ:Operand->D} (hd : ∀i,dst=some i->rw' i=rw i):q0u P dst t n ps ρ rw'=q0u P dst t n ps ρ rw:=by
 unfold q0u
 split
 ·rw [hd _ rfl]
 ·rfl
theorem qu4 {dst:Option Nat} {t:TypeId} (hd : ∀i,dst=some i->bx' i=bx i):q8d P dst t bx'=q8d P dst t bx:=by
 unfold q8d
 split
 ·rw [hd _ rfl]
 ·rfl
theorem j4n {dst:Option Nat} {t:TypeId} {x:D} (hd : ∀i,dst=some i->bx' i=bx i):qm5 dst t x bx'=qm5 dst t x bx:=by
 unfold qm5
 split
 ·rw [hd _ rfl]
 ·rfl
theorem qis {t:TypeId} {x:D} {lo hi:Option D} (h:AgD x bx bx' rw rw'):q2d P t x lo hi rw'=q2d P t x lo hi rw:=by
 unfold q2d
 split
 ·rw [h.2 _ (by simp [q51,j9s,qwv])]
 ·rfl
theorem qos {dst:Option Nat} {s d:TypeId} {x:D} (h:AgD x bx bx' rw rw') (hd : ∀i,dst=some i->rw' i=rw i):q2q P dst s d x rw'=q2q P dst s d x rw:=by
 unfold q2q
 simp only [qp5 h]
 split
 ·rfl
 ·split
  ·rw [hd _ rfl]
  ·rfl
 ·rfl
theorem j12 {dst:Option Nat} {t:TypeId} {x:D} (hd : ∀i,dst=some i->rw' i=rw i):qdy P dst t x rw'=qdy P dst t x rw:=by
 unfold qdy
 split
 ·rw [hd _ rfl]
 ·rfl
theorem qmu {dst:Option Nat} {t:TypeId} (hd : ∀i,dst=some i->bx' i=bx i):q3d P dst t bx'=q3d P dst t bx:=by
 unfold q3d
 split
 ·rw [hd _ rfl]
 ·rfl
theorem qpn {t:TypeId} {x i:D} {ok:Bool} (h:AgD x bx bx' rw rw'):q21 P t x i ok bx'=q21 P t x i ok bx:=by
 unfold q21
 split
 ·rw [h.1 _ (by simp [q51,j9s,qwv])]
 ·rfl
theorem qbq {t:TypeId} {m i x:D} (h:AgD m bx bx' rw rw'):q2h P t m i x bx'=q2h P t m i x bx:=by
 unfold q2h
 split
 ·rw [h.1 _ (by simp [q51,j9s,qwv])]
 ·rfl
theorem q8x {ρ ρ':Operand->D} : ∀{ps:List (Nat×Operand)},(∀p∈ps,ρ' p.2=ρ p.2)->q8q ρ' ps=q8q ρ ps
 | [],_=>rfl
 | (i,x)::ps,h=>by
  unfold q8q
  rw [h _ (List.mem_cons_self ..),q8x (fun p hp=>h p (List.mem_cons_of_mem _ hp))]
theorem j3k {o:Oper} {ρ ρ':Operand->D} (hρ : ∀x∈o.op.operands.toList,ρ' x=ρ x) (hl : ∀x∈o.op.operands.toList,AgD (ρ x) bx bx' rw rw') (hb : ∀i,o.dst=some i->bx' i=bx i) (hr : ∀i,o.dst=some i->rw' i=rw i) :
  qcf P o ρ' bx' rw'=qcf P o ρ bx rw:=by
 unfold qcf
 generalize hop:o.op=op at hρ hl ⊢
 split<;>simp only [Op.operands,Call.operands] at hρ hl
 ·rw [hρ _ (by simp)]
 ·rw [hρ _ (by simp)]
 ·rw [hρ _ (by simp),hρ _ (by simp),hρ _ (by simp)]
 ·exact qu4 hb
 ·rw [hρ _ (by simp)];exact j4n hb
 ·rw [hρ _ (by simp)];exact qxq (hl _ (by simp))
 ·rw [hρ _ (by simp),hρ _ (by simp)];exact qv7 (hl _ (by simp))
 ·rw [hρ _ (by simp)]
 ·rw [hρ _ (by simp)]
 ·rw [hρ _ (by simp),hρ _ (by simp)]
 ·rw [hρ _ (by simp),hρ _ (by simp)];exact qhi (bx:=bx) (bx':=bx') (hl _ (by simp))
 ·rw [hρ _ (by simp)]
 ·unfold qce
  rw [q8x (ρ:=ρ) (ρ':=ρ') fun p hp=>hρ p.2 (by simpa using ⟨p.1,Array.mem_toList_iff.1 hp⟩)]
 ·rw [qcz hr]
  unfold q0u
  rw [q8x (ρ:=ρ) (ρ':=ρ') fun p hp=>hρ p.2 (by simpa using ⟨p.1,Array.mem_toList_iff.1 hp⟩)]
 ·rw [hρ _ (by simp),hρ _ (by simp)]
 ·rw [hρ _ (by simp)]
 ·rw [hρ _ (by simp)]
 ·rw [hρ _ (by simp),qos (bx:=bx) (bx':=bx') (hl _ (by simp)) hr]
 ·rename_i t x lo hi
  rw [hρ x (by simp)]
  have e1:lo.map ρ'=lo.map ρ:=by cases lo<;>simp;exact hρ _ (by simp)
  have e2:hi.map ρ'=hi.map ρ:=by cases hi<;>simp;exact hρ _ (by simp)
  rw [e1,e2,qis (bx:=bx) (bx':=bx') (hl _ (by simp))]
 ·rw [hρ _ (by simp)]
 ·rw [hρ _ (by simp)];exact j1j (bx:=bx) (bx':=bx') (hl _ (by simp))
 ·split
  ·rw [hρ _ (by simp),hρ _ (by simp)];exact qq4 (bx:=bx) (bx':=bx') (hl _ (by simp)) (hl _ (by simp)) hr
  ·rfl
 ·rw [hρ _ (by simp),j12 hr]
 ·rw [hρ _ (by simp),hρ _ (by simp)]
 ·rw [hρ _ (by simp),hρ _ (by simp)]
 ·congr 1
  exact List.map_congr_left fun x hx=>hρ x (by simpa using hx)
 ·exact qmu hb
 ·rw [hρ _ (by simp),hρ _ (by simp)];exact qpn (hl _ (by simp))
 ·rw [hρ _ (by simp),hρ _ (by simp),hρ _ (by simp)];exact qbq (hl _ (by simp))
 ·rw [hρ _ (by simp),hρ _ (by simp),hρ _ (by simp)];exact qbq (hl _ (by simp))
 ·rfl
end
def qcc (σ:St):List Operand->List Loc
 | []=>[]
 | x::xs=>q51 (opnd σ x)++qcc σ xs
def qgz:List Operand->List Loc
 | []=>[]
 | .tmp t::xs=>.s t::qgz xs
 | _::xs=>qgz xs
def qjg (ops:Array Oper) (o:Oper):List Loc:=match o.guard with
 | some (g,_)=>match (ops[g]?).bind (·.dst) with
  | some t=>[.s t]
  | none=>[]
 | none=>[]
def quv (o:Oper):List Loc:=match o.dst with
 | some i=>[.b i,.r i]
 | none=>[]
def q2z (ops:Array Oper) (σ:St) (o:Oper):List Loc:=qjg ops o++(qgz o.op.operands.toList++(qcc σ o.op.operands.toList++quv o))
theorem qmh {t:Nat} : ∀{xs:List Operand},Operand.tmp t∈xs->Loc.s t∈qgz xs
 | x::xs,h=>by
  rcases List.mem_cons.1 h with rfl|h
  ·exact List.mem_cons_self ..
  ·have ih:=qmh h
   cases x with
   | tmp t'=>exact List.mem_cons_of_mem _ ih
   | const v=>exact ih
   | global g=>exact ih
   | func f=>exact ih
theorem qlj {x:Operand} {l:Loc} : ∀{xs:List Operand},x∈xs->l∈q51 (opnd σ x)->l∈qcc σ xs
 | y::xs,h,hl=>by
  rw [qcc,List.mem_append]
  rcases List.mem_cons.1 h with rfl|h
  ·exact Or.inl hl
  ·exact Or.inr (qlj h hl)
variable {ops:Array Oper} {o:Oper} {j:Nat} {rest:List Oper} {pre:List En} {K:St->Prop}
theorem qao (h : ∀l∈q2z ops σ o,σ'.get l=σ.get l) : ∀x∈o.op.operands.toList,opnd σ' x=opnd σ x:=by
 intro x hx
 cases x with
 | tmp t =>
  have:=h (.s t) (by unfold q2z;simp only [List.mem_append];exact Or.inr (Or.inl (qmh hx)))
  simp only [St.get,LV.s.injEq] at this
  exact this
 | _=>rfl
theorem qa8 (h : ∀l∈q2z ops σ o,σ'.get l=σ.get l) : ∀x∈o.op.operands.toList,AgD (opnd σ x) σ.box σ'.box σ.row σ'.row:=by
 intro x hx
 have hm : ∀l,l∈q51 (opnd σ x)->l∈q2z ops σ o:=fun l hl=>by
  unfold q2z;simp only [List.mem_append];exact Or.inr (Or.inr (Or.inl (qlj hx hl)))
 exact ⟨fun β hβ=>by have:=h _ (hm _ hβ);simpa [St.get] using this,fun t ht=>by have:=h _ (hm _ ht);simpa [St.get] using this⟩
theorem qz3 (h : ∀l∈q2z ops σ o,σ'.get l=σ.get l):(∀i,o.dst=some i->σ'.box i=σ.box i)/\(∀i,o.dst=some i->σ'.row i=σ.row i):=by
 have hm : ∀i,o.dst=some i->Loc.b i∈q2z ops σ o/\Loc.r i∈q2z ops σ o:=fun i hi=>by
  unfold q2z quv;rw [hi];simp
 exact ⟨fun i hi=>by have:=h _ (hm i hi).1;simpa [St.get] using this,fun i hi=>by have:=h _ (hm i hi).2;simpa [St.get] using this⟩
theorem qai (h : ∀l∈q2z ops σ o,σ'.get l=σ.get l):q3g ops σ' o=q3g ops σ o:=by
 unfold q3g
 cases hg:o.guard with
 | none=>rfl
 | some p =>
  obtain ⟨g,want⟩:=p
  simp only
  cases ht:(ops[g]?).bind (·.dst) with
  | none=>rfl
  | some t =>
   have:=h (.s t) (by unfold q2z qjg;rw [hg];simp [ht])
   have h2:σ'.slot t=σ.slot t:=by simpa [St.get] using this
   simp only [h2]
theorem jg2 (hn:q83 F.n ops=true) (ho:ops[j]? = some o) (hw:q3g ops σ o=some true) {res:Res} (he:qcf P o (opnd σ) σ.box σ.row=some res) (hc:res.cond):jgr P F ops j ⟨q2z ops σ o,o.dst,res⟩ σ:=by
 intro σ' h e a w hR Qx K hK
 have hd : ∀k,o.dst=some k->k<F.n:=fun k hk=>q1w hn (by rw [ho];exact hk)
 have he':qcf P o (opnd σ') σ'.box σ'.row=some res:=by
  rw [j3k (qao h) (qa8 h) (qz3 h).1 (qz3 h).2];exact he
 obtain ⟨v,w',e',h1,h2,h3,h4⟩:=j5w he' e a w hR hc
 have hR':R F ((σ'.app res).put o.dst res.val) e' (a.put o.dst v) w':=hR.next h2 h3 rfl o.dst hd v res.val h4
 have hnext:=hK _ _ e' hR'
 unfold wpOp
 simp only [ho]
 rw [q5r hR ((qai h).trans hw) (fun g _ t ht=>q1w hn ht),if_pos rfl]
 refine .inl ?_
 unfold Oper.wp
 rcases h1 with h1|⟨h1,rfl⟩
 ·rw [h1];exact hnext
 ·rw [h1];exact hnext
theorem jh8 (hn:q83 F.n ops=true) (ho:ops[j]? = some o) (hw:q3g ops σ o=some false):jgr P F ops j ⟨q2z ops σ o,o.dst,{ cond:=True,val:=q4x undef }⟩ σ:=by
 intro σ' h e a w hR Qx K hK
 have hd : ∀k,o.dst=some k->k<F.n:=fun k hk=>q1w hn (by rw [ho];exact hk)
 have hR':R F (σ'.put o.dst (q4x undef)) e (a.put o.dst undef) w:=hR.pure hd (q05 _)
 unfold wpOp
 simp only [ho]
 rw [q5r hR ((qai h).trans hw) (fun g _ t ht=>q1w hn ht),if_neg (by decide)]
 exact hK _ _ e hR'
theorem qkw {rw rw':Nat->Option Row} {c:C} (h : ∀t,Loc.r t∈qwv c->rw' t=rw t):j0v rw' c=j0v rw c:=by
 unfold j0v
 split
 ·rfl
 ·rfl
 ·rw [h _ (by simp [qwv])]
 ·rfl
theorem qhx {rw rw':Nat->Option Row} : ∀{cs:List C},(∀t,Loc.r t∈qpk cs->rw' t=rw t)->qd5 rw' cs=qd5 rw cs
 | [],_=>rfl
 | c::cs,h=>by
  unfold qd5
  rw [qkw (fun t ht=>h t (by rw [qpk,List.mem_append];exact Or.inl ht)),qhx (fun t ht=>h t (by rw [qpk,List.mem_append];exact Or.inr ht))]
theorem j20 {rw rw':Nat->Option Row} {d:D} (h : ∀t,Loc.r t∈q51 d->rw' t=rw t):j22 rw' d=j22 rw d:=by
 cases d with
 | one x =>
  cases x with
  | c x=>simp only [j22,j18,qkw (c:=x) h]
  | agg cs=>simp only [j22,j18,qhx (cs:=cs) h]
 | tup xs=>rfl
theorem qhq {rw rw':Nat->Option Row} : ∀{ds:List D},(∀d∈ds,∀t,Loc.r t∈q51 d->rw' t=rw t)->q8o rw' ds=q8o rw ds
 | [],_=>rfl
 | d::ds,h=>by
  unfold q8o
  rw [j20 (h d (List.mem_cons_self ..)),qhq (fun d' hd'=>h d' (List.mem_cons_of_mem _ hd'))]
theorem joe (hn:q83 F.n ops=true) (ho:ops[j]? = some o) (hw:q3g ops σ o=some true) {x:Operand} {xs:Array Operand} {ts:Array TypeId} (hop:o.op = .call { callee:=.value x,args:=xs,argTypes:=ts })
  {f:FuncId} (hf:callee σ x=some f) (hb:q4b P f=true) {ds:List D} (hds:q8o σ.row (xs.toList.map (opnd σ))=some ds) {d:D} (hc:qfk P F.G f ds d):jgr P F ops j ⟨q2z ops σ o,o.dst,{ cond:=True,val:=d }⟩ σ:=by
 intro σ' h e a w hR Qx K hK
 have hd : ∀k,o.dst=some k->k<F.n:=fun k hk=>q1w hn (by rw [ho];exact hk)
 have hops:=qao h
 have hheap:=qa8 h
 rw [hop] at hops hheap
 simp only [Op.operands,Call.operands] at hops hheap
 have hx:opnd σ' x=opnd σ x:=hops x (by simp)
 have hxs:xs.toList.map (opnd σ')=xs.toList.map (opnd σ):=List.map_congr_left fun y hy=>hops y (by simp;exact Or.inr (by simpa using hy))
 have hds':q8o σ'.row (xs.toList.map (opnd σ'))=some ds:=by
  rw [hxs,qhq (rw:=σ.row) (rw':=σ'.row)]
  ·exact hds
  ·intro d' hd' t ht
   obtain ⟨y,hy,rfl⟩:=List.mem_map.1 hd'
   exact (hheap y (by simp;exact Or.inr (by simpa using hy))).2 t ht
 have hf':callee σ' x=some f:=by unfold callee at *;rw [hx];exact hf
 unfold wpOp
 simp only [ho]
 rw [q5r hR ((qai h).trans hw) (fun g _ t ht=>q1w hn ht),if_pos rfl]
 refine .inl ?_
 unfold callee at hf'
 split at hf'
 case h_2=>cases hf'
 rename_i f' hxx
 simp only [Option.some.injEq] at hf'
 subst hf'
 have h1:=hR.opnd x
 rw [hxx] at h1
 have h2:=q07 h1
 have hrun:(execOp a.eval o).run P w = .ok (.enter f' (xs.map a.eval)) w:=by
  have:=qjh hb (xs.map a.eval) w
  simp [execOp,hop,Sem.run_bind,resolve,h2,Deferred.ofValue,invoke,this]
 unfold Oper.wp
 rw [hrun]
 refine (qer hc hR.hp (vs:=xs.map a.eval) (by rw [Array.toList_map];exact qmi hR.hp hds' (qd3 hR _))).mono ?_
 rintro en w' ⟨v,e',rfl,h3,h4,h5⟩
 exact hK _ _ e' (hR.next h3 h4 rfl o.dst hd v d h5)
def ql1 (P:Program) (F:Fr) (ops:Array Oper) (pre:List En) (rest:List Oper) (σ:St) (K:St->Prop):Prop :=
 q83 F.n ops=true->ops.toList.drop pre.length=rest->∃ post,qcl P F ops pre.length σ post/\j67 ops (pre.reverse++post)=true/\K (qec post σ)
theorem jrn (hok:j67 ops pre.reverse=true) (h:K σ):ql1 P F ops pre [] σ K:=fun _ _=>⟨[],trivial,by simpa using hok,h⟩
theorem qvp {en:En} (hen:q83 F.n ops=true->ops[pre.length]? = some o->jgr P F ops pre.length en σ) (h:ql1 P F ops (en::pre) rest (en.app σ) K):ql1 P F ops pre (o::rest) σ K:=by
 intro hn hdrop
 have ho:ops[pre.length]? = some o:=by
  have:(ops.toList.drop pre.length)[0]? = some o:=by rw [hdrop];rfl
  rw [List.getElem?_drop,Nat.add_zero] at this
  simpa using this
 have hdrop':ops.toList.drop (en::pre).length=rest:=by
  rw [List.length_cons,<-List.drop_drop,hdrop];rfl
 obtain ⟨post,h1,h2,h3⟩:=h hn hdrop'
 exact ⟨en::post,⟨hen hn ho,h1⟩,by simpa using h2,h3⟩
def jna (σ:St) (rl:List Loc) (dst:Option Nat) (K1:En->St->Prop):Option Bool->Option Res->Prop
 | some true,some res=>res.cond/\K1 ⟨rl,dst,res⟩ ((σ.app res).put dst res.val)
 | some false,_=>K1 ⟨rl,dst,{ cond:=True,val:=q4x undef }⟩ (σ.put dst (q4x undef))
 | _,_=>False
theorem jq8 (h : ∀K1:En->St->Prop,(∀en σ',ql1 P F ops (en::pre) rest σ' K->K1 en σ')->jna σ (q2z ops σ o) o.dst K1 (q3g ops σ o) (qcf P o (opnd σ) σ.box σ.row)):ql1 P F ops pre (o::rest) σ K:=by
 have h:=h (fun en σ'=>ql1 P F ops (en::pre) rest σ' K) (fun _ _ h=>h)
 unfold jna at h
 split at h
 ·rename_i res hw he
  exact qvp (fun hn ho=>jg2 hn ho hw he h.1) h.2
 ·rename_i hw
  refine qvp (en:=⟨q2z ops σ o,o.dst,{ cond:=True,val:=q4x undef }⟩) (fun hn ho=>jh8 hn ho hw) ?_
  have e1:(⟨q2z ops σ o,o.dst,{ cond:=True,val:=q4x undef }⟩:En).app σ=σ.put o.dst (q4x undef):=rfl
  rw [e1];exact h
 ·exact h.elim
theorem jqg (hw:q3g ops σ o=some true) {x:Operand} {xs:Array Operand} {ts:Array TypeId} (hop:o.op = .call { callee:=.value x,args:=xs,argTypes:=ts })
  {f:FuncId} (hf:callee σ x=some f) (hb:q4b P f=true) {ds:List D} (hds:q8o σ.row (xs.toList.map (opnd σ))=some ds) {d:D} (hc:qfk P F.G f ds d)
  (h : ∀K1:En->St->Prop,(∀en σ',ql1 P F ops (en::pre) rest σ' K->K1 en σ')->K1 ⟨q2z ops σ o,o.dst,{ cond:=True,val:=d }⟩ (σ.put o.dst d)):ql1 P F ops pre (o::rest) σ K:=by
 have h:=h (fun en σ'=>ql1 P F ops (en::pre) rest σ' K) (fun _ _ h=>h)
 refine qvp (fun hn ho=>joe hn ho hw hop hf hb hds hc) ?_
 have e1:(⟨q2z ops σ o,o.dst,{ cond:=True,val:=d }⟩:En).app σ=σ.put o.dst d:=rfl
 rw [e1];exact h
theorem jhs {id:Nat} {l:List Oper} {y:Code} {Q:Exit->St->Prop} (hm:P.follows .mixedOrders=true) (hn:q83 F.n l.toArray=true) (h:ql1 P F l.toArray [] l σ (fun σ'=>q1r P F y σ' Q)):q1r P F (.seq (.region id l.toArray true) y) σ Q:=by
 obtain ⟨post,h1,h2,h3⟩:=h hn (by simp)
 exact qlz (qr0 hm hn post h1 (by simpa using h2) h3)
theorem jhr {id:Nat} {l:List Oper} {Q:Exit->St->Prop} (hm:P.follows .mixedOrders=true) (hn:q83 F.n l.toArray=true) (h:ql1 P F l.toArray [] l σ (Q .normal)):q1r P F (.region id l.toArray true) σ Q:=by
 obtain ⟨post,h1,h2,h3⟩:=h hn (by simp)
 exact qr0 hm hn post h1 (by simpa using h2) h3
theorem jmv (a:Array UInt8):(ByteArray.mk a).size=a.size:=rfl
attribute [push_cast] Option.pure_def Option.bind_eq_bind Option.bind_some Nat.zero_mul Nat.mul_zero Nat.one_mul Nat.mul_one Nat.zero_le Option.isSome_some Option.isSome_none jmv List.size_toArray Nat.zero_add Nat.add_zero St.of List.lookup_cons List.lookup_nil Option.getD_some Option.getD_none beq_self_eq_true clD cl1 clC List.forall_mem_cons jna q2z qjg qgz qcc quv q51 j9s qwv qpk Op.operands Call.operands callee List.append_nil
end Go.Proofs.YtapfankgdkdkgaaGreatDoor.AM
namespace Go.Proofs.YtapfankgdkdkgaaGreatDoor.AM
open Go.RowKit Go.ChangeShapes Go.WideShapes Go.ChangeAt
set_option linter.unusedVariables false
set_option linter.unusedSimpArgs false
inductive Sh where
 | int (k:IntKind)
 | bool
 | str
 | lst (e:List Sh)
mutual
def Typ:Sh->Dat->Prop
 | .int k,.v x=>∃ n,x = .int k n/\(Lit.int k n).wf=true
 | .bool,.v x=>∃ b,x = .bool b
 | .str,.v x=>∃ s:ByteArray,x = .string s/\s.size<=maxLen
 | .lst e,.lst sz xs=>sz=e.length/\xs.length<=maxLen/\∀x∈xs,qhl e x
 | _,_=>False
def qhl:List Sh->List Dat->Prop
 | [],[]=>True
 | s::ss,d::ds=>Typ s d/\qhl ss ds
 | _,_=>False
end
theorem qhl.len : ∀{ss:List Sh} {ds:List Dat},qhl ss ds->ds.length=ss.length
 | [],[],_=>rfl
 | _::ss,_::ds,h=>by
  unfold qhl at h
  rw [List.length_cons,List.length_cons,qhl.len h.2]
 | [],_::_,h=>by unfold qhl at h;exact h.elim
 | _::_,[],h=>by unfold qhl at h;exact h.elim
theorem qhl.app : ∀{ss:List Sh} {ds:List Dat} {ss':List Sh} {ds':List Dat},qhl ss ds->qhl ss' ds'->qhl (ss++ss') (ds++ds')
 | [],[],_,_,_,h=>h
 | _::ss,_::ds,_,_,h,h'=>by
  unfold qhl at h
  rw [List.cons_append,List.cons_append]
  unfold qhl
  exact ⟨h.1,qhl.app h.2 h'⟩
 | [],_::_,_,_,h,_=>by unfold qhl at h;exact h.elim
 | _::_,[],_,_,h,_=>by unfold qhl at h;exact h.elim
variable {H:Type} {enc:TypeId×Value->H} {P:Program} {W:World}
def Old (W:World):Nat->Nat->Prop:=fun b _=>b<W.heap.size
def argD:Bool->List Dat->D
 | true,ds=>.one (.agg (ds.map .d))
 | false,[d]=>.one (.c (.d d))
 | false,_=>.one (.c .bad)
end Go.Proofs.YtapfankgdkdkgaaGreatDoor.AM
namespace Go.Proofs.YtapfankgdkdkgaaGreatDoor.AM
open Go.RowKit
set_option linter.unusedVariables false
set_option linter.unusedSimpArgs false
abbrev IV:={ v:Value // v.oneCell'=true }
def q91:IV:=⟨.nilIface,rfl⟩
def nilFV:IV:=⟨.nilFunc,rfl⟩
def qwe:IV:=⟨.pointer none,rfl⟩
def nilMV:IV:=⟨.map none,rfl⟩
def qjl (t:TypeId) (v:Value):IV:=⟨.iface t v,rfl⟩
inductive Ty where
 | int (k:IntKind)
 | bool
 | str
 | lst (e:Ty)
 | prod (a b:Ty)
 | any
deriving DecidableEq
@[reducible] def den:Ty->Type
 | .int _=>Int
 | .bool=>Bool
 | .str=>List UInt8
 | .lst e=>List (den e)
 | .prod a b=>den a×den b
 | .any=>IV
def width:Ty->Nat
 | .prod a b=>width a+width b
 | _=>1
def ba (s:List UInt8):ByteArray:=⟨s.toArray⟩
def q03:(e:Ty)->den e->List Dat
 | .int k,(n:Int)=>[.v (.int k n)]
 | .bool,(b:Bool)=>[.v (.bool b)]
 | .str,(s:List UInt8)=>[.v (.string (ba s))]
 | .lst e,(l:List (den e))=>[.lst (width e) (l.map (q03 e))]
 | .prod a b,(p:den a×den b)=>q03 a p.1++q03 b p.2
 | .any,(v:IV)=>[.v v.1]
theorem qns (a b:Ty) (p:den (.prod a b)):q03 (.prod a b) p=q03 a (Prod.fst (p:den a×den b))++q03 b (Prod.snd (p:den a×den b)):=rfl
theorem q1o : ∀(e:Ty) (x:den e),(q03 e x).length=width e
 | .int _,_=>rfl
 | .bool,_=>rfl
 | .str,_=>rfl
 | .lst _,_=>rfl
 | .prod a b,p=>by rw [qns,List.length_append,q1o a,q1o b];rfl
 | .any,_=>rfl
inductive TC where
 | d (ty:Ty) (x:den ty)
 | nil
 | box (β off:Nat)
 | row (t g:Nat)
 | rp (e:Ty) (off:Nat) (x:den e)
 | wp (t g k off:Nat)
 | bp (β off len:Nat) (n:Int)
 | mv (β:Nat)
 | fn (f:Nat) (caps:List Nat)
 | undef
 | bad
def eC:TC->C
 | .d ty x=>.d ((q03 ty x).headD (.v Go.undef))
 | .nil=>.d (.v (.slice none 0 0))
 | .box β o=>.box β o
 | .row t g=>.row t g
 | .rp e off x=>.rp ((q03 e x).drop off)
 | .wp t g k o=>.wp t g k o
 | .bp β o _ n=>.box β (o+Int.toNat n*1)
 | .mv β=>.mv β
 | .fn f []=>.d (.v (.func (.func f) #[] #[]))
 | .fn f (c::cs)=>.fn f (c::cs)
 | .undef=>.d (.v Go.undef)
 | .bad=>.bad
def q5w (T:Nat):Bool:=Nat.blt T 2199023255552
theorem q2n {T:Nat} (h:q5w T=true):T<2199023255552:=Nat.le_of_ble_eq_true h
theorem jqq {T:Nat} (h:q5w T=false):2199023255552<=T:=by
 by_cases h1:T<2199023255552
 ·rw [show q5w T=true from Nat.ble_eq_true_of_le h1] at h;cases h
 ·omega
inductive TD1 where
 | c (x:TC)
 | agg (cs:List TC)
inductive TD where
 | one (x:TD1)
 | tup (xs:List TD1)
def e1:TD1->D1
 | .c x=>.c (eC x)
 | .agg cs=>.agg (cs.map eC)
def eD:TD->D
 | .one x=>.one (e1 x)
 | .tup xs=>.tup (xs.map e1)
structure TRow where
 gen:Nat
 E:Nat
 wr:Bool
 e:Ty
 xs:List (den e)
def eR (r:TRow):Row:=⟨r.gen,r.E,width r.e,r.wr,r.xs.map (q03 r.e)⟩
structure TSt where
 slots:List (Nat×TD)
 boxes:List (Nat×(Nat×List TC))
 rows:List (Nat×TRow)
def lk {α:Type} : List (Nat×α)->Nat->Option α
 | [],_=>none
 | (j,x)::l,i=>bif Nat.beq j i then some x else lk l i
def eB (p:Nat×List TC):Nat×List C:=(p.1,p.2.map eC)
def eS (σ:TSt):St :=
 {slot:=fun i=>match lk σ.slots i with|some x=>eD x|none=>.one (.c .bad)
  box:=fun i=>(lk σ.boxes i).map eB
  row:=fun i=>(lk σ.rows i).map eR }
theorem q0l {α:Type} (j:Nat) (x:α) (l:List (Nat×α)) (i:Nat):lk ((j,x)::l) i=if i=j then some x else lk l i:=by
 show (bif Nat.beq j i then some x else lk l i)=_
 by_cases h:i=j
 ·subst h;rw [if_pos rfl];have:Nat.beq i i=true:=Nat.beq_refl i;rw [this];rfl
 ·rw [if_neg h]
  cases hb:Nat.beq j i with
  | false=>rfl
  | true=>exact absurd (Nat.eq_of_beq_eq_true hb).symm h
structure TRes where
 val:TD
 box:Option (Nat×(Nat×List TC)):=none
 row:Option (Nat×TRow):=none
def q8t (c:Prop) (t:TRes):Res:={ cond:=c,val:=eD t.val,box:=t.box.map fun p=>(p.1,eB p.2),row:=t.row.map fun p=>(p.1,eR p.2) }
def TSt.app (σ:TSt) (r:TRes):TSt :=
 {slots:=σ.slots
  boxes:=match r.box with|some p=>p::σ.boxes|none=>σ.boxes
  rows:=match r.row with|some p=>p::σ.rows|none=>σ.rows }
def TSt.put (σ:TSt) (d:Option Nat) (x:TD):TSt:=match d with
 | some i=>{ σ with slots:=(i,x)::σ.slots }
 | none=>σ
theorem qxz (σ:TSt) (r:TRes) (c:Prop):eS (σ.app r)=(eS σ).app (q8t c r):=by
 obtain ⟨v,bx,rw⟩:=r
 unfold eS TSt.app St.app q8t
 congr 1
 ·cases bx with
  | none=>rfl
  | some p =>
   funext i
   obtain ⟨j,x⟩:=p
   simp only [Option.map_some,q0l,upd]
   split<;>rfl
 ·cases rw with
  | none=>rfl
  | some p =>
   funext i
   obtain ⟨j,x⟩:=p
   simp only [Option.map_some,q0l,upd]
   split<;>rfl
theorem qc4 (σ:TSt) (d:Option Nat) (x:TD):eS (σ.put d x)=(eS σ).put d (eD x):=by
 cases d with
 | none=>rfl
 | some i =>
  unfold eS TSt.put St.put
  simp only
  congr 1
  funext j
  simp only [q0l,upd]
  by_cases hj:j=i
  ·simp only [hj,if_true]
  ·simp only [hj,if_false]
def tval:Value->Option TC
 | .int k n=>some (.d (.int k) n)
 | .bool b=>some (.d .bool b)
 | .string s=>some (.d .str s.data.toList)
 | .slice none 0 0=>some .nil
 | .func (.func f) ⟨[]⟩ ⟨[]⟩=>some (.fn f [])
 | .tuple ⟨[]⟩=>some .undef
 | .nilIface=>some (.d .any q91)
 | .nilFunc=>some (.d .any nilFV)
 | .pointer none=>some (.d .any qwe)
 | .map none=>some (.d .any nilMV)
 | _=>none
def qlx:List Value->Option (List TC)
 | []=>some []
 | v::vs=>match tval v,qlx vs with
  | some x,some xs=>some (x::xs)
  | _,_=>none
theorem jbp {v:Value} {x:TC} (h:tval v=some x):eC x=qo4 v:=by
 unfold tval at h
 split at h<;>simp only [Option.some.injEq,reduceCtorEq] at h<;>subst h<;>first|rfl|skip
theorem q4n : ∀{vs:List Value} {xs:List TC},qlx vs=some xs->xs.map eC=vs.map qo4
 | [],xs,h=>by simp only [qlx,Option.some.injEq] at h;subst h;rfl
 | v::vs,xs,h=>by
  unfold qlx at h
  split at h
  case h_2=>cases h
  rename_i x ys hx hy
  simp only [Option.some.injEq] at h
  subst h
  rw [List.map_cons,List.map_cons,jbp hx,q4n hy]
def jov:Value->Option TD
 | .agg cs=>(qlx cs.toList).map fun xs=>.one (.agg xs)
 | v=>(tval v).map fun x=>.one (.c x)
theorem jk5 {v:Value} {x:TD} (h:jov v=some x):eD x=j8q v:=by
 unfold jov at h
 split at h
 ·obtain ⟨xs,h1,rfl⟩:=Option.map_eq_some_iff.1 h
  simp only [eD,e1,j8q,q4n h1]
 ·rename_i v' hv
  obtain ⟨xs,h1,rfl⟩:=Option.map_eq_some_iff.1 h
  simp only [eD,e1,jbp h1]
  cases v<;>first|rfl|exact absurd rfl (hv _)
def q0r (σ:TSt):Operand->Option TD
 | .tmp t=>lk σ.slots t
 | .const v=>jov v
 | .func f=>some (.one (.c (.fn f [])))
 | .global g=>none
theorem q06 {σ:TSt} {x:Operand} {y:TD} (h:q0r σ x=some y):opnd (eS σ) x=eD y:=by
 cases x with
 | tmp t=>unfold q0r at h;simp only [opnd,eS,h]
 | const v=>exact (jk5 h).symm
 | func f=>simp only [q0r,Option.some.injEq] at h;subst h;rfl
 | global g=>cases h
def qow (e:Ty) (x:den e):List TC:=match e,x with
 | .int k,x=>[.d (.int k) x]
 | .bool,x=>[.d .bool x]
 | .str,x=>[.d .str x]
 | .lst e,x=>[.d (.lst e) x]
 | .prod a b,(p:den a×den b)=>qow a p.1++qow b p.2
 | .any,x=>[.d .any x]
theorem q58 : ∀(e:Ty) (x:den e),(qow e x).map eC=(q03 e x).map C.d
 | .int _,_=>rfl
 | .bool,_=>rfl
 | .str,_=>rfl
 | .lst _,_=>rfl
 | .prod a b,p=>by rw [qns,List.map_append,<-q58 a,<-q58 b,<-List.map_append];rfl
 | .any,_=>rfl
def unD (ty:Ty):List TC->Option (den ty)
 | [.d ty' x]=>if h:ty'=ty then some (h ▸ x) else none
 | _=>none
theorem qs9 {ty:Ty} {cs:List TC} {x:den ty} (h:unD ty cs=some x):cs = [.d ty x]:=by
 unfold unD at h
 split at h
 ·rename_i ty' y
  split at h
  ·rename_i hty
   subst hty
   simp only [Option.some.injEq] at h
   subst h;rfl
  ·cases h
 ·cases h
def qpr:(e:Ty)->List TC->Option (den e)
 | .prod a b,cs=>match qpr a (cs.take (width a)),qpr b (cs.drop (width a)) with
  | some x,some y=>some (x,y)
  | _,_=>none
 | .int k,cs=>unD (.int k) cs
 | .bool,cs=>unD .bool cs
 | .str,cs=>unD .str cs
 | .lst e,cs=>unD (.lst e) cs
 | .any,cs=>unD .any cs
theorem q5q : ∀{e:Ty} {cs:List TC} {x:den e},qpr e cs=some x->cs.map eC=(q03 e x).map C.d
 | .prod a b,cs,x,h=>by
  unfold qpr at h
  split at h
  case h_2=>cases h
  rename_i y z hy hz
  obtain rfl:(y,z)=x:=Option.some.inj h
  have h1:=q5q hy
  have h2:=q5q hz
  show List.map eC cs=List.map C.d (q03 a y++q03 b z)
  rw [List.map_append,<-h1,<-h2,<-List.map_append,List.take_append_drop]
 | .int k,cs,x,h=>by rw [qs9 h];rfl
 | .bool,cs,x,h=>by rw [qs9 h];rfl
 | .str,cs,x,h=>by rw [qs9 h];rfl
 | .lst e,cs,x,h=>by rw [qs9 h];rfl
 | .any,cs,x,h=>by rw [qs9 h];rfl
end Go.Proofs.YtapfankgdkdkgaaGreatDoor.AM
namespace Go.Proofs.YtapfankgdkdkgaaGreatDoor.AM
open Go.RowKit
set_option linter.unusedVariables false
set_option linter.unusedSimpArgs false
variable {α:Type} {P:Program} {σ:TSt}
def nth {β:Type} : List β->Nat->Option β
 | [],_=>none
 | x::_,0=>some x
 | _::l,n+1=>nth l n
theorem q4d {β:Type} : ∀(l:List β) (n:Nat),nth l n=l[n]?
 | [],n=>by simp [nth]
 | _::_,0=>rfl
 | _::l,n+1=>by rw [nth,q4d l n];simp
def q1g {β:Type} (l:List β) (i:Int):Option β:=if 0<=i then nth l i.toNat else none
def sAt (s:List UInt8) (i:Int):Option Int:=(q1g s i).map fun c=>(c.toNat:Int)
def q1s {β:Type} (l:List β) (a b:Int):Option (List β):=if 0<=a/\a<=b/\b<=l.length then some ((l.drop a.toNat).take (b.toNat - a.toNat)) else none
def qbu (s t:List UInt8):Option (List UInt8):=if s.length+t.length<=9223372036854775807 then some (s++t) else none
def q35 {β:Type} (bytes:Nat) (xs ys:List β):Option (List β):=if (xs.length+ys.length)*bytes<=140737488355328 then some (xs++ys) else none
def q0b {β:Type} (x:β) (f:β->Option α):Option α:=f x
def qpo {β:Type} (x:Option β) (f:β->Option α) (g:Option α):Option α:=match x with
 | some q=>f q
 | none=>g
def quoO (k:IntKind) (x y:Int):Option Int:=if y≠0 then some (k.wrap (x.tdiv y)) else none
def remO (x y:Int):Option Int:=if y≠0 then some (x.tmod y) else none
def shlO (k:IntKind) (x y:Int):Option Int:=if 0<=y then some (k.wrap (x*2 ^ (min y.toNat k.bits))) else none
def shrO (k:IntKind) (x y:Int):Option Int:=if 0<=y then some (x.fdiv (2 ^ (min y.toNat k.bits))) else none
def andI (k:IntKind) (x y:Int):Int:=k.wrap (BitVec.ofInt k.bits x &&& BitVec.ofInt k.bits y).toNat
def orI (k:IntKind) (x y:Int):Int:=k.wrap (BitVec.ofInt k.bits x ||| BitVec.ofInt k.bits y).toNat
def xorI (k:IntKind) (x y:Int):Int:=k.wrap (BitVec.ofInt k.bits x ^^^ BitVec.ofInt k.bits y).toNat
def ltS (s t:List UInt8):Bool:=Op.bytesLess s t
def inA (n:Int) (len:Nat):Bool:=decide (0<=n)&&decide (n<(len:Int))
theorem jmf {n:Int} {len:Nat} (h:inA n len=true):0<=n/\n<(len:Int):=by
 simp only [inA,Bool.and_eq_true,decide_eq_true_eq] at h;exact h
def upd1 {β:Type} (i:Nat) (n:Int) (y x:β):β:=bif Nat.beq i (Int.toNat n) then y else x
def jlp {β:Type} (n:Int) (y:β):Nat->List β->List β
 | _,[]=>[]
 | i,x::xs=>upd1 i n y x::jlp n y (i+1) xs
theorem jdo {β:Type} (n:Int) (y:β) : ∀(xs:List β) (i:Nat),jlp n y i xs=if i<=n.toNat then xs.set (n.toNat - i) y else xs
 | [],i=>by simp [jlp]
 | x::xs,i=>by
  rw [jlp,jdo n y xs (i+1),upd1]
  by_cases h:i=n.toNat
  ·have hb:Nat.beq i n.toNat=true:=by rw [h];exact Nat.beq_refl _
   rw [hb,if_neg (by omega),if_pos (by omega),h,Nat.sub_self];rfl
  ·have hb:Nat.beq i n.toNat=false:=by
    cases hb:Nat.beq i n.toNat with
    | false=>rfl
    | true=>exact absurd (Nat.eq_of_beq_eq_true hb) h
   rw [hb]
   by_cases hi:i<=n.toNat
   ·rw [if_pos (by omega),if_pos hi]
    obtain ⟨k,hk⟩ : ∃ k,n.toNat - i=k+1:=⟨n.toNat - i - 1,by omega⟩
    have:n.toNat - (i+1)=k:=by omega
    rw [hk,this];rfl
   ·rw [if_neg (by omega),if_neg hi];rfl
theorem jj3 {β:Type} (n:Int) (y:β) (xs:List β):jlp n y 0 xs=xs.set n.toNat y:=by
 rw [jdo,if_pos (Nat.zero_le _),Nat.sub_zero]
theorem jq0 {β:Type} {l xs:List β} {o len j:Nat} {c:β} (h:(l.drop o).take len=xs) (hj:j<xs.length):l.take o++xs.set j c++l.drop (o+len)=setAt l (o+j) [c]:=by
 subst h
 have hl:j<(l.drop o).length/\j<len:=by rw [List.length_take] at hj;omega
 have ho:o+j<l.length:=by rw [List.length_drop] at hl;omega
 unfold setAt
 apply List.ext_getElem?
 intro i
 rw [List.append_assoc,List.append_assoc,List.getElem?_append,List.getElem?_append,List.getElem?_append,List.getElem?_append,List.getElem?_set,List.getElem?_take,List.getElem?_take,List.getElem?_take,List.getElem?_drop,List.getElem?_drop,List.getElem?_drop]
 simp only [List.length_take,List.length_set,List.length_drop,List.length_cons,List.length_nil]
 by_cases h1:i<o
 ·rw [if_pos (by omega),if_pos h1,if_pos (by omega),if_pos (by omega)]
 ·rw [if_neg (by omega)]
  have e1:min o l.length=o:=by omega
  have e2:min (o+j) l.length=o+j:=by omega
  rw [e1,e2]
  by_cases h2:i<o+j
  ·rw [if_pos h2,if_pos (by omega),if_pos h2,if_neg (by omega),if_pos (by omega)]
   congr 1;omega
  ·rw [if_neg h2]
   by_cases h3:i=o+j
   ·subst h3
    have e3:o+j - o=j:=by omega
    rw [e3,Nat.sub_self,if_pos (by omega),if_pos rfl,if_pos (by omega),if_pos (by omega)];rfl
   ·rw [if_neg (by omega : ¬ i - (o+j)<0+1)]
    by_cases h4:i - o<min len (l.length - o)
    ·rw [if_pos h4,if_neg (by omega),if_pos (by omega)]
     congr 1;omega
    ·rw [if_neg h4]
     by_cases h5:len<=l.length - o
     ·congr 1;omega
     ·rw [List.getElem?_eq_none (by omega),List.getElem?_eq_none (by omega)]
def Sim (x:Option Res) (t:TRes):Prop:=∃ c:Prop,c/\x=some (q8t c t)
theorem Sim.tr {x:Option Res} {t:TRes} (h:x=some (q8t True t)):Sim x t:=⟨True,trivial,h⟩
theorem q4e {i:Nat} {p:Nat×List TC} (h:lk σ.boxes i=some p):(eS σ).box i=some (p.1,p.2.map eC):=by show (lk σ.boxes i).map eB=_;rw [h];rfl
theorem q2j {i:Nat} {r:TRow} (h:lk σ.rows i=some r):(eS σ).row i=some (eR r):=by show (lk σ.rows i).map eR=_;rw [h];rfl
theorem qjy {i:Nat} (h:lk σ.boxes i=none):(eS σ).box i=none:=by show (lk σ.boxes i).map eB=_;rw [h];rfl
theorem q7z {i:Nat} (h:lk σ.rows i=none):(eS σ).row i=none:=by show (lk σ.rows i).map eR=_;rw [h];rfl
theorem q9p {β γ:Type} (f:β->γ) (l:List β) (off:Nat) (xs:List β):(setAt l off xs).map f=setAt (l.map f) off (xs.map f):=by
 unfold setAt;simp
def jq6 (ty:Ty):List TC->Option (List (den ty))
 | []=>some []
 | c::cs=>match unD ty [c],jq6 ty cs with
  | some x,some xs=>some (x::xs)
  | _,_=>none
theorem qve {ty:Ty} : ∀{cs:List TC} {xs:List (den ty)},jq6 ty cs=some xs->cs=xs.map (TC.d ty)
 | [],xs,h=>by simp only [jq6,Option.some.injEq] at h;subst h;rfl
 | c::cs,xs,h=>by
  unfold jq6 at h
  split at h
  case h_2=>cases h
  rename_i x ys h1 h2
  simp only [Option.some.injEq] at h
  subst h
  have:=qs9 h1
  simp only [List.cons.injEq,and_true] at this
  rw [List.map_cons,<-qve h2,this]
def loadT (P:Program) (t:TypeId) (cs:List TC):Option TD:=match qr8 P t,tsz P t with
 | some true,some n=>if n<=cs.length then some (.one (.agg (cs.take n))) else none
 | some false,_=>match cs with|c::_=>some (.one (.c c)) | []=>none
 | _,_=>none
theorem qj2 {t:TypeId} {cs:List TC} {d:TD} (h:loadT P t cs=some d):qp4 P t (cs.map eC)=some (eD d):=by
 unfold loadT at h
 unfold qp4
 split at h
 ·rename_i n h1 h2
  rw [h1,h2]
  split at h
  ·rename_i hle
   simp only [Option.some.injEq] at h
   subst h
   simp only [List.length_map,hle,if_true,eD,e1,List.map_take]
  ·cases h
 ·rename_i h1
  rw [h1]
  split at h
  ·simp only [Option.some.injEq] at h
   subst h;rfl
  ·cases h
 ·cases h
theorem qjs {b:Bool} {x:Option α} {r:α} (h:(bif b then x else none)=some r):b=true/\x=some r:=by
 cases b with
 | true=>exact ⟨rfl,h⟩
 | false=>cases h
def j32 (P:Program) (t:TypeId) (p:TD) (σ:TSt) (k:TRes->Option α):Option α:=match p with
 | .one (.c (.box β off))=>match lk σ.boxes β with
  | some q=>bif q5w q.1 then (match loadT P t (q.2.drop off) with|some d=>k { val:=d } | none=>none) else none
  | none=>none
 | .one (.c (.rp e off x))=>match loadT P t ((qow e x).drop off) with|some d=>k { val:=d } | none=>none
 | .one (.c (.wp tt g j off))=>match lk σ.rows tt with
  | some r=>if r.gen=g then (nth r.xs j).bind fun x=>match loadT P t ((qow r.e x).drop off) with|some d=>k { val:=d } | none=>none else none
  | none=>none
 | .one (.c (.bp β o len n))=>match qr8 P t,lk σ.boxes β with
  | some false,some q=>bif q5w q.1 then (match (q.2.drop o).take len with
   | .d e x0::cs0=>match jq6 e (.d e x0::cs0) with
    | some xs=>(nth xs (Int.toNat n)).bind fun y=>k { val:=.one (.c (.d e y)) }
    | none=>none
   | _=>none) else none
  | _,_=>none
 | _=>none
theorem qv1 {e:Ty} {xs:List (den e)} {j:Nat} {x:den e} (h:nth xs j=some x):(xs.map (q03 e)).getD j []=q03 e x/\j<(xs.map (q03 e)).length:=by
 rw [q4d] at h
 obtain ⟨h1,rfl⟩:=List.getElem?_eq_some_iff.1 h
 have:j<(xs.map (q03 e)).length:=by rw [List.length_map];exact h1
 exact ⟨by simp [List.getD,h1],this⟩
theorem jac {t:TypeId} {p:TD} {k:TRes->Option α} {r:α} (h:j32 P t p σ k=some r) :
  ∃ x,k x=some r/\Sim (q6u P t (eD p) (eS σ).box (eS σ).row) x:=by
 unfold j32 at h
 split at h
 ·rename_i β off
  split at h
  case h_2=>cases h
  rename_i q hq
  obtain ⟨hpb,h⟩:=qjs h
  split at h
  case h_2=>cases h
  rename_i d hd
  refine ⟨_,h,Sim.tr ?_⟩
  have:=qj2 hd
  rw [List.map_drop] at this
  simp only [q6u,eD,e1,eC,q4e hq,q2n hpb,if_true,this,Option.map_some]
  rfl
 ·rename_i e off x
  split at h
  case h_2=>cases h
  rename_i d hd
  refine ⟨_,h,Sim.tr ?_⟩
  have:=qj2 hd
  rw [List.map_drop,q58] at this
  simp only [q6u,eD,e1,eC,List.map_drop,this,Option.map_some]
  rfl
 ·rename_i tt g j off
  split at h
  case h_2=>cases h
  rename_i r' hr
  split at h
  case isFalse=>cases h
  rename_i hg
  obtain ⟨x,hx,h⟩:=Option.bind_eq_some_iff.1 h
  split at h
  case h_2=>cases h
  rename_i d hd
  have:=qj2 hd
  rw [List.map_drop,q58] at this
  obtain ⟨h1,h2⟩:=qv1 hx
  refine ⟨_,h,_,h2,?_⟩
  simp only [q6u,eD,e1,eC,q2j hr]
  have hg':(eR r').gen=g:=hg
  rw [if_pos hg']
  have h3:(eR r').xs.getD j []=q03 r'.e x:=h1
  rw [h3,List.map_drop,this]
  rfl
 ·rename_i β o len n
  split at h
  case h_2=>cases h
  rename_i q ha hq
  obtain ⟨hpb,h⟩:=qjs h
  split at h
  case h_2=>cases h
  rename_i e x0 cs0 hcs
  split at h
  case h_2=>cases h
  rename_i xs hxs
  obtain ⟨y,hy,h⟩:=Option.bind_eq_some_iff.1 h
  rw [q4d] at hy
  have h1:=qve hxs
  rw [h1] at hcs
  have h2:(q.2.drop (o+n.toNat*1)).head? = some (.d e y):=by
   have h3:((q.2.drop o).take len)[n.toNat]? = some (.d e y):=by rw [hcs,List.getElem?_map,hy];rfl
   rw [List.getElem?_take] at h3
   split at h3
   ·rw [List.getElem?_drop] at h3
    rw [List.head?_drop,Nat.mul_one];exact h3
   ·cases h3
  refine ⟨_,h,Sim.tr ?_⟩
  have h4:qp4 P t ((q.2.map eC).drop (o+n.toNat*1))=some (eD (.one (.c (.d e y)))):=by
   rw [<-List.map_drop]
   generalize q.2.drop (o+n.toNat*1)=l at h2
   cases l with
   | nil=>cases h2
   | cons c cs =>
    simp only [List.head?_cons,Option.some.injEq] at h2
    subst h2
    simp only [qp4,ha,List.map_cons]
    rfl
  simp only [q6u,eD,e1,eC,q4e hq,q2n hpb,if_true,h4,Option.map_some]
  rfl
 ·cases h
def q68:TD1->List TC
 | .c x=>[x]
 | .agg cs=>cs
def okTy:Ty->Bool
 | .prod _ _=>false
 | _=>true
def okT:TC->Bool
 | .d ty _=>okTy ty
 | .undef=>false
 | .bad=>false
 | .bp _ _ _ _=>false
 | _=>true
theorem js5 : ∀{x:TC},okT x=true->okC (eC x)=true
 | .d (.int _) _,_=>rfl
 | .d .bool _,_=>rfl
 | .d .str _,_=>rfl
 | .d (.lst _) _,_=>rfl
 | .d .any v,_=>by
  show okC (.d (.v (Subtype.val (v:IV))))=true
  exact (v:IV).2
 | .nil,_=>rfl
 | .box _ _,_=>rfl
 | .row _ _,_=>rfl
 | .rp _ _ _,_=>rfl
 | .wp _ _ _ _,_=>rfl
 | .fn _ [],_=>rfl
 | .fn _ (_::_),_=>rfl
 | .mv _,_=>rfl
theorem q1x (x:TD1):q0n (e1 x)=(q68 x).map eC:=by cases x<;>rfl
theorem qt2 {cs:List TC} (h:cs.all okT=true):(cs.map eC).all okC=true:=by
 rw [List.all_map]
 refine List.all_eq_true.2 fun x hx=>js5 (List.all_eq_true.1 h x hx)
theorem q6k : ∀(l:List Dat),(l.map C.d).mapM qiy=some l
 | []=>rfl
 | x::l=>by rw [List.map_cons,List.mapM_cons,q6k l];rfl
def setT (e:Ty) (x:den e) (off:Nat) (ys:List TC):Option (den e):=qpr e (setAt (qow e x) off ys)
def qtn (P:Program) (t:TypeId) (p x:TD) (σ:TSt) (k:TRes->Option α):Option α:=match x with
 | .one x=>match tsz P t with
  | some n=>if (q68 x).length=n/\(q68 x).all okT=true then
    match p with
    | .one (.c (.box β off))=>match lk σ.boxes β with
     | some q=>if off+n<=q.2.length/\q5w q.1=true then k { val:=.one (.c .undef),box:=some (β,(q.1,setAt q.2 off (q68 x))) } else none
     | none=>none
    | .one (.c (.wp tt g j off))=>match lk σ.rows tt with
     | some r=>if r.gen=g/\r.wr=true/\off+n<=width r.e then (nth r.xs j).bind fun y=>match setT r.e y off (q68 x) with
       | some y'=>k { val:=.one (.c .undef),row:=some (tt,{ r with xs:=r.xs.set j y' }) }
       | none=>none
      else none
     | none=>none
    | .one (.c (.bp β o len n))=>match lk σ.boxes β,q68 x with
     | some q,[.d e y]=>match jq6 e ((q.2.drop o).take len) with
      | some xs=>bif q5w q.1&&inA n xs.length then k { val:=.one (.c .undef),box:=some (β,(q.1,q.2.take o++(jlp n y 0 xs).map (TC.d e)++q.2.drop (o+len))) } else none
      | none=>none
     | _,_=>none
    | _=>none
   else none
  | none=>none
 | _=>none
theorem jo7 : ∀{l m:List Dat},l.map C.d=m.map C.d->l=m
 | [],[],_=>rfl
 | x::l,y::m,h=>by
  simp only [List.map_cons,List.cons.injEq,C.d.injEq] at h
  rw [h.1,jo7 h.2]
 | [],_::_,h=>by simp at h
 | _::_,[],h=>by simp at h
theorem jnt {e:Ty} {x x':den e} {off:Nat} {ys:List TC} (h:setT e x off ys=some x') (hl:off+ys.length<=width e) :
  ∃ ds,(ys.map eC).mapM qiy=some ds/\q03 e x'=setAt (q03 e x) off ds:=by
 have h1:=q5q h
 rw [q9p,q58] at h1
 have hx:=q1o e x
 have hx':=q1o e x'
 have h2:ys.map eC=(((q03 e x').drop off).take ys.length).map C.d:=by
  rw [List.map_take,List.map_drop,<-h1]
  unfold setAt
  have e0:((List.map C.d (q03 e x)).take off).length=off:=by rw [List.length_take,List.length_map];omega
  rw [List.append_assoc,List.drop_append,e0,Nat.sub_self,List.drop_zero,List.drop_eq_nil_of_le (by omega),List.nil_append,List.take_append_of_le_length (by rw [List.length_map];omega),List.take_of_length_le (by rw [List.length_map];omega)]
 refine ⟨_,by rw [h2];exact q6k _,?_⟩
 apply jo7
 rw [<-h1,q9p,h2]
theorem j34 {t:TypeId} {p x:TD} {k:TRes->Option α} {r:α} (h:qtn P t p x σ k=some r) :
  ∃ y,k y=some r/\Sim (q2x P t (eD p) (eD x) (eS σ).box (eS σ).row) y:=by
 unfold qtn at h
 split at h
 case h_2=>cases h
 rename_i x1
 split at h
 case h_2=>cases h
 rename_i n hn
 split at h
 case isFalse=>cases h
 rename_i hc
 obtain ⟨hc1,hc2⟩:=hc
 have hc1':(q0n (e1 x1)).length=n:=by rw [q1x,List.length_map];exact hc1
 have hc2':(q0n (e1 x1)).all okC=true:=by rw [q1x];exact qt2 hc2
 split at h
 ·rename_i β off
  split at h
  case h_2=>cases h
  rename_i q hq
  split at h
  case isFalse=>cases h
  rename_i hle
  obtain ⟨hle,hpb⟩:=hle
  refine ⟨_,h,Sim.tr ?_⟩
  show q2x P t (.one (.c (.box β off))) (.one (e1 x1)) _ _=_
  have e5:=q1x x1
  generalize e1 x1=y1 at hc1' hc2' e5
  rw [e5] at hc2'
  simp only [q2x,hn,e5,hc1,hc2',and_self,if_true,q4e hq,List.length_map,hle,q2n hpb,q8t,Option.map_some,eB,q9p]
  rfl
 ·rename_i tt g j off
  split at h
  case h_2=>cases h
  rename_i r' hr
  split at h
  case isFalse=>cases h
  rename_i hg
  obtain ⟨hg1,hg2,hg3⟩:=hg
  obtain ⟨y,hy,h⟩:=Option.bind_eq_some_iff.1 h
  split at h
  case h_2=>cases h
  rename_i y' hy'
  obtain ⟨ds,k1,k2⟩:=jnt hy' (by omega)
  obtain ⟨h1,h2⟩:=qv1 hy
  refine ⟨_,h,_,h2,?_⟩
  rw [<-q1x] at k1
  show q2x P t (.one (.c (.wp tt g j off))) (.one (e1 x1)) _ _=_
  generalize e1 x1=y1 at hc1' hc2' k1
  simp only [q2x,hn,hc1',hc2',and_self,if_true,q2j hr,k1]
  have hg':(eR r').gen=g/\(eR r').wr=true/\off+n<=(eR r').sz:=⟨hg1,hg2,hg3⟩
  rw [if_pos hg']
  have h3:(eR r').xs.getD j []=q03 r'.e y:=h1
  rw [h3,<-k2]
  simp only [q8t,Option.map_some,eR,List.map_set]
  rfl
 ·rename_i β o len m
  split at h
  case h_2=>cases h
  rename_i q e y hq hy
  split at h
  case h_2=>cases h
  rename_i xs hxs
  obtain ⟨hb0,h⟩:=qjs h
  obtain ⟨hpb,hb⟩:=Bool.and_eq_true_iff.1 hb0
  replace h:k { val:=.one (.c .undef),box:=some (β,(q.1,q.2.take o++(jlp m y 0 xs).map (TC.d e)++q.2.drop (o+len))) } = some r:=h
  obtain ⟨hb1,hb2⟩:=jmf hb
  refine ⟨_,h,Sim.tr ?_⟩
  have hmid:=qve hxs
  have hj:m.toNat<(xs.map (TC.d e)).length:=by rw [List.length_map];omega
  have key:q.2.take o++(jlp m y 0 xs).map (TC.d e)++q.2.drop (o+len)=setAt q.2 (o+m.toNat*1) [.d e y]:=by
   rw [jj3,List.map_set,Nat.mul_one]
   exact jq0 hmid hj
  have hlen:o+m.toNat*1+1<=q.2.length:=by
   have:=congrArg List.length hmid
   rw [List.length_take,List.length_drop] at this
   omega
  rw [key]
  have hn1:n=1:=by rw [<-hc1,hy];rfl
  subst hn1
  show q2x P t (.one (.c (.box β (o+m.toNat*1)))) (.one (e1 x1)) _ _=_
  have e5:=q1x x1
  generalize e1 x1=y1 at hc1' hc2' e5
  rw [e5] at hc2'
  rw [hy] at e5 hc2'
  simp only [q2x,hn,e5,List.map_cons,List.map_nil,List.length_cons,List.length_nil,q4e hq,List.length_map,q8t,Option.map_some,eB,q9p]
  rw [if_pos ⟨trivial,by simpa using hc2'⟩,if_pos ⟨hlen,q2n hpb⟩]
  rfl
 ·cases h
def qv8 (P:Program) (dst:Option Nat) (t:TypeId) (σ:TSt) (k:TRes->Option α):Option α:=match dst,qn7 P t with
 | some i,some z=>match lk σ.boxes i,qlx z with
  | none,some cs=>if z.all Value.oneCell'=true/\i<1000000/\q5w t=true then k { val:=.one (.c (.box i 0)),box:=some (i,(t,cs)) } else none
  | _,_=>none
 | _,_=>none
theorem j3t {dst:Option Nat} {t:TypeId} {k:TRes->Option α} {r:α} (h:qv8 P dst t σ k=some r) :
  ∃ y,k y=some r/\Sim (q8d P dst t (eS σ).box) y:=by
 unfold qv8 at h
 split at h
 case h_2=>cases h
 rename_i i z hz
 split at h
 case h_2=>cases h
 rename_i cs hb hcs
 split at h
 case isFalse=>cases h
 rename_i ha
 refine ⟨_,h,Sim.tr ?_⟩
 obtain ⟨ha,hi,hpb⟩:=ha
 simp only [q8d,hz,qjy hb,ha,hi,q2n hpb,and_self,if_true,q8t,eD,e1,eC,Option.map_some,eB,q4n hcs,Option.map_none]
def jeg (dst:Option Nat) (t:TypeId) (x:TD) (σ:TSt) (k:TRes->Option α):Option α:=match dst,x with
 | some i,.one x=>match lk σ.boxes i with
  | none=>if (q68 x).all okT=true/\i<1000000/\q5w t=true then k { val:=.one (.c (.box i 0)),box:=some (i,(t,q68 x)) } else none
  | some _=>none
 | _,_=>none
theorem jfc {dst:Option Nat} {t:TypeId} {x:TD} {k:TRes->Option α} {r:α} (h:jeg dst t x σ k=some r) :
  ∃ y,k y=some r/\Sim (qm5 dst t (eD x) (eS σ).box) y:=by
 unfold jeg at h
 split at h
 case h_2=>cases h
 rename_i i x1
 split at h
 case h_2=>cases h
 rename_i hb
 split at h
 case isFalse=>cases h
 rename_i ha
 refine ⟨_,h,Sim.tr ?_⟩
 obtain ⟨ha,hi,hpb⟩:=ha
 have ha':(q0n (e1 x1)).all okC=true:=by rw [q1x];exact qt2 ha
 show qm5 (some i) t (.one (e1 x1)) _=_
 have e5:=q1x x1
 generalize e1 x1=y1 at ha' e5
 rw [e5] at ha'
 simp only [qm5,e5,qjy hb,ha',hi,q2n hpb,and_self,if_true,q8t,Option.map_some,eB,Option.map_none]
 rfl
def q9d (P:Program) (t:TypeId) (p:TD) (f:Nat) (k:TRes->Option α):Option α:=match qm7 P t f with
 | some (off,_)=>match p with
  | .one (.c (.box β o))=>k { val:=.one (.c (.box β (o+off))) }
  | .one (.c (.rp e o x))=>if o+off<=width e then k { val:=.one (.c (.rp e (o+off) x)) } else none
  | .one (.c (.wp tt g j o))=>k { val:=.one (.c (.wp tt g j (o+off))) }
  | _=>none
 | none=>none
theorem qk6 {t:TypeId} {p:TD} {f:Nat} {k:TRes->Option α} {r:α} (h:q9d P t p f k=some r) :
  ∃ y,k y=some r/\Sim (q1v P t (eD p) f) y:=by
 unfold q9d at h
 split at h
 case h_2=>cases h
 rename_i off ft hf
 split at h
 ·exact ⟨_,h,Sim.tr (by simp only [q1v,hf,eD,e1,eC];rfl)⟩
 ·rename_i e o x
  split at h
  case isFalse=>cases h
  rename_i hle
  refine ⟨_,h,Sim.tr ?_⟩
  have:off<=((q03 e x).drop o).length:=by rw [List.length_drop,q1o];omega
  simp only [q1v,hf,eD,e1,eC,this,if_true,List.drop_drop,q8t,Option.map_none]
 ·exact ⟨_,h,Sim.tr (by simp only [q1v,hf,eD,e1,eC];rfl)⟩
 ·cases h
def que (P:Program) (t:TypeId) (x:TD) (f:Nat) (k:TRes->Option α):Option α:=match qm7 P t f,x with
 | some (off,ft),.one (.agg cs)=>match qr8 P ft,tsz P ft with
  | some true,some n=>if off+n<=cs.length then k { val:=.one (.agg ((cs.drop off).take n)) } else none
  | some false,_=>match nth cs off with
   | some c=>k { val:=.one (.c c) }
   | none=>none
  | _,_=>none
 | _,_=>none
theorem j47 {t:TypeId} {x:TD} {f:Nat} {k:TRes->Option α} {r:α} (h:que P t x f k=some r) :
  ∃ y,k y=some r/\Sim (q93 P t (eD x) f) y:=by
 unfold que at h
 split at h
 case h_2=>cases h
 rename_i off ft cs hf
 split at h
 ·rename_i n h1 h2
  split at h
  case isFalse=>cases h
  rename_i hle
  refine ⟨_,h,Sim.tr ?_⟩
  simp only [q93,hf,eD,e1,h1,h2,List.length_map,hle,if_true,q8t,List.map_take,List.map_drop,Option.map_none]
 ·rename_i h1
  split at h
  case h_2=>cases h
  rename_i c hc
  refine ⟨_,h,Sim.tr ?_⟩
  rw [q4d] at hc
  simp only [q93,hf,eD,e1,h1,List.getElem?_map,hc,Option.map_some,q8t,Option.map_none]
 ·cases h
def qh5 (x:TD) (i:Nat) (k:TRes->Option α):Option α:=match x with
 | .tup xs=>match nth xs i with
  | some y=>k { val:=.one y }
  | none=>none
 | _=>none
theorem qss {x:TD} {i:Nat} {k:TRes->Option α} {r:α} (h:qh5 x i k=some r) : ∃ y,k y=some r/\Sim (q5j (eD x) i) y:=by
 unfold qh5 at h
 split at h
 case h_2=>cases h
 rename_i xs
 split at h
 case h_2=>cases h
 rename_i y hy
 rw [q4d] at hy
 exact ⟨_,h,Sim.tr (by simp only [q5j,eD,List.getElem?_map,hy,Option.map_some,q8t,Option.map_none])⟩
def jqn (n:Int) (len:Nat) (f:Nat->Option α):Option α:=if n=0 then (bif Nat.blt 0 len then f 0 else none) else if n=1 then (bif Nat.blt 1 len then f 1 else none) else none
theorem qya {n:Int} {len:Nat} {f:Nat->Option α} {r:α} (h:jqn n len f=some r) : ∃ j:Nat,n=j/\j<len/\f j=some r:=by
 unfold jqn at h
 split at h
 ·rename_i h0
  cases hb:Nat.blt 0 len with
  | false=>rw [hb] at h;cases h
  | true=>rw [hb] at h;exact ⟨0,h0,by simpa using hb,h⟩
 ·split at h
  case isFalse=>cases h
  rename_i h1
  cases hb:Nat.blt 1 len with
  | false=>rw [hb] at h;cases h
  | true=>rw [hb] at h;exact ⟨1,h1,by simpa using hb,h⟩
def qcv (P:Program) (t:TypeId) (cs:List TC) (n:Int) (k:TRes->Option α):Option α:=match cs,P.underlying t with
 | .d e _::_,some (.array m el)=>match tsz P el,qr8 P el,jq6 e cs with
  | some 1,some false,some xs=>if m=xs.length then (q1g xs n).bind fun y=>k { val:=.one (.c (.d e y)) } else none
  | _,_,_=>none
 | _,_=>none
def jly (P:Program) (t:TypeId):Bool:=match P.underlying t with
 | some (.array _ el)=>match qr8 P el with
  | some true=>true
  | _=>false
 | _=>false
def qcs (P:Program) (t:TypeId) (cs:List TC) (n:Int) (k:TRes->Option α):Option α:=match P.underlying t with
 | some (.array m el)=>match tsz P el,qr8 P el with
  | some z,some true=>bif (Nat.ble m 2&&Nat.beq cs.length (m*z)) then jqn n m (fun j=>k { val:=.one (.agg ((cs.drop (j*z)).take z)) }) else none
  | _,_=>none
 | _=>none
theorem qq1 {t:TypeId} {cs:List TC} {ik:IntKind} {n:Int} {k:TRes->Option α} {r:α} (h:qcs P t cs n k=some r) :
  ∃ y,k y=some r/\Sim (q4c P t (eD (.one (.agg cs))) (eD (.one (.c (.d (.int ik) n))))) y:=by
 unfold qcs at h
 split at h
 case h_2=>cases h
 rename_i m el hu
 split at h
 case h_2=>cases h
 rename_i z hs ha
 cases hc:(Nat.ble m 2&&Nat.beq cs.length (m*z)) with
 | false=>rw [hc] at h;cases h
 | true =>
  rw [hc] at h
  replace h:jqn n m (fun j=>k { val:=.one (.agg ((cs.drop (j*z)).take z)) })=some r:=h
  have hl:cs.length=m*z:=Nat.eq_of_beq_eq_true (Bool.and_eq_true_iff.1 hc).2
  obtain ⟨j,hj,hjl,h⟩:=qya h
  have hj':Int.toNat n=j:=by rw [hj];rfl
  refine ⟨_,h,((0:Int)<=n/\n<(m:Int)/\(cs.map eC).length=m*z),⟨by rw [hj];exact Int.natCast_nonneg j,by rw [hj];exact Int.ofNat_lt.2 hjl,by rw [List.length_map];exact hl⟩,?_⟩
  have e0 : ∀z':Nat,z'=z->q4c P t (.one (.agg (cs.map eC))) (.one (.c (.d (.v (.int ik n)))))=some { cond:=(0:Int)<=n/\n<(m:Int)/\(cs.map eC).length=m*z,val:=.one (.agg (((cs.map eC).drop (j*z)).take z)) }:=fun z' _=>by
   simp only [q4c,hu,hs,ha,hj']
  rw [show eD (.one (.agg cs)) = .one (.agg (cs.map eC)) from rfl,show eD (.one (.c (.d (.int ik) n))) = .one (.c (.d (.v (.int ik n)))) from rfl,e0 z rfl]
  simp only [q8t,eD,e1,Option.map_none,List.map_take,List.map_drop]
def qtd (P:Program) (t:TypeId) (x i:TD) (k:TRes->Option α):Option α:=match x,i with
 | .one (.c (.d .str s)),.one (.c (.d (.int _) n))=>match P.underlying t with
  | some .string=>(sAt s n).bind fun c=>k { val:=.one (.c (.d (.int .u8) c)) }
  | _=>none
 | .one (.agg cs),.one (.c (.d (.int _) n))=>bif jly P t then qcs P t cs n k else qcv P t cs n k
 | _,_=>none
theorem jl1 {s:List UInt8} {n c:Int} (h:sAt s n=some c):(0<=n/\n<(ba s).size)/\c=j0x (ba s) n:=by
 unfold sAt q1g at h
 split at h
 case isFalse=>cases h
 rename_i hn
 obtain ⟨b,hb,rfl⟩:=Option.map_eq_some_iff.1 h
 rw [q4d] at hb
 obtain ⟨h1,rfl⟩:=List.getElem?_eq_some_iff.1 hb
 have hsz:(ba s).size=s.length:=by simp [ba,ByteArray.size]
 refine ⟨⟨hn,by omega⟩,?_⟩
 unfold j0x ba
 simp [List.getD,h1]
theorem j8h {β:Type} {l:List β} {n:Int} {y:β} (h:q1g l n=some y):(0<=n/\n<l.length)/\nth l n.toNat=some y:=by
 unfold q1g at h
 split at h
 case isFalse=>cases h
 rename_i hn
 have h':=h
 rw [q4d] at h'
 obtain ⟨h1,_⟩:=List.getElem?_eq_some_iff.1 h'
 exact ⟨⟨hn,by omega⟩,h⟩
theorem qpl {t:TypeId} {cs:List TC} {ik:IntKind} {n:Int} {k:TRes->Option α} {r:α} (h:qcv P t cs n k=some r) : ∃ y,k y=some r/\Sim (q4c P t (.one (.agg (cs.map eC))) (.one (.c (.d (.v (.int ik n)))))) y:=by
 unfold qcv at h
 split at h
 case h_2=>cases h
 rename_i e x0 cs0 m el hu
 split at h
 case h_2=>cases h
 rename_i xs hs ha hxs
 split at h
 case isFalse=>cases h
 rename_i hm
 obtain ⟨y,hy,h⟩:=Option.bind_eq_some_iff.1 h
 obtain ⟨h1,h2⟩:=j8h hy
 have hcs:=qve hxs
 refine ⟨_,h,(0<=n/\n<((List.map eC (TC.d e x0::cs0)).length:Int)/\m=(List.map eC (TC.d e x0::cs0)).length),?_,?_⟩
 ·rw [hcs,List.length_map,List.length_map]
  exact ⟨h1.1,h1.2,hm⟩
 ·have e5:(List.map eC (TC.d e x0::cs0)).getD n.toNat C.bad=eC (TC.d e y):=by
   rw [q4d] at h2
   rw [hcs]
   simp [List.getD,h2]
  simp only [q4c,hu,hs,ha,e5,q8t,Option.map_none]
  rfl
theorem j4e {t:TypeId} {x i:TD} {k:TRes->Option α} {r:α} (h:qtd P t x i k=some r) : ∃ y,k y=some r/\Sim (q4c P t (eD x) (eD i)) y:=by
 unfold qtd at h
 split at h
 case h_3=>cases h
 case h_2 =>
  rename_i cs ik n
  cases hb:jly P t with
  | true=>rw [hb] at h;exact qq1 (ik:=ik) h
  | false=>rw [hb] at h;exact qpl (ik:=ik) h
 rename_i s k' n
 split at h
 case h_2=>cases h
 rename_i hu
 obtain ⟨c,hc,h⟩:=Option.bind_eq_some_iff.1 h
 obtain ⟨h1,rfl⟩:=jl1 hc
 refine ⟨_,h,_,h1,?_⟩
 simp only [eD,e1,eC,q03,List.headD_cons,q4c,hu]
 rfl
def q9a (P:Program) (t:TypeId) (x i:TD) (σ:TSt) (k:TRes->Option α):Option α:=match P.underlying t with
 | some (.slice el)=>match tsz P el,x,i with
  | some m,.one (.c (.d (.lst e) l)),.one (.c (.d (.int _) n))=>if m=width e then (q1g l n).bind fun y=>k { val:=.one (.c (.rp e 0 y)) } else none
  | some m,.one (.c (.row tt g)),.one (.c (.d (.int _) n))=>match lk σ.rows tt with
   | some r=>if r.gen=g/\width r.e=m then (q1g r.xs n).bind fun _=>k { val:=.one (.c (.wp tt g (Int.toNat n) 0)) } else none
   | none=>none
  | _,_,_=>none
 | some (.array len el)=>match tsz P el,x,i with
  | some m,.one (.c (.box β o)),.one (.c (.d (.int _) n))=>bif Nat.beq len 12&&Nat.beq m 1 then (bif inA n len then k { val:=.one (.c (.bp β o len n)) } else none) else bif Nat.ble len 2 then jqn n len (fun j=>k { val:=.one (.c (.box β (o+j*m))) }) else if (@LE.le Int _ 0 n/\@LT.lt Int _ n ((len:Nat):Int)) then k { val:=.one (.c (.box β (o+Int.toNat n*m))) } else none
  | _,_,_=>none
 | _=>none
theorem j09 {β:Type} {l:List β} {n:Int} {y:β} (h:q1g l n=some y):(0<=n/\n<l.length)/\nth l n.toNat=some y:=by
 unfold q1g at h
 split at h
 case isFalse=>cases h
 rename_i hn
 have h':=h
 rw [q4d] at h'
 obtain ⟨h1,_⟩:=List.getElem?_eq_some_iff.1 h'
 exact ⟨⟨hn,by omega⟩,h⟩
theorem qlk {t:TypeId} {x i:TD} {k:TRes->Option α} {r:α} (h:q9a P t x i σ k=some r) : ∃ y,k y=some r/\Sim (q0t P t (eD x) (eD i) (eS σ).row) y:=by
 unfold q9a at h
 split at h
 case h_3=>cases h
 case h_2 =>
  rename_i len el hu
  split at h
  case h_2=>cases h
  rename_i m β o k' n hm
  cases h12:Nat.beq len 12&&Nat.beq m 1 with
  | true =>
   rw [h12] at h
   replace h:(bif inA n len then k { val:=.one (.c (.bp β o len n)) } else none)=some r:=h
   cases hb:inA n len with
   | false=>rw [hb] at h;cases h
   | true =>
   rw [hb] at h
   have hm1:m=1:=Nat.eq_of_beq_eq_true (Bool.and_eq_true_iff.1 h12).2
   subst hm1
   exact ⟨_,h,(@LE.le Int _ 0 n/\@LT.lt Int _ n ((len:Nat):Int)),jmf hb,by simp only [eD,e1,eC,q03,List.headD_cons,q0t,hu,hm,q8t,Option.map_none]⟩
  | false =>
  rw [h12] at h
  cases hle:Nat.ble len 2 with
  | true =>
   rw [hle] at h
   replace h:jqn n len (fun j=>k { val:=.one (.c (.box β (o+j*m))) })=some r:=h
   obtain ⟨j,hj,hjl,h⟩:=qya h
   have hj':Int.toNat n=j:=by rw [hj];rfl
   exact ⟨_,h,(@LE.le Int _ 0 n/\@LT.lt Int _ n ((len:Nat):Int)),⟨by rw [hj];exact Int.natCast_nonneg j,by rw [hj];exact Int.ofNat_lt.2 hjl⟩,by simp only [eD,e1,eC,q03,List.headD_cons,q0t,hu,hm,q8t,Option.map_none,hj']⟩
  | false =>
  rw [hle] at h
  replace h:(if (@LE.le Int _ 0 n/\@LT.lt Int _ n ((len:Nat):Int)) then k { val:=.one (.c (.box β (o+Int.toNat n*m))) } else none)=some r:=h
  split at h
  case isFalse=>cases h
  rename_i hc
  exact ⟨_,h,(@LE.le Int _ 0 n/\@LT.lt Int _ n ((len:Nat):Int)),hc,by simp only [eD,e1,eC,q03,List.headD_cons,q0t,hu,hm,q8t,Option.map_none]⟩
 rename_i el hu
 split at h
 ·rename_i m e l k' n hm
  split at h
  case isFalse=>cases h
  rename_i hme
  subst hme
  obtain ⟨y,hy,h⟩:=Option.bind_eq_some_iff.1 h
  obtain ⟨h1,h2⟩:=j09 hy
  obtain ⟨h3,h4⟩:=qv1 h2
  refine ⟨_,h,(@LE.le Int _ 0 n/\@LT.lt Int _ n ((l.map (q03 e)).length:Nat)),by rw [List.length_map];exact h1,?_⟩
  have h3':((l:List (den e)).map (q03 e)).getD (Int.toNat n) []=q03 e y:=h3
  simp only [eD,e1,eC,q03,List.headD_cons,q0t,hu,hm,if_true,h3',q8t,Option.map_none,List.drop_zero]
 ·rename_i m tt g k' n hm
  split at h
  case h_2=>cases h
  rename_i r' hr
  split at h
  case isFalse=>cases h
  rename_i hg
  obtain ⟨y,hy,h⟩:=Option.bind_eq_some_iff.1 h
  obtain ⟨h1,h2⟩:=j09 hy
  refine ⟨_,h,(@LE.le Int _ 0 n/\@LT.lt Int _ n ((eR r').xs.length:Nat)),by show _/\@LT.lt Int _ n ((r'.xs.map (q03 r'.e)).length:Nat);rw [List.length_map];exact h1,?_⟩
  have hg':(eR r').gen=g/\(eR r').sz=m:=hg
  simp only [eD,e1,eC,q03,List.headD_cons,q0t,hu,hm,q2j hr,hg',and_self,if_true,q8t,Option.map_none]
 ·cases h
end Go.Proofs.YtapfankgdkdkgaaGreatDoor.AM
