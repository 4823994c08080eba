
import Derived.Test.YtapfankgdkdkgaaGreatDoorEb1
import Derived.Lib.ConvBytes
import Derived.Laws.BytesString
import Derived.Deep.OwnRows
import Derived.Lib.MinMax
set_option linter.unusedVariables false
set_option linter.unusedSimpArgs false
namespace Go.Proofs.YtapfankgdkdkgaaGreatDoor.AM
open Go.RowKit
variable {F:Fr} {σ:St} {e:Env} {a:Act} {w:World} {P:Program}
def chunk {α:Type} (sz:Nat):Nat→List α→List (List α)
 | 0,_=>[]
 | n+1,l=>l.take sz::chunk sz n (l.drop sz)
theorem qks {α:Type} {sz:Nat} : ∀ (n:Nat) (l:List α),(chunk sz n l).length=n
 | 0,_=>rfl
 | n+1,l=>by simp [chunk,qks n]
theorem jhp {α:Type} {sz:Nat} : ∀ (n:Nat) (l:List α),l.length=n*sz→∀ x∈chunk sz n l,x.length=sz
 | 0,_,_,x,hx=>by simp [chunk] at hx
 | n+1,l,hl,x,hx=>by
  rw [Nat.add_mul,Nat.one_mul] at hl
  simp only [chunk,List.mem_cons] at hx
  rcases hx with rfl|hx
  ·rw [List.length_take];omega
  ·exact jhp n _ (by rw [List.length_drop];omega) x hx
theorem qnd {α:Type} {sz:Nat} : ∀ (n:Nat) (l:List α),l.length=n*sz→(chunk sz n l).flatten=l
 | 0,l,hl=>by
  have:l = []:=List.eq_nil_of_length_eq_zero (by omega)
  subst this;rfl
 | n+1,l,hl=>by
  rw [Nat.add_mul,Nat.one_mul] at hl
  simp only [chunk,List.flatten_cons]
  rw [qnd n _ (by rw [List.length_drop];omega),List.take_append_drop]
def rep {α:Type} (z:List α):Nat→List α
 | 0=>[]
 | n+1=>z++rep z n
theorem jfq {α:Type} (z:List α) : ∀ n,(rep z n).length=n*z.length
 | 0=>by simp [rep]
 | n+1=>by rw [rep,List.length_append,jfq z n,Nat.add_mul,Nat.one_mul];omega
theorem jt5 {α:Type} (z:List α) (h:0<z.length) : ∀ (n i:Nat),i<n*z.length→(rep z n)[i]? = z[i % z.length]?
 | 0,i,hi=>by omega
 | n+1,i,hi=>by
  rw [Nat.add_mul,Nat.one_mul] at hi
  rw [rep]
  by_cases h1:i<z.length
  ·rw [List.getElem?_append_left h1,Nat.mod_eq_of_lt h1]
  ·rw [List.getElem?_append_right (by omega),jt5 z h n (i - z.length) (by omega),show i % z.length=(i - z.length) % z.length from Nat.mod_eq_sub_mod (by omega)]
theorem jq4 {α:Type} {z:List α} {u:α} : ∀ {n:Nat},u∈rep z n→u∈z
 | 0,h=>by simp [rep] at h
 | n+1,h=>by
  rw [rep,List.mem_append] at h
  rcases h with h|h
  ·exact h
  ·exact jq4 h
def q1a (P:Program) (dst:Option Nat) (t:TypeId) (n:Nat) (ps:Array (Nat×Operand)) (ρ:Operand→D) (rw:Nat→Option Row):Option Res:=match P.underlying t,dst with
 | some (.slice el),some i=>match rw i,tsz P el,qtg P el,qcn ρ ps.toList with
  | none,some m,some z,some qs=>if n*m≤2 ^ 24∧n≤2 ^ 24∧z.length=m∧0<m∧z.all Value.oneCell'=true∧el<1099511627776 then match qm3 (fun i=>some (i*m,m)) ((rep z n).map qvb) qs with
    | some cs=>match cs.mapM qpf with
     | some ds=>some { cond:=True,val:=.one (.c (.row i 0)),row:=some (i,⟨0,el,m,true,chunk m n ds⟩) }
     | none=>none
    | none=>none
   else none
  | _,_,_,_=>none
 | _,_=>none
theorem k2i {t el:TypeId} {n m:Nat} {ps:Array (Nat×Value)} {vs zs:Array Value} (hu:P.underlying t=some (.slice el)) (hm:tsz P el=some m) (hle:n*m≤2 ^ 24)
  (hz:(n*m=0∧zs = #[])∨(¬ n*m=0∧∃ zv,(zeroValue el).run P w = .ok zv w∧zs=zv.cells))
  (hf:Instr.fill (fun i=>some (i*m,m)) ((Array.range (n*m)).map fun j=>zs[j % zs.size]!) ps.toList=some vs) :
  (Instr.buildSlice t n ps).run P w = .ok (.slice (some ⟨w.heap.size,0,none⟩) n n) (w.alloc (.cells vs el)):=by
 have hrow':(newRow el vs).run P w = .ok ⟨w.heap.size,0,none⟩ (w.alloc (.cells vs el)):=by
  simp only [newRow,Sem.run_bind,newObj]
  rfl
 have hle' : ¬ (n*m>2 ^ 24):=by omega
 unfold Instr.buildSlice
 simp only [Sem.run_bind,run_underlying hu w,Result.andThen_ok,q0z hm w,hle',if_false]
 rcases hz with ⟨hn,rfl⟩|⟨hn,zv,hz,rfl⟩
 ·rw [if_pos hn]
  simp only [Sem.run_bind,Sem.run_pure,Result.andThen_ok,hf,hrow']
 ·rw [if_neg hn]
  simp only [Sem.run_bind,hz,Sem.run_pure,Result.andThen_ok,hf,hrow']
theorem j3z {o:Oper} {t:TypeId} {n:Nat} {ps:Array (Nat×Operand)} {res:Res} (ho:o.op = .buildSlice t n ps) (h:q1a P o.dst t n ps (opnd σ) σ.row=some res):q2f P F o σ res:=by
 unfold q1a at h
 split at h
 case h_2=>cases h
 rename_i el i hu hd
 split at h
 case h_2=>cases h
 rename_i m z qs hrow hm hz hqs
 split at h
 case isFalse=>cases h
 rename_i hcond
 obtain ⟨hc1,hc2,hc3,hc4,hc5,hc6⟩:=hcond
 split at h
 case h_2=>cases h
 rename_i cs hcs
 split at h
 case h_2=>cases h
 rename_i ds hds
 simp only [Option.some.injEq] at h
 subst h
 intro e a w hR _
 have hz':=hz
 unfold qtg at hz
 obtain ⟨inf,hi,hz1⟩:=Option.bind_eq_some_iff.1 hz
 obtain ⟨zv,hz2,rfl⟩:=Option.map_eq_some_iff.1 hz1
 have hzr:(zeroValue el).run P w = .ok zv w:=by simp [zeroValue,typeInfo,hi,hz2]
 have hzs:zv.cells.size=m:=by rw [← hc3];simp
 have hfl:((Array.range (n*m)).map fun j=>zv.cells[j % zv.cells.size]!).toList=rep zv.cells.toList n:=by
  apply List.ext_getElem?
  intro j
  by_cases hj:j<n*m
  ·rw [jt5 _ (by omega) n j (by rw [hc3];exact hj)]
   have:j % zv.cells.size<zv.cells.size:=Nat.mod_lt _ (by omega)
   simp [hj,this]
  ·rw [List.getElem?_eq_none (by simp;omega),List.getElem?_eq_none (by rw [jfq,hc3];omega)]
 obtain ⟨vs,g1,g2,g3⟩:=qpq (e:=e) (σ:=σ) (w:=w) (place:=fun i=>some (i*m,m)) _ qs ((Array.range (n*m)).map fun j=>zv.cells[j % zv.cells.size]!) _ cs (qx5 hR _ _ hqs) (by rw [hfl];exact qbn qvb qft _) (by
  rw [hfl];intro u hu;exact List.all_eq_true.1 hc5 u (jq4 hu)) hcs
 have hdd:=qqj hds g2
 have hsz:vs.size=n*m:=by
  have l1:=g2.length
  have l3 : ∀ (qs:List (Nat×List C)) (cs cs':List C),qm3 (fun i=>some (i*m,m)) cs qs=some cs'→cs'.length=cs.length:=by
   intro qs
   induction qs with
   | nil=>intro cs cs' h;simp only [qm3,Option.some.injEq] at h;rw [h]
   | cons q qs ih =>
    intro cs cs' h
    obtain ⟨i,xs⟩:=q
    simp only [qm3] at h
    split at h
    case isFalse=>cases h
    rename_i hle
    rw [ih _ _ h]
    unfold setAt
    simp only [List.length_append,List.length_take,List.length_drop];omega
  have l4:=l3 _ _ _ hcs
  rw [List.length_map,jfq,hc3] at l4
  rw [Array.length_toList] at l1;omega
 have hdl:ds.length=n*m:=by have:=hdd.length;rw [Array.length_toList] at this;omega
 have hown:q9c (w.alloc (.cells vs el)) F.w0.heap.size el m (.slice (some ⟨w.heap.size,0,none⟩) n n) n vs.toList :=
  (q7o hc6).2 ⟨by simpa using hsz,.inr ⟨w.heap.size,n,vs,rfl,hR.hp.sizeLe,heap_alloc_new w _,Nat.le_refl _,by unfold maxLen;omega,hsz,List.take_of_length_le (by rw [Array.length_toList];omega)⟩⟩
 have hcl:=qks (sz:=m) n ds
 obtain ⟨hf,hh⟩:=hR.hp.rowNext (w':=w.alloc (.cells vs el)) i ⟨0,el,m,true,chunk m n ds⟩ (.slice none 0 0) (.slice (some ⟨w.heap.size,0,none⟩) n n) vs.toList (Or.inr ⟨hrow,rfl⟩)
  (jhp n ds hdl) (by rw [hcl];exact hown) (World.grownBy_alloc w _ _) (fun r hr=>by rw [hrow] at hr;cases hr) (fun b hb=>Or.inr (Nat.le_of_eq (Option.some.inj hb)))
  (by show q0j _ _ (chunk m n ds).flatten;rw [qnd n ds hdl];exact hdd) g3
 refine ⟨.slice (some ⟨w.heap.size,0,none⟩) n n,_,_,.inl ?_,hf,hh,⟨⟨_,q0w _ _ _,Nat.le_refl _⟩,(q2e _ _ _ _).symm,_,_,_,rfl⟩⟩
 have hps:(ps.map fun (i,x)=>(i,a.eval x)).toList=ps.toList.map fun (i,x)=>(i,a.eval x):=by rw [Array.toList_map]
 clear hf hh hown hdl hdd hR hds hcl hqs g2 g3
 by_cases hn:n*m=0
 ·have hn0:n=0:=by rcases Nat.mul_eq_zero.1 hn with h|h<;>omega
  subst hn0
  have:=k2i (P:=P) (w:=w) (ps:=ps.map fun (i,x)=>(i,a.eval x)) (vs:=vs) (zs:=#[]) hu hm hc1 (Or.inl ⟨hn,rfl⟩) (by
   rw [hps,← g1]
   congr 1
   simp)
  simp [execOp,ho,this]
 ·have:=k2i (P:=P) (w:=w) (ps:=ps.map fun (i,x)=>(i,a.eval x)) (vs:=vs) (zs:=zv.cells) hu hm hc1 (Or.inr ⟨hn,zv,hzr,rfl⟩) (by rw [hps];exact g1)
  simp [execOp,ho,this]
end Go.Proofs.YtapfankgdkdkgaaGreatDoor.AM
namespace Go.Proofs.YtapfankgdkdkgaaGreatDoor.AM
open Go.RowKit
variable {F:Fr} {σ:St} {e:Env} {a:Act} {w:World} {P:Program}
theorem qoc {α β:Type} {r:α→β→Prop} : ∀ {L:List (List α)} {M:List (List β)},q0j (q0j r) L M→q0j r L.flatten M.flatten
 | [],[],_=>trivial
 | _::_,_::_,h=>by rw [List.flatten_cons,List.flatten_cons];exact h.1.append (qoc h.2)
 | [],_::_,h=>h.elim
 | _::_,[],h=>h.elim
def qpk (m:Nat) (x:D) (rw:Nat→Option Row):Option (List (List Dat)):=match x with
 | .one (.c (.d (.lst sz xs)))=>if sz=m then some xs else none
 | .one (.c (.d (.v (.slice none 0 0))))=>some []
 | .one (.c (.row t g))=>match rw t with
  | some r=>if r.gen=g∧r.sz=m then some r.xs else none
  | none=>none
 | _=>none
theorem jrg {m:Nat} {x:Operand} {ys:List (List Dat)} (hR:R F σ e a w) (h:qpk m (opnd σ x) σ.row=some ys) :
  (∀ y∈ys,y.length=m)∧∃ news:List Value,q0j (DatRep e.Pc w) news ys.flatten∧(∀ u∈news,u.oneCell'=true) ∧
   ((∃ ad c,a.eval x = .slice (some ad) ys.length c∧∀ j u,news[j]? = some u→w.cell? (ad.add j)=some u)∨(∃ c,a.eval x = .slice none ys.length c∧ys.length=0)):=by
 have h1:=hR.opnd x
 unfold qpk at h
 split at h
 ·rename_i sz xs hx
  split at h
  case isFalse=>cases h
  rename_i hsz
  subst hsz
  simp only [Option.some.injEq] at h
  subst h
  rw [hx] at h1
  have h1':DatRep e.Pc w (a.eval x) (.lst sz xs):=h1
  generalize hv:a.eval x=v at h1'
  cases h1' with
  | lst aa nn cap _ _ b off c hn hcap hmax hs ha hcc hr =>
   refine ⟨hs,?_⟩
   have hLs : ∀ y∈(List.range xs.length).map (fun k=>(List.range sz).map (c k)),y.length=sz:=fun y hy=>by
    obtain ⟨k,_,rfl⟩:=List.mem_map.1 hy
    simp
   have hLl:=q7g _ hLs
   simp only [List.length_map,List.length_range] at hLl
   refine ⟨((List.range xs.length).map fun k=>(List.range sz).map (c k)).flatten,qoc (q0j.mk (by simp) (fun k hk hk'=>?_)),?_,?_⟩
   ·simp only [List.getElem_map,List.getElem_range]
    have hxl:=hs _ (List.getElem_mem hk')
    refine q0j.mk (by simp [hxl]) (fun j hj hj'=>?_)
    simp only [List.getElem_map,List.getElem_range]
    exact hr k j hk' hj'
   ·intro u hu
    obtain ⟨l,hl,hu⟩:=List.mem_flatten.1 hu
    obtain ⟨k,hk,rfl⟩:=List.mem_map.1 hl
    obtain ⟨j,hj,rfl⟩:=List.mem_map.1 hu
    exact (hcc k j (List.mem_range.1 hk) (List.mem_range.1 hj)).2.2
   ·subst hn
    by_cases h0:xs.length=0
    ·cases aa with
     | none=>exact Or.inr ⟨cap,rfl,h0⟩
     | some ad =>
      refine Or.inl ⟨ad,cap,rfl,fun j u hj=>?_⟩
      rw [List.getElem?_eq_none (by rw [hLl,h0];omega)] at hj
      cases hj
    ·rw [ha (by omega)]
     refine Or.inl ⟨_,cap,rfl,fun j u hj=>?_⟩
     obtain ⟨hlt,hju⟩:=List.getElem?_eq_some_iff.1 hj
     rw [hLl] at hlt
     have hs0:0<sz:=by
      rcases Nat.eq_zero_or_pos sz with hz|hz
      ·rw [hz] at hlt;omega
      ·exact hz
     have hk:j / sz<xs.length:=Nat.div_lt_of_lt_mul (by rw [Nat.mul_comm];exact hlt)
     have hm:=Nat.mod_lt j hs0
     have hjj:j=j / sz*sz+j % sz:=by rw [Nat.mul_comm];exact (Nat.div_add_mod j sz).symm
     have:=qc7 _ hLs (j / sz) (j % sz) (by simpa using hk) hm
     rw [← hjj,hj] at this
     simp only [List.getElem_map,List.getElem_range] at this
     rw [List.getElem?_eq_getElem (by simpa using hm)] at this
     simp only [List.getElem_map,List.getElem_range,Option.some.injEq] at this
     subst this
     rw [add_lit]
     have h3:=(hcc (j / sz) (j % sz) hk hm).2.1
     rw [show off+j=off+j / sz*sz+j % sz from by omega]
     exact h3
 ·rename_i hx
  simp only [Option.some.injEq] at h
  subst h
  rw [hx] at h1
  refine ⟨fun y hy=>(by cases hy),[],trivial,fun u hu=>(by cases hu),Or.inr ⟨0,q0d h1,rfl⟩⟩
 ·rename_i t g hx
  split at h
  case h_2=>cases h
  rename_i r hr
  split at h
  case isFalse=>cases h
  rename_i hg
  obtain ⟨rfl,rfl⟩:=hg
  simp only [Option.some.injEq] at h
  subst h
  rw [hx] at h1
  obtain ⟨_,h5,_⟩:(∃ r',σ.row t=some r'∧r.gen≤r'.gen)∧a.eval x=e.rv t r.gen∧_:=h1
  obtain ⟨hs,cells,k1,k2,k3⟩:=hR.hp.rows t r hr
  refine ⟨hs,cells,k2,k3,?_⟩
  rcases k1.2 with ⟨h4,h6⟩|⟨gg,cap,cur,h4,_⟩
  ·exact Or.inr ⟨0,by rw [h5,h4,h6],h6⟩
  ·exact Or.inl ⟨⟨gg,0,none⟩,cap,by rw [h5,h4],fun j u hj=>k1.cells (g:=gg) (by rw [h4];rfl) j u hj⟩
 ·cases h
def juc (P:Program) (el:TypeId):Option (Nat×Nat):=match P.info? el with
 | some i=>match i.zero with
  | some z=>if z.cells.size=i.size∧0<i.size∧0<i.bytes∧el<1099511627776 then some (i.size,i.bytes) else none
  | none=>none
 | none=>none
def q3d (P:Program) (dst:Option Nat) (t:TypeId) (s x:D) (rw:Nat→Option Row):Option Res:=match P.underlying t with
 | some (.slice el)=>match juc P el with
  | some (m,bytes)=>match qpk m x rw with
   | some ys=>match s with
    | .one (.c (.row tt g))=>match rw tt with
     | some r=>if r.gen=g∧r.sz=m∧r.E=el then some { cond:=(r.xs.length+ys.length)*bytes≤140737488355328,val:=.one (.c (.row tt (g+1))),row:=some (tt,{ r with gen:=g+1,xs:=r.xs++ys }) } else none
     | none=>none
    | .one (.c (.d (.v (.slice none 0 0))))=>match dst with
     | some i=>match rw i with
      | none=>some { cond:=ys.length*bytes≤140737488355328,val:=.one (.c (.row i 0)),row:=some (i,⟨0,el,m,true,ys⟩) }
      | some _=>none
     | none=>none
    | _=>none
   | none=>none
  | none=>none
 | _=>none
theorem jl6 {base E size n:Nat} {v:Value} {xs:List Value} (h:q9c w base E size v n xs) : ∃ a k c,v = .slice a k c:=by
 rcases h.2 with ⟨h1,_⟩|⟨g,cap,cur,h1,_⟩<;>exact ⟨_,_,_,h1⟩
theorem jxm {o:Oper} {t:TypeId} {s x:Operand} {res:Res} (ho:o.op = .call { callee:=.builtin .append,args:=#[s,x],argTypes:=#[t,t] }) (h:q3d P o.dst t (opnd σ s) (opnd σ x) σ.row=some res):q2f P F o σ res:=by
 unfold q3d at h
 split at h
 case h_2=>cases h
 rename_i el hu
 split at h
 case h_2=>cases h
 rename_i m bytes hel
 unfold juc at hel
 split at hel
 case h_2=>cases hel
 rename_i i hi
 split at hel
 case h_2=>cases hel
 rename_i z hz
 split at hel
 case isFalse=>cases hel
 rename_i hsz
 obtain ⟨hz1,hz2,hz3,hz4⟩:=hsz
 simp only [Option.some.injEq,Prod.mk.injEq] at hel
 obtain ⟨hm,hby⟩:=hel
 split at h
 case h_2=>cases h
 rename_i ys hys
 split at h
 ·rename_i tt g hs
  split at h
  case h_2=>cases h
  rename_i r hr
  split at h
  case isFalse=>cases h
  rename_i hg
  obtain ⟨rfl,hrm,hrE⟩:=hg
  simp only [Option.some.injEq] at h
  subst h
  intro e a w hR hc
  have hc':(r.xs.length+ys.length)*bytes≤140737488355328:=hc
  obtain ⟨hy1,news,hy2,hy3,hy4⟩:=jrg hR hys
  have h1:=hR.opnd s
  rw [hs] at h1
  obtain ⟨_,h5,_⟩:(∃ r',σ.row tt=some r'∧r.gen≤r'.gen)∧a.eval s=e.rv tt r.gen∧_:=h1
  obtain ⟨hss,cells,k1,k2,k3⟩:=hR.hp.rows tt r hr
  have hnl:news.length=ys.length*m:=by rw [hy2.length,q7g ys hy1]
  have hlen:r.xs.length+ys.length≤140737488355328:=Nat.le_trans (Nat.le_mul_of_pos_right _ (by omega)) hc'
  subst hrE
  obtain ⟨v',w',g1,g2,g3,g4,g5⟩:=qs0 (P:=P) w F.w0.heap.size t o.type r.E i z m bytes hu hi hz hm hby (by omega) (by omega) (e.rv tt r.gen) r.xs.length cells (by rw [← hrm];exact (q7o hz4).1 k1) (a.eval x) ys.length news hy4 hnl hy3 (by unfold maxLen;omega) hc' hR.hp.sizeLe
  obtain ⟨hf,hh⟩:=hR.hp.rowNext (w':=w') tt { r with gen:=r.gen+1,xs:=r.xs++ys } (e.rv tt r.gen) v' (cells++news)
   (Or.inl ⟨r,hr,rfl,rfl,fun hw=>⟨hw,Nat.mul_le_mul_right _ (by rw [List.length_append];omega)⟩,Or.inr rfl⟩)
   (fun y hy=>by
    rcases List.mem_append.1 hy with hy|hy
    ·exact hss y hy
    ·exact (hy1 y hy).trans hrm.symm)
   (by show q9c w' _ r.E r.sz v' (r.xs++ys).length _;rw [List.length_append,hrm];exact (q7o hz4).2 g2) g3
   (fun r2 hr2 _ gg oo hg ho=>by rw [hr] at hr2;cases hr2;exact g4 gg oo hg (by rw [← hrm];exact ho)) g5
   (by rw [List.flatten_append];exact k2.append hy2) (fun u hu=>by
    rcases List.mem_append.1 hu with hu|hu
    ·exact k3 u hu
    ·exact hy3 u hu)
  refine ⟨v',w',_,.inl ?_,hf,hh,⟨⟨_,q0w _ _ _,Nat.le_refl _⟩,(q2e _ _ _ _).symm,jl6 ((q7o hz4).2 g2)⟩⟩
  simp [execOp,ho,resolve,invoke,builtin,h5,g1]
 ·rename_i hs
  split at h
  case h_2=>cases h
  rename_i d hd
  split at h
  case h_2=>cases h
  rename_i hr
  simp only [Option.some.injEq] at h
  subst h
  intro e a w hR hc
  have hc':ys.length*bytes≤140737488355328:=hc
  obtain ⟨hy1,news,hy2,hy3,hy4⟩:=jrg hR hys
  have h1:=hR.opnd s
  rw [hs] at h1
  have h5:=q0d h1
  have hnl:news.length=ys.length*m:=by rw [hy2.length,q7g ys hy1]
  have hlen:ys.length≤140737488355328:=Nat.le_trans (Nat.le_mul_of_pos_right _ (by omega)) hc'
  obtain ⟨v',w',g1,g2,g3,g4,g5⟩:=qs0 (P:=P) w F.w0.heap.size t o.type el i z m bytes hu hi hz hm hby (by omega) (by omega) (.slice none 0 0) 0 [] (World.ownsRow_nil _ _ _ _) (a.eval x) ys.length news hy4 hnl hy3 (by unfold maxLen;omega) (by rw [Nat.zero_add];exact hc') hR.hp.sizeLe
  rw [Nat.zero_add,List.nil_append] at g2
  obtain ⟨hf,hh⟩:=hR.hp.rowNext (w':=w') d ⟨0,el,m,true,ys⟩ (.slice none 0 0) v' news (Or.inr ⟨hr,rfl⟩) hy1 ((q7o hz4).2 g2) g3
   (fun r2 hr2=>by rw [hr] at hr2;cases hr2) g5 hy2 hy3
  refine ⟨v',w',_,.inl ?_,hf,hh,⟨⟨_,q0w _ _ _,Nat.le_refl _⟩,(q2e _ _ _ _).symm,jl6 ((q7o hz4).2 g2)⟩⟩
  simp [execOp,ho,resolve,invoke,builtin,h5,g1]
 ·cases h
def qsu (op:BinOp) (k:IntKind) (x y:Int):Option (Prop×Value):=match op with
 | .add=>some (True,.int k (k.wrap (x+y)))
 | .sub=>some (True,.int k (k.wrap (x - y)))
 | .mul=>some (True,.int k (k.wrap (x*y)))
 | .quo=>some (y≠0,.int k (k.wrap (x.tdiv y)))
 | .rem=>some (y≠0,.int k (x.tmod y))
 | .and=>some (True,.int k (k.wrap (BitVec.ofInt k.bits x &&& BitVec.ofInt k.bits y).toNat))
 | .or=>some (True,.int k (k.wrap (BitVec.ofInt k.bits x ||| BitVec.ofInt k.bits y).toNat))
 | .xor=>some (True,.int k (k.wrap (BitVec.ofInt k.bits x ^^^ BitVec.ofInt k.bits y).toNat))
 | .eql=>some (True,.bool (decide (x=y)))
 | .neq=>some (True,.bool (!decide (x=y)))
 | .lss=>some (True,.bool (decide (x<y)))
 | .leq=>some (True,.bool (decide (x≤y)))
 | .gtr=>some (True,.bool (decide (y<x)))
 | .geq=>some (True,.bool (decide (y≤x)))
 | _=>none
theorem joa {op:BinOp} {T:TypeId} {k:IntKind} {x y:Int} {c:Prop} {v:Value} (h:qsu op k x y=some (c,v)) (hc:c) (w:World):(binOp op T (.int k x) (.int k y)).run P w = .ok v w:=by
 cases op<;>simp only [qsu,Option.some.injEq,Prod.mk.injEq,reduceCtorEq] at h<;>obtain ⟨rfl,rfl⟩:=h <;>
  first
   | rfl
   | (simp [binOp,Op.intArith,Op.intDiv,Op.intBits,Op.intCmp,hc];done)
   | (simp only [binOp,ne_eq,not_true_eq_false,if_false,Op.intCmp,Sem.run_pure];first|rfl|(congr 2;exact Bool.eq_iff_iff.2 (by simp)))
theorem jc3 {x y:ByteArray} : (x.toList==y.toList)=decide (x=y):=by
 rw [Bool.eq_iff_iff]
 simp only [beq_iff_eq,decide_eq_true_eq]
 constructor
 ·intro h
  have hx : ∀ z:ByteArray,z.toList=z.data.toList:=fun z=>ByteArray.toList_eq ..
  rw [hx,hx] at h
  cases x;cases y
  simp only [ByteArray.mk.injEq]
  exact Array.toList_inj.1 h
 ·intro h;rw [h]
end Go.Proofs.YtapfankgdkdkgaaGreatDoor.AM
namespace Go.Proofs.YtapfankgdkdkgaaGreatDoor.AM
open Go.RowKit
variable {F:Fr} {σ:St} {e:Env} {a:Act} {w:World} {P:Program}
def j02 (op:BinOp) (x y:ByteArray):Option (Prop×Value):=match op with
 | .add=>some (x.size+y.size≤9223372036854775807,.string (x++y))
 | .eql=>some (True,.bool (decide (x=y)))
 | .neq=>some (True,.bool (!decide (x=y)))
 | .lss=>some (True,.bool (Op.bytesLess x.toList y.toList))
 | .leq=>some (True,.bool (Op.bytesLess x.toList y.toList||decide (x=y)))
 | .gtr=>some (True,.bool (!(Op.bytesLess x.toList y.toList||decide (x=y))))
 | .geq=>some (True,.bool (!Op.bytesLess x.toList y.toList))
 | _=>none
theorem jnx {op:BinOp} {T:TypeId} {x y:ByteArray} {c:Prop} {v:Value} (h:j02 op x y=some (c,v)) (hc:c) (w:World):(binOp op T (.string x) (.string y)).run P w = .ok v w:=by
 cases op<;>simp only [j02,Option.some.injEq,Prod.mk.injEq,reduceCtorEq] at h<;>obtain ⟨rfl,rfl⟩:=h
 case add =>
  have : ¬ (((x.size+y.size:Nat):Int)>IntKind.i64.max):=by
   have e:IntKind.i64.max=9223372036854775807:=by decide
   rw [e];omega
  simp only [binOp,Op.stringOp,this,if_false,Sem.run_pure]
 all_goals simp only [binOp,Op.stringOp,jc3,Sem.run_pure]
def jjt (op:BinOp) (k:IntKind) (x y:Int):Option (Prop×Value):=match op with
 | .shl=>some (0≤y,.int k (k.wrap (x*2 ^ (min y.toNat k.bits))))
 | .shr=>some (0≤y,.int k (x.fdiv (2 ^ (min y.toNat k.bits))))
 | _=>none
theorem j0f {op:BinOp} {T:TypeId} {k k':IntKind} {x y:Int} {c:Prop} {v:Value} (h:jjt op k x y=some (c,v)) (hc:c) (w:World):(binOp op T (.int k x) (.int k' y)).run P w = .ok v w:=by
 cases op<;>simp only [jjt,Option.some.injEq,Prod.mk.injEq,reduceCtorEq] at h<;>obtain ⟨rfl,rfl⟩:=h
 all_goals
  have hc' : ¬ y<0:=by have:0≤y:=hc;omega
  simp only [binOp,Op.shift,hc',if_false,Sem.run_pure]
def eqV (P:Program) (t:TypeId) (x y:Value):Option Bool:=match P.underlying t,x,y with
 | some .bool,.bool a,.bool b=>some (decide (a=b))
 | some (.int _),.int k a,.int k' b=>if k=k' then some (decide (a=b)) else none
 | some .string,.string a,.string b=>some (decide (a=b))
 | _,_,_=>none
theorem j3t {t:TypeId} {x y:Value} {b:Bool} (h:eqV P t x y=some b) (d:Nat) (w:World):(Op.equalIn (d+1) t x y).run P w = .ok b w:=by
 unfold eqV at h
 split at h
 ·rename_i a b' hu
  simp only [Option.some.injEq] at h;subst h
  simp only [Op.equalIn,Sem.run_bind,run_underlying hu w,Result.andThen_ok,Sem.run_pure]
  cases a<;>cases b'<;>rfl
 ·rename_i k a k' b' hu
  split at h
  case isFalse=>cases h
  rename_i hk
  subst hk
  simp only [Option.some.injEq] at h;subst h
  simp only [Op.equalIn,Sem.run_bind,run_underlying hu w,Result.andThen_ok,Sem.run_pure,if_true]
  rfl
 ·rename_i a b' hu
  simp only [Option.some.injEq] at h;subst h
  simp only [Op.equalIn,Sem.run_bind,run_underlying hu w,Result.andThen_ok,Sem.run_pure]
  congr 1
  have e1:(a==b')=(a.data==b'.data):=rfl
  rw [e1,Bool.eq_iff_iff]
  simp only [beq_iff_eq,decide_eq_true_eq]
  exact ⟨fun h=>by cases a;cases b';simp only [ByteArray.mk.injEq];exact h,fun h=>by rw [h]⟩
 ·cases h
def jrm (P:Program) (rec:TypeId→List Value→List Value→Option Bool):List Field→List Value→List Value→Option Bool
 | [],_,_=>some true
 | f::fs,xs,ys=>if f.name = "_" then none else match j10 P f.type with
  | some false=>match xs[f.offset]?,ys[f.offset]? with
   | some x,some y=>match eqV P f.type x y,jrm P rec fs xs ys with
    | some b,some c=>some (b&&c)
    | _,_=>none
   | _,_=>none
  | some true=>match tsz P f.type with
   | some m=>if f.offset+m≤xs.length∧f.offset+m≤ys.length then match rec f.type ((xs.drop f.offset).take m) ((ys.drop f.offset).take m),jrm P rec fs xs ys with
     | some b,some c=>some (b&&c)
     | _,_=>none
    else none
   | none=>none
  | none=>none
def eqS (P:Program):Nat→TypeId→List Value→List Value→Option Bool
 | 0,_,_,_=>none
 | n+1,t,us,vs=>match P.underlying t with
  | some (.struct fs)=>if P.stoodInHeld t=false then jrm P (eqS P n) fs.toList us vs else none
  | _=>none
theorem jgr {w:World} : ∀ (n:Nat) {t:TypeId} {us vs:Array Value} {b:Bool},eqS P n t us.toList vs.toList=some b→∀ d,n<d→(Op.equalIn d t (.agg us) (.agg vs)).run P w = .ok b w
 | 0,_,_,_,_,h,_,_=>by cases h
 | n+1,t,us,vs,b,h,d,hd=>by
  obtain ⟨d,rfl⟩ : ∃ d',d=d'+1:=⟨d - 1,by omega⟩
  obtain ⟨d',hd'⟩ : ∃ d',d=d'+1:=⟨d - 1,by omega⟩
  unfold eqS at h
  split at h
  case h_2=>cases h
  rename_i fs hu
  split at h
  case isFalse=>cases h
  rename_i hc1
  unfold Op.equalIn
  have hp:(program).run P w = .ok P w:=rfl
  simp only [Sem.run_bind,run_underlying hu w,Result.andThen_ok,hp,hc1,Bool.false_eq_true,if_false]
  rw [← Array.forIn_toList]
  generalize fs.toList=L at h ⊢
  clear hp hu
  induction L generalizing b with
  | nil =>
   simp only [jrm,Option.some.injEq] at h
   subst h
   simp
  | cons f fs ih =>
   unfold jrm at h
   split at h
   case isTrue=>cases h
   rename_i hname
   split at h
   ·rename_i ha
    split at h
    case h_2=>cases h
    rename_i x y hx hy
    split at h
    case h_2=>cases h
    rename_i b1 b2 hb1 hb2
    simp only [Option.some.injEq] at h
    subst h
    rw [Array.getElem?_toList] at hx hy
    have p1:(part f.type us f.offset).run P w = .ok x w:=by simp [part,Sem.run_bind,q1w ha w,hx]
    have p2:(part f.type vs f.offset).run P w = .ok y w:=by simp [part,Sem.run_bind,q1w ha w,hy]
    have p3:(Op.equalIn d f.type x y).run P w = .ok b1 w:=by rw [hd'];exact j3t hb1 d' w
    have:=ih b2 hb2
    cases b1
    ·simp [Sem.run_bind,hname,p1,p2,p3]
    ·simp [Sem.run_bind,hname,p1,p2,p3]
     simpa [Sem.run_bind] using this
   ·rename_i ha
    split at h
    case h_2=>cases h
    rename_i m hm
    split at h
    case isFalse=>cases h
    rename_i hle
    split at h
    case h_2=>cases h
    rename_i b1 b2 hb1 hb2
    simp only [Option.some.injEq] at h
    subst h
    have e1:(us.extract f.offset (f.offset+m)).toList=(us.toList.drop f.offset).take m:=by rw [Array.toList_extract,List.extract_eq_take_drop];congr 1;omega
    have e2:(vs.extract f.offset (f.offset+m)).toList=(vs.toList.drop f.offset).take m:=by rw [Array.toList_extract,List.extract_eq_take_drop];congr 1;omega
    have hle':f.offset+m≤us.size∧f.offset+m≤vs.size:=by simpa using hle
    have p1:(part f.type us f.offset).run P w = .ok (.agg (us.extract f.offset (f.offset+m))) w:=by simp [part,Sem.run_bind,q1w ha w,q0z hm w,hle'.1]
    have p2:(part f.type vs f.offset).run P w = .ok (.agg (vs.extract f.offset (f.offset+m))) w:=by simp [part,Sem.run_bind,q1w ha w,q0z hm w,hle'.2]
    have p3:(Op.equalIn d f.type (.agg (us.extract f.offset (f.offset+m))) (.agg (vs.extract f.offset (f.offset+m)))).run P w = .ok b1 w:=jgr n (by rw [e1,e2];exact hb1) d (by omega)
    have:=ih b2 hb2
    cases b1
    ·simp [Sem.run_bind,hname,p1,p2,p3]
    ·simp [Sem.run_bind,hname,p1,p2,p3]
     simpa [Sem.run_bind] using this
   ·cases h
def jpg:List C→Option (List Value)
 | []=>some []
 | .d (.v x)::cs=>(jpg cs).map (x :: ·)
 | _::_=>none
theorem j3f : ∀ {us:List Value} {cs:List C} {xs:List Value},q0j (q2v e σ w) us cs→jpg cs=some xs→us=xs
 | [],[],xs,_,h=>by simp only [jpg,Option.some.injEq] at h;exact h
 | u::us,c::cs,xs,h,hv=>by
  unfold jpg at hv
  split at hv
  ·rename_i hh;cases hh
  ·rename_i x cs' hh
   simp only [List.cons.injEq] at hh
   obtain ⟨rfl,rfl⟩:=hh
   obtain ⟨ys,hy,rfl⟩:=Option.map_eq_some_iff.1 hv
   rw [j3f h.2 hy,qcu h.1]
  ·cases hv
 | [],_::_,_,h,_=>h.elim
 | _::_,[],_,h,_=>h.elim
def qfb (P:Program) (t:TypeId) (xs ys:List C):Option Bool:=match jpg xs,jpg ys with
 | some us,some vs=>if P.eqGuardType P.depth t=false then eqS P 9 t us vs else none
 | _,_=>none
theorem qoo {t:TypeId} {xs ys:List C} {us vs:Array Value} {b:Bool} (hx:q0j (q2v e σ w) us.toList xs) (hy:q0j (q2v e σ w) vs.toList ys) (h:qfb P t xs ys=some b) (x y:Operand) :
  (do eqGuard .eql t x y (.agg us) (.agg vs);pure (Value.bool (← Op.equal t (.agg us) (.agg vs))):Sem Value).run P w = .ok (.bool b) w∧P.eqGuardType P.depth t=false∧(Op.equal t (.agg us) (.agg vs)).run P w = .ok b w:=by
 unfold qfb at h
 split at h
 case h_2=>cases h
 rename_i us' vs' hus hvs
 split at h
 case isFalse=>cases h
 rename_i hc2
 have e1:=j3f hx hus
 have e2:=j3f hy hvs
 subst e1 e2
 have heq:(Op.equal t (.agg us) (.agg vs)).run P w = .ok b w:=by
  unfold Op.equal Op.maxDepth
  exact jgr 9 h 10000 (by omega)
 refine ⟨?_,hc2,heq⟩
 simp [eqGuard,Sem.run_bind,hc2,heq]
def qe2 (P:Program) (op:BinOp) (T:TypeId) (x y:D):Option Res:=match x,y with
 | .one (.c (.d (.v (.int k a)))),.one (.c (.d (.v (.int k' b))))=>match op with
  | .shl | .shr=>(jjt op k a b).map fun (c,v)=>{ cond:=c,val:=q70 v }
  | _=>if k=k' then (qsu op k a b).map fun (c,v)=>{ cond:=c,val:=q70 v } else none
 | .one (.c (.d (.v (.string a)))),.one (.c (.d (.v (.string b))))=>(j02 op a b).map fun (c,v)=>{ cond:=c,val:=q70 v }
 | .one (.c (.d (.v (.bool a)))),.one (.c (.d (.v (.bool b))))=>match op with
  | .eql=>(eqV P T (.bool a) (.bool b)).map fun v=>{ cond:=True,val:=q70 (.bool v) }
  | .neq=>(eqV P T (.bool a) (.bool b)).map fun v=>{ cond:=True,val:=q70 (.bool (!v)) }
  | _=>none
 | .one (.agg xs),.one (.agg ys)=>match op with
  | .eql=>(qfb P T xs ys).map fun v=>{ cond:=True,val:=q70 (.bool v) }
  | .neq=>(qfb P T xs ys).map fun v=>{ cond:=True,val:=q70 (.bool (!v)) }
  | _=>none
 | _,_=>none
theorem k80 {o:Oper} {op:BinOp} {T T':TypeId} {x y:Operand} {res:Res} (ho:o.op = .binOp op T x y T') (h:qe2 P op T (opnd σ x) (opnd σ y)=some res):q2f P F o σ res:=by
 unfold qe2 at h
 split at h
 ·rename_i k a1 k' b1 hx hy
  have main : ∀ {c:Prop} {v:Value} (_ : ∀ w,c→(binOp op T (.int k a1) (.int k' b1)).run P w = .ok v w),q2f P F o σ { cond:=c,val:=q70 v }:=fun {c v} hrun=>by
   refine q2f.same fun e a w hR hc=>⟨v,?_,q08 _⟩
   have h1:=hR.opnd x
   have h2:=hR.opnd y
   rw [hx] at h1;rw [hy] at h2
   have hr:=hrun w hc
   cases op<;>simp [execOp,ho,q0d h1,q0d h2,eqGuard,hr]
  split at h
  ·obtain ⟨⟨c,v⟩,h1,rfl⟩:=Option.map_eq_some_iff.1 h
   exact main fun w hc=>j0f h1 hc w
  ·obtain ⟨⟨c,v⟩,h1,rfl⟩:=Option.map_eq_some_iff.1 h
   exact main fun w hc=>j0f h1 hc w
  ·split at h
   case isFalse=>cases h
   rename_i hk
   subst hk
   obtain ⟨⟨c,v⟩,h1,rfl⟩:=Option.map_eq_some_iff.1 h
   exact main fun w hc=>joa h1 hc w
 ·rename_i a1 b1 hx hy
  obtain ⟨⟨c,v⟩,h1,rfl⟩:=Option.map_eq_some_iff.1 h
  refine q2f.same fun e a w hR hc=>⟨v,?_,q08 _⟩
  have g1:=hR.opnd x
  have g2:=hR.opnd y
  rw [hx] at g1;rw [hy] at g2
  have hr:=jnx (P:=P) (T:=T) h1 hc w
  cases op<;>simp [execOp,ho,q0d g1,q0d g2,eqGuard,hr]
 ·rename_i a1 b1 hx hy
  split at h
  ·obtain ⟨v,h1,rfl⟩:=Option.map_eq_some_iff.1 h
   refine q2f.same fun e a w hR hc=>⟨.bool v,?_,q08 _⟩
   have g1:=hR.opnd x
   have g2:=hR.opnd y
   rw [hx] at g1;rw [hy] at g2
   have hr:=j3t h1 9999 w
   simp [execOp,ho,q0d g1,q0d g2,eqGuard,binOp,Op.equal,Op.maxDepth,hr]
  ·obtain ⟨v,h1,rfl⟩:=Option.map_eq_some_iff.1 h
   refine q2f.same fun e a w hR hc=>⟨.bool (!v),?_,q08 _⟩
   have g1:=hR.opnd x
   have g2:=hR.opnd y
   rw [hx] at g1;rw [hy] at g2
   have hr:=j3t h1 9999 w
   simp [execOp,ho,q0d g1,q0d g2,eqGuard,binOp,Op.equal,Op.maxDepth,hr]
  ·cases h
 ·rename_i xs ys hx hy
  split at h
  ·obtain ⟨v,h1,rfl⟩:=Option.map_eq_some_iff.1 h
   refine q2f.same fun e a w hR hc=>⟨.bool v,?_,q08 _⟩
   have g1:=hR.opnd x
   have g2:=hR.opnd y
   rw [hx] at g1;rw [hy] at g2
   obtain ⟨us,g3,g4⟩:=g1
   obtain ⟨vs,g5,g6⟩:=g2
   obtain ⟨_,r2,r3⟩:=qoo g4 g6 h1 x y
   simp [execOp,ho,g3,g5,Sem.run_bind,eqGuard,binOp,r2,r3]
  ·obtain ⟨v,h1,rfl⟩:=Option.map_eq_some_iff.1 h
   refine q2f.same fun e a w hR hc=>⟨.bool (!v),?_,q08 _⟩
   have g1:=hR.opnd x
   have g2:=hR.opnd y
   rw [hx] at g1;rw [hy] at g2
   obtain ⟨us,g3,g4⟩:=g1
   obtain ⟨vs,g5,g6⟩:=g2
   obtain ⟨_,r2,r3⟩:=qoo g4 g6 h1 x y
   simp [execOp,ho,g3,g5,Sem.run_bind,eqGuard,binOp,r2,r3]
  ·cases h
 ·cases h
def k71 (op:UnOp) (x:D):Option Res:=match op,x with
 | .not,.one (.c (.d (.v (.bool b))))=>some { cond:=True,val:=q70 (.bool (!b)) }
 | .neg,.one (.c (.d (.v (.int k n))))=>some { cond:=True,val:=q70 (.int k (k.wrap (0 - n))) }
 | _,_=>none
theorem ok_un {o:Oper} {op:UnOp} {T:TypeId} {x:Operand} {res:Res} (ho:o.op = .unOp op T x) (h:k71 op (opnd σ x)=some res):q2f P F o σ res:=by
 unfold k71 at h
 split at h
 ·rename_i b hx
  simp only [Option.some.injEq] at h;subst h
  refine q2f.same fun e a w hR hc=>⟨.bool (!b),?_,q08 _⟩
  have h1:=hR.opnd x
  rw [hx] at h1
  simp [execOp,ho,q0d h1,Op.unary]
 ·rename_i k n hx
  simp only [Option.some.injEq] at h;subst h
  refine q2f.same fun e a w hR hc=>⟨.int k (k.wrap (0 - n)),?_,q08 _⟩
  have h1:=hR.opnd x
  rw [hx] at h1
  simp [execOp,ho,q0d h1,Op.unary,Op.intArith]
 ·cases h
def qgf (P:Program) (src dst:TypeId) (x:D):Option Res:=match P.underlying src,P.underlying dst,x with
 | some _,some (.int k),.one (.c (.d (.v (.int _ n))))=>some { cond:=True,val:=q70 (.int k (k.wrap n)) }
 | some .string,some .string,.one (.c (.d (.v (.string s))))=>some { cond:=True,val:=q70 (.string s) }
 | _,_,_=>none
theorem k52 {o:Oper} {src dst:TypeId} {x:Operand} {res:Res} (ho:o.op = .convert src dst x) (h:qgf P src dst (opnd σ x)=some res):q2f P F o σ res:=by
 unfold qgf at h
 split at h
 ·rename_i ds k k' n hs hd hx
  simp only [Option.some.injEq] at h;subst h
  refine q2f.same fun e a w hR hc=>⟨.int k (k.wrap n),?_,q08 _⟩
  have h1:=hR.opnd x
  rw [hx] at h1
  simp [execOp,ho,q0d h1,Sem.run_bind,convert,run_underlying hs w,run_underlying hd w,Conv.intToInt]
 ·rename_i s hs hd hx
  simp only [Option.some.injEq] at h;subst h
  refine q2f.same fun e a w hR hc=>⟨.string s,?_,q08 _⟩
  have h1:=hR.opnd x
  rw [hx] at h1
  simp [execOp,ho,q0d h1,Sem.run_bind,convert,run_underlying hs w,run_underlying hd w]
 ·cases h
def jat:List (List Dat)→Option (List Int)
 | []=>some []
 | [.v (.int .u8 n)]::r=>(jat r).map (n :: ·)
 | _=>none
theorem jic : ∀ {ys:List (List Dat)} {ns:List Int},jat ys=some ns→ys.flatten=ns.map fun n=>Dat.v (.int .u8 n)
 | [],ns,h=>by simp only [jat,Option.some.injEq] at h;subst h;rfl
 | y::r,ns,h=>by
  unfold jat at h
  split at h
  ·rename_i heq;cases heq
  ·rename_i n r' heq
   obtain ⟨rfl,rfl⟩:=List.cons.inj heq
   obtain ⟨ms,h1,rfl⟩:=Option.map_eq_some_iff.1 h
   rw [List.flatten_cons,jic h1];rfl
  ·cases h
def strOf (ns:List Int):ByteArray:=ns.foldl (fun r n=>r.push (UInt8.ofNat n.toNat)) ByteArray.empty
def q3o (P:Program) (dst:Option Nat) (src d:TypeId) (x:D) (rw:Nat→Option Row):Option Res:=match P.underlying src,P.underlying d with
 | some (.slice e),some .string=>match P.underlying e,(qpk 1 x rw).bind jat with
  | some (.int .u8),some ns=>some { cond:=True,val:=q70 (.string (strOf ns)) }
  | _,_=>none
 | some .string,some (.slice e)=>match P.underlying e,x,dst with
  | some (.int .u8),.one (.c (.d (.v (.string s)))),some i=>match rw i with
   | none=>if e<1099511627776 then some { cond:=s.size≤maxLen,val:=.one (.c (.row i 0)),row:=some (i,⟨0,e+1099511627776,1,true,s.data.toList.map fun b=>[.v (.int .u8 b.toNat)]⟩) } else none
   | some _=>none
  | _,_,_=>none
 | _,_=>none
theorem jch {Pc:Nat→Nat→Prop} {w:World} : ∀ {news:List Value} {ns:List Int},q0j (DatRep Pc w) news (ns.map fun n=>Dat.v (.int .u8 n))→news=ns.map (Value.int .u8)
 | [],[],_=>rfl
 | v::news,n::ns,h=>by
  have h1:DatRep Pc w v (.v (.int .u8 n)):=h.1
  have h2:v = .int .u8 n:=by cases h1;rfl
  rw [h2,jch (ns:=ns) h.2];rfl
 | [],_::_,h=>h.elim
 | _::_,[],h=>h.elim
theorem j04 {Pc:Nat→Nat→Prop} {w:World} : ∀ (l:Yy),q0j (DatRep Pc w) (l.map fun b=>Value.int .u8 b.toNat) ((l.map fun b=>[Dat.v (.int .u8 b.toNat)]).flatten)
 | []=>trivial
 | b::l=>⟨.v _,j04 l⟩
theorem jnn {o:Oper} {src d:TypeId} {x:Operand} {res:Res} (ho:o.op = .convert src d x) (h:q3o P o.dst src d (opnd σ x) σ.row=some res):q2f P F o σ res:=by
 unfold q3o at h
 split at h
 ·rename_i e hs hd
  split at h
  case h_2=>cases h
  rename_i ns he hns
  simp only [Option.some.injEq] at h;subst h
  obtain ⟨ys,hys,hi⟩:=Option.bind_eq_some_iff.1 hns
  refine q2f.same fun ev a w hR hc=>⟨.string (strOf ns),?_,q08 _⟩
  obtain ⟨h1,news,h2,h3,h4⟩:=jrg hR hys
  have h5:=jic hi
  have h6:=q7g ys h1
  rw [Nat.mul_one,h5,List.length_map] at h6
  rw [h5] at h2
  have h7:=jch h2
  have hrun:(convert src d (a.eval x)).run P w = .ok (.string (strOf ns)) w:=by
   rcases h4 with ⟨ad,c,hx,hcells⟩|⟨c,hx,h0⟩
   ·rw [hx,run_convert_bytes_string w src d e (some ad) ys.length c hs he hd]
    have hl:=run_loadCells_list (P:=P) (w:=w) ad news hcells
    rw [h7,List.length_map,h6] at hl
    exact run_bytesToString w ad ys.length c ns hl
   ·rw [hx,run_convert_bytes_string w src d e none ys.length c hs he hd]
    rw [h0] at h6
    have hnil:ns = []:=List.eq_nil_of_length_eq_zero h6
    subst hnil
    rfl
  simp [execOp,ho,Sem.run_bind,hrun,Result.andThen]
 ·rename_i e hs hd
  split at h
  case h_2=>cases h
  rename_i s i he hx hdst
  split at h
  case h_2=>cases h
  rename_i hrow
  split at h
  case isFalse=>cases h
  rename_i hlt
  simp only [Option.some.injEq] at h;subst h
  intro ev a w hR hc
  have hc':s.size≤maxLen:=hc
  have h1:=hR.opnd x
  rw [hx] at h1
  have hrun:=Lib.run_convert_string_bytes (P:=P) w src d e s hs hd he
  have hge:=grownCap_ge w s.size 0 e
  have hle:=grownCap_le_maxLen w s.size 0 e hc'
  have hsz:(Lib.bytesCells w e s).size=grownCap w s.size 0 e:=by
   unfold Lib.bytesCells
   have:s.data.size=s.size:=rfl
   simp;omega
  have hE:tyOf (e+1099511627776)=e:=by unfold tyOf;rw [Nat.add_mod_right,Nat.mod_eq_of_lt hlt]
  have hF : ∀ n,k35 (e+1099511627776) n=(n,n+1):=fun n=>by unfold k35;rw [if_neg (by omega)]
  have hbs:s.data.toList.length=s.size:=Array.length_toList
  have hown:q9c (Lib.bytesWorld w e s) F.w0.heap.size (e+1099511627776) 1 (.slice (some ⟨w.heap.size,0,none⟩) s.size (grownCap w s.size 0 e)) s.size (s.data.toList.map fun b=>Value.int .u8 b.toNat):=by
   refine ⟨by rw [List.length_map,hbs,Nat.mul_one],.inr ⟨w.heap.size,_,Lib.bytesCells w e s,rfl,hR.hp.sizeLe,?_,hge,hle,by rw [hsz,Nat.mul_one],?_⟩⟩
   ·rw [hE,hF];exact Lib.bytesWorld_at_new w e s
   ·unfold Lib.bytesCells
    rw [Nat.mul_one,Array.toList_append,Array.toList_map,List.take_append_of_le_length (by rw [List.length_map,hbs];exact Nat.le_refl _),List.take_of_length_le (by rw [List.length_map,hbs];exact Nat.le_refl _)]
  have hgr:w.grownBy (Lib.bytesWorld w e s) none:=by
   refine ⟨rfl,rfl,rfl,by rw [Lib.bytesWorld_size];omega,fun k hk _=>Lib.bytesWorld_at_old w e s k hk⟩
  have hln:(s.data.toList.map fun b=>[Dat.v (.int .u8 b.toNat)]).length=s.size:=by rw [List.length_map,hbs]
  obtain ⟨hf,hh⟩:=hR.hp.rowNext (w':=Lib.bytesWorld w e s) i ⟨0,e+1099511627776,1,true,s.data.toList.map fun b=>[.v (.int .u8 b.toNat)]⟩ (.slice none 0 0) (.slice (some ⟨w.heap.size,0,none⟩) s.size (grownCap w s.size 0 e)) (s.data.toList.map fun b=>Value.int .u8 b.toNat) (Or.inr ⟨hrow,rfl⟩)
   (fun y hy=>by obtain ⟨b,_,rfl⟩:=List.mem_map.1 hy;rfl) (by rw [hln];exact hown) hgr (fun r hr=>by rw [hrow] at hr;cases hr) (fun b hb=>Or.inr (Nat.le_of_eq (Option.some.inj hb)))
   (j04 _) (fun u hu=>by obtain ⟨b,_,rfl⟩:=List.mem_map.1 hu;rfl)
  refine ⟨_,_,_,.inl ?_,hf,hh,⟨⟨_,q0w _ _ _,Nat.le_refl _⟩,(q2e _ _ _ _).symm,_,_,_,rfl⟩⟩
  simp [execOp,ho,q0d h1,Sem.run_bind,hrun,Result.andThen]
 ·cases h
def jt3 (x:D):Option Res:=match x with
 | .one (.c (.box β o))=>some { cond:=True,val:=.one (.c (.box β o)) }
 | .one (.c (.rp cs))=>some { cond:=True,val:=.one (.c (.rp cs)) }
 | .one (.c (.wp t g k o))=>some { cond:=True,val:=.one (.c (.wp t g k o)) }
 | _=>none
theorem k9i {o:Oper} {x:Operand} {res:Res} (ho:o.op = .nilCheck x) (h:jt3 (opnd σ x)=some res):q2f P F o σ res:=by
 unfold jt3 at h
 split at h
 ·rename_i β q hx
  simp only [Option.some.injEq] at h;subst h
  refine q2f.same fun e a w hR _=>?_
  have h1:=hR.opnd x
  rw [hx] at h1
  have h1':=h1
  obtain ⟨h2,h3⟩:(σ.box β).isSome=true∧a.eval x = .pointer (some ⟨e.m β,q,none⟩):=h1
  exact ⟨a.eval x,by simp [execOp,ho,h3],h1'⟩
 ·rename_i cs hx
  simp only [Option.some.injEq] at h;subst h
  refine q2f.same fun e a w hR _=>?_
  have h1:=hR.opnd x
  rw [hx] at h1
  have h1':=h1
  obtain ⟨b,q,h3,_⟩ : ∃ b o',a.eval x = .pointer (some ⟨b,o',none⟩)∧∃ us:List Value,q0j (DatRep e.Pc w) us cs∧∀ (j:Nat) (h:j<us.length),e.Pc b (o'+j)∧w.cell? ⟨b,o'+j,none⟩=some us[j]∧(us[j]).oneCell'=true:=h1
  exact ⟨a.eval x,by simp [execOp,ho,h3],h1'⟩
 ·rename_i t g k q hx
  simp only [Option.some.injEq] at h;subst h
  refine q2f.same fun e a w hR _=>?_
  have h1:=hR.opnd x
  rw [hx] at h1
  have h1':=h1
  obtain ⟨r,b,_,_,_,h3⟩ : ∃ r b,σ.row t=some r∧g≤r.gen∧(e.rv t g).ownBlock=some b∧a.eval x = .pointer (some ⟨b,k*r.sz+q,none⟩):=h1
  exact ⟨a.eval x,by simp [execOp,ho,h3],h1'⟩
 ·cases h
def q3f (P:Program) (t:TypeId) (x:D) (lo hi:Option D) (rw:Nat→Option Row):Option Res:=match P.underlying t,x with
 | some (.slice el),.one (.c (.row tt g))=>match rw tt with
  | some r=>match bnd 0 lo,bnd r.xs.length hi with
   | some l,some h=>if r.gen=g∧tsz P el=some r.sz then some { cond:=0≤l∧l≤h∧h≤r.xs.length,val:=.one (.c (.d (.lst r.sz ((r.xs.drop l.toNat).take (h.toNat - l.toNat))))),row:=some (tt,{ r with wr:=false }) } else none
   | _,_=>none
  | none=>none
 | _,_=>none
theorem jdu {o:Oper} {t:TypeId} {x:Operand} {lo hi:Option Operand} {res:Res} (ho:o.op = .slice t x lo hi none) (h:q3f P t (opnd σ x) (lo.map (opnd σ)) (hi.map (opnd σ)) σ.row=some res):q2f P F o σ res:=by
 unfold q3f at h
 split at h
 case h_2=>cases h
 rename_i el tt g hu hx
 split at h
 case h_2=>cases h
 rename_i r hr
 split at h
 case h_2=>cases h
 rename_i l hh hl hhh
 split at h
 case isFalse=>cases h
 rename_i hg
 obtain ⟨rfl,hsz⟩:=hg
 simp only [Option.some.injEq] at h
 subst h
 intro e a w hR hc
 obtain ⟨c1,c2,c3⟩:=hc
 have h1:=hR.opnd x
 rw [hx] at h1
 obtain ⟨_,h5,_⟩:(∃ r',σ.row tt=some r'∧r.gen≤r'.gen)∧a.eval x=e.rv tt r.gen∧_:=h1
 obtain ⟨e',hf,hh'⟩:=hR.hp.freeze hr
 have hrow:({ σ with row:=upd σ.row tt (some { r with wr:=false }) } : St).row tt=some { r with wr:=false }:=q0w _ _ _
 have hdat:=hh'.rowDat hrow rfl
 have hrv:=(hf.row tt r r.gen hr (Nat.le_refl _)).2
 have hdat':DatRep e'.Pc w (e.rv tt r.gen) (.lst r.sz r.xs):=by rw [← hrv];exact hdat
 rw [← h5] at hdat'
 generalize hv:a.eval x=v at hdat'
 have hdat2:=hdat'
 cases hdat' with
 | lst aa nn cap _ _ b off c hn hcap hmax hs ha hcc hrr =>
  have hb:=qn8 (P:=P) (isSlice:=true) (len:=nn) (cap:=cap) hR hl (by rw [hn];exact hhh) c1 c2 (by omega) hcap
  refine ⟨.slice (if cap=l.toNat then aa else aa.map (·.add (l.toNat*r.sz))) (hh.toNat - l.toNat) (cap - l.toNat),w,e',.inl ?_,hf,hh',?_⟩
  ·simp [execOp,ho,hv,Sem.run_bind,Instr.sliceAt,Instr.slice,run_underlying hu w,hb,q0z hsz w]
  ·exact j9p hdat2 (by omega)
def qof:Operand→Operand→Bool
 | .tmp i,.tmp j=>Nat.beq i j
 | .const (.int _ n),.const (.int _ m)=>decide (n=m)
 | _,_=>false
def qij (P:Program) (dst:Option Nat) (t:TypeId) (x:D) (rw:Nat→Option Row):Option Res:=match P.underlying t,dst,x with
 | some (.slice el),some i,.one (.c (.d (.v (.int _ n))))=>match rw i,(P.info? el).map (fun i=>(i.zero,i.size,i.bytes)) with
  | none,some (some (Value.int k q),1,b)=>if 0≤n∧n≤16777216∧b*n.toNat≤281474976710656∧el<1099511627776 then
    some { cond:=True,val:=.one (.c (.row i 0)),row:=some (i,⟨0,el,1,true,List.replicate n.toNat [.v (.int k q)]⟩) } else none
  | _,_=>none
 | _,_,_=>none
theorem jwh {x y:Operand} (h:qof x y=true) {k:IntKind} {n:Int} (hx:a.eval x = .int k n) : ∃ k',a.eval y = .int k' n:=by
 unfold qof at h
 split at h
 ·rename_i i j
  have:i=j:=Nat.eq_of_beq_eq_true h
  subst this
  exact ⟨k,hx⟩
 ·rename_i k1 n1 k2 n2
  have e:=of_decide_eq_true h
  subst e
  have hx':Value.int k1 n1 = .int k n:=hx
  cases hx'
  exact ⟨k2,rfl⟩
 ·cases h
theorem js2 (z:Value) (n:Nat):(madeCells #[z] n).toList=List.replicate n z:=by
 apply List.ext_getElem
 ·simp [madeCells]
 ·intro i h1 h2
  simp [madeCells,Nat.mod_one]
theorem k34 {o:Oper} {t:TypeId} {x y:Operand} {res:Res} (ho:o.op = .makeSlice t x y) (hxy:qof x y=true) (h:qij P o.dst t (opnd σ x) σ.row=some res):q2f P F o σ res:=by
 unfold qij at h
 split at h
 case h_2=>cases h
 rename_i el i kx n hu hd hx
 split at h
 case h_2=>cases h
 rename_i k q b hrow hinf
 split at h
 case isFalse=>cases h
 rename_i hc
 obtain ⟨h0,h1,h2,h3⟩:=hc
 simp only [Option.some.injEq] at h;subst h
 intro e a w hR _
 have hv:=hR.opnd x
 rw [hx] at hv
 have hv':a.eval x = .int kx n:=q0d hv
 obtain ⟨ky,hw'⟩:=jwh hxy hv'
 obtain ⟨m,rfl⟩ : ∃ m:Nat,n=(m:Int):=⟨n.toNat,by omega⟩
 rw [Int.toNat_natCast] at h2
 have hrun:=run_make_row' (P:=P) t el (.int k q) b hu hinf rfl kx ky m h2 (by omega) w
 have hm:=js2 (.int k q) m
 have hown:q9c (w.alloc (.cells (madeCells #[.int k q] m) el)) F.w0.heap.size el 1 (.slice (some ⟨w.heap.size,0,none⟩) m m) m (List.replicate m (.int k q)) :=
  (q7o h3).2 ⟨by simp,.inr ⟨w.heap.size,m,_,rfl,hR.hp.sizeLe,heap_alloc_new w _,Nat.le_refl _,by unfold maxLen;omega,by rw [size_madeCells,Nat.mul_one],by rw [hm,Nat.mul_one,List.take_of_length_le (by simp)]⟩⟩
 have hdd : ∀ m:Nat,q0j (DatRep e.Pc w) (List.replicate m (.int k q)) (List.replicate m [Dat.v (.int k q)]).flatten:=by
  intro m
  have key : ∀ (w':World) (j:Nat),q0j (DatRep e.Pc w') (List.replicate j (Value.int k q)) (List.replicate j [Dat.v (.int k q)]).flatten:=by
   intro w' j
   induction j with
   | zero=>exact trivial
   | succ j ih=>rw [List.replicate_succ,List.replicate_succ,List.flatten_cons];exact ⟨.v _,ih⟩
  exact key _ m
 obtain ⟨hf,hh⟩:=hR.hp.rowNext (w':=w.alloc (.cells (madeCells #[.int k q] m) el)) i ⟨0,el,1,true,List.replicate m [.v (.int k q)]⟩ (.slice none 0 0) (.slice (some ⟨w.heap.size,0,none⟩) m m) (List.replicate m (.int k q)) (Or.inr ⟨hrow,rfl⟩)
  (fun y hy=>by rw [List.eq_of_mem_replicate hy];rfl) (by rw [List.length_replicate];exact hown) (World.grownBy_alloc w _ _) (fun r hr=>by rw [hrow] at hr;cases hr) (fun b hb=>Or.inr (Nat.le_of_eq (Option.some.inj hb)))
  (hdd m) (fun u hu=>by rw [List.eq_of_mem_replicate hu];rfl)
 refine ⟨.slice (some ⟨w.heap.size,0,none⟩) m m,_,_,.inl ?_,hf,hh,⟨⟨_,q0w _ _ _,Nat.le_refl _⟩,(q2e _ _ _ _).symm,_,_,_,rfl⟩⟩
 simp [execOp,ho,hv',hw',hrun]
def jzv (f:Int→Int→Int) (x y:D):Option Res:=match x,y with
 | .one (.c (.d (.v (.int k n)))),.one (.c (.d (.v (.int _ m))))=>some { cond:=True,val:=q70 (.int k (f n m)) }
 | _,_=>none
theorem k96 {o:Oper} {x y:Operand} {t t':TypeId} {res:Res} (ho:o.op = .call { callee:=.builtin .max,args:=#[x,y],argTypes:=#[t,t'] }) (h:jzv max (opnd σ x) (opnd σ y)=some res):q2f P F o σ res:=by
 unfold jzv at h
 split at h
 case h_2=>cases h
 rename_i k n k' m hx hy
 simp only [Option.some.injEq] at h;subst h
 refine q2f.same fun e a w hR hc=>⟨.int k (max n m),?_,q08 _⟩
 have h1:=hR.opnd x
 have h2:=hR.opnd y
 rw [hx] at h1
 rw [hy] at h2
 simp [execOp,ho,q0d h1,q0d h2,Sem.run_bind,resolve,invoke,builtin,Lib.run_max_ints]
theorem k94 {o:Oper} {x y:Operand} {t t':TypeId} {res:Res} (ho:o.op = .call { callee:=.builtin .min,args:=#[x,y],argTypes:=#[t,t'] }) (h:jzv min (opnd σ x) (opnd σ y)=some res):q2f P F o σ res:=by
 unfold jzv at h
 split at h
 case h_2=>cases h
 rename_i k n k' m hx hy
 simp only [Option.some.injEq] at h;subst h
 refine q2f.same fun e a w hR hc=>⟨.int k (min n m),?_,q08 _⟩
 have h1:=hR.opnd x
 have h2:=hR.opnd y
 rw [hx] at h1
 rw [hy] at h2
 simp [execOp,ho,q0d h1,q0d h2,Sem.run_bind,resolve,invoke,builtin,Lib.run_min_ints]
end Go.Proofs.YtapfankgdkdkgaaGreatDoor.AM
