
import Derived.Test.YtlkpgcifpnppeaaGreatDoorMv12
import Derived.Test.YtlkpgcifpnppeaaGreatDoorMv15
import Derived.Maps.OwnOps
import Derived.Maps.RangeWalk
import Derived.StillTailTactics
set_option linter.unusedVariables false
set_option linter.unusedSimpArgs false
namespace Go.Proofs
open Go.RowKit Go.Lib
attribute [local go_sem] Oper.semAt_some
namespace YtlkpgcifpnppeaaGreatDoor.AM
def qLs:List KL:=[.s,.i .i64,.i .i64,.i .i64,.s,.s]
theorem qg1 (q:QD):q6w qLs (qcv q)=true:=by obtain ⟨p,a,b,c,r,m⟩:=q;rfl
theorem j1i {a b:List UInt8} (h:ba a=ba b):a=b:=by
 have:=congrArg (fun x:ByteArray=>x.data.toList) h
 simpa [ba] using this
theorem jmc {a b:QD} (h:qcv a=qcv b):a=b:=by
 obtain ⟨p,x1,x2,x3,r,m⟩:=a
 obtain ⟨p',y1,y2,y3,r',m'⟩:=b
 have h' : [Value.string (ba p),.int .i64 x1,.int .i64 x2,.int .i64 x3,.string (ba r),.string (ba m)] = [Value.string (ba p'),.int .i64 y1,.int .i64 y2,.int .i64 y3,.string (ba r'),.string (ba m')]:=h
 simp only [List.cons.injEq,Value.string.injEq,Value.int.injEq,true_and,and_true] at h'
 obtain ⟨h1,h2,h3,h4,h5,h6⟩:=h'
 rw [j1i h1,h2,h3,h4,j1i h5,j1i h6]
def qe1 (x:QD×List Value):List Dat:=(qcv x.1).map Dat.v++x.2.map Dat.v
theorem jqz (q:QD) (ext:List Value):qzq 6 (qe1 (q,ext))=some (qcv q):=by obtain ⟨p,a,b,c,r,m⟩:=q;rfl
theorem jaz (q:QD) (x:QD×List Value):qey qLs (qcv q) (qe1 x)=some (decide (q=x.1)):=by
 obtain ⟨k,ext⟩:=x
 unfold qey
 rw [show qLs.length=6 from rfl,jqz]
 show (if q6w qLs (qcv k)=true then some (qiy (qcv q) (qcv k)) else none)=_
 rw [if_pos (qg1 k)]
 have h:=j1d (qg1 q) (qg1 k)
 congr 1
 by_cases e:q=k
 ·rw [decide_eq_true e];exact h.2 (by rw [e])
 ·rw [decide_eq_false e]
  cases hx:qiy (qcv q) (qcv k) with
  | false=>rfl
  | true=>exact absurd (jmc (h.1 hx)) e
theorem qwk (q:QD) : ∀xs:List (QD×List Value),findD qLs (qcv q) (xs.map qe1)=some ((xs.find? fun x=>decide (q=x.1)).map qe1)
 | []=>rfl
 | x::xs=>by
  show (match qey qLs (qcv q) (qe1 x) with|some true=>some (some (qe1 x))|some false=>findD qLs (qcv q) (xs.map qe1)|none=>none)=_
  rw [jaz,List.find?_cons]
  cases h:decide (q=x.1) with
  | true=>rfl
  | false=>exact qwk q xs
theorem jnh (q:QD) (ext:List Value) : ∀xs:List (QD×List Value),(xs.find? fun x=>decide (q=x.1))=none->jcc qLs (qcv q) (ext.map Dat.v) (xs.map qe1)=some (xs.map qe1 ++ [(qcv q).map Dat.v++ext.map Dat.v])
 | [],_=>rfl
 | x::xs,hn=>by
  show (match qey qLs (qcv q) (qe1 x) with|some true=>some (((qcv q).map Dat.v++ext.map Dat.v)::xs.map qe1)|some false=>(jcc qLs (qcv q) (ext.map Dat.v) (xs.map qe1)).map (qe1 x :: ·)|none=>none)=_
  rw [jaz]
  rw [List.find?_cons] at hn
  cases h:decide (q=x.1) with
  | true=>rw [h] at hn;cases hn
  | false =>
   rw [h] at hn
   show (jcc qLs (qcv q) (ext.map Dat.v) (xs.map qe1)).map (qe1 x :: ·)=_
   rw [jnh q ext xs hn];rfl
abbrev ji5:Nat:=2199023282177
abbrev TAt:Nat:=2199023282178
theorem j3w:j8k Tryz.prog 52=some (ji5,74,qLs):=by kernel_rfl
theorem jbp:j8k Tryz.prog 93=some (TAt,3,qLs):=by kernel_rfl
def noP:Nat->Nat->Prop:=fun _ _=>False
section
variable {P:Program} (w:World) {ops:Array Oper} {rest:List Oper} {o:Oper} {a:Act} {Q:Exit->Act->World->Prop}
theorem q4i (hg:o.guard=none) (m k:Operand) (t:TypeId) (hop:o.op=Op.lookup t m k true) {x y v:Value} {w':World} (hm:a.eval m=x) (hk:a.eval k=y) (hr:(Instr.lookup t x y true).run P w = .ok v w') (h:wpList P ops Q rest (a.put o.dst v) w'):wpList P ops Q (o::rest) a w :=
 wpList_plain hg fun _ hK=>by
  unfold Oper.wp
  simp [execOp,hop,hm,hk,hr,Result.andThen]
  exact hK _ _ h
theorem q7v (hg:o.guard=none) (m k u:Operand) (t:TypeId) (hop:o.op=Op.mapUpdate t m k u) {x y z:Value} {w':World} (hm:a.eval m=x) (hk:a.eval k=y) (hu:a.eval u=z) (hr:(Instr.mapUpdate t x y z).run P w = .ok () w') (h:wpList P ops Q rest (a.put o.dst undef) w'):wpList P ops Q (o::rest) a w :=
 wpList_plain hg fun _ hK=>by
  unfold Oper.wp
  simp [execOp,hop,hm,hk,hu,hr,Result.andThen]
  exact hK _ _ h
end
set_option maxRecDepth 1000000 in
theorem jbv (w:World) (b:Nat) (met:List QD) (q:QD) (hm:qo9 noP w b ji5 6 ((met.map fun x=>(x,([]:List Value))).map qe1)) :
  Calls Tryz.prog 31 #[.map (some b),.agg (qcv q).toArray] w fun e w'=>e = .returned (.bool (decide (q∈met)))/\Below w.heap.size w w':=by
 have hb:b<w.heap.size:=by obtain ⟨_,es,h,_⟩:=hm;exact q39 h
 have hmA : ∀ob,qo9 noP (w.alloc ob) b ji5 6 ((met.map fun x=>(x,([]:List Value))).map qe1):=fun ob=>hm.mono (fun _ _ h=>h) (fun _ _ h=>h.elim) (qux w ob b hb)
 have hr : ∀ob,(Instr.lookup 52 (.map (some b)) (.agg (qcv q).toArray) true).run Tryz.prog (w.alloc ob) = .ok (.tuple #[.agg #[],.bool (decide (q∈met))]) (w.alloc ob):=fun ob=>by
  have hf:=qwk q (met.map fun x=>(x,([]:List Value)))
  cases hx:(met.map fun x=>(x,([]:List Value))).find? fun x=>decide (q=x.1) with
  | none =>
   rw [hx] at hf
   have hn:q ∉ met:=fun h=>by
    rw [List.find?_eq_none] at hx
    have:=hx (q,[]) (List.mem_map.2 ⟨q,h,rfl⟩)
    simp at this
   rw [decide_eq_false hn]
   exact qxt (z:=.agg #[]) j3w (by kernel_rfl) (hmA ob) (qg1 q) hf
  | some x =>
   rw [hx] at hf
   have hn:q∈met:=by
    have h1:=List.mem_of_find?_eq_some hx
    have h2:=List.find?_some hx
    simp only [decide_eq_true_eq] at h2
    obtain ⟨y,hy,rfl⟩:=List.mem_map.1 h1
    rw [h2];exact hy
   rw [decide_eq_true hn]
   obtain ⟨vs,h3,h4⟩:=qxd j3w (hmA ob) (qg1 q) hf
   have h1:=List.mem_of_find?_eq_some hx
   obtain ⟨y,hy,rfl⟩:=List.mem_map.1 h1
   obtain ⟨p,x1,x2,x3,r,m⟩:=y
   cases vs with
   | nil=>exact h4
   | cons u us=>exact h3.elim
 obtain ⟨z,hz⟩ : ∃ z,z=decide (q∈met):=⟨_,rfl⟩
 rw [<-hz] at hr ⊢
 clear hz hm hmA
 obtain ⟨p,x1,x2,x3,r,m⟩:=q
 have hr' : ∀ob,(Instr.lookup 52 (.map (some b)) (.agg #[.string (ba p),.int .i64 x1,.int .i64 x2,.int .i64 x3,.string (ba r),.string (ba m)]) true).run Tryz.prog (w.alloc ob) = .ok (.tuple #[.agg #[],.bool z]) (w.alloc ob):=hr
 clear hr
 show Calls Tryz.prog 31 #[.map (some b),.agg #[.string (ba p),.int .i64 x1,.int .i64 x2,.int .i64 x3,.string (ba r),.string (ba m)]] w _
 go_enter Tryz.func31,Tryz.ntmps31
 go_wp2_with (at_lookup;refine q4i _ rfl _ _ _ rfl rfl rfl (hr' _) ?_)
 go_ret
 exact ⟨rfl,((Below.refl _ _).alloc (Nat.le_refl _) _).alloc (by simp) _⟩
set_option maxRecDepth 1000000 in
theorem jgn (w:World) (b:Nat) (met:List QD) (q:QD) (hq:q ∉ met) (hm:qo9 noP w b ji5 6 ((met.map fun x=>(x,([]:List Value))).map qe1)) :
  Calls Tryz.prog 33 #[.map (some b),.agg (qcv q).toArray] w fun e w'=>(∃ v,e = .returned v)/\qo9 noP w' b ji5 6 (((met ++ [q]).map fun x=>(x,([]:List Value))).map qe1)/\w.grownBy w' (some b):=by
 have hb:b<w.heap.size:=by obtain ⟨_,es,h,_⟩:=hm;exact q39 h
 have hmA : ∀ob,qo9 noP (w.alloc ob) b ji5 6 ((met.map fun x=>(x,([]:List Value))).map qe1):=fun ob=>hm.mono (fun _ _ h=>h) (fun _ _ h=>h.elim) (qux w ob b hb)
 have hx:((met.map fun x=>(x,([]:List Value))).find? fun x=>decide (q=x.1))=none:=by
  rw [List.find?_eq_none]
  intro x hx
  obtain ⟨y,hy,rfl⟩:=List.mem_map.1 hx
  simp only [decide_eq_true_eq]
  rintro rfl
  exact hq hy
 have hf:=qwk q (met.map fun x=>(x,([]:List Value)))
 rw [hx] at hf
 have hp:=jnh q [] (met.map fun x=>(x,([]:List Value))) hx
 have he:((met ++ [q]).map fun x=>(x,([]:List Value))).map qe1=(met.map fun x=>(x,([]:List Value))).map qe1 ++ [(qcv q).map Dat.v++([]:List Value).map Dat.v]:=by simp [qe1]
 have hr : ∀ob,∃ w',(Instr.mapUpdate 52 (.map (some b)) (.agg (qcv q).toArray) (.agg #[])).run Tryz.prog (w.alloc ob) = .ok () w'/\qo9 noP w' b ji5 6 (((met ++ [q]).map fun x=>(x,([]:List Value))).map qe1)/\w.grownBy w' (some b):=fun ob=>by
  obtain ⟨w',h1,h2,h3,h4,h5,h6,h7⟩:=je3 (us:=qcv q) (vs:=[]) (v:=[]) j3w (hmA ob) (qg1 q) trivial (fun u hu=>by cases hu) rfl hp hf (fun o h=>h)
  refine ⟨w',h1,by rw [he];exact h2,h5,h6,h7,by rw [h4];simp,fun k hk hn=>?_⟩
  rw [h3 k (fun e=>hn (by rw [e])),qux w ob k hk]
 clear hm hmA hf hp he hx
 obtain ⟨p,x1,x2,x3,r,m⟩:=q
 obtain ⟨w',h1,h2⟩:=hr (.cells #[.string (ba p),.int .i64 x1,.int .i64 x2,.int .i64 x3,.string (ba r),.string (ba m)] 27)
 have h1':(Instr.mapUpdate 52 (.map (some b)) (.agg #[.string (ba p),.int .i64 x1,.int .i64 x2,.int .i64 x3,.string (ba r),.string (ba m)]) (.agg #[])).run Tryz.prog (w.alloc (.cells #[.string (ba p),.int .i64 x1,.int .i64 x2,.int .i64 x3,.string (ba r),.string (ba m)] 27)) = .ok () w':=h1
 clear hr h1
 show Calls Tryz.prog 33 #[.map (some b),.agg #[.string (ba p),.int .i64 x1,.int .i64 x2,.int .i64 x3,.string (ba r),.string (ba m)]] w _
 go_enter Tryz.func33,Tryz.ntmps33
 go_wp2_with (at_mapUpdate;refine q7v _ rfl _ _ _ _ rfl rfl rfl rfl h1' ?_)
 go_end0
 exact ⟨⟨_,rfl⟩,by simpa using h2⟩
end YtlkpgcifpnppeaaGreatDoor.AM
end Go.Proofs
namespace Go.Proofs
open Go.RowKit Go.Lib
namespace YtlkpgcifpnppeaaGreatDoor.AM
theorem nodeInfo : ∃ i:TypeInfo,Tryz.prog.info? 48=some i/\i.size=7/\i.bytes=96/\∃ z,i.zero=some z/\z.cells.size=7:=by
 have h:(match Tryz.prog.info? 48 with
  | some i=>decide (i.size=7)&&(decide (i.bytes=96)&&(match i.zero with|some z=>decide (z.cells.size=7)|none=>false))
  | none=>false)=true:=by kernel_rfl
 split at h
 ·rename_i i hi
  simp only [Bool.and_eq_true,decide_eq_true_eq] at h
  obtain ⟨h1,h2,h3⟩:=h
  split at h3
  ·rename_i z hz
   exact ⟨i,hi,h1,h2,z,hz,by simpa using h3⟩
  ·cases h3
 ·cases h
abbrev BE:=QD×(List QD×Value)
def bCv (x:BE):List Value:=qcv x.1 ++ [x.2.2]
theorem q9y (x:BE):(bCv x).length=7:=by obtain ⟨⟨p,a,b,c,r,m⟩,l,v⟩:=x;rfl
def q46 (l:List BE):List Value:=l.flatMap bCv
theorem qgi : ∀l:List BE,(q46 l).length=l.length*7
 | []=>rfl
 | x::l=>by
  show (bCv x++q46 l).length=_
  rw [List.length_append,q9y,qgi l,List.length_cons];omega
theorem j95 (a b:List BE):q46 (a++b)=q46 a++q46 b:=List.flatMap_append
theorem qax : ∀(l:List BE) (k j:Nat) (hk:k<l.length),j<7->(q46 l)[k*7+j]? = (bCv l[k])[j]?
 | x::l,0,j,hk,hj=>by
  show (bCv x++q46 l)[0*7+j]? = _
  rw [Nat.zero_mul,Nat.zero_add,List.getElem?_append_left (by rw [q9y];exact hj)];rfl
 | x::l,k+1,j,hk,hj=>by
  show (bCv x++q46 l)[(k+1)*7+j]? = _
  rw [List.getElem?_append_right (by rw [q9y];omega),q9y,show (k+1)*7+j - 7=k*7+j from by omega,qax l k j (by simpa using hk) hj]
  rfl
theorem qqi : ∀(l:List BE) (k:Nat) (L:List QD) (v:Value) (hk:k<l.length),q46 (l.set k (l[k].1,L,v))=(q46 l).set (k*7+6) v
 | x::l,0,L,v,hk=>by
  obtain ⟨⟨p,a,b,c,r,m⟩,l0,v0⟩:=x
  rfl
 | x::l,k+1,L,v,hk=>by
  have hk':k<l.length:=by simpa using hk
  show bCv x++q46 (l.set k (l[k].1,L,v))=(bCv x++q46 l).set ((k+1)*7+6) v
  rw [qqi l k L v hk',List.set_append_right _ _ (by rw [q9y];omega),q9y,show (k+1)*7+6 - 7=k*7+6 from by omega]
structure BackR (W:World) (B:Nat) (v:Value) (l:List BE):Prop where
 row:W.ownsRow B 48 7 v l.length (q46 l)
 own : ∀x∈l,W.ownsRow B 27 6 x.2.2 x.2.1.length (cvs qcv x.2.1)
 apart : ∀(i j:Nat) (hi:i<l.length) (hj:j<l.length),i≠j->∀g,l[i].2.2.ownBlock=some g->l[j].2.2.ownBlock≠some g
 off : ∀x∈l,∀g,x.2.2.ownBlock=some g->v.ownBlock≠some g
theorem BackR.nil (W:World) (B:Nat):BackR W B (.slice none 0 0) []:=⟨World.ownsRow_nil _ _ _ _,(fun x h=>by cases h),(fun i j hi=>absurd hi (Nat.not_lt_zero _)),(fun x h=>by cases h)⟩
theorem BackR.kept {W W':World} {B:Nat} {v:Value} {l:List BE} (h:BackR W B v l) (hb : ∀k,B<=k->k<W.heap.size->W'.heap[k]? = W.heap[k]?):BackR W' B v l :=
 ⟨qbf h.row fun g hg=>hb g (h.row.lt g hg).1 (h.row.lt g hg).2,fun x hx=>qbf (h.own x hx) fun g hg=>hb g ((h.own x hx).lt g hg).1 ((h.own x hx).lt g hg).2,h.apart,h.off⟩
theorem BackR.more {W:World} {B:Nat} {v:Value} {l:List BE} (h:BackR W B v l) (q:QD) (vb:Nat) (hv:W.heap[vb]? = some (.cells (bCv (q,[],.slice none 0 0)).toArray 48 (0,0))) (hn:l.length<=1000000) (hB:B<=W.heap.size) (ty:TypeId) :
  ∃ v' W',(Builtin.append_ #[30,30] ty #[v,.slice (some ⟨vb,0,none⟩) 1 1]).run Tryz.prog W = .ok v' W'/\BackR W' B v' (l ++ [(q,[],.slice none 0 0)])/\W.grownBy W' v.ownBlock/\∀b,v'.ownBlock=some b->v.ownBlock=some b\/W.heap.size<=b:=by
 obtain ⟨i0,hi0,hz,hby,z,hzz,hzs⟩:=nodeInfo
 obtain ⟨v',W',hr,h2,h3,_,h5⟩:=q6s (P:=Tryz.prog) W B 30 ty 48 i0 z 7 96 Tryz.underlying30 hi0 hzz hz hby hzs (by omega) v l.length (q46 l) h.row (.slice (some ⟨vb,0,none⟩) 1 1) 1 (bCv (q,[],.slice none 0 0))
  (Or.inl ⟨⟨vb,0,none⟩,1,rfl,fun j u hu=>by rw [Addr.add_lit,cell_of_row W vb _ _ _ _ hv];simpa using hu⟩) (q9y _) (fun u hu=>by
   rcases List.mem_append.1 hu with hu|hu
   ·exact q64.one q u hu
   ·rw [List.mem_singleton] at hu;subst hu;rfl) (by unfold maxLen;omega) (by omega) hB
 have e:q46 [((q,[],.slice none 0 0):BE)]=bCv (q,[],.slice none 0 0):=by unfold q46;simp
 refine ⟨v',W',hr,⟨?_,fun x hx=>?_,?_,fun x hx g hg e2=>?_⟩,h3,h5⟩
 ·rw [j95,List.length_append,e];exact h2
 ·rcases List.mem_append.1 hx with hx|hx
  ·exact qbf (h.own x hx) fun g hg=>h3.block g ((h.own x hx).lt g hg).2 (fun e2=>h.off x hx g hg e2.symm)
  ·rw [List.mem_singleton] at hx;subst hx
   exact World.ownsRow_nil _ _ _ _
 ·intro i j hi hj hij g hg
  by_cases hi':i<l.length
  ·rw [List.getElem_append_left hi'] at hg
   by_cases hj':j<l.length
   ·rw [List.getElem_append_left hj'];exact h.apart i j hi' hj' hij g hg
   ·rw [List.getElem_append_right (by omega),List.getElem_singleton];intro e2;cases e2
  ·rw [List.getElem_append_right (by omega),List.getElem_singleton] at hg;cases hg
 ·rcases List.mem_append.1 hx with hx|hx
  ·rcases h5 g e2 with h6|h6
   ·exact h.off x hx g hg h6
   ·have:=((h.own x hx).lt g hg).2;omega
  ·rw [List.mem_singleton] at hx;subst hx;cases hg
theorem BackR.put {W:World} {B:Nat} {a:Option Addr} {cap:Nat} {l:List BE} (h:BackR W B (.slice a l.length cap) l) (i:Nat) (hi:i<l.length) (r:QD) (vb:Nat) (hv:W.heap[vb]? = some (.cells (qcv r).toArray 27 (0,0))) (hn:l[i].2.1.length<=1000000) (hB:B<=W.heap.size) (ty:TypeId) :
  ∃ g sv' W',a=some ⟨g,0,none⟩/\(Builtin.append_ #[22,22] ty #[l[i].2.2,.slice (some ⟨vb,0,none⟩) 1 1]).run Tryz.prog W = .ok sv' W'/\W.grownBy W' l[i].2.2.ownBlock/\(∃ u,W'.cell? ⟨g,i*7+6,none⟩=some u)/\W'.frozen? ⟨g,i*7+6,none⟩=false /\
   B<=g/\g<W.heap.size/\l[i].2.2.ownBlock≠some g/\BackR (W'.setCell ⟨g,i*7+6,none⟩ sv') B (.slice a l.length cap) (l.set i (l[i].1,l[i].2.1 ++ [r],sv'))/\∀b,sv'.ownBlock=some b->l[i].2.2.ownBlock=some b\/W.heap.size<=b:=by
 rcases h.row.2 with ⟨_,hz⟩|⟨g,cap',cur,he,hbg,hg,hnc,hcm,hcs,htk⟩
 ·omega
 obtain ⟨rfl,_,rfl⟩:=Value.slice.inj he
 have hme:l[i]∈l:=List.getElem_mem hi
 obtain ⟨i0,hi0,hz,hby,z,hzz,hzs,_⟩:=qtj
 obtain ⟨sv',W',hr,h2,h3,_,h5⟩:=q6s (P:=Tryz.prog) W B 22 ty 27 i0 z 6 72 Tryz.underlying22 hi0 hzz hz hby hzs (by omega) l[i].2.2 l[i].2.1.length (cvs qcv l[i].2.1) (h.own _ hme) (.slice (some ⟨vb,0,none⟩) 1 1) 1 (qcv r)
  (Or.inl ⟨⟨vb,0,none⟩,1,rfl,fun j u hu=>by rw [Addr.add_lit,cell_of_row W vb _ _ _ _ hv];simpa using hu⟩) (q64.len r) (q64.one r) (by unfold maxLen;omega) (by omega) hB
 have hgl:=q39 hg
 have hgn:l[i].2.2.ownBlock≠some g:=fun e=>h.off _ hme g e rfl
 have hg':W'.heap[g]? = some (.cells cur 48 (0,0)):=(h3.block g hgl (fun e=>hgn e.symm)).trans hg
 have hix:i*7+6<cur.size:=by rw [hcs];omega
 have hsvg : ∀b,sv'.ownBlock=some b->b≠g:=fun b hb e=>by
  rcases h5 b hb with h6|h6
  ·exact hgn (e ▸ h6)
  ·omega
 have e1:=setCell_eq_setRow W' g (i*7+6) cur _ _ sv' hg'
 refine ⟨g,sv',W',rfl,hr,h3,⟨cur[i*7+6],by rw [cell_of_row W' g _ cur _ _ hg'];simp [hix]⟩,by simp [World.frozen?,hg'],hbg,hgl,hgn,?_,h5⟩
 rw [e1]
 have hoth : ∀k,k≠g->(W'.setRow g (cur.setIfInBounds (i*7+6) sv')).heap[k]? = W'.heap[k]?:=fun k hk=>setRow_other W' g k _ hk
 refine ⟨⟨by rw [qgi,List.length_set],.inr ⟨g,cap,_,by rw [List.length_set],hbg,setRow_heap W' g cur _ _ _ hg',by rw [List.length_set];exact hnc,hcm,by simpa using hcs,?_⟩⟩,fun x hx=>?_,fun p q hp hq hpq b hb=>?_,fun x hx b hb e2=>?_⟩
 ·rw [List.length_set,Array.toList_setIfInBounds,List.take_set,htk,qqi l i _ sv' hi]
 ·rcases List.mem_iff_getElem.1 hx with ⟨k,hk,rfl⟩
  rw [List.getElem_set]
  rw [List.length_set] at hk
  split
  ·rw [List.length_append]
   have e3:cvs (T:=QT) qcv (l[i].2.1 ++ [r])=cvs qcv l[i].2.1++qcv r:=by rw [qu6];unfold cvs;simp
   rw [e3]
   exact qbf h2 fun b hb=>hoth b (hsvg b hb)
  ·rename_i hki
   have hm2:l[k]∈l:=List.getElem_mem hk
   refine qbf (h.own _ hm2) fun b hb=>?_
   have hbl:=(h.own _ hm2).lt b hb
   rw [hoth b (fun e=>h.off _ hm2 b hb (by rw [e];rfl))]
   exact h3.block b hbl.2 (fun e=>h.apart k i hk hi (fun e2=>hki e2.symm) b hb e.symm)
 ·rw [List.length_set] at hp hq
  rw [List.getElem_set] at hb ⊢
  by_cases hpi:i=p
  ·rw [if_pos hpi] at hb
   rw [if_neg (fun e=>hpq (hpi ▸ e))]
   intro e2
   rcases h5 b hb with h6|h6
   ·exact h.apart i q hi hq (fun e=>hpq (hpi ▸ e)) b h6 e2
   ·have:=((h.own _ (List.getElem_mem hq)).lt b e2).2;omega
  ·rw [if_neg hpi] at hb
   by_cases hqi:i=q
   ·rw [if_pos hqi]
    intro e2
    rcases h5 b e2 with h6|h6
    ·exact h.apart p i hp hi (fun e=>hpi e.symm) b hb h6
    ·have:=((h.own _ (List.getElem_mem hp)).lt b hb).2;omega
   ·rw [if_neg hqi];exact h.apart p q hp hq hpq b hb
 ·rcases List.mem_iff_getElem.1 hx with ⟨k,hk,rfl⟩
  rw [List.getElem_set] at hb
  rw [List.length_set] at hk
  split at hb
  ·have e3:g=b:=by simpa [Value.ownBlock] using e2
   exact hsvg b hb e3.symm
  ·exact h.off _ (List.getElem_mem hk) b hb e2
end YtlkpgcifpnppeaaGreatDoor.AM
end Go.Proofs
namespace Go.Proofs.YtlkpgcifpnppeaaGreatDoor.AM
open Go.RowKit Go.Lib
def q3y:Nat->List BE->List (QD×List Value)
 | _,[]=>[]
 | k,x::l=>(x.1,[.int .i64 (k:Int)])::q3y (k+1) l
theorem qkl (x:BE) : ∀(l:List BE) (k:Nat),q3y k (l ++ [x])=q3y k l ++ [(x.1,[.int .i64 ((k+l.length:Nat):Int)])]
 | [],k=>by simp [q3y]
 | y::l,k=>by
  show (y.1,_)::q3y (k+1) (l ++ [x])=_
  rw [qkl x l (k+1),show k+1+l.length=k+(y::l).length from by simp;omega]
  rfl
theorem qpt : ∀(l:List BE) (k i:Nat) (L:List QD) (v:Value) (hi:i<l.length),q3y k (l.set i (l[i].1,L,v))=q3y k l
 | x::l,k,0,L,v,hi=>rfl
 | x::l,k,i+1,L,v,hi=>by
  have hi':i<l.length:=by simpa using hi
  show (x.1,_)::q3y (k+1) (l.set i (l[i].1,L,v))=(x.1,_)::q3y (k+1) l
  rw [qpt l (k+1) i L v hi']
def qbs (x:BE):ND:=mkN x.1 x.2.1
theorem jdp (q r:QD) : ∀(l:List BE) (k:Nat),((q3y k l).find? fun x=>decide (q=x.1))=none->qob q r (l.map qbs)=l.map qbs ++ [mkN q [r]]
 | [],k,_=>rfl
 | x::l,k,h=>by
  have h1:((x.1,[Value.int .i64 (k:Int)])::q3y (k+1) l).find? (fun x=>decide (q=x.1))=none:=h
  rw [List.find?_cons] at h1
  cases hd:decide (q=x.1) with
  | true=>simp only [hd] at h1;cases h1
  | false =>
   simp only [hd] at h1
   have hn : ¬ nq (qbs x)=q:=fun e=>of_decide_eq_false hd e.symm
   show (if nq (qbs x)=q then _ else qbs x::qob q r (l.map qbs))=_
   rw [if_neg hn,jdp q r l (k+1) h1]
   rfl
theorem jgg (q r:QD) (v:Value) : ∀(l:List BE) (k:Nat) (y:QD×List Value),((q3y k l).find? fun x=>decide (q=x.1))=some y->∃ (i:Nat) (hi:i<l.length),y=(q,[.int .i64 ((k+i:Nat):Int)])/\l[i].1=q/\qob q r (l.map qbs)=(l.set i (l[i].1,l[i].2.1 ++ [r],v)).map qbs
 | [],k,y,h=>by cases h
 | x::l,k,y,h=>by
  have h1:((x.1,[Value.int .i64 (k:Int)])::q3y (k+1) l).find? (fun x=>decide (q=x.1))=some y:=h
  rw [List.find?_cons] at h1
  cases hd:decide (q=x.1) with
  | true =>
   simp only [hd,Option.some.injEq] at h1
   have he:q=x.1:=of_decide_eq_true hd
   refine ⟨0,by simp,?_,he.symm,?_⟩
   ·rw [<-h1,he];rfl
   ·show (if nq (qbs x)=q then mkN (nq (qbs x)) (nR (qbs x) ++ [r])::l.map qbs else _)=_
    rw [if_pos (show nq (qbs x)=q from he.symm)];rfl
  | false =>
   simp only [hd] at h1
   have hn : ¬ nq (qbs x)=q:=fun e=>of_decide_eq_false hd e.symm
   obtain ⟨i,hi,h2,h3,h4⟩:=jgg q r v l (k+1) y h1
   refine ⟨i+1,by simpa using hi,?_,h3,?_⟩
   ·rw [h2,show k+1+i=k+(i+1) from by omega]
   ·show (if nq (qbs x)=q then _ else qbs x::qob q r (l.map qbs))=_
    rw [if_neg hn,h4];rfl
theorem j6w (q r:QD) : ∀l:List ND,(qob q r l).length<=l.length+1
 | []=>by simp [qob]
 | x::l=>by
  show (if nq x=q then mkN (nq x) (nR x ++ [r])::l else x::qob q r l).length<=_
  have:=j6w q r l
  split<;>simp<;>omega
theorem jae (r:QD) (acc:List ND) (L:List QD) (j:Nat) (hj:j<L.length):qat r acc (L.take (j+1))=qob L[j] r (qat r acc (L.take j)):=by
 unfold qat
 rw [List.take_succ_eq_append_getElem hj,List.foldl_append];rfl
end Go.Proofs.YtlkpgcifpnppeaaGreatDoor.AM
namespace Go.Proofs.YtlkpgcifpnppeaaGreatDoor.AM
open Go.RowKit Go.Lib
theorem qnk (n:ND):q01 NT n=(qcv (nq n)).map Dat.v ++ [.lst 6 ((nR n).map (q01 QT))]:=by
 obtain ⟨p,a,b,c,r,m,L⟩:=n;rfl
theorem node6 (n:ND):(q01 NT n)[6]? = some (.lst 6 ((nR n).map (q01 QT))):=by
 obtain ⟨p,a,b,c,r,m,L⟩:=n;rfl
theorem jac {Pc:Nat->Nat->Prop} {w:World} {v:Value} {l:List ND} (hd:DatRep Pc w v (.lst 7 (l.map (q01 NT)))) :
  ∃ a cap b off,v = .slice a l.length cap/\l.length<=cap/\cap<=maxLen/\(0<l.length->a=some ⟨b,off,none⟩)/\∀(k:Nat) (hk:k<l.length),
   (∀j u,(qcv (nq l[k]))[j]? = some u->w.cell? ⟨b,off+k*7+j,none⟩=some u/\Pc b (off+k*7+j))/\∃ u,w.cell? ⟨b,off+k*7+6,none⟩=some u/\Pc b (off+k*7+6)/\DatRep Pc w u (.lst 6 ((nR l[k]).map (q01 QT))):=by
 obtain ⟨a,n,cap,b,off,c,rfl,hn,hcap,hmax,hsz,ha,hc,hr⟩ : ∃ (a:Option Addr) (n cap b off:Nat) (c:Nat->Nat->Value),v = .slice a n cap/\n=(l.map (q01 NT)).length/\n<=cap/\cap<=maxLen/\(∀x∈l.map (q01 NT),x.length=7)/\(0<(l.map (q01 NT)).length->a=some ⟨b,off,none⟩) /\
   (∀k j,k<(l.map (q01 NT)).length->j<7->Pc b (off+k*7+j)/\w.cell? ⟨b,off+k*7+j,none⟩=some (c k j)/\(c k j).oneCell'=true) /\
   (∀(k j:Nat) (hk:k<(l.map (q01 NT)).length) (hj:j<((l.map (q01 NT))[k]).length),DatRep Pc w (c k j) (((l.map (q01 NT))[k])[j])):=by
  generalize hL:l.map (q01 NT)=L at hd
  generalize hW:7=W at hd
  cases hd with
  | lst a n cap sz xs b off c hn hcap hmax hsz ha hc hr=>exact ⟨a,n,cap,b,off,c,rfl,hn,hcap,hmax,hsz,ha,hc,hr⟩
 rw [List.length_map] at hn ha hc
 subst hn
 refine ⟨a,cap,b,off,rfl,hcap,hmax,ha,fun k hk=>⟨fun j u hu=>?_,?_⟩⟩
 ·have hj:j<6:=by
   have:=(List.getElem?_eq_some_iff.1 hu).1
   have h6:(qcv (nq l[k])).length=6:=q64.len _
   omega
  obtain ⟨g1,g2,_⟩:=hc k j hk (by omega)
  have hrep:=hr k j (by rw [List.length_map];exact hk) (by rw [List.getElem_map,q0c];show j<7;omega)
  have he:((l.map (q01 NT))[k]'(by rw [List.length_map];exact hk))[j]'(by rw [List.getElem_map,q0c];show j<7;omega)=Dat.v u:=by
   have:((l.map (q01 NT))[k]'(by rw [List.length_map];exact hk))[j]? = some (Dat.v u):=by
    rw [List.getElem_map,qnk,List.getElem?_append_left (by rw [List.length_map,q64.len];exact hj),List.getElem?_map,hu];rfl
   rw [List.getElem?_eq_getElem (by rw [List.getElem_map,q0c];show j<7;omega)] at this
   exact Option.some.inj this
  rw [he] at hrep
  refine ⟨?_,g1⟩
  rw [g2]
  generalize c k j=y at hrep
  cases hrep with
  | v x=>rfl
 ·obtain ⟨g1,g2,_⟩:=hc k 6 hk (by omega)
  have hrep:=hr k 6 (by rw [List.length_map];exact hk) (by rw [List.getElem_map,q0c];show 6<7;omega)
  have he:((l.map (q01 NT))[k]'(by rw [List.length_map];exact hk))[6]'(by rw [List.getElem_map,q0c];show 6<7;omega) = .lst 6 ((nR l[k]).map (q01 QT)):=by
   have:((l.map (q01 NT))[k]'(by rw [List.length_map];exact hk))[6]? = some (.lst 6 ((nR l[k]).map (q01 QT))):=by
    rw [List.getElem_map];exact node6 _
   rw [List.getElem?_eq_getElem (by rw [List.getElem_map,q0c];show 6<7;omega)] at this
   exact Option.some.inj this
  rw [he] at hrep
  exact ⟨_,g2,g1,hrep⟩
theorem jj5 {W:World} {B:Nat} {v:Value} {l:List BE} (h:BackR W B v l) {Pc:Nat->Nat->Prop} (hP : ∀b o,B<=b->b<W.heap.size->Pc b o):DatRep Pc W v (.lst 7 ((l.map qbs).map (q01 NT))):=by
 have hown : ∀x∈l,DatRep Pc W x.2.2 (.lst 6 (x.2.1.map (q01 QT))):=fun x hx=>q64.own (h.own x hx) fun b o hb _=>hP b o ((h.own x hx).lt b hb).1 ((h.own x hx).lt b hb).2
 rcases h.row.2 with ⟨rfl,h0⟩|⟨g,cap,cur,rfl,hb,hg,hn,hc,hs,ht⟩
 ·have:l = []:=List.eq_nil_of_length_eq_zero h0
  subst this
  exact DatRep.lst none 0 0 7 [] 0 0 (fun _ _=>undef) rfl (Nat.le_refl _) (by unfold maxLen;omega) (fun x hx=>by cases hx) (fun h=>by cases h) (fun k j hk=>by cases hk) (fun k j hk=>by cases hk)
 ·refine DatRep.lst (some ⟨g,0,none⟩) l.length cap 7 _ g 0 (fun k j=>(q46 l)[k*7+j]?.getD undef) (by simp) hn hc (fun x hx=>by obtain ⟨f,_,rfl⟩:=List.mem_map.1 hx;exact q0c NT f) (fun _=>rfl) (fun k j hk hj=>?_) (fun k j hk hj=>?_)
  ·have hk':k<l.length:=by simpa using hk
   have hlt:k*7+j<(q46 l).length:=by rw [qgi];omega
   refine ⟨hP _ _ hb (q39 hg),?_,?_⟩
   ·rw [cell_of_row W g _ cur _ _ hg,List.getElem?_eq_getElem hlt]
    have:cur.toList[k*7+j]? = some (q46 l)[k*7+j]:=by
     have e2:cur.toList[k*7+j]? = (cur.toList.take (l.length*7))[k*7+j]?:=by rw [List.getElem?_take,if_pos (by omega)]
     rw [e2,ht,List.getElem?_eq_getElem hlt]
    rw [Nat.zero_add]
    simpa using this
   ·have hg2:=qax l k j hk' hj
    rw [hg2]
    have hjl:j<(bCv l[k]).length:=by rw [q9y];exact hj
    rw [List.getElem?_eq_getElem hjl]
    have hm:(bCv l[k])[j]∈bCv l[k]:=List.getElem_mem hjl
    show ((bCv l[k])[j]).oneCell'=true
    unfold bCv at hm
    rcases List.mem_append.1 hm with hm|hm
    ·exact q64.one _ _ hm
    ·rw [List.mem_singleton] at hm
     rw [show (bCv l[k])[j]=l[k].2.2 from hm]
     rcases (h.own _ (List.getElem_mem hk')).2 with ⟨h1,_⟩|⟨g2,cap2,cur2,h1,_⟩<;>rw [h1]<;>rfl
  ·have hk':k<l.length:=by simpa using hk
   have hj7:j<7:=by rw [List.getElem_map,q0c] at hj;exact hj
   have hg2:=qax l k j hk' hj7
   rw [hg2]
   by_cases hj6:j<6
   ·have e1:(bCv l[k])[j]? = (qcv l[k].1)[j]?:=by unfold bCv;rw [List.getElem?_append_left (by rw [q64.len];exact hj6)]
    have hql:j<(qcv l[k].1).length:=by rw [q64.len];exact hj6
    rw [e1,List.getElem?_eq_getElem hql]
    have e2:(((l.map qbs).map (q01 NT))[k]'hk)[j]'hj=Dat.v (qcv l[k].1)[j]:=by
     have:(((l.map qbs).map (q01 NT))[k]'hk)[j]? = some (Dat.v (qcv l[k].1)[j]):=by
      rw [List.getElem_map,List.getElem_map,qnk,List.getElem?_append_left (by rw [List.length_map,q64.len];exact hj6),List.getElem?_map]
      rw [show nq (qbs l[k])=l[k].1 from rfl,List.getElem?_eq_getElem hql];rfl
     rw [List.getElem?_eq_getElem hj] at this
     exact Option.some.inj this
    rw [e2]
    exact .v _
   ·have hj6':j=6:=by omega
    subst hj6'
    have e1:(bCv l[k])[6]? = some l[k].2.2:=by unfold bCv;rw [List.getElem?_append_right (by rw [q64.len];exact Nat.le_refl _),q64.len];rfl
    rw [e1]
    have e2:(((l.map qbs).map (q01 NT))[k]'hk)[6]'hj = .lst 6 (l[k].2.1.map (q01 QT)):=by
     have:(((l.map qbs).map (q01 NT))[k]'hk)[6]? = some (.lst 6 (l[k].2.1.map (q01 QT))):=by
      rw [List.getElem_map,List.getElem_map];exact node6 _
     rw [List.getElem?_eq_getElem hj] at this
     exact Option.some.inj this
    rw [e2]
    exact hown _ (List.getElem_mem hk')
end Go.Proofs.YtlkpgcifpnppeaaGreatDoor.AM
namespace Go.Proofs
namespace YtlkpgcifpnppeaaGreatDoor.AM
open Go.RowKit Go.Lib
structure TInv (w:World) (met:List QD) (l:List BE) (c:Nat) (v:Value) (W:World):Prop where
 below:Below w.heap.size w W
 size:w.heap.size+2<=W.heap.size
 mAt:qo9 noP W w.heap.size TAt 7 ((q3y 0 l).map qe1)
 mSet:qo9 noP W (w.heap.size+1) ji5 6 ((met.map fun x=>(x,([]:List Value))).map qe1)
 back:BackR W (w.heap.size+2) v l
 cnt:l.length<=c/\∀x∈l,x.2.1.length<=c
theorem q1t {W W':World} {b T sz:Nat} {xs:List (List Dat)} (h:qo9 noP W b T sz xs) (hb:W'.heap[b]? = W.heap[b]?):qo9 noP W' b T sz xs:=h.mono (fun _ _ h=>h) (fun _ _ h=>h.elim) hb
theorem TInv.keep {w:World} {met:List QD} {l:List BE} {c:Nat} {v:Value} {W W':World} (h:TInv w met l c v W) (hb:Below W.heap.size W W'):TInv w met l c v W' :=
 ⟨h.below.trans (hb.mono h.below.size),Nat.le_trans h.size hb.size,q1t h.mAt (hb.block _ (by have:=h.size;omega)),q1t h.mSet (hb.block _ (by have:=h.size;omega)),h.back.kept fun k _ hk=>hb.block k hk,h.cnt⟩
theorem TInv.add {w:World} {met:List QD} {l:List BE} {c:Nat} {v:Value} {W W':World} {q:QD} (h:TInv w met l c v W) (hg:W.grownBy W' (some (w.heap.size+1))) (hm:qo9 noP W' (w.heap.size+1) ji5 6 (((met ++ [q]).map fun x=>(x,([]:List Value))).map qe1)):TInv w (met ++ [q]) l c v W':=by
 have hs:=h.size
 refine ⟨h.below.grown hg h.below.size (fun k hk=>by cases hk;omega),Nat.le_trans h.size hg.size,q1t h.mAt (hg.block _ (by omega) (fun e=>by have:=Option.some.inj e;omega)),hm,h.back.kept fun k hk1 hk2=>hg.block k hk2 (fun e=>by have:=Option.some.inj e;omega),h.cnt⟩
theorem TInv.more {w:World} {met:List QD} {l:List BE} {c:Nat} {v:Value} {W:World} {q:QD} (h:TInv w met l c v W) (hc:c<=1000000) (hf:((q3y 0 l).find? fun x=>decide (q=x.1))=none) :
  ∃ W1,(Instr.mapUpdate 93 (.map (some w.heap.size)) (.agg (qcv q).toArray) (.int .i64 (l.length:Int))).run Tryz.prog W = .ok () W1/\W1.heap.size=W.heap.size/\(∀k,k≠w.heap.size->W1.heap[k]? = W.heap[k]?) /\
   ∀vb W2 ty,Below W1.heap.size W1 W2->W2.heap[vb]? = some (.cells (bCv (q,[],.slice none 0 0)).toArray 48 (0,0)) ->
    ∃ v' W3,(Builtin.append_ #[30,30] ty #[v,.slice (some ⟨vb,0,none⟩) 1 1]).run Tryz.prog W2 = .ok v' W3/\TInv w met (l ++ [(q,[],.slice none 0 0)]) (c+1) v' W3/\W2.grownBy W3 v.ownBlock/\∀b,v'.ownBlock=some b->v.ownBlock=some b\/W2.heap.size<=b:=by
 have hs:=h.size
 have hF:=qwk q (q3y 0 l)
 rw [hf] at hF
 have hP:=jnh q [.int .i64 (l.length:Int)] (q3y 0 l) hf
 obtain ⟨W1,h1,h2,h3,h4,h5,h6,h7⟩:=je3 (us:=qcv q) (vs:=[.int .i64 (l.length:Int)]) (v:=[Dat.v (.int .i64 (l.length:Int))]) jbp h.mAt (qg1 q) ⟨.v _,trivial⟩ (fun u hu=>by rw [List.mem_singleton] at hu;subst hu;rfl) rfl hP hF (fun o h=>h)
 refine ⟨W1,h1,h4,h3,fun vb W2 ty hb hv=>?_⟩
 have hback:BackR W2 (w.heap.size+2) v l:=h.back.kept fun k hk1 hk2=>(hb.block k (by rw [h4];exact hk2)).trans (h3 k (by omega))
 have hW2:w.heap.size+2<=W2.heap.size:=by have:=hb.size;omega
 obtain ⟨v',W3,g1,g2,g3,g4⟩:=hback.more q vb hv (by have:=h.cnt.1;omega) hW2 ty
 have hge : ∀k,v.ownBlock=some k->w.heap.size+2<=k:=fun k hk=>(hback.row.lt k hk).1
 refine ⟨v',W3,g1,⟨?_,Nat.le_trans hW2 g3.size,?_,?_,g2,?_⟩,g3,g4⟩
 ·have hb1:Below w.heap.size w W1:=h.below.trans ⟨h5,h6,h7,by rw [h4];exact Nat.le_refl _,fun k hk=>h3 k (by omega)⟩
  have hb2:Below w.heap.size w W2:=hb1.trans (hb.mono hb1.size)
  exact hb2.grown g3 hb2.size (fun k hk=>by have:=hge k hk;omega)
 ·rw [qkl,List.map_append,Nat.zero_add]
  refine q1t ?_ (g3.block _ (by omega) (fun e=>by have:=hge _ e.symm;omega))
  refine q1t ?_ (hb.block _ (by rw [h4];omega))
  exact h2
 ·refine q1t ?_ (g3.block _ (by omega) (fun e=>by have:=hge _ e.symm;omega))
  refine q1t ?_ (hb.block _ (by rw [h4];omega))
  exact q1t h.mSet (h3 _ (by omega))
 ·refine ⟨by rw [List.length_append];have:=h.cnt.1;simp;omega,fun x hx=>?_⟩
  rcases List.mem_append.1 hx with hx|hx
  ·exact Nat.le_succ_of_le (h.cnt.2 x hx)
  ·rw [List.mem_singleton] at hx;subst hx;exact Nat.zero_le _
theorem BackR.at6 {W:World} {B:Nat} {a:Option Addr} {cap:Nat} {l:List BE} (h:BackR W B (.slice a l.length cap) l) (i:Nat) (hi:i<l.length) : ∃ g,a=some ⟨g,0,none⟩/\W.cell? ⟨g,i*7+6,none⟩=some l[i].2.2:=by
 rcases h.row.2 with ⟨_,hz⟩|⟨g,cap',cur,he,hbg,hg,hnc,hcm,hcs,htk⟩
 ·omega
 obtain ⟨rfl,_,rfl⟩:=Value.slice.inj he
 refine ⟨g,rfl,?_⟩
 rw [cell_of_row W g _ cur _ _ hg]
 have h1:=qax l i 6 hi (by omega)
 have e1:(bCv l[i])[6]? = some l[i].2.2:=by unfold bCv;rw [List.getElem?_append_right (by rw [q64.len];exact Nat.le_refl _),q64.len];rfl
 rw [e1,<-htk,List.getElem?_take,if_pos (by omega)] at h1
 simpa using h1
theorem TInv.put {w:World} {met:List QD} {l:List BE} {c cap:Nat} {a:Option Addr} {W W2:World} (h:TInv w met l c (.slice a l.length cap) W) (hc:c<=1000000) (i:Nat) (hi:i<l.length) (r:QD) (vb:Nat) (hb:Below W.heap.size W W2) (hv:W2.heap[vb]? = some (.cells (qcv r).toArray 27 (0,0))) (ty:TypeId) :
  ∃ g sv' W',a=some ⟨g,0,none⟩/\(Builtin.append_ #[22,22] ty #[l[i].2.2,.slice (some ⟨vb,0,none⟩) 1 1]).run Tryz.prog W2 = .ok sv' W'/\W2.grownBy W' l[i].2.2.ownBlock/\(∃ u,W'.cell? ⟨g,i*7+6,none⟩=some u)/\W'.frozen? ⟨g,i*7+6,none⟩=false /\
   W2.cell? ⟨g,i*7+6,none⟩=some l[i].2.2/\TInv w met (l.set i (l[i].1,l[i].2.1 ++ [r],sv')) (c+1) (.slice a l.length cap) (W'.setCell ⟨g,i*7+6,none⟩ sv')/\∀b,sv'.ownBlock=some b->l[i].2.2.ownBlock=some b\/W2.heap.size<=b:=by
 have h2:=h.keep hb
 have hs:=h2.size
 obtain ⟨g,h6,h7⟩:=h2.back.at6 i hi
 obtain ⟨g',sv',W',k1,k2,k3,k4,k5,k6,k7,k8,k9,k10⟩:=h2.back.put i hi r vb hv (by have:=h2.cnt.2 _ (List.getElem_mem hi);omega) hs ty
 have hgg:g'=g:=by rw [h6] at k1;simpa using k1.symm
 subst hgg
 have hge : ∀k,l[i].2.2.ownBlock=some k->w.heap.size+2<=k:=fun k hk=>((h2.back.own _ (List.getElem_mem hi)).lt k hk).1
 obtain ⟨u,hu⟩:=k4
 obtain ⟨cs,E,fr,hcs,_⟩:=Go.Sort.cells_of_cell? hu
 have e1:=setCell_eq_setRow W' g' (i*7+6) cs _ _ sv' hcs
 have hoth : ∀k,k≠g'->(W'.setCell ⟨g',i*7+6,none⟩ sv').heap[k]? = W'.heap[k]?:=fun k hk=>by rw [e1];exact setRow_other W' g' k _ hk
 have hsz:(W'.setCell ⟨g',i*7+6,none⟩ sv').heap.size=W'.heap.size:=by rw [e1,size_setRow]
 refine ⟨g',sv',W',h6,k2,k3,⟨u,hu⟩,k5,h7,⟨?_,by rw [hsz];exact Nat.le_trans hs k3.size,?_,?_,k9,?_⟩,k10⟩
 ·have hb1:Below w.heap.size w W':=h2.below.grown k3 h2.below.size (fun k hk=>by have:=hge k hk;omega)
  rw [e1]
  exact below_setRow hb1 (by omega) _
 ·rw [qpt l 0 i _ sv' hi]
  refine q1t ?_ (hoth _ (by omega))
  exact q1t h2.mAt (k3.block _ (by omega) (fun e=>by have:=hge _ e.symm;omega))
 ·refine q1t ?_ (hoth _ (by omega))
  exact q1t h2.mSet (k3.block _ (by omega) (fun e=>by have:=hge _ e.symm;omega))
 ·refine ⟨by rw [List.length_set];have:=h.cnt.1;omega,fun x hx=>?_⟩
  rcases List.mem_iff_getElem.1 hx with ⟨k,hk,rfl⟩
  rw [List.getElem_set]
  rw [List.length_set] at hk
  split
  ·have:=h.cnt.2 _ (List.getElem_mem hi);simp;omega
  ·have:=h.cnt.2 _ (List.getElem_mem hk);omega
end YtlkpgcifpnppeaaGreatDoor.AM
end Go.Proofs
namespace Go.Proofs
open Go.RowKit Go.Shelf Go.Lib
attribute [local go_sem] Oper.semAt_some
namespace YtlkpgcifpnppeaaGreatDoor.AM
theorem j7b (w:World) (o:Obj):(w.alloc o).heap.size=w.heap.size+1:=by simp
theorem jqu (w:World) (o:Obj):(w.drew.alloc o).heap.size=w.heap.size+1:=j7b w.drew o
set_option maxHeartbeats 4000000 in
set_option maxRecDepth 1000000 in
theorem qwc {Pc:Nat->Nat->Prop} (w:World) (v0:Value) (l0:List ND) (hI:Inv w) (hlt : ∀b o,Pc b o->b<w.heap.size) (hd:DatRep Pc w v0 (.lst 7 (l0.map (q01 NT)))) (hs:qzi l0) :
  Calls Tryz.prog 59 #[v0] w fun e w'=>∃ v' l,e = .returned v'/\BackR w' (w.heap.size+2) v' l/\l.map qbs=q1s [] [] l0/\Below w.heap.size w w':=by
 obtain ⟨a0,cap0,b0,o0,rfl,hc0,hcm0,ha0,hcells⟩:=jac hd
 have hcm0':cap0<=9223372036854775807:=by unfold maxLen at hcm0;omega
 have hmm:=@run_makeMap Tryz.prog
 have HC:=hid hcells
 have HL:=hid hlt
 have HS:=hid hs
 clear hcells hd hs hlt
 go_enter Tryz.func59,Tryz.ntmps59
 go_wp2_with fail
 go_loopw [3,16] (fun v3 iv wr=>∃ (i:Nat) (met:List QD) (l:List BE),i<=l0.length/\iv = .int .i64 (i:Int)/\TInv w met l (i*1000) v3 wr/\q1s met (l.map qbs) (l0.drop i)=q1s [] [] l0) (fun _ j _=>l0.length - (RowKit.intOf j).toNat)
 case atStart =>
  refine ⟨0,[],[],Nat.zero_le _,rfl,⟨((Below.refl _ _).alloc (Nat.le_refl _) _).alloc (by simp) _,by simp,⟨rfl,[],?_,trivial⟩,⟨rfl,[],?_,trivial⟩,BackR.nil _ _,Nat.zero_le _,fun x h=>by cases h⟩,rfl⟩
  ·rw [qux _ _ _ (by simp),heap_alloc_new];rfl
  ·have:=heap_alloc_new (w.alloc (.map #[] 0)) (.map #[] 0)
   rw [show (w.alloc (.map #[] 0)).heap.size=w.heap.size+1 from by simp] at this
   exact this
 case round =>
  obtain ⟨i,met,l,hi,rfl,hT,htu⟩:=hrel
  obtain ⟨wrO,hwO⟩ : ∃ x:World,x=wr:=⟨_,rfl⟩
  subst hwO
  by_cases hil:i<l0.length
  ·have hii:(i:Int)<(l0.length:Int):=by omega
   obtain ⟨hq6,uL,hu6,huP,huL⟩:=HC.out i hil
   obtain rfl:=ha0 (by omega)
   have hcw : ∀j u,w.cell? ⟨b0,o0+i*7+j,none⟩=some u->Pc b0 (o0+i*7+j)->wrO.cell? ⟨b0,o0+i*7+j,none⟩=some u:=fun j u h1 h2=>by
    rw [World.cell?_of_block (w:=w) (hT.below.block b0 (HL.out b0 _ h2))];exact h1
   obtain ⟨aL,capL,bL,oL,rfl,hcL,hcmL,haL,hLc⟩:=q64.cells huL
   have hdrop:l0.drop i=l0[i]::l0.drop (i+1):=List.drop_eq_getElem_cons hil
   rw [hdrop] at htu
   obtain ⟨nd,hnd⟩ : ∃ nd,nd=l0[i]:=⟨_,rfl⟩
   rw [<-hnd] at hq6 hu6 huL hLc hcL haL htu
   obtain ⟨p,x1,x2,x3,r,m,L⟩:=nd
   have d0:wrO.cell? ⟨b0,o0+i*7,none⟩=some (.string (ba p)):=hcw 0 _ (hq6 0 _ rfl).1 (hq6 0 _ rfl).2
   have d1:wrO.cell? ⟨b0,o0+i*7+1,none⟩=some (.int .i64 x1):=hcw 1 _ (hq6 1 _ rfl).1 (hq6 1 _ rfl).2
   have d2:wrO.cell? ⟨b0,o0+i*7+2,none⟩=some (.int .i64 x2):=hcw 2 _ (hq6 2 _ rfl).1 (hq6 2 _ rfl).2
   have d3:wrO.cell? ⟨b0,o0+i*7+3,none⟩=some (.int .i64 x3):=hcw 3 _ (hq6 3 _ rfl).1 (hq6 3 _ rfl).2
   have d4:wrO.cell? ⟨b0,o0+i*7+4,none⟩=some (.string (ba r)):=hcw 4 _ (hq6 4 _ rfl).1 (hq6 4 _ rfl).2
   have d5:wrO.cell? ⟨b0,o0+i*7+5,none⟩=some (.string (ba m)):=hcw 5 _ (hq6 5 _ rfl).1 (hq6 5 _ rfl).2
   have d6:wrO.cell? ⟨b0,o0+i*7+6,none⟩=some (.slice aL L.length capL):=hcw 6 _ hu6 huP
   have hw1:IntKind.i64.wrap ((i:Int)+1)=((i+1:Nat):Int):=by rw [IntKind.wrap_i64];have:=HS.out.1;omega
   have hTA:=hT.keep (W':=wrO.alloc (.cells #[.string (ba p),.int .i64 x1,.int .i64 x2,.int .i64 x3,.string (ba r),.string (ba m),.slice aL L.length capL] 48)) ((Below.refl _ _).alloc (Nat.le_refl _) _)
   have hhas:=jbv _ (w.heap.size+1) met (p,x1,x2,x3,r,m) hTA.mSet
   have hhas':Calls Tryz.prog 31 #[.map (some (w.heap.size+1)),.agg #[.string (ba p),.int .i64 x1,.int .i64 x2,.int .i64 x3,.string (ba r),.string (ba m)]] (wrO.alloc (.cells #[.string (ba p),.int .i64 x1,.int .i64 x2,.int .i64 x3,.string (ba r),.string (ba m),.slice aL L.length capL] 48)) fun e w'=>e = .returned (.bool (decide (((p,x1,x2,x3,r,m):QD)∈met)))/\Below (wrO.alloc (.cells #[.string (ba p),.int .i64 x1,.int .i64 x2,.int .i64 x3,.string (ba r),.string (ba m),.slice aL L.length capL] 48)).heap.size (wrO.alloc (.cells #[.string (ba p),.int .i64 x1,.int .i64 x2,.int .i64 x3,.string (ba r),.string (ba m),.slice aL L.length capL] 48)) w':=hhas
   have HTA:=hid hTA
   have HT:=hid hT
   have HTU:=hid htu
   have HND:=hid hnd
   clear hhas hcw hq6 hu6 huP hdrop hT hTA htu hnd
   go_wp2_with (go_at_call 31;refine hhas'.mono ?_)
   rintro e W1 rfl hb1
   clear hhas' d0 d1 d2 d3 d4 d5 d6
   have hT1:=HTA.out.keep (by simpa using hb1)
   by_cases hmet:((p,x1,x2,x3,r,m):QD)∈met
   ·rw [decide_eq_true hmet]
    go_wp2_with fail
    go_roundw
    case rel =>
     refine ⟨i+1,met,l,hil,rfl,⟨hT1.below,hT1.size,hT1.mAt,hT1.mSet,hT1.back,by have:=hT1.cnt.1;omega,fun x hx=>by have:=hT1.cnt.2 x hx;omega⟩,?_⟩
     have:=HTU.out
     rw [<-this]
     show _=(if nq _∈met then _ else _)
     rw [if_pos (show nq (p,x1,x2,x3,r,m,L)∈met from hmet)]
    case measure=>simp [RowKit.intOf];omega
   ·rw [decide_eq_false hmet]
    have hk7:W1.heap[wrO.heap.size]? = some (.cells #[.string (ba p),.int .i64 x1,.int .i64 x2,.int .i64 x3,.string (ba r),.string (ba m),.slice aL L.length capL] 48 (0,0)):=(hb1.block _ (by omega)).trans (heap_alloc_new wrO _)
    have e0:W1.cell? ⟨wrO.heap.size,0,none⟩=some (.string (ba p)):=by rw [cell_of_row W1 _ _ _ _ _ hk7];rfl
    have e1:W1.cell? ⟨wrO.heap.size,1,none⟩=some (.int .i64 x1):=by rw [cell_of_row W1 _ _ _ _ _ hk7];rfl
    have e2:W1.cell? ⟨wrO.heap.size,2,none⟩=some (.int .i64 x2):=by rw [cell_of_row W1 _ _ _ _ _ hk7];rfl
    have e3:W1.cell? ⟨wrO.heap.size,3,none⟩=some (.int .i64 x3):=by rw [cell_of_row W1 _ _ _ _ _ hk7];rfl
    have e4:W1.cell? ⟨wrO.heap.size,4,none⟩=some (.string (ba r)):=by rw [cell_of_row W1 _ _ _ _ _ hk7];rfl
    have e5:W1.cell? ⟨wrO.heap.size,5,none⟩=some (.string (ba m)):=by rw [cell_of_row W1 _ _ _ _ _ hk7];rfl
    have hadd:=jgn W1 (w.heap.size+1) met (p,x1,x2,x3,r,m) hmet hT1.mSet
    have hadd':Calls Tryz.prog 33 #[.map (some (w.heap.size+1)),.agg #[.string (ba p),.int .i64 x1,.int .i64 x2,.int .i64 x3,.string (ba r),.string (ba m)]] W1 fun e w'=>(∃ v,e = .returned v)/\Hid (TInv w (met ++ [(p,x1,x2,x3,r,m)]) l (i*1000) u3 w')/\Hid (W1.grownBy w' (some (w.heap.size+1))):=hadd.mono fun e w' ⟨h1,h2,h3⟩=>⟨h1,hid (hT1.add h3 h2),hid h3⟩
    have HK7:=hid hk7
    have HT1:=hid hT1
    clear hadd hk7 hT1 hb1
    go_wp2_with (go_at_call 33;refine hadd'.mono ?_)
    rintro e W2 ⟨⟨v2,rfl⟩,HT2,HG2⟩
    clear hadd' e0 e1 e2 e3 e4 e5
    have hk7:W2.heap[wrO.heap.size]? = some (.cells #[.string (ba p),.int .i64 x1,.int .i64 x2,.int .i64 x3,.string (ba r),.string (ba m),.slice aL L.length capL] 48 (0,0)) :=
     (HG2.out.block _ (q39 HK7.out) (fun e=>by have:=Option.some.inj e;have:=HT.out.size;omega)).trans HK7.out
    have e6:W2.cell? ⟨wrO.heap.size,6,none⟩=some (.slice aL L.length capL):=by rw [cell_of_row W2 _ _ _ _ _ hk7];rfl
    have hvb:u3.ownBlock≠some wrO.heap.size:=fun e=>by have:=(HT.out.back.row.lt _ e).2;omega
    have hsb : ∀x∈l,x.2.2.ownBlock≠some wrO.heap.size:=fun x hx e=>by have:=((HT.out.back.own x hx).lt _ e).2;omega
    have HK2:=hid hk7
    clear hk7
    go_wp2_with fail
    go_loopw [3,31] (fun v3 jv wi=>∃ (j:Nat) (l2:List BE),j<=L.length/\jv = .int .i64 (j:Int)/\TInv w (met ++ [(p,x1,x2,x3,r,m)]) l2 (i*1000+j) v3 wi/\l2.map qbs=qat (p,x1,x2,x3,r,m) (l.map qbs) (L.take j) /\
     wi.heap[wrO.heap.size]? = some (.cells #[.string (ba p),.int .i64 x1,.int .i64 x2,.int .i64 x3,.string (ba r),.string (ba m),.slice aL L.length capL] 48 (0,0))/\v3.ownBlock≠some wrO.heap.size/\∀x∈l2,x.2.2.ownBlock≠some wrO.heap.size) (fun _ j _=>L.length - (RowKit.intOf j).toNat)
    case atStart=>exact ⟨0,l,Nat.zero_le _,rfl,HT2.out,rfl,HK2.out,hvb,hsb⟩
    case round =>
     obtain ⟨j,l2,hj,rfl,hT2,hl2,hk7,hvb2,hsb2⟩:=hrel
     by_cases hjl:j<L.length
     ·have hjj:(j:Int)<(L.length:Int):=by omega
      obtain rfl:=haL (show 0<L.length by omega)
      have hw2:IntKind.i64.wrap ((j:Int)+1)=((j+1:Nat):Int):=by rw [IntKind.wrap_i64];have:=(HS.out.2 (p,x1,x2,x3,r,m,L) (HND.out ▸ List.getElem_mem hil));have:L.length<=1000:=this;omega
      obtain ⟨q,hq⟩ : ∃ q,q=L[j]:=⟨_,rfl⟩
      have hqc : ∀k u,k<6->(qcv q)[k]? = some u->wr.cell? ⟨bL,oL+j*6+k,none⟩=some u:=fun k u hk hu=>by
       have h1:=q64.get L j k hjl hk
       rw [<-hq,hu] at h1
       obtain ⟨h2,h3⟩:=hLc (j*6+k) u h1
       rw [show oL+(j*6+k)=oL+j*6+k from by omega] at h2 h3
       rw [World.cell?_of_block (w:=w) (hT2.below.block bL (HL.out bL _ h2))];exact h3
      have htk:=jae (p,x1,x2,x3,r,m) (l.map qbs) L j hjl
      rw [<-hq,<-hl2] at htk
      have hmA:qo9 noP (wr.alloc (.cells (qcv q).toArray 27)) w.heap.size TAt 7 ((q3y 0 l2).map qe1):=q1t hT2.mAt (qux wr _ _ (by have:=hT2.size;omega))
      have hfq:=qwk q (q3y 0 l2)
      have hTB:=hT2.keep (W':=wr.alloc (.cells (qcv q).toArray 27)) ((Below.refl _ _).alloc (Nat.le_refl _) _)
      have hkB:(wr.alloc (.cells (qcv q).toArray 27)).heap[wrO.heap.size]? = wr.heap[wrO.heap.size]?:=qux wr _ _ (q39 hk7)
      rw [hk7] at hkB
      have hvN:=heap_alloc_new wr (.cells (qcv q).toArray 27)
      have HTB:=hid hTB
      have HT2':=hid hT2
      have HKB:=hid hkB
      have HVN:=hid hvN
      have HTK:=hid htk
      have HL2:=hid hl2
      cases hfd:(q3y 0 l2).find? fun x=>decide (q=x.1) with
      | some y =>
       obtain ⟨k,hk,rfl,hkq,hput⟩:=jgg q (p,x1,x2,x3,r,m) .nilIface l2 0 y hfd
       rcases hT2.back.row.2 with ⟨_,hz⟩|⟨g,cap,cur,rfl,_,_,hcap1,hcap2,_⟩
       ·omega
       rw [hfd] at hfq
       obtain ⟨vs,hvs,hlook⟩:=qxd jbp hmA (qg1 q) hfq
       have hvs1:vs = [.int .i64 (k:Int)]:=by
        have h9:q0b (DatRep noP (wr.alloc (.cells (qcv q).toArray 27))) vs ([Value.int .i64 ((0+k:Nat):Int)].map Dat.v):=by
         have:(qe1 (q,[Value.int .i64 ((0+k:Nat):Int)])).drop 6 = [Value.int .i64 ((0+k:Nat):Int)].map Dat.v:=by
          unfold qe1
          rw [List.drop_append_of_le_length (by rw [List.length_map,q64.len];exact Nat.le_refl _),List.drop_of_length_le (by rw [List.length_map,q64.len];exact Nat.le_refl _)]
          rfl
         rw [<-this];exact hvs
        have:=qla h9
        rw [this,Nat.zero_add]
       subst hvs1
       clear hfq hfd hvs hmA hTB hkB hvN htk hl2 hT2
       obtain ⟨qp,y1,y2,y3,qr,qm⟩:=q
       have d0:wr.cell? ⟨bL,oL+j*6,none⟩=some (.string (ba qp)):=hqc 0 _ (by omega) rfl
       have d1:wr.cell? ⟨bL,oL+j*6+1,none⟩=some (.int .i64 y1):=hqc 1 _ (by omega) rfl
       have d2:wr.cell? ⟨bL,oL+j*6+2,none⟩=some (.int .i64 y2):=hqc 2 _ (by omega) rfl
       have d3:wr.cell? ⟨bL,oL+j*6+3,none⟩=some (.int .i64 y3):=hqc 3 _ (by omega) rfl
       have d4:wr.cell? ⟨bL,oL+j*6+4,none⟩=some (.string (ba qr)):=hqc 4 _ (by omega) rfl
       have d5:wr.cell? ⟨bL,oL+j*6+5,none⟩=some (.string (ba qm)):=hqc 5 _ (by omega) rfl
       have hlook':(Instr.lookup 93 (.map (some w.heap.size)) (.agg #[.string (ba qp),.int .i64 y1,.int .i64 y2,.int .i64 y3,.string (ba qr),.string (ba qm)]) true).run Tryz.prog (wr.alloc (.cells #[.string (ba qp),.int .i64 y1,.int .i64 y2,.int .i64 y3,.string (ba qr),.string (ba qm)] 27)) = .ok (.tuple #[.int .i64 (k:Int),.bool true]) (wr.alloc (.cells #[.string (ba qp),.int .i64 y1,.int .i64 y2,.int .i64 y3,.string (ba qr),.string (ba qm)] 27)):=hlook
       have HPUT:=hid hput
       have HHQ:=hid hq
       have HK7':=hid hk7
       have HHQC:=hid hqc
       clear hlook hqc hput hq hk7
       go_wp2_with (at_lookup;refine q4i _ rfl _ _ _ rfl rfl rfl hlook' ?_)
       have hcb:i*1000+j<=1000000:=by
        have h1:=HS.out.1
        have h2:L.length<=1000:=HS.out.2 (p,x1,x2,x3,r,m,L) (HND.out ▸ List.getElem_mem hil)
        omega
       have hlO:wrO.heap.size<wr.heap.size:=q39 HK7'.out
       have hv2:(((wr.alloc (.cells #[.string (ba qp),.int .i64 y1,.int .i64 y2,.int .i64 y3,.string (ba qr),.string (ba qm)] 27)).drew).alloc (.cells #[.string (ba p),.int .i64 x1,.int .i64 x2,.int .i64 x3,.string (ba r),.string (ba m)] 27)).heap[wr.heap.size+1]? = some (.cells (qcv (p,x1,x2,x3,r,m)).toArray 27 (0,0)):=by
        have:=heap_alloc_new (((wr.alloc (.cells #[.string (ba qp),.int .i64 y1,.int .i64 y2,.int .i64 y3,.string (ba qr),.string (ba qm)] 27)).drew)) (.cells #[.string (ba p),.int .i64 x1,.int .i64 x2,.int .i64 x3,.string (ba r),.string (ba m)] 27)
        rw [show (((wr.alloc (.cells #[.string (ba qp),.int .i64 y1,.int .i64 y2,.int .i64 y3,.string (ba qr),.string (ba qm)] 27)).drew)).heap.size=wr.heap.size+1 from by simp [World.drew]] at this
        exact this
       obtain ⟨g',sv',W',hga,hrun,hgrow,⟨u,hu⟩,hfz,h6,hT3,hown⟩:=HTB.out.put hcb k hk (p,x1,x2,x3,r,m) (wr.heap.size+1) (W2:=((wr.alloc (.cells #[.string (ba qp),.int .i64 y1,.int .i64 y2,.int .i64 y3,.string (ba qr),.string (ba qm)] 27)).drew).alloc (.cells #[.string (ba p),.int .i64 x1,.int .i64 x2,.int .i64 x3,.string (ba r),.string (ba m)] 27)) ((Below.refl _ _).drew.alloc (by simp [World.drew]) _) hv2 22
       obtain rfl:g'=g:=by simpa using hga.symm
       obtain ⟨a9,n9,c9,rfl⟩ : ∃ a n c,sv' = .slice a n c:=by
        have h9:(l2[k].1,l2[k].2.1 ++ [(p,x1,x2,x3,r,m)],sv')∈l2.set k (l2[k].1,l2[k].2.1 ++ [(p,x1,x2,x3,r,m)],sv'):=List.mem_iff_getElem.2 ⟨k,by rw [List.length_set];exact hk,by rw [List.getElem_set,if_pos rfl]⟩
        rcases (hT3.back.own _ h9).2 with ⟨h8,_⟩|⟨_,_,_,h8,_⟩<;>exact ⟨_,_,_,h8⟩
       obtain ⟨vk,hvk⟩ : ∃ vk,vk=l2[k].2.2:=⟨_,rfl⟩
       rw [<-hvk] at hrun hgrow h6 hown
       have HT3:=hid hT3
       have HGR:=hid hgrow
       have HOWN:=hid hown
       have HVK:=hid hvk
       clear hT3 hgrow hown hvk hga hv2
       have HKBx:(wr.alloc (.cells #[.string (ba qp),.int .i64 y1,.int .i64 y2,.int .i64 y3,.string (ba qr),.string (ba qm)] 27)).heap[wrO.heap.size]? = some (.cells #[.string (ba p),.int .i64 x1,.int .i64 x2,.int .i64 x3,.string (ba r),.string (ba m),.slice (some ⟨bL,oL,none⟩) L.length capL] 48 (0,0)):=HKB.out
       have hg6:(wr.alloc (.cells #[.string (ba qp),.int .i64 y1,.int .i64 y2,.int .i64 y3,.string (ba qr),.string (ba qm)] 27)).cell? ⟨g',k*7+6,none⟩=some vk:=by
        obtain ⟨g9,h7,h8⟩:=HTB.out.back.at6 k hk
        obtain rfl:g9=g':=by simpa using h7.symm
        exact h8.trans (by rw [<-HVK.out])
       have e0:(wr.alloc (.cells #[.string (ba qp),.int .i64 y1,.int .i64 y2,.int .i64 y3,.string (ba qr),.string (ba qm)] 27)).cell? ⟨wrO.heap.size,0,none⟩=some (.string (ba p)):=by rw [cell_of_row _ _ _ _ _ _ HKBx];rfl
       have e1:(wr.alloc (.cells #[.string (ba qp),.int .i64 y1,.int .i64 y2,.int .i64 y3,.string (ba qr),.string (ba qm)] 27)).cell? ⟨wrO.heap.size,1,none⟩=some (.int .i64 x1):=by rw [cell_of_row _ _ _ _ _ _ HKBx];rfl
       have e2:(wr.alloc (.cells #[.string (ba qp),.int .i64 y1,.int .i64 y2,.int .i64 y3,.string (ba qr),.string (ba qm)] 27)).cell? ⟨wrO.heap.size,2,none⟩=some (.int .i64 x2):=by rw [cell_of_row _ _ _ _ _ _ HKBx];rfl
       have e3:(wr.alloc (.cells #[.string (ba qp),.int .i64 y1,.int .i64 y2,.int .i64 y3,.string (ba qr),.string (ba qm)] 27)).cell? ⟨wrO.heap.size,3,none⟩=some (.int .i64 x3):=by rw [cell_of_row _ _ _ _ _ _ HKBx];rfl
       have e4:(wr.alloc (.cells #[.string (ba qp),.int .i64 y1,.int .i64 y2,.int .i64 y3,.string (ba qr),.string (ba qm)] 27)).cell? ⟨wrO.heap.size,4,none⟩=some (.string (ba r)):=by rw [cell_of_row _ _ _ _ _ _ HKBx];rfl
       have e5:(wr.alloc (.cells #[.string (ba qp),.int .i64 y1,.int .i64 y2,.int .i64 y3,.string (ba qr),.string (ba qm)] 27)).cell? ⟨wrO.heap.size,5,none⟩=some (.string (ba m)):=by rw [cell_of_row _ _ _ _ _ _ HKBx];rfl
       have hgne:wrO.heap.size≠g':=fun e=>hvb2 (by rw [e];rfl)
       have FIN:Hid (∃ (j':Nat) (l3:List BE),j'<=L.length/\Value.int .i64 ((j+1:Nat):Int) = .int .i64 (j':Int)/\TInv w (met ++ [(p,x1,x2,x3,r,m)]) l3 (i*1000+j') (.slice (some ⟨g',0,none⟩) l2.length cap) (W'.setCell ⟨g',k*7+6,none⟩ (.slice a9 n9 c9))/\l3.map qbs=qat (p,x1,x2,x3,r,m) (l.map qbs) (L.take j') /\
         (W'.setCell ⟨g',k*7+6,none⟩ (.slice a9 n9 c9)).heap[wrO.heap.size]? = some (.cells #[.string (ba p),.int .i64 x1,.int .i64 x2,.int .i64 x3,.string (ba r),.string (ba m),.slice (some ⟨bL,oL,none⟩) L.length capL] 48 (0,0))/\(Value.slice (some ⟨g',0,none⟩) l2.length cap).ownBlock≠some wrO.heap.size/\∀x∈l3,x.2.2.ownBlock≠some wrO.heap.size):=by
        refine hid ⟨j+1,_,hjl,rfl,HT3.out,?_,?_,hvb2,fun x hx e=>?_⟩
        ·rw [HTK.out,HPUT.out,List.map_set,List.map_set];rfl
        ·obtain ⟨cs,E,fr,hcs,_⟩:=Go.Sort.cells_of_cell? hu
         rw [setCell_eq_setRow W' g' _ cs _ _ _ hcs,setRow_other W' g' _ _ hgne,HGR.out.block _ (by simp [World.drew];omega) (fun e=>hsb2 _ (List.getElem_mem hk) (by rw [<-HVK.out];exact e.symm)),qux _ _ _ (by simp [World.drew];omega)]
         exact HKB.out
        ·rcases List.mem_iff_getElem.1 hx with ⟨z,hz,rfl⟩
         rw [List.getElem_set] at e
         rw [List.length_set] at hz
         split at e
         ·rcases HOWN.out _ e with h|h
          ·exact hsb2 _ (List.getElem_mem hk) (by rw [<-HVK.out];exact h)
          ·simp [World.drew] at h;omega
         ·exact hsb2 _ (List.getElem_mem hz) e
       have hkk:(k:Int)<(l2.length:Int):=by omega
       clear HKBx
       generalize hWc:(wr.alloc (.cells #[.string (ba qp),.int .i64 y1,.int .i64 y2,.int .i64 y3,.string (ba qr),.string (ba qm)] 27))=Wc at hrun h6 hg6 e0 e1 e2 e3 e4 e5 ⊢
       have h6b:(Wc.alloc (.cells #[.string (ba p),.int .i64 x1,.int .i64 x2,.int .i64 x3,.string (ba r),.string (ba m)] 27)).cell? ⟨g',k*7+6,none⟩=some vk:=Lib.cell?_alloc_some _ hg6
       have h6c:((Wc.alloc (.cells #[.string (ba p),.int .i64 x1,.int .i64 x2,.int .i64 x3,.string (ba r),.string (ba m)] 27)).drew).cell? ⟨g',k*7+6,none⟩=some vk:=h6b
       have hsz:Wc.heap.size=wr.heap.size+1:=by rw [<-hWc];simp
       have HWc:=hid hWc
       clear hWc d0 d1 d2 d3 d4 d5
       go_region_law (refine q9p rfl (.tmp 59) (.tmp 62) 22 22 rfl vk (.slice (some ⟨wr.heap.size+1,0,none⟩) 1 1) (by simp [Act.eval,Act.put]) (by simp [Act.eval,Act.put]) hrun ?_)
       all_goals
        go_wp2_with fail
        go_roundw
        case rel=>exact FIN.out
        case measure=>simp [RowKit.intOf];omega
      | none =>
       have hput:=jdp q (p,x1,x2,x3,r,m) l2 0 hfd
       rw [hfd] at hfq
       have hlook:=qxt (z:=.int .i64 0) jbp (by kernel_rfl) hmA (qg1 q) hfq
       have hcb:i*1000+j+1<=1000000:=by
        have h1:=HS.out.1
        have h2:L.length<=1000:=HS.out.2 (p,x1,x2,x3,r,m,L) (HND.out ▸ List.getElem_mem hil)
        omega
       obtain ⟨a3,cap3,rfl⟩ : ∃ a cap,u3 = .slice a l2.length cap:=by
        rcases hT2.back.row.2 with ⟨h8,hz⟩|⟨_,cap,_,h8,_⟩
        ·exact ⟨none,0,by rw [h8,hz]⟩
        ·exact ⟨_,cap,h8⟩
       obtain ⟨W3,hupd,hW3s,hW3h,hmore⟩:=hTB.more (by omega) hfd
       have hlO:wrO.heap.size<wr.heap.size:=q39 hk7
       have hOge:w.heap.size+2<=wrO.heap.size:=HT.out.size
       rw [j7b] at hW3s
       have hkC:W3.heap[wrO.heap.size]? = some (.cells #[.string (ba p),.int .i64 x1,.int .i64 x2,.int .i64 x3,.string (ba r),.string (ba m),.slice (some ⟨bL,oL,none⟩) L.length capL] 48 (0,0)):=(hW3h _ (by omega)).trans hkB
       have hvC:W3.heap[wr.heap.size]? = some (.cells (qcv q).toArray 27 (0,0)):=(hW3h _ (by omega)).trans hvN
       obtain ⟨qp,y1,y2,y3,qr,qm⟩:=q
       have hv3:=heap_alloc_new W3 (.cells #[.string (ba qp),.int .i64 y1,.int .i64 y2,.int .i64 y3,.string (ba qr),.string (ba qm),.slice none 0 0] 48)
       obtain ⟨v',W4,happ,hT4,hgr4,hown4⟩:=hmore W3.heap.size (W3.alloc (.cells #[.string (ba qp),.int .i64 y1,.int .i64 y2,.int .i64 y3,.string (ba qr),.string (ba qm),.slice none 0 0] 48)) 30 ((Below.refl _ _).alloc (Nat.le_refl _) _) hv3
       obtain ⟨l3,hl3⟩ : ∃ l3:List BE,l3=l2 ++ [((qp,y1,y2,y3,qr,qm),[],.slice none 0 0)]:=⟨_,rfl⟩
       rw [<-hl3] at hT4
       have hl3n:l3.length=l2.length+1:=by rw [hl3];simp
       rcases hT4.back.row.2 with ⟨_,hz⟩|⟨g',cap,cur,rfl,_,_,hcap1,hcap2,_⟩
       ·omega
       have hkD:W4.heap[wrO.heap.size]? = some (.cells #[.string (ba p),.int .i64 x1,.int .i64 x2,.int .i64 x3,.string (ba r),.string (ba m),.slice (some ⟨bL,oL,none⟩) L.length capL] 48 (0,0)):=(hgr4.block _ (by rw [j7b];omega) (fun e=>hvb2 e.symm)).trans ((qux _ _ _ (by omega)).trans hkC)
       have hvb4:(Value.slice (some ⟨g',0,none⟩) l3.length cap).ownBlock≠some wrO.heap.size:=fun e=>by
        rcases hown4 _ e with h|h
        ·exact hvb2 h
        ·rw [j7b] at h;omega
       have hsb4 : ∀x∈l3,x.2.2.ownBlock≠some wrO.heap.size:=fun x hx e=>by
        rw [hl3] at hx
        rcases List.mem_append.1 hx with hx|hx
        ·exact hsb2 x hx e
        ·rw [List.mem_singleton] at hx;rw [hx] at e;cases e
       have HT4:=hid hT4
       have HKD:=hid hkD
       have HVB4:=hid hvb4
       have HSB4:=hid hsb4
       have HL3:=hid hl3
       have HL3N:=hid hl3n
       have HPUT:=hid hput
       have HHQ:=hid hq
       have HK7':=hid hk7
       have HCNT:=hid hT2.cnt
       have HW3S:=hid hW3s
       have d0:wr.cell? ⟨bL,oL+j*6,none⟩=some (.string (ba qp)):=hqc 0 _ (by omega) rfl
       have d1:wr.cell? ⟨bL,oL+j*6+1,none⟩=some (.int .i64 y1):=hqc 1 _ (by omega) rfl
       have d2:wr.cell? ⟨bL,oL+j*6+2,none⟩=some (.int .i64 y2):=hqc 2 _ (by omega) rfl
       have d3:wr.cell? ⟨bL,oL+j*6+3,none⟩=some (.int .i64 y3):=hqc 3 _ (by omega) rfl
       have d4:wr.cell? ⟨bL,oL+j*6+4,none⟩=some (.string (ba qr)):=hqc 4 _ (by omega) rfl
       have d5:wr.cell? ⟨bL,oL+j*6+5,none⟩=some (.string (ba qm)):=hqc 5 _ (by omega) rfl
       have f0:W3.cell? ⟨wr.heap.size,0,none⟩=some (.string (ba qp)):=by rw [cell_of_row _ _ _ _ _ _ hvC];rfl
       have f1:W3.cell? ⟨wr.heap.size,1,none⟩=some (.int .i64 y1):=by rw [cell_of_row _ _ _ _ _ _ hvC];rfl
       have f2:W3.cell? ⟨wr.heap.size,2,none⟩=some (.int .i64 y2):=by rw [cell_of_row _ _ _ _ _ _ hvC];rfl
       have f3:W3.cell? ⟨wr.heap.size,3,none⟩=some (.int .i64 y3):=by rw [cell_of_row _ _ _ _ _ _ hvC];rfl
       have f4:W3.cell? ⟨wr.heap.size,4,none⟩=some (.string (ba qr)):=by rw [cell_of_row _ _ _ _ _ _ hvC];rfl
       have f5:W3.cell? ⟨wr.heap.size,5,none⟩=some (.string (ba qm)):=by rw [cell_of_row _ _ _ _ _ _ hvC];rfl
       have hlook':(Instr.lookup 93 (.map (some w.heap.size)) (.agg #[.string (ba qp),.int .i64 y1,.int .i64 y2,.int .i64 y3,.string (ba qr),.string (ba qm)]) true).run Tryz.prog (wr.alloc (.cells #[.string (ba qp),.int .i64 y1,.int .i64 y2,.int .i64 y3,.string (ba qr),.string (ba qm)] 27)) = .ok (.tuple #[.int .i64 0,.bool false]) (wr.alloc (.cells #[.string (ba qp),.int .i64 y1,.int .i64 y2,.int .i64 y3,.string (ba qr),.string (ba qm)] 27)):=hlook
       have hupd':(Instr.mapUpdate 93 (.map (some w.heap.size)) (.agg #[.string (ba qp),.int .i64 y1,.int .i64 y2,.int .i64 y3,.string (ba qr),.string (ba qm)]) (.int .i64 (l2.length:Int))).run Tryz.prog (wr.alloc (.cells #[.string (ba qp),.int .i64 y1,.int .i64 y2,.int .i64 y3,.string (ba qr),.string (ba qm)] 27)) = .ok () W3:=hupd
       clear hlook hqc hput hq hk7 hupd hfq hfd hmA hTB hkB hvN htk hl2 hT2 hW3s hW3h hmore hkC hvC hv3 hgr4 hown4 hT4 hkD hvb4 hsb4 hl3 hl3n
       go_wp2_with (first|(at_lookup;refine q4i _ rfl _ _ _ rfl rfl rfl hlook' ?_)|(at_mapUpdate;refine q7v _ rfl _ _ _ _ rfl rfl rfl rfl hupd' ?_)|(at_builtin;refine q42 _ rfl _ _ 30 30 rfl _ _ rfl rfl happ ?_))
       have hk:l2.length<l3.length:=by have:=HL3N.out;omega
       have hlO4:wrO.heap.size<W4.heap.size:=q39 HKD.out
       have hv2:((W4.drew).alloc (.cells #[.string (ba p),.int .i64 x1,.int .i64 x2,.int .i64 x3,.string (ba r),.string (ba m)] 27)).heap[W4.heap.size]? = some (.cells (qcv (p,x1,x2,x3,r,m)).toArray 27 (0,0)):=heap_alloc_new W4.drew (.cells #[.string (ba p),.int .i64 x1,.int .i64 x2,.int .i64 x3,.string (ba r),.string (ba m)] 27)
       obtain ⟨g9,sv',W',hga,hrun,hgrow,⟨u,hu⟩,hfz,h6,hT5,hown⟩:=HT4.out.put hcb l2.length hk (p,x1,x2,x3,r,m) W4.heap.size (W2:=(W4.drew).alloc (.cells #[.string (ba p),.int .i64 x1,.int .i64 x2,.int .i64 x3,.string (ba r),.string (ba m)] 27)) ((Below.refl _ _).drew.alloc (Nat.le_refl _) _) hv2 22
       obtain rfl:g9=g':=by simpa using hga.symm
       obtain ⟨a9,n9,c9,rfl⟩ : ∃ a n c,sv' = .slice a n c:=by
        have h9:(l3[l2.length].1,l3[l2.length].2.1 ++ [(p,x1,x2,x3,r,m)],sv')∈l3.set l2.length (l3[l2.length].1,l3[l2.length].2.1 ++ [(p,x1,x2,x3,r,m)],sv'):=List.mem_iff_getElem.2 ⟨l2.length,by rw [List.length_set];exact hk,by rw [List.getElem_set,if_pos rfl]⟩
        rcases (hT5.back.own _ h9).2 with ⟨h8,_⟩|⟨_,_,_,h8,_⟩<;>exact ⟨_,_,_,h8⟩
       have hgne:wrO.heap.size≠g9:=fun e=>HVB4.out (by rw [e];rfl)
       have hnew:l3[l2.length]=((qp,y1,y2,y3,qr,qm),[],.slice none 0 0):=by
        have:l3[l2.length]? = some ((qp,y1,y2,y3,qr,qm),[],.slice none 0 0):=by rw [HL3.out];simp
        rw [List.getElem?_eq_getElem hk] at this
        exact Option.some.inj this
       have FIN:Hid (∃ (j':Nat) (l4:List BE),j'<=L.length/\Value.int .i64 ((j+1:Nat):Int) = .int .i64 (j':Int)/\TInv w (met ++ [(p,x1,x2,x3,r,m)]) l4 (i*1000+j') (.slice (some ⟨g9,0,none⟩) l3.length cap) (W'.setCell ⟨g9,l2.length*7+6,none⟩ (.slice a9 n9 c9))/\l4.map qbs=qat (p,x1,x2,x3,r,m) (l.map qbs) (L.take j') /\
         (W'.setCell ⟨g9,l2.length*7+6,none⟩ (.slice a9 n9 c9)).heap[wrO.heap.size]? = some (.cells #[.string (ba p),.int .i64 x1,.int .i64 x2,.int .i64 x3,.string (ba r),.string (ba m),.slice (some ⟨bL,oL,none⟩) L.length capL] 48 (0,0))/\(Value.slice (some ⟨g9,0,none⟩) l3.length cap).ownBlock≠some wrO.heap.size/\∀x∈l4,x.2.2.ownBlock≠some wrO.heap.size):=by
        refine hid ⟨j+1,_,hjl,rfl,⟨hT5.below,hT5.size,hT5.mAt,hT5.mSet,hT5.back,?_⟩,?_,?_,HVB4.out,fun x hx e=>?_⟩
        ·refine ⟨by rw [List.length_set];have:=HCNT.out.1;have:=HL3N.out;omega,fun x hx=>?_⟩
         rcases List.mem_iff_getElem.1 hx with ⟨z,hz,rfl⟩
         rw [List.getElem_set]
         rw [List.length_set] at hz
         split
         ·rw [hnew]
          show 1<=_
          omega
         ·rename_i hne
          have hzl:z<l2.length:=by have:=HL3N.out;omega
          have e9:l3[z]=l2[z]:=by
           have:l3[z]? = l2[z]?:=by rw [HL3.out,List.getElem?_append_left hzl]
           rw [List.getElem?_eq_getElem hz,List.getElem?_eq_getElem hzl] at this
           exact Option.some.inj this
          rw [e9]
          have:=HCNT.out.2 _ (List.getElem_mem hzl)
          omega
        ·rw [HTK.out,HPUT.out,hnew]
         have e9:l3.set l2.length ((qp,y1,y2,y3,qr,qm),[] ++ [(p,x1,x2,x3,r,m)],.slice a9 n9 c9)=l2 ++ [((qp,y1,y2,y3,qr,qm),[] ++ [(p,x1,x2,x3,r,m)],.slice a9 n9 c9)]:=by
          rw [HL3.out,List.set_append_right _ _ (Nat.le_refl _),Nat.sub_self];rfl
         show (l3.set l2.length ((qp,y1,y2,y3,qr,qm),[] ++ [(p,x1,x2,x3,r,m)],.slice a9 n9 c9)).map qbs=_
         rw [e9,List.map_append];rfl
        ·obtain ⟨cs,E,fr,hcs,_⟩:=Go.Sort.cells_of_cell? hu
         rw [setCell_eq_setRow W' g9 _ cs _ _ _ hcs,setRow_other W' g9 _ _ hgne,hgrow.block _ (by rw [jqu];omega) (fun e=>HSB4.out _ (List.getElem_mem hk) e.symm),qux W4.drew _ _ hlO4]
         exact HKD.out
        ·rcases List.mem_iff_getElem.1 hx with ⟨z,hz,rfl⟩
         rw [List.getElem_set] at e
         rw [List.length_set] at hz
         split at e
         ·rcases hown _ e with h|h
          ·exact HSB4.out _ (List.getElem_mem hk) h
          ·rw [jqu] at h;omega
         ·exact HSB4.out _ (List.getElem_mem hz) e
       obtain ⟨vk,hvk⟩ : ∃ vk,vk=l3[l2.length].2.2:=⟨_,rfl⟩
       rw [<-hvk] at hrun h6
       have hg6:W4.cell? ⟨g9,l2.length*7+6,none⟩=some vk:=by
        obtain ⟨g8,h7,h8⟩:=HT4.out.back.at6 l2.length hk
        obtain rfl:g8=g9:=by simpa using h7.symm
        exact h8.trans (by rw [<-hvk])
       have e0:W4.cell? ⟨wrO.heap.size,0,none⟩=some (.string (ba p)):=by rw [cell_of_row _ _ _ _ _ _ HKD.out];rfl
       have e1:W4.cell? ⟨wrO.heap.size,1,none⟩=some (.int .i64 x1):=by rw [cell_of_row _ _ _ _ _ _ HKD.out];rfl
       have e2:W4.cell? ⟨wrO.heap.size,2,none⟩=some (.int .i64 x2):=by rw [cell_of_row _ _ _ _ _ _ HKD.out];rfl
       have e3:W4.cell? ⟨wrO.heap.size,3,none⟩=some (.int .i64 x3):=by rw [cell_of_row _ _ _ _ _ _ HKD.out];rfl
       have e4:W4.cell? ⟨wrO.heap.size,4,none⟩=some (.string (ba r)):=by rw [cell_of_row _ _ _ _ _ _ HKD.out];rfl
       have e5:W4.cell? ⟨wrO.heap.size,5,none⟩=some (.string (ba m)):=by rw [cell_of_row _ _ _ _ _ _ HKD.out];rfl
       have hkk:(l2.length:Int)<(l3.length:Int):=by omega
       have h6b:(W4.alloc (.cells #[.string (ba p),.int .i64 x1,.int .i64 x2,.int .i64 x3,.string (ba r),.string (ba m)] 27)).cell? ⟨g9,l2.length*7+6,none⟩=some vk:=Lib.cell?_alloc_some _ hg6
       have h6c:((W4.alloc (.cells #[.string (ba p),.int .i64 x1,.int .i64 x2,.int .i64 x3,.string (ba r),.string (ba m)] 27)).drew).cell? ⟨g9,l2.length*7+6,none⟩=some vk:=h6b
       have HVK:=hid hvk
       clear hvk hnew hown hgrow hT5 hv2 hga d0 d1 d2 d3 d4 d5 f0 f1 f2 f3 f4 f5 hlook' hupd' happ
       go_region_law (refine q9p rfl (.tmp 59) (.tmp 62) 22 22 rfl vk (.slice (some ⟨W4.heap.size,0,none⟩) 1 1) (by simp [Act.eval,Act.put]) (by simp [Act.eval,Act.put]) hrun ?_)
       all_goals
        go_wp2_with fail
        go_roundw
        case rel=>exact FIN.out
        case measure=>simp [RowKit.intOf];omega
     ·have hje:j=L.length:=by omega
      have hjn : ¬ (j:Int)<(L.length:Int):=by omega
      have HT2:=hid hT2
      have HL2:=hid hl2
      have HJ:=hid hje
      have HK7':=hid hk7
      clear hT2 hl2 hje hk7
      go_wp2_with fail
      go_roundw
      case rel =>
       have hLs:L.length<=1000:=HS.out.2 (p,x1,x2,x3,r,m,L) (HND.out ▸ List.getElem_mem hil)
       have hc:=HT2.out.cnt
       have hj2:=HJ.out
       refine ⟨i+1,met ++ [(p,x1,x2,x3,r,m)],l2,hil,rfl,⟨HT2.out.below,HT2.out.size,HT2.out.mAt,HT2.out.mSet,HT2.out.back,by have:=hc.1;omega,fun x hx=>by have:=hc.2 x hx;omega⟩,?_⟩
       have h9:=HTU.out
       rw [<-h9,HL2.out,HJ.out,List.take_length]
       show _=(if nq (p,x1,x2,x3,r,m,L)∈met then _ else _)
       rw [if_neg (show nq (p,x1,x2,x3,r,m,L) ∉ met from hmet)]
       rfl
      case measure=>simp [RowKit.intOf];omega
  ·have hie:i=l0.length:=by omega
   have hin : ¬ (i:Int)<(l0.length:Int):=by omega
   have HT:=hid hT
   have HTU:=hid htu
   have HE:=hid hie
   clear hT htu hie
   go_wp2_with fail
   go_ret
   refine ⟨_,rfl,l,HT.out.back,?_,HT.out.below⟩
   have:=HTU.out
   rw [HE.out,List.drop_length] at this
   exact this
end YtlkpgcifpnppeaaGreatDoor.AM
end Go.Proofs
namespace Go.Proofs.YtlkpgcifpnppeaaGreatDoor.AM
open Go.RowKit
def q8a (l:List ND):Option (List ND):=if qzi l then some (q1s [] [] l) else none
def jag:FC:={ f:=59,args:=[.one (.c (.d (.lst NT)))],res:=.one (.c (.d (.lst NT))),F:=fun p=>q8a p }
theorem j81:q09 Inv Tryz.prog jag:=fun G hG=>⟨⟨by kernel_rfl,fun (l:List ND) r h=>by
 have h':q8a l=some r:=h
 unfold q8a at h'
 split at h'
 case isFalse=>cases h'
 rename_i hc
 have hr:q1s [] [] l=r:=Option.some.inj h'
 intro Pc w vs hg hlt hv
 obtain ⟨vl⟩:=vs
 match vl,hv with
 | [x],⟨h1,_⟩ =>
  refine (qwc (Pc:=Pc) w x l (hG.im w hg) hlt h1 hc).mono ?_
  rintro e w' ⟨v',l',rfl,hB,hl,hb⟩
  have hd:=jj5 hB (Pc:=fun b o=>Pc b o\/(w.heap.size<=b/\b<w'.heap.size)) fun b o h3 h4=>Or.inr ⟨by omega,h4⟩
  rw [hl,hr] at hd
  exact ⟨v',_,rfl,hb,fun b o hp=>Or.inl hp,fun b o hp=>hp,hd⟩⟩,rfl⟩
end Go.Proofs.YtlkpgcifpnppeaaGreatDoor.AM
namespace Go.Proofs.YtlkpgcifpnppeaaGreatDoor.AM
end Go.Proofs.YtlkpgcifpnppeaaGreatDoor.AM
