
import Derived.Test.YtapfankgdkdkgaaGreatDoorMk25
import Derived.Test.YtapfankgdkdkgaaGreatDoorMk23
import Derived.Test.YtapfankgdkdkgaaGreatDoorMk8
import Derived.Test.YtapfankgdkdkgaaGreatDoorRows
import Derived.Deep.DeepHandedRow
import Derived.Test.YtapfankgdkdkgaaGreatDoorMk9
import Derived.LaidLaws
import Derived.LaidHandle
import Derived.Stop.LaidErr
import Derived.Lib.LaidTab
import Derived.Lay
namespace Go.Proofs.YtapfankgdkdkgaaGreatDoor.AM
open Go.RowKit
set_option linter.unusedVariables false
set_option linter.unusedSimpArgs false
set_option synthInstance.maxSize 100000
set_option synthInstance.maxHeartbeats 0
def jun (q:Rq):List UInt8:=Lib.join (rqL q) [32]
def nlT (L:List (List UInt8)):List UInt8:=(L.map (· ++ [10])).flatten
theorem j17:plain q8y:=⟨by decide,by decide,by decide⟩
theorem j5p:plain qaw:=⟨by decide,by decide,by decide⟩
theorem je0:plain kGo:=⟨by decide,by decide,by decide⟩
theorem j1d:plain qgb:=⟨by decide,by decide,by decide⟩
theorem j4n:plain qfn:=⟨by decide,by decide,by decide⟩
theorem j58:plain [61,62]:=⟨by decide,by decide,by decide⟩
theorem qky {q:Rq} (h:q8l q.1 q.2=true):plain q.1∧plain (q0n q.2):=⟨(qax (q53 h).1).1,(q3z (q53 h).2).1⟩
theorem jne {q:Rq} (h:q8l q.1 q.2=true):Lib.join ([q.1,q0n q.2].map fun t=>if qfa t then t else [120]) [32] = [120,32,120]:=by
 simp [(qax (q53 h).1).2,(q3z (q53 h).2).2,j6w]
theorem jgy {q:Rq} (h:q8l q.1 q.2=true):tx (q11 (jun q)) = [q8y,q.1,q0n q.2]:=q67 _ (fun w hw=>by
 simp only [rqL,List.mem_cons,List.not_mem_nil,or_false] at hw
 rcases hw with rfl|rfl|rfl
 ·exact j17
 ·exact (qky h).1
 ·exact (qky h).2)
end Go.Proofs.YtapfankgdkdkgaaGreatDoor.AM
namespace Go.Proofs.YtapfankgdkdkgaaGreatDoor.AM
open Go.RowKit
set_option linter.unusedVariables false
set_option linter.unusedSimpArgs false
set_option synthInstance.maxSize 100000
set_option synthInstance.maxHeartbeats 0
theorem jc0 {a b:List UInt8} (h:a <+: b) (k:Nat):a.drop k <+: b.drop k:=by
 obtain ⟨t,rfl⟩:=h
 rw [List.drop_append]
 exact List.prefix_append _ _
theorem kml:qaw.length=6∧kGo.length=2∧q8y.length=7∧qgb.length=7∧qfn.length=7∧qvt.length=7:=by decide
def jw4 (f:List UInt8) (ws:List Lx.Wd):Prop:=∀ w∈ws,∃ p:Nat,w.2=(p:Int)∧w.1 <+: f.drop p
theorem jw4.snoc {f:List UInt8} {ws:List Lx.Wd} {u:List UInt8} {p:Nat} (h:jw4 f ws) (hu:u <+: f.drop p):jw4 f (ws ++ [(u,(p:Int))]):=fun w hw=>by
 rcases List.mem_append.1 hw with hw|hw
 ·exact h w hw
 ·rw [List.mem_singleton.1 hw];exact ⟨p,rfl,hu⟩
theorem qgs (f:List UInt8) : ∀ (l pre:List UInt8) (op:Bool) (ws:List Lx.Wd),f=pre++l→jw4 f ws→(op=true→∃ ws0 p,ws=ws0 ++ [(pre.drop p,((p:Nat):Int))]∧p≤pre.length)→jw4 f (Lx.qtt l pre.length op ws)
 | [],pre,op,ws,_,h,_=>by rw [Lx.qtt];exact h
 | c::r,pre,op,ws,hf,h,ho=>by
  have hf':f=(pre ++ [c])++r:=by rw [hf];simp
  have hl:pre.length+1=(pre ++ [c]).length:=by simp
  have hc : [c] <+: f.drop pre.length:=by rw [hf,List.drop_left];exact ⟨r,rfl⟩
  rw [Lx.qtt,hl]
  split
  ·exact qgs f r _ false _ hf' (h.snoc hc) (fun e=>by cases e)
  ·split
   ·exact qgs f r _ false _ hf' h (fun e=>by cases e)
   ·split
    ·rename_i h3
     obtain ⟨ws0,p,rfl,hp⟩:=ho h3
     rw [Lx.q8u]
     have e1:pre.drop p ++ [c]=(pre ++ [c]).drop p:=by rw [List.drop_append_of_le_length hp]
     rw [e1]
     have hp2:p≤(pre ++ [c]).length:=by rw [List.length_append];omega
     have hd:(pre ++ [c]).drop p <+: f.drop p:=by
      rw [hf',List.drop_append_of_le_length hp2]
      exact List.prefix_append _ _
     exact qgs f r _ true _ hf' (jw4.snoc (fun w hw=>h w (List.mem_append_left _ hw)) hd) (fun _=>⟨ws0,p,rfl,hp2⟩)
    ·refine qgs f r _ true _ hf' (h.snoc hc) (fun _=>⟨ws,pre.length,?_,by simp⟩)
     rw [List.drop_left]
theorem jhn (t:List UInt8):jw4 t (q11 t):=by
 unfold q11 Lx.j0e
 rw [Lx.qhr]
 have h:=qgs (t.take (Lx.ji1 t false)) (t.take (Lx.ji1 t false)) [] false [] rfl (fun w hw=>by cases hw) (fun e=>by cases e)
 intro w hw
 obtain ⟨p,h1,h2⟩:=h w hw
 exact ⟨p,h1,h2.trans (jc0 (List.take_prefix _ _) p)⟩
def AtL (s:List UInt8):Nat→List (List UInt8)→Prop
 | _,[]=>True
 | st,t::ts=>t <+: s.drop st∧AtL s (st+t.length+1) ts
theorem qxx (s tl:List UInt8) : ∀ (l pre cur:List UInt8),s=pre++(cur++(l++tl))→AtL s pre.length (spl 10 cur l)
 | [],pre,cur,h=>by
  rw [spl]
  exact ⟨by rw [h,List.drop_left];exact List.prefix_append _ _,trivial⟩
 | b::l,pre,cur,h=>by
  rw [spl]
  split
  ·refine ⟨by rw [h,List.drop_left];exact List.prefix_append _ _,?_⟩
   have:=qxx s tl l (pre++cur ++ [b]) [] (by rw [h];simp)
   simpa [Nat.add_assoc] using this
  ·exact qxx s tl l pre (cur ++ [b]) (by rw [h];simp)
theorem jod (s:List UInt8):AtL s 0 (Lx.q0p s):=by
 unfold Lx.q0p
 split
 ·trivial
 ·split
  ·rename_i h0 h1
   have:=qxx s [10] s.dropLast [] [] (by
    rcases List.eq_nil_or_concat s with rfl|⟨m,c,rfl⟩
    ·exact absurd rfl h0
    ·rw [List.concat_eq_append] at h1 ⊢
     rw [jj4] at h1
     rw [of_decide_eq_true h1];simp)
   exact this
  ·exact qxx s [] s [] [] (by simp)
def jxs (s:List UInt8) (σ:MS):Prop:=∀ p x,q0c clT (q8y,(p,v0)) σ.sd=some x→∃ (v:VD) (a:Nat),(p,v)∈σ.rq∧x=((a:Int),((a+(q0n v).length:Nat):Int))∧q0n v <+: s.drop a
theorem joy {s t:List UInt8} {st:Nat} {σ σ':MS} (h:jxs s σ) (ht:t <+: s.drop st) (e:qav σ (st:Int) (q11 t) = .inr σ'):jxs s σ':=by
 rcases qom e with hs|⟨b,rfl⟩
 ·obtain ⟨d1,d2,d3,d4,d5,d6,d7,d8,d9,d10⟩:=kd
  cases hs with
  | mo w hw h0 hc=>intro p x hx;exact h p x ((qqo (fun e=>d2.symm (congrArg Prod.fst e)) _ _).symm.trans hx)
  | go w hw h0 hc=>intro p x hx;exact h p x ((qqo (fun e=>d5.symm (congrArg Prod.fst e)) _ _).symm.trans hx)
  | ex y q hy hz h0 h1 hc=>intro p x hx;exact h p x ((qqo (fun e=>d8 (congrArg Prod.fst e)) _ _).symm.trans hx)
  | sw y q hy hz h0 h1 hc=>intro p x hx;exact h p x ((qqo (fun e=>d9 (congrArg Prod.fst e)) _ _).symm.trans hx)
  | rt y hz h0 h1 hc=>exact h
  | rq y q hy hz h0 h1 hc =>
   intro p x hx
   replace hx:q0c clT (q8y,(p,v0)) (q3v clT (q8y,(q.1,v0)) (ps st y) σ.sd)=some x:=hx
   rw [qd0] at hx
   cases hk:eqT clT (q8y,(p,v0)) (q8y,(q.1,v0)) with
   | true =>
    rw [hk,cond_true] at hx
    have hp:p=q.1:=by
     have:=(qqm (q8y,(p,v0)) (q8y,(q.1,v0))).1 hk
     simpa using this
    obtain ⟨b,hb1,hb2⟩:=jhn t y hy
    refine ⟨q.2,st+b,by rw [hp];exact List.mem_append_right _ (List.mem_singleton.2 rfl),?_,?_⟩
    ·rw [← Option.some.inj hx,ps,hb1,h1]
     refine Prod.ext ?_ ?_<;>simp only<;>omega
    ·rw [h1,← List.drop_drop]
     exact hb2.trans (jc0 ht b)
   | false =>
    rw [hk,cond_false] at hx
    obtain ⟨v,a,h2,h3,h4⟩:=h p x hx
    exact ⟨v,a,List.mem_append_left _ h2,h3,h4⟩
 ·exact h
theorem jd5 (s:List UInt8) : ∀ (ls:List (List UInt8)) (i:Int) (st:Nat) (σ σ':MS),jxs s σ→AtL s st ls→q5t ls i (st:Int) σ = .inr σ'→jxs s σ'
 | [],i,st,σ,σ',h,_,e=>by cases e;exact h
 | t::ts,i,st,σ,σ',h,ha,e=>by
  rw [q5t] at e
  split at e
  ·cases e
  ·rename_i σ1 h1
   refine jd5 s ts (i+1) (st+t.length+1) σ1 σ' (joy h ha.1 h1) ha.2 ?_
   rw [show ((st+t.length+1:Nat):Int)=(st:Int)+((t.length:Nat):Int)+1 by omega]
   exact e
def cst (L:List (List (List UInt8))):Nat:=((L.map lnS).flatten).length
theorem qad (a b:List (List (List UInt8))):cst (a++b)=cst a+cst b:=by simp [cst]
theorem q5a (x:List (List UInt8)) (L:List (List (List UInt8))):cst (x::L)=(lnS x).length+cst L:=by simp [cst]
theorem qb6:cst []=0:=rfl
def goL (g:List UInt8):List (List (List UInt8)):=if g = [] then [] else [[kGo,g]]
theorem j8u (m:MD):(qdy m).length=cst [[qaw,m.1]]+(cst (goL m.2.1)+(cst (m.2.2.1.map rqL)+(cst (m.2.2.2.1.map swL)+(cst (m.2.2.2.2.1.map exL)+cst (m.2.2.2.2.2.map rtL))))):=by
 rw [← qad,← qad,← qad,← qad,← qad];rfl
theorem ln2 (a b:List UInt8):(lnS [a,b]).length=a.length+b.length+2:=by
 unfold lnS;rw [Lib.join_cons];simp [Lib.joinTail];omega
theorem ln3 (a b c:List UInt8):(lnS [a,b,c]).length=a.length+b.length+c.length+3:=by
 unfold lnS;rw [Lib.join_cons];simp [Lib.joinTail];omega
theorem ln4 (a b c d:List UInt8):(lnS [a,b,c,d]).length=a.length+b.length+c.length+d.length+4:=by
 unfold lnS;rw [Lib.join_cons];simp [Lib.joinTail];omega
theorem jjm (g:List UInt8):cst (goL g)≤g.length+4:=by
 obtain ⟨k1,k2,k3,k4,k5,k6⟩:=kml
 unfold goL
 split
 ·exact Nat.zero_le _
 ·rw [q5a,qb6,ln2];omega
theorem jqe {σ σ':MS} {st:Int} {ws:List Lx.Wd} (h:Step σ st ws σ'):(qdy σ'.md).length≤(qdy σ.md).length+20+q8g ws:=by
 obtain ⟨k1,k2,k3,k4,k5,k6⟩:=kml
 rw [j8u,j8u]
 cases h with
 | mo w hw h hc =>
  have:=qmt hw
  simp only [MS.md,q5a,qb6,ln2]
  omega
 | go w hw h hc =>
  have:=qmt hw
  have:=jjm w.1
  simp only [MS.md,q5a,qb6,ln2]
  omega
 | rq x q hx hz h ht hc =>
  simp only [MS.md,List.map_append,List.map_cons,List.map_nil,qad,q5a,qb6,rqL,ln3,ht,List.length_cons,List.length_nil]
  omega
 | ex x q hx hz h ht hc =>
  simp only [MS.md,List.map_append,List.map_cons,List.map_nil,qad,q5a,qb6,exL,ln3,ht,List.length_cons,List.length_nil]
  omega
 | sw x q hx hz h h2 hc =>
  simp only [MS.md,List.map_append,List.map_cons,List.map_nil,qad,q5a,qb6,swL,ln4,List.length_cons,List.length_nil]
  omega
 | rt x hz h h2 hc =>
  simp only [MS.md,List.map_append,List.map_cons,List.map_nil,qad,q5a,qb6,rtL,ln2,List.length_cons,List.length_nil]
  omega
theorem qnn : ∀ a b:List Lx.Wd,q8g (a++b)=q8g a+q8g b
 | [],b=>by simp [q8g]
 | w::a,b=>by rw [List.cons_append,q8g,q8g,qnn a b];omega
theorem jnv (ws:List Lx.Wd) (c:UInt8):q8g (Lx.addL ws c)≤q8g ws+1:=by
 rcases List.eq_nil_or_concat ws with rfl|⟨m,x,rfl⟩
 ·exact Nat.zero_le _
 ·obtain ⟨u,p⟩:=x
  rw [List.concat_eq_append,Lx.q8u,qnn,qnn]
  simp [q8g];omega
theorem qfp : ∀ (l:List UInt8) (i:Nat) (op:Bool) (ws:List Lx.Wd),q8g (Lx.qtt l i op ws)≤q8g ws+l.length
 | [],i,op,ws=>by rw [Lx.qtt];omega
 | c::r,i,op,ws=>by
  have h1:q8g (ws ++ [([c],(i:Int))])=q8g ws+1:=by rw [qnn];simp [q8g]
  have h2:=jnv ws c
  rw [Lx.qtt,List.length_cons]
  split
  ·have:=qfp r (i+1) false (ws ++ [([c],(i:Int))]);omega
  ·split
   ·have:=qfp r (i+1) false ws;omega
   ·split
    ·have:=qfp r (i+1) true (Lx.addL ws c);omega
    ·have:=qfp r (i+1) true (ws ++ [([c],(i:Int))]);omega
theorem jlo (t:List UInt8):q8g (q11 t)≤t.length:=by
 unfold q11 Lx.j0e
 rw [Lx.qhr]
 have:=qfp (t.take (Lx.ji1 t false)) 0 false []
 rw [List.length_take,q8g] at this
 exact Nat.le_trans this (by omega)
theorem jd9 : ∀ (ls:List (List UInt8)) (i st:Int) (σ σ':MS),q5t ls i st σ = .inr σ'→(qdy σ'.md).length≤(qdy σ.md).length+20*ls.length+tot ls
 | [],i,st,σ,σ',e=>by cases e;omega
 | t::ts,i,st,σ,σ',e=>by
  rw [q5t] at e
  split at e
  ·cases e
  ·rename_i σ1 h1
   have ih:=jd9 ts _ _ σ1 σ' e
   have h2:(qdy σ1.md).length≤(qdy σ.md).length+20+t.length:=by
    have hw:=jlo t
    rcases qom h1 with hs|⟨b,rfl⟩
    ·have:=jqe hs;omega
    ·show (qdy σ.md).length≤_;omega
   rw [tot,List.length_cons]
   omega
def swT (q:Sw):List UInt8:=Lib.join (swL q) [32]
def exT (q:Rq):List UInt8:=Lib.join (exL q) [32]
def rtT (x:Sp):List UInt8:=Lib.join (rtL x) [32]
def Rp (L:List (List UInt8)) (τ:MS) (m:MD):Prop:=∀ (i st:Int) (more:List (List UInt8)),∃ i' st' τ',q5t (L++more) i st τ=q5t more i' st' τ'∧GoodM τ'∧τ'.bk = []∧τ'.md=m
theorem Rp.step {t:List UInt8} {L:List (List UInt8)} {τ:MS} {m:MD} (h : ∀ st,∃ τ1,qav τ st (q11 t) = .inr τ1∧Rp L τ1 m):Rp (t::L) τ m:=fun i st more=>by
 obtain ⟨τ1,h1,h2⟩:=h st
 rw [List.cons_append,q5t,h1]
 exact h2 _ _ more
theorem qqy {β:Type} {a b:List β} {x:β} (h:(a++x::b).Nodup):x ∉ a∧(a ++ [x]++b).Nodup:=by
 refine ⟨fun hx=>?_,by simpa using h⟩
 rw [List.nodup_append] at h
 exact h.2.2 x hx x (List.mem_cons_self ..) rfl
theorem qno {σ:MS} {c:Cl} {P:Prop} (h:q0x σ c=true↔P) (hp : ¬ P):q0x σ c=false:=by
 cases hc:q0x σ c with
 | false=>rfl
 | true=>exact absurd (h.1 hc) hp
theorem jyc : ∀ (l:List Rq) (τ:MS),GoodM τ→τ.bk = []→(∀ q∈l,q8l q.1 q.2=true)→((τ.rq++l).map Prod.fst).Nodup→Rp (l.map jun) τ (τ.mo,(τ.go,(τ.rq++l,(τ.sw,(τ.ex,τ.rt)))))
 | [],τ,g,hb,_,_=>fun i st more=>⟨i,st,τ,rfl,g,hb,by simp [MS.md]⟩
 | q::l,τ,g,hb,hf,hn=>by
  have hq:=hf q (List.mem_cons_self ..)
  rw [List.map_append,List.map_cons] at hn
  obtain ⟨n1,n2⟩:=qqy hn
  rw [List.map_cons]
  refine Rp.step fun st=>?_
  obtain ⟨ws,t1,e1⟩:=qdg (σ:=τ) (st:=st) (jgy hq) hb (by rw [jne hq];decide)
  obtain ⟨x,_,e2⟩:=jrg (σ:=τ) (st:=st) t1 hq
  have e3:=e1.trans (e2.trans (qfh (qno (g.rk q.1) n1)))
  refine ⟨_,e3,?_⟩
  have ih:=jyc l _ (q69 g e3) hb (fun y hy=>hf y (List.mem_cons_of_mem _ hy)) (by show ((τ.rq ++ [(q.1,q.2)]++l).map Prod.fst).Nodup;simpa using n2)
  simpa using ih
theorem joj {q:Sw} (h:okS q.1=true∧q4w q.2=true):tx (q11 (swT q)) = [qfn,q.1,[61,62],q.2]:=q67 _ (fun w hw=>by
 simp only [swL,List.mem_cons,List.not_mem_nil,or_false] at hw
 rcases hw with rfl|rfl|rfl|rfl
 ·exact j4n
 ·exact qhd h.1
 ·exact j58
 ·exact qdh h.2)
theorem jpo {q:Rq} (h:q8l q.1 q.2=true):tx (q11 (exT q)) = [qgb,q.1,q0n q.2]:=q67 _ (fun w hw=>by
 simp only [exL,List.mem_cons,List.not_mem_nil,or_false] at hw
 rcases hw with rfl|rfl|rfl
 ·exact j1d
 ·exact (qky h).1
 ·exact (qky h).2)
theorem jqc {x:Sp} (h:q10 (qfz x)=true) (h2:q10 (q4v x)=true):tx (q11 (rtT x))=qvt::(if qfz x=q4v x then [q0n (qfz x)] else [[91],q0n (qfz x),[44],q0n (q4v x),[93]]):=by
 unfold rtT rtL qu3
 split
 ·exact q67 _ (fun w hw=>by
   simp only [List.mem_cons,List.not_mem_nil,or_false] at hw
   rcases hw with rfl|rfl
   ·exact qpe
   ·exact q5z h)
 ·exact jak (q5z h) (q5z h2)
theorem jxn : ∀ (l:List Sw) (τ:MS),GoodM τ→τ.bk = []→(∀ q∈l,okS q.1=true∧q4w q.2=true)→((τ.sw++l).map Prod.fst).Nodup→Rp (l.map swT) τ (τ.mo,(τ.go,(τ.rq,(τ.sw++l,(τ.ex,τ.rt)))))
 | [],τ,g,hb,_,_=>fun i st more=>⟨i,st,τ,rfl,g,hb,by simp [MS.md]⟩
 | q::l,τ,g,hb,hf,hn=>by
  have hq:=hf q (List.mem_cons_self ..)
  rw [List.map_append,List.map_cons] at hn
  obtain ⟨n1,n2⟩:=qqy hn
  rw [List.map_cons]
  refine Rp.step fun st=>?_
  have k1:=(qax hq.1).2
  have k2:=(qq3 hq.2).2
  obtain ⟨ws,t1,e1⟩:=qdg (σ:=τ) (st:=st) (joj hq) hb (by
   rw [show ([q.1,[61,62],q.2].map fun t=>if qfa t then t else [120]) = [[120],[61,62],[120]] by simp [k1,k2,show qfa [61,62]=true from by decide]];decide)
  obtain ⟨x,_,e2⟩:=jol (σ:=τ) (st:=st) t1 hq.1 hq.2
  have e3:=e1.trans (e2.trans (qfh (qno (g.sk q.1) n1)))
  refine ⟨_,e3,?_⟩
  have ih:=jxn l _ (q69 g e3) hb (fun y hy=>hf y (List.mem_cons_of_mem _ hy)) (by show ((τ.sw ++ [(q.1,q.2)]++l).map Prod.fst).Nodup;simpa using n2)
  simpa using ih
theorem jzi : ∀ (l:List Rq) (τ:MS),GoodM τ→τ.bk = []→(∀ q∈l,q8l q.1 q.2=true)→(τ.ex++l).Nodup→Rp (l.map exT) τ (τ.mo,(τ.go,(τ.rq,(τ.sw,(τ.ex++l,τ.rt)))))
 | [],τ,g,hb,_,_=>fun i st more=>⟨i,st,τ,rfl,g,hb,by simp [MS.md]⟩
 | q::l,τ,g,hb,hf,hn=>by
  have hq:=hf q (List.mem_cons_self ..)
  obtain ⟨n1,n2⟩:=qqy hn
  rw [List.map_cons]
  refine Rp.step fun st=>?_
  obtain ⟨ws,t1,e1⟩:=qdg (σ:=τ) (st:=st) (jpo hq) hb (by rw [jne hq];decide)
  obtain ⟨x,_,e2⟩:=jpl (σ:=τ) (st:=st) t1 hq
  have e3:=e1.trans (e2.trans (qfh (qno (g.ek q) n1)))
  refine ⟨_,e3,?_⟩
  have ih:=jzi l _ (q69 g e3) hb (fun y hy=>hf y (List.mem_cons_of_mem _ hy)) (by show (τ.ex ++ [(q.1,q.2)]++l).Nodup;simpa using n2)
  simpa using ih
theorem jze : ∀ (l:List Sp) (τ:MS),GoodM τ→τ.bk = []→(∀ x∈l,q10 (qfz x)=true∧q10 (q4v x)=true∧jo7 (qfz x) (q4v x)≤0)→Rp (l.map rtT) τ (τ.mo,(τ.go,(τ.rq,(τ.sw,(τ.ex,τ.rt++l)))))
 | [],τ,g,hb,_=>fun i st more=>⟨i,st,τ,rfl,g,hb,by simp [MS.md]⟩
 | x::l,τ,g,hb,hf=>by
  obtain ⟨c1,c2,c3⟩:=hf x (List.mem_cons_self ..)
  rw [List.map_cons]
  refine Rp.step fun st=>?_
  have k1:=(q3z c1).2
  have k2:=(q3z c2).2
  obtain ⟨ws,t1,e1⟩:=qdg (σ:=τ) (st:=st) (jqc c1 c2) hb (by
   split
   ·rw [show ([q0n (qfz x)].map fun t=>if qfa t then t else [120]) = [[120]] by simp [k1]];decide
   ·rw [show ([[91],q0n (qfz x),[44],q0n (q4v x),[93]].map fun t=>if qfa t then t else [120]) = [[91],[120],[44],[120],[93]] by simp [k1,k2,show qfa [91]=true from by decide,show qfa [44]=true from by decide,show qfa [93]=true from by decide]];decide)
  have e3:=e1.trans (jrm (σ:=τ) (st:=st) t1 c1 c2 c3)
  rw [jxb] at e3
  refine ⟨_,e3,?_⟩
  have ih:=jze l _ (q69 g e3) hb (fun y hy=>hf y (List.mem_cons_of_mem _ hy))
  simpa using ih
end Go.Proofs.YtapfankgdkdkgaaGreatDoor.AM
namespace Go.Proofs.YtapfankgdkdkgaaGreatDoor.AM
open Go.RowKit
set_option linter.unusedVariables false
set_option linter.unusedSimpArgs false
set_option synthInstance.maxSize 100000
set_option synthInstance.maxHeartbeats 0
theorem Rp.app {L L':List (List UInt8)} {τ:MS} {m m':MD} (h:Rp L τ m) (h2 : ∀ τ',GoodM τ'→τ'.bk = []→τ'.md=m→Rp L' τ' m'):Rp (L++L') τ m':=fun i st more=>by
 obtain ⟨i1,s1,τ1,e1,g1,b1,m1⟩:=h i st (L'++more)
 obtain ⟨i2,s2,τ2,e2,g2,b2,m2⟩:=h2 τ1 g1 b1 m1 i1 s1 more
 exact ⟨i2,s2,τ2,by rw [List.append_assoc,e1,e2],g2,b2,m2⟩
theorem jm2 {τ:MS} {a b:List UInt8} {r:List Rq} {w:List Sw} {e:List Rq} {t:List Sp} (h:τ.md=(a,(b,(r,(w,(e,t)))))):τ.mo=a∧τ.go=b∧τ.rq=r∧τ.sw=w∧τ.ex=e∧τ.rt=t:=by
 simpa [MS.md] using h
def j7k (m:MD):List (List UInt8):=(jsk m).map fun L=>Lib.join L [32]
theorem jtw (m:MD):qdy m=nlT (j7k m):=by
 unfold qdy nlT j7k
 rw [List.map_map]
 rfl
theorem jmw (m:MD):jsk m = [[qaw,m.1]]++(goL m.2.1++(m.2.2.1.map rqL++(m.2.2.2.1.map swL++(m.2.2.2.2.1.map exL++m.2.2.2.2.2.map rtL)))):=rfl
theorem jxa (σ:MS) (g:GoodM σ) (hm:σ.mo ≠ []):Rp (j7k σ.md) ms0 σ.md:=by
 have hok:okS σ.mo=true:=g.mo.resolve_left hm
 have e:j7k σ.md = [Lib.join [qaw,σ.mo] [32]]++((goL σ.go).map (fun L=>Lib.join L [32])++(σ.rq.map jun++(σ.sw.map swT++(σ.ex.map exT++σ.rt.map rtT)))):=by
  unfold j7k
  rw [jmw]
  simp only [List.map_append,List.map_map]
  rfl
 rw [e]
 have hmod:Rp [Lib.join [qaw,σ.mo] [32]] ms0 (σ.mo,([],([],([],([],[]))))):=by
  refine Rp.step fun st=>?_
  have hw:tx (q11 (Lib.join [qaw,σ.mo] [32])) = [qaw,σ.mo]:=q67 _ (fun w hw=>by
   simp only [List.mem_cons,List.not_mem_nil,or_false] at hw
   rcases hw with rfl|rfl
   ·exact j5p
   ·exact qhd hok)
  obtain ⟨ws,t1,e1⟩:=qdg (σ:=ms0) (st:=st) hw rfl (by simp [(qax hok).2,Lib.join_one])
  obtain ⟨x,_,e2⟩:=jpu (σ:=ms0) (st:=st) t1 hok
  have e3:=e1.trans (e2.trans (qfh rfl))
  exact ⟨_,e3,fun i st more=>⟨i,st,_,rfl,q69 jxi e3,rfl,rfl⟩⟩
 refine hmod.app fun τ g1 b1 m1=>?_
 obtain ⟨a1,a2,a3,a4,a5,a6⟩:=jm2 m1
 have hgo:Rp ((goL σ.go).map fun L=>Lib.join L [32]) τ (σ.mo,(σ.go,([],([],([],[]))))):=by
  by_cases h:σ.go = []
  ·rw [h,show goL [] = [] from rfl,← m1]
   exact fun i st more=>⟨i,st,τ,rfl,g1,b1,rfl⟩
  ·rw [show goL σ.go = [[kGo,σ.go]] from if_neg h]
   have hl:qdu σ.go=true:=g.go.resolve_left h
   refine Rp.step fun st=>?_
   have hw:tx (q11 (Lib.join [kGo,σ.go] [32])) = [kGo,σ.go]:=q67 _ (fun w hw=>by
    simp only [List.mem_cons,List.not_mem_nil,or_false] at hw
    rcases hw with rfl|rfl
    ·exact je0
    ·exact qde hl)
   obtain ⟨ws,t1,e1⟩:=qdg (σ:=τ) (st:=st) hw b1 (by simp [(j4l hl).2,Lib.join_one])
   obtain ⟨x,_,e2⟩:=jud (σ:=τ) (st:=st) t1 hl
   have e3:=e1.trans (e2.trans (qfh (qno g1.gk (by rw [a2];simp))))
   exact ⟨_,e3,fun i st more=>⟨i,st,_,rfl,q69 g1 e3,b1,by simp [MS.md,a1,a3,a4,a5,a6]⟩⟩
 refine hgo.app fun τ g1 b1 m1=>?_
 obtain ⟨a1,a2,a3,a4,a5,a6⟩:=jm2 m1
 have h1:=jyc σ.rq τ g1 b1 g.rq (by rw [a3,List.nil_append];exact g.rn)
 rw [a1,a2,a3,a4,a5,a6,List.nil_append] at h1
 refine h1.app fun τ g1 b1 m1=>?_
 obtain ⟨a1,a2,a3,a4,a5,a6⟩:=jm2 m1
 have h1:=jxn σ.sw τ g1 b1 g.sw (by rw [a4,List.nil_append];exact g.sn)
 rw [a1,a2,a3,a4,a5,a6,List.nil_append] at h1
 refine h1.app fun τ g1 b1 m1=>?_
 obtain ⟨a1,a2,a3,a4,a5,a6⟩:=jm2 m1
 have h1:=jzi σ.ex τ g1 b1 g.ex (by rw [a5,List.nil_append];exact g.en)
 rw [a1,a2,a3,a4,a5,a6,List.nil_append] at h1
 refine h1.app fun τ g1 b1 m1=>?_
 obtain ⟨a1,a2,a3,a4,a5,a6⟩:=jm2 m1
 have h1:=jze σ.rt τ g1 b1 g.rt
 rw [a1,a2,a3,a4,a5,a6,List.nil_append] at h1
 exact h1
theorem jr9 {x:Sp} (h:q10 (qfz x)=true) (h2:q10 (q4v x)=true) : ∀ c∈qu3 x,Lx.okc c=true:=by
 have p1:=q16 (q5z h)
 have p2:=q16 (q5z h2)
 unfold qu3
 split
 ·exact p1
 ·intro c hc
  simp only [List.mem_cons,List.mem_append,List.not_mem_nil,or_false] at hc
  rcases hc with rfl|hc|rfl|rfl|hc|rfl
  ·decide
  ·exact p1 c hc
  ·decide
  ·decide
  ·exact p2 c hc
  ·decide
theorem jny (σ:MS) (g:GoodM σ) : ∀ t∈j7k σ.md,∀ c∈t,Lx.okc c=true:=by
 intro t ht
 obtain ⟨L,hL,rfl⟩:=List.mem_map.1 ht
 refine jq4 L fun w hw=>?_
 rw [jmw] at hL
 simp only [List.mem_append,MS.md] at hL
 have nil_ok : ∀ c∈([]:List UInt8),Lx.okc c=true:=fun c hc=>by cases hc
 rcases hL with hL|hL|hL|hL|hL|hL
 ·rw [List.mem_singleton.1 hL] at hw
  simp only [List.mem_cons,List.not_mem_nil,or_false] at hw
  rcases hw with rfl|rfl
  ·exact q16 j5p
  ·rcases g.mo with h|h
   ·rw [h];exact nil_ok
   ·exact q16 (qhd h)
 ·unfold goL at hL
  split at hL
  ·cases hL
  ·rw [List.mem_singleton.1 hL] at hw
   simp only [List.mem_cons,List.not_mem_nil,or_false] at hw
   rcases hw with rfl|rfl
   ·exact q16 je0
   ·rcases g.go with h|h
    ·rw [h];exact nil_ok
    ·exact q16 (qde h)
 ·obtain ⟨q,hq,rfl⟩:=List.mem_map.1 hL
  simp only [rqL,List.mem_cons,List.not_mem_nil,or_false] at hw
  rcases hw with rfl|rfl|rfl
  ·exact q16 j17
  ·exact q16 (qky (g.rq q hq)).1
  ·exact q16 (qky (g.rq q hq)).2
 ·obtain ⟨q,hq,rfl⟩:=List.mem_map.1 hL
  simp only [swL,List.mem_cons,List.not_mem_nil,or_false] at hw
  rcases hw with rfl|rfl|rfl|rfl
  ·exact q16 j4n
  ·exact q16 (qhd (g.sw q hq).1)
  ·exact q16 j58
  ·exact q16 (qdh (g.sw q hq).2)
 ·obtain ⟨q,hq,rfl⟩:=List.mem_map.1 hL
  simp only [exL,List.mem_cons,List.not_mem_nil,or_false] at hw
  rcases hw with rfl|rfl|rfl
  ·exact q16 j1d
  ·exact q16 (qky (g.ex q hq)).1
  ·exact q16 (qky (g.ex q hq)).2
 ·obtain ⟨x,hx,rfl⟩:=List.mem_map.1 hL
  simp only [rtL,List.mem_cons,List.not_mem_nil,or_false] at hw
  rcases hw with rfl|rfl
  ·exact q16 qpe
  ·exact jr9 (g.rt x hx).1 (g.rt x hx).2.1
theorem jia {s:List UInt8} {σ:MS} (h:IsM s σ) : ∃ τ,IsM (qdy σ.md) τ∧τ.md=σ.md:=by
 have g:=h.good
 have hL:Lx.q0p (qdy σ.md)=j7k σ.md:=by rw [jtw];exact jrp _ (jny σ g)
 obtain ⟨i,st,τ,e,g',b,m⟩:=jxa σ g h.mo 0 0 []
 rw [List.append_nil] at e
 exact ⟨τ,⟨by rw [hL];exact jny σ g,by rw [hL,e];rfl,b,by rw [show τ.mo=σ.mo from congrArg (fun m:MD=>m.1) m];exact h.mo⟩,m⟩
theorem qfl {p:List UInt8} (h:q4w p=true):p.length≤60:=(qiq h).1
theorem jut {σ:MS} (g:GoodM σ):WM σ.md:=by
 refine ⟨⟨?_,?_⟩,fun q hq=>?_,fun q hq=>?_,fun q hq=>?_⟩
 ·show σ.mo.length≤1000
  rcases g.mo with h|h
  ·rw [h];simp
  ·have:=qfl (qka h).1;omega
 ·show σ.go.length≤1000
  rcases g.go with h|h
  ·rw [h];simp
  ·have:=jrz h;omega
 ·have:=qfl (qka (q53 (g.rq q hq)).1).1;omega
 ·have h:=g.sw q hq
  have:=qfl (qka h.1).1
  have:=qfl h.2
  omega
 ·have:=qfl (qka (q53 (g.ex q hq)).1).1;omega
theorem jp4 {s:List UInt8} {σ:MS} (h:IsM s σ):(qdy σ.md).length≤8+21*(s.length+1):=by
 obtain ⟨l1,l2⟩:=Lx.qag s
 have l3:=j23 s
 have:=jd9 _ _ _ _ _ h.rd
 rw [show (qdy ms0.md).length=8 from by decide] at this
 omega
theorem qsj {β:Type} (f:β→List (List UInt8)) (k:Nat) : ∀ l:List β,(∀ x∈l,(lnS (f x)).length≤k)→cst (l.map f)≤l.length*k
 | [],_=>Nat.zero_le _
 | x::l,h=>by
  have ih:=qsj f k l (fun y hy=>h y (List.mem_cons_of_mem _ hy))
  have:=h x (List.mem_cons_self ..)
  rw [List.map_cons,q5a,List.length_cons,Nat.succ_mul]
  omega
theorem j6s {m:MD} (h:j5n m=true):ML 30 m∧WM m∧(qdy m).length≤100000:=by
 obtain ⟨k1,k2,k3,k4,k5,k6⟩:=kml
 unfold j5n at h
 simp only [Bool.and_eq_true,decide_eq_true_eq] at h
 obtain ⟨h0,h1,h2,h3,h4,f1,f2,f3,f4⟩:=h
 have q1 : ∀ q∈m.2.2.1,q.1.length≤200:=fun q hq=>by
  have:=List.all_eq_true.1 f1 q hq
  unfold j0f at this
  simp only [Bool.and_eq_true,decide_eq_true_eq] at this
  exact this.1
 have q2 : ∀ q∈m.2.2.2.2.1,q.1.length≤200:=fun q hq=>by
  have:=List.all_eq_true.1 f2 q hq
  unfold j0f at this
  simp only [Bool.and_eq_true,decide_eq_true_eq] at this
  exact this.1
 have q3 : ∀ q∈m.2.2.2.1,q.1.length+q.2.length≤400:=fun q hq=>by
  have:=List.all_eq_true.1 f3 q hq
  unfold smW at this
  exact of_decide_eq_true this
 refine ⟨⟨h1,h2,h3,h4⟩,⟨⟨by omega,by omega⟩,fun q hq=>by have:=q1 q hq;omega,fun q hq=>by have:=q3 q hq;omega,fun q hq=>by have:=q2 q hq;omega⟩,?_⟩
 have c1:=qsj rqL 310 m.2.2.1 (fun q hq=>by have:=q1 q hq;have:=q7f q.2;unfold rqL;rw [ln3];omega)
 have c2:=qsj swL 420 m.2.2.2.1 (fun q hq=>by
  have:=q3 q hq
  unfold swL;rw [ln4]
  have:([61,62]:List UInt8).length=2:=rfl
  omega)
 have c3:=qsj exL 310 m.2.2.2.2.1 (fun q hq=>by have:=q2 q hq;have:=q7f q.2;unfold exL;rw [ln3];omega)
 have c4:=qsj rtL 210 m.2.2.2.2.2 (fun x hx=>by have:=j4i x;unfold rtL;rw [ln2];omega)
 have d1:=Nat.mul_le_mul_right 310 h1
 have d2:=Nat.mul_le_mul_right 420 h2
 have d3:=Nat.mul_le_mul_right 310 h3
 have d4:=Nat.mul_le_mul_right 210 h4
 have c5:=jjm m.2.1
 rw [j8u,q5a,qb6,ln2]
 omega
theorem j4f : ∀ {l:List Rq} {p:List UInt8} {v v':VD},(l.map Prod.fst).Nodup→(p,v)∈l→(p,v')∈l→v=v'
 | a::l,p,v,v',hn,h1,h2=>by
  rw [List.map_cons,List.nodup_cons] at hn
  rcases List.mem_cons.1 h1 with e1|h1
  ·rcases List.mem_cons.1 h2 with e2|h2
   ·rw [← e1] at e2;exact (Prod.mk.inj e2).2.symm
   ·exact absurd (List.mem_map.2 ⟨_,h2,by rw [← e1]⟩) hn.1
  ·rcases List.mem_cons.1 h2 with e2|h2
   ·exact absurd (List.mem_map.2 ⟨_,h1,by rw [← e2]⟩) hn.1
   ·exact j4f hn.2 h1 h2
theorem js0 {s:List UInt8} {σ:MS} (h:IsM s σ) {q:Rq} (hq:q∈σ.rq) : ∃ a:Nat,j1c s q.1=((a:Int),(((a+(q0n q.2).length:Nat):Int),true))∧a+(q0n q.2).length≤s.length∧(s.drop a).take (q0n q.2).length=q0n q.2:=by
 have g:=h.good
 have hp:jxs s σ:=jd5 s _ 0 0 ms0 σ (fun p x hx=>by cases hx) (jod s) h.rd
 have hc:q0x σ (q8y,(q.1,v0))=true:=(g.rk q.1).2 (List.mem_map.2 ⟨q,hq,rfl⟩)
 unfold q0x at hc
 obtain ⟨x,hx⟩:=Option.isSome_iff_exists.1 hc
 obtain ⟨v,a,h1,h2,h3⟩:=hp q.1 x hx
 have hv:v=q.2:=j4f g.rn h1 hq
 subst hv
 refine ⟨a,?_,?_,?_⟩
 ·unfold j1c
  rw [jms h]
  show (match q0c clT (q8y,(q.1,v0)) σ.sd with
  | some x=>(x.1,(x.2,true))
  | none=>(0,(0,false)))=_
  rw [hx,h2]
 ·have hl:=h3.length_le
  have hne:=(q3z (q53 (g.rq q hq)).2).1.1
  have hpos:0<(q0n q.2).length:=List.length_pos_iff.2 hne
  rw [List.length_drop] at hl
  omega
 ·exact (List.prefix_iff_eq_take.1 h3).symm
theorem qge (n:Nat) (hn:1000000<n) (s:List UInt8) (hs:s.length≤100000) (mo go:List UInt8) (rq:List Rq) (sw:List Sw) (ex:List Rq) (rt:List Sp) (hL:rq.length≤1000000) (hq : ∀ q∈rq,∃ a:Nat,j1c s q.1=((a:Int),(((a+(q0n q.2).length:Nat):Int),true))∧a+(q0n q.2).length≤s.length∧(s.drop a).take (q0n q.2).length=q0n q.2) : ∀ m j:Nat,j≤rq.length→rq.length - j<m →
  q25 n m s (j:Int) mo go rq sw ex rt=some (Sum.inr ((),((),())))
 | 0,j,_,h=>absurd h (Nat.not_lt_zero _)
 | m+1,j,hj,h=>by
  rw [qfx]
  unfold qkc
  by_cases c0:j<rq.length
  ·have c0':((j:Nat):Int)<((rq.length:Nat):Int):=by omega
   obtain ⟨a,e1,e2,e3⟩:=hq rq[j] (List.getElem_mem c0)
   have hsub:q2i s (a:Int) ((a+(q0n rq[j].2).length:Nat):Int)=some (q0n rq[j].2):=by
    rw [sub_le (by omega) e2,show a+(q0n rq[j].2).length - a=(q0n rq[j].2).length by omega,e3]
   have d1 : ¬ ((a:Nat):Int)<0:=by omega
   have d2 : ¬ ((s.length:Nat):Int)<((a+(q0n rq[j].2).length:Nat):Int):=by omega
   have d3 : ¬ ((a+(q0n rq[j].2).length:Nat):Int)<(a:Int):=by omega
   simp only [c0',decide_true,cond_true,q0o c0,Option.bind_some,j91 n s rq[j].1 hs (by omega),e1,Bool.not_true,cond_false,d1,d2,d3,decide_false,hsub,jeo n rq[j].2 (show 100≤n by omega),q08,q07 (show j<4611686018427387904 by omega)]
   exact qge n hn s hs mo go rq sw ex rt hL hq m (j+1) (by omega) (by omega)
  ·have c0' : ¬ ((j:Nat):Int)<((rq.length:Nat):Int):=by omega
   simp only [c0',decide_false,cond_false]
theorem jkt (n:Nat) (hn:9223372036854775807<n) (hl:q3w n=some true) (m:MD) (s:List UInt8) (h1:m.1.length≤140737488355328) (h2:m.2.1.length≤140737488355328) (hW : ∀ x∈m.2.2.2.1,x.1.length≤140737488355328∧x.2.length≤140737488355328):qhu n m s=some true:=by
 unfold qhu
 rw [qz1 n m h1 h2 hW (by omega),Option.bind_some]
 cases hsm:j5n m with
 | false=>simp only [Bool.not_false,cond_true,hl,Option.bind_some]
 | true =>
  have g1:=gtI s 4000
  rw [show ((4000:Nat):Int)=(4000:Int) from rfl] at g1
  simp only [Bool.not_true,cond_false,hl,Option.bind_some,g1]
  by_cases c1:s.length≤4000
  ·rw [decide_eq_true c1,Bool.not_true,cond_false]
   obtain ⟨f1,f2,f3⟩:=j6s hsm
   have fL:ML 1000000 m:=f1.mono (by omega)
   have htx:(qis m).1.length≤100000:=by
    unfold qis
    split
    ·split
     ·exact f3
     ·simp
    ·simp
   simp only [j86 n m fL (by omega),Option.bind_some,qv3 n m (f1.mono (by omega)) f2 f3 (by omega),q9z n (qis m).1 htx (by omega),q9z n s (show s.length≤100000 by omega) (by omega)]
   have hrest:(bif !decide ((q1r s).2.2=0) then some true else (qb9 n (q1r s).1).bind fun r11=>(q2u n r11.1).bind fun r12=>(bif !decide (r11.2=0) then some false else (bif !decide (r12.2.2=0) then some false else (q36 n (q1r s).1).bind fun r13=>(q36 n r12.1).bind fun r14=>(q6f n r13 r14).bind fun r15=>(bif !r15 then some false else (q25 n n s 0 (q1r s).1.1 (q1r s).1.2.1 (q1r s).1.2.2.1 (q1r s).1.2.2.2.1 (q1r s).1.2.2.2.2.1 (q1r s).1.2.2.2.2.2).bind fun o22=>Sum.elim (fun q23=>some q23.1.1) (fun q24=>some true) o22))))=some true:=by
    by_cases c5:(q1r s).2.2=0
    ·obtain ⟨σ,r1⟩:=jos c5
     have e0:q1r s=(σ.md,((((Lx.q0p s).length:Nat):Int),0)):=jcl r1
     have kL:ML 4001 σ.md:=by
      have:=(jc7 s).mono (show _≤4001 by omega)
      rw [e0] at this;exact this
     have kW:=jut r1.good
     have kS:(qdy σ.md).length≤100000:=by have:=jp4 r1;omega
     obtain ⟨τ,t1,t2⟩:=jia r1
     have e1:q1r (qdy σ.md)=(σ.md,((((Lx.q0p (qdy σ.md)).length:Nat):Int),0)):=by rw [jcl t1,t2]
     have e2:qis σ.md=(qdy σ.md,0):=by
      unfold qis
      rw [e1]
      simp
     have kM:ML 1000000 σ.md:=kL.mono (by omega)
     rw [e0]
     simp only [decide_true,Bool.not_true,cond_false,qv3 n σ.md (kL.mono (by omega)) kW kS (by omega),e2,Option.bind_some,q9z n (qdy σ.md) kS (by omega),e1,qlq n σ.md kM (by omega),qlf n σ.md σ.md kM (by omega)]
     have hlp:=qge n (by omega) s (by omega) σ.mo σ.go σ.rq σ.sw σ.ex σ.rt (by have:σ.rq.length≤4001:=kL.1;omega) (fun q hq=>js0 r1 hq) n 0 (Nat.zero_le _) (by have:σ.rq.length≤4001:=kL.1;omega)
     rw [zI] at hlp
     rw [show q25 n n s 0 σ.md.1 σ.md.2.1 σ.md.2.2.1 σ.md.2.2.2.1 σ.md.2.2.2.2.1 σ.md.2.2.2.2.2=_ from hlp]
     rfl
    ·rw [decide_eq_false c5];rfl
   by_cases c2:(qis m).2=0
   ·have hp:q1r (qis m).1=(m,(q1r (qis m).1).2)∧(q1r (qis m).1).2.2=0:=by
     unfold qis at c2 ⊢
     split at c2
     ·rename_i h3
      rw [if_pos h3]
      split at c2
      ·rename_i h4
       rw [if_pos h4]
       exact ⟨Prod.ext h4 rfl,h3⟩
      ·exact absurd c2 (by decide)
     ·rename_i h3
      exact absurd c2 h3
    have e9:(q1r (qis m).1).1=m:=congrArg Prod.fst hp.1
    rw [decide_eq_true c2,cond_true,decide_eq_true hp.2,Bool.not_true,cond_false,e9]
    simp only [qlq n m fL (by omega),Option.bind_some,qlf n m m fL (by omega),decide_true,Bool.not_true,cond_false]
    exact hrest
   ·rw [decide_eq_false c2,cond_false]
    exact hrest
  ·rw [decide_eq_false c1];rfl
end Go.Proofs.YtapfankgdkdkgaaGreatDoor.AM
namespace Go.Proofs.YtapfankgdkdkgaaGreatDoor.AM
open Go.RowKit
set_option maxRecDepth 100000
abbrev jba:Nat:=9223372036854775808
theorem jyn:q3w jba=some true:=by kernel_rfl
end Go.Proofs.YtapfankgdkdkgaaGreatDoor.AM
namespace Go.Proofs.YtapfankgdkdkgaaGreatDoor.AM
open Go.RowKit Go.ChangeShapes Go.WideShapes Go.ChangeAt
set_option linter.unusedVariables false
set_option linter.unusedSimpArgs false
mutual
def SmT (B:Nat):Sh→Dat→Prop
 | .str,.v x=>∀ s:ByteArray,x = .string s→s.size≤B
 | .lst e,.lst _ xs=>xs.length≤B∧∀ x∈xs,SmL B e x
 | _,_=>True
def SmL (B:Nat):List Sh→List Dat→Prop
 | s::ss,d::ds=>SmT B s d∧SmL B ss ds
 | _,_=>True
end
theorem SmL.cons {B:Nat} {s:Sh} {d:Dat} {ss:List Sh} {ds:List Dat} : SmL B (s::ss) (d::ds)↔SmT B s d∧SmL B ss ds:=by
 conv=>lhs;unfold SmL
theorem SmL.app {B:Nat} : ∀ {ss:List Sh} {ds:List Dat} {ss':List Sh} {ds':List Dat},ds.length=ss.length→(SmL B (ss++ss') (ds++ds')↔SmL B ss ds∧SmL B ss' ds')
 | [],[],_,_,_=>⟨fun h=>⟨by unfold SmL;trivial,h⟩,fun h=>h.2⟩
 | s::ss,d::ds,_,_,h=>by
  rw [List.cons_append,List.cons_append,SmL.cons,SmL.cons,SmL.app (by simpa using h)]
  exact and_assoc.symm
 | [],_::_,_,_,h=>by simp at h
 | _::_,[],_,_,h=>by simp at h
theorem jtt {H:Type} (d:DataW H):1≤Rows.uptoBulk d:=by
 cases d with
 | lit l=>cases l<;>simp [Rows.uptoBulk]
 | nil=>simp [Rows.uptoBulk]
 | ptr d=>simp [Rows.uptoBulk]
 | slice elems spare=>simp [Rows.uptoBulk]
 | agg parts=>simp [Rows.uptoBulk]
 | iface t d=>simp [Rows.uptoBulk]
 | map entries=>simp [Rows.uptoBulk]
 | held h=>simp [Rows.uptoBulk]
theorem qnf {H:Type} {d:DataW H} : ∀ {l:List (DataW H)},d∈l→Rows.uptoBulk d≤Rows.uptoBulkAll l
 | [],h=>by cases h
 | x::r,h=>by
  simp only [Rows.uptoBulkAll]
  rcases List.mem_cons.1 h with rfl|h
  ·omega
  ·have:=qnf h;omega
theorem qwh {H:Type} : ∀ (l:List (DataW H)),l.length≤Rows.uptoBulkAll l
 | []=>Nat.zero_le _
 | x::r=>by have:=jtt x;have:=qwh r;simp only [Rows.uptoBulkAll,List.length_cons];omega
variable {H:Type} {enc:TypeId×Value→H} {P:Program} {W:World} {Pc:Nat→Nat→Prop} {B:Nat}
def jt4 (enc:TypeId×Value→H) (P:Program) (W:World) (B:Nat) (Pc:Nat→Nat→Prop) (t:TypeId) (sh:List Sh):Prop :=
 ∀ (fuel:Nat) (cells:List Value) (x:DataW H×List MemPlace),DataW.trod enc P W 0 (fun _=>true) true fuel t cells=some x→Rows.uptoBulk x.1≤B →
  ∀ ds,q0f (DatRep Pc W) cells ds→q44 sh ds→SmL B sh ds
theorem jsj {f:TypeId→Option (List Sh)} {c:TypeId→Nat} : ∀ (fs:List Field) (acc sh:List Sh),q6s f c fs acc=some sh→∃ r,sh=acc++r
 | [],acc,sh,h=>by
  simp only [q6s,Option.some.injEq] at h
  exact ⟨[],by rw [List.append_nil];exact h.symm⟩
 | fd::fs,acc,sh,h=>by
  unfold q6s at h
  split at h
  case h_2=>cases h
  split at h
  case isFalse=>cases h
  obtain ⟨r,hr⟩:=jsj fs _ sh h
  exact ⟨_,by rw [hr,List.append_assoc]⟩
theorem q44.split2 {ss ss':List Sh} {ds:List Dat} (h:q44 (ss++ss') ds):q44 ss (ds.take ss.length)∧q44 ss' (ds.drop ss.length):=by
 obtain ⟨d1,d2,rfl,h1,h2⟩:=q44.split h
 have:=h1.len
 rw [← this,List.take_left,List.drop_left]
 exact ⟨h1,h2⟩
theorem qm5 {f:TypeId→Option (List Sh)} (hf : ∀ t s,f t=some s→jt4 enc P W B Pc t s) {cells:List Value} {ds:List Dat} {n:Nat} (h2:q0f (DatRep Pc W) cells ds) : ∀ (fs:List Field) (acc sh:List Sh),q6s f P.cellsOf fs acc=some sh→q44 sh ds →
  (∀ fd∈fs,∃ x,DataW.trod enc P W 0 (fun _=>true) true n fd.type ((cells.drop fd.offset).take (P.cellsOf fd.type))=some x∧Rows.uptoBulk x.1≤B)→SmL B acc (ds.take acc.length)→SmL B sh ds
 | [],acc,sh,h,ht,_,h3=>by
  simp only [q6s,Option.some.injEq] at h
  subst h
  rw [List.take_of_length_le (by rw [ht.len];exact Nat.le_refl _)] at h3
  exact h3
 | fd::fs,acc,sh,h,ht,hr,h3=>by
  unfold q6s at h
  split at h
  case h_2=>cases h
  rename_i s hs
  split at h
  case isFalse=>cases h
  rename_i hc
  obtain ⟨hc1,hc2⟩:=hc
  obtain ⟨x,hx,hxb⟩:=hr fd (List.mem_cons_self ..)
  obtain ⟨r,hr'⟩:=jsj _ _ _ h
  refine qm5 hf h2 fs (acc++s) sh h ht (fun fd' hfd=>hr fd' (List.mem_cons_of_mem _ hfd)) ?_
  rw [hr',List.append_assoc] at ht
  obtain ⟨t1,t2⟩:=ht.split2
  obtain ⟨t3,_⟩:=t2.split2
  rw [List.length_append,List.take_add]
  refine (SmL.app t1.len).2 ⟨h3,?_⟩
  refine hf _ _ hs _ _ _ hx hxb _ ?_ t3
  rw [hc1,← hc2]
  exact (h2.drop _).take _
theorem smalls : ∀ (n:Nat) (t:TypeId) (sh:List Sh),shapeOf P n t=some sh→jt4 enc P W B Pc t sh
 | 0,_,_,h=>by cases h
 | n+1,t,sh,h=>by
  intro fuel cells x hx hb ds h2 ht
  unfold shapeOf at h
  split at h
  ·simp only [Option.some.injEq] at h;subst h
   obtain ⟨d,rfl,_⟩:=q9r ht
   unfold SmL SmL SmT;exact ⟨trivial,trivial⟩
  ·simp only [Option.some.injEq] at h;subst h
   obtain ⟨d,rfl,_⟩:=q9r ht
   unfold SmL SmL SmT;exact ⟨trivial,trivial⟩
  ·rename_i hu
   simp only [Option.some.injEq] at h;subst h
   obtain ⟨s,rfl,rfl,hs⟩:=DataW.trod_string hu hx
   obtain ⟨d,rfl,_⟩:=q9r ht
   have h3:DatRep Pc W (.string s) d:=h2.1
   cases h3
   unfold SmL SmL SmT
   refine ⟨fun s' e=>?_,trivial⟩
   obtain rfl:s=s':=Value.string.inj e
   have hb':s.data.toList.length+1≤B:=by simpa [Rows.uptoBulk] using hb
   have:s.data.toList.length=s.size:=by rw [Array.length_toList];rfl
   omega
  ·rename_i e hu
   split at h
   case h_2=>cases h
   rename_i s hs
   split at h
   case isFalse=>cases h
   rename_i hc
   obtain ⟨hc1,hc2⟩:=hc
   simp only [Option.some.injEq] at h;subst h
   have ih:=smalls n e s hs
   obtain ⟨d,rfl,hd⟩:=q9r ht
   cases d with
   | v y=>exact hd.elim
   | lst sz xs =>
    obtain ⟨rfl,_,htx⟩:sz=s.length∧xs.length≤maxLen∧∀ x∈xs,q44 s x:=by unfold Typ at hd;exact hd
    unfold SmL SmL SmT
    refine ⟨?_,trivial⟩
    rcases Deep.open_slice hu hx with ⟨rfl,_⟩|⟨a,len,cap,m,n',D,Pl,rfl,_,hl,hm,hmm,rfl,hi⟩
    ·have h3:DatRep Pc W (.slice none 0 0) (.lst s.length xs):=h2.1
     generalize hv:Value.slice none 0 0=v at h3
     generalize hdd:Dat.lst s.length xs=d at h3
     cases h3 with
     | v=>cases hdd
     | lst a n cap sz xs' b off c hn =>
      obtain ⟨_,rfl⟩:=Dat.lst.inj hdd
      have:(0:Nat)=n:=(Value.slice.inj hv).2.1
      have h0:xs = []:=List.eq_nil_of_length_eq_zero (by omega)
      subst h0
      exact ⟨Nat.zero_le _,fun x hx=>by cases hx⟩
    ·have hge:len≤m:=by rw [hmm];split<;>omega
     have h3:DatRep Pc W (.slice (some a) len cap) (.lst s.length xs):=h2.1
     simp only [Rows.uptoBulk] at hb
     have hle:len≤Rows.uptoBulkAll ((List.range len).map D):=by have:=qwh ((List.range len).map D);simpa using this
     generalize hv:Value.slice (some a) len cap=v at h3
     generalize hdd:Dat.lst s.length xs=d at h3
     cases h3 with
     | v=>cases hdd
     | lst a' n0 cap' sz xs' b off c hn hcap hmax hsz ha hcc hr =>
      obtain ⟨rfl,rfl⟩:=Dat.lst.inj hdd
      obtain ⟨e1,e2,e3⟩:=Value.slice.inj hv
      subst e2
      refine ⟨by omega,fun y hy=>?_⟩
      obtain ⟨k,hk,rfl⟩:=List.getElem_of_mem hy
      obtain ⟨cs',hcs,htr⟩:=hi k (by omega)
      obtain ⟨_,hlen',hat⟩:=World.cells?_some hcs
      have ha':a=⟨b,off,none⟩:=Option.some.inj (e1.trans (ha (by omega)))
      subst ha'
      have hbk:Rows.uptoBulk (D k)≤B:=by
       have:=qnf (l:=(List.range len).map D) (List.mem_map.2 ⟨k,List.mem_range.2 (by omega),rfl⟩)
       omega
      refine ih _ _ _ htr hbk _ (q0f.mk (by rw [hlen',← hc2,hsz _ (List.getElem_mem hk)]) fun j hj hj'=>?_) (htx _ (List.getElem_mem hk))
      have hjs:j<s.length:=by rw [hsz _ (List.getElem_mem hk)] at hj';exact hj'
      have hr':=hr k j hk hj'
      have h5:=(hcc k j hk hjs).2.1
      have h6:=hat j (by omega)
      rw [Addr.add_lit,Addr.add_lit,← hc2,h5] at h6
      rw [List.getElem?_eq_getElem hj] at h6
      rw [← Option.some.inj h6]
      exact hr'
  ·rename_i fs hu
   split at h
   case h_2=>cases h
   rename_i s hs
   split at h
   case isFalse=>cases h
   rename_i hst
   simp only [Option.some.injEq] at h;subst h
   obtain ⟨xs,n',_,rfl,hcl,hl,he⟩:=DataW.trod_struct hu hx
   simp only [Rows.uptoBulk] at hb
   refine qm5 (cells:=cells) (n:=n') (fun t s=>smalls n t s) h2 fs.toList [] s hs ht (fun fd hfd=>?_) (by unfold SmL;trivial)
   obtain ⟨i,hi,rfl⟩:=List.getElem_of_mem hfd
   have hif:i<fs.size:=by simpa using hi
   have:=he i fs[i] (Array.getElem?_eq_getElem hif)
   rw [List.getElem?_eq_getElem (by omega)] at this
   refine ⟨_,by simpa using this,?_⟩
   have:=qnf (l:=xs.map (·.1)) (List.mem_map.2 ⟨xs[i],List.getElem_mem (by omega),rfl⟩)
   omega
  ·cases h
def jen (B:Nat):(ty:Ty)→den ty→Prop
 | .str,(s:List UInt8)=>s.length≤B
 | .lst e,(l:List (den e))=>l.length≤B∧∀ x∈l,jen B e x
 | .prod a b,(p:den a×den b)=>jen B a p.1∧jen B b p.2
 | _,_=>True
theorem jdt (B:Nat) : ∀ (ty:Ty) (x:den ty),SmL B (j97 ty) (q03 ty x)→jen B ty x
 | .int _,_,_=>trivial
 | .bool,_,_=>trivial
 | .any,_,_=>trivial
 | .str,(s:List UInt8),h=>by
  have h':SmT B .str (.v (.string (ba s)))∧SmL B [] []:=by
   have h0:SmL B [.str] [.v (.string (ba s))]:=h
   unfold SmL at h0
   exact h0
  unfold SmT at h'
  have:=h'.1 _ rfl
  rw [q2y] at this
  exact this
 | .lst e,(l:List (den e)),h=>by
  have h0:SmL B [.lst (j97 e)] [.lst (width e) (l.map (q03 e))]:=h
  unfold SmL SmT at h0
  obtain ⟨⟨h1,h2⟩,_⟩:=h0
  exact ⟨by simpa using h1,fun x hx=>jdt B e x (h2 _ (List.mem_map.2 ⟨x,hx,rfl⟩))⟩
 | .prod a b,(p:den a×den b),h=>by
  have h0:SmL B (j97 a++j97 b) (q03 a p.1++q03 b p.2):=h
  rw [SmL.app ((q1n a p.1).trans (qn8 a).symm)] at h0
  exact ⟨jdt B a p.1 h0.1,jdt B b p.2 h0.2⟩
def jz5 (B:Nat) (ty:Ty) (w:World) (v:Value):Prop:=∃ x:den ty,j6l ty x∧jen B ty x∧q1u (q6x (Old w)) qt7 w v (argD true (q03 ty x))
theorem jr3 {base:Nat} {t:TypeId} {fs:Array Field} (B:Nat) (ty:Ty) {v:Value} {d:DataW H} {p:List MemPlace} (hs:shapeOf P 8 t=some (j97 ty)) (hu:P.underlying t=some (.struct fs))
  (hv:Value.okWide P W .any base t v) (h:DataW.Trod enc P W 0 (fun _=>true) true t v d p) (hb:Rows.uptoBulk d≤B):jz5 B ty W v:=by
 obtain ⟨cs,rfl,hsz⟩:=okWide_struct hu hv
 obtain ⟨fuel,hf⟩:=h
 obtain ⟨ds,h1,h2,_⟩:=opens 8 t (j97 ty) hs _ _ _ hf
 obtain ⟨y,rfl,h4⟩:=qzm ty ds h2
 exact ⟨y,h4,jdt B ty y (smalls 8 t _ hs fuel _ _ hf hb _ h1 h2),cs,rfl,jhx h1⟩
theorem j5h {C:Checked} {os:Os} {f:FuncId} {fn:Func} {s:OpenSpec} {conds:List PathCond} {apart:Bool} {laid:List (String×DataW Unit)} (modest:Bool) (w0:World) (args:Array Value) (hos:w0.os=os)
  (hsh:(w0.forCall (fun _ _=>0) ⟨#[],args,[]⟩).Shaped C.prog)
  (hok:Input.okWideB C.prog (w0.forCall (fun _ _=>0) ⟨#[],args,[]⟩) f ⟨#[],args,[]⟩=true)
  (hrow:s.preRow enc C.prog fn conds apart laid (w0.forCall (fun _ _=>0) ⟨#[],args,[]⟩).memory args) :
  ∃ (w:World) (tape:Tape) (i:Input),w.os=os∧(w.forCall tape i).Shaped C.prog∧i.vars = []∧Input.okWide C.prog (w.forCall tape i) .any w.heap.size f i ∧
   s.preRow enc C.prog fn conds apart laid (w.forCall tape i).memory i.args∧({ modest:=modest } : Assume).holds C.prog (lone (Frame.enter C.prog f i.args .normal) [] (w.forCall tape i)) :=
 ⟨w0,fun _ _=>0,⟨#[],args,[]⟩,hos,hsh,(Input.okWide_of_okWideB (base:=0) hok).1,(Input.okWide_of_okWideB hok).2,hrow,by
  simp only [Assume.holds]
  exact ⟨by simp,by simp,fun _=>Modest.zero,by simp,by simp⟩⟩
end Go.Proofs.YtapfankgdkdkgaaGreatDoor.AM
namespace Go.Proofs.YtapfankgdkdkgaaGreatDoor.AM
open Go.RowKit
set_option linter.unusedVariables false
set_option maxRecDepth 100000
abbrev MdTy:Ty:=.prod .str (.prod .str (.prod (.lst (.prod .str (.prod (.int .i64) (.prod (.int .i64) (.prod (.int .i64) (.prod .str .str)))))) (.prod (.lst (.prod .str .str)) (.prod (.lst (.prod .str (.prod (.int .i64) (.prod (.int .i64) (.prod (.int .i64) (.prod .str .str)))))) (.lst (.prod (.int .i64) (.prod (.int .i64) (.prod (.int .i64) (.prod .str (.prod .str (.prod (.int .i64) (.prod (.int .i64) (.prod (.int .i64) (.prod .str .str))))))))))))))
theorem qzh (m:den MdTy) (s:List UInt8) (_:j6l MdTy m) (hs:jen 1048576 MdTy m) (_:s.length≤maxLen):qhu jba m s=some true :=
 jkt jba (by decide) jyn m s (Nat.le_trans hs.1 (by decide)) (Nat.le_trans hs.2.1 (by decide)) (fun x hx=>⟨Nat.le_trans (hs.2.2.2.1.2 x hx).1 (by decide),Nat.le_trans (hs.2.2.2.1.2 x hx).2 (by decide)⟩)
end Go.Proofs.YtapfankgdkdkgaaGreatDoor.AM
namespace Go.Proofs.YtapfankgdkdkgaaGreatDoor.AM
open Go.RowKit
set_option linter.unusedVariables false
set_option linter.unusedSimpArgs false
theorem jb4 : "*" ++ "errors.errorString" = "*errors.errorString":=by decide
theorem jlh (u:TypeId) (h:Tryz.prog.typeName? 3 u=some "*errors.errorString"):u=276 :=
 typeName_ptr_named (nm := "errors.errorString") (by rw [jb4];kernel_rfl) (by kernel_rfl) (by decide) u (by rw [jb4];exact h)
theorem jyq:(Rows.laid_internal_strconv_uint64pow10:DataW Unit)=Lib.tabData .u64 Lib.pow10Tab:=by rfl
theorem jxo:Tryz.prog.globalNamed "internal/strconv.uint64pow10" = some ((Tryz.prog.globalNamed "internal/strconv.uint64pow10").getD 0)∧(Tryz.prog.globals[(Tryz.prog.globalNamed "internal/strconv.uint64pow10").getD 0]?).map (·.type)=some 251:=⟨by kernel_rfl,by kernel_rfl⟩
theorem jts:Tryz.prog.globalNamed "strconv.ErrSyntax" = some (Tryz.laysAtoi_ren.g 15)∧(Tryz.prog.globals[Tryz.laysAtoi_ren.g 15]?).map (·.type)=some 82:=⟨by kernel_rfl,by kernel_rfl⟩
theorem jvm:Tryz.prog.globalNamed "strconv.ErrRange" = some (Tryz.laysAtoi_ren.g 16)∧(Tryz.prog.globals[Tryz.laysAtoi_ren.g 16]?).map (·.type)=some 82:=⟨by kernel_rfl,by kernel_rfl⟩
theorem j2n:Tryz.prog.cellsOf 278=1:=by kernel_rfl
theorem j5m:Tryz.prog.cellsOf 9=1:=by kernel_rfl
theorem hEt:Tryz.prog.globalNamed "errors.errorType" = some 0:=by kernel_rfl
theorem hRt:(Tryz.prog.cutTypes.find? (·.1 == "internal/reflectlite.rtype")).map (·.2)=some 196:=by kernel_rfl
theorem hOne:((List.range 306).filter fun t=>Tryz.prog.rowNamed t [101,114,114,111,114]) = [82]:=by kernel_rfl
theorem hSize:Tryz.prog.types.size=306:=by kernel_rfl
theorem jz8 {w:World} (hsh:w.ShapedOpen Tryz.prog) (hLH:laidMetH Tryz.prog [("math/bits.deBruijn32tab",Rows.laid_math_bits_deBruijn32tab),("math/bits.deBruijn64tab",Rows.laid_math_bits_deBruijn64tab),("internal/strconv.uint64pow10",Rows.laid_internal_strconv_uint64pow10),("unicode/utf8.acceptRanges",Rows.laid_unicode_utf8_acceptRanges),("errors.errorType",Rows.laid_errors_errorType),("strconv.ErrRange",Rows.laid_strconv_ErrRange),("strconv.ErrSyntax",Rows.laid_strconv_ErrSyntax),("unicode/utf8.first",Rows.laid_unicode_utf8_first)] w):Inv w:=by
 have h':laidMet Tryz.prog [("math/bits.deBruijn32tab",Rows.laid_math_bits_deBruijn32tab),("math/bits.deBruijn64tab",Rows.laid_math_bits_deBruijn64tab),("internal/strconv.uint64pow10",Rows.laid_internal_strconv_uint64pow10),("unicode/utf8.acceptRanges",Rows.laid_unicode_utf8_acceptRanges),("strconv.ErrRange",Rows.laid_strconv_ErrRange),("strconv.ErrSyntax",Rows.laid_strconv_ErrSyntax),("unicode/utf8.first",Rows.laid_unicode_utf8_first)] w∧handlesMet Tryz.prog [("errors.errorType",Rows.laid_errors_errorType)] w:=hLH
 obtain ⟨name,u,ty,e1,e2,e3,e4,e5⟩:=h'.2 _ (List.mem_singleton.2 rfl)
 have en:name = [101,114,114,111,114]:=(Option.some.inj e1).symm
 subst en
 obtain rfl:=Option.some.inj (hRt.symm.trans e2)
 have hm:ty∈(List.range 306).filter fun t=>Tryz.prog.rowNamed t [101,114,114,111,114]:=List.mem_filter.2 ⟨List.mem_range.2 (by rw [← hSize];exact e3),e4⟩
 rw [hOne] at hm
 obtain rfl:=List.mem_singleton.1 hm
 have hh:typeHandle Tryz.prog 82 = .pointer (some ⟨9,82,none⟩):=by kernel_rfl
 rw [hh] at e5
 have hT:w.cell? ⟨0,0,none⟩=some (.iface 196 (.agg #[.pointer (some ⟨9,82,none⟩)])):=by simpa using World.var?_cell hEt e5 0
 have hL:=h'.1
 obtain ⟨m,hm⟩:=Tryz.laysIndex.s1_3 w hsh
 have h3:=hL.tail.tail
 rw [jyq] at h3
 have h5:=hL.tail.tail.tail.tail
 unfold Rows.laid_strconv_ErrRange at h5
 have h6:=hL.tail.tail.tail.tail.tail
 unfold Rows.laid_strconv_ErrSyntax at h6
 obtain ⟨a0,s0,hv0,-,-,-⟩:=laid_sentinel h5 jvm.1 jvm.2 Tryz.underlying82 jlh Tryz.underlying276 Tryz.underlying278 rfl rfl Tryz.underlying9 j2n j5m
 obtain ⟨a1,s1,hv1,-,-,-⟩:=laid_sentinel h6 jts.1 jts.2 Tryz.underlying82 jlh Tryz.underlying276 Tryz.underlying278 rfl rfl Tryz.underlying9 j2n j5m
 have c0:w.cell? ⟨Tryz.laysAtoi_ren.g 16,0,none⟩=some (.iface 276 (.pointer (some a0))):=by have h0:=World.var?_cell jvm.1 hv0 0;simpa using h0
 have c1:w.cell? ⟨Tryz.laysAtoi_ren.g 15,0,none⟩=some (.iface 276 (.pointer (some a1))):=by have h0:=World.var?_cell jts.1 hv1 0;simpa using h0
 exact ⟨hT,⟨m,hm⟩,Lib.tabIs_of_head jxo.1 jxo.2 (n:=20) (e:=231) (by kernel_rfl) (by kernel_rfl) (by kernel_rfl) (by kernel_rfl) h3,⟨_,_,c1⟩,⟨_,_,c0⟩⟩
noncomputable def wH (os:Os):World :=
 let w0:=World.holding Tryz.prog os ⟨#[],#[],[]⟩
 {w0 with heap:=w0.heap.modify 0 fun
   | .cells _ t frozen=>.cells #[.iface 196 (.agg #[.pointer (some ⟨9,82,none⟩)])] t frozen
   | o=>o }
noncomputable def laidW (os:Os) (laid:List (String×DataW Unit)):World:=(wH os).layVars Tryz.prog laid
theorem qxl {os:Os} {laid:List (String×DataW Unit)} (args:Array Value) (hf:(wH os).layFits Tryz.prog laid []=true) (hi:(wH os).layIfaces Tryz.prog laid (laidW os laid)=true) :
  laidMet Tryz.prog laid ((laidW os laid).forCall (fun _ _=>0) ⟨#[],args,[]⟩).memory:=by
 have e1:(laid.filter fun x=>(laid.map (·.1)).contains x.1)=laid:=List.filter_eq_self.2 fun x hx=>List.contains_iff_mem.2 (List.mem_map.2 ⟨x,hx,rfl⟩)
 have e2:(laid.filter fun x=>!(laid.map (·.1)).contains x.1) = []:=List.filter_eq_nil_iff.2 fun x hx=>by rw [List.contains_iff_mem.2 (List.mem_map.2 ⟨x,hx,rfl⟩)];simp
 have h:laidMet Tryz.prog laid (laidW os laid):=laidMet_layVars (w0:=wH os) (laid.map (·.1)) [] (by rw [e1];rfl) (by rw [e1];exact hf) (by rw [e1];exact hi) (by rw [e2];exact LaidIn.none)
 exact h.of_heap (by simp [World.memory,World.forCall,Input.heap])
end Go.Proofs.YtapfankgdkdkgaaGreatDoor.AM
