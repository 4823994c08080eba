
import Derived.Test.YtapfankgdkdkgaaGreatDoorEb27
import Derived.Test.YtapfankgdkdkgaaGreatDoorEb20
set_option linter.unusedVariables false
set_option linter.unusedSimpArgs false
namespace Go.Proofs.YtapfankgdkdkgaaGreatDoor.AM
open Go.RowKit
set_option synthInstance.maxSize 100000
set_option synthInstance.maxHeartbeats 0
def jms (q:Rq):Yy:=Lib.join (rqL q) [32]
theorem jdm (q:Rq):jms q=q43++(32::(q.1++32::q1g q.2)):=by unfold jms rqL;rw [Lib.join_cons];simp [Lib.joinTail]
end Go.Proofs.YtapfankgdkdkgaaGreatDoor.AM
namespace Go.Proofs.YtapfankgdkdkgaaGreatDoor.AM
open Go.RowKit
set_option synthInstance.maxSize 100000
set_option synthInstance.maxHeartbeats 0
theorem jkf {a b:Yy} (h:a <+: b) (k:Nat):a.drop k <+: b.drop k:=by
 obtain ⟨t,rfl⟩:=h
 rw [List.drop_append]
 exact List.prefix_append _ _
def k3u (f:Yy) (ws:List Lx.Wd):Prop:=∀w∈ws,∃ p:Nat,w.2=(p:Int)/\w.1 <+: f.drop p
theorem k3u.snoc {f:Yy} {ws:List Lx.Wd} {u:Yy} {p:Nat} (h:k3u f ws) (hu:u <+: f.drop p):k3u f (ws ++ [(u,(p:Int))]):=fun w hw=>by
 rcases List.mem_append.1 hw with hw|hw
 ·exact h w hw
 ·rw [List.mem_singleton.1 hw];exact ⟨p,rfl,hu⟩
theorem qkx (f:Yy) : ∀(l pre:Yy) (op:Bool) (ws:List Lx.Wd),f=pre++l->k3u f ws->(op=true->∃ ws0 p,ws=ws0 ++ [(pre.drop p,((p:Nat):Int))]/\p<=pre.length)->k3u f (Lx.qwc l pre.length op ws)
 | [],pre,op,ws,_,h,_=>by rw [Lx.qwc];exact h
 | c::r,pre,op,ws,hf,h,ho=>by
  have hf':f=(pre ++ [c])++r:=by rw [hf];simp
  have hl:pre.length+1=(pre ++ [c]).length:=by simp
  have hc : [c] <+: f.drop pre.length:=by rw [hf,List.drop_left];exact ⟨r,rfl⟩
  rw [Lx.qwc,hl]
  split
  ·exact qkx f r _ false _ hf' (h.snoc hc) (fun e=>by cases e)
  ·split
   ·exact qkx f r _ false _ hf' h (fun e=>by cases e)
   ·split
    ·rename_i h3
     obtain ⟨ws0,p,rfl,hp⟩:=ho h3
     rw [Lx.qe1]
     have e1:pre.drop p ++ [c]=(pre ++ [c]).drop p:=by rw [List.drop_append_of_le_length hp]
     rw [e1]
     have hp2:p<=(pre ++ [c]).length:=by rw [List.length_append];omega
     have hd:(pre ++ [c]).drop p <+: f.drop p:=by
      rw [hf',List.drop_append_of_le_length hp2]
      exact List.prefix_append _ _
     exact qkx f r _ true _ hf' (k3u.snoc (fun w hw=>h w (List.mem_append_left _ hw)) hd) (fun _=>⟨ws0,p,rfl,hp2⟩)
    ·refine qkx f r _ true _ hf' (h.snoc hc) (fun _=>⟨ws,pre.length,?_,by simp⟩)
     rw [List.drop_left]
theorem jvl (t:Yy):k3u t (q2t t):=by
 unfold q2t Lx.qkz
 rw [Lx.qiy]
 have h:=qkx (t.take (Lx.qx2 t false)) (t.take (Lx.qx2 t false)) [] false [] rfl (fun w hw=>by cases hw) (fun e=>by cases e)
 intro w hw
 obtain ⟨p,h1,h2⟩:=h w hw
 exact ⟨p,h1,h2.trans (jkf (List.take_prefix _ _) p)⟩
def AtL (s:Yy):Nat->List (Yy)->Prop
 | _,[]=>True
 | st,t::ts=>t <+: s.drop st/\AtL s (st+t.length+1) ts
theorem j5b (s tl:Yy) : ∀(l pre cur:Yy),s=pre++(cur++(l++tl))->AtL s pre.length (spl 10 cur l)
 | [],pre,cur,h=>by
  rw [spl]
  exact ⟨by rw [h,List.drop_left];exact List.prefix_append _ _,trivial⟩
 | b::l,pre,cur,h=>by
  rw [spl]
  split
  ·refine ⟨by rw [h,List.drop_left];exact List.prefix_append _ _,?_⟩
   have:=j5b s tl l (pre++cur ++ [b]) [] (by rw [h];simp)
   simpa [Nat.add_assoc] using this
  ·exact j5b s tl l pre (cur ++ [b]) (by rw [h];simp)
theorem k0u (s:Yy):AtL s 0 (Lx.q0l s):=by
 unfold Lx.q0l
 split
 ·trivial
 ·split
  ·rename_i h0 h1
   have:=j5b s [10] s.dropLast [] [] (by
    rcases List.eq_nil_or_concat s with rfl|⟨m,c,rfl⟩
    ·exact absurd rfl h0
    ·rw [List.concat_eq_append] at h1 ⊢
     rw [jbl] at h1
     rw [of_decide_eq_true h1];simp)
   exact this
  ·exact j5b s [] s [] [] (by simp)
def k7w (s:Yy) (σ:MS):Prop:=∀p x,q0c clT (q43,(p,v0)) σ.sd=some x->∃ (v:VD) (a:Nat),(p,v)∈σ.rq/\x=((a:Int),((a+(q1g v).length:Nat):Int))/\q1g v <+: s.drop a
theorem jza {s t:Yy} {st:Nat} {σ σ':MS} (h:k7w s σ) (ht:t <+: s.drop st) (e:qaj σ (st:Int) (q2t t) = .inr σ'):k7w s σ':=by
 rcases j8d e with hs|⟨b,rfl⟩
 ·obtain ⟨d1,d2,d3,d4,d5,d6,d7,d8,d9,d10⟩:=kd
  cases hs with
  | mo w hw h0 hc=>intro p x hx;exact h p x ((q99 (fun e=>d2.symm (congrArg Prod.fst e)) _ _).symm.trans hx)
  | go w hw h0 hc=>intro p x hx;exact h p x ((q99 (fun e=>d5.symm (congrArg Prod.fst e)) _ _).symm.trans hx)
  | ex y q hy hz h0 h1 hc=>intro p x hx;exact h p x ((q99 (fun e=>d8 (congrArg Prod.fst e)) _ _).symm.trans hx)
  | sw y q hy hz h0 h1 hc=>intro p x hx;exact h p x ((q99 (fun e=>d9 (congrArg Prod.fst e)) _ _).symm.trans hx)
  | rt y hz h0 h1 hc=>exact h
  | rq y q hy hz h0 h1 hc =>
   intro p x hx
   replace hx:q0c clT (q43,(p,v0)) (q3x clT (q43,(q.1,v0)) (ps st y) σ.sd)=some x:=hx
   rw [qbj] at hx
   cases hk:eqT clT (q43,(p,v0)) (q43,(q.1,v0)) with
   | true =>
    rw [hk,cond_true] at hx
    have hp:p=q.1:=by
     have:=(qnu (q43,(p,v0)) (q43,(q.1,v0))).1 hk
     simpa using this
    obtain ⟨b,hb1,hb2⟩:=jvl t y hy
    refine ⟨q.2,st+b,by rw [hp];exact List.mem_append_right _ (List.mem_singleton.2 rfl),?_,?_⟩
    ·rw [<-Option.some.inj hx,ps,hb1,h1]
     refine Prod.ext ?_ ?_<;>simp only<;>omega
    ·rw [h1,<-List.drop_drop]
     exact hb2.trans (jkf ht b)
   | false =>
    rw [hk,cond_false] at hx
    obtain ⟨v,a,h2,h3,h4⟩:=h p x hx
    exact ⟨v,a,List.mem_append_left _ h2,h3,h4⟩
 ·exact h
theorem jja (s:Yy) : ∀(ls:List (Yy)) (i:Int) (st:Nat) (σ σ':MS),k7w s σ->AtL s st ls->q5o ls i (st:Int) σ = .inr σ'->k7w s σ'
 | [],i,st,σ,σ',h,_,e=>by cases e;exact h
 | t::ts,i,st,σ,σ',h,ha,e=>by
  rw [q5o] at e
  split at e
  ·cases e
  ·rename_i σ1 h1
   refine jja s ts (i+1) (st+t.length+1) σ1 σ' (jza h ha.1 h1) ha.2 ?_
   rw [show ((st+t.length+1:Nat):Int)=(st:Int)+((t.length:Nat):Int)+1 by omega]
   exact e
def Rp (L:List (Yy)) (τ:MS) (m:MD):Prop:=∀(i st:Int) (more:List (Yy)),∃ i' st' τ',q5o (L++more) i st τ=q5o more i' st' τ'/\GoodM τ'/\τ'.bk = []/\τ'.md=m
theorem Rp.step {t:Yy} {L:List (Yy)} {τ:MS} {m:MD} (h : ∀st,∃ τ1,qaj τ st (q2t t) = .inr τ1/\Rp L τ1 m):Rp (t::L) τ m:=fun i st more=>by
 obtain ⟨τ1,h1,h2⟩:=h st
 rw [List.cons_append,q5o,h1]
 exact h2 _ _ more
theorem qfq {σ:MS} {c:Cl} {P:Prop} (h:q0h σ c=true↔P) (hp : ¬ P):q0h σ c=false:=by
 cases hc:q0h σ c with
 | false=>rfl
 | true=>exact absurd (h.1 hc) hp
end Go.Proofs.YtapfankgdkdkgaaGreatDoor.AM
namespace Go.Proofs.YtapfankgdkdkgaaGreatDoor.AM
open Go.RowKit
set_option synthInstance.maxSize 100000
set_option synthInstance.maxHeartbeats 0
theorem Rp.app {L L':List (Yy)} {τ:MS} {m m':MD} (h:Rp L τ m) (h2 : ∀τ',GoodM τ'->τ'.bk = []->τ'.md=m->Rp L' τ' m'):Rp (L++L') τ m':=fun i st more=>by
 obtain ⟨i1,s1,τ1,e1,g1,b1,m1⟩:=h i st (L'++more)
 obtain ⟨i2,s2,τ2,e2,g2,b2,m2⟩:=h2 τ1 g1 b1 m1 i1 s1 more
 exact ⟨i2,s2,τ2,by rw [List.append_assoc,e1,e2],g2,b2,m2⟩
theorem jzb {p:Yy} (h:q4u p=true):p.length<=60:=(qli h).1
theorem jbj : ∀{l:List Rq} {p:Yy} {v v':VD},(l.map Prod.fst).Nodup->(p,v)∈l->(p,v')∈l->v=v'
 | a::l,p,v,v',hn,h1,h2=>by
  rw [List.map_cons,List.nodup_cons] at hn
  rcases List.mem_cons.1 h1 with e1|h1
  ·rcases List.mem_cons.1 h2 with e2|h2
   ·rw [<-e1] at e2;exact (Prod.mk.inj e2).2.symm
   ·exact absurd (List.mem_map.2 ⟨_,h2,by rw [<-e1]⟩) hn.1
  ·rcases List.mem_cons.1 h2 with e2|h2
   ·exact absurd (List.mem_map.2 ⟨_,h1,by rw [<-e2]⟩) hn.1
   ·exact jbj hn.2 h1 h2
theorem jy6 {s:Yy} {σ:MS} (h:IsM s σ) {q:Rq} (hq:q∈σ.rq) : ∃ a:Nat,q5y s q.1=((a:Int),(((a+(q1g q.2).length:Nat):Int),true))/\a+(q1g q.2).length<=s.length/\(s.drop a).take (q1g q.2).length=q1g q.2:=by
 have g:=h.good
 have hp:k7w s σ:=jja s _ 0 0 ms0 σ (fun p x hx=>by cases hx) (k0u s) h.rd
 have hc:q0h σ (q43,(q.1,v0))=true:=(g.rk q.1).2 (List.mem_map.2 ⟨q,hq,rfl⟩)
 unfold q0h at hc
 obtain ⟨x,hx⟩:=Option.isSome_iff_exists.1 hc
 obtain ⟨v,a,h1,h2,h3⟩:=hp q.1 x hx
 have hv:v=q.2:=jbj g.rn h1 hq
 subst hv
 refine ⟨a,?_,?_,?_⟩
 ·unfold q5y
  rw [jgh h]
  show (match q0c clT (q43,(q.1,v0)) σ.sd with
  | some x=>(x.1,(x.2,true))
  | none=>(0,(0,false)))=_
  rw [hx,h2]
 ·have hl:=h3.length_le
  have hne:=(jqi (k3d (g.rq q hq)).2).1.1
  have hpos:0<(q1g q.2).length:=List.length_pos_iff.2 hne
  rw [List.length_drop] at hl
  omega
 ·exact (List.prefix_iff_eq_take.1 h3).symm
end Go.Proofs.YtapfankgdkdkgaaGreatDoor.AM
namespace Go.Proofs.YtapfankgdkdkgaaGreatDoor.AM
open Go.RowKit
set_option synthInstance.maxSize 100000
set_option synthInstance.maxHeartbeats 0
def j3i (v:Yy) (n i:Int) (t:Yy):Bool:=(decide (v=q9b)&&(decide (i=1)&&decide (t = [61,62])))||(decide (v=ql2)&&(decide (n=5)&&((decide (i=0)&&decide (t = [91]))||((decide (i=2)&&decide (t = [44]))||(decide (i=4)&&decide (t = [93]))))))
theorem ju3 (n:Nat) (rec:Yy->List Lx.Wd->Int->Int->Option (((Bool×Unit)×(Unit×Unit))⊕((Yy×(List Lx.Wd×(Int×Unit)))×(Unit×Unit)))) (v:Yy) (ws:List Lx.Wd) (len:Int) (j:Nat) (hj:j<ws.length) (hl:((j:Nat):Int)<len) (hb:ws.length<=1000000) :
  q9t n rec v ws len (j:Int)=bif decide (q42 ws[j].1=j3i v len (j:Int) ws[j].1) then rec v ws len ((j+1:Nat):Int) else some (Sum.inl ((false,()),((),()))):=by
 unfold q9t
 dsimp only
 simp only [hl,decide_true,cond_true,q1c hj,Option.bind_some,q04,q0a (show j<4611686018427387904 by omega)]
 unfold q42 j3i
 generalize ws[j].1=t
 generalize decide (v=q9b)=b1
 generalize decide (v=ql2)=b2
 generalize decide (len=5)=b3
 generalize decide (((j:Nat):Int)=0)=b4
 generalize decide (((j:Nat):Int)=1)=b5
 generalize decide (((j:Nat):Int)=2)=b6
 generalize decide (((j:Nat):Int)=4)=b7
 by_cases h0:t = [40]
 ·subst h0
  simp only [show decide (([40]:Yy) = [40])=true from rfl,show decide (([40]:Yy) = [41])=false from rfl,show decide (([40]:Yy) = [91])=false from rfl,show decide (([40]:Yy) = [93])=false from rfl,show decide (([40]:Yy) = [44])=false from rfl,show decide (([40]:Yy) = [61,62])=false from rfl]
  cases b1<;>cases b2<;>cases b3<;>cases b4<;>cases b5<;>cases b6<;>cases b7<;>rfl
 by_cases h1:t = [41]
 ·subst h1
  simp only [show decide (([41]:Yy) = [40])=false from rfl,show decide (([41]:Yy) = [41])=true from rfl,show decide (([41]:Yy) = [91])=false from rfl,show decide (([41]:Yy) = [93])=false from rfl,show decide (([41]:Yy) = [44])=false from rfl,show decide (([41]:Yy) = [61,62])=false from rfl]
  cases b1<;>cases b2<;>cases b3<;>cases b4<;>cases b5<;>cases b6<;>cases b7<;>rfl
 by_cases h2:t = [91]
 ·subst h2
  simp only [show decide (([91]:Yy) = [40])=false from rfl,show decide (([91]:Yy) = [41])=false from rfl,show decide (([91]:Yy) = [91])=true from rfl,show decide (([91]:Yy) = [93])=false from rfl,show decide (([91]:Yy) = [44])=false from rfl,show decide (([91]:Yy) = [61,62])=false from rfl]
  cases b1<;>cases b2<;>cases b3<;>cases b4<;>cases b5<;>cases b6<;>cases b7<;>rfl
 by_cases h3:t = [93]
 ·subst h3
  simp only [show decide (([93]:Yy) = [40])=false from rfl,show decide (([93]:Yy) = [41])=false from rfl,show decide (([93]:Yy) = [91])=false from rfl,show decide (([93]:Yy) = [93])=true from rfl,show decide (([93]:Yy) = [44])=false from rfl,show decide (([93]:Yy) = [61,62])=false from rfl]
  cases b1<;>cases b2<;>cases b3<;>cases b4<;>cases b5<;>cases b6<;>cases b7<;>rfl
 by_cases h4:t = [44]
 ·subst h4
  simp only [show decide (([44]:Yy) = [40])=false from rfl,show decide (([44]:Yy) = [41])=false from rfl,show decide (([44]:Yy) = [91])=false from rfl,show decide (([44]:Yy) = [93])=false from rfl,show decide (([44]:Yy) = [44])=true from rfl,show decide (([44]:Yy) = [61,62])=false from rfl]
  cases b1<;>cases b2<;>cases b3<;>cases b4<;>cases b5<;>cases b6<;>cases b7<;>rfl
 by_cases h5:t = [61,62]
 ·subst h5
  simp only [show decide (([61,62]:Yy) = [40])=false from rfl,show decide (([61,62]:Yy) = [41])=false from rfl,show decide (([61,62]:Yy) = [91])=false from rfl,show decide (([61,62]:Yy) = [93])=false from rfl,show decide (([61,62]:Yy) = [44])=false from rfl,show decide (([61,62]:Yy) = [61,62])=true from rfl]
  cases b1<;>cases b2<;>cases b3<;>cases b4<;>cases b5<;>cases b6<;>cases b7<;>rfl
 simp only [decide_eq_false h0,decide_eq_false h1,decide_eq_false h2,decide_eq_false h3,decide_eq_false h4,decide_eq_false h5]
 cases b1<;>cases b2<;>cases b3<;>cases b4<;>cases b5<;>cases b6<;>cases b7<;>rfl
def okW (v:Yy) (n:Int):List Lx.Wd->Nat->Bool
 | [],_=>true
 | w::r,i=>decide (q42 w.1=j3i v n (i:Int) w.1)&&okW v n r (i+1)
theorem j8c (n:Nat) (v:Yy) (ws:List Lx.Wd) (hb:ws.length<=1000000) : ∀m j:Nat,j<=ws.length->ws.length - j<m->q6s n m v ws ((ws.length:Nat):Int) (j:Int)=some (if okW v ((ws.length:Nat):Int) (ws.drop j) j=true then Sum.inr ((v,(ws,(((ws.length:Nat):Int),()))),((),())) else Sum.inl ((false,()),((),())))
 | 0,j,_,h=>absurd h (Nat.not_lt_zero _)
 | m+1,j,hj,h=>by
  rw [qjz]
  by_cases c0:j<ws.length
  ·rw [ju3 n _ v ws _ j c0 (by omega) hb,List.drop_eq_getElem_cons c0,okW]
   by_cases he:q42 ws[j].1=j3i v ((ws.length:Nat):Int) (j:Int) ws[j].1
   ·rw [decide_eq_true he,cond_true,Bool.true_and]
    exact j8c n v ws hb m (j+1) (by omega) (by omega)
   ·rw [decide_eq_false he,cond_false,Bool.false_and];rfl
  ·have c0' : ¬ ((j:Nat):Int)<((ws.length:Nat):Int):=by omega
   unfold q9t
   dsimp only
   simp only [c0',decide_false,cond_false]
   rw [List.drop_eq_nil_of_le (by omega)]
   rfl
def tk1:List Lx.Wd->Bool
 | [a]=>!q42 a.1
 | _=>false
def tk2:List Lx.Wd->Bool
 | [a,b]=>!q42 a.1 && !q42 b.1
 | _=>false
def tk3:List Lx.Wd->Bool
 | [a,b,c]=>!q42 a.1&&(decide (b.1 = [61,62]) && !q42 c.1)
 | _=>false
def tk5:List Lx.Wd->Bool
 | [a,b,c,d,e]=>decide (a.1 = [91])&&(!q42 b.1&&(decide (c.1 = [44])&&(!q42 d.1&&decide (e.1 = [93]))))
 | _=>false
theorem jz0 (w:Lx.Wd):qi2 w = [120]↔q42 w.1=false:=by
 unfold qi2
 cases h:q42 w.1 with
 | false=>simp
 | true =>
  simp only [if_true,Bool.true_eq_false,iff_false]
  rcases qfa h with e|e|e|e|e|e<;>rw [e]<;>decide
theorem jp8 (w:Lx.Wd) {m:Yy} (hm:q42 m=true):qi2 w=m↔w.1=m:=by
 unfold qi2
 cases h:q42 w.1 with
 | true=>simp
 | false =>
  simp only [Bool.false_eq_true,if_false]
  constructor
  ·intro e;rw [<-e] at hm;exact absurd hm (by decide)
  ·intro e;rw [e,hm] at h;cases h
theorem qu9 {S:Yy} {T:List (Yy)} (hS:S ≠ []) (hT:spl 32 [] S=T) (hj:Lib.join T [32]=S) (ws:List Lx.Wd):shp ws=S↔ws.map qi2=T:=by
 constructor
 ·intro h;rw [jv0 h hS,hT]
 ·intro h;unfold shp;rw [h,hj]
theorem shp1 (ws:List Lx.Wd):decide (shp ws = [120])=tk1 ws:=by
 have e0:decide (shp ws = [120])=decide (ws.map qi2 = [[120]]):=decide_eq_decide.2 (qu9 (S:=[120]) (T:=[[120]]) (by decide) (by decide) (by decide) ws)
 rw [e0]
 match ws with
 | []=>rfl
 | [a]=>simp only [List.map_cons,List.map_nil,List.cons.injEq,and_true,jz0,tk1];cases q42 a.1<;>rfl
 | a::b::r=>simp [tk1]
theorem shp2 (ws:List Lx.Wd):decide (shp ws = [120,32,120])=tk2 ws:=by
 have e0:decide (shp ws = [120,32,120])=decide (ws.map qi2 = [[120],[120]]):=decide_eq_decide.2 (qu9 (S:=[120,32,120]) (T:=[[120],[120]]) (by decide) (by decide) (by decide) ws)
 rw [e0]
 match ws with
 | []=>rfl
 | [a]=>simp [tk2]
 | [a,b]=>simp only [List.map_cons,List.map_nil,List.cons.injEq,and_true,jz0,tk2];cases q42 a.1<;>cases q42 b.1<;>rfl
 | a::b::c::r=>simp [tk2]
theorem shp3 (ws:List Lx.Wd):decide (shp ws = [120,32,61,62,32,120])=tk3 ws:=by
 have e0:decide (shp ws = [120,32,61,62,32,120])=decide (ws.map qi2 = [[120],[61,62],[120]]):=decide_eq_decide.2 (qu9 (S:=[120,32,61,62,32,120]) (T:=[[120],[61,62],[120]]) (by decide) (by decide) (by decide) ws)
 rw [e0]
 match ws with
 | []=>rfl
 | [a]=>simp [tk3]
 | [a,b]=>simp [tk3]
 | [a,b,c] =>
  simp only [List.map_cons,List.map_nil,List.cons.injEq,and_true,jz0,jp8 _ (show q42 [61,62]=true from by decide),tk3,Bool.decide_and]
  cases q42 a.1<;>cases q42 c.1<;>rfl
 | a::b::c::d::r=>simp [tk3]
theorem shp5 (ws:List Lx.Wd):decide (shp ws = [91,32,120,32,44,32,120,32,93])=tk5 ws:=by
 have e0:decide (shp ws = [91,32,120,32,44,32,120,32,93])=decide (ws.map qi2 = [[91],[120],[44],[120],[93]]):=decide_eq_decide.2 (qu9 (S:=[91,32,120,32,44,32,120,32,93]) (T:=[[91],[120],[44],[120],[93]]) (by decide) (by decide) (by decide) ws)
 rw [e0]
 match ws with
 | []=>rfl
 | [a]=>simp [tk5]
 | [a,b]=>simp [tk5]
 | [a,b,c]=>simp [tk5]
 | [a,b,c,d]=>simp [tk5]
 | [a,b,c,d,e] =>
  simp only [List.map_cons,List.map_nil,List.cons.injEq,and_true,jz0,jp8 _ (show q42 [91]=true from by decide),jp8 _ (show q42 [44]=true from by decide),jp8 _ (show q42 [93]=true from by decide),tk5,Bool.decide_and]
  cases q42 b.1<;>cases q42 d.1<;>rfl
 | a::b::c::d::e::f::r=>simp [tk5]
def fS (v:Yy) (ws:List Lx.Wd):Bool :=
 if v=qgj then tk1 ws else if v=kGo then tk1 ws else if v=q43 then tk2 ws else if v=qct then tk2 ws else if v=q9b then tk3 ws else if v=ql2 then (tk1 ws||tk5 ws) else false
theorem jz1 (v:Yy) (ws:List Lx.Wd):decide (shp ws∈q4p v)=fS v ws:=by
 unfold q4p fS
 split
 ·rw [<-shp1];simp
 ·split
  ·rw [<-shp1];simp
  ·split
   ·rw [<-shp2];simp
   ·split
    ·rw [<-shp2];simp
    ·split
     ·rw [<-shp3];simp
     ·split
      ·rw [<-shp1,<-shp5];simp
      ·simp
theorem j8i {v:Yy} (h5:v≠q9b) (h6:v≠ql2) (n:Int) : ∀(ws:List Lx.Wd) (i:Nat),okW v n ws i=ws.all fun w=>!q42 w.1
 | [],_=>rfl
 | w::r,i=>by
  have hw:j3i v n (i:Int) w.1=false:=by simp only [j3i,decide_eq_false h5,decide_eq_false h6,Bool.false_and,Bool.or_self]
  rw [okW,hw,j8i h5 h6 n r (i+1),List.all_cons]
  cases q42 w.1<;>rfl
theorem lenD (ws:List Lx.Wd) (k:Nat):decide (((ws.length:Nat):Int)=(k:Int))=decide (ws.length=k):=by
 by_cases h:ws.length=k
 ·rw [decide_eq_true h,decide_eq_true (by omega)]
 ·rw [decide_eq_false h,decide_eq_false (by omega)]
theorem all1 (ws:List Lx.Wd):((ws.all fun w=>!q42 w.1)&&decide (ws.length=1))=tk1 ws:=by
 match ws with
 | []=>rfl
 | [a]=>simp [tk1]
 | a::b::r=>simp [tk1]
theorem all2 (ws:List Lx.Wd):((ws.all fun w=>!q42 w.1)&&decide (ws.length=2))=tk2 ws:=by
 match ws with
 | []=>rfl
 | [a]=>simp [tk2]
 | [a,b]=>simp [tk2]
 | a::b::c::r=>simp [tk2]
theorem mk_eq:q42 [61,62]=true:=by decide
theorem k8r (ws:List Lx.Wd):(okW q9b ((ws.length:Nat):Int) ws 0&&(decide (ws.length=3)&&decide ((ws.getD 1 ([],0)).1 = [61,62])))=tk3 ws:=by
 match ws with
 | []=>simp [tk3]
 | [a]=>simp [tk3]
 | [a,b]=>simp [tk3]
 | [a,b,c] =>
  simp only [okW,j3i,tk3,show decide (q9b=q9b)=true from rfl,show decide (q9b=ql2)=false from rfl,Bool.true_and,Bool.false_and,Bool.or_false,Bool.and_true,List.length_cons,List.length_nil,List.getD_cons_succ,List.getD_cons_zero,
   show decide (((0:Nat):Int)=1)=false from rfl,show decide (((0+1:Nat):Int)=1)=true from rfl,show decide (((0+1+1:Nat):Int)=1)=false from rfl,decide_true]
  by_cases hb:b.1 = [61,62]
  ·simp only [hb,mk_eq,decide_true,Bool.true_and]
   cases q42 a.1<;>cases q42 c.1<;>rfl
  ·simp only [decide_eq_false hb,Bool.and_false,Bool.false_and]
 | a::b::c::d::r=>simp [tk3]
theorem k7q (ws:List Lx.Wd):(okW ql2 ((ws.length:Nat):Int) ws 0&&(decide (ws.length=1)||(decide (ws.length=5)&&(decide ((ws.getD 0 ([],0)).1 = [91])&&(decide ((ws.getD 2 ([],0)).1 = [44])&&decide ((ws.getD 4 ([],0)).1 = [93]))))))=(tk1 ws||tk5 ws):=by
 match ws with
 | []=>simp [tk1,tk5]
 | [a]=>simp [okW,j3i,tk1,tk5]
 | [a,b]=>simp [tk1,tk5]
 | [a,b,c]=>simp [tk1,tk5]
 | [a,b,c,d]=>simp [tk1,tk5]
 | [a,b,c,d,e] =>
  simp only [okW,j3i,tk1,tk5,show decide (ql2=ql2)=true from rfl,show decide (ql2=q9b)=false from rfl,Bool.true_and,Bool.false_and,Bool.false_or,Bool.and_true,List.length_cons,List.length_nil,List.getD_cons_succ,List.getD_cons_zero,decide_true,
   show decide (((0+1+1+1+1+1:Nat):Int)=5)=true from rfl,show decide (0+1+1+1+1+1=1)=false from rfl,
   show decide (((0:Nat):Int)=0)=true from rfl,show decide (((0:Nat):Int)=2)=false from rfl,show decide (((0:Nat):Int)=4)=false from rfl,
   show decide (((0+1:Nat):Int)=0)=false from rfl,show decide (((0+1:Nat):Int)=2)=false from rfl,show decide (((0+1:Nat):Int)=4)=false from rfl,
   show decide (((0+1+1:Nat):Int)=0)=false from rfl,show decide (((0+1+1:Nat):Int)=2)=true from rfl,show decide (((0+1+1:Nat):Int)=4)=false from rfl,
   show decide (((0+1+1+1:Nat):Int)=0)=false from rfl,show decide (((0+1+1+1:Nat):Int)=2)=false from rfl,show decide (((0+1+1+1:Nat):Int)=4)=false from rfl,
   show decide (((0+1+1+1+1:Nat):Int)=0)=false from rfl,show decide (((0+1+1+1+1:Nat):Int)=2)=false from rfl,show decide (((0+1+1+1+1:Nat):Int)=4)=true from rfl,Bool.or_false]
  by_cases h1:a.1 = [91]
  ·by_cases h2:c.1 = [44]
   ·by_cases h3:e.1 = [93]
    ·simp only [h1,h2,h3,show q42 [91]=true from by decide,show q42 [44]=true from by decide,show q42 [93]=true from by decide,decide_true,Bool.true_and,Bool.and_true]
     cases q42 b.1<;>cases q42 d.1<;>rfl
    ·simp only [decide_eq_false h3,Bool.and_false]
   ·simp only [decide_eq_false h2,Bool.and_false,Bool.false_and]
  ·simp only [decide_eq_false h1,Bool.and_false,Bool.false_and]
 | a::b::c::d::e::f::r=>simp [tk1,tk5]
theorem qpz {ws:List Lx.Wd} {k:Nat} (h:k<ws.length):q0n ws (k:Int)=some (ws.getD k ([],0)):=by
 rw [q1c h];simp [h]
theorem j72 (n:Nat) (v:Yy) (ws:List Lx.Wd) (hb:ws.length<=100001) (hn:200000<n):qjf n v ws=some (fS v ws):=by
 have h:=j8c n v ws (by omega) n 0 (Nat.zero_le _) (by omega)
 rw [zI,List.drop_zero] at h
 obtain ⟨d1,d2,d3,d4,d5,d6,d7,d8,d9,d10⟩:=kd
 have l1:=lenD ws 1
 have l2:=lenD ws 2
 have l3:=lenD ws 3
 have l5:=lenD ws 5
 rw [show ((1:Nat):Int)=(1:Int) from rfl] at l1
 rw [show ((2:Nat):Int)=(2:Int) from rfl] at l2
 rw [show ((3:Nat):Int)=(3:Int) from rfl] at l3
 rw [show ((5:Nat):Int)=(5:Int) from rfl] at l5
 unfold qjf
 dsimp only
 rw [h]
 by_cases h1:v=qgj
 ·subst h1
  have e:fS qgj ws=(okW qgj ((ws.length:Nat):Int) ws 0&&decide (ws.length=1)):=by rw [j8i (by decide) (by decide),all1];rfl
  rw [e]
  cases okW qgj ((ws.length:Nat):Int) ws 0 with
  | false=>rfl
  | true =>
   simp only [if_true,Option.bind_some,Sum.elim_inr,decide_true,cond_true,l1,Bool.true_and]
 by_cases h2:v=kGo
 ·subst h2
  have e:fS kGo ws=(okW kGo ((ws.length:Nat):Int) ws 0&&decide (ws.length=1)):=by rw [j8i (by decide) (by decide),all1];rfl
  rw [e]
  cases okW kGo ((ws.length:Nat):Int) ws 0 with
  | false=>rfl
  | true =>
   simp only [if_true,Option.bind_some,Sum.elim_inr,decide_true,cond_true,decide_eq_false h1,cond_false,l1,Bool.true_and]
 by_cases h3:v=q43
 ·subst h3
  have e:fS q43 ws=(okW q43 ((ws.length:Nat):Int) ws 0&&decide (ws.length=2)):=by rw [j8i (by decide) (by decide),all2];rfl
  rw [e]
  cases okW q43 ((ws.length:Nat):Int) ws 0 with
  | false=>rfl
  | true =>
   simp only [if_true,Option.bind_some,Sum.elim_inr,decide_true,cond_true,decide_eq_false h1,decide_eq_false h2,cond_false,l2,Bool.true_and]
 by_cases h4:v=qct
 ·subst h4
  have e:fS qct ws=(okW qct ((ws.length:Nat):Int) ws 0&&decide (ws.length=2)):=by rw [j8i (by decide) (by decide),all2];rfl
  rw [e]
  cases okW qct ((ws.length:Nat):Int) ws 0 with
  | false=>rfl
  | true =>
   simp only [if_true,Option.bind_some,Sum.elim_inr,decide_true,cond_true,decide_eq_false h1,decide_eq_false h2,decide_eq_false h3,cond_false,l2,Bool.true_and]
 by_cases h5:v=q9b
 ·subst h5
  have e:fS q9b ws=(okW q9b ((ws.length:Nat):Int) ws 0&&(decide (ws.length=3)&&decide ((ws.getD 1 ([],0)).1 = [61,62]))):=by rw [k8r];rfl
  rw [e]
  cases okW q9b ((ws.length:Nat):Int) ws 0 with
  | false=>rfl
  | true =>
   simp only [if_true,Option.bind_some,Sum.elim_inr,decide_true,cond_true,decide_eq_false h1,decide_eq_false h2,decide_eq_false h3,decide_eq_false h4,cond_false,l3,Bool.true_and]
   by_cases hl:ws.length=3
   ·have:=qpz (ws:=ws) (k:=1) (by omega)
    rw [show ((1:Nat):Int)=(1:Int) from rfl] at this
    simp only [decide_eq_true hl,cond_true,this,Option.bind_some,Bool.true_and]
   ·simp only [decide_eq_false hl,cond_false,Bool.false_and]
 by_cases h6:v=ql2
 ·subst h6
  have e:fS ql2 ws=(okW ql2 ((ws.length:Nat):Int) ws 0&&(decide (ws.length=1)||(decide (ws.length=5)&&(decide ((ws.getD 0 ([],0)).1 = [91])&&(decide ((ws.getD 2 ([],0)).1 = [44])&&decide ((ws.getD 4 ([],0)).1 = [93])))))):=by rw [k7q];rfl
  rw [e]
  cases okW ql2 ((ws.length:Nat):Int) ws 0 with
  | false=>rfl
  | true =>
   simp only [if_true,Option.bind_some,Sum.elim_inr,decide_true,cond_true,decide_eq_false h1,decide_eq_false h2,decide_eq_false h3,decide_eq_false h4,decide_eq_false h5,cond_false,l1,l5,Bool.true_and]
   by_cases hl:ws.length=1
   ·simp only [decide_eq_true hl,cond_true,Bool.true_or]
   ·by_cases hl5:ws.length=5
    ·have g0:=qpz (ws:=ws) (k:=0) (by omega)
     have g2:=qpz (ws:=ws) (k:=2) (by omega)
     have g4:=qpz (ws:=ws) (k:=4) (by omega)
     rw [show ((0:Nat):Int)=(0:Int) from rfl] at g0
     rw [show ((2:Nat):Int)=(2:Int) from rfl] at g2
     rw [show ((4:Nat):Int)=(4:Int) from rfl] at g4
     simp only [decide_eq_false hl,decide_eq_true hl5,cond_true,cond_false,g0,g2,g4,Option.bind_some,Bool.false_or,Bool.true_and]
     cases decide ((ws.getD 0 ([],0)).1 = [91])<;>cases decide ((ws.getD 2 ([],0)).1 = [44])<;>rfl
    ·simp only [decide_eq_false hl,decide_eq_false hl5,cond_false,Bool.false_and,Bool.or_self]
 ·have e:fS v ws=false:=by simp only [fS,if_neg h1,if_neg h2,if_neg h3,if_neg h4,if_neg h5,if_neg h6]
  rw [e]
  cases okW v ((ws.length:Nat):Int) ws 0 with
  | false=>rfl
  | true =>
   simp only [if_true,Option.bind_some,Sum.elim_inr,decide_eq_false h1,decide_eq_false h2,decide_eq_false h3,decide_eq_false h4,decide_eq_false h5,decide_eq_false h6,cond_false]
end Go.Proofs.YtapfankgdkdkgaaGreatDoor.AM
namespace Go.Proofs.YtapfankgdkdkgaaGreatDoor.AM
open Go.RowKit
set_option synthInstance.maxSize 100000
set_option synthInstance.maxHeartbeats 0
theorem qev (n:Nat) (s:Yy) (hn:2000<=n):q4l n s=some (q0e s):=by
 by_cases h:s.length<=200
 ·exact jfj n s h hn
 ·have c1:(100:Int)<((s.length:Nat):Int):=by omega
  have hp:q0e s=(v0,false):=j0k (fun v hv e=>by have:=qbo v;rw [e] at this;omega)
  unfold q4l
  rw [hp]
  simp [c1]
theorem jwg {s:Yy} (h:1000<s.length):q4u s=false:=by
 cases hp:q4u s with
 | false=>rfl
 | true=>have:=jzb hp;omega
theorem qc8 (n:Nat) (s:Yy) (hL:s.length<=1000000) (hn:2000<=n):q4m n s=some (okS s):=by
 by_cases h:s.length<=1000
 ·exact qoy n s h hn
 ·unfold q4m okS
  rw [qhe n s (by omega) (by omega),jwg (by omega)]
  rfl
theorem jo4 (n:Nat) (s:Yy) (v:VD) (hL:s.length<=1000000) (hn:2000<=n):qfr n s v=some (qco s v):=by
 by_cases h:s.length<=1000
 ·exact jff n s v h hn
 ·have ho:okS s=false:=by unfold okS;rw [jwg (by omega)];rfl
  unfold qfr qe3 qco
  rw [qc8 n s hL hn,ho]
  rfl
theorem qgu (n:Nat) (s:Yy) (hL:s.length<=1000000) : ∀m j:Nat,j<=s.length->s.length - j<m->q4t n m s (j:Int)=some (if (s.drop j).all q1e=true then Sum.inr ((s,()),((),())) else Sum.inl ((false,()),((),())))
 | 0,j,_,h=>absurd h (Nat.not_lt_zero _)
 | m+1,j,hj,h=>by
  rw [qge]
  unfold qe6
  by_cases c0:j<s.length
  ·have c0':((j:Nat):Int)<((s.length:Nat):Int):=by omega
   rw [List.drop_eq_getElem_cons c0,List.all_cons,jrt s[j]]
   simp only [c0',decide_true,cond_true,q1l c0,Option.bind_some,q04,q0a (show j<4611686018427387904 by omega)]
   by_cases h1:((s[j].toNat:Nat):Int)<48
   ·simp [h1]
   ·by_cases h2:(57:Int)<((s[j].toNat:Nat):Int)
    ·simp [h1,h2]
    ·simp only [h1,h2,decide_false,cond_false,Bool.not_false,Bool.true_and]
     exact qgu n s hL m (j+1) (by omega) (by omega)
  ·have c0' : ¬ ((j:Nat):Int)<((s.length:Nat):Int):=by omega
   simp only [c0',decide_false,cond_false]
   rw [List.drop_eq_nil_of_le (by omega)]
   simp
theorem qgl (n:Nat) (s:Yy) (hL:s.length<=1000000) (hn:s.length<n):q3y n s=some (q5p s):=by
 unfold q3y
 have h:=qgu n s hL n 0 (Nat.zero_le _) (by omega)
 rw [zI,List.drop_zero] at h
 rw [h]
 unfold q5p
 cases s.all q1e with
 | false=>simp
 | true =>
  simp only [if_true,Option.bind_some,Sum.elim_inr,Bool.true_and]
  match s with
  | []=>rfl
  | [c] =>
   by_cases hc:c=48<;>simp [hc]
  | c::d::r =>
   have h1:(1:Int)<=(((c::d::r).length:Nat):Int):=by simp only [List.length_cons];omega
   have h2 : ¬ (((c::d::r).length:Nat):Int)=1:=by simp only [List.length_cons];omega
   have h3:=leI (c::d::r).length 9
   rw [show ((9:Nat):Int)=(9:Int) from rfl] at h3
   have i0:=q1l (s:=c::d::r) (j:=0) (by simp)
   rw [zI] at i0
   have h4:1<=(c::d::r).length:=by simp only [List.length_cons];omega
   simp only [h1,h2,h3,h4,decide_true,decide_false,cond_true,cond_false,i0,Option.bind_some,List.getElem_cons_zero,List.head?_cons,Option.some.injEq,Bool.true_and,c48]
   cases decide ((c::d::r).length<=9) with
   | false=>rfl
   | true=>simp
theorem qri (n:Nat) (s:Yy) (hL:s.length<=100001) (hn:200000<n):q8p n s=some (qde s):=by
 have e1:q0k n s (46:Int)=some (spl 46 [] s):=by
  rw [show (46:Int)=(((46:UInt8).toNat:Nat):Int) from rfl,q3n n s 46 (by omega) (by omega)]
 have hw : ∀w∈spl 46 [] s,w.length<=s.length:=fun w hm=>by have:=q62 46 s [] w hm;simpa using this
 unfold q8p
 show ((q0k n s (46:Int)).bind fun r1=>(bif decide ((r1.length:Int)=(2:Int)) then (q0n r1 (0:Int)).bind fun x2=>(q3y n x2).bind fun r3=>(bif r3 then (q0n r1 (1:Int)).bind fun x4=>(q3y n x4).bind fun r5=>some r5 else some false) else some false))=_
 rw [e1,Option.bind_some]
 by_cases hm:(46:UInt8)∈s
 ·obtain ⟨a,b,hs,ha⟩:=List.eq_append_cons_of_mem hm
  have hc:=j2n 46 a b ha
  have es:spl 46 [] s=a::spl 46 [] b:=by rw [hs,qpw 46 a b ha]
  rw [es] at hw ⊢
  have el:qde s=(q5p a&&q5p b):=by unfold qde;rw [hs,hc.1,hc.2]
  rw [el]
  by_cases hb:(46:UInt8)∈b
  ·obtain ⟨a2,b2,hs2,ha2⟩:=List.eq_append_cons_of_mem hb
   have es2:spl 46 [] b=a2::spl 46 [] b2:=by rw [hs2,qpw 46 a2 b2 ha2]
   have hne:=jpr 46 b2 []
   have hl : ¬ ((((a::spl 46 [] b).length:Nat):Int)=2):=by
    rw [es2]
    cases h:spl 46 [] b2 with
    | nil=>exact absurd h hne
    | cons x r=>simp only [List.length_cons];omega
   have hnb:q5p b=false:=by
    cases h:q5p b with
    | false=>rfl
    | true=>exact absurd ((j3g h).1 46 hb) (by decide)
   rw [decide_eq_false hl,cond_false,hnb,Bool.and_false]
  ·rw [qdr 46 b hb] at hw ⊢
   have i0:q0n [a,b] (0:Int)=some a:=rfl
   have i1:q0n [a,b] (1:Int)=some b:=rfl
   have wa:=hw a (by simp)
   have wb:=hw b (by simp)
   rw [show decide ((([a,b].length:Nat):Int)=2)=true from rfl,cond_true,i0,Option.bind_some,qgl n a (by omega) (by omega),Option.bind_some]
   cases q5p a with
   | false=>rfl
   | true=>rw [cond_true,i1,Option.bind_some,qgl n b (by omega) (by omega)];rfl
 ·rw [qdr 46 s hm]
  have:q7t 46 s = []:=by unfold q7t;rw [if_pos (qaf 46 s hm)]
  unfold qde
  rw [this,show q5p []=false from rfl,Bool.and_false]
  rfl
theorem qst (n:Nat) (l:List Rq) (b:Bool) (r:Rq) (hL:l.length<=1000000) : ∀m j:Nat,j<=l.length->l.length - j<m->q8d n m l b (j:Int) r.1 r.2.1 r.2.2.1 r.2.2.2.1 r.2.2.2.2.1 r.2.2.2.2.2=some (if (l.drop j).any (fun q=>if b then decide (q=r) else decide (q.1=r.1))=true then Sum.inl ((true,()),((),())) else Sum.inr ((),((),())))
 | 0,j,_,h=>absurd h (Nat.not_lt_zero _)
 | m+1,j,hj,h=>by
  rw [qlf]
  unfold qv9
  by_cases c0:j<l.length
  ·have c0':((j:Nat):Int)<((l.length:Nat):Int):=by omega
   have ih:=qst n l b r hL m (j+1) (by omega) (by omega)
   rw [List.drop_eq_getElem_cons c0,List.any_cons]
   have e:=k5x l[j] r
   rw [Bool.and_true] at e
   simp only [c0',decide_true,cond_true,q1c c0,Option.bind_some,q04,q0a (show j<4611686018427387904 by omega)]
   by_cases h1:l[j].1=r.1
   ·rw [decide_eq_true h1,Bool.true_and] at e
    rw [decide_eq_true h1,cond_true]
    cases b with
    | false=>rfl
    | true =>
     simp only [Bool.not_true,cond_false,e,if_true]
     by_cases h2:l[j]=r
     ·simp [h2]
     ·simp only [decide_eq_false h2,cond_false,Bool.false_or];exact ih
   ·have h2 : ¬ l[j]=r:=fun hh=>h1 (by rw [hh])
    rw [decide_eq_false h1,cond_false,decide_eq_false h2]
    cases b<;>exact ih
  ·have c0' : ¬ ((j:Nat):Int)<((l.length:Nat):Int):=by omega
   simp only [c0',decide_false,cond_false]
   rw [List.drop_eq_nil_of_le (by omega)]
   rfl
theorem qra (n:Nat) (l:List Rq) (b:Bool) (r:Rq) (hL:l.length<=1000000) (hn:1000000<n):qaq n l r b=some (l.any fun q=>if b then decide (q=r) else decide (q.1=r.1)):=by
 unfold qaq
 have h:=qst n l b r hL n 0 (Nat.zero_le _) (by omega)
 rw [zI,List.drop_zero] at h
 rw [h]
 cases l.any fun q=>if b then decide (q=r) else decide (q.1=r.1)<;>rfl
theorem qx7 (n:Nat) (w x:Lx.Wd) (r:List Lx.Wd) (hw:w.1.length<=100001) (hx:x.1.length<=100001) (hn:200000<n):qqa n (w::x::r)=some (match j5i w.1 x.1 with | .inl e=>(q0,e) | .inr q=>(q,0)):=by
 unfold qqa j5i
 simp only [jo9,k6p,Option.bind_some,qev n x.1 (show 2000<=n by omega),qc8 n w.1 (show _<=1000000 by omega) (show 2000<=n by omega)]
 cases okS w.1 with
 | false=>rfl
 | true =>
  simp only [Bool.not_true,cond_false,Bool.true_eq_false,if_false]
  cases h2:(q0e x.1).2 with
  | false=>simp [q0,v0]
  | true =>
   simp only [Bool.not_true,cond_false,Bool.true_eq_false,if_false,jo4 n w.1 (q0e x.1).1 (show _<=1000000 by omega) (show 2000<=n by omega),Option.bind_some]
   cases h3:qco w.1 (q0e x.1).1 with
   | false=>simp [q0,v0]
   | true=>simp
end Go.Proofs.YtapfankgdkdkgaaGreatDoor.AM
