
import Derived.Test.YtapfankgdkdkgaaGreatDoorEc23
import Derived.Test.YtapfankgdkdkgaaGreatDoorEc20
set_option linter.unusedVariables false
set_option linter.unusedSimpArgs false
namespace Go.Proofs.YtapfankgdkdkgaaGreatDoor.AM
open Go.RowKit
set_option synthInstance.maxSize 100000
set_option synthInstance.maxHeartbeats 0
def nlT (L:List Yy):Yy:=(L.map (· ++ [10])).flatten
theorem j1k (t:Yy) (L:List Yy):nlT (t::L)=t++(10::nlT L):=by simp [nlT]
theorem jl1 {q:Rq} (h:q3c q.1 q.2=true):Lib.join ([q.1,q08 q.2].map fun t=>if q2x t then t else [120]) [32] = [120,32,120]:=by
 simp [(j97 (q4k h).1).2,(q5f (q4k h).2).2,j7t]
set_option synthInstance.maxSize 100000
set_option synthInstance.maxHeartbeats 0
theorem j1a {a b:Yy} (h:a <+: b) (k:Nat):a.drop k <+: b.drop k:=by
 obtain ⟨t,rfl⟩:=h
 rw [List.drop_append]
 exact List.prefix_append _ _
def jkm (f:Yy) (ws:List Lx.Wd):Prop:=∀w∈ws,∃ p:Nat,w.2=(p:Int)/\w.1 <+: f.drop p
theorem jkm.snoc {f:Yy} {ws:List Lx.Wd} {u:Yy} {p:Nat} (h:jkm f ws) (hu:u <+: f.drop p):jkm f (ws ++ [(u,(p:Int))]):=fun w hw=>by
 rcases List.mem_append.1 hw with hw|hw
 ·exact h w hw
 ·rw [List.mem_singleton.1 hw];exact ⟨p,rfl,hu⟩
theorem qdj (f:Yy) : ∀(l pre:Yy) (op:Bool) (ws:List Lx.Wd),f=pre++l->jkm f ws->(op=true->∃ ws0 p,ws=ws0 ++ [(pre.drop p,((p:Nat):Int))]/\p<=pre.length)->jkm f (Lx.qjq l pre.length op ws)
 | [],pre,op,ws,_,h,_=>by rw [Lx.qjq];exact h
 | c::r,pre,op,ws,hf,h,ho=>by
  have hf':f=(pre ++ [c])++r:=by rw [hf];simp
  have hl:pre.length+1=(pre ++ [c]).length:=by simp
  have hc : [c] <+: f.drop pre.length:=by rw [hf,List.drop_left];exact ⟨r,rfl⟩
  rw [Lx.qjq,hl]
  split
  ·exact qdj f r _ false _ hf' (h.snoc hc) (fun e=>by cases e)
  ·split
   ·exact qdj f r _ false _ hf' h (fun e=>by cases e)
   ·split
    ·rename_i h3
     obtain ⟨ws0,p,rfl,hp⟩:=ho h3
     rw [Lx.q3q]
     have e1:pre.drop p ++ [c]=(pre ++ [c]).drop p:=by rw [List.drop_append_of_le_length hp]
     rw [e1]
     have hp2:p<=(pre ++ [c]).length:=by rw [List.length_append];omega
     have hd:(pre ++ [c]).drop p <+: f.drop p:=by
      rw [hf',List.drop_append_of_le_length hp2]
      exact List.prefix_append _ _
     exact qdj f r _ true _ hf' (jkm.snoc (fun w hw=>h w (List.mem_append_left _ hw)) hd) (fun _=>⟨ws0,p,rfl,hp2⟩)
    ·refine qdj f r _ true _ hf' (h.snoc hc) (fun _=>⟨ws,pre.length,?_,by simp⟩)
     rw [List.drop_left]
theorem j82 (t:Yy):jkm t (q0w t):=by
 unfold q0w Lx.qdc
 rw [Lx.qd3]
 have h:=qdj (t.take (Lx.qid t false)) (t.take (Lx.qid t false)) [] false [] rfl (fun w hw=>by cases hw) (fun e=>by cases e)
 intro w hw
 obtain ⟨p,h1,h2⟩:=h w hw
 exact ⟨p,h1,h2.trans (j1a (List.take_prefix _ _) p)⟩
def AtL (s:Yy):Nat->List Yy->Prop
 | _,[]=>True
 | st,t::ts=>t <+: s.drop st/\AtL s (st+t.length+1) ts
theorem qop (s tl:Yy) : ∀(l pre cur:Yy),s=pre++(cur++(l++tl))->AtL s pre.length (spl 10 cur l)
 | [],pre,cur,h=>by
  rw [spl]
  exact ⟨by rw [h,List.drop_left];exact List.prefix_append _ _,trivial⟩
 | b::l,pre,cur,h=>by
  rw [spl]
  split
  ·refine ⟨by rw [h,List.drop_left];exact List.prefix_append _ _,?_⟩
   have:=qop s tl l (pre++cur ++ [b]) [] (by rw [h];simp)
   simpa [Nat.add_assoc] using this
  ·exact qop s tl l pre (cur ++ [b]) (by rw [h];simp)
theorem jet (s:Yy):AtL s 0 (Lx.q0a s):=by
 unfold Lx.q0a
 split
 ·trivial
 ·split
  ·rename_i h0 h1
   have:=qop s [10] s.dropLast [] [] (by
    rcases List.eq_nil_or_concat s with rfl|⟨m,c,rfl⟩
    ·exact absurd rfl h0
    ·rw [List.concat_eq_append] at h1 ⊢
     rw [ql7] at h1
     rw [of_decide_eq_true h1];simp)
   exact this
  ·exact qop s [] s [] [] (by simp)
def jog (s:Yy) (σ:MS):Prop:=∀p x,q02 clT (q0s,(p,v0)) σ.sd=some x->∃ (v:VD) (a:Nat),(p,v)∈σ.rq/\x=((a:Int),((a+(q08 v).length:Nat):Int))/\q08 v <+: s.drop a
theorem je4 {s t:Yy} {st:Nat} {σ σ':MS} (h:jog s σ) (ht:t <+: s.drop st) (e:q3j σ (st:Int) (q0w t) = .inr σ'):jog s σ':=by
 rcases qce e with hs|⟨b,rfl⟩
 ·obtain ⟨d1,d2,d3,d4,d5,d6,d7,d8,d9,d10⟩:=kd
  cases hs with
  | mo w hw h0 hc=>intro p x hx;exact h p x ((q2m (fun e=>d2.symm (congrArg Prod.fst e)) _ _).symm.trans hx)
  | go w hw h0 hc=>intro p x hx;exact h p x ((q2m (fun e=>d5.symm (congrArg Prod.fst e)) _ _).symm.trans hx)
  | ex y q hy hz h0 h1 hc=>intro p x hx;exact h p x ((q2m (fun e=>d8 (congrArg Prod.fst e)) _ _).symm.trans hx)
  | sw y q hy hz h0 h1 hc=>intro p x hx;exact h p x ((q2m (fun e=>d9 (congrArg Prod.fst e)) _ _).symm.trans hx)
  | rt y hz h0 h1 hc=>exact h
  | rq y q hy hz h0 h1 hc =>
   intro p x hx
   replace hx:q02 clT (q0s,(p,v0)) (q0x clT (q0s,(q.1,v0)) (ps st y) σ.sd)=some x:=hx
   rw [q29] at hx
   cases hk:eqT clT (q0s,(p,v0)) (q0s,(q.1,v0)) with
   | true =>
    rw [hk,cond_true] at hx
    have hp:p=q.1:=by
     have:=(qgb (q0s,(p,v0)) (q0s,(q.1,v0))).1 hk
     simpa using this
    obtain ⟨b,hb1,hb2⟩:=j82 t y hy
    refine ⟨q.2,st+b,by rw [hp];exact List.mem_append_right _ (List.mem_singleton.2 rfl),?_,?_⟩
    ·rw [<-Option.some.inj hx,ps,hb1,h1]
     refine Prod.ext ?_ ?_<;>simp only<;>omega
    ·rw [h1,<-List.drop_drop]
     exact hb2.trans (j1a ht b)
   | false =>
    rw [hk,cond_false] at hx
    obtain ⟨v,a,h2,h3,h4⟩:=h p x hx
    exact ⟨v,a,List.mem_append_left _ h2,h3,h4⟩
 ·exact h
theorem j26 (s:Yy) : ∀(ls:List Yy) (i:Int) (st:Nat) (σ σ':MS),jog s σ->AtL s st ls->q1v ls i (st:Int) σ = .inr σ'->jog s σ'
 | [],i,st,σ,σ',h,_,e=>by cases e;exact h
 | t::ts,i,st,σ,σ',h,ha,e=>by
  rw [q1v] at e
  split at e
  ·cases e
  ·rename_i σ1 h1
   refine j26 s ts (i+1) (st+t.length+1) σ1 σ' (je4 h ha.1 h1) ha.2 ?_
   rw [show ((st+t.length+1:Nat):Int)=(st:Int)+((t.length:Nat):Int)+1 by omega]
   exact e
def Rp (L:List Yy) (τ:MS) (m:MD):Prop:=∀(i st:Int) (more:List Yy),∃ i' st' τ',q1v (L++more) i st τ=q1v more i' st' τ'/\GoodM τ'/\τ'.bk = []/\τ'.md=m
theorem Rp.step {t:Yy} {L:List Yy} {τ:MS} {m:MD} (h : ∀st,∃ τ1,q3j τ st (q0w t) = .inr τ1/\Rp L τ1 m):Rp (t::L) τ m:=fun i st more=>by
 obtain ⟨τ1,h1,h2⟩:=h st
 rw [List.cons_append,q1v,h1]
 exact h2 _ _ more
theorem qe4 {σ:MS} {c:Cl} {P:Prop} (h:q04 σ c=true↔P) (hp : ¬ P):q04 σ c=false:=by
 cases hc:q04 σ c with
 | false=>rfl
 | true=>exact absurd (h.1 hc) hp
set_option synthInstance.maxSize 100000
set_option synthInstance.maxHeartbeats 0
theorem Rp.app {L L':List Yy} {τ:MS} {m m':MD} (h:Rp L τ m) (h2 : ∀τ',GoodM τ'->τ'.bk = []->τ'.md=m->Rp L' τ' m'):Rp (L++L') τ m':=fun i st more=>by
 obtain ⟨i1,s1,τ1,e1,g1,b1,m1⟩:=h i st (L'++more)
 obtain ⟨i2,s2,τ2,e2,g2,b2,m2⟩:=h2 τ1 g1 b1 m1 i1 s1 more
 exact ⟨i2,s2,τ2,by rw [List.append_assoc,e1,e2],g2,b2,m2⟩
theorem j0t {p:Yy} (h:q3e p=true):p.length<=60:=(qa3 h).1
theorem qjc : ∀{l:List Rq} {p:Yy} {v v':VD},(l.map Prod.fst).Nodup->(p,v)∈l->(p,v')∈l->v=v'
 | a::l,p,v,v',hn,h1,h2=>by
  rw [List.map_cons,List.nodup_cons] at hn
  rcases List.mem_cons.1 h1 with e1|h1
  ·rcases List.mem_cons.1 h2 with e2|h2
   ·rw [<-e1] at e2;exact (Prod.mk.inj e2).2.symm
   ·exact absurd (List.mem_map.2 ⟨_,h2,by rw [<-e1]⟩) hn.1
  ·rcases List.mem_cons.1 h2 with e2|h2
   ·exact absurd (List.mem_map.2 ⟨_,h1,by rw [<-e2]⟩) hn.1
   ·exact qjc hn.2 h1 h2
theorem je2 {s:Yy} {σ:MS} (h:IsM s σ) {q:Rq} (hq:q∈σ.rq) : ∃ a:Nat,q3h s q.1=((a:Int),(((a+(q08 q.2).length:Nat):Int),true))/\a+(q08 q.2).length<=s.length/\(s.drop a).take (q08 q.2).length=q08 q.2:=by
 have g:=h.good
 have hp:jog s σ:=j26 s _ 0 0 ms0 σ (fun p x hx=>by cases hx) (jet s) h.rd
 have hc:q04 σ (q0s,(q.1,v0))=true:=(g.rk q.1).2 (List.mem_map.2 ⟨q,hq,rfl⟩)
 unfold q04 at hc
 obtain ⟨x,hx⟩:=Option.isSome_iff_exists.1 hc
 obtain ⟨v,a,h1,h2,h3⟩:=hp q.1 x hx
 have hv:v=q.2:=qjc g.rn h1 hq
 subst hv
 refine ⟨a,?_,?_,?_⟩
 ·unfold q3h
  rw [qqp h]
  show (match q02 clT (q0s,(q.1,v0)) σ.sd with
  | some x=>(x.1,(x.2,true))
  | none=>(0,(0,false)))=_
  rw [hx,h2]
 ·have hl:=h3.length_le
  have hne:=(q5f (q4k (g.rq q hq)).2).1.1
  have hpos:0<(q08 q.2).length:=List.length_pos_iff.2 hne
  rw [List.length_drop] at hl
  omega
 ·exact (List.prefix_iff_eq_take.1 h3).symm
def wb (c:UInt8):Bool:=!Lx.q1b c && !Lx.isB c
def jpg (r:Yy):Prop:=r = [] \/ ∃ c t,r=c::t/\wb c=false
theorem jih {c:UInt8} (h:wb c=true):Lx.q1b c=false/\Lx.isB c=false:=by
 unfold wb at h;simpa using h
theorem jhz {r:Yy} (h:jpg r) (k:Nat) (o1 o2:Bool) (W:List Lx.Wd):Lx.q40 r k o1 W=Lx.q40 r k o2 W:=by
 rcases h with rfl|⟨c,t,rfl,hc⟩
 ·rfl
 ·rw [Lx.q1o,Lx.q1o]
  by_cases h1:Lx.q1b c=true
  ·rw [if_pos h1,if_pos h1]
  ·have h2:Lx.isB c=true:=by unfold wb at hc;simp at hc;exact hc (by simpa using h1)
   rw [if_neg h1,if_neg h1,if_pos h2,if_pos h2]
theorem qko : ∀l:Yy,∃ y r,l=y++r/\(∀c∈y,wb c=true)/\jpg r
 | []=>⟨[],[],rfl,fun c h=>(by cases h),.inl rfl⟩
 | c::l=>by
  cases hc:wb c with
  | false=>exact ⟨[],c::l,rfl,fun c h=>(by cases h),.inr ⟨c,l,rfl,hc⟩⟩
  | true =>
   obtain ⟨y,r,h1,h2,h3⟩:=qko l
   refine ⟨c::y,r,by rw [h1];rfl,fun d hd=>?_,h3⟩
   rcases List.mem_cons.1 hd with rfl|hd
   ·exact hc
   ·exact h2 d hd
theorem qzr (r:Yy) : ∀(w:Yy) (i:Nat) (ws:List Lx.Wd) (u:Yy) (p:Int),(∀c∈w,wb c=true)->Lx.q40 (w++r) i true (ws ++ [(u,p)])=Lx.q40 r (i+w.length) true (ws ++ [(u++w,p)])
 | [],i,ws,u,p,_=>by simp
 | c::w,i,ws,u,p,h=>by
  obtain ⟨h1,h2⟩:=jih (h c (List.mem_cons_self ..))
  rw [List.cons_append,Lx.q1o,h1,h2]
  simp only [Bool.false_eq_true,if_false,if_true]
  rw [Lx.q3q,qzr r w (i+1) ws (u ++ [c]) p (fun d hd=>h d (List.mem_cons_of_mem _ hd))]
  simp only [List.append_assoc,List.singleton_append,List.length_cons]
  congr 1;omega
theorem qdr {c:UInt8} {y r:Yy} (hy : ∀d∈c::y,wb d=true) (hr:jpg r) (hp:Lx.pfx (c::(y++r))=false) (i:Nat) (ws:List Lx.Wd):Lx.q40 (c::(y++r)) i false ws=Lx.q40 r (i+(y.length+1)) false (ws ++ [(c::y,((i:Nat):Int))]):=by
 obtain ⟨h1,h2⟩:=jih (hy c (List.mem_cons_self ..))
 rw [Lx.q1o,h1,h2,hp]
 simp only [Bool.false_eq_true,if_false]
 rw [qzr r y (i+1) ws [c] _ (fun d hd=>hy d (List.mem_cons_of_mem _ hd)),jhz hr _ true false]
 simp only [List.singleton_append]
 congr 1;omega
theorem qfm : ∀(k:Nat) (l:Yy),l.length<=k->∀(i:Nat) (ws:List Lx.Wd),Lx.q40 l i false ws=(ws++(Lx.q40 l i false []).1,(Lx.q40 l i false []).2)
 | _,[],_,i,ws=>by simp [Lx.q40]
 | 0,c::l,h,i,ws=>by simp at h
 | k+1,c::l,h,i,ws=>by
  simp only [List.length_cons] at h
  by_cases h1:Lx.q1b c=true
  ·rw [qp4 c h1,qp4 c h1,qfm k l (by omega) (i+1) (ws++_),qfm k l (by omega) (i+1) ([]++_)]
   simp
  ·by_cases h2:Lx.isB c=true
   ·have hb:Lx.q1b c=false/\Lx.isB c=true:=⟨by simpa using h1,h2⟩
    rw [qc4 c hb,qc4 c hb,qfm k l (by omega) (i+1) ws]
   ·have hw:wb c=true:=by unfold wb;simp [h1,h2]
    by_cases hp:Lx.pfx (c::l)=true
    ·rw [Lx.q1o,Lx.q1o,if_neg h1,if_neg h2,if_neg h1,if_neg h2]
     simp [hp]
    ·obtain ⟨y,r,rfl,hy,hr⟩:=qko l
     have hall : ∀d∈c::y,wb d=true:=fun d hd=>by
      rcases List.mem_cons.1 hd with rfl|hd
      ·exact hw
      ·exact hy d hd
     have hl:r.length<=k:=by simp at h;omega
     rw [qdr hall hr (by simpa using hp),qdr hall hr (by simpa using hp),qfm k r hl _ (ws++_),qfm k r hl _ ([]++_)]
     simp
theorem qw6 (l:Yy) (i:Nat) (ws:List Lx.Wd):Lx.q40 l i false ws=(ws++(Lx.q40 l i false []).1,(Lx.q40 l i false []).2):=qfm l.length l (Nat.le_refl _) i ws
theorem qud : ∀(l:Yy) (i j:Nat) (op:Bool) (ws ws':List Lx.Wd),tx ws=tx ws'->tx (Lx.q40 l i op ws).1=tx (Lx.q40 l j op ws').1
 | [],i,j,op,ws,ws',h=>h
 | c::l,i,j,op,ws,ws',h=>by
  rw [Lx.q1o,Lx.q1o]
  split
  ·exact qud l _ _ _ _ _ (by simp [h])
  ·split
   ·exact qud l _ _ _ _ _ h
   ·split
    ·refine qud l _ _ _ _ _ ?_
     rcases List.eq_nil_or_concat ws with rfl|⟨m,x,rfl⟩
     ·rcases List.eq_nil_or_concat ws' with rfl|⟨m',x',rfl⟩
      ·rfl
      ·simp at h
     ·rcases List.eq_nil_or_concat ws' with rfl|⟨m',x',rfl⟩
      ·simp at h
      ·obtain ⟨u,p⟩:=x
       obtain ⟨u',p'⟩:=x'
       rw [List.concat_eq_append,List.concat_eq_append] at h ⊢
       rw [Lx.q3q,Lx.q3q]
       simp only [List.map_append,List.map_cons,List.map_nil] at h ⊢
       obtain ⟨h1,h2⟩:=List.append_inj' h rfl
       rw [h1,(List.cons.inj h2).1]
    ·split
     ·exact h
     ·exact qud l _ _ _ _ _ (by simp [h])
theorem qr3 : ∀(k:Nat) (l:Yy),l.length<=k->∀(i:Nat) (A:List Lx.Wd) (w0:Lx.Wd) (B:List Lx.Wd),(Lx.q40 l i false []).1=A++w0::B->plain w0.1->∃ u r,l=u++(w0.1++r)/\w0.2=((i+u.length:Nat):Int)/\jpg r /\
  ∀(j:Nat) (z:Yy),∃ e,tx e=tx A/\(i=j->e=A)/\Lx.q40 (u++z) j false []=(e++(Lx.q40 z (j+u.length) false []).1,(Lx.q40 z (j+u.length) false []).2)
 | _,[],_,i,A,w0,B,hw,_=>by rw [Lx.q40] at hw;simp at hw
 | 0,c::l,h,_,_,_,_,_,_=>by simp at h
 | k+1,c::l,h,i,A,w0,B,hw,hp0=>by
  simp only [List.length_cons] at h
  by_cases h1:Lx.q1b c=true
  ·rw [qp4 c h1,qw6] at hw
   replace hw:([c],(i:Int))::(Lx.q40 l (i+1) false []).1=A++w0::B:=by simpa using hw
   cases A with
   | nil =>
    have hw0:=(List.cons.inj hw).1
    rw [<-hw0] at hp0
    exact absurd (qm6 (hp0.2.2 c (List.mem_cons_self ..))).1 (by rw [h1];decide)
   | cons a A =>
    obtain ⟨ha,hw⟩:=List.cons.inj hw
    obtain ⟨u,r,e1,e2,e3,e5⟩:=qr3 k l (by omega) (i+1) A w0 B hw hp0
    refine ⟨c::u,r,by rw [e1];rfl,by rw [e2,List.length_cons];omega,e3,fun j z=>?_⟩
    obtain ⟨e,f1,f3,f4⟩:=e5 (j+1) z
    refine ⟨([c],(j:Int))::e,by rw [<-ha];simp [f1],fun hij=>by subst hij;rw [f3 rfl,<-ha],?_⟩
    rw [List.cons_append,qp4 c h1,qw6,f4,List.length_cons]
    simp [Nat.add_assoc,Nat.add_comm 1]
  ·by_cases h2:Lx.isB c=true
   ·have hb:Lx.q1b c=false/\Lx.isB c=true:=⟨by simpa using h1,h2⟩
    rw [qc4 c hb] at hw
    obtain ⟨u,r,e1,e2,e3,e5⟩:=qr3 k l (by omega) (i+1) A w0 B hw hp0
    refine ⟨c::u,r,by rw [e1];rfl,by rw [e2,List.length_cons];omega,e3,fun j z=>?_⟩
    obtain ⟨e,f1,f3,f4⟩:=e5 (j+1) z
    refine ⟨e,f1,fun hij=>f3 (by omega),?_⟩
    rw [List.cons_append,qc4 c hb,f4,List.length_cons]
    simp [Nat.add_assoc,Nat.add_comm 1]
   ·have hwc:wb c=true:=by unfold wb;simp [h1,h2]
    by_cases hp:Lx.pfx (c::l)=true
    ·rw [Lx.q1o,if_neg h1,if_neg h2] at hw
     simp [hp] at hw
    ·obtain ⟨y,r,rfl,hy,hr⟩:=qko l
     have hall : ∀d∈c::y,wb d=true:=fun d hd=>by
      rcases List.mem_cons.1 hd with rfl|hd
      ·exact hwc
      ·exact hy d hd
     have hl:r.length<=k:=by simp at h;omega
     have hp':Lx.pfx (c::(y++r))=false:=by simpa using hp
     rw [qdr hall hr hp',qw6] at hw
     replace hw:(c::y,(i:Int))::(Lx.q40 r (i+(y.length+1)) false []).1=A++w0::B:=by simpa using hw
     cases A with
     | nil =>
      have hw0:=(List.cons.inj hw).1
      subst hw0
      exact ⟨[],r,rfl,by simp,hr,fun j z=>⟨[],rfl,fun _=>rfl,by simp⟩⟩
     | cons a A =>
      obtain ⟨ha,hw⟩:=List.cons.inj hw
      obtain ⟨u,r2,e1,e2,e3,e5⟩:=qr3 k r hl (i+(y.length+1)) A w0 B hw hp0
      have hu : ∃ b u',u=b::u'/\wb b=false:=by
       cases u with
       | cons b u' =>
        rcases hr with rfl|⟨b',t',hr1,hr2⟩
        ·cases e1
        ·rw [hr1] at e1
         have:=(List.cons.inj e1).1
         exact ⟨b,u',rfl,by rw [<-this];exact hr2⟩
       | nil =>
        exfalso
        rcases hr with rfl|⟨b',t',hr1,hr2⟩
        ·cases hw0:w0.1 with
         | nil=>exact hp0.1 hw0
         | cons a t=>rw [hw0] at e1;cases e1
        ·cases hw0:w0.1 with
         | nil=>exact hp0.1 hw0
         | cons a t =>
          rw [hw0,hr1] at e1
          have ha:b'=a:=(List.cons.inj e1).1
          have hpl:=qm6 (hp0.2.2 a (by rw [hw0];exact List.mem_cons_self ..))
          rw [ha] at hr2
          unfold wb at hr2
          rw [hpl.1,hpl.2.1] at hr2
          cases hr2
      obtain ⟨b,u',hu1,hu2⟩:=hu
      have hpz : ∀z,Lx.pfx (c::(y++(u++z)))=false:=fun z=>by
       have hp2:=hp'
       rw [e1,hu1] at hp2
       rw [hu1]
       cases y with
       | nil =>
        simp only [List.nil_append,List.cons_append,Lx.pfx] at hp2 ⊢
        exact hp2
       | cons d y =>
        simp only [List.cons_append,Lx.pfx] at hp2 ⊢
        exact hp2
      have hbz : ∀z,jpg (u++z):=fun z=>.inr ⟨b,u'++z,by rw [hu1];rfl,hu2⟩
      refine ⟨c::(y++u),r2,by rw [e1];simp,by rw [e2];simp only [List.length_cons,List.length_append];omega,e3,fun j z=>?_⟩
      obtain ⟨e,f1,f3,f4⟩:=e5 (j+(y.length+1)) z
      refine ⟨(c::y,(j:Int))::e,by rw [<-ha];simp [f1],fun hij=>by subst hij;rw [f3 rfl,<-ha],?_⟩
      rw [show c::(y++u)++z=c::(y++(u++z)) by simp,qdr hall (hbz z) (hpz z),qw6,f4]
      have e9:j+(y.length+1)+u.length=j+(c::(y++u)).length:=by simp only [List.length_cons,List.length_append];omega
      rw [e9]
      simp
theorem jga {t:Yy} {A:List Lx.Wd} {w0:Lx.Wd} {B:List Lx.Wd} (h:q0w t=A++w0::B) (hp:plain w0.1) : ∃ u r,t=u++(w0.1++r)/\w0.2=((u.length:Nat):Int)/\∀x,plain x->∃ B',tx B'=tx B/\q0w (u++(x++r))=A++(x,((u.length:Nat):Int))::B':=by
 unfold q0w Lx.qdc at h ⊢
 obtain ⟨u,r,e1,e2,e3,e5⟩:=qr3 t.length t (Nat.le_refl _) 0 A w0 B h hp
 rw [Nat.zero_add] at e2
 have key : ∀x,plain x->(Lx.q40 (u++(x++r)) 0 false []).1=A++(x,((u.length:Nat):Int))::(Lx.q40 r (u.length+x.length) false []).1:=fun x hx=>by
  obtain ⟨e,f1,f3,f4⟩:=e5 0 (x++r)
  rw [f4,f3 rfl,Nat.zero_add,jfh hx,jhz e3 _ true false,qw6]
  simp
 refine ⟨u,r,e1,e2,fun x hx=>⟨_,?_,key x hx⟩⟩
 have h0:=key w0.1 hp
 rw [<-e1,h] at h0
 have hB:B=(Lx.q40 r (u.length+w0.1.length) false []).1:=by
  have:=List.append_cancel_left h0
  exact (List.cons.inj this).2
 rw [hB]
 exact qud r _ _ false [] [] rfl
set_option synthInstance.maxSize 100000
set_option synthInstance.maxHeartbeats 0
def qpf (v:Yy) (n i:Int) (t:Yy):Bool:=(decide (v=q6h)&&(decide (i=1)&&decide (t = [61,62])))||(decide (v=qe8)&&(decide (n=5)&&((decide (i=0)&&decide (t = [91]))||((decide (i=2)&&decide (t = [44]))||(decide (i=4)&&decide (t = [93]))))))
theorem jdb (n:Nat) (rec:Yy->List Lx.Wd->Int->Int->Option (((Bool×Unit)×(Unit×Unit))⊕((Yy×(List Lx.Wd×(Int×Unit)))×(Unit×Unit)))) (v:Yy) (ws:List Lx.Wd) (len:Int) (j:Nat) (hj:j<ws.length) (hl:((j:Nat):Int)<len) (hb:ws.length<=1000000) :
  q72 n rec v ws len (j:Int)=bif decide (q2x ws[j].1=qpf v len (j:Int) ws[j].1) then rec v ws len ((j+1:Nat):Int) else some (Sum.inl ((false,()),((),()))):=by
 unfold q72
 dsimp only
 simp only [hl,decide_true,cond_true,q0k hj,Option.bind_some,q00,q03 (show j<4611686018427387904 by omega)]
 unfold q2x qpf
 generalize ws[j].1=t
 generalize decide (v=q6h)=b1
 generalize decide (v=qe8)=b2
 generalize decide (len=5)=b3
 generalize decide (((j:Nat):Int)=0)=b4
 generalize decide (((j:Nat):Int)=1)=b5
 generalize decide (((j:Nat):Int)=2)=b6
 generalize decide (((j:Nat):Int)=4)=b7
 by_cases h0:t = [40]
 ·subst h0
  simp only [show decide (([40]:Yy) = [40])=true from rfl,show decide (([40]:Yy) = [41])=false from rfl,show decide (([40]:Yy) = [91])=false from rfl,show decide (([40]:Yy) = [93])=false from rfl,show decide (([40]:Yy) = [44])=false from rfl,show decide (([40]:Yy) = [61,62])=false from rfl]
  cases b1<;>cases b2<;>cases b3<;>cases b4<;>cases b5<;>cases b6<;>cases b7<;>rfl
 by_cases h1:t = [41]
 ·subst h1
  simp only [show decide (([41]:Yy) = [40])=false from rfl,show decide (([41]:Yy) = [41])=true from rfl,show decide (([41]:Yy) = [91])=false from rfl,show decide (([41]:Yy) = [93])=false from rfl,show decide (([41]:Yy) = [44])=false from rfl,show decide (([41]:Yy) = [61,62])=false from rfl]
  cases b1<;>cases b2<;>cases b3<;>cases b4<;>cases b5<;>cases b6<;>cases b7<;>rfl
 by_cases h2:t = [91]
 ·subst h2
  simp only [show decide (([91]:Yy) = [40])=false from rfl,show decide (([91]:Yy) = [41])=false from rfl,show decide (([91]:Yy) = [91])=true from rfl,show decide (([91]:Yy) = [93])=false from rfl,show decide (([91]:Yy) = [44])=false from rfl,show decide (([91]:Yy) = [61,62])=false from rfl]
  cases b1<;>cases b2<;>cases b3<;>cases b4<;>cases b5<;>cases b6<;>cases b7<;>rfl
 by_cases h3:t = [93]
 ·subst h3
  simp only [show decide (([93]:Yy) = [40])=false from rfl,show decide (([93]:Yy) = [41])=false from rfl,show decide (([93]:Yy) = [91])=false from rfl,show decide (([93]:Yy) = [93])=true from rfl,show decide (([93]:Yy) = [44])=false from rfl,show decide (([93]:Yy) = [61,62])=false from rfl]
  cases b1<;>cases b2<;>cases b3<;>cases b4<;>cases b5<;>cases b6<;>cases b7<;>rfl
 by_cases h4:t = [44]
 ·subst h4
  simp only [show decide (([44]:Yy) = [40])=false from rfl,show decide (([44]:Yy) = [41])=false from rfl,show decide (([44]:Yy) = [91])=false from rfl,show decide (([44]:Yy) = [93])=false from rfl,show decide (([44]:Yy) = [44])=true from rfl,show decide (([44]:Yy) = [61,62])=false from rfl]
  cases b1<;>cases b2<;>cases b3<;>cases b4<;>cases b5<;>cases b6<;>cases b7<;>rfl
 by_cases h5:t = [61,62]
 ·subst h5
  simp only [show decide (([61,62]:Yy) = [40])=false from rfl,show decide (([61,62]:Yy) = [41])=false from rfl,show decide (([61,62]:Yy) = [91])=false from rfl,show decide (([61,62]:Yy) = [93])=false from rfl,show decide (([61,62]:Yy) = [44])=false from rfl,show decide (([61,62]:Yy) = [61,62])=true from rfl]
  cases b1<;>cases b2<;>cases b3<;>cases b4<;>cases b5<;>cases b6<;>cases b7<;>rfl
 simp only [decide_eq_false h0,decide_eq_false h1,decide_eq_false h2,decide_eq_false h3,decide_eq_false h4,decide_eq_false h5]
 cases b1<;>cases b2<;>cases b3<;>cases b4<;>cases b5<;>cases b6<;>cases b7<;>rfl
def okW (v:Yy) (n:Int):List Lx.Wd->Nat->Bool
 | [],_=>true
 | w::r,i=>decide (q2x w.1=qpf v n (i:Int) w.1)&&okW v n r (i+1)
theorem qtm (n:Nat) (v:Yy) (ws:List Lx.Wd) (hb:ws.length<=1000000) : ∀m j:Nat,j<=ws.length->ws.length - j<m->q52 n m v ws ((ws.length:Nat):Int) (j:Int)=some (if okW v ((ws.length:Nat):Int) (ws.drop j) j=true then Sum.inr ((v,(ws,(((ws.length:Nat):Int),()))),((),())) else Sum.inl ((false,()),((),())))
 | 0,j,_,h=>absurd h (Nat.not_lt_zero _)
 | m+1,j,hj,h=>by
  rw [qcu]
  by_cases c0:j<ws.length
  ·rw [jdb n _ v ws _ j c0 (by omega) hb,List.drop_eq_getElem_cons c0,okW]
   by_cases he:q2x ws[j].1=qpf v ((ws.length:Nat):Int) (j:Int) ws[j].1
   ·rw [decide_eq_true he,cond_true,Bool.true_and]
    exact qtm n v ws hb m (j+1) (by omega) (by omega)
   ·rw [decide_eq_false he,cond_false,Bool.false_and];rfl
  ·have c0' : ¬ ((j:Nat):Int)<((ws.length:Nat):Int):=by omega
   unfold q72
   dsimp only
   simp only [c0',decide_false,cond_false]
   rw [List.drop_eq_nil_of_le (by omega)]
   rfl
def tk1:List Lx.Wd->Bool
 | [a]=>!q2x a.1
 | _=>false
def tk2:List Lx.Wd->Bool
 | [a,b]=>!q2x a.1 && !q2x b.1
 | _=>false
def tk3:List Lx.Wd->Bool
 | [a,b,c]=>!q2x a.1&&(decide (b.1 = [61,62]) && !q2x c.1)
 | _=>false
def tk5:List Lx.Wd->Bool
 | [a,b,c,d,e]=>decide (a.1 = [91])&&(!q2x b.1&&(decide (c.1 = [44])&&(!q2x d.1&&decide (e.1 = [93]))))
 | _=>false
theorem jgo (w:Lx.Wd):qbe w = [120]↔q2x w.1=false:=by
 unfold qbe
 cases h:q2x w.1 with
 | false=>simp
 | true =>
  simp only [if_true,Bool.true_eq_false,iff_false]
  rcases qai h with e|e|e|e|e|e<;>rw [e]<;>decide
theorem j5b (w:Lx.Wd) {m:Yy} (hm:q2x m=true):qbe w=m↔w.1=m:=by
 unfold qbe
 cases h:q2x w.1 with
 | true=>simp
 | false =>
  simp only [Bool.false_eq_true,if_false]
  constructor
  ·intro e;rw [<-e] at hm;exact absurd hm (by decide)
  ·intro e;rw [e,hm] at h;cases h
theorem qi3 {S:Yy} {T:List Yy} (hS:S ≠ []) (hT:spl 32 [] S=T) (hj:Lib.join T [32]=S) (ws:List Lx.Wd):shp ws=S↔ws.map qbe=T:=by
 constructor
 ·intro h;rw [jbw h hS,hT]
 ·intro h;unfold shp;rw [h,hj]
theorem shp1 (ws:List Lx.Wd):decide (shp ws = [120])=tk1 ws:=by
 have e0:decide (shp ws = [120])=decide (ws.map qbe = [[120]]):=decide_eq_decide.2 (qi3 (S:=[120]) (T:=[[120]]) (by decide) (by decide) (by decide) ws)
 rw [e0]
 match ws with
 | []=>rfl
 | [a]=>simp only [List.map_cons,List.map_nil,List.cons.injEq,and_true,jgo,tk1];cases q2x a.1<;>rfl
 | a::b::r=>simp [tk1]
theorem shp2 (ws:List Lx.Wd):decide (shp ws = [120,32,120])=tk2 ws:=by
 have e0:decide (shp ws = [120,32,120])=decide (ws.map qbe = [[120],[120]]):=decide_eq_decide.2 (qi3 (S:=[120,32,120]) (T:=[[120],[120]]) (by decide) (by decide) (by decide) ws)
 rw [e0]
 match ws with
 | []=>rfl
 | [a]=>simp [tk2]
 | [a,b]=>simp only [List.map_cons,List.map_nil,List.cons.injEq,and_true,jgo,tk2];cases q2x a.1<;>cases q2x b.1<;>rfl
 | a::b::c::r=>simp [tk2]
theorem shp3 (ws:List Lx.Wd):decide (shp ws = [120,32,61,62,32,120])=tk3 ws:=by
 have e0:decide (shp ws = [120,32,61,62,32,120])=decide (ws.map qbe = [[120],[61,62],[120]]):=decide_eq_decide.2 (qi3 (S:=[120,32,61,62,32,120]) (T:=[[120],[61,62],[120]]) (by decide) (by decide) (by decide) ws)
 rw [e0]
 match ws with
 | []=>rfl
 | [a]=>simp [tk3]
 | [a,b]=>simp [tk3]
 | [a,b,c] =>
  simp only [List.map_cons,List.map_nil,List.cons.injEq,and_true,jgo,j5b _ (show q2x [61,62]=true from by decide),tk3,Bool.decide_and]
  cases q2x a.1<;>cases q2x c.1<;>rfl
 | a::b::c::d::r=>simp [tk3]
theorem shp5 (ws:List Lx.Wd):decide (shp ws = [91,32,120,32,44,32,120,32,93])=tk5 ws:=by
 have e0:decide (shp ws = [91,32,120,32,44,32,120,32,93])=decide (ws.map qbe = [[91],[120],[44],[120],[93]]):=decide_eq_decide.2 (qi3 (S:=[91,32,120,32,44,32,120,32,93]) (T:=[[91],[120],[44],[120],[93]]) (by decide) (by decide) (by decide) ws)
 rw [e0]
 match ws with
 | []=>rfl
 | [a]=>simp [tk5]
 | [a,b]=>simp [tk5]
 | [a,b,c]=>simp [tk5]
 | [a,b,c,d]=>simp [tk5]
 | [a,b,c,d,e] =>
  simp only [List.map_cons,List.map_nil,List.cons.injEq,and_true,jgo,j5b _ (show q2x [91]=true from by decide),j5b _ (show q2x [44]=true from by decide),j5b _ (show q2x [93]=true from by decide),tk5,Bool.decide_and]
  cases q2x b.1<;>cases q2x d.1<;>rfl
 | a::b::c::d::e::f::r=>simp [tk5]
def fS (v:Yy) (ws:List Lx.Wd):Bool :=
 if v=qae then tk1 ws else if v=kGo then tk1 ws else if v=q0s then tk2 ws else if v=q8p then tk2 ws else if v=q6h then tk3 ws else if v=qe8 then (tk1 ws||tk5 ws) else false
theorem j2c (v:Yy) (ws:List Lx.Wd):decide (shp ws∈q38 v)=fS v ws:=by
 unfold q38 fS
 split
 ·rw [<-shp1];simp
 ·split
  ·rw [<-shp1];simp
  ·split
   ·rw [<-shp2];simp
   ·split
    ·rw [<-shp2];simp
    ·split
     ·rw [<-shp3];simp
     ·split
      ·rw [<-shp1,<-shp5];simp
      ·simp
theorem quk {v:Yy} (h5:v≠q6h) (h6:v≠qe8) (n:Int) : ∀(ws:List Lx.Wd) (i:Nat),okW v n ws i=ws.all fun w=>!q2x w.1
 | [],_=>rfl
 | w::r,i=>by
  have hw:qpf v n (i:Int) w.1=false:=by simp only [qpf,decide_eq_false h5,decide_eq_false h6,Bool.false_and,Bool.or_self]
  rw [okW,hw,quk h5 h6 n r (i+1),List.all_cons]
  cases q2x w.1<;>rfl
theorem lenD (ws:List Lx.Wd) (k:Nat):decide (((ws.length:Nat):Int)=(k:Int))=decide (ws.length=k):=by
 by_cases h:ws.length=k
 ·rw [decide_eq_true h,decide_eq_true (by omega)]
 ·rw [decide_eq_false h,decide_eq_false (by omega)]
theorem all1 (ws:List Lx.Wd):((ws.all fun w=>!q2x w.1)&&decide (ws.length=1))=tk1 ws:=by
 match ws with
 | []=>rfl
 | [a]=>simp [tk1]
 | a::b::r=>simp [tk1]
theorem all2 (ws:List Lx.Wd):((ws.all fun w=>!q2x w.1)&&decide (ws.length=2))=tk2 ws:=by
 match ws with
 | []=>rfl
 | [a]=>simp [tk2]
 | [a,b]=>simp [tk2]
 | a::b::c::r=>simp [tk2]
theorem mk_eq:q2x [61,62]=true:=by decide
theorem jp7 (ws:List Lx.Wd):(okW q6h ((ws.length:Nat):Int) ws 0&&(decide (ws.length=3)&&decide ((ws.getD 1 ([],0)).1 = [61,62])))=tk3 ws:=by
 match ws with
 | []=>simp [tk3]
 | [a]=>simp [tk3]
 | [a,b]=>simp [tk3]
 | [a,b,c] =>
  simp only [okW,qpf,tk3,show decide (q6h=q6h)=true from rfl,show decide (q6h=qe8)=false from rfl,Bool.true_and,Bool.false_and,Bool.or_false,Bool.and_true,List.length_cons,List.length_nil,List.getD_cons_succ,List.getD_cons_zero,
   show decide (((0:Nat):Int)=1)=false from rfl,show decide (((0+1:Nat):Int)=1)=true from rfl,show decide (((0+1+1:Nat):Int)=1)=false from rfl,decide_true]
  by_cases hb:b.1 = [61,62]
  ·simp only [hb,mk_eq,decide_true,Bool.true_and]
   cases q2x a.1<;>cases q2x c.1<;>rfl
  ·simp only [decide_eq_false hb,Bool.and_false,Bool.false_and]
 | a::b::c::d::r=>simp [tk3]
theorem jo6 (ws:List Lx.Wd):(okW qe8 ((ws.length:Nat):Int) ws 0&&(decide (ws.length=1)||(decide (ws.length=5)&&(decide ((ws.getD 0 ([],0)).1 = [91])&&(decide ((ws.getD 2 ([],0)).1 = [44])&&decide ((ws.getD 4 ([],0)).1 = [93]))))))=(tk1 ws||tk5 ws):=by
 match ws with
 | []=>simp [tk1,tk5]
 | [a]=>simp [okW,qpf,tk1,tk5]
 | [a,b]=>simp [tk1,tk5]
 | [a,b,c]=>simp [tk1,tk5]
 | [a,b,c,d]=>simp [tk1,tk5]
 | [a,b,c,d,e] =>
  simp only [okW,qpf,tk1,tk5,show decide (qe8=qe8)=true from rfl,show decide (qe8=q6h)=false from rfl,Bool.true_and,Bool.false_and,Bool.false_or,Bool.and_true,List.length_cons,List.length_nil,List.getD_cons_succ,List.getD_cons_zero,decide_true,
   show decide (((0+1+1+1+1+1:Nat):Int)=5)=true from rfl,show decide (0+1+1+1+1+1=1)=false from rfl,
   show decide (((0:Nat):Int)=0)=true from rfl,show decide (((0:Nat):Int)=2)=false from rfl,show decide (((0:Nat):Int)=4)=false from rfl,
   show decide (((0+1:Nat):Int)=0)=false from rfl,show decide (((0+1:Nat):Int)=2)=false from rfl,show decide (((0+1:Nat):Int)=4)=false from rfl,
   show decide (((0+1+1:Nat):Int)=0)=false from rfl,show decide (((0+1+1:Nat):Int)=2)=true from rfl,show decide (((0+1+1:Nat):Int)=4)=false from rfl,
   show decide (((0+1+1+1:Nat):Int)=0)=false from rfl,show decide (((0+1+1+1:Nat):Int)=2)=false from rfl,show decide (((0+1+1+1:Nat):Int)=4)=false from rfl,
   show decide (((0+1+1+1+1:Nat):Int)=0)=false from rfl,show decide (((0+1+1+1+1:Nat):Int)=2)=false from rfl,show decide (((0+1+1+1+1:Nat):Int)=4)=true from rfl,Bool.or_false]
  by_cases h1:a.1 = [91]
  ·by_cases h2:c.1 = [44]
   ·by_cases h3:e.1 = [93]
    ·simp only [h1,h2,h3,show q2x [91]=true from by decide,show q2x [44]=true from by decide,show q2x [93]=true from by decide,decide_true,Bool.true_and,Bool.and_true]
     cases q2x b.1<;>cases q2x d.1<;>rfl
    ·simp only [decide_eq_false h3,Bool.and_false]
   ·simp only [decide_eq_false h2,Bool.and_false,Bool.false_and]
  ·simp only [decide_eq_false h1,Bool.and_false,Bool.false_and]
 | a::b::c::d::e::f::r=>simp [tk1,tk5]
theorem qhl {ws:List Lx.Wd} {k:Nat} (h:k<ws.length):q0d ws (k:Int)=some (ws.getD k ([],0)):=by
 rw [q0k h];simp [h]
theorem quu (n:Nat) (v:Yy) (ws:List Lx.Wd) (hb:ws.length<=100001) (hn:200000<n):qe2 n v ws=some (fS v ws):=by
 have h:=qtm n v ws (by omega) n 0 (Nat.zero_le _) (by omega)
 rw [zI,List.drop_zero] at h
 obtain ⟨d1,d2,d3,d4,d5,d6,d7,d8,d9,d10⟩:=kd
 have l1:=lenD ws 1
 have l2:=lenD ws 2
 have l3:=lenD ws 3
 have l5:=lenD ws 5
 rw [show ((1:Nat):Int)=(1:Int) from rfl] at l1
 rw [show ((2:Nat):Int)=(2:Int) from rfl] at l2
 rw [show ((3:Nat):Int)=(3:Int) from rfl] at l3
 rw [show ((5:Nat):Int)=(5:Int) from rfl] at l5
 unfold qe2
 dsimp only
 rw [h]
 by_cases h1:v=qae
 ·subst h1
  have e:fS qae ws=(okW qae ((ws.length:Nat):Int) ws 0&&decide (ws.length=1)):=by rw [quk (by decide) (by decide),all1];rfl
  rw [e]
  cases okW qae ((ws.length:Nat):Int) ws 0 with
  | false=>rfl
  | true =>
   simp only [if_true,Option.bind_some,Sum.elim_inr,decide_true,cond_true,l1,Bool.true_and]
 by_cases h2:v=kGo
 ·subst h2
  have e:fS kGo ws=(okW kGo ((ws.length:Nat):Int) ws 0&&decide (ws.length=1)):=by rw [quk (by decide) (by decide),all1];rfl
  rw [e]
  cases okW kGo ((ws.length:Nat):Int) ws 0 with
  | false=>rfl
  | true =>
   simp only [if_true,Option.bind_some,Sum.elim_inr,decide_true,cond_true,decide_eq_false h1,cond_false,l1,Bool.true_and]
 by_cases h3:v=q0s
 ·subst h3
  have e:fS q0s ws=(okW q0s ((ws.length:Nat):Int) ws 0&&decide (ws.length=2)):=by rw [quk (by decide) (by decide),all2];rfl
  rw [e]
  cases okW q0s ((ws.length:Nat):Int) ws 0 with
  | false=>rfl
  | true =>
   simp only [if_true,Option.bind_some,Sum.elim_inr,decide_true,cond_true,decide_eq_false h1,decide_eq_false h2,cond_false,l2,Bool.true_and]
 by_cases h4:v=q8p
 ·subst h4
  have e:fS q8p ws=(okW q8p ((ws.length:Nat):Int) ws 0&&decide (ws.length=2)):=by rw [quk (by decide) (by decide),all2];rfl
  rw [e]
  cases okW q8p ((ws.length:Nat):Int) ws 0 with
  | false=>rfl
  | true =>
   simp only [if_true,Option.bind_some,Sum.elim_inr,decide_true,cond_true,decide_eq_false h1,decide_eq_false h2,decide_eq_false h3,cond_false,l2,Bool.true_and]
 by_cases h5:v=q6h
 ·subst h5
  have e:fS q6h ws=(okW q6h ((ws.length:Nat):Int) ws 0&&(decide (ws.length=3)&&decide ((ws.getD 1 ([],0)).1 = [61,62]))):=by rw [jp7];rfl
  rw [e]
  cases okW q6h ((ws.length:Nat):Int) ws 0 with
  | false=>rfl
  | true =>
   simp only [if_true,Option.bind_some,Sum.elim_inr,decide_true,cond_true,decide_eq_false h1,decide_eq_false h2,decide_eq_false h3,decide_eq_false h4,cond_false,l3,Bool.true_and]
   by_cases hl:ws.length=3
   ·have:=qhl (ws:=ws) (k:=1) (by omega)
    rw [show ((1:Nat):Int)=(1:Int) from rfl] at this
    simp only [decide_eq_true hl,cond_true,this,Option.bind_some,Bool.true_and]
   ·simp only [decide_eq_false hl,cond_false,Bool.false_and]
 by_cases h6:v=qe8
 ·subst h6
  have e:fS qe8 ws=(okW qe8 ((ws.length:Nat):Int) ws 0&&(decide (ws.length=1)||(decide (ws.length=5)&&(decide ((ws.getD 0 ([],0)).1 = [91])&&(decide ((ws.getD 2 ([],0)).1 = [44])&&decide ((ws.getD 4 ([],0)).1 = [93])))))):=by rw [jo6];rfl
  rw [e]
  cases okW qe8 ((ws.length:Nat):Int) ws 0 with
  | false=>rfl
  | true =>
   simp only [if_true,Option.bind_some,Sum.elim_inr,decide_true,cond_true,decide_eq_false h1,decide_eq_false h2,decide_eq_false h3,decide_eq_false h4,decide_eq_false h5,cond_false,l1,l5,Bool.true_and]
   by_cases hl:ws.length=1
   ·simp only [decide_eq_true hl,cond_true,Bool.true_or]
   ·by_cases hl5:ws.length=5
    ·have g0:=qhl (ws:=ws) (k:=0) (by omega)
     have g2:=qhl (ws:=ws) (k:=2) (by omega)
     have g4:=qhl (ws:=ws) (k:=4) (by omega)
     rw [show ((0:Nat):Int)=(0:Int) from rfl] at g0
     rw [show ((2:Nat):Int)=(2:Int) from rfl] at g2
     rw [show ((4:Nat):Int)=(4:Int) from rfl] at g4
     simp only [decide_eq_false hl,decide_eq_true hl5,cond_true,cond_false,g0,g2,g4,Option.bind_some,Bool.false_or,Bool.true_and]
     cases decide ((ws.getD 0 ([],0)).1 = [91])<;>cases decide ((ws.getD 2 ([],0)).1 = [44])<;>rfl
    ·simp only [decide_eq_false hl,decide_eq_false hl5,cond_false,Bool.false_and,Bool.or_self]
 ·have e:fS v ws=false:=by simp only [fS,if_neg h1,if_neg h2,if_neg h3,if_neg h4,if_neg h5,if_neg h6]
  rw [e]
  cases okW v ((ws.length:Nat):Int) ws 0 with
  | false=>rfl
  | true =>
   simp only [if_true,Option.bind_some,Sum.elim_inr,decide_eq_false h1,decide_eq_false h2,decide_eq_false h3,decide_eq_false h4,decide_eq_false h5,decide_eq_false h6,cond_false]
end Go.Proofs.YtapfankgdkdkgaaGreatDoor.AM
