
import Derived.Test.YtapfankgdkdkgaaGreatDoorEa23
import Derived.Test.YtapfankgdkdkgaaGreatDoorEa20
set_option linter.unusedVariables false
set_option linter.unusedSimpArgs false
namespace Go.Proofs.YtapfankgdkdkgaaGreatDoor.AM
open Go.RowKit
set_option synthInstance.maxSize 100000
set_option synthInstance.maxHeartbeats 0
def nlT (L:List Yy):Yy:=(L.map (· ++ [10])).flatten
theorem qt0 (t:Yy) (L:List Yy):nlT (t::L)=t++(10::nlT L):=by simp [nlT]
theorem j7k {q:Rq} (h:q2t q.1 q.2=true):Lib.join ([q.1,q06 q.2].map fun t=>if q4j t then t else [120]) [32] = [120,32,120]:=by
 simp [(qvi (q3i h).1).2,(q3q (q3i h).2).2,qzs]
set_option synthInstance.maxSize 100000
set_option synthInstance.maxHeartbeats 0
theorem qqv {a b:Yy} (h:a <+: b) (k:Nat):a.drop k <+: b.drop k:=by
 obtain ⟨t,rfl⟩:=h
 rw [List.drop_append]
 exact List.prefix_append _ _
def j8q (f:Yy) (ws:List Lx.Wd):Prop:=∀w∈ws,∃ p:Nat,w.2=(p:Int)/\w.1 <+: f.drop p
theorem j8q.snoc {f:Yy} {ws:List Lx.Wd} {u:Yy} {p:Nat} (h:j8q f ws) (hu:u <+: f.drop p):j8q f (ws ++ [(u,(p:Int))]):=fun w hw=>by
 rcases List.mem_append.1 hw with hw|hw
 ·exact h w hw
 ·rw [List.mem_singleton.1 hw];exact ⟨p,rfl,hu⟩
theorem q8y (f:Yy) : ∀(l pre:Yy) (op:Bool) (ws:List Lx.Wd),f=pre++l->j8q f ws->(op=true->∃ ws0 p,ws=ws0 ++ [(pre.drop p,((p:Nat):Int))]/\p<=pre.length)->j8q f (Lx.qhy l pre.length op ws)
 | [],pre,op,ws,_,h,_=>by rw [Lx.qhy];exact h
 | c::r,pre,op,ws,hf,h,ho=>by
  have hf':f=(pre ++ [c])++r:=by rw [hf];simp
  have hl:pre.length+1=(pre ++ [c]).length:=by simp
  have hc : [c] <+: f.drop pre.length:=by rw [hf,List.drop_left];exact ⟨r,rfl⟩
  rw [Lx.qhy,hl]
  split
  ·exact q8y f r _ false _ hf' (h.snoc hc) (fun e=>by cases e)
  ·split
   ·exact q8y f r _ false _ hf' h (fun e=>by cases e)
   ·split
    ·rename_i h3
     obtain ⟨ws0,p,rfl,hp⟩:=ho h3
     rw [Lx.q2q]
     have e1:pre.drop p ++ [c]=(pre ++ [c]).drop p:=by rw [List.drop_append_of_le_length hp]
     rw [e1]
     have hp2:p<=(pre ++ [c]).length:=by rw [List.length_append];omega
     have hd:(pre ++ [c]).drop p <+: f.drop p:=by
      rw [hf',List.drop_append_of_le_length hp2]
      exact List.prefix_append _ _
     exact q8y f r _ true _ hf' (j8q.snoc (fun w hw=>h w (List.mem_append_left _ hw)) hd) (fun _=>⟨ws0,p,rfl,hp2⟩)
    ·refine q8y f r _ true _ hf' (h.snoc hc) (fun _=>⟨ws,pre.length,?_,by simp⟩)
     rw [List.drop_left]
theorem qxm (t:Yy):j8q t (q0v t):=by
 unfold q0v Lx.qno
 rw [Lx.qbq]
 have h:=q8y (t.take (Lx.j11 t false)) (t.take (Lx.j11 t false)) [] false [] rfl (fun w hw=>by cases hw) (fun e=>by cases e)
 intro w hw
 obtain ⟨p,h1,h2⟩:=h w hw
 exact ⟨p,h1,h2.trans (qqv (List.take_prefix _ _) p)⟩
def AtL (s:Yy):Nat->List Yy->Prop
 | _,[]=>True
 | st,t::ts=>t <+: s.drop st/\AtL s (st+t.length+1) ts
theorem qhn (s tl:Yy) : ∀(l pre cur:Yy),s=pre++(cur++(l++tl))->AtL s pre.length (spl 10 cur l)
 | [],pre,cur,h=>by
  rw [spl]
  exact ⟨by rw [h,List.drop_left];exact List.prefix_append _ _,trivial⟩
 | b::l,pre,cur,h=>by
  rw [spl]
  split
  ·refine ⟨by rw [h,List.drop_left];exact List.prefix_append _ _,?_⟩
   have:=qhn s tl l (pre++cur ++ [b]) [] (by rw [h];simp)
   simpa [Nat.add_assoc] using this
  ·exact qhn s tl l pre (cur ++ [b]) (by rw [h];simp)
theorem j4e (s:Yy):AtL s 0 (Lx.q07 s):=by
 unfold Lx.q07
 split
 ·trivial
 ·split
  ·rename_i h0 h1
   have:=qhn s [10] s.dropLast [] [] (by
    rcases List.eq_nil_or_concat s with rfl|⟨m,c,rfl⟩
    ·exact absurd rfl h0
    ·rw [List.concat_eq_append] at h1 ⊢
     rw [qej] at h1
     rw [of_decide_eq_true h1];simp)
   exact this
  ·exact qhn s [] s [] [] (by simp)
def jbw (s:Yy) (σ:MS):Prop:=∀p x,q01 clT (q0r,(p,v0)) σ.sd=some x->∃ (v:VD) (a:Nat),(p,v)∈σ.rq/\x=((a:Int),((a+(q06 v).length:Nat):Int))/\q06 v <+: s.drop a
theorem j2v {s t:Yy} {st:Nat} {σ σ':MS} (h:jbw s σ) (ht:t <+: s.drop st) (e:q2j σ (st:Int) (q0v t) = .inr σ'):jbw s σ':=by
 rcases q88 e with hs|⟨b,rfl⟩
 ·obtain ⟨d1,d2,d3,d4,d5,d6,d7,d8,d9,d10⟩:=kd
  cases hs with
  | mo w hw h0 hc=>intro p x hx;exact h p x ((q30 (fun e=>d2.symm (congrArg Prod.fst e)) _ _).symm.trans hx)
  | go w hw h0 hc=>intro p x hx;exact h p x ((q30 (fun e=>d5.symm (congrArg Prod.fst e)) _ _).symm.trans hx)
  | ex y q hy hz h0 h1 hc=>intro p x hx;exact h p x ((q30 (fun e=>d8 (congrArg Prod.fst e)) _ _).symm.trans hx)
  | sw y q hy hz h0 h1 hc=>intro p x hx;exact h p x ((q30 (fun e=>d9 (congrArg Prod.fst e)) _ _).symm.trans hx)
  | rt y hz h0 h1 hc=>exact h
  | rq y q hy hz h0 h1 hc =>
   intro p x hx
   replace hx:q01 clT (q0r,(p,v0)) (q0n clT (q0r,(q.1,v0)) (ps st y) σ.sd)=some x:=hx
   rw [q1b] at hx
   cases hk:eqT clT (q0r,(p,v0)) (q0r,(q.1,v0)) with
   | true =>
    rw [hk,cond_true] at hx
    have hp:p=q.1:=by
     have:=(qat (q0r,(p,v0)) (q0r,(q.1,v0))).1 hk
     simpa using this
    obtain ⟨b,hb1,hb2⟩:=qxm t y hy
    refine ⟨q.2,st+b,by rw [hp];exact List.mem_append_right _ (List.mem_singleton.2 rfl),?_,?_⟩
    ·rw [<-Option.some.inj hx,ps,hb1,h1]
     refine Prod.ext ?_ ?_<;>simp only<;>omega
    ·rw [h1,<-List.drop_drop]
     exact hb2.trans (qqv ht b)
   | false =>
    rw [hk,cond_false] at hx
    obtain ⟨v,a,h2,h3,h4⟩:=h p x hx
    exact ⟨v,a,List.mem_append_left _ h2,h3,h4⟩
 ·exact h
theorem qqm (s:Yy) : ∀(ls:List Yy) (i:Int) (st:Nat) (σ σ':MS),jbw s σ->AtL s st ls->q1k ls i (st:Int) σ = .inr σ'->jbw s σ'
 | [],i,st,σ,σ',h,_,e=>by cases e;exact h
 | t::ts,i,st,σ,σ',h,ha,e=>by
  rw [q1k] at e
  split at e
  ·cases e
  ·rename_i σ1 h1
   refine qqm s ts (i+1) (st+t.length+1) σ1 σ' (j2v h ha.1 h1) ha.2 ?_
   rw [show ((st+t.length+1:Nat):Int)=(st:Int)+((t.length:Nat):Int)+1 by omega]
   exact e
def Rp (L:List Yy) (τ:MS) (m:MD):Prop:=∀(i st:Int) (more:List Yy),∃ i' st' τ',q1k (L++more) i st τ=q1k more i' st' τ'/\GoodM τ'/\τ'.bk = []/\τ'.md=m
theorem Rp.step {t:Yy} {L:List Yy} {τ:MS} {m:MD} (h : ∀st,∃ τ1,q2j τ st (q0v t) = .inr τ1/\Rp L τ1 m):Rp (t::L) τ m:=fun i st more=>by
 obtain ⟨τ1,h1,h2⟩:=h st
 rw [List.cons_append,q1k,h1]
 exact h2 _ _ more
set_option synthInstance.maxSize 100000
set_option synthInstance.maxHeartbeats 0
theorem Rp.app {L L':List Yy} {τ:MS} {m m':MD} (h:Rp L τ m) (h2 : ∀τ',GoodM τ'->τ'.bk = []->τ'.md=m->Rp L' τ' m'):Rp (L++L') τ m':=fun i st more=>by
 obtain ⟨i1,s1,τ1,e1,g1,b1,m1⟩:=h i st (L'++more)
 obtain ⟨i2,s2,τ2,e2,g2,b2,m2⟩:=h2 τ1 g1 b1 m1 i1 s1 more
 exact ⟨i2,s2,τ2,by rw [List.append_assoc,e1,e2],g2,b2,m2⟩
theorem qm0 : ∀{l:List Rq} {p:Yy} {v v':VD},(l.map Prod.fst).Nodup->(p,v)∈l->(p,v')∈l->v=v'
 | a::l,p,v,v',hn,h1,h2=>by
  rw [List.map_cons,List.nodup_cons] at hn
  rcases List.mem_cons.1 h1 with e1|h1
  ·rcases List.mem_cons.1 h2 with e2|h2
   ·rw [<-e1] at e2;exact (Prod.mk.inj e2).2.symm
   ·exact absurd (List.mem_map.2 ⟨_,h2,by rw [<-e1]⟩) hn.1
  ·rcases List.mem_cons.1 h2 with e2|h2
   ·exact absurd (List.mem_map.2 ⟨_,h1,by rw [<-e2]⟩) hn.1
   ·exact qm0 hn.2 h1 h2
theorem j41 {s:Yy} {σ:MS} (h:IsM s σ) {q:Rq} (hq:q∈σ.rq) : ∃ a:Nat,q1s s q.1=((a:Int),(((a+(q06 q.2).length:Nat):Int),true))/\a+(q06 q.2).length<=s.length/\(s.drop a).take (q06 q.2).length=q06 q.2:=by
 have g:=h.good
 have hp:jbw s σ:=qqm s _ 0 0 ms0 σ (fun p x hx=>by cases hx) (j4e s) h.rd
 have hc:q05 σ (q0r,(q.1,v0))=true:=(g.rk q.1).2 (List.mem_map.2 ⟨q,hq,rfl⟩)
 unfold q05 at hc
 obtain ⟨x,hx⟩:=Option.isSome_iff_exists.1 hc
 obtain ⟨v,a,h1,h2,h3⟩:=hp q.1 x hx
 have hv:v=q.2:=qm0 g.rn h1 hq
 subst hv
 refine ⟨a,?_,?_,?_⟩
 ·unfold q1s
  rw [qhu h]
  show (match q01 clT (q0r,(q.1,v0)) σ.sd with
  | some x=>(x.1,(x.2,true))
  | none=>(0,(0,false)))=_
  rw [hx,h2]
 ·have hl:=h3.length_le
  have hne:=(q3q (q3i (g.rq q hq)).2).1.1
  have hpos:0<(q06 q.2).length:=List.length_pos_iff.2 hne
  rw [List.length_drop] at hl
  omega
 ·exact (List.prefix_iff_eq_take.1 h3).symm
def wb (c:UInt8):Bool:=!Lx.q29 c && !Lx.isB c
def jaz (r:Yy):Prop:=r = [] \/ ∃ c t,r=c::t/\wb c=false
theorem j5m {c:UInt8} (h:wb c=true):Lx.q29 c=false/\Lx.isB c=false:=by
 unfold wb at h;simpa using h
theorem j5k {r:Yy} (h:jaz r) (k:Nat) (o1 o2:Bool) (W:List Lx.Wd):Lx.q2g r k o1 W=Lx.q2g r k o2 W:=by
 rcases h with rfl|⟨c,t,rfl,hc⟩
 ·rfl
 ·rw [Lx.q0x,Lx.q0x]
  by_cases h1:Lx.q29 c=true
  ·rw [if_pos h1,if_pos h1]
  ·have h2:Lx.isB c=true:=by unfold wb at hc;simp at hc;exact hc (by simpa using h1)
   rw [if_neg h1,if_neg h1,if_pos h2,if_pos h2]
theorem qcd : ∀l:Yy,∃ y r,l=y++r/\(∀c∈y,wb c=true)/\jaz r
 | []=>⟨[],[],rfl,fun c h=>(by cases h),.inl rfl⟩
 | c::l=>by
  cases hc:wb c with
  | false=>exact ⟨[],c::l,rfl,fun c h=>(by cases h),.inr ⟨c,l,rfl,hc⟩⟩
  | true =>
   obtain ⟨y,r,h1,h2,h3⟩:=qcd l
   refine ⟨c::y,r,by rw [h1];rfl,fun d hd=>?_,h3⟩
   rcases List.mem_cons.1 hd with rfl|hd
   ·exact hc
   ·exact h2 d hd
theorem qq8 (r:Yy) : ∀(w:Yy) (i:Nat) (ws:List Lx.Wd) (u:Yy) (p:Int),(∀c∈w,wb c=true)->Lx.q2g (w++r) i true (ws ++ [(u,p)])=Lx.q2g r (i+w.length) true (ws ++ [(u++w,p)])
 | [],i,ws,u,p,_=>by simp
 | c::w,i,ws,u,p,h=>by
  obtain ⟨h1,h2⟩:=j5m (h c (List.mem_cons_self ..))
  rw [List.cons_append,Lx.q0x,h1,h2]
  simp only [Bool.false_eq_true,if_false,if_true]
  rw [Lx.q2q,qq8 r w (i+1) ws (u ++ [c]) p (fun d hd=>h d (List.mem_cons_of_mem _ hd))]
  simp only [List.append_assoc,List.singleton_append,List.length_cons]
  congr 1;omega
theorem q99 {c:UInt8} {y r:Yy} (hy : ∀d∈c::y,wb d=true) (hr:jaz r) (hp:Lx.pfx (c::(y++r))=false) (i:Nat) (ws:List Lx.Wd):Lx.q2g (c::(y++r)) i false ws=Lx.q2g r (i+(y.length+1)) false (ws ++ [(c::y,((i:Nat):Int))]):=by
 obtain ⟨h1,h2⟩:=j5m (hy c (List.mem_cons_self ..))
 rw [Lx.q0x,h1,h2,hp]
 simp only [Bool.false_eq_true,if_false]
 rw [qq8 r y (i+1) ws [c] _ (fun d hd=>hy d (List.mem_cons_of_mem _ hd)),j5k hr _ true false]
 simp only [List.singleton_append]
 congr 1;omega
theorem q9i : ∀(k:Nat) (l:Yy),l.length<=k->∀(i:Nat) (ws:List Lx.Wd),Lx.q2g l i false ws=(ws++(Lx.q2g l i false []).1,(Lx.q2g l i false []).2)
 | _,[],_,i,ws=>by simp [Lx.q2g]
 | 0,c::l,h,i,ws=>by simp at h
 | k+1,c::l,h,i,ws=>by
  simp only [List.length_cons] at h
  by_cases h1:Lx.q29 c=true
  ·rw [qjw c h1,qjw c h1,q9i k l (by omega) (i+1) (ws++_),q9i k l (by omega) (i+1) ([]++_)]
   simp
  ·by_cases h2:Lx.isB c=true
   ·have hb:Lx.q29 c=false/\Lx.isB c=true:=⟨by simpa using h1,h2⟩
    rw [q8z c hb,q8z c hb,q9i k l (by omega) (i+1) ws]
   ·have hw:wb c=true:=by unfold wb;simp [h1,h2]
    by_cases hp:Lx.pfx (c::l)=true
    ·rw [Lx.q0x,Lx.q0x,if_neg h1,if_neg h2,if_neg h1,if_neg h2]
     simp [hp]
    ·obtain ⟨y,r,rfl,hy,hr⟩:=qcd l
     have hall : ∀d∈c::y,wb d=true:=fun d hd=>by
      rcases List.mem_cons.1 hd with rfl|hd
      ·exact hw
      ·exact hy d hd
     have hl:r.length<=k:=by simp at h;omega
     rw [q99 hall hr (by simpa using hp),q99 hall hr (by simpa using hp),q9i k r hl _ (ws++_),q9i k r hl _ ([]++_)]
     simp
theorem qn0 (l:Yy) (i:Nat) (ws:List Lx.Wd):Lx.q2g l i false ws=(ws++(Lx.q2g l i false []).1,(Lx.q2g l i false []).2):=q9i l.length l (Nat.le_refl _) i ws
theorem qn5 : ∀(l:Yy) (i j:Nat) (op:Bool) (ws ws':List Lx.Wd),tx ws=tx ws'->tx (Lx.q2g l i op ws).1=tx (Lx.q2g l j op ws').1
 | [],i,j,op,ws,ws',h=>h
 | c::l,i,j,op,ws,ws',h=>by
  rw [Lx.q0x,Lx.q0x]
  split
  ·exact qn5 l _ _ _ _ _ (by simp [h])
  ·split
   ·exact qn5 l _ _ _ _ _ h
   ·split
    ·refine qn5 l _ _ _ _ _ ?_
     rcases List.eq_nil_or_concat ws with rfl|⟨m,x,rfl⟩
     ·rcases List.eq_nil_or_concat ws' with rfl|⟨m',x',rfl⟩
      ·rfl
      ·simp at h
     ·rcases List.eq_nil_or_concat ws' with rfl|⟨m',x',rfl⟩
      ·simp at h
      ·obtain ⟨u,p⟩:=x
       obtain ⟨u',p'⟩:=x'
       rw [List.concat_eq_append,List.concat_eq_append] at h ⊢
       rw [Lx.q2q,Lx.q2q]
       simp only [List.map_append,List.map_cons,List.map_nil] at h ⊢
       obtain ⟨h1,h2⟩:=List.append_inj' h rfl
       rw [h1,(List.cons.inj h2).1]
    ·split
     ·exact h
     ·exact qn5 l _ _ _ _ _ (by simp [h])
theorem qhz : ∀(k:Nat) (l:Yy),l.length<=k->∀(i:Nat) (A:List Lx.Wd) (w0:Lx.Wd) (B:List Lx.Wd),(Lx.q2g l i false []).1=A++w0::B->plain w0.1->∃ u r,l=u++(w0.1++r)/\w0.2=((i+u.length:Nat):Int)/\jaz r /\
  ∀(j:Nat) (z:Yy),∃ e,tx e=tx A/\(i=j->e=A)/\Lx.q2g (u++z) j false []=(e++(Lx.q2g z (j+u.length) false []).1,(Lx.q2g z (j+u.length) false []).2)
 | _,[],_,i,A,w0,B,hw,_=>by rw [Lx.q2g] at hw;simp at hw
 | 0,c::l,h,_,_,_,_,_,_=>by simp at h
 | k+1,c::l,h,i,A,w0,B,hw,hp0=>by
  simp only [List.length_cons] at h
  by_cases h1:Lx.q29 c=true
  ·rw [qjw c h1,qn0] at hw
   replace hw:([c],(i:Int))::(Lx.q2g l (i+1) false []).1=A++w0::B:=by simpa using hw
   cases A with
   | nil =>
    have hw0:=(List.cons.inj hw).1
    rw [<-hw0] at hp0
    exact absurd (qei (hp0.2.2 c (List.mem_cons_self ..))).1 (by rw [h1];decide)
   | cons a A =>
    obtain ⟨ha,hw⟩:=List.cons.inj hw
    obtain ⟨u,r,e1,e2,e3,e5⟩:=qhz k l (by omega) (i+1) A w0 B hw hp0
    refine ⟨c::u,r,by rw [e1];rfl,by rw [e2,List.length_cons];omega,e3,fun j z=>?_⟩
    obtain ⟨e,f1,f3,f4⟩:=e5 (j+1) z
    refine ⟨([c],(j:Int))::e,by rw [<-ha];simp [f1],fun hij=>by subst hij;rw [f3 rfl,<-ha],?_⟩
    rw [List.cons_append,qjw c h1,qn0,f4,List.length_cons]
    simp [Nat.add_assoc,Nat.add_comm 1]
  ·by_cases h2:Lx.isB c=true
   ·have hb:Lx.q29 c=false/\Lx.isB c=true:=⟨by simpa using h1,h2⟩
    rw [q8z c hb] at hw
    obtain ⟨u,r,e1,e2,e3,e5⟩:=qhz k l (by omega) (i+1) A w0 B hw hp0
    refine ⟨c::u,r,by rw [e1];rfl,by rw [e2,List.length_cons];omega,e3,fun j z=>?_⟩
    obtain ⟨e,f1,f3,f4⟩:=e5 (j+1) z
    refine ⟨e,f1,fun hij=>f3 (by omega),?_⟩
    rw [List.cons_append,q8z c hb,f4,List.length_cons]
    simp [Nat.add_assoc,Nat.add_comm 1]
   ·have hwc:wb c=true:=by unfold wb;simp [h1,h2]
    by_cases hp:Lx.pfx (c::l)=true
    ·rw [Lx.q0x,if_neg h1,if_neg h2] at hw
     simp [hp] at hw
    ·obtain ⟨y,r,rfl,hy,hr⟩:=qcd l
     have hall : ∀d∈c::y,wb d=true:=fun d hd=>by
      rcases List.mem_cons.1 hd with rfl|hd
      ·exact hwc
      ·exact hy d hd
     have hl:r.length<=k:=by simp at h;omega
     have hp':Lx.pfx (c::(y++r))=false:=by simpa using hp
     rw [q99 hall hr hp',qn0] at hw
     replace hw:(c::y,(i:Int))::(Lx.q2g r (i+(y.length+1)) false []).1=A++w0::B:=by simpa using hw
     cases A with
     | nil =>
      have hw0:=(List.cons.inj hw).1
      subst hw0
      exact ⟨[],r,rfl,by simp,hr,fun j z=>⟨[],rfl,fun _=>rfl,by simp⟩⟩
     | cons a A =>
      obtain ⟨ha,hw⟩:=List.cons.inj hw
      obtain ⟨u,r2,e1,e2,e3,e5⟩:=qhz k r hl (i+(y.length+1)) A w0 B hw hp0
      have hu : ∃ b u',u=b::u'/\wb b=false:=by
       cases u with
       | cons b u' =>
        rcases hr with rfl|⟨b',t',hr1,hr2⟩
        ·cases e1
        ·rw [hr1] at e1
         have:=(List.cons.inj e1).1
         exact ⟨b,u',rfl,by rw [<-this];exact hr2⟩
       | nil =>
        exfalso
        rcases hr with rfl|⟨b',t',hr1,hr2⟩
        ·cases hw0:w0.1 with
         | nil=>exact hp0.1 hw0
         | cons a t=>rw [hw0] at e1;cases e1
        ·cases hw0:w0.1 with
         | nil=>exact hp0.1 hw0
         | cons a t =>
          rw [hw0,hr1] at e1
          have ha:b'=a:=(List.cons.inj e1).1
          have hpl:=qei (hp0.2.2 a (by rw [hw0];exact List.mem_cons_self ..))
          rw [ha] at hr2
          unfold wb at hr2
          rw [hpl.1,hpl.2.1] at hr2
          cases hr2
      obtain ⟨b,u',hu1,hu2⟩:=hu
      have hpz : ∀z,Lx.pfx (c::(y++(u++z)))=false:=fun z=>by
       have hp2:=hp'
       rw [e1,hu1] at hp2
       rw [hu1]
       cases y with
       | nil =>
        simp only [List.nil_append,List.cons_append,Lx.pfx] at hp2 ⊢
        exact hp2
       | cons d y =>
        simp only [List.cons_append,Lx.pfx] at hp2 ⊢
        exact hp2
      have hbz : ∀z,jaz (u++z):=fun z=>.inr ⟨b,u'++z,by rw [hu1];rfl,hu2⟩
      refine ⟨c::(y++u),r2,by rw [e1];simp,by rw [e2];simp only [List.length_cons,List.length_append];omega,e3,fun j z=>?_⟩
      obtain ⟨e,f1,f3,f4⟩:=e5 (j+(y.length+1)) z
      refine ⟨(c::y,(j:Int))::e,by rw [<-ha];simp [f1],fun hij=>by subst hij;rw [f3 rfl,<-ha],?_⟩
      rw [show c::(y++u)++z=c::(y++(u++z)) by simp,q99 hall (hbz z) (hpz z),qn0,f4]
      have e9:j+(y.length+1)+u.length=j+(c::(y++u)).length:=by simp only [List.length_cons,List.length_append];omega
      rw [e9]
      simp
theorem j2t {t:Yy} {A:List Lx.Wd} {w0:Lx.Wd} {B:List Lx.Wd} (h:q0v t=A++w0::B) (hp:plain w0.1) : ∃ u r,t=u++(w0.1++r)/\w0.2=((u.length:Nat):Int)/\∀x,plain x->∃ B',tx B'=tx B/\q0v (u++(x++r))=A++(x,((u.length:Nat):Int))::B':=by
 unfold q0v Lx.qno at h ⊢
 obtain ⟨u,r,e1,e2,e3,e5⟩:=qhz t.length t (Nat.le_refl _) 0 A w0 B h hp
 rw [Nat.zero_add] at e2
 have key : ∀x,plain x->(Lx.q2g (u++(x++r)) 0 false []).1=A++(x,((u.length:Nat):Int))::(Lx.q2g r (u.length+x.length) false []).1:=fun x hx=>by
  obtain ⟨e,f1,f3,f4⟩:=e5 0 (x++r)
  rw [f4,f3 rfl,Nat.zero_add,j3w hx,j5k e3 _ true false,qn0]
  simp
 refine ⟨u,r,e1,e2,fun x hx=>⟨_,?_,key x hx⟩⟩
 have h0:=key w0.1 hp
 rw [<-e1,h] at h0
 have hB:B=(Lx.q2g r (u.length+w0.1.length) false []).1:=by
  have:=List.append_cancel_left h0
  exact (List.cons.inj this).2
 rw [hB]
 exact qn5 r _ _ false [] [] rfl
set_option synthInstance.maxSize 100000
set_option synthInstance.maxHeartbeats 0
def tk1:List Lx.Wd->Bool
 | [a]=>!q4j a.1
 | _=>false
def tk2:List Lx.Wd->Bool
 | [a,b]=>!q4j a.1 && !q4j b.1
 | _=>false
def tk3:List Lx.Wd->Bool
 | [a,b,c]=>!q4j a.1&&(decide (b.1 = [61,62]) && !q4j c.1)
 | _=>false
def tk5:List Lx.Wd->Bool
 | [a,b,c,d,e]=>decide (a.1 = [91])&&(!q4j b.1&&(decide (c.1 = [44])&&(!q4j d.1&&decide (e.1 = [93]))))
 | _=>false
theorem j39 (w:Lx.Wd):q7h w = [120]↔q4j w.1=false:=by
 unfold q7h
 cases h:q4j w.1 with
 | false=>simp
 | true =>
  simp only [if_true,Bool.true_eq_false,iff_false]
  rcases q6i h with e|e|e|e|e|e<;>rw [e]<;>decide
theorem j2i (w:Lx.Wd) {m:Yy} (hm:q4j m=true):q7h w=m↔w.1=m:=by
 unfold q7h
 cases h:q4j w.1 with
 | true=>simp
 | false =>
  simp only [Bool.false_eq_true,if_false]
  constructor
  ·intro e;rw [<-e] at hm;exact absurd hm (by decide)
  ·intro e;rw [e,hm] at h;cases h
theorem qjy {S:Yy} {T:List Yy} (hS:S ≠ []) (hT:spl 32 [] S=T) (hj:Lib.join T [32]=S) (ws:List Lx.Wd):shp ws=S↔ws.map q7h=T:=by
 constructor
 ·intro h;rw [qwl h hS,hT]
 ·intro h;unfold shp;rw [h,hj]
theorem shp1 (ws:List Lx.Wd):decide (shp ws = [120])=tk1 ws:=by
 have e0:decide (shp ws = [120])=decide (ws.map q7h = [[120]]):=decide_eq_decide.2 (qjy (S:=[120]) (T:=[[120]]) (by decide) (by decide) (by decide) ws)
 rw [e0]
 match ws with
 | []=>rfl
 | [a]=>simp only [List.map_cons,List.map_nil,List.cons.injEq,and_true,j39,tk1];cases q4j a.1<;>rfl
 | a::b::r=>simp [tk1]
theorem shp2 (ws:List Lx.Wd):decide (shp ws = [120,32,120])=tk2 ws:=by
 have e0:decide (shp ws = [120,32,120])=decide (ws.map q7h = [[120],[120]]):=decide_eq_decide.2 (qjy (S:=[120,32,120]) (T:=[[120],[120]]) (by decide) (by decide) (by decide) ws)
 rw [e0]
 match ws with
 | []=>rfl
 | [a]=>simp [tk2]
 | [a,b]=>simp only [List.map_cons,List.map_nil,List.cons.injEq,and_true,j39,tk2];cases q4j a.1<;>cases q4j b.1<;>rfl
 | a::b::c::r=>simp [tk2]
theorem shp3 (ws:List Lx.Wd):decide (shp ws = [120,32,61,62,32,120])=tk3 ws:=by
 have e0:decide (shp ws = [120,32,61,62,32,120])=decide (ws.map q7h = [[120],[61,62],[120]]):=decide_eq_decide.2 (qjy (S:=[120,32,61,62,32,120]) (T:=[[120],[61,62],[120]]) (by decide) (by decide) (by decide) ws)
 rw [e0]
 match ws with
 | []=>rfl
 | [a]=>simp [tk3]
 | [a,b]=>simp [tk3]
 | [a,b,c] =>
  simp only [List.map_cons,List.map_nil,List.cons.injEq,and_true,j39,j2i _ (show q4j [61,62]=true from by decide),tk3,Bool.decide_and]
  cases q4j a.1<;>cases q4j c.1<;>rfl
 | a::b::c::d::r=>simp [tk3]
theorem shp5 (ws:List Lx.Wd):decide (shp ws = [91,32,120,32,44,32,120,32,93])=tk5 ws:=by
 have e0:decide (shp ws = [91,32,120,32,44,32,120,32,93])=decide (ws.map q7h = [[91],[120],[44],[120],[93]]):=decide_eq_decide.2 (qjy (S:=[91,32,120,32,44,32,120,32,93]) (T:=[[91],[120],[44],[120],[93]]) (by decide) (by decide) (by decide) ws)
 rw [e0]
 match ws with
 | []=>rfl
 | [a]=>simp [tk5]
 | [a,b]=>simp [tk5]
 | [a,b,c]=>simp [tk5]
 | [a,b,c,d]=>simp [tk5]
 | [a,b,c,d,e] =>
  simp only [List.map_cons,List.map_nil,List.cons.injEq,and_true,j39,j2i _ (show q4j [91]=true from by decide),j2i _ (show q4j [44]=true from by decide),j2i _ (show q4j [93]=true from by decide),tk5,Bool.decide_and]
  cases q4j b.1<;>cases q4j d.1<;>rfl
 | a::b::c::d::e::f::r=>simp [tk5]
def fS (v:Yy) (ws:List Lx.Wd):Bool :=
 if v=qd9 then tk1 ws else if v=kGo then tk1 ws else if v=q0r then tk2 ws else if v=qb4 then tk2 ws else if v=qb3 then tk3 ws else if v=qx7 then (tk1 ws||tk5 ws) else false
theorem j1i (v:Yy) (ws:List Lx.Wd):decide (shp ws∈q20 v)=fS v ws:=by
 unfold q20 fS
 split
 ·rw [<-shp1];simp
 ·split
  ·rw [<-shp1];simp
  ·split
   ·rw [<-shp2];simp
   ·split
    ·rw [<-shp2];simp
    ·split
     ·rw [<-shp3];simp
     ·split
      ·rw [<-shp1,<-shp5];simp
      ·simp
end Go.Proofs.YtapfankgdkdkgaaGreatDoor.AM
