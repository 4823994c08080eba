
import Derived.Test.YtapfankgdkdkgaaGreatDoorEb26
set_option linter.unusedVariables false
set_option linter.unusedSimpArgs false
namespace Go.Proofs.YtapfankgdkdkgaaGreatDoor.AM
open Go.RowKit
set_option synthInstance.maxSize 100000
set_option synthInstance.maxHeartbeats 0
def k8d (x:Sp):Yy:=if k2b x=jh5 x then q1g (k2b x) else 91::(q1g (k2b x)++44::32::(q1g (jh5 x) ++ [93]))
def rqL (q:Rq):List (Yy):=[q43,q.1,q1g q.2]
theorem qbo (v:VD):(q1g v).length<=92:=by
 unfold q1g
 split
 ·exact jx8 ‹_›
 ·simp
theorem q79 {s t:Yy} (h:s.length+t.length<=9223372036854775807):q7s s t=some (s++t):=by unfold q7s;rw [if_pos h]
theorem jq9 : ∀(ls:List (Yy)) (i st:Int) (k:Nat) (σ σ':MS),SB k σ->q5o ls i st σ = .inr σ'->SB (k+ls.length) σ'
 | [],i,st,k,σ,σ',h,e=>by cases e;exact h
 | t::ts,i,st,k,σ,σ',h,e=>by
  rw [q5o] at e
  split at e
  ·cases e
  ·rename_i σ1 h1
   have:=jq9 ts _ _ (k+1) σ1 σ' (jg0 h h1) e
   rw [List.length_cons,show k+(ts.length+1)=k+1+ts.length by omega]
   exact this
theorem k09 (s:Yy):ML (s.length+1) (q9i s).1:=by
 obtain ⟨l1,l2⟩:=Lx.q57 s
 unfold q9i qcv
 split
 ·rename_i e he
  exact ⟨Nat.zero_le _,Nat.zero_le _,Nat.zero_le _,Nat.zero_le _⟩
 ·rename_i σ k he
  split at he
  ·cases he
  ·split at he
   ·cases he
   ·rename_i σ1 h1
    have h2:=jq9 _ 0 0 0 ms0 σ1 ⟨Nat.le_refl _,Nat.le_refl _,Nat.le_refl _,Nat.le_refl _⟩ h1
    split at he
    ·cases he
    ·split at he
     ·cases he
     ·cases he
      obtain ⟨b1,b2,b3,b4⟩:=h2
      exact ⟨by show σ.rq.length<=_;omega,by show σ.sw.length<=_;omega,by show σ.ex.length<=_;omega,by show σ.rt.length<=_;omega⟩
theorem ML.mono {k j:Nat} {m:MD} (h:ML k m) (hj:k<=j):ML j m:=by unfold ML at *;omega
end Go.Proofs.YtapfankgdkdkgaaGreatDoor.AM
namespace Go.Proofs.YtapfankgdkdkgaaGreatDoor.AM
open Go.RowKit
def plb (c:UInt8):Bool:=Lx.okc c&&(!Lx.q2k c && !Lx.isB c)
def plain (w:Yy):Prop:=w ≠ []/\w.head? ≠ some 47/\∀c∈w,plb c=true
theorem j9o (c:UInt8) (h:qqm c=true):plb c=true/\c≠47:=by
 have h1 : ∀i:Fin 256,qqm (UInt8.ofNat i.1)=true->plb (UInt8.ofNat i.1)=true/\UInt8.ofNat i.1≠47:=by decide +kernel
 have:=h1 ⟨c.toNat,c.toNat_lt⟩
 simpa [h] using this
theorem jkj (c:UInt8) (h:q1e c=true):qqm c=true:=by unfold qqm;rw [h];simp
theorem pl46:plb 46=true:=by decide
theorem pl47:plb 47=true:=by decide
theorem jqb (c:UInt8) (h:qgb c=true):plb c=true/\c≠47:=by
 have h1 : ∀i:Fin 256,qgb (UInt8.ofNat i.1)=true->plb (UInt8.ofNat i.1)=true/\UInt8.ofNat i.1≠47:=by decide +kernel
 have:=h1 ⟨c.toNat,c.toNat_lt⟩
 simpa [h] using this
theorem jzw {w:Yy} (h:qcq w=true):w.all qgb=true:=by
 unfold qcq at h
 simp only [Bool.and_eq_true] at h
 exact h.2.2.2
theorem jmu {p:Yy} (h:q4u p=true):plain p:=by
 have h2:=(qli h).2
 refine ⟨k5j h,fun hd=>?_,fun c hc=>?_⟩
 ·cases p with
  | nil=>cases hd
  | cons a r =>
   simp only [List.head?_cons,Option.some.injEq] at hd
   subst hd
   rw [spl,if_pos rfl,List.all_cons,show qcq []=false from rfl] at h2
   cases h2
 ·have h3:(spl 47 [] p).all (fun w=>w.all qgb)=true:=by
   rw [List.all_eq_true] at h2 ⊢
   exact fun w hw=>jzw (h2 w hw)
  rcases ((j55 47 qgb p []).1 h3).2 c hc with rfl|h4
  ·exact pl47
  ·exact (jqb c h4).1
theorem jyi {p:Yy} (h:okS p=true):plain p:=jmu (jd6 h).1
theorem j4l {i:Int} (h:0<=i) : ∀c∈Lib.itoa i,plb c=true:=by
 rw [q1j h]
 intro c hc
 exact (j9o c (jkj c (List.all_eq_true.1 (qsh i.toNat).1 c hc))).1
theorem j8a {d:UInt8} (hd:plb d=true) {p:Yy->Bool} (hp : ∀w,p w=true->w.all qqm=true) {s:Yy} (h:q69 p s=true) : ∀c∈q64 d s,plb c=true:=by
 unfold q64
 split
 ·intro c hc;cases hc
 ·intro c hc
  rcases List.mem_cons.1 hc with rfl|hc
  ·exact hd
  ·rcases jhl hp h c hc with rfl|h1
   ·exact pl46
   ·exact (j9o c h1).1
theorem jmx {v:VD} (h:q1b v=true):plain (q1g v):=by
 obtain ⟨h1,h2,h3,h4,h5⟩:=q1k h
 unfold q1g
 rw [if_pos h]
 unfold jpd
 refine ⟨by simp,by simp,fun c hc=>?_⟩
 simp only [List.mem_cons,List.mem_append] at hc
 rcases hc with rfl|hc|rfl|hc|rfl|hc|hc|hc
 ·decide
 ·exact j4l h1.1 c hc
 ·exact pl46
 ·exact j4l h2.1 c hc
 ·exact pl46
 ·exact j4l h3.1 c hc
 ·exact j8a (by decide) jbn h4 c hc
 ·exact j8a (by decide) j0r h5 c hc
theorem j3g {s:Yy} (h:q5p s=true):(∀c∈s,q1e c=true)/\s ≠ []/\s.length<=9:=by
 unfold q5p at h
 simp only [Bool.and_eq_true,decide_eq_true_eq] at h
 exact ⟨fun c hc=>List.all_eq_true.1 h.1 c hc,fun h0=>by have:=h.2.1;rw [h0] at this;simp at this,h.2.2.1⟩
theorem jmq {x:Yy} (h:qde x=true) : ∃ a b,x=a++46::b/\q5p a=true/\q5p b=true:=by
 unfold qde at h
 rw [Bool.and_eq_true] at h
 by_cases hm:(46:UInt8)∈x
 ·obtain ⟨a,b,hx,ha⟩:=List.eq_append_cons_of_mem hm
  have:=j2n 46 a b ha
  rw [hx,this.1,this.2] at h
  exact ⟨a,b,hx,h.1,h.2⟩
 ·have:q7t 46 x = []:=by unfold q7t;rw [if_pos (qaf 46 x hm)]
  rw [this] at h
  cases h.2
theorem jne {x:Yy} (h:qde x=true):plain x:=by
 obtain ⟨a,b,rfl,ha,hb⟩:=jmq h
 have ha:=j3g ha
 have hb:=j3g hb
 refine ⟨by simp,fun hd=>?_,fun c hc=>?_⟩
 ·cases a with
  | nil=>exact ha.2.1 rfl
  | cons d a =>
   simp only [List.cons_append,List.head?_cons,Option.some.injEq] at hd
   exact (j9o d (jkj d (ha.1 d (List.mem_cons_self ..)))).2 hd
 ·rcases List.mem_append.1 hc with hc|hc
  ·exact (j9o c (jkj c (ha.1 c hc))).1
  ·rcases List.mem_cons.1 hc with rfl|hc
   ·exact pl46
   ·exact (j9o c (jkj c (hb.1 c hc))).1
abbrev tx (ws:List Lx.Wd):List (Yy):=ws.map Prod.fst
theorem j0b : ∀(L:List (Yy)) (i:Nat) (out:List Lx.Ln),(∀t∈L,∀c∈t,Lx.okc c=true)->(Lx.q3k L i out).2.2=0
 | [],i,out,_=>rfl
 | t::L,i,out,h=>by
  rw [Lx.q3k,if_pos (List.all_eq_true.2 (h t (List.mem_cons_self ..)))]
  exact j0b L (i+1) _ fun x hx=>h x (List.mem_cons_of_mem _ hx)
theorem j1b : ∀(L:List (Yy)) (i:Nat) (out:List Lx.Ln),(Lx.q3k L i out).2.2=0->∀t∈L,∀c∈t,Lx.okc c=true
 | [],i,out,_,t,ht=>by cases ht
 | x::L,i,out,h,t,ht=>by
  rw [Lx.q3k] at h
  split at h
  ·rename_i hx
   rcases List.mem_cons.1 ht with rfl|ht
   ·exact fun c hc=>List.all_eq_true.1 hx c hc
   ·exact j1b L (i+1) _ h t ht
  ·cases h
end Go.Proofs.YtapfankgdkdkgaaGreatDoor.AM
namespace Go.Proofs.YtapfankgdkdkgaaGreatDoor.AM
open Go.RowKit
def q0h (σ:MS) (c:Cl):Bool:=(q0c clT c σ.sd).isSome
def ps (st:Int) (w:Lx.Wd):Int×Int:=(st+w.2,st+w.2+((w.1.length:Nat):Int))
def qqd:List Lx.Wd->Nat
 | []=>0
 | w::r=>w.1.length+qqd r
theorem jkw {w:Lx.Wd} : ∀{ws:List Lx.Wd},w∈ws->w.1.length<=qqd ws
 | x::r,h=>by
  rcases List.mem_cons.1 h with rfl|h
  ·rw [qqd];omega
  ·have:=jkw h;rw [qqd];omega
theorem qup (p:Lx.Wd->Bool) : ∀ws:List Lx.Wd,qqd (ws.filter p)<=qqd ws
 | []=>Nat.le_refl _
 | x::r=>by
  have:=qup p r
  rw [List.filter_cons]
  split
  ·rw [qqd,qqd];omega
  ·rw [qqd];omega
inductive Step (σ:MS) (st:Int) (ws:List Lx.Wd):MS->Prop
 | mo (w:Lx.Wd) (hw:w∈ws) (h:okS w.1=true) (hc:q0h σ (qgj,([],v0))=false):Step σ st ws { σ with mo:=w.1,sd:=q3x clT (qgj,([],v0)) (ps st w) σ.sd }
 | go (w:Lx.Wd) (hw:w∈ws) (h:qde w.1=true) (hc:q0h σ (kGo,([],v0))=false):Step σ st ws { σ with go:=w.1,sd:=q3x clT (kGo,([],v0)) (ps st w) σ.sd }
 | rq (x:Lx.Wd) (q:Rq) (hx:x∈ws) (hz:q.1.length+x.1.length<=qqd ws) (h:qco q.1 q.2=true) (ht:q1g q.2=x.1) (hc:q0h σ (q43,(q.1,v0))=false):Step σ st ws { σ with rq:=σ.rq ++ [q],sd:=q3x clT (q43,(q.1,v0)) (ps st x) σ.sd }
 | ex (x:Lx.Wd) (q:Rq) (hx:x∈ws) (hz:q.1.length+x.1.length<=qqd ws) (h:qco q.1 q.2=true) (ht:q1g q.2=x.1) (hc:q0h σ (qct,(q.1,q.2))=false):Step σ st ws { σ with ex:=σ.ex ++ [q],sd:=q3x clT (qct,(q.1,q.2)) (ps st x) σ.sd }
 | sw (x:Lx.Wd) (q:Sw) (hx:x∈ws) (hz:q.1.length+q.2.length<=qqd ws) (h:okS q.1=true) (h2:q4u q.2=true) (hc:q0h σ (q9b,(q.1,v0))=false):Step σ st ws { σ with sw:=σ.sw ++ [q],sd:=q3x clT (q9b,(q.1,v0)) (ps st x) σ.sd }
 | rt (x:Sp) (hz:(k8d x).length<=qqd ws+4) (h:q1b (k2b x)=true) (h2:q1b (jh5 x)=true) (hc:jpc (k2b x) (jh5 x)<=0):Step σ st ws { σ with rt:=σ.rt ++ [x] }
theorem Step.mono {σ σ':MS} {st:Int} {ws ws':List Lx.Wd} (h:Step σ st ws σ') (h1 : ∀w∈ws,w∈ws') (h2:qqd ws<=qqd ws'):Step σ st ws' σ':=by
 cases h with
 | mo w hw h hc=>exact .mo w (h1 w hw) h hc
 | go w hw h hc=>exact .go w (h1 w hw) h hc
 | rq x q hx hz h ht hc=>exact .rq x q (h1 x hx) (by omega) h ht hc
 | ex x q hx hz h ht hc=>exact .ex x q (h1 x hx) (by omega) h ht hc
 | sw x q hx hz h h2 hc=>exact .sw x q (h1 x hx) (by omega) h h2 hc
 | rt x hz h h2 hc=>exact .rt x (by omega) h h2 hc
theorem qe5 {σ σ':MS} {c:Cl} {st:Int} {w:Lx.Wd} (e:q1z σ c st w = .inr σ'):q0h σ c=false/\σ' = { σ with sd:=q3x clT c (ps st w) σ.sd }:=by
 unfold q1z at e
 unfold q0h
 split at e
 ·cases e
 ·rename_i h
  cases e
  exact ⟨by simpa using h,rfl⟩
theorem jg7 {p x:Yy} {q:Rq} (e:j5i p x = .inr q):q.1=p/\qco q.1 q.2=true/\q1g q.2=x:=by
 unfold j5i at e
 split at e
 ·cases e
 ·split at e
  ·cases e
  ·split at e
   ·cases e
   ·rename_i h1 h2 h3
    cases e
    exact ⟨rfl,by simpa using h3,(qn6 (by simpa using h2)).2⟩
theorem k07 {σ σ':MS} {v:Yy} {ws:List Lx.Wd} {st:Int} (h2:v=q43\/v=qct\/v=q9b->∃ w x r,ws=w::x::r) (e:qg4 σ st v ws = .inr σ'):Step σ st ws σ':=by
 unfold qg4 at e
 split at e
 ·cases e
 ·rename_i w ws'
  have hw0:w∈w::ws':=List.mem_cons_self ..
  split at e
  ·split at e
   ·cases e
   ·rename_i h
    obtain ⟨hc,rfl⟩:=qe5 e
    exact .mo w hw0 (by simpa using h) hc
  ·split at e
   ·split at e
    ·cases e
    ·rename_i h
     obtain ⟨hc,rfl⟩:=qe5 e
     exact .go w hw0 (by simpa using h) hc
   ·split at e
    ·rename_i hv
     obtain ⟨w',x,r,hx⟩:=h2 (.inl hv)
     obtain ⟨rfl,rfl⟩:=List.cons.inj hx
     split at e
     ·cases e
     ·rename_i q hq
      obtain ⟨q1,q2,q3⟩:=jg7 hq
      obtain ⟨hc,rfl⟩:=qe5 e
      exact .rq x q (by simp) (by rw [q1,qqd,qqd];omega) q2 q3 hc
    ·split at e
     ·rename_i hv
      obtain ⟨w',x,r,hx⟩:=h2 (.inr (.inl hv))
      obtain ⟨rfl,rfl⟩:=List.cons.inj hx
      split at e
      ·cases e
      ·rename_i q hq
       obtain ⟨q1,q2,q3⟩:=jg7 hq
       obtain ⟨hc,rfl⟩:=qe5 e
       exact .ex x q (by simp) (by rw [q1,qqd,qqd];omega) q2 q3 hc
     ·split at e
      ·rename_i hv
       obtain ⟨w',x,r,hx⟩:=h2 (.inr (.inr hv))
       obtain ⟨rfl,rfl⟩:=List.cons.inj hx
       split at e
       ·cases e
       ·rename_i g1
        split at e
        ·cases e
        ·rename_i g2
         obtain ⟨hc,rfl⟩:=qe5 e
         exact .sw x (w.1,x.1) (by simp) (by rw [qqd,qqd];show w.1.length+x.1.length<=_;omega) (by simpa using g1) (by simpa using g2) hc
      ·split at e
       ·cases e
       ·rename_i g1
        split at e
        ·cases e
        ·rename_i g2
         split at e
         ·cases e
         ·rename_i g3
          cases e
          obtain ⟨a1,a2⟩:=qn6 (s:=w.1) (by simpa using g1)
          obtain ⟨b1,b2⟩:=qn6 (s:=(ws'.getLast?.getD w).1) (by simpa using g2)
          refine .rt _ ?_ a1 b1 (by simpa [k26,jxd] using g3)
          unfold k8d
          rw [k26,jxd]
          split
          ·rw [a2,qqd];omega
          ·rename_i hne
           rw [a2,b2]
           cases ws' with
           | nil=>exact absurd rfl hne
           | cons y r =>
            have hm:(y::r).getLast?.getD w∈y::r:=by
             rw [List.getLast?_eq_some_getLast (List.cons_ne_nil _ _),Option.getD_some]
             exact List.getLast_mem _
            have:=jkw hm
            rw [qqd]
            simp only [List.length_cons,List.length_append,List.length_nil]
            omega
theorem j79 {σ σ':MS} {v:Yy} {ws:List Lx.Wd} {st:Int} (e:qgc σ st v ws = .inr σ'):Step σ st ws σ':=by
 unfold qgc at e
 split at e
 ·rename_i hm
  refine (k07 (fun hv=>?_) e).mono (fun w hw=>(List.mem_filter.1 hw).1) (qup _ ws)
  have:(unm ws).length=2:=by
   rcases hv with rfl|rfl|rfl
   ·exact q97 (k:=2) (List.mem_singleton.1 hm) (by decide) (by decide)
   ·exact q97 (k:=2) (List.mem_singleton.1 hm) (by decide) (by decide)
   ·exact q97 (k:=2) (List.mem_singleton.1 hm) (by decide) (by decide)
  obtain ⟨a,b,hab⟩:=k8l this
  exact ⟨a,b,[],hab⟩
 ·cases e
theorem j8d {σ σ':MS} {ws:List Lx.Wd} {st:Int} (e:qaj σ st ws = .inr σ'):Step σ st ws σ' \/ ∃ b,σ' = { σ with bk:=b }:=by
 unfold qaj at e
 split at e
 ·cases e;exact .inr ⟨σ.bk,rfl⟩
 ·rename_i w ws'
  split at e
  ·split at e
   ·cases e;exact .inr ⟨w.1,rfl⟩
   ·exact .inl ((j79 e).mono (fun x hx=>List.mem_cons_of_mem _ hx) (by rw [qqd];omega))
  ·split at e
   ·cases e;exact .inr ⟨[],rfl⟩
   ·exact .inl (j79 e)
structure GoodM (σ:MS):Prop where
 mo:σ.mo = []\/okS σ.mo=true
 mc:q0h σ (qgj,([],v0))=true↔σ.mo ≠ []
 go:σ.go = []\/qde σ.go=true
 gk:q0h σ (kGo,([],v0))=true↔σ.go ≠ []
 rq : ∀q∈σ.rq,qco q.1 q.2=true
 rk : ∀p,q0h σ (q43,(p,v0))=true↔p∈σ.rq.map Prod.fst
 rn:(σ.rq.map Prod.fst).Nodup
 sw : ∀q∈σ.sw,okS q.1=true/\q4u q.2=true
 sk : ∀p,q0h σ (q9b,(p,v0))=true↔p∈σ.sw.map Prod.fst
 sn:(σ.sw.map Prod.fst).Nodup
 ex : ∀q∈σ.ex,qco q.1 q.2=true
 ek : ∀q:Rq,q0h σ (qct,(q.1,q.2))=true↔q∈σ.ex
 en:σ.ex.Nodup
 rt : ∀x∈σ.rt,q1b (k2b x)=true/\q1b (jh5 x)=true/\jpc (k2b x) (jh5 x)<=0
theorem k7x (c:Cl) (P:Prop) (h : ¬ P):q0h ms0 c=true↔P:=⟨fun e=>(by cases e),fun p=>absurd p h⟩
theorem k9o:GoodM ms0 where
 mo:=.inl rfl
 mc:=k7x _ _ (fun h=>h rfl)
 go:=.inl rfl
 gk:=k7x _ _ (fun h=>h rfl)
 rq:=fun q h=>by cases h
 rk:=fun p=>k7x _ _ (fun h=>by cases h)
 rn:=List.nodup_nil
 sw:=fun q h=>by cases h
 sk:=fun p=>k7x _ _ (fun h=>by cases h)
 sn:=List.nodup_nil
 ex:=fun q h=>by cases h
 ek:=fun p=>k7x _ _ (fun h=>by cases h)
 en:=List.nodup_nil
 rt:=fun q h=>by cases h
theorem ja5 (sd:k5a) (c c':Cl) (v:Int×Int):(q0c clT c' (q3x clT c v sd)).isSome=true↔c'=c\/(q0c clT c' sd).isSome=true:=by
 rw [qbj]
 cases h:eqT clT c' c with
 | true =>
  have:=(qnu c' c).1 h
  simp [this]
 | false =>
  have:c'≠c:=fun e=>by rw [(qnu c' c).2 e] at h;cases h
  simp [this]
theorem qmu {β:Type} {l:List β} {a:β} (h:l.Nodup) (ha:a ∉ l):(l ++ [a]).Nodup:=by
 rw [List.nodup_append]
 exact ⟨h,by simp,fun x hx y hy e=>by rw [List.mem_singleton.1 hy] at e;rw [e] at hx;exact ha hx⟩
theorem ok_ne {p:Yy} (h:okS p=true):p ≠ []:=(jyi h).1
theorem k3h {p:Yy} (h:qde p=true):p ≠ []:=(jne h).1
theorem kd:qgj≠kGo/\qgj≠q43/\qgj≠qct/\qgj≠q9b/\kGo≠q43/\kGo≠qct/\kGo≠q9b/\q43≠qct/\q43≠q9b/\qct≠q9b:=by decide
theorem q1i {σ:MS} {a b:Yy} (h:a≠b) (x y:Yy×VD) (v:Int×Int):(q0c clT (a,x) (q3x clT (b,y) v σ.sd)).isSome=(q0c clT (a,x) σ.sd).isSome:=by
 rw [q99 (fun e=>h (congrArg Prod.fst e))]
theorem jui {σ:MS} {c:Cl} {P:Prop} (h:q0h σ c=true↔P) (hc:q0h σ c=false) : ¬ P:=fun hp=>by rw [h.2 hp] at hc;cases hc
theorem jwy {σ σ':MS} {ws:List Lx.Wd} {st:Int} (g:GoodM σ) (h:Step σ st ws σ'):GoodM σ':=by
 obtain ⟨d1,d2,d3,d4,d5,d6,d7,d8,d9,d10⟩:=kd
 cases h with
 | mo w hw h hc =>
  exact ⟨.inr h,by show (q0c clT _ _).isSome=true↔_;rw [ja5];simp [ok_ne h],g.go,by show (q0c clT _ _).isSome=true↔_;rw [q1i d1.symm];exact g.gk,g.rq,fun p=>by show (q0c clT _ _).isSome=true↔_;rw [q1i d2.symm];exact g.rk p,g.rn,g.sw,fun p=>by show (q0c clT _ _).isSome=true↔_;rw [q1i d4.symm];exact g.sk p,g.sn,g.ex,fun p=>by show (q0c clT _ _).isSome=true↔_;rw [q1i d3.symm];exact g.ek p,g.en,g.rt⟩
 | go w hw h hc =>
  exact ⟨g.mo,by show (q0c clT _ _).isSome=true↔_;rw [q1i d1];exact g.mc,.inr h,by show (q0c clT _ _).isSome=true↔_;rw [ja5];simp [k3h h],g.rq,fun p=>by show (q0c clT _ _).isSome=true↔_;rw [q1i d5.symm];exact g.rk p,g.rn,g.sw,fun p=>by show (q0c clT _ _).isSome=true↔_;rw [q1i d7.symm];exact g.sk p,g.sn,g.ex,fun p=>by show (q0c clT _ _).isSome=true↔_;rw [q1i d6.symm];exact g.ek p,g.en,g.rt⟩
 | rq x q hx hz h ht hc =>
  refine ⟨g.mo,by show (q0c clT _ _).isSome=true↔_;rw [q1i d2];exact g.mc,g.go,by show (q0c clT _ _).isSome=true↔_;rw [q1i d5];exact g.gk,fun y hy=>?_,fun p=>?_,?_,g.sw,fun p=>by show (q0c clT _ _).isSome=true↔_;rw [q1i d9.symm];exact g.sk p,g.sn,g.ex,fun p=>by show (q0c clT _ _).isSome=true↔_;rw [q1i d8.symm];exact g.ek p,g.en,g.rt⟩
  ·rcases List.mem_append.1 hy with hy|hy
   ·exact g.rq y hy
   ·rw [List.mem_singleton.1 hy];exact h
  ·show (q0c clT _ _).isSome=true↔_
   rw [ja5]
   have:=g.rk p
   unfold q0h at this
   rw [this,List.map_append,List.mem_append]
   simp [or_comm]
  ·show ((σ.rq ++ [q]).map Prod.fst).Nodup
   rw [List.map_append]
   exact qmu g.rn (jui (g.rk q.1) hc)
 | ex x q hx hz h ht hc =>
  refine ⟨g.mo,by show (q0c clT _ _).isSome=true↔_;rw [q1i d3];exact g.mc,g.go,by show (q0c clT _ _).isSome=true↔_;rw [q1i d6];exact g.gk,g.rq,fun p=>by show (q0c clT _ _).isSome=true↔_;rw [q1i d8];exact g.rk p,g.rn,g.sw,fun p=>by show (q0c clT _ _).isSome=true↔_;rw [q1i d10.symm];exact g.sk p,g.sn,fun y hy=>?_,fun p=>?_,?_,g.rt⟩
  ·rcases List.mem_append.1 hy with hy|hy
   ·exact g.ex y hy
   ·rw [List.mem_singleton.1 hy];exact h
  ·show (q0c clT _ _).isSome=true↔_
   rw [ja5]
   have:=g.ek p
   unfold q0h at this
   rw [this,List.mem_append]
   obtain ⟨p1,p2⟩:=p
   obtain ⟨q1,q2⟩:=q
   simp [or_comm]
  ·exact qmu g.en (jui (g.ek q) hc)
 | sw x q hx hz h h2 hc =>
  refine ⟨g.mo,by show (q0c clT _ _).isSome=true↔_;rw [q1i d4];exact g.mc,g.go,by show (q0c clT _ _).isSome=true↔_;rw [q1i d7];exact g.gk,g.rq,fun p=>by show (q0c clT _ _).isSome=true↔_;rw [q1i d9];exact g.rk p,g.rn,fun y hy=>?_,fun p=>?_,?_,g.ex,fun p=>by show (q0c clT _ _).isSome=true↔_;rw [q1i d10];exact g.ek p,g.en,g.rt⟩
  ·rcases List.mem_append.1 hy with hy|hy
   ·exact g.sw y hy
   ·rw [List.mem_singleton.1 hy];exact ⟨h,h2⟩
  ·show (q0c clT _ _).isSome=true↔_
   rw [ja5]
   have:=g.sk p
   unfold q0h at this
   rw [this,List.map_append,List.mem_append]
   simp [or_comm]
  ·show ((σ.sw ++ [q]).map Prod.fst).Nodup
   rw [List.map_append]
   exact qmu g.sn (jui (g.sk q.1) hc)
 | rt x hz h h2 hc =>
  refine ⟨g.mo,g.mc,g.go,g.gk,g.rq,g.rk,g.rn,g.sw,g.sk,g.sn,g.ex,g.ek,g.en,fun y hy=>?_⟩
  rcases List.mem_append.1 hy with hy|hy
  ·exact g.rt y hy
  ·rw [List.mem_singleton.1 hy];exact ⟨h,h2,hc⟩
theorem k49 {σ:MS} (g:GoodM σ) (b:Yy):GoodM { σ with bk:=b }:=⟨g.mo,g.mc,g.go,g.gk,g.rq,g.rk,g.rn,g.sw,g.sk,g.sn,g.ex,g.ek,g.en,g.rt⟩
theorem j8e {σ σ':MS} {ws:List Lx.Wd} {st:Int} (g:GoodM σ) (e:qaj σ st ws = .inr σ'):GoodM σ':=by
 rcases j8d e with h|⟨b,rfl⟩
 ·exact jwy g h
 ·exact k49 g b
theorem j71 : ∀(ls:List (Yy)) (i st:Int) (σ σ':MS),GoodM σ->q5o ls i st σ = .inr σ'->GoodM σ'
 | [],i,st,σ,σ',g,e=>by cases e;exact g
 | t::ts,i,st,σ,σ',g,e=>by
  rw [q5o] at e
  split at e
  ·cases e
  ·rename_i σ1 h1
   exact j71 ts _ _ σ1 σ' (j8e g h1) e
def Mono (σ σ':MS):Prop:=(σ.mo ≠ []->σ'.mo=σ.mo)/\(σ.go ≠ []->σ'.go=σ.go)/\σ.rq <+: σ'.rq/\σ.sw <+: σ'.sw/\σ.ex <+: σ'.ex/\σ.rt <+: σ'.rt
theorem Mono.trans {a b c:MS} (h1:Mono a b) (h2:Mono b c):Mono a c:=by
 obtain ⟨a1,a2,a3,a4,a5,a6⟩:=h1
 obtain ⟨b1,b2,b3,b4,b5,b6⟩:=h2
 exact ⟨fun h=>(b1 (by rw [a1 h];exact h)).trans (a1 h),fun h=>(b2 (by rw [a2 h];exact h)).trans (a2 h),a3.trans b3,a4.trans b4,a5.trans b5,a6.trans b6⟩
end Go.Proofs.YtapfankgdkdkgaaGreatDoor.AM
namespace Go.Proofs.YtapfankgdkdkgaaGreatDoor.AM
open Go.RowKit
set_option synthInstance.maxSize 100000
set_option synthInstance.maxHeartbeats 0
theorem j44 {p x:Yy} {e:Int} (h:j5i p x = .inl e):e≠0:=by
 unfold j5i at h
 split at h
 ·cases h;decide
 ·split at h
  ·cases h;decide
  ·split at h<;>cases h;decide
theorem qdf {σ:MS} {c:Cl} {st:Int} {w:Lx.Wd} {e:Int} (h:q1z σ c st w = .inl e):e≠0:=by
 unfold q1z at h
 split at h<;>cases h;decide
theorem k4x {σ:MS} {v:Yy} {ws:List Lx.Wd} {st e:Int} (h:qg4 σ st v ws = .inl e):e≠0:=by
 unfold qg4 at h
 split at h
 ·cases h;decide
 ·split at h
  ·split at h
   ·cases h;decide
   ·exact qdf h
  ·split at h
   ·split at h
    ·cases h;decide
    ·exact qdf h
   ·split at h
    ·split at h
     ·rename_i hq;cases h;exact j44 hq
     ·exact qdf h
    ·split at h
     ·split at h
      ·rename_i hq;cases h;exact j44 hq
      ·exact qdf h
     ·split at h
      ·split at h
       ·cases h;decide
       ·split at h
        ·cases h;decide
        ·exact qdf h
      ·split at h
       ·cases h;decide
       ·split at h
        ·cases h;decide
        ·split at h<;>cases h;decide
theorem jjy {σ:MS} {v:Yy} {ws:List Lx.Wd} {st e:Int} (h:qgc σ st v ws = .inl e):e≠0:=by
 unfold qgc at h
 split at h
 ·exact k4x h
 ·cases h;decide
theorem jik {σ:MS} {ws:List Lx.Wd} {st e:Int} (h:qaj σ st ws = .inl e):e≠0:=by
 unfold qaj at h
 split at h
 ·cases h
 ·split at h
  ·split at h
   ·cases h
   ·exact jjy h
  ·split at h
   ·cases h
   ·exact jjy h
theorem j8v : ∀(ls:List (Yy)) (i st:Int) (σ:MS) (e:Int×Int),q5o ls i st σ = .inl e->e.2≠0
 | [],i,st,σ,e,h=>by cases h
 | t::ts,i,st,σ,e,h=>by
  rw [q5o] at h
  split at h
  ·rename_i h1;cases h;exact jik h1
  ·exact j8v ts _ _ _ e h
structure IsM (s:Yy) (σ:MS):Prop where
 okc : ∀t∈Lx.q0l s,∀c∈t,Lx.okc c=true
 rd:q5o (Lx.q0l s) 0 0 ms0 = .inr σ
 bk:σ.bk = []
 mo:σ.mo ≠ []
theorem jdb {s:Yy} {σ:MS} {k:Int} (h:qcv s = .inr (σ,k)):IsM s σ/\k=(((Lx.q0l s).length:Nat):Int):=by
 unfold qcv at h
 split at h
 ·cases h
 ·rename_i h0
  split at h
  ·cases h
  ·rename_i σ1 h1
   split at h
   ·cases h
   ·rename_i h2
    split at h
    ·cases h
    ·rename_i h3
     cases h
     exact ⟨⟨j1b _ 0 [] (by simpa using h0),h1,by simpa using h2,h3⟩,rfl⟩
theorem jgh {s:Yy} {σ:MS} (h:IsM s σ):qcv s = .inr (σ,(((Lx.q0l s).length:Nat):Int)):=by
 unfold qcv
 rw [if_neg (by simpa using j0b _ 0 [] h.okc),h.rd]
 simp only [h.bk,h.mo,ne_eq,not_true_eq_false,if_false]
theorem jzn {s:Yy} {σ:MS} (h:IsM s σ):q9i s=(σ.md,((((Lx.q0l s).length:Nat):Int),0)):=by unfold q9i;rw [jgh h]
theorem jzl {s:Yy} (h:(q9i s).2.2=0) : ∃ σ,IsM s σ:=by
 cases hr:qcv s with
 | inr x=>exact ⟨x.1,(jdb (k:=x.2) hr).1⟩
 | inl e =>
  exfalso
  have h':e.2=0:=by unfold q9i at h;rw [hr] at h;exact h
  unfold qcv at hr
  split at hr
  ·rename_i h0;cases hr;exact h0 h'
  ·split at hr
   ·rename_i h1;cases hr;exact j8v _ _ _ _ _ h1 h'
   ·split at hr
    ·cases hr;exact absurd (show (10:Int)=0 from h') (by decide)
    ·split at hr
     ·cases hr;exact absurd (show (5:Int)=0 from h') (by decide)
     ·cases hr
theorem IsM.good {s:Yy} {σ:MS} (h:IsM s σ):GoodM σ:=j71 _ _ _ _ _ k9o h.rd
theorem jbl (a:Yy) (c:UInt8):Lx.qg8 (a ++ [c])=decide (c=10):=by
 unfold Lx.qg8
 by_cases h:c=10<;>simp [h]
end Go.Proofs.YtapfankgdkdkgaaGreatDoor.AM
namespace Go.Proofs.YtapfankgdkdkgaaGreatDoor.AM
open Go.RowKit
set_option synthInstance.maxSize 100000
set_option synthInstance.maxHeartbeats 0
def Sm (σ τ:MS):Prop:=σ.md=τ.md/\∀c,q0h σ c=q0h τ c
theorem Sm.mo {σ τ:MS} (h:Sm σ τ):σ.mo=τ.mo:=congrArg (fun m:MD=>m.1) h.1
def k8w (b1 b2:Yy):Int⊕MS->Int⊕MS->Prop
 | .inl e,.inl e'=>e=e'
 | .inr σ,.inr τ=>Sm σ τ/\σ.bk=b1/\τ.bk=b2
 | _,_=>False
theorem qd5 {σ τ:MS} {b1 b2:Yy} (h:Sm σ τ) (h1:σ.bk=b1) (h2:τ.bk=b2) (c:Cl) (st st':Int) (w w':Lx.Wd):k8w b1 b2 (q1z σ c st w) (q1z τ c st' w'):=by
 have hc:=h.2 c
 unfold q0h at hc
 unfold q1z
 rw [hc]
 cases (q0c clT c τ.sd).isSome with
 | true=>rfl
 | false =>
  refine ⟨⟨h.1,fun c'=>?_⟩,h1,h2⟩
  have h3:=h.2 c'
  unfold q0h at h3 ⊢
  show (q0c clT c' (q3x clT c _ σ.sd)).isSome=(q0c clT c' (q3x clT c _ τ.sd)).isSome
  rw [qbj,qbj]
  cases eqT clT c' c with
  | true=>rfl
  | false=>exact h3
theorem jv1 : ∀(r r':List Lx.Wd) (w w':Lx.Wd),w.1=w'.1->tx r=tx r'->(r.getLast?.getD w).1=(r'.getLast?.getD w').1
 | [],[],w,w',h,_=>h
 | [],_::_,_,_,_,h=>by cases h
 | _::_,[],_,_,_,h=>by cases h
 | a::r,b::r',w,w',h,e=>by
  obtain ⟨h1,h2⟩:=List.cons.inj e
  rw [List.getLast?_cons,List.getLast?_cons]
  exact jv1 r r' a b h1 h2
theorem jyc {r r':List Lx.Wd} (h:tx r=tx r'):(r.headD ([],0)).1=(r'.headD ([],0)).1:=by
 cases r<;>cases r'<;>first|rfl|cases h|exact (List.cons.inj h).1
theorem k3y {σ τ:MS} {b1 b2:Yy} (h:Sm σ τ) (h1:σ.bk=b1) (h2:τ.bk=b2) (v:Yy) (st st':Int) {ws ws':List Lx.Wd} (hw:tx ws=tx ws'):k8w b1 b2 (qg4 σ st v ws) (qg4 τ st' v ws'):=by
 obtain ⟨m1,g1,k1,s1,r1,w1,e1,t1⟩:=σ
 obtain ⟨m2,g2,k2,s2,r2,w2,e2,t2⟩:=τ
 have hc:=h.2
 have hm:=h.1
 simp only [MS.md,Prod.mk.injEq] at hm
 obtain ⟨rfl,rfl,rfl,rfl,rfl,rfl⟩:=hm
 cases ws with
 | nil =>
  cases ws' with
  | nil=>rfl
  | cons=>cases hw
 | cons w r =>
  cases ws' with
  | nil=>cases hw
  | cons w' r' =>
   obtain ⟨e0,e9⟩:=List.cons.inj hw
   have e1':=jyc e9
   have e2':=jv1 r r' w w' e0 e9
   unfold qg4
   simp only [e0,e1',e2']
   split
   ·split
    ·rfl
    ·exact qd5 (by exact ⟨rfl,hc⟩) (by exact h1) (by exact h2) _ _ _ _ _
   ·split
    ·split
     ·rfl
     ·exact qd5 (by exact ⟨rfl,hc⟩) (by exact h1) (by exact h2) _ _ _ _ _
    ·split
     ·split
      ·rfl
      ·exact qd5 (by exact ⟨rfl,hc⟩) (by exact h1) (by exact h2) _ _ _ _ _
     ·split
      ·split
       ·rfl
       ·exact qd5 (by exact ⟨rfl,hc⟩) (by exact h1) (by exact h2) _ _ _ _ _
      ·split
       ·split
        ·rfl
        ·split
         ·rfl
         ·exact qd5 (by exact ⟨rfl,hc⟩) (by exact h1) (by exact h2) _ _ _ _ _
       ·split
        ·rfl
        ·split
         ·rfl
         ·split
          ·rfl
          ·exact ⟨⟨rfl,hc⟩,h1,h2⟩
theorem jvi {ws ws':List Lx.Wd} (h:tx ws=tx ws'):shp ws=shp ws':=by
 have e : ∀ws:List Lx.Wd,ws.map qi2=(tx ws).map fun t=>if q42 t then t else [120]:=fun ws=>by simp [qi2,Function.comp_def]
 unfold shp
 rw [e,e,h]
theorem k2f : ∀{ws ws':List Lx.Wd},tx ws=tx ws'->tx (unm ws)=tx (unm ws')
 | [],[],_=>rfl
 | [],_::_,h=>by cases h
 | _::_,[],h=>by cases h
 | a::r,b::r',h=>by
  obtain ⟨h1,h2⟩:=List.cons.inj h
  have ih:=k2f h2
  unfold unm at ih ⊢
  rw [List.filter_cons,List.filter_cons,h1]
  split
  ·show a.1::tx _=b.1::tx _
   rw [ih,h1]
  ·exact ih
theorem ji2 {σ τ:MS} {b1 b2:Yy} (h:Sm σ τ) (h1:σ.bk=b1) (h2:τ.bk=b2) (v:Yy) (st st':Int) {ws ws':List Lx.Wd} (hw:tx ws=tx ws'):k8w b1 b2 (qgc σ st v ws) (qgc τ st' v ws'):=by
 unfold qgc
 rw [jvi hw]
 split
 ·exact k3y h h1 h2 v st st' (k2f hw)
 ·rfl
def RelL:Int⊕MS->Int⊕MS->Prop
 | .inl e,.inl e'=>e=e'
 | .inr σ,.inr τ=>Sm σ τ/\σ.bk=τ.bk
 | _,_=>False
theorem k8w.toL {b:Yy} {x y:Int⊕MS} (h:k8w b b x y):RelL x y:=by
 cases x<;>cases y
 ·exact h
 ·exact h
 ·exact h
 ·exact ⟨h.1,h.2.1.trans h.2.2.symm⟩
theorem jyq {σ τ:MS} (h:Sm σ τ) (hb:σ.bk=τ.bk) (st st':Int) {ws ws':List Lx.Wd} (hw:tx ws=tx ws'):RelL (qaj σ st ws) (qaj τ st' ws'):=by
 cases ws with
 | nil =>
  cases ws' with
  | nil=>exact ⟨h,hb⟩
  | cons=>cases hw
 | cons w r =>
  cases ws' with
  | nil=>cases hw
  | cons w' r' =>
   obtain ⟨e0,e9⟩:=List.cons.inj hw
   unfold qaj
   have q1:=jvi hw
   have q2:=jvi e9
   simp only [q1,q2,hb,e0]
   split
   ·split
    ·exact ⟨⟨h.1,h.2⟩,rfl⟩
    ·exact (ji2 h hb rfl _ st st' e9).toL
   ·split
    ·exact ⟨⟨h.1,h.2⟩,rfl⟩
    ·exact (ji2 h hb rfl _ st st' hw).toL
inductive Lns:List (Yy)->List (Yy)->Prop
 | nil:Lns [] []
 | both {a b:Yy} {r r':List (Yy)} (h:tx (q2t a)=tx (q2t b)) (hr:Lns r r'):Lns (a::r) (b::r')
 | more {b:Yy} {r r':List (Yy)} (h:q2t b = []) (hr:Lns r r'):Lns r (b::r')
theorem Lns.read {L L':List (Yy)} (h:Lns L L') : ∀(i i' st st':Int) (σ τ σ':MS),Sm σ τ->σ.bk=τ.bk->q5o L i st σ = .inr σ'->∃ τ',q5o L' i' st' τ = .inr τ'/\Sm σ' τ'/\σ'.bk=τ'.bk:=by
 induction h with
 | nil=>intro i i' st st' σ τ σ' h1 h2 e;cases e;exact ⟨τ,rfl,h1,h2⟩
 | both h hr ih =>
  intro i i' st st' σ τ σ' h1 h2 e
  have hl:=jyq h1 h2 st st' h
  rw [q5o] at e ⊢
  split at e
  ·cases e
  ·rename_i σ1 hs
   rw [hs] at hl
   split
   ·rename_i e' he';rw [he'] at hl;exact absurd hl id
   ·rename_i τ1 ht
    rw [ht] at hl
    exact ih _ _ _ _ _ _ _ hl.1 hl.2 e
 | more h hr ih =>
  intro i i' st st' σ τ σ' h1 h2 e
  rw [q5o,h]
  exact ih _ _ _ _ _ _ _ h1 h2 e
theorem Sm.bk {σ τ:MS} (h:Sm σ τ) (b:Yy):Sm σ { τ with bk:=b }:=⟨h.1,h.2⟩
end Go.Proofs.YtapfankgdkdkgaaGreatDoor.AM
namespace Go.Proofs.YtapfankgdkdkgaaGreatDoor.AM
open Go.RowKit
def word (w:Yy):Prop:=plain w/\q42 w=false
theorem k36 {w:Yy} (h:plain w) (h2:w ≠ [61,62]):word w:=by
 refine ⟨h,?_⟩
 cases hm:q42 w with
 | false=>rfl
 | true =>
  exfalso
  rcases qfa hm with e|e|e|e|e|e
  ·exact h2 e
  all_goals (rw [e] at h;exact absurd (h.2.2 _ (List.mem_cons_self ..)) (by decide))
theorem jqi {v:VD} (h:q1b v=true):word (q1g v):=k36 (jmx h) fun e=>by
 unfold q1g at e
 rw [if_pos h] at e
 exact absurd (List.cons.inj e).1 (by decide)
theorem k3d {p:Yy} {v:VD} (h:qco p v=true):okS p=true/\q1b v=true:=by
 unfold qco at h
 simp only [Bool.and_eq_true] at h
 exact ⟨h.1,h.2.1⟩
theorem qi9 {σ:MS} {c:Cl} {st:Int} {w:Lx.Wd} (h:q0h σ c=false):q1z σ c st w = .inr { σ with sd:=q3x clT c (ps st w) σ.sd }:=by
 unfold q0h at h
 unfold q1z
 rw [h];rfl
end Go.Proofs.YtapfankgdkdkgaaGreatDoor.AM
