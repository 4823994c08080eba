
import Derived.Test.YtapfankgdkdkgaaGreatDoorMc24
import Derived.Test.YtapfankgdkdkgaaGreatDoorMc23
import Derived.Test.YtapfankgdkdkgaaGreatDoorMc8
import Derived.Test.YtapfankgdkdkgaaGreatDoorRows
import Derived.Test.YtapfankgdkdkgaaGreatDoorMc9
import Derived.LaidLaws
import Derived.LaidHandle
import Derived.Stop.LaidErr
import Derived.Lib.LaidTab
import Derived.Lay
namespace Go.Proofs.YtapfankgdkdkgaaGreatDoor.AM
open Go.RowKit
set_option linter.unusedVariables false
set_option linter.unusedSimpArgs false
set_option synthInstance.maxSize 100000
set_option synthInstance.maxHeartbeats 0
def jlz (x:Sp):List UInt8:=if jg0 x=qyd x then qj0 (jg0 x) else 91::(qj0 (jg0 x)++44::32::(qj0 (qyd x) ++ [93]))
theorem jb4 : ∀ (ls:List (List UInt8)) (i st:Int) (k:Nat) (σ σ':MS),SB k σ→q4g ls i st σ = .inr σ'→SB (k+ls.length) σ'
 | [],i,st,k,σ,σ',h,e=>by cases e;exact h
 | t::ts,i,st,k,σ,σ',h,e=>by
  rw [q4g] at e
  split at e
  ·cases e
  ·rename_i σ1 h1
   have:=jb4 ts _ _ (k+1) σ1 σ' (j8s h h1) e
   rw [List.length_cons,show k+(ts.length+1)=k+1+ts.length by omega]
   exact this
theorem jd2 (s:List UInt8):ML (s.length+1) (q9p s).1:=by
 obtain ⟨l1,l2⟩:=Lx.qa4 s
 unfold q9p qji
 split
 ·rename_i e he
  exact ⟨Nat.zero_le _,Nat.zero_le _,Nat.zero_le _,Nat.zero_le _⟩
 ·rename_i σ k he
  split at he
  ·cases he
  ·split at he
   ·cases he
   ·rename_i σ1 h1
    have h2:=jb4 _ 0 0 0 ms0 σ1 ⟨Nat.le_refl _,Nat.le_refl _,Nat.le_refl _,Nat.le_refl _⟩ h1
    split at he
    ·cases he
    ·split at he
     ·cases he
     ·cases he
      obtain ⟨b1,b2,b3,b4⟩:=h2
      exact ⟨by show σ.rq.length≤_;omega,by show σ.sw.length≤_;omega,by show σ.ex.length≤_;omega,by show σ.rt.length≤_;omega⟩
theorem ML.mono {k j:Nat} {m:MD} (h:ML k m) (hj:k≤j):ML j m:=by unfold ML at *;omega
end Go.Proofs.YtapfankgdkdkgaaGreatDoor.AM
namespace Go.Proofs.YtapfankgdkdkgaaGreatDoor.AM
open Go.RowKit
set_option linter.unusedVariables false
set_option linter.unusedSimpArgs false
def plb (c:UInt8):Bool:=Lx.okc c&&(!Lx.q5p c && !Lx.isB c)
def plain (w:List UInt8):Prop:=w ≠ []∧w.head? ≠ some 47∧∀ c∈w,plb c=true
theorem j8a (c:UInt8) (h:j5z c=true):plb c=true∧c≠47:=by
 have h1 : ∀ i:Fin 256,j5z (UInt8.ofNat i.1)=true→plb (UInt8.ofNat i.1)=true∧UInt8.ofNat i.1≠47:=by decide +kernel
 have:=h1 ⟨c.toNat,c.toNat_lt⟩
 simpa [h] using this
theorem j7s (c:UInt8) (h:q38 c=true):j5z c=true:=by unfold j5z;rw [h];simp
theorem pl46:plb 46=true:=by decide
theorem pl47:plb 47=true:=by decide
theorem j85 (c:UInt8) (h:qkf c=true):plb c=true∧c≠47:=by
 have h1 : ∀ i:Fin 256,qkf (UInt8.ofNat i.1)=true→plb (UInt8.ofNat i.1)=true∧UInt8.ofNat i.1≠47:=by decide +kernel
 have:=h1 ⟨c.toNat,c.toNat_lt⟩
 simpa [h] using this
theorem jf1 {w:List UInt8} (h:qd5 w=true):w.all qkf=true:=by
 unfold qd5 at h
 simp only [Bool.and_eq_true] at h
 exact h.2.2.2
theorem j5q {p:List UInt8} (h:q6h p=true):plain p:=by
 have h2:=(j4x h).2
 refine ⟨jhq h,fun hd=>?_,fun c hc=>?_⟩
 ·cases p with
  | nil=>cases hd
  | cons a r =>
   simp only [List.head?_cons,Option.some.injEq] at hd
   subst hd
   rw [spl,if_pos rfl,List.all_cons,show qd5 []=false from rfl] at h2
   cases h2
 ·have h3:(spl 47 [] p).all (fun w=>w.all qkf)=true:=by
   rw [List.all_eq_true] at h2 ⊢
   exact fun w hw=>jf1 (h2 w hw)
  rcases ((qz4 47 qkf p []).1 h3).2 c hc with rfl|h4
  ·exact pl47
  ·exact (j85 c h4).1
theorem jct {p:List UInt8} (h:okS p=true):plain p:=j5q (jhr h).1
theorem j0e {s:List UInt8} (h:qbj s=true):(∀ c∈s,q38 c=true)∧s ≠ []∧s.length≤9:=by
 unfold qbj at h
 simp only [Bool.and_eq_true,decide_eq_true_eq] at h
 exact ⟨fun c hc=>List.all_eq_true.1 h.1 c hc,fun h0=>by have:=h.2.1;rw [h0] at this;simp at this,h.2.2.1⟩
theorem j41 {x:List UInt8} (h:qhe x=true) : ∃ a b,x=a++46::b∧qbj a=true∧qbj b=true:=by
 unfold qhe at h
 rw [Bool.and_eq_true] at h
 by_cases hm:(46:UInt8)∈x
 ·obtain ⟨a,b,hx,ha⟩:=List.eq_append_cons_of_mem hm
  have:=jij 46 a b ha
  rw [hx,this.1,this.2] at h
  exact ⟨a,b,hx,h.1,h.2⟩
 ·have:qb8 46 x = []:=by unfold qb8;rw [if_pos (qo0 46 x hm)]
  rw [this] at h
  cases h.2
theorem j59 {x:List UInt8} (h:qhe x=true):plain x:=by
 obtain ⟨a,b,rfl,ha,hb⟩:=j41 h
 have ha:=j0e ha
 have hb:=j0e hb
 refine ⟨by simp,fun hd=>?_,fun c hc=>?_⟩
 ·cases a with
  | nil=>exact ha.2.1 rfl
  | cons d a =>
   simp only [List.cons_append,List.head?_cons,Option.some.injEq] at hd
   exact (j8a d (j7s d (ha.1 d (List.mem_cons_self ..)))).2 hd
 ·rcases List.mem_append.1 hc with hc|hc
  ·exact (j8a c (j7s c (ha.1 c hc))).1
  ·rcases List.mem_cons.1 hc with rfl|hc
   ·exact pl46
   ·exact (j8a c (j7s c (hb.1 c hc))).1
theorem qn3 : ∀ (L:List (List UInt8)) (i:Nat) (out:List Lx.Ln),(∀ t∈L,∀ c∈t,Lx.okc c=true)→(Lx.q3e L i out).2.2=0
 | [],i,out,_=>rfl
 | t::L,i,out,h=>by
  rw [Lx.q3e,if_pos (List.all_eq_true.2 (h t (List.mem_cons_self ..)))]
  exact qn3 L (i+1) _ fun x hx=>h x (List.mem_cons_of_mem _ hx)
theorem qo3 : ∀ (L:List (List UInt8)) (i:Nat) (out:List Lx.Ln),(Lx.q3e L i out).2.2=0→∀ t∈L,∀ c∈t,Lx.okc c=true
 | [],i,out,_,t,ht=>by cases ht
 | x::L,i,out,h,t,ht=>by
  rw [Lx.q3e] at h
  split at h
  ·rename_i hx
   rcases List.mem_cons.1 ht with rfl|ht
   ·exact fun c hc=>List.all_eq_true.1 hx c hc
   ·exact qo3 L (i+1) _ h t ht
  ·cases h
end Go.Proofs.YtapfankgdkdkgaaGreatDoor.AM
namespace Go.Proofs.YtapfankgdkdkgaaGreatDoor.AM
open Go.RowKit
set_option linter.unusedVariables false
set_option linter.unusedSimpArgs false
def q1l (σ:MS) (c:Cl):Bool:=(q0a clT c σ.sd).isSome
def ps (st:Int) (w:Lx.Wd):Int×Int:=(st+w.2,st+w.2+((w.1.length:Nat):Int))
def qge:List Lx.Wd→Nat
 | []=>0
 | w::r=>w.1.length+qge r
theorem j24 {w:Lx.Wd} : ∀ {ws:List Lx.Wd},w∈ws→w.1.length≤qge ws
 | x::r,h=>by
  rcases List.mem_cons.1 h with rfl|h
  ·rw [qge];omega
  ·have:=j24 h;rw [qge];omega
theorem qjk (p:Lx.Wd→Bool) : ∀ ws:List Lx.Wd,qge (ws.filter p)≤qge ws
 | []=>Nat.le_refl _
 | x::r=>by
  have:=qjk p r
  rw [List.filter_cons]
  split
  ·rw [qge,qge];omega
  ·rw [qge];omega
inductive Step (σ:MS) (st:Int) (ws:List Lx.Wd):MS→Prop
 | mo (w:Lx.Wd) (hw:w∈ws) (h:okS w.1=true) (hc:q1l σ (qns,([],v0))=false):Step σ st ws { σ with mo:=w.1,sd:=q3h clT (qns,([],v0)) (ps st w) σ.sd }
 | go (w:Lx.Wd) (hw:w∈ws) (h:qhe w.1=true) (hc:q1l σ (kGo,([],v0))=false):Step σ st ws { σ with go:=w.1,sd:=q3h clT (kGo,([],v0)) (ps st w) σ.sd }
 | rq (x:Lx.Wd) (q:Rq) (hx:x∈ws) (hz:q.1.length+x.1.length≤qge ws) (h:qpl q.1 q.2=true) (ht:qj0 q.2=x.1) (hc:q1l σ (qll,(q.1,v0))=false):Step σ st ws { σ with rq:=σ.rq ++ [q],sd:=q3h clT (qll,(q.1,v0)) (ps st x) σ.sd }
 | ex (x:Lx.Wd) (q:Rq) (hx:x∈ws) (hz:q.1.length+x.1.length≤qge ws) (h:qpl q.1 q.2=true) (ht:qj0 q.2=x.1) (hc:q1l σ (qlj,(q.1,q.2))=false):Step σ st ws { σ with ex:=σ.ex ++ [q],sd:=q3h clT (qlj,(q.1,q.2)) (ps st x) σ.sd }
 | sw (x:Lx.Wd) (q:Sw) (hx:x∈ws) (hz:q.1.length+q.2.length≤qge ws) (h:okS q.1=true) (h2:q6h q.2=true) (hc:q1l σ (qlk,(q.1,v0))=false):Step σ st ws { σ with sw:=σ.sw ++ [q],sd:=q3h clT (qlk,(q.1,v0)) (ps st x) σ.sd }
 | rt (x:Sp) (hz:(jlz x).length≤qge ws+4) (h:q2t (jg0 x)=true) (h2:q2t (qyd x)=true) (hc:jix (jg0 x) (qyd x)≤0):Step σ st ws { σ with rt:=σ.rt ++ [x] }
theorem Step.mono {σ σ':MS} {st:Int} {ws ws':List Lx.Wd} (h:Step σ st ws σ') (h1 : ∀ w∈ws,w∈ws') (h2:qge ws≤qge ws'):Step σ st ws' σ':=by
 cases h with
 | mo w hw h hc=>exact .mo w (h1 w hw) h hc
 | go w hw h hc=>exact .go w (h1 w hw) h hc
 | rq x q hx hz h ht hc=>exact .rq x q (h1 x hx) (by omega) h ht hc
 | ex x q hx hz h ht hc=>exact .ex x q (h1 x hx) (by omega) h ht hc
 | sw x q hx hz h h2 hc=>exact .sw x q (h1 x hx) (by omega) h h2 hc
 | rt x hz h h2 hc=>exact .rt x (by omega) h h2 hc
theorem q7g {σ σ':MS} {c:Cl} {st:Int} {w:Lx.Wd} (e:q2w σ c st w = .inr σ'):q1l σ c=false∧σ' = { σ with sd:=q3h clT c (ps st w) σ.sd }:=by
 unfold q2w at e
 unfold q1l
 split at e
 ·cases e
 ·rename_i h
  cases e
  exact ⟨by simpa using h,rfl⟩
theorem j9a {p x:List UInt8} {q:Rq} (e:j60 p x = .inr q):q.1=p∧qpl q.1 q.2=true∧qj0 q.2=x:=by
 unfold j60 at e
 split at e
 ·cases e
 ·split at e
  ·cases e
  ·split at e
   ·cases e
   ·rename_i h1 h2 h3
    cases e
    exact ⟨rfl,by simpa using h3,(qdp (by simpa using h2)).2⟩
theorem jdk {σ σ':MS} {v:List UInt8} {ws:List Lx.Wd} {st:Int} (h2:v=qll∨v=qlj∨v=qlk→∃ w x r,ws=w::x::r) (e:qqn σ st v ws = .inr σ'):Step σ st ws σ':=by
 unfold qqn at e
 split at e
 ·cases e
 ·rename_i w ws'
  have hw0:w∈w::ws':=List.mem_cons_self ..
  split at e
  ·split at e
   ·cases e
   ·rename_i h
    obtain ⟨hc,rfl⟩:=q7g e
    exact .mo w hw0 (by simpa using h) hc
  ·split at e
   ·split at e
    ·cases e
    ·rename_i h
     obtain ⟨hc,rfl⟩:=q7g e
     exact .go w hw0 (by simpa using h) hc
   ·split at e
    ·rename_i hv
     obtain ⟨w',x,r,hx⟩:=h2 (.inl hv)
     obtain ⟨rfl,rfl⟩:=List.cons.inj hx
     split at e
     ·cases e
     ·rename_i q hq
      obtain ⟨q1,q2,q3⟩:=j9a hq
      obtain ⟨hc,rfl⟩:=q7g e
      exact .rq x q (by simp) (by rw [q1,qge,qge];omega) q2 q3 hc
    ·split at e
     ·rename_i hv
      obtain ⟨w',x,r,hx⟩:=h2 (.inr (.inl hv))
      obtain ⟨rfl,rfl⟩:=List.cons.inj hx
      split at e
      ·cases e
      ·rename_i q hq
       obtain ⟨q1,q2,q3⟩:=j9a hq
       obtain ⟨hc,rfl⟩:=q7g e
       exact .ex x q (by simp) (by rw [q1,qge,qge];omega) q2 q3 hc
     ·split at e
      ·rename_i hv
       obtain ⟨w',x,r,hx⟩:=h2 (.inr (.inr hv))
       obtain ⟨rfl,rfl⟩:=List.cons.inj hx
       split at e
       ·cases e
       ·rename_i g1
        split at e
        ·cases e
        ·rename_i g2
         obtain ⟨hc,rfl⟩:=q7g e
         exact .sw x (w.1,x.1) (by simp) (by rw [qge,qge];show w.1.length+x.1.length≤_;omega) (by simpa using g1) (by simpa using g2) hc
      ·split at e
       ·cases e
       ·rename_i g1
        split at e
        ·cases e
        ·rename_i g2
         split at e
         ·cases e
         ·rename_i g3
          cases e
          obtain ⟨a1,a2⟩:=qdp (s:=w.1) (by simpa using g1)
          obtain ⟨b1,b2⟩:=qdp (s:=(ws'.getLast?.getD w).1) (by simpa using g2)
          refine .rt _ ?_ a1 b1 (by simpa [jg8,j6a] using g3)
          unfold jlz
          rw [jg8,j6a]
          split
          ·rw [a2,qge];omega
          ·rename_i hne
           rw [a2,b2]
           cases ws' with
           | nil=>exact absurd rfl hne
           | cons y r =>
            have hm:(y::r).getLast?.getD w∈y::r:=by
             rw [List.getLast?_eq_some_getLast (List.cons_ne_nil _ _),Option.getD_some]
             exact List.getLast_mem _
            have:=j24 hm
            rw [qge]
            simp only [List.length_cons,List.length_append,List.length_nil]
            omega
theorem qug {σ σ':MS} {v:List UInt8} {ws:List Lx.Wd} {st:Int} (e:qjp σ st v ws = .inr σ'):Step σ st ws σ':=by
 unfold qjp at e
 split at e
 ·rename_i hm
  refine (jdk (fun hv=>?_) e).mono (fun w hw=>(List.mem_filter.1 hw).1) (qjk _ ws)
  have:(unm ws).length=2:=by
   rcases hv with rfl|rfl|rfl
   ·exact q5c (k:=2) (List.mem_singleton.1 hm) (by decide) (by decide)
   ·exact q5c (k:=2) (List.mem_singleton.1 hm) (by decide) (by decide)
   ·exact q5c (k:=2) (List.mem_singleton.1 hm) (by decide) (by decide)
  obtain ⟨a,b,hab⟩:=jle this
  exact ⟨a,b,[],hab⟩
 ·cases e
theorem qsb {σ σ':MS} {ws:List Lx.Wd} {st:Int} (e:qd8 σ st ws = .inr σ'):Step σ st ws σ' ∨ ∃ b,σ' = { σ with bk:=b }:=by
 unfold qd8 at e
 split at e
 ·cases e;exact .inr ⟨σ.bk,rfl⟩
 ·rename_i w ws'
  split at e
  ·split at e
   ·cases e;exact .inr ⟨w.1,rfl⟩
   ·exact .inl ((qug e).mono (fun x hx=>List.mem_cons_of_mem _ hx) (by rw [qge];omega))
  ·split at e
   ·cases e;exact .inr ⟨[],rfl⟩
   ·exact .inl (qug e)
structure GoodM (σ:MS):Prop where
 mo:σ.mo = []∨okS σ.mo=true
 mc:q1l σ (qns,([],v0))=true↔σ.mo ≠ []
 go:σ.go = []∨qhe σ.go=true
 gk:q1l σ (kGo,([],v0))=true↔σ.go ≠ []
 rq : ∀ q∈σ.rq,qpl q.1 q.2=true
 rk : ∀ p,q1l σ (qll,(p,v0))=true↔p∈σ.rq.map Prod.fst
 rn:(σ.rq.map Prod.fst).Nodup
 sw : ∀ q∈σ.sw,okS q.1=true∧q6h q.2=true
 sk : ∀ p,q1l σ (qlk,(p,v0))=true↔p∈σ.sw.map Prod.fst
 sn:(σ.sw.map Prod.fst).Nodup
 ex : ∀ q∈σ.ex,qpl q.1 q.2=true
 ek : ∀ q:Rq,q1l σ (qlj,(q.1,q.2))=true↔q∈σ.ex
 en:σ.ex.Nodup
 rt : ∀ x∈σ.rt,q2t (jg0 x)=true∧q2t (qyd x)=true∧jix (jg0 x) (qyd x)≤0
theorem jl8 (c:Cl) (P:Prop) (h : ¬ P):q1l ms0 c=true↔P:=⟨fun e=>(by cases e),fun p=>absurd p h⟩
theorem good0:GoodM ms0 where
 mo:=.inl rfl
 mc:=jl8 _ _ (fun h=>h rfl)
 go:=.inl rfl
 gk:=jl8 _ _ (fun h=>h rfl)
 rq:=fun q h=>by cases h
 rk:=fun p=>jl8 _ _ (fun h=>by cases h)
 rn:=List.nodup_nil
 sw:=fun q h=>by cases h
 sk:=fun p=>jl8 _ _ (fun h=>by cases h)
 sn:=List.nodup_nil
 ex:=fun q h=>by cases h
 ek:=fun p=>jl8 _ _ (fun h=>by cases h)
 en:=List.nodup_nil
 rt:=fun q h=>by cases h
theorem qt8 (sd:jkm) (c c':Cl) (v:Int×Int):(q0a clT c' (q3h clT c v sd)).isSome=true↔c'=c∨(q0a clT c' sd).isSome=true:=by
 rw [qov]
 cases h:eqT clT c' c with
 | true =>
  have:=(qmj c' c).1 h
  simp [this]
 | false =>
  have:c'≠c:=fun e=>by rw [(qmj c' c).2 e] at h;cases h
  simp [this]
theorem qda {β:Type} {l:List β} {a:β} (h:l.Nodup) (ha:a ∉ l):(l ++ [a]).Nodup:=by
 rw [List.nodup_append]
 exact ⟨h,by simp,fun x hx y hy e=>by rw [List.mem_singleton.1 hy] at e;rw [e] at hx;exact ha hx⟩
theorem ok_ne {p:List UInt8} (h:okS p=true):p ≠ []:=(jct h).1
theorem jj8 {p:List UInt8} (h:qhe p=true):p ≠ []:=(j59 h).1
theorem kd:qns≠kGo∧qns≠qll∧qns≠qlj∧qns≠qlk∧kGo≠qll∧kGo≠qlj∧kGo≠qlk∧qll≠qlj∧qll≠qlk∧qlj≠qlk:=by decide
theorem q0v {σ:MS} {a b:List UInt8} (h:a≠b) (x y:List UInt8×VD) (v:Int×Int):(q0a clT (a,x) (q3h clT (b,y) v σ.sd)).isSome=(q0a clT (a,x) σ.sd).isSome:=by
 rw [jig (fun e=>h (congrArg Prod.fst e))]
theorem qvb {σ:MS} {c:Cl} {P:Prop} (h:q1l σ c=true↔P) (hc:q1l σ c=false) : ¬ P:=fun hp=>by rw [h.2 hp] at hc;cases hc
theorem j97 {σ σ':MS} {ws:List Lx.Wd} {st:Int} (g:GoodM σ) (h:Step σ st ws σ'):GoodM σ':=by
 obtain ⟨d1,d2,d3,d4,d5,d6,d7,d8,d9,d10⟩:=kd
 cases h with
 | mo w hw h hc =>
  exact ⟨.inr h,by show (q0a clT _ _).isSome=true↔_;rw [qt8];simp [ok_ne h],g.go,by show (q0a clT _ _).isSome=true↔_;rw [q0v d1.symm];exact g.gk,g.rq,fun p=>by show (q0a clT _ _).isSome=true↔_;rw [q0v d2.symm];exact g.rk p,g.rn,g.sw,fun p=>by show (q0a clT _ _).isSome=true↔_;rw [q0v d4.symm];exact g.sk p,g.sn,g.ex,fun p=>by show (q0a clT _ _).isSome=true↔_;rw [q0v d3.symm];exact g.ek p,g.en,g.rt⟩
 | go w hw h hc =>
  exact ⟨g.mo,by show (q0a clT _ _).isSome=true↔_;rw [q0v d1];exact g.mc,.inr h,by show (q0a clT _ _).isSome=true↔_;rw [qt8];simp [jj8 h],g.rq,fun p=>by show (q0a clT _ _).isSome=true↔_;rw [q0v d5.symm];exact g.rk p,g.rn,g.sw,fun p=>by show (q0a clT _ _).isSome=true↔_;rw [q0v d7.symm];exact g.sk p,g.sn,g.ex,fun p=>by show (q0a clT _ _).isSome=true↔_;rw [q0v d6.symm];exact g.ek p,g.en,g.rt⟩
 | rq x q hx hz h ht hc =>
  refine ⟨g.mo,by show (q0a clT _ _).isSome=true↔_;rw [q0v d2];exact g.mc,g.go,by show (q0a clT _ _).isSome=true↔_;rw [q0v d5];exact g.gk,fun y hy=>?_,fun p=>?_,?_,g.sw,fun p=>by show (q0a clT _ _).isSome=true↔_;rw [q0v d9.symm];exact g.sk p,g.sn,g.ex,fun p=>by show (q0a clT _ _).isSome=true↔_;rw [q0v d8.symm];exact g.ek p,g.en,g.rt⟩
  ·rcases List.mem_append.1 hy with hy|hy
   ·exact g.rq y hy
   ·rw [List.mem_singleton.1 hy];exact h
  ·show (q0a clT _ _).isSome=true↔_
   rw [qt8]
   have:=g.rk p
   unfold q1l at this
   rw [this,List.map_append,List.mem_append]
   simp [or_comm]
  ·show ((σ.rq ++ [q]).map Prod.fst).Nodup
   rw [List.map_append]
   exact qda g.rn (qvb (g.rk q.1) hc)
 | ex x q hx hz h ht hc =>
  refine ⟨g.mo,by show (q0a clT _ _).isSome=true↔_;rw [q0v d3];exact g.mc,g.go,by show (q0a clT _ _).isSome=true↔_;rw [q0v d6];exact g.gk,g.rq,fun p=>by show (q0a clT _ _).isSome=true↔_;rw [q0v d8];exact g.rk p,g.rn,g.sw,fun p=>by show (q0a clT _ _).isSome=true↔_;rw [q0v d10.symm];exact g.sk p,g.sn,fun y hy=>?_,fun p=>?_,?_,g.rt⟩
  ·rcases List.mem_append.1 hy with hy|hy
   ·exact g.ex y hy
   ·rw [List.mem_singleton.1 hy];exact h
  ·show (q0a clT _ _).isSome=true↔_
   rw [qt8]
   have:=g.ek p
   unfold q1l at this
   rw [this,List.mem_append]
   obtain ⟨p1,p2⟩:=p
   obtain ⟨q1,q2⟩:=q
   simp [or_comm]
  ·exact qda g.en (qvb (g.ek q) hc)
 | sw x q hx hz h h2 hc =>
  refine ⟨g.mo,by show (q0a clT _ _).isSome=true↔_;rw [q0v d4];exact g.mc,g.go,by show (q0a clT _ _).isSome=true↔_;rw [q0v d7];exact g.gk,g.rq,fun p=>by show (q0a clT _ _).isSome=true↔_;rw [q0v d9];exact g.rk p,g.rn,fun y hy=>?_,fun p=>?_,?_,g.ex,fun p=>by show (q0a clT _ _).isSome=true↔_;rw [q0v d10];exact g.ek p,g.en,g.rt⟩
  ·rcases List.mem_append.1 hy with hy|hy
   ·exact g.sw y hy
   ·rw [List.mem_singleton.1 hy];exact ⟨h,h2⟩
  ·show (q0a clT _ _).isSome=true↔_
   rw [qt8]
   have:=g.sk p
   unfold q1l at this
   rw [this,List.map_append,List.mem_append]
   simp [or_comm]
  ·show ((σ.sw ++ [q]).map Prod.fst).Nodup
   rw [List.map_append]
   exact qda g.sn (qvb (g.sk q.1) hc)
 | rt x hz h h2 hc =>
  refine ⟨g.mo,g.mc,g.go,g.gk,g.rq,g.rk,g.rn,g.sw,g.sk,g.sn,g.ex,g.ek,g.en,fun y hy=>?_⟩
  rcases List.mem_append.1 hy with hy|hy
  ·exact g.rt y hy
  ·rw [List.mem_singleton.1 hy];exact ⟨h,h2,hc⟩
theorem jjy {σ:MS} (g:GoodM σ) (b:List UInt8):GoodM { σ with bk:=b }:=⟨g.mo,g.mc,g.go,g.gk,g.rq,g.rk,g.rn,g.sw,g.sk,g.sn,g.ex,g.ek,g.en,g.rt⟩
theorem qsk {σ σ':MS} {ws:List Lx.Wd} {st:Int} (g:GoodM σ) (e:qd8 σ st ws = .inr σ'):GoodM σ':=by
 rcases qsb e with h|⟨b,rfl⟩
 ·exact j97 g h
 ·exact jjy g b
theorem qvv : ∀ (ls:List (List UInt8)) (i st:Int) (σ σ':MS),GoodM σ→q4g ls i st σ = .inr σ'→GoodM σ'
 | [],i,st,σ,σ',g,e=>by cases e;exact g
 | t::ts,i,st,σ,σ',g,e=>by
  rw [q4g] at e
  split at e
  ·cases e
  ·rename_i σ1 h1
   exact qvv ts _ _ σ1 σ' (qsk g h1) e
def j8b (σ σ':MS):Prop:=(σ.mo ≠ []→σ'.mo=σ.mo)∧(σ.go ≠ []→σ'.go=σ.go)∧σ.rq <+: σ'.rq∧σ.sw <+: σ'.sw∧σ.ex <+: σ'.ex∧σ.rt <+: σ'.rt
theorem j8b.rfl' (σ:MS):j8b σ σ:=⟨fun _=>rfl,fun _=>rfl,List.prefix_rfl,List.prefix_rfl,List.prefix_rfl,List.prefix_rfl⟩
theorem j8b.trans {a b c:MS} (h1:j8b a b) (h2:j8b b c):j8b a c:=by
 obtain ⟨a1,a2,a3,a4,a5,a6⟩:=h1
 obtain ⟨b1,b2,b3,b4,b5,b6⟩:=h2
 exact ⟨fun h=>(b1 (by rw [a1 h];exact h)).trans (a1 h),fun h=>(b2 (by rw [a2 h];exact h)).trans (a2 h),a3.trans b3,a4.trans b4,a5.trans b5,a6.trans b6⟩
theorem j6n {σ σ':MS} {ws:List Lx.Wd} {st:Int} (g:GoodM σ) (e:qd8 σ st ws = .inr σ'):j8b σ σ':=by
 rcases qsb e with h|⟨b,rfl⟩
 ·have p:=fun {β:Type} (l:List β) (x:β)=>List.prefix_append l [x]
  cases h with
  | mo w hw h hc=>exact ⟨fun hm=>absurd hm (qvb g.mc hc),fun _=>rfl,List.prefix_rfl,List.prefix_rfl,List.prefix_rfl,List.prefix_rfl⟩
  | go w hw h hc=>exact ⟨fun _=>rfl,fun hm=>absurd hm (qvb g.gk hc),List.prefix_rfl,List.prefix_rfl,List.prefix_rfl,List.prefix_rfl⟩
  | rq x q hx hz h ht hc=>exact ⟨fun _=>rfl,fun _=>rfl,p _ _,List.prefix_rfl,List.prefix_rfl,List.prefix_rfl⟩
  | ex x q hx hz h ht hc=>exact ⟨fun _=>rfl,fun _=>rfl,List.prefix_rfl,List.prefix_rfl,p _ _,List.prefix_rfl⟩
  | sw x q hx hz h h2 hc=>exact ⟨fun _=>rfl,fun _=>rfl,List.prefix_rfl,p _ _,List.prefix_rfl,List.prefix_rfl⟩
  | rt x hz h h2 hc=>exact ⟨fun _=>rfl,fun _=>rfl,List.prefix_rfl,List.prefix_rfl,List.prefix_rfl,p _ _⟩
 ·exact j8b.rfl' σ
theorem qvk : ∀ (ls:List (List UInt8)) (i st:Int) (σ σ':MS),GoodM σ→q4g ls i st σ = .inr σ'→j8b σ σ'
 | [],i,st,σ,σ',g,e=>by cases e;exact j8b.rfl' σ
 | t::ts,i,st,σ,σ',g,e=>by
  rw [q4g] at e
  split at e
  ·cases e
  ·rename_i σ1 h1
   exact (j6n g h1).trans (qvk ts _ _ σ1 σ' (qsk g h1) e)
theorem j2x : ∀ (a b:List (List UInt8)) (i st:Int) (σ:MS),q4g (a++b) i st σ=match q4g a i st σ with
  | .inl e=>.inl e
  | .inr σ'=>q4g b (i+((a.length:Nat):Int)) (st+((tot a:Nat):Int)) σ'
 | [],b,i,st,σ=>by simp [q4g,tot]
 | t::ts,b,i,st,σ=>by
  rw [List.cons_append,q4g,q4g]
  cases qd8 σ st (q66 t) with
  | inl e=>rfl
  | inr σ1 =>
   show q4g (ts++b) _ _ σ1=_
   rw [j2x ts b]
   simp only [List.length_cons,tot]
   rw [show i+1+((ts.length:Nat):Int)=i+((ts.length+1:Nat):Int) by omega,show st+((t.length:Nat):Int)+1+((tot ts:Nat):Int)=st+((t.length+1+tot ts:Nat):Int) by omega]
end Go.Proofs.YtapfankgdkdkgaaGreatDoor.AM
namespace Go.Proofs.YtapfankgdkdkgaaGreatDoor.AM
open Go.RowKit
set_option linter.unusedVariables false
set_option linter.unusedSimpArgs false
set_option synthInstance.maxSize 100000
set_option synthInstance.maxHeartbeats 0
theorem j69 {p x:List UInt8} {e:Int} (h:j60 p x = .inl e):e≠0:=by
 unfold j60 at h
 split at h
 ·cases h;decide
 ·split at h
  ·cases h;decide
  ·split at h<;>cases h;decide
theorem q7l {σ:MS} {c:Cl} {st:Int} {w:Lx.Wd} {e:Int} (h:q2w σ c st w = .inl e):e≠0:=by
 unfold q2w at h
 split at h<;>cases h;decide
theorem jjw {σ:MS} {v:List UInt8} {ws:List Lx.Wd} {st e:Int} (h:qqn σ st v ws = .inl e):e≠0:=by
 unfold qqn at h
 split at h
 ·cases h;decide
 ·split at h
  ·split at h
   ·cases h;decide
   ·exact q7l h
  ·split at h
   ·split at h
    ·cases h;decide
    ·exact q7l h
   ·split at h
    ·split at h
     ·rename_i hq;cases h;exact j69 hq
     ·exact q7l h
    ·split at h
     ·split at h
      ·rename_i hq;cases h;exact j69 hq
      ·exact q7l h
     ·split at h
      ·split at h
       ·cases h;decide
       ·split at h
        ·cases h;decide
        ·exact q7l h
      ·split at h
       ·cases h;decide
       ·split at h
        ·cases h;decide
        ·split at h<;>cases h;decide
theorem j0s {σ:MS} {v:List UInt8} {ws:List Lx.Wd} {st e:Int} (h:qjp σ st v ws = .inl e):e≠0:=by
 unfold qjp at h
 split at h
 ·exact jjw h
 ·cases h;decide
theorem jd4 {σ:MS} {ws:List Lx.Wd} {st e:Int} (h:qd8 σ st ws = .inl e):e≠0:=by
 unfold qd8 at h
 split at h
 ·cases h
 ·split at h
  ·split at h
   ·cases h
   ·exact j0s h
  ·split at h
   ·cases h
   ·exact j0s h
theorem qvx : ∀ (ls:List (List UInt8)) (i st:Int) (σ:MS) (e:Int×Int),q4g ls i st σ = .inl e→e.2≠0
 | [],i,st,σ,e,h=>by cases h
 | t::ts,i,st,σ,e,h=>by
  rw [q4g] at h
  split at h
  ·rename_i h1;cases h;exact jd4 h1
  ·exact qvx ts _ _ _ e h
structure IsM (s:List UInt8) (σ:MS):Prop where
 okc : ∀ t∈Lx.q0o s,∀ c∈t,Lx.okc c=true
 rd:q4g (Lx.q0o s) 0 0 ms0 = .inr σ
 bk:σ.bk = []
 mo:σ.mo ≠ []
theorem jhg {s:List UInt8} {σ:MS} {k:Int} (h:qji s = .inr (σ,k)):IsM s σ∧k=(((Lx.q0o s).length:Nat):Int):=by
 unfold qji at h
 split at h
 ·cases h
 ·rename_i h0
  split at h
  ·cases h
  ·rename_i σ1 h1
   split at h
   ·cases h
   ·rename_i h2
    split at h
    ·cases h
    ·rename_i h3
     cases h
     exact ⟨⟨qo3 _ 0 [] (by simpa using h0),h1,by simpa using h2,h3⟩,rfl⟩
theorem jjl {s:List UInt8} {σ:MS} (h:IsM s σ):qji s = .inr (σ,(((Lx.q0o s).length:Nat):Int)):=by
 unfold qji
 rw [if_neg (by simpa using qn3 _ 0 [] h.okc),h.rd]
 simp only [h.bk,h.mo,ne_eq,not_true_eq_false,if_false]
theorem qrg {s:List UInt8} {σ:MS} (h:IsM s σ):q9p s=(σ.md,((((Lx.q0o s).length:Nat):Int),0)):=by unfold q9p;rw [jjl h]
theorem j2a {s:List UInt8} (h:(q9p s).2.2=0) : ∃ σ,IsM s σ:=by
 cases hr:qji s with
 | inr x=>exact ⟨x.1,(jhg (k:=x.2) hr).1⟩
 | inl e =>
  exfalso
  have h':e.2=0:=by unfold q9p at h;rw [hr] at h;exact h
  unfold qji at hr
  split at hr
  ·rename_i h0;cases hr;exact h0 h'
  ·split at hr
   ·rename_i h1;cases hr;exact qvx _ _ _ _ _ h1 h'
   ·split at hr
    ·cases hr;exact absurd (show (10:Int)=0 from h') (by decide)
    ·split at hr
     ·cases hr;exact absurd (show (5:Int)=0 from h') (by decide)
     ·cases hr
theorem IsM.good {s:List UInt8} {σ:MS} (h:IsM s σ):GoodM σ:=qvv _ _ _ _ _ good0 h.rd
theorem qtr (a:List UInt8) (c:UInt8):Lx.qu5 (a ++ [c])=decide (c=10):=by
 unfold Lx.qu5
 by_cases h:c=10<;>simp [h]
theorem qv6 (a:List UInt8):Lx.q0o (a ++ [10])=spl 10 [] a:=by
 unfold Lx.q0o
 rw [if_neg (by simp),qtr,decide_eq_true rfl,if_pos rfl,List.dropLast_concat]
theorem j8g (a b:List UInt8) : ∃ r,Lx.q0o (a++10::b)=Lx.q0o (a ++ [10])++r:=by
 rw [qv6]
 rcases List.eq_nil_or_concat b with rfl|⟨m,c,rfl⟩
 ·exact ⟨[],by rw [qv6,List.append_nil]⟩
 ·rw [List.concat_eq_append]
  unfold Lx.q0o
  rw [if_neg (by simp)]
  have e:a++10::(m ++ [c])=(a++10::m) ++ [c]:=by simp
  rw [e,qtr]
  split
  ·rw [List.dropLast_concat,qoz];exact ⟨_,rfl⟩
  ·rw [← e,qoz];exact ⟨_,rfl⟩
theorem jdb (n:Nat) (hn:9223372036854775807<n) (hl:q1q n=some true) (s:List UInt8) (at_:Int):qfl n s at_=some true:=by
 unfold qfl
 have g1:=gtI s 3000
 rw [show ((3000:Nat):Int)=(3000:Int) from rfl] at g1
 simp only [hl,Option.bind_some,g1]
 by_cases c1:s.length≤3000
 ·rw [decide_eq_true c1,Bool.not_true,cond_false]
  by_cases c2:at_<0
  ·rw [decide_eq_true c2,cond_true]
  ·rw [decide_eq_false c2,cond_false]
   by_cases c3:((s.length:Nat):Int)≤at_
   ·rw [decide_eq_true c3,cond_true]
   ·rw [decide_eq_false c3,cond_false]
    obtain ⟨j,rfl⟩ : ∃ j:Nat,at_=(j:Int):=⟨at_.toNat,by omega⟩
    have hj:j<s.length:=by omega
    rw [q9d hj,Option.bind_some]
    by_cases c4:((s[j].toNat:Nat):Int)=10
    ·have h10:s[j]=10:=UInt8.toNat_inj.1 (show s[j].toNat=10 by omega)
     rw [decide_eq_true c4,Bool.not_true,cond_false]
     have hsub:q1x s (0:Int) ((j+1:Nat):Int)=some (s.take (j+1)):=sub_zero (by omega)
     have e1:s.take (j+1)=s.take j ++ [10]:=by rw [List.take_succ_eq_append_getElem hj,h10]
     have e2:s=s.take j++10::s.drop (j+1):=by
      conv=>lhs;rw [← List.take_append_drop j s,List.drop_eq_getElem_cons hj,h10]
     simp only [q0e,q0w (show j<4611686018427387904 by omega),hsub,Option.bind_some,qkk n s (by omega) (by omega),qkk n (s.take (j+1)) (by simp;omega) (by omega)]
     by_cases c5:(q9p s).2.2=0
     ·by_cases c6:(q9p (s.take (j+1))).2.2=0
      ·obtain ⟨σ,r1⟩:=j2a c5
       obtain ⟨σ1,r2⟩:=j2a c6
       obtain ⟨r,hr⟩:=j8g (s.take j) (s.drop (j+1))
       rw [← e2,← e1] at hr
       have hm:j8b σ1 σ:=by
        have h:=r1.rd
        rw [hr,j2x,r2.rd] at h
        exact qvk _ _ _ _ _ r2.good h
       obtain ⟨m1,m2,m3,m4,m5,m6⟩:=hm
       rw [qrg r1,qrg r2]
       have k1:=m3.length_le
       have k2:=m4.length_le
       have k3:=m5.length_le
       have k4:=m6.length_le
       have kb:=r2.good
       have hb:σ1.rq.length≤1000000:=by
        have:=(jd2 (s.take (j+1))).1
        rw [qrg r2] at this
        have h2:(s.take (j+1)).length≤s.length:=by simp;omega
        have h3:σ1.rq.length≤(s.take (j+1)).length+1:=this
        omega
       have hmin:min ((σ1.rq.length:Nat):Int) ((σ.rq.length:Nat):Int)=((σ1.rq.length:Nat):Int):=by omega
       have hsub2:q1x σ.rq (0:Int) ((σ1.rq.length:Nat):Int)=some σ1.rq:=by
        rw [sub_zero k1,← List.prefix_iff_eq_take.1 m3]
       simp only [MS.md,decide_true,Bool.not_true,cond_false,m1 r2.mo,cond_true,q0e,leI,k1,k2,k3,k4,hmin,hsub2,Option.bind_some,qth n σ1.rq σ1.rq hb (by omega)]
       by_cases hg:σ1.go = []
       ·simp only [hg,decide_true,cond_true]
       ·simp only [hg,m2 hg,decide_true,decide_false,cond_true,cond_false]
      ·rw [decide_eq_true c5,decide_eq_false c6];rfl
     ·rw [decide_eq_false c5];rfl
    ·rw [decide_eq_false c4];rfl
 ·rw [decide_eq_false c1];rfl
end Go.Proofs.YtapfankgdkdkgaaGreatDoor.AM
namespace Go.Proofs.YtapfankgdkdkgaaGreatDoor.AM
open Go.RowKit
set_option maxRecDepth 100000
abbrev j38:Nat:=9223372036854775808
theorem jlx:q1q j38=some true:=by kernel_rfl
end Go.Proofs.YtapfankgdkdkgaaGreatDoor.AM
namespace Go.Proofs.YtapfankgdkdkgaaGreatDoor.AM
open Go.RowKit
set_option linter.unusedVariables false
set_option maxRecDepth 100000
theorem qxe (s:List UInt8) (a:Int) (_:s.length≤maxLen) (_:(Lit.int .i64 a).wf=true):qfl j38 s a=some true:=jdb j38 (by decide) jlx s a
end Go.Proofs.YtapfankgdkdkgaaGreatDoor.AM
namespace Go.Proofs.YtapfankgdkdkgaaGreatDoor.AM
open Go.RowKit
set_option linter.unusedVariables false
set_option linter.unusedSimpArgs false
theorem j3e : "*" ++ "errors.errorString" = "*errors.errorString":=by decide
theorem j8j (u:TypeId) (h:Tryz.prog.typeName? 3 u=some "*errors.errorString"):u=276 :=
 typeName_ptr_named (nm := "errors.errorString") (by rw [j3e];kernel_rfl) (by kernel_rfl) (by decide) u (by rw [j3e];exact h)
theorem jmy:(Rows.laid_internal_strconv_uint64pow10:DataW Unit)=Lib.tabData .u64 Lib.pow10Tab:=by rfl
theorem jm3:Tryz.prog.globalNamed "internal/strconv.uint64pow10" = some ((Tryz.prog.globalNamed "internal/strconv.uint64pow10").getD 0)∧(Tryz.prog.globals[(Tryz.prog.globalNamed "internal/strconv.uint64pow10").getD 0]?).map (·.type)=some 251:=⟨by kernel_rfl,by kernel_rfl⟩
theorem jj6:Tryz.prog.globalNamed "strconv.ErrSyntax" = some (Tryz.laysAtoi_ren.g 15)∧(Tryz.prog.globals[Tryz.laysAtoi_ren.g 15]?).map (·.type)=some 82:=⟨by kernel_rfl,by kernel_rfl⟩
theorem jgy:Tryz.prog.globalNamed "strconv.ErrRange" = some (Tryz.laysAtoi_ren.g 16)∧(Tryz.prog.globals[Tryz.laysAtoi_ren.g 16]?).map (·.type)=some 82:=⟨by kernel_rfl,by kernel_rfl⟩
theorem qsf:Tryz.prog.cellsOf 278=1:=by kernel_rfl
theorem qru:Tryz.prog.cellsOf 9=1:=by kernel_rfl
theorem hEt:Tryz.prog.globalNamed "errors.errorType" = some 0:=by kernel_rfl
theorem hRt:(Tryz.prog.cutTypes.find? (·.1 == "internal/reflectlite.rtype")).map (·.2)=some 196:=by kernel_rfl
theorem hOne:((List.range 306).filter fun t=>Tryz.prog.rowNamed t [101,114,114,111,114]) = [82]:=by kernel_rfl
theorem hSize:Tryz.prog.types.size=306:=by kernel_rfl
theorem jkv {w:World} (hsh:w.ShapedOpen Tryz.prog) (hLH:laidMetH Tryz.prog [("math/bits.deBruijn32tab",Rows.laid_math_bits_deBruijn32tab),("math/bits.deBruijn64tab",Rows.laid_math_bits_deBruijn64tab),("internal/strconv.uint64pow10",Rows.laid_internal_strconv_uint64pow10),("unicode/utf8.acceptRanges",Rows.laid_unicode_utf8_acceptRanges),("errors.errorType",Rows.laid_errors_errorType),("strconv.ErrRange",Rows.laid_strconv_ErrRange),("strconv.ErrSyntax",Rows.laid_strconv_ErrSyntax),("unicode/utf8.first",Rows.laid_unicode_utf8_first)] w):Inv w:=by
 have h':laidMet Tryz.prog [("math/bits.deBruijn32tab",Rows.laid_math_bits_deBruijn32tab),("math/bits.deBruijn64tab",Rows.laid_math_bits_deBruijn64tab),("internal/strconv.uint64pow10",Rows.laid_internal_strconv_uint64pow10),("unicode/utf8.acceptRanges",Rows.laid_unicode_utf8_acceptRanges),("strconv.ErrRange",Rows.laid_strconv_ErrRange),("strconv.ErrSyntax",Rows.laid_strconv_ErrSyntax),("unicode/utf8.first",Rows.laid_unicode_utf8_first)] w∧handlesMet Tryz.prog [("errors.errorType",Rows.laid_errors_errorType)] w:=hLH
 obtain ⟨name,u,ty,e1,e2,e3,e4,e5⟩:=h'.2 _ (List.mem_singleton.2 rfl)
 have en:name = [101,114,114,111,114]:=(Option.some.inj e1).symm
 subst en
 obtain rfl:=Option.some.inj (hRt.symm.trans e2)
 have hm:ty∈(List.range 306).filter fun t=>Tryz.prog.rowNamed t [101,114,114,111,114]:=List.mem_filter.2 ⟨List.mem_range.2 (by rw [← hSize];exact e3),e4⟩
 rw [hOne] at hm
 obtain rfl:=List.mem_singleton.1 hm
 have hh:typeHandle Tryz.prog 82 = .pointer (some ⟨9,82,none⟩):=by kernel_rfl
 rw [hh] at e5
 have hT:w.cell? ⟨0,0,none⟩=some (.iface 196 (.agg #[.pointer (some ⟨9,82,none⟩)])):=by simpa using World.var?_cell hEt e5 0
 have hL:=h'.1
 obtain ⟨m,hm⟩:=Tryz.laysIndex.s1_3 w hsh
 have h3:=hL.tail.tail
 rw [jmy] at h3
 have h5:=hL.tail.tail.tail.tail
 unfold Rows.laid_strconv_ErrRange at h5
 have h6:=hL.tail.tail.tail.tail.tail
 unfold Rows.laid_strconv_ErrSyntax at h6
 obtain ⟨a0,s0,hv0,-,-,-⟩:=laid_sentinel h5 jgy.1 jgy.2 Tryz.underlying82 j8j Tryz.underlying276 Tryz.underlying278 rfl rfl Tryz.underlying9 qsf qru
 obtain ⟨a1,s1,hv1,-,-,-⟩:=laid_sentinel h6 jj6.1 jj6.2 Tryz.underlying82 j8j Tryz.underlying276 Tryz.underlying278 rfl rfl Tryz.underlying9 qsf qru
 have c0:w.cell? ⟨Tryz.laysAtoi_ren.g 16,0,none⟩=some (.iface 276 (.pointer (some a0))):=by have h0:=World.var?_cell jgy.1 hv0 0;simpa using h0
 have c1:w.cell? ⟨Tryz.laysAtoi_ren.g 15,0,none⟩=some (.iface 276 (.pointer (some a1))):=by have h0:=World.var?_cell jj6.1 hv1 0;simpa using h0
 exact ⟨hT,⟨m,hm⟩,Lib.tabIs_of_head jm3.1 jm3.2 (n:=20) (e:=231) (by kernel_rfl) (by kernel_rfl) (by kernel_rfl) (by kernel_rfl) h3,⟨_,_,c1⟩,⟨_,_,c0⟩⟩
noncomputable def wH (os:Os):World :=
 let w0:=World.holding Tryz.prog os ⟨#[],#[],[]⟩
 {w0 with heap:=w0.heap.modify 0 fun
   | .cells _ t frozen=>.cells #[.iface 196 (.agg #[.pointer (some ⟨9,82,none⟩)])] t frozen
   | o=>o }
noncomputable def laidW (os:Os) (laid:List (String×DataW Unit)):World:=(wH os).layVars Tryz.prog laid
theorem qpk {os:Os} {laid:List (String×DataW Unit)} (args:Array Value) (hf:(wH os).layFits Tryz.prog laid []=true) (hi:(wH os).layIfaces Tryz.prog laid (laidW os laid)=true) :
  laidMet Tryz.prog laid ((laidW os laid).forCall (fun _ _=>0) ⟨#[],args,[]⟩).memory:=by
 have e1:(laid.filter fun x=>(laid.map (·.1)).contains x.1)=laid:=List.filter_eq_self.2 fun x hx=>List.contains_iff_mem.2 (List.mem_map.2 ⟨x,hx,rfl⟩)
 have e2:(laid.filter fun x=>!(laid.map (·.1)).contains x.1) = []:=List.filter_eq_nil_iff.2 fun x hx=>by rw [List.contains_iff_mem.2 (List.mem_map.2 ⟨x,hx,rfl⟩)];simp
 have h:laidMet Tryz.prog laid (laidW os laid):=laidMet_layVars (w0:=wH os) (laid.map (·.1)) [] (by rw [e1];rfl) (by rw [e1];exact hf) (by rw [e1];exact hi) (by rw [e2];exact LaidIn.none)
 exact h.of_heap (by simp [World.memory,World.forCall,Input.heap])
end Go.Proofs.YtapfankgdkdkgaaGreatDoor.AM
