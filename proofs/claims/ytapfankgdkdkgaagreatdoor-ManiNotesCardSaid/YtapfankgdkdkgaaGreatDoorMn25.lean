
import Derived.Test.YtapfankgdkdkgaaGreatDoorMn24
namespace Go.Proofs.YtapfankgdkdkgaaGreatDoor.AM
open Go.RowKit
set_option linter.unusedVariables false
set_option linter.unusedSimpArgs false
set_option synthInstance.maxSize 100000
set_option synthInstance.maxHeartbeats 0
def jse (x:Sp):List UInt8:=if jm8 x=j38 x then qn1 (jm8 x) else 91::(qn1 (jm8 x)++44::32::(qn1 (j38 x) ++ [93]))
theorem qd4 {s t:List UInt8} (h:s.length+t.length<=9223372036854775807):qbu s t=some (s++t):=by unfold qbu;rw [if_pos h]
theorem jha : ∀(ls:List (List UInt8)) (i st:Int) (k:Nat) (σ σ':MS),SB k σ->q9n ls i st σ = .inr σ'->SB (k+ls.length) σ'
 | [],i,st,k,σ,σ',h,e=>by cases e;exact h
 | t::ts,i,st,k,σ,σ',h,e=>by
  rw [q9n] at e
  split at e
  ·cases e
  ·rename_i σ1 h1
   have:=jha ts _ _ (k+1) σ1 σ' (jef h h1) e
   rw [List.length_cons,show k+(ts.length+1)=k+1+ts.length by omega]
   exact this
theorem jku (s:List UInt8):ML (s.length+1) (qa6 s).1:=by
 obtain ⟨l1,l2⟩:=Lx.q8a s
 unfold qa6 qn2
 split
 ·rename_i e he
  exact ⟨Nat.zero_le _,Nat.zero_le _,Nat.zero_le _,Nat.zero_le _⟩
 ·rename_i σ k he
  split at he
  ·cases he
  ·split at he
   ·cases he
   ·rename_i σ1 h1
    have h2:=jha _ 0 0 0 ms0 σ1 ⟨Nat.le_refl _,Nat.le_refl _,Nat.le_refl _,Nat.le_refl _⟩ h1
    split at he
    ·cases he
    ·split at he
     ·cases he
     ·cases he
      obtain ⟨b1,b2,b3,b4⟩:=h2
      exact ⟨by show σ.rq.length<=_;omega,by show σ.sw.length<=_;omega,by show σ.ex.length<=_;omega,by show σ.rt.length<=_;omega⟩
theorem ML.mono {k j:Nat} {m:MD} (h:ML k m) (hj:k<=j):ML j m:=by unfold ML at *;omega
end Go.Proofs.YtapfankgdkdkgaaGreatDoor.AM
namespace Go.Proofs.YtapfankgdkdkgaaGreatDoor.AM
open Go.RowKit
set_option linter.unusedVariables false
set_option linter.unusedSimpArgs false
def plb (c:UInt8):Bool:=Lx.okc c&&(!Lx.q1m c && !Lx.isB c)
def plain (w:List UInt8):Prop:=w ≠ []/\w.head? ≠ some 47/\∀c∈w,plb c=true
theorem jfy (c:UInt8) (h:jb0 c=true):plb c=true/\c≠47:=by
 have h1 : ∀i:Fin 256,jb0 (UInt8.ofNat i.1)=true->plb (UInt8.ofNat i.1)=true/\UInt8.ofNat i.1≠47:=by decide +kernel
 have:=h1 ⟨c.toNat,c.toNat_lt⟩
 simpa [h] using this
theorem jcm (c:UInt8) (h:q47 c=true):jb0 c=true:=by unfold jb0;rw [h];simp
theorem pl46:plb 46=true:=by decide
theorem pl47:plb 47=true:=by decide
theorem jdt (c:UInt8) (h:qo0 c=true):plb c=true/\c≠47:=by
 have h1 : ∀i:Fin 256,qo0 (UInt8.ofNat i.1)=true->plb (UInt8.ofNat i.1)=true/\UInt8.ofNat i.1≠47:=by decide +kernel
 have:=h1 ⟨c.toNat,c.toNat_lt⟩
 simpa [h] using this
theorem jko {w:List UInt8} (h:qfu w=true):w.all qo0=true:=by
 unfold qfu at h
 simp only [Bool.and_eq_true] at h
 exact h.2.2.2
theorem j9c {p:List UInt8} (h:q8g p=true):plain p:=by
 have h2:=(j8y h).2
 refine ⟨jot h,fun hd=>?_,fun c hc=>?_⟩
 ·cases p with
  | nil=>cases hd
  | cons a r =>
   simp only [List.head?_cons,Option.some.injEq] at hd
   subst hd
   rw [spl,if_pos rfl,List.all_cons,show qfu []=false from rfl] at h2
   cases h2
 ·have h3:(spl 47 [] p).all (fun w=>w.all qo0)=true:=by
   rw [List.all_eq_true] at h2 ⊢
   exact fun w hw=>jko (h2 w hw)
  rcases ((j3v 47 qo0 p []).1 h3).2 c hc with rfl|h4
  ·exact pl47
  ·exact (jdt c h4).1
theorem ji0 {p:List UInt8} (h:okS p=true):plain p:=j9c (joy h).1
theorem j69 {s:List UInt8} (h:qdv s=true):(∀c∈s,q47 c=true)/\s ≠ []/\s.length<=9:=by
 unfold qdv at h
 simp only [Bool.and_eq_true,decide_eq_true_eq] at h
 exact ⟨fun c hc=>List.all_eq_true.1 h.1 c hc,fun h0=>by have:=h.2.1;rw [h0] at this;simp at this,h.2.2.1⟩
theorem j9j {x:List UInt8} (h:qn5 x=true) : ∃ a b,x=a++46::b/\qdv a=true/\qdv b=true:=by
 unfold qn5 at h
 rw [Bool.and_eq_true] at h
 by_cases hm:(46:UInt8)∈x
 ·obtain ⟨a,b,hx,ha⟩:=List.eq_append_cons_of_mem hm
  have:=jpp 46 a b ha
  rw [hx,this.1,this.2] at h
  exact ⟨a,b,hx,h.1,h.2⟩
 ·have:qdm 46 x = []:=by unfold qdm;rw [if_pos (qre 46 x hm)]
  rw [this] at h
  cases h.2
theorem jau {x:List UInt8} (h:qn5 x=true):plain x:=by
 obtain ⟨a,b,rfl,ha,hb⟩:=j9j h
 have ha:=j69 ha
 have hb:=j69 hb
 refine ⟨by simp,fun hd=>?_,fun c hc=>?_⟩
 ·cases a with
  | nil=>exact ha.2.1 rfl
  | cons d a =>
   simp only [List.cons_append,List.head?_cons,Option.some.injEq] at hd
   exact (jfy d (jcm d (ha.1 d (List.mem_cons_self ..)))).2 hd
 ·rcases List.mem_append.1 hc with hc|hc
  ·exact (jfy c (jcm c (ha.1 c hc))).1
  ·rcases List.mem_cons.1 hc with rfl|hc
   ·exact pl46
   ·exact (jfy c (jcm c (hb.1 c hc))).1
theorem jfv (c:UInt8) (hc:Lx.q1m c=false/\Lx.isB c=true) (r:List UInt8) (i:Nat) (op:Bool) (ws:List Lx.Wd):Lx.qbs (c::r) i op ws=Lx.qbs r (i+1) false ws:=by
 rw [Lx.q9q,hc.1,hc.2];simp
abbrev tx (ws:List Lx.Wd):List (List UInt8):=ws.map Prod.fst
theorem jpy {t:List UInt8} (h : ∀c∈t,Lx.okc c=true):(10:UInt8) ∉ t:=fun hc=>by
 have:=h 10 hc
 revert this;decide
theorem jk3 (L:List (List UInt8)) (h : ∀t∈L,∀c∈t,Lx.okc c=true):Lx.q0a ((L.map (· ++ [10])).flatten)=L:=Lx.qx5 L fun t ht=>jpy (h t ht)
theorem qrh : ∀(L:List (List UInt8)) (i:Nat) (out:List Lx.Ln),(∀t∈L,∀c∈t,Lx.okc c=true)->(Lx.q42 L i out).2.2=0
 | [],i,out,_=>rfl
 | t::L,i,out,h=>by
  rw [Lx.q42,if_pos (List.all_eq_true.2 (h t (List.mem_cons_self ..)))]
  exact qrh L (i+1) _ fun x hx=>h x (List.mem_cons_of_mem _ hx)
theorem qqz : ∀(L:List (List UInt8)) (i:Nat) (out:List Lx.Ln),(Lx.q42 L i out).2.2=0->∀t∈L,∀c∈t,Lx.okc c=true
 | [],i,out,_,t,ht=>by cases ht
 | x::L,i,out,h,t,ht=>by
  rw [Lx.q42] at h
  split at h
  ·rename_i hx
   rcases List.mem_cons.1 ht with rfl|ht
   ·exact fun c hc=>List.all_eq_true.1 hx c hc
   ·exact qqz L (i+1) _ h t ht
  ·cases h
end Go.Proofs.YtapfankgdkdkgaaGreatDoor.AM
namespace Go.Proofs.YtapfankgdkdkgaaGreatDoor.AM
open Go.RowKit
set_option linter.unusedVariables false
set_option linter.unusedSimpArgs false
def q1h (σ:MS) (c:Cl):Bool:=(q0c clT c σ.sd).isSome
def ps (st:Int) (w:Lx.Wd):Int×Int:=(st+w.2,st+w.2+((w.1.length:Nat):Int))
def qjx:List Lx.Wd->Nat
 | []=>0
 | w::r=>w.1.length+qjx r
theorem j5h {w:Lx.Wd} : ∀{ws:List Lx.Wd},w∈ws->w.1.length<=qjx ws
 | x::r,h=>by
  rcases List.mem_cons.1 h with rfl|h
  ·rw [qjx];omega
  ·have:=j5h h;rw [qjx];omega
theorem qmp (p:Lx.Wd->Bool) : ∀ws:List Lx.Wd,qjx (ws.filter p)<=qjx ws
 | []=>Nat.le_refl _
 | x::r=>by
  have:=qmp p r
  rw [List.filter_cons]
  split
  ·rw [qjx,qjx];omega
  ·rw [qjx];omega
inductive Step (σ:MS) (st:Int) (ws:List Lx.Wd):MS->Prop
 | mo (w:Lx.Wd) (hw:w∈ws) (h:okS w.1=true) (hc:q1h σ (qr2,([],v0))=false):Step σ st ws { σ with mo:=w.1,sd:=q3p clT (qr2,([],v0)) (ps st w) σ.sd }
 | go (w:Lx.Wd) (hw:w∈ws) (h:qn5 w.1=true) (hc:q1h σ (kGo,([],v0))=false):Step σ st ws { σ with go:=w.1,sd:=q3p clT (kGo,([],v0)) (ps st w) σ.sd }
 | rq (x:Lx.Wd) (q:Rq) (hx:x∈ws) (hz:q.1.length+x.1.length<=qjx ws) (h:qtq q.1 q.2=true) (ht:qn1 q.2=x.1) (hc:q1h σ (qpd,(q.1,v0))=false):Step σ st ws { σ with rq:=σ.rq ++ [q],sd:=q3p clT (qpd,(q.1,v0)) (ps st x) σ.sd }
 | ex (x:Lx.Wd) (q:Rq) (hx:x∈ws) (hz:q.1.length+x.1.length<=qjx ws) (h:qtq q.1 q.2=true) (ht:qn1 q.2=x.1) (hc:q1h σ (qpc,(q.1,q.2))=false):Step σ st ws { σ with ex:=σ.ex ++ [q],sd:=q3p clT (qpc,(q.1,q.2)) (ps st x) σ.sd }
 | sw (x:Lx.Wd) (q:Sw) (hx:x∈ws) (hz:q.1.length+q.2.length<=qjx ws) (h:okS q.1=true) (h2:q8g q.2=true) (hc:q1h σ (qpf,(q.1,v0))=false):Step σ st ws { σ with sw:=σ.sw ++ [q],sd:=q3p clT (qpf,(q.1,v0)) (ps st x) σ.sd }
 | rt (x:Sp) (hz:(jse x).length<=qjx ws+4) (h:q3h (jm8 x)=true) (h2:q3h (j38 x)=true) (hc:jn1 (jm8 x) (j38 x)<=0):Step σ st ws { σ with rt:=σ.rt ++ [x] }
theorem Step.mono {σ σ':MS} {st:Int} {ws ws':List Lx.Wd} (h:Step σ st ws σ') (h1 : ∀w∈ws,w∈ws') (h2:qjx ws<=qjx ws'):Step σ st ws' σ':=by
 cases h with
 | mo w hw h hc=>exact .mo w (h1 w hw) h hc
 | go w hw h hc=>exact .go w (h1 w hw) h hc
 | rq x q hx hz h ht hc=>exact .rq x q (h1 x hx) (by omega) h ht hc
 | ex x q hx hz h ht hc=>exact .ex x q (h1 x hx) (by omega) h ht hc
 | sw x q hx hz h h2 hc=>exact .sw x q (h1 x hx) (by omega) h h2 hc
 | rt x hz h h2 hc=>exact .rt x (by omega) h h2 hc
theorem q97 {σ σ':MS} {c:Cl} {st:Int} {w:Lx.Wd} (e:q2s σ c st w = .inr σ'):q1h σ c=false/\σ' = { σ with sd:=q3p clT c (ps st w) σ.sd }:=by
 unfold q2s at e
 unfold q1h
 split at e
 ·cases e
 ·rename_i h
  cases e
  exact ⟨by simpa using h,rfl⟩
theorem jcg {p x:List UInt8} {q:Rq} (e:jb3 p x = .inr q):q.1=p/\qtq q.1 q.2=true/\qn1 q.2=x:=by
 unfold jb3 at e
 split at e
 ·cases e
 ·split at e
  ·cases e
  ·split at e
   ·cases e
   ·rename_i h1 h2 h3
    cases e
    exact ⟨rfl,by simpa using h3,(qgn (by simpa using h2)).2⟩
theorem jl6 {σ σ':MS} {v:List UInt8} {ws:List Lx.Wd} {st:Int} (h2:v=qpd\/v=qpc\/v=qpf->∃ w x r,ws=w::x::r) (e:qpe σ st v ws = .inr σ'):Step σ st ws σ':=by
 unfold qpe at e
 split at e
 ·cases e
 ·rename_i w ws'
  have hw0:w∈w::ws':=List.mem_cons_self ..
  split at e
  ·split at e
   ·cases e
   ·rename_i h
    obtain ⟨hc,rfl⟩:=q97 e
    exact .mo w hw0 (by simpa using h) hc
  ·split at e
   ·split at e
    ·cases e
    ·rename_i h
     obtain ⟨hc,rfl⟩:=q97 e
     exact .go w hw0 (by simpa using h) hc
   ·split at e
    ·rename_i hv
     obtain ⟨w',x,r,hx⟩:=h2 (.inl hv)
     obtain ⟨rfl,rfl⟩:=List.cons.inj hx
     split at e
     ·cases e
     ·rename_i q hq
      obtain ⟨q1,q2,q3⟩:=jcg hq
      obtain ⟨hc,rfl⟩:=q97 e
      exact .rq x q (by simp) (by rw [q1,qjx,qjx];omega) q2 q3 hc
    ·split at e
     ·rename_i hv
      obtain ⟨w',x,r,hx⟩:=h2 (.inr (.inl hv))
      obtain ⟨rfl,rfl⟩:=List.cons.inj hx
      split at e
      ·cases e
      ·rename_i q hq
       obtain ⟨q1,q2,q3⟩:=jcg hq
       obtain ⟨hc,rfl⟩:=q97 e
       exact .ex x q (by simp) (by rw [q1,qjx,qjx];omega) q2 q3 hc
     ·split at e
      ·rename_i hv
       obtain ⟨w',x,r,hx⟩:=h2 (.inr (.inr hv))
       obtain ⟨rfl,rfl⟩:=List.cons.inj hx
       split at e
       ·cases e
       ·rename_i g1
        split at e
        ·cases e
        ·rename_i g2
         obtain ⟨hc,rfl⟩:=q97 e
         exact .sw x (w.1,x.1) (by simp) (by rw [qjx,qjx];show w.1.length+x.1.length<=_;omega) (by simpa using g1) (by simpa using g2) hc
      ·split at e
       ·cases e
       ·rename_i g1
        split at e
        ·cases e
        ·rename_i g2
         split at e
         ·cases e
         ·rename_i g3
          cases e
          obtain ⟨a1,a2⟩:=qgn (s:=w.1) (by simpa using g1)
          obtain ⟨b1,b2⟩:=qgn (s:=(ws'.getLast?.getD w).1) (by simpa using g2)
          refine .rt _ ?_ a1 b1 (by simpa [jmb,jdd] using g3)
          unfold jse
          rw [jmb,jdd]
          split
          ·rw [a2,qjx];omega
          ·rename_i hne
           rw [a2,b2]
           cases ws' with
           | nil=>exact absurd rfl hne
           | cons y r =>
            have hm:(y::r).getLast?.getD w∈y::r:=by
             rw [List.getLast?_eq_some_getLast (List.cons_ne_nil _ _),Option.getD_some]
             exact List.getLast_mem _
            have:=j5h hm
            rw [qjx]
            simp only [List.length_cons,List.length_append,List.length_nil]
            omega
theorem j0a {σ σ':MS} {v:List UInt8} {ws:List Lx.Wd} {st:Int} (e:qeq σ st v ws = .inr σ'):Step σ st ws σ':=by
 unfold qeq at e
 split at e
 ·rename_i hm
  refine (jl6 (fun hv=>?_) e).mono (fun w hw=>(List.mem_filter.1 hw).1) (qmp _ ws)
  have:(unm ws).length=2:=by
   rcases hv with rfl|rfl|rfl
   ·exact q6i (k:=2) (List.mem_singleton.1 hm) (by decide) (by decide)
   ·exact q6i (k:=2) (List.mem_singleton.1 hm) (by decide) (by decide)
   ·exact q6i (k:=2) (List.mem_singleton.1 hm) (by decide) (by decide)
  obtain ⟨a,b,hab⟩:=jt2 this
  exact ⟨a,b,[],hab⟩
 ·cases e
theorem jgy {σ σ':MS} {ws:List Lx.Wd} {st:Int} (e:qf3 σ st ws = .inr σ'):Step σ st ws σ' \/ ∃ b,σ' = { σ with bk:=b }:=by
 unfold qf3 at e
 split at e
 ·cases e;exact .inr ⟨σ.bk,rfl⟩
 ·rename_i w ws'
  split at e
  ·split at e
   ·cases e;exact .inr ⟨w.1,rfl⟩
   ·exact .inl ((j0a e).mono (fun x hx=>List.mem_cons_of_mem _ hx) (by rw [qjx];omega))
  ·split at e
   ·cases e;exact .inr ⟨[],rfl⟩
   ·exact .inl (j0a e)
structure GoodM (σ:MS):Prop where
 mo:σ.mo = []\/okS σ.mo=true
 mc:q1h σ (qr2,([],v0))=true↔σ.mo ≠ []
 go:σ.go = []\/qn5 σ.go=true
 gk:q1h σ (kGo,([],v0))=true↔σ.go ≠ []
 rq : ∀q∈σ.rq,qtq q.1 q.2=true
 rk : ∀p,q1h σ (qpd,(p,v0))=true↔p∈σ.rq.map Prod.fst
 rn:(σ.rq.map Prod.fst).Nodup
 sw : ∀q∈σ.sw,okS q.1=true/\q8g q.2=true
 sk : ∀p,q1h σ (qpf,(p,v0))=true↔p∈σ.sw.map Prod.fst
 sn:(σ.sw.map Prod.fst).Nodup
 ex : ∀q∈σ.ex,qtq q.1 q.2=true
 ek : ∀q:Rq,q1h σ (qpc,(q.1,q.2))=true↔q∈σ.ex
 en:σ.ex.Nodup
 rt : ∀x∈σ.rt,q3h (jm8 x)=true/\q3h (j38 x)=true/\jn1 (jm8 x) (j38 x)<=0
theorem jr1 (c:Cl) (P:Prop) (h : ¬ P):q1h ms0 c=true↔P:=⟨fun e=>(by cases e),fun p=>absurd p h⟩
theorem good0:GoodM ms0 where
 mo:=.inl rfl
 mc:=jr1 _ _ (fun h=>h rfl)
 go:=.inl rfl
 gk:=jr1 _ _ (fun h=>h rfl)
 rq:=fun q h=>by cases h
 rk:=fun p=>jr1 _ _ (fun h=>by cases h)
 rn:=List.nodup_nil
 sw:=fun q h=>by cases h
 sk:=fun p=>jr1 _ _ (fun h=>by cases h)
 sn:=List.nodup_nil
 ex:=fun q h=>by cases h
 ek:=fun p=>jr1 _ _ (fun h=>by cases h)
 en:=List.nodup_nil
 rt:=fun q h=>by cases h
theorem qwo (sd:jqe) (c c':Cl) (v:Int×Int):(q0c clT c' (q3p clT c v sd)).isSome=true↔c'=c\/(q0c clT c' sd).isSome=true:=by
 rw [qd1]
 cases h:eqT clT c' c with
 | true =>
  have:=(qqr c' c).1 h
  simp [this]
 | false =>
  have:c'≠c:=fun e=>by rw [(qqr c' c).2 e] at h;cases h
  simp [this]
theorem qg4 {β:Type} {l:List β} {a:β} (h:l.Nodup) (ha:a ∉ l):(l ++ [a]).Nodup:=by
 rw [List.nodup_append]
 exact ⟨h,by simp,fun x hx y hy e=>by rw [List.mem_singleton.1 hy] at e;rw [e] at hx;exact ha hx⟩
theorem ok_ne {p:List UInt8} (h:okS p=true):p ≠ []:=(ji0 h).1
theorem jp3 {p:List UInt8} (h:qn5 p=true):p ≠ []:=(jau h).1
theorem kd:qr2≠kGo/\qr2≠qpd/\qr2≠qpc/\qr2≠qpf/\kGo≠qpd/\kGo≠qpc/\kGo≠qpf/\qpd≠qpc/\qpd≠qpf/\qpc≠qpf:=by decide
theorem q0z {σ:MS} {a b:List UInt8} (h:a≠b) (x y:List UInt8×VD) (v:Int×Int):(q0c clT (a,x) (q3p clT (b,y) v σ.sd)).isSome=(q0c clT (a,x) σ.sd).isSome:=by
 rw [jnp (fun e=>h (congrArg Prod.fst e))]
theorem jbl {σ:MS} {c:Cl} {P:Prop} (h:q1h σ c=true↔P) (hc:q1h σ c=false) : ¬ P:=fun hp=>by rw [h.2 hp] at hc;cases hc
theorem jf5 {σ σ':MS} {ws:List Lx.Wd} {st:Int} (g:GoodM σ) (h:Step σ st ws σ'):GoodM σ':=by
 obtain ⟨d1,d2,d3,d4,d5,d6,d7,d8,d9,d10⟩:=kd
 cases h with
 | mo w hw h hc =>
  exact ⟨.inr h,by show (q0c clT _ _).isSome=true↔_;rw [qwo];simp [ok_ne h],g.go,by show (q0c clT _ _).isSome=true↔_;rw [q0z d1.symm];exact g.gk,g.rq,fun p=>by show (q0c clT _ _).isSome=true↔_;rw [q0z d2.symm];exact g.rk p,g.rn,g.sw,fun p=>by show (q0c clT _ _).isSome=true↔_;rw [q0z d4.symm];exact g.sk p,g.sn,g.ex,fun p=>by show (q0c clT _ _).isSome=true↔_;rw [q0z d3.symm];exact g.ek p,g.en,g.rt⟩
 | go w hw h hc =>
  exact ⟨g.mo,by show (q0c clT _ _).isSome=true↔_;rw [q0z d1];exact g.mc,.inr h,by show (q0c clT _ _).isSome=true↔_;rw [qwo];simp [jp3 h],g.rq,fun p=>by show (q0c clT _ _).isSome=true↔_;rw [q0z d5.symm];exact g.rk p,g.rn,g.sw,fun p=>by show (q0c clT _ _).isSome=true↔_;rw [q0z d7.symm];exact g.sk p,g.sn,g.ex,fun p=>by show (q0c clT _ _).isSome=true↔_;rw [q0z d6.symm];exact g.ek p,g.en,g.rt⟩
 | rq x q hx hz h ht hc =>
  refine ⟨g.mo,by show (q0c clT _ _).isSome=true↔_;rw [q0z d2];exact g.mc,g.go,by show (q0c clT _ _).isSome=true↔_;rw [q0z d5];exact g.gk,fun y hy=>?_,fun p=>?_,?_,g.sw,fun p=>by show (q0c clT _ _).isSome=true↔_;rw [q0z d9.symm];exact g.sk p,g.sn,g.ex,fun p=>by show (q0c clT _ _).isSome=true↔_;rw [q0z d8.symm];exact g.ek p,g.en,g.rt⟩
  ·rcases List.mem_append.1 hy with hy|hy
   ·exact g.rq y hy
   ·rw [List.mem_singleton.1 hy];exact h
  ·show (q0c clT _ _).isSome=true↔_
   rw [qwo]
   have:=g.rk p
   unfold q1h at this
   rw [this,List.map_append,List.mem_append]
   simp [or_comm]
  ·show ((σ.rq ++ [q]).map Prod.fst).Nodup
   rw [List.map_append]
   exact qg4 g.rn (jbl (g.rk q.1) hc)
 | ex x q hx hz h ht hc =>
  refine ⟨g.mo,by show (q0c clT _ _).isSome=true↔_;rw [q0z d3];exact g.mc,g.go,by show (q0c clT _ _).isSome=true↔_;rw [q0z d6];exact g.gk,g.rq,fun p=>by show (q0c clT _ _).isSome=true↔_;rw [q0z d8];exact g.rk p,g.rn,g.sw,fun p=>by show (q0c clT _ _).isSome=true↔_;rw [q0z d10.symm];exact g.sk p,g.sn,fun y hy=>?_,fun p=>?_,?_,g.rt⟩
  ·rcases List.mem_append.1 hy with hy|hy
   ·exact g.ex y hy
   ·rw [List.mem_singleton.1 hy];exact h
  ·show (q0c clT _ _).isSome=true↔_
   rw [qwo]
   have:=g.ek p
   unfold q1h at this
   rw [this,List.mem_append]
   obtain ⟨p1,p2⟩:=p
   obtain ⟨q1,q2⟩:=q
   simp [or_comm]
  ·exact qg4 g.en (jbl (g.ek q) hc)
 | sw x q hx hz h h2 hc =>
  refine ⟨g.mo,by show (q0c clT _ _).isSome=true↔_;rw [q0z d4];exact g.mc,g.go,by show (q0c clT _ _).isSome=true↔_;rw [q0z d7];exact g.gk,g.rq,fun p=>by show (q0c clT _ _).isSome=true↔_;rw [q0z d9];exact g.rk p,g.rn,fun y hy=>?_,fun p=>?_,?_,g.ex,fun p=>by show (q0c clT _ _).isSome=true↔_;rw [q0z d10];exact g.ek p,g.en,g.rt⟩
  ·rcases List.mem_append.1 hy with hy|hy
   ·exact g.sw y hy
   ·rw [List.mem_singleton.1 hy];exact ⟨h,h2⟩
  ·show (q0c clT _ _).isSome=true↔_
   rw [qwo]
   have:=g.sk p
   unfold q1h at this
   rw [this,List.map_append,List.mem_append]
   simp [or_comm]
  ·show ((σ.sw ++ [q]).map Prod.fst).Nodup
   rw [List.map_append]
   exact qg4 g.sn (jbl (g.sk q.1) hc)
 | rt x hz h h2 hc =>
  refine ⟨g.mo,g.mc,g.go,g.gk,g.rq,g.rk,g.rn,g.sw,g.sk,g.sn,g.ex,g.ek,g.en,fun y hy=>?_⟩
  rcases List.mem_append.1 hy with hy|hy
  ·exact g.rt y hy
  ·rw [List.mem_singleton.1 hy];exact ⟨h,h2,hc⟩
theorem jq5 {σ:MS} (g:GoodM σ) (b:List UInt8):GoodM { σ with bk:=b }:=⟨g.mo,g.mc,g.go,g.gk,g.rq,g.rk,g.rn,g.sw,g.sk,g.sn,g.ex,g.ek,g.en,g.rt⟩
theorem jes {σ σ':MS} {ws:List Lx.Wd} {st:Int} (g:GoodM σ) (e:qf3 σ st ws = .inr σ'):GoodM σ':=by
 rcases jgy e with h|⟨b,rfl⟩
 ·exact jf5 g h
 ·exact jq5 g b
theorem j07 : ∀(ls:List (List UInt8)) (i st:Int) (σ σ':MS),GoodM σ->q9n ls i st σ = .inr σ'->GoodM σ'
 | [],i,st,σ,σ',g,e=>by cases e;exact g
 | t::ts,i,st,σ,σ',g,e=>by
  rw [q9n] at e
  split at e
  ·cases e
  ·rename_i σ1 h1
   exact j07 ts _ _ σ1 σ' (jes g h1) e
def jqh (σ σ':MS):Prop:=(σ.mo ≠ []->σ'.mo=σ.mo)/\(σ.go ≠ []->σ'.go=σ.go)/\σ.rq <+: σ'.rq/\σ.sw <+: σ'.sw/\σ.ex <+: σ'.ex/\σ.rt <+: σ'.rt
theorem jqh.rfl' (σ:MS):jqh σ σ:=⟨fun _=>rfl,fun _=>rfl,List.prefix_rfl,List.prefix_rfl,List.prefix_rfl,List.prefix_rfl⟩
theorem jqh.trans {a b c:MS} (h1:jqh a b) (h2:jqh b c):jqh a c:=by
 obtain ⟨a1,a2,a3,a4,a5,a6⟩:=h1
 obtain ⟨b1,b2,b3,b4,b5,b6⟩:=h2
 exact ⟨fun h=>(b1 (by rw [a1 h];exact h)).trans (a1 h),fun h=>(b2 (by rw [a2 h];exact h)).trans (a2 h),a3.trans b3,a4.trans b4,a5.trans b5,a6.trans b6⟩
end Go.Proofs.YtapfankgdkdkgaaGreatDoor.AM
namespace Go.Proofs.YtapfankgdkdkgaaGreatDoor.AM
open Go.RowKit
set_option linter.unusedVariables false
set_option linter.unusedSimpArgs false
set_option synthInstance.maxSize 100000
set_option synthInstance.maxHeartbeats 0
theorem jeq {p x:List UInt8} {e:Int} (h:jb3 p x = .inl e):e≠0:=by
 unfold jb3 at h
 split at h
 ·cases h;decide
 ·split at h
  ·cases h;decide
  ·split at h<;>cases h;decide
theorem q9f {σ:MS} {c:Cl} {st:Int} {w:Lx.Wd} {e:Int} (h:q2s σ c st w = .inl e):e≠0:=by
 unfold q2s at h
 split at h<;>cases h;decide
theorem jnc {σ:MS} {v:List UInt8} {ws:List Lx.Wd} {st e:Int} (h:qpe σ st v ws = .inl e):e≠0:=by
 unfold qpe at h
 split at h
 ·cases h;decide
 ·split at h
  ·split at h
   ·cases h;decide
   ·exact q9f h
  ·split at h
   ·split at h
    ·cases h;decide
    ·exact q9f h
   ·split at h
    ·split at h
     ·rename_i hq;cases h;exact jeq hq
     ·exact q9f h
    ·split at h
     ·split at h
      ·rename_i hq;cases h;exact jeq hq
      ·exact q9f h
     ·split at h
      ·split at h
       ·cases h;decide
       ·split at h
        ·cases h;decide
        ·exact q9f h
      ·split at h
       ·cases h;decide
       ·split at h
        ·cases h;decide
        ·split at h<;>cases h;decide
theorem j74 {σ:MS} {v:List UInt8} {ws:List Lx.Wd} {st e:Int} (h:qeq σ st v ws = .inl e):e≠0:=by
 unfold qeq at h
 split at h
 ·exact jnc h
 ·cases h;decide
theorem jk4 {σ:MS} {ws:List Lx.Wd} {st e:Int} (h:qf3 σ st ws = .inl e):e≠0:=by
 unfold qf3 at h
 split at h
 ·cases h
 ·split at h
  ·split at h
   ·cases h
   ·exact j74 h
  ·split at h
   ·cases h
   ·exact j74 h
theorem qzz : ∀(ls:List (List UInt8)) (i st:Int) (σ:MS) (e:Int×Int),q9n ls i st σ = .inl e->e.2≠0
 | [],i,st,σ,e,h=>by cases h
 | t::ts,i,st,σ,e,h=>by
  rw [q9n] at h
  split at h
  ·rename_i h1;cases h;exact jk4 h1
  ·exact qzz ts _ _ _ e h
structure IsM (s:List UInt8) (σ:MS):Prop where
 okc : ∀t∈Lx.q0a s,∀c∈t,Lx.okc c=true
 rd:q9n (Lx.q0a s) 0 0 ms0 = .inr σ
 bk:σ.bk = []
 mo:σ.mo ≠ []
theorem jou {s:List UInt8} {σ:MS} {k:Int} (h:qn2 s = .inr (σ,k)):IsM s σ/\k=(((Lx.q0a s).length:Nat):Int):=by
 unfold qn2 at h
 split at h
 ·cases h
 ·rename_i h0
  split at h
  ·cases h
  ·rename_i σ1 h1
   split at h
   ·cases h
   ·rename_i h2
    split at h
    ·cases h
    ·rename_i h3
     cases h
     exact ⟨⟨qqz _ 0 [] (by simpa using h0),h1,by simpa using h2,h3⟩,rfl⟩
theorem jom {s:List UInt8} {σ:MS} (h:IsM s σ):qn2 s = .inr (σ,(((Lx.q0a s).length:Nat):Int)):=by
 unfold qn2
 rw [if_neg (by simpa using qrh _ 0 [] h.okc),h.rd]
 simp only [h.bk,h.mo,ne_eq,not_true_eq_false,if_false]
theorem qvo {s:List UInt8} {σ:MS} (h:IsM s σ):qa6 s=(σ.md,((((Lx.q0a s).length:Nat):Int),0)):=by unfold qa6;rw [jom h]
theorem jjf {s:List UInt8} (h:(qa6 s).2.2=0) : ∃ σ,IsM s σ:=by
 cases hr:qn2 s with
 | inr x=>exact ⟨x.1,(jou (k:=x.2) hr).1⟩
 | inl e =>
  exfalso
  have h':e.2=0:=by unfold qa6 at h;rw [hr] at h;exact h
  unfold qn2 at hr
  split at hr
  ·rename_i h0;cases hr;exact h0 h'
  ·split at hr
   ·rename_i h1;cases hr;exact qzz _ _ _ _ _ h1 h'
   ·split at hr
    ·cases hr;exact absurd (show (10:Int)=0 from h') (by decide)
    ·split at hr
     ·cases hr;exact absurd (show (5:Int)=0 from h') (by decide)
     ·cases hr
theorem IsM.good {s:List UInt8} {σ:MS} (h:IsM s σ):GoodM σ:=j07 _ _ _ _ _ good0 h.rd
end Go.Proofs.YtapfankgdkdkgaaGreatDoor.AM
namespace Go.Proofs.YtapfankgdkdkgaaGreatDoor.AM
open Go.RowKit
set_option linter.unusedVariables false
set_option linter.unusedSimpArgs false
set_option synthInstance.maxSize 100000
set_option synthInstance.maxHeartbeats 0
def Sm (σ τ:MS):Prop:=σ.md=τ.md/\∀c,q1h σ c=q1h τ c
theorem Sm.mo {σ τ:MS} (h:Sm σ τ):σ.mo=τ.mo:=congrArg (fun m:MD=>m.1) h.1
theorem Sm.rfl' (σ:MS):Sm σ σ:=⟨rfl,fun _=>rfl⟩
def jsp (b1 b2:List UInt8):Int⊕MS->Int⊕MS->Prop
 | .inl e,.inl e'=>e=e'
 | .inr σ,.inr τ=>Sm σ τ/\σ.bk=b1/\τ.bk=b2
 | _,_=>False
theorem qa5 {σ τ:MS} {b1 b2:List UInt8} (h:Sm σ τ) (h1:σ.bk=b1) (h2:τ.bk=b2) (c:Cl) (st st':Int) (w w':Lx.Wd):jsp b1 b2 (q2s σ c st w) (q2s τ c st' w'):=by
 have hc:=h.2 c
 unfold q1h at hc
 unfold q2s
 rw [hc]
 cases (q0c clT c τ.sd).isSome with
 | true=>rfl
 | false =>
  refine ⟨⟨h.1,fun c'=>?_⟩,h1,h2⟩
  have h3:=h.2 c'
  unfold q1h at h3 ⊢
  show (q0c clT c' (q3p clT c _ σ.sd)).isSome=(q0c clT c' (q3p clT c _ τ.sd)).isSome
  rw [qd1,qd1]
  cases eqT clT c' c with
  | true=>rfl
  | false=>exact h3
theorem jgv : ∀(r r':List Lx.Wd) (w w':Lx.Wd),w.1=w'.1->tx r=tx r'->(r.getLast?.getD w).1=(r'.getLast?.getD w').1
 | [],[],w,w',h,_=>h
 | [],_::_,_,_,_,h=>by cases h
 | _::_,[],_,_,_,h=>by cases h
 | a::r,b::r',w,w',h,e=>by
  obtain ⟨h1,h2⟩:=List.cons.inj e
  rw [List.getLast?_cons,List.getLast?_cons]
  exact jgv r r' a b h1 h2
theorem jjy {r r':List Lx.Wd} (h:tx r=tx r'):(r.headD ([],0)).1=(r'.headD ([],0)).1:=by
 cases r<;>cases r'<;>first|rfl|cases h|exact (List.cons.inj h).1
theorem jo6 {σ τ:MS} {b1 b2:List UInt8} (h:Sm σ τ) (h1:σ.bk=b1) (h2:τ.bk=b2) (v:List UInt8) (st st':Int) {ws ws':List Lx.Wd} (hw:tx ws=tx ws'):jsp b1 b2 (qpe σ st v ws) (qpe τ st' v ws'):=by
 obtain ⟨m1,g1,k1,s1,r1,w1,e1,t1⟩:=σ
 obtain ⟨m2,g2,k2,s2,r2,w2,e2,t2⟩:=τ
 have hc:=h.2
 have hm:=h.1
 simp only [MS.md,Prod.mk.injEq] at hm
 obtain ⟨rfl,rfl,rfl,rfl,rfl,rfl⟩:=hm
 cases ws with
 | nil =>
  cases ws' with
  | nil=>rfl
  | cons=>cases hw
 | cons w r =>
  cases ws' with
  | nil=>cases hw
  | cons w' r' =>
   obtain ⟨e0,e9⟩:=List.cons.inj hw
   have e1':=jjy e9
   have e2':=jgv r r' w w' e0 e9
   unfold qpe
   simp only [e0,e1',e2']
   split
   ·split
    ·rfl
    ·exact qa5 (by exact ⟨rfl,hc⟩) (by exact h1) (by exact h2) _ _ _ _ _
   ·split
    ·split
     ·rfl
     ·exact qa5 (by exact ⟨rfl,hc⟩) (by exact h1) (by exact h2) _ _ _ _ _
    ·split
     ·split
      ·rfl
      ·exact qa5 (by exact ⟨rfl,hc⟩) (by exact h1) (by exact h2) _ _ _ _ _
     ·split
      ·split
       ·rfl
       ·exact qa5 (by exact ⟨rfl,hc⟩) (by exact h1) (by exact h2) _ _ _ _ _
      ·split
       ·split
        ·rfl
        ·split
         ·rfl
         ·exact qa5 (by exact ⟨rfl,hc⟩) (by exact h1) (by exact h2) _ _ _ _ _
       ·split
        ·rfl
        ·split
         ·rfl
         ·split
          ·rfl
          ·exact ⟨⟨rfl,hc⟩,h1,h2⟩
theorem jge {ws ws':List Lx.Wd} (h:tx ws=tx ws'):shp ws=shp ws':=by
 have e : ∀ws:List Lx.Wd,ws.map qq3=(tx ws).map fun t=>if jfz t then t else [120]:=fun ws=>by simp [qq3,Function.comp_def]
 unfold shp
 rw [e,e,h]
theorem jlr : ∀{ws ws':List Lx.Wd},tx ws=tx ws'->tx (unm ws)=tx (unm ws')
 | [],[],_=>rfl
 | [],_::_,h=>by cases h
 | _::_,[],h=>by cases h
 | a::r,b::r',h=>by
  obtain ⟨h1,h2⟩:=List.cons.inj h
  have ih:=jlr h2
  unfold unm at ih ⊢
  rw [List.filter_cons,List.filter_cons,h1]
  split
  ·show a.1::tx _=b.1::tx _
   rw [ih,h1]
  ·exact ih
theorem j5d {σ τ:MS} {b1 b2:List UInt8} (h:Sm σ τ) (h1:σ.bk=b1) (h2:τ.bk=b2) (v:List UInt8) (st st':Int) {ws ws':List Lx.Wd} (hw:tx ws=tx ws'):jsp b1 b2 (qeq σ st v ws) (qeq τ st' v ws'):=by
 unfold qeq
 rw [jge hw]
 split
 ·exact jo6 h h1 h2 v st st' (jlr hw)
 ·rfl
def RelL:Int⊕MS->Int⊕MS->Prop
 | .inl e,.inl e'=>e=e'
 | .inr σ,.inr τ=>Sm σ τ/\σ.bk=τ.bk
 | _,_=>False
theorem jsp.toL {b:List UInt8} {x y:Int⊕MS} (h:jsp b b x y):RelL x y:=by
 cases x<;>cases y
 ·exact h
 ·exact h
 ·exact h
 ·exact ⟨h.1,h.2.1.trans h.2.2.symm⟩
theorem jkj {σ τ:MS} (h:Sm σ τ) (hb:σ.bk=τ.bk) (st st':Int) {ws ws':List Lx.Wd} (hw:tx ws=tx ws'):RelL (qf3 σ st ws) (qf3 τ st' ws'):=by
 cases ws with
 | nil =>
  cases ws' with
  | nil=>exact ⟨h,hb⟩
  | cons=>cases hw
 | cons w r =>
  cases ws' with
  | nil=>cases hw
  | cons w' r' =>
   obtain ⟨e0,e9⟩:=List.cons.inj hw
   unfold qf3
   have q1:=jge hw
   have q2:=jge e9
   simp only [q1,q2,hb,e0]
   split
   ·split
    ·exact ⟨⟨h.1,h.2⟩,rfl⟩
    ·exact (j5d h hb rfl _ st st' e9).toL
   ·split
    ·exact ⟨⟨h.1,h.2⟩,rfl⟩
    ·exact (j5d h hb rfl _ st st' hw).toL
inductive Lns:List (List UInt8)->List (List UInt8)->Prop
 | nil:Lns [] []
 | both {a b:List UInt8} {r r':List (List UInt8)} (h:tx (q2k a)=tx (q2k b)) (hr:Lns r r'):Lns (a::r) (b::r')
 | more {b:List UInt8} {r r':List (List UInt8)} (h:q2k b = []) (hr:Lns r r'):Lns r (b::r')
theorem Lns.read {L L':List (List UInt8)} (h:Lns L L') : ∀(i i' st st':Int) (σ τ σ':MS),Sm σ τ->σ.bk=τ.bk->q9n L i st σ = .inr σ'->∃ τ',q9n L' i' st' τ = .inr τ'/\Sm σ' τ'/\σ'.bk=τ'.bk:=by
 induction h with
 | nil=>intro i i' st st' σ τ σ' h1 h2 e;cases e;exact ⟨τ,rfl,h1,h2⟩
 | both h hr ih =>
  intro i i' st st' σ τ σ' h1 h2 e
  have hl:=jkj h1 h2 st st' h
  rw [q9n] at e ⊢
  split at e
  ·cases e
  ·rename_i σ1 hs
   rw [hs] at hl
   split
   ·rename_i e' he';rw [he'] at hl;exact absurd hl id
   ·rename_i τ1 ht
    rw [ht] at hl
    exact ih _ _ _ _ _ _ _ hl.1 hl.2 e
 | more h hr ih =>
  intro i i' st st' σ τ σ' h1 h2 e
  rw [q9n,h]
  exact ih _ _ _ _ _ _ _ h1 h2 e
theorem Sm.bk {σ τ:MS} (h:Sm σ τ) (b:List UInt8):Sm σ { τ with bk:=b }:=⟨h.1,h.2⟩
end Go.Proofs.YtapfankgdkdkgaaGreatDoor.AM
namespace Go.Proofs.YtapfankgdkdkgaaGreatDoor.AM
open Go.RowKit
set_option linter.unusedVariables false
set_option linter.unusedSimpArgs false
def word (w:List UInt8):Prop:=plain w/\jfz w=false
end Go.Proofs.YtapfankgdkdkgaaGreatDoor.AM
