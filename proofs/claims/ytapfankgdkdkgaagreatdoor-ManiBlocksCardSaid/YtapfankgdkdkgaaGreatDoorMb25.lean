
import Derived.Test.YtapfankgdkdkgaaGreatDoorMb24
namespace Go.Proofs.YtapfankgdkdkgaaGreatDoor.AM
open Go.RowKit
set_option linter.unusedVariables false
set_option linter.unusedSimpArgs false
set_option synthInstance.maxSize 100000
set_option synthInstance.maxHeartbeats 0
def k00 (x:Sp):List UInt8:=if jiz x=qtd x then q2x (jiz x) else 91::(q2x (jiz x)++44::32::(q2x (qtd x) ++ [93]))
def rqL (q:Rq):List (List UInt8):=[q8b,q.1,q2x q.2]
theorem qzy (v:VD):(q2x v).length<=92:=by
 unfold q2x
 split
 ·exact jx2 ‹_›
 ·simp
theorem qbi {s t:List UInt8} (h:s.length+t.length<=9223372036854775807):q6q s t=some (s++t):=by unfold q6q;rw [if_pos h]
theorem jpn : ∀(ls:List (List UInt8)) (i st:Int) (k:Nat) (σ σ':MS),SB k σ->q1a ls i st σ = .inr σ'->SB (k+ls.length) σ'
 | [],i,st,k,σ,σ',h,e=>by cases e;exact h
 | t::ts,i,st,k,σ,σ',h,e=>by
  rw [q1a] at e
  split at e
  ·cases e
  ·rename_i σ1 h1
   have:=jpn ts _ _ (k+1) σ1 σ' (jpb h h1) e
   rw [List.length_cons,show k+(ts.length+1)=k+1+ts.length by omega]
   exact this
theorem jrh (s:List UInt8):ML (s.length+1) (qcf s).1:=by
 obtain ⟨l1,l2⟩:=Lx.qfk s
 unfold qcf qsn
 split
 ·rename_i e he
  exact ⟨Nat.zero_le _,Nat.zero_le _,Nat.zero_le _,Nat.zero_le _⟩
 ·rename_i σ k he
  split at he
  ·cases he
  ·split at he
   ·cases he
   ·rename_i σ1 h1
    have h2:=jpn _ 0 0 0 ms0 σ1 ⟨Nat.le_refl _,Nat.le_refl _,Nat.le_refl _,Nat.le_refl _⟩ h1
    split at he
    ·cases he
    ·split at he
     ·cases he
     ·cases he
      obtain ⟨b1,b2,b3,b4⟩:=h2
      exact ⟨by show σ.rq.length<=_;omega,by show σ.sw.length<=_;omega,by show σ.ex.length<=_;omega,by show σ.rt.length<=_;omega⟩
theorem ML.mono {k j:Nat} {m:MD} (h:ML k m) (hj:k<=j):ML j m:=by unfold ML at *;omega
end Go.Proofs.YtapfankgdkdkgaaGreatDoor.AM
namespace Go.Proofs.YtapfankgdkdkgaaGreatDoor.AM
open Go.RowKit
set_option linter.unusedVariables false
set_option linter.unusedSimpArgs false
def plb (c:UInt8):Bool:=Lx.okc c&&(!Lx.q6x c && !Lx.isB c)
def plain (w:List UInt8):Prop:=w ≠ []/\w.head? ≠ some 47/\∀c∈w,plb c=true
theorem j3l (c:UInt8) (h:qnn c=true):plb c=true/\c≠47:=by
 have h1 : ∀i:Fin 256,qnn (UInt8.ofNat i.1)=true->plb (UInt8.ofNat i.1)=true/\UInt8.ofNat i.1≠47:=by decide +kernel
 have:=h1 ⟨c.toNat,c.toNat_lt⟩
 simpa [h] using this
theorem jf0 (c:UInt8) (h:q18 c=true):qnn c=true:=by unfold qnn;rw [h];simp
theorem pl46:plb 46=true:=by decide
theorem pl47:plb 47=true:=by decide
theorem jlb (c:UInt8) (h:qa3 c=true):plb c=true/\c≠47:=by
 have h1 : ∀i:Fin 256,qa3 (UInt8.ofNat i.1)=true->plb (UInt8.ofNat i.1)=true/\UInt8.ofNat i.1≠47:=by decide +kernel
 have:=h1 ⟨c.toNat,c.toNat_lt⟩
 simpa [h] using this
theorem jcf {w:List UInt8} (h:qav w=true):w.all qa3=true:=by
 unfold qav at h
 simp only [Bool.and_eq_true] at h
 exact h.2.2.2
theorem qw9 {p:List UInt8} (h:q56 p=true):plain p:=by
 have h2:=(qjh h).2
 refine ⟨jw2 h,fun hd=>?_,fun c hc=>?_⟩
 ·cases p with
  | nil=>cases hd
  | cons a r =>
   simp only [List.head?_cons,Option.some.injEq] at hd
   subst hd
   rw [spl,if_pos rfl,List.all_cons,show qav []=false from rfl] at h2
   cases h2
 ·have h3:(spl 47 [] p).all (fun w=>w.all qa3)=true:=by
   rw [List.all_eq_true] at h2 ⊢
   exact fun w hw=>jcf (h2 w hw)
  rcases ((qrx 47 qa3 p []).1 h3).2 c hc with rfl|h4
  ·exact pl47
  ·exact (jlb c h4).1
theorem jt2 {p:List UInt8} (h:okS p=true):plain p:=qw9 (qyi h).1
theorem j03 {i:Int} (h:0<=i) : ∀c∈Lib.itoa i,plb c=true:=by
 rw [q1t h]
 intro c hc
 exact (j3l c (jf0 c (List.all_eq_true.1 (qzi i.toNat).1 c hc))).1
theorem j4x {d:UInt8} (hd:plb d=true) {p:List UInt8->Bool} (hp : ∀w,p w=true->w.all qnn=true) {s:List UInt8} (h:q5h p s=true) : ∀c∈q6n d s,plb c=true:=by
 unfold q6n
 split
 ·intro c hc;cases hc
 ·intro c hc
  rcases List.mem_cons.1 hc with rfl|hc
  ·exact hd
  ·rcases jfa hp h c hc with rfl|h1
   ·exact pl46
   ·exact (j3l c h1).1
theorem jia {v:VD} (h:q1m v=true):plain (q2x v):=by
 obtain ⟨h1,h2,h3,h4,h5⟩:=q26 h
 unfold q2x
 rw [if_pos h]
 unfold jsr
 refine ⟨by simp,by simp,fun c hc=>?_⟩
 simp only [List.mem_cons,List.mem_append] at hc
 rcases hc with rfl|hc|rfl|hc|rfl|hc|hc|hc
 ·decide
 ·exact j03 h1.1 c hc
 ·exact pl46
 ·exact j03 h2.1 c hc
 ·exact pl46
 ·exact j03 h3.1 c hc
 ·exact j4x (by decide) j1p h4 c hc
 ·exact j4x (by decide) qwu h5 c hc
theorem jfo {s:List UInt8} (h:qif s=true):(∀c∈s,q18 c=true)/\s ≠ []/\s.length<=9:=by
 unfold qif at h
 simp only [Bool.and_eq_true,decide_eq_true_eq] at h
 exact ⟨fun c hc=>List.all_eq_true.1 h.1 c hc,fun h0=>by have:=h.2.1;rw [h0] at this;simp at this,h.2.2.1⟩
theorem ji6 {x:List UInt8} (h:qos x=true) : ∃ a b,x=a++46::b/\qif a=true/\qif b=true:=by
 unfold qos at h
 rw [Bool.and_eq_true] at h
 by_cases hm:(46:UInt8)∈x
 ·obtain ⟨a,b,hx,ha⟩:=List.eq_append_cons_of_mem hm
  have:=j80 46 a b ha
  rw [hx,this.1,this.2] at h
  exact ⟨a,b,hx,h.1,h.2⟩
 ·have:qe2 46 x = []:=by unfold qe2;rw [if_pos (qkv 46 x hm)]
  rw [this] at h
  cases h.2
theorem jg5 {x:List UInt8} (h:qos x=true):plain x:=by
 obtain ⟨a,b,rfl,ha,hb⟩:=ji6 h
 have ha:=jfo ha
 have hb:=jfo hb
 refine ⟨by simp,fun hd=>?_,fun c hc=>?_⟩
 ·cases a with
  | nil=>exact ha.2.1 rfl
  | cons d a =>
   simp only [List.cons_append,List.head?_cons,Option.some.injEq] at hd
   exact (j3l d (jf0 d (ha.1 d (List.mem_cons_self ..)))).2 hd
 ·rcases List.mem_append.1 hc with hc|hc
  ·exact (j3l c (jf0 c (ha.1 c hc))).1
  ·rcases List.mem_cons.1 hc with rfl|hc
   ·exact pl46
   ·exact (j3l c (jf0 c (hb.1 c hc))).1
theorem jaz {c:UInt8} (h:plb c=true):Lx.q6x c=false/\Lx.isB c=false/\Lx.okc c=true:=by
 unfold plb at h
 simp only [Bool.and_eq_true,Bool.not_eq_true'] at h
 exact ⟨h.2.1,h.2.2,h.1⟩
theorem jlx (r:List UInt8) : ∀(w:List UInt8) (i:Nat) (ws:List Lx.Wd) (u:List UInt8) (p:Int),(∀c∈w,plb c=true)->Lx.qbc (w++r) i true (ws ++ [(u,p)])=Lx.qbc r (i+w.length) true (ws ++ [(u++w,p)])
 | [],i,ws,u,p,_=>by simp
 | c::w,i,ws,u,p,h=>by
  obtain ⟨h1,h2,_⟩:=jaz (h c (List.mem_cons_self ..))
  rw [List.cons_append,Lx.qh8,h1,h2]
  simp only [Bool.false_eq_true,if_false,if_true]
  rw [Lx.qik,jlx r w (i+1) ws (u ++ [c]) p (fun d hd=>h d (List.mem_cons_of_mem _ hd))]
  simp only [List.append_assoc,List.singleton_append,List.length_cons]
  congr 1;omega
theorem j0c {w:List UInt8} (hw:plain w) (r:List UInt8) (i:Nat) (ws:List Lx.Wd):Lx.qbc (w++r) i false ws=Lx.qbc r (i+w.length) true (ws ++ [(w,((i:Nat):Int))]):=by
 obtain ⟨h0,h1,h2⟩:=hw
 cases w with
 | nil=>exact absurd rfl h0
 | cons c w =>
  obtain ⟨g1,g2,_⟩:=jaz (h2 c (List.mem_cons_self ..))
  have hp:Lx.pfx (c::(w++r))=false:=by
   have hc:c≠47:=fun h=>h1 (by rw [h];rfl)
   cases h:w++r with
   | nil=>rfl
   | cons b t=>simp [Lx.pfx,hc]
  rw [List.cons_append,Lx.qh8,g1,g2,hp]
  simp only [Bool.false_eq_true,if_false]
  rw [jlx r w (i+1) ws [c] _ (fun d hd=>h2 d (List.mem_cons_of_mem _ hd))]
  simp only [List.singleton_append,List.length_cons]
  congr 1;omega
theorem j1l (c:UInt8) (hc:Lx.q6x c=false/\Lx.isB c=true) (r:List UInt8) (i:Nat) (op:Bool) (ws:List Lx.Wd):Lx.qbc (c::r) i op ws=Lx.qbc r (i+1) false ws:=by
 rw [Lx.qh8,hc.1,hc.2];simp
abbrev tx (ws:List Lx.Wd):List (List UInt8):=ws.map Prod.fst
theorem qo8 : ∀(L:List (List UInt8)) (i:Nat) (ws:List Lx.Wd),(∀w∈L,plain w)->tx (Lx.qbc (Lib.joinTail [32] L) i true ws).1=tx ws++L
 | [],i,ws,_=>by simp [Lib.joinTail,Lx.qbc]
 | w::L,i,ws,h=>by
  have e:Lib.joinTail [32] (w::L)=32::(w++Lib.joinTail [32] L):=by simp [Lib.joinTail]
  rw [e,j1l 32 (by decide),j0c (h w (List.mem_cons_self ..)),qo8 L _ _ (fun x hx=>h x (List.mem_cons_of_mem _ hx))]
  simp
theorem jin (L:List (List UInt8)) (h : ∀w∈L,plain w):tx (q15 (Lib.join L [32]))=L:=by
 unfold q15 Lx.j7n
 cases L with
 | nil=>simp [Lib.join_nil,Lx.qbc]
 | cons w L =>
  rw [Lib.join_cons,j0c (h w (List.mem_cons_self ..)),qo8 L _ _ (fun x hx=>h x (List.mem_cons_of_mem _ hx))]
  rfl
theorem jl0 (L:List (List UInt8)) (h : ∀w∈L,plain w):tx (q15 (9::Lib.join L [32]))=L:=by
 unfold q15 Lx.j7n
 rw [j1l 9 (by decide)]
 cases L with
 | nil=>simp [Lib.join_nil,Lx.qbc]
 | cons w L =>
  rw [Lib.join_cons,j0c (h w (List.mem_cons_self ..)),qo8 L _ _ (fun x hx=>h x (List.mem_cons_of_mem _ hx))]
  rfl
theorem jfk : ∀(L:List (List UInt8)),(∀w∈L,∀c∈w,Lx.okc c=true)->∀c∈Lib.join L [32],Lx.okc c=true
 | [],_,c,hc=>by cases hc
 | w::L,h,c,hc=>by
  rw [Lib.join_cons] at hc
  rcases List.mem_append.1 hc with hc|hc
  ·exact h w (List.mem_cons_self ..) c hc
  ·unfold Lib.joinTail at hc
   obtain ⟨l,hl,hcl⟩:=List.mem_flatten.1 hc
   obtain ⟨x,hx,rfl⟩:=List.mem_map.1 hl
   rcases List.mem_append.1 hcl with hc|hc
   ·rw [List.mem_singleton.1 hc];decide
   ·exact h x (List.mem_cons_of_mem _ hx) c hc
theorem qb4 {w:List UInt8} (h:plain w) : ∀c∈w,Lx.okc c=true:=fun c hc=>(jaz (h.2.2 c hc)).2.2
theorem juz {t:List UInt8} (h : ∀c∈t,Lx.okc c=true):(10:UInt8) ∉ t:=fun hc=>by
 have:=h 10 hc
 revert this;decide
theorem qy1 (L:List (List UInt8)) (h : ∀t∈L,∀c∈t,Lx.okc c=true):Lx.q0p ((L.map (· ++ [10])).flatten)=L:=Lx.j7d L fun t ht=>juz (h t ht)
theorem qwj : ∀(L:List (List UInt8)) (i:Nat) (out:List Lx.Ln),(∀t∈L,∀c∈t,Lx.okc c=true)->(Lx.q4x L i out).2.2=0
 | [],i,out,_=>rfl
 | t::L,i,out,h=>by
  rw [Lx.q4x,if_pos (List.all_eq_true.2 (h t (List.mem_cons_self ..)))]
  exact qwj L (i+1) _ fun x hx=>h x (List.mem_cons_of_mem _ hx)
theorem qwn : ∀(L:List (List UInt8)) (i:Nat) (out:List Lx.Ln),(Lx.q4x L i out).2.2=0->∀t∈L,∀c∈t,Lx.okc c=true
 | [],i,out,_,t,ht=>by cases ht
 | x::L,i,out,h,t,ht=>by
  rw [Lx.q4x] at h
  split at h
  ·rename_i hx
   rcases List.mem_cons.1 ht with rfl|ht
   ·exact fun c hc=>List.all_eq_true.1 hx c hc
   ·exact qwn L (i+1) _ h t ht
  ·cases h
end Go.Proofs.YtapfankgdkdkgaaGreatDoor.AM
namespace Go.Proofs.YtapfankgdkdkgaaGreatDoor.AM
open Go.RowKit
set_option linter.unusedVariables false
set_option linter.unusedSimpArgs false
def q1c (σ:MS) (c:Cl):Bool:=(q0f clT c σ.sd).isSome
def ps (st:Int) (w:Lx.Wd):Int×Int:=(st+w.2,st+w.2+((w.1.length:Nat):Int))
def qnt:List Lx.Wd->Nat
 | []=>0
 | w::r=>w.1.length+qnt r
theorem jc9 {w:Lx.Wd} : ∀{ws:List Lx.Wd},w∈ws->w.1.length<=qnt ws
 | x::r,h=>by
  rcases List.mem_cons.1 h with rfl|h
  ·rw [qnt];omega
  ·have:=jc9 h;rw [qnt];omega
theorem qoj (p:Lx.Wd->Bool) : ∀ws:List Lx.Wd,qnt (ws.filter p)<=qnt ws
 | []=>Nat.le_refl _
 | x::r=>by
  have:=qoj p r
  rw [List.filter_cons]
  split
  ·rw [qnt,qnt];omega
  ·rw [qnt];omega
inductive Step (σ:MS) (st:Int) (ws:List Lx.Wd):MS->Prop
 | mo (w:Lx.Wd) (hw:w∈ws) (h:okS w.1=true) (hc:q1c σ (qnh,([],v0))=false):Step σ st ws { σ with mo:=w.1,sd:=q41 clT (qnh,([],v0)) (ps st w) σ.sd }
 | go (w:Lx.Wd) (hw:w∈ws) (h:qos w.1=true) (hc:q1c σ (kGo,([],v0))=false):Step σ st ws { σ with go:=w.1,sd:=q41 clT (kGo,([],v0)) (ps st w) σ.sd }
 | rq (x:Lx.Wd) (q:Rq) (hx:x∈ws) (hz:q.1.length+x.1.length<=qnt ws) (h:q3p q.1 q.2=true) (ht:q2x q.2=x.1) (hc:q1c σ (q8b,(q.1,v0))=false):Step σ st ws { σ with rq:=σ.rq ++ [q],sd:=q41 clT (q8b,(q.1,v0)) (ps st x) σ.sd }
 | ex (x:Lx.Wd) (q:Rq) (hx:x∈ws) (hz:q.1.length+x.1.length<=qnt ws) (h:q3p q.1 q.2=true) (ht:q2x q.2=x.1) (hc:q1c σ (qu2,(q.1,q.2))=false):Step σ st ws { σ with ex:=σ.ex ++ [q],sd:=q41 clT (qu2,(q.1,q.2)) (ps st x) σ.sd }
 | sw (x:Lx.Wd) (q:Sw) (hx:x∈ws) (hz:q.1.length+q.2.length<=qnt ws) (h:okS q.1=true) (h2:q56 q.2=true) (hc:q1c σ (qu0,(q.1,v0))=false):Step σ st ws { σ with sw:=σ.sw ++ [q],sd:=q41 clT (qu0,(q.1,v0)) (ps st x) σ.sd }
 | rt (x:Sp) (hz:(k00 x).length<=qnt ws+4) (h:q1m (jiz x)=true) (h2:q1m (qtd x)=true) (hc:jx5 (jiz x) (qtd x)<=0):Step σ st ws { σ with rt:=σ.rt ++ [x] }
theorem Step.mono {σ σ':MS} {st:Int} {ws ws':List Lx.Wd} (h:Step σ st ws σ') (h1 : ∀w∈ws,w∈ws') (h2:qnt ws<=qnt ws'):Step σ st ws' σ':=by
 cases h with
 | mo w hw h hc=>exact .mo w (h1 w hw) h hc
 | go w hw h hc=>exact .go w (h1 w hw) h hc
 | rq x q hx hz h ht hc=>exact .rq x q (h1 x hx) (by omega) h ht hc
 | ex x q hx hz h ht hc=>exact .ex x q (h1 x hx) (by omega) h ht hc
 | sw x q hx hz h h2 hc=>exact .sw x q (h1 x hx) (by omega) h h2 hc
 | rt x hz h h2 hc=>exact .rt x (by omega) h h2 hc
theorem q8v {σ σ':MS} {c:Cl} {st:Int} {w:Lx.Wd} (e:q1w σ c st w = .inr σ'):q1c σ c=false/\σ' = { σ with sd:=q41 clT c (ps st w) σ.sd }:=by
 unfold q1w at e
 unfold q1c
 split at e
 ·cases e
 ·rename_i h
  cases e
  exact ⟨by simpa using h,rfl⟩
theorem jjo {p x:List UInt8} {q:Rq} (e:ja4 p x = .inr q):q.1=p/\q3p q.1 q.2=true/\q2x q.2=x:=by
 unfold ja4 at e
 split at e
 ·cases e
 ·split at e
  ·cases e
  ·split at e
   ·cases e
   ·rename_i h1 h2 h3
    cases e
    exact ⟨rfl,by simpa using h3,(qj8 (by simpa using h2)).2⟩
theorem jtk {σ σ':MS} {v:List UInt8} {ws:List Lx.Wd} {st:Int} (h2:v=q8b\/v=qu2\/v=qu0->∃ w x r,ws=w::x::r) (e:qu3 σ st v ws = .inr σ'):Step σ st ws σ':=by
 unfold qu3 at e
 split at e
 ·cases e
 ·rename_i w ws'
  have hw0:w∈w::ws':=List.mem_cons_self ..
  split at e
  ·split at e
   ·cases e
   ·rename_i h
    obtain ⟨hc,rfl⟩:=q8v e
    exact .mo w hw0 (by simpa using h) hc
  ·split at e
   ·split at e
    ·cases e
    ·rename_i h
     obtain ⟨hc,rfl⟩:=q8v e
     exact .go w hw0 (by simpa using h) hc
   ·split at e
    ·rename_i hv
     obtain ⟨w',x,r,hx⟩:=h2 (.inl hv)
     obtain ⟨rfl,rfl⟩:=List.cons.inj hx
     split at e
     ·cases e
     ·rename_i q hq
      obtain ⟨q1,q2,q3⟩:=jjo hq
      obtain ⟨hc,rfl⟩:=q8v e
      exact .rq x q (by simp) (by rw [q1,qnt,qnt];omega) q2 q3 hc
    ·split at e
     ·rename_i hv
      obtain ⟨w',x,r,hx⟩:=h2 (.inr (.inl hv))
      obtain ⟨rfl,rfl⟩:=List.cons.inj hx
      split at e
      ·cases e
      ·rename_i q hq
       obtain ⟨q1,q2,q3⟩:=jjo hq
       obtain ⟨hc,rfl⟩:=q8v e
       exact .ex x q (by simp) (by rw [q1,qnt,qnt];omega) q2 q3 hc
     ·split at e
      ·rename_i hv
       obtain ⟨w',x,r,hx⟩:=h2 (.inr (.inr hv))
       obtain ⟨rfl,rfl⟩:=List.cons.inj hx
       split at e
       ·cases e
       ·rename_i g1
        split at e
        ·cases e
        ·rename_i g2
         obtain ⟨hc,rfl⟩:=q8v e
         exact .sw x (w.1,x.1) (by simp) (by rw [qnt,qnt];show w.1.length+x.1.length<=_;omega) (by simpa using g1) (by simpa using g2) hc
      ·split at e
       ·cases e
       ·rename_i g1
        split at e
        ·cases e
        ·rename_i g2
         split at e
         ·cases e
         ·rename_i g3
          cases e
          obtain ⟨a1,a2⟩:=qj8 (s:=w.1) (by simpa using g1)
          obtain ⟨b1,b2⟩:=qj8 (s:=(ws'.getLast?.getD w).1) (by simpa using g2)
          refine .rt _ ?_ a1 b1 (by simpa [jtw,jl2] using g3)
          unfold k00
          rw [jtw,jl2]
          split
          ·rw [a2,qnt];omega
          ·rename_i hne
           rw [a2,b2]
           cases ws' with
           | nil=>exact absurd rfl hne
           | cons y r =>
            have hm:(y::r).getLast?.getD w∈y::r:=by
             rw [List.getLast?_eq_some_getLast (List.cons_ne_nil _ _),Option.getD_some]
             exact List.getLast_mem _
            have:=jc9 hm
            rw [qnt]
            simp only [List.length_cons,List.length_append,List.length_nil]
            omega
theorem j30 {σ σ':MS} {v:List UInt8} {ws:List Lx.Wd} {st:Int} (e:q6d σ st v ws = .inr σ'):Step σ st ws σ':=by
 unfold q6d at e
 split at e
 ·rename_i hm
  refine (jtk (fun hv=>?_) e).mono (fun w hw=>(List.mem_filter.1 hw).1) (qoj _ ws)
  have:(unm ws).length=2:=by
   rcases hv with rfl|rfl|rfl
   ·exact q88 (k:=2) (List.mem_singleton.1 hm) (by decide) (by decide)
   ·exact q88 (k:=2) (List.mem_singleton.1 hm) (by decide) (by decide)
   ·exact q88 (k:=2) (List.mem_singleton.1 hm) (by decide) (by decide)
  obtain ⟨a,b,hab⟩:=k1l this
  exact ⟨a,b,[],hab⟩
 ·cases e
theorem j7h {σ σ':MS} {ws:List Lx.Wd} {st:Int} (e:q58 σ st ws = .inr σ'):Step σ st ws σ' \/ ∃ b,σ' = { σ with bk:=b }:=by
 unfold q58 at e
 split at e
 ·cases e;exact .inr ⟨σ.bk,rfl⟩
 ·rename_i w ws'
  split at e
  ·split at e
   ·cases e;exact .inr ⟨w.1,rfl⟩
   ·exact .inl ((j30 e).mono (fun x hx=>List.mem_cons_of_mem _ hx) (by rw [qnt];omega))
  ·split at e
   ·cases e;exact .inr ⟨[],rfl⟩
   ·exact .inl (j30 e)
structure GoodM (σ:MS):Prop where
 mo:σ.mo = []\/okS σ.mo=true
 mc:q1c σ (qnh,([],v0))=true↔σ.mo ≠ []
 go:σ.go = []\/qos σ.go=true
 gk:q1c σ (kGo,([],v0))=true↔σ.go ≠ []
 rq : ∀q∈σ.rq,q3p q.1 q.2=true
 rk : ∀p,q1c σ (q8b,(p,v0))=true↔p∈σ.rq.map Prod.fst
 rn:(σ.rq.map Prod.fst).Nodup
 sw : ∀q∈σ.sw,okS q.1=true/\q56 q.2=true
 sk : ∀p,q1c σ (qu0,(p,v0))=true↔p∈σ.sw.map Prod.fst
 sn:(σ.sw.map Prod.fst).Nodup
 ex : ∀q∈σ.ex,q3p q.1 q.2=true
 ek : ∀q:Rq,q1c σ (qu2,(q.1,q.2))=true↔q∈σ.ex
 en:σ.ex.Nodup
 rt : ∀x∈σ.rt,q1m (jiz x)=true/\q1m (qtd x)=true/\jx5 (jiz x) (qtd x)<=0
theorem jzw (c:Cl) (P:Prop) (h : ¬ P):q1c ms0 c=true↔P:=⟨fun e=>(by cases e),fun p=>absurd p h⟩
theorem k0s:GoodM ms0 where
 mo:=.inl rfl
 mc:=jzw _ _ (fun h=>h rfl)
 go:=.inl rfl
 gk:=jzw _ _ (fun h=>h rfl)
 rq:=fun q h=>by cases h
 rk:=fun p=>jzw _ _ (fun h=>by cases h)
 rn:=List.nodup_nil
 sw:=fun q h=>by cases h
 sk:=fun p=>jzw _ _ (fun h=>by cases h)
 sn:=List.nodup_nil
 ex:=fun q h=>by cases h
 ek:=fun p=>jzw _ _ (fun h=>by cases h)
 en:=List.nodup_nil
 rt:=fun q h=>by cases h
theorem j69 (sd:jyz) (c c':Cl) (v:Int×Int):(q0f clT c' (q41 clT c v sd)).isSome=true↔c'=c\/(q0f clT c' sd).isSome=true:=by
 rw [qg8]
 cases h:eqT clT c' c with
 | true =>
  have:=(qwx c' c).1 h
  simp [this]
 | false =>
  have:c'≠c:=fun e=>by rw [(qwx c' c).2 e] at h;cases h
  simp [this]
theorem qkz {β:Type} {l:List β} {a:β} (h:l.Nodup) (ha:a ∉ l):(l ++ [a]).Nodup:=by
 rw [List.nodup_append]
 exact ⟨h,by simp,fun x hx y hy e=>by rw [List.mem_singleton.1 hy] at e;rw [e] at hx;exact ha hx⟩
theorem ok_ne {p:List UInt8} (h:okS p=true):p ≠ []:=(jt2 h).1
theorem jwx {p:List UInt8} (h:qos p=true):p ≠ []:=(jg5 h).1
theorem kd:qnh≠kGo/\qnh≠q8b/\qnh≠qu2/\qnh≠qu0/\kGo≠q8b/\kGo≠qu2/\kGo≠qu0/\q8b≠qu2/\q8b≠qu0/\qu2≠qu0:=by decide
theorem q17 {σ:MS} {a b:List UInt8} (h:a≠b) (x y:List UInt8×VD) (v:Int×Int):(q0f clT (a,x) (q41 clT (b,y) v σ.sd)).isSome=(q0f clT (a,x) σ.sd).isSome:=by
 rw [jy3 (fun e=>h (congrArg Prod.fst e))]
theorem j4y {σ:MS} {c:Cl} {P:Prop} (h:q1c σ c=true↔P) (hc:q1c σ c=false) : ¬ P:=fun hp=>by rw [h.2 hp] at hc;cases hc
theorem jme {σ σ':MS} {ws:List Lx.Wd} {st:Int} (g:GoodM σ) (h:Step σ st ws σ'):GoodM σ':=by
 obtain ⟨d1,d2,d3,d4,d5,d6,d7,d8,d9,d10⟩:=kd
 cases h with
 | mo w hw h hc =>
  exact ⟨.inr h,by show (q0f clT _ _).isSome=true↔_;rw [j69];simp [ok_ne h],g.go,by show (q0f clT _ _).isSome=true↔_;rw [q17 d1.symm];exact g.gk,g.rq,fun p=>by show (q0f clT _ _).isSome=true↔_;rw [q17 d2.symm];exact g.rk p,g.rn,g.sw,fun p=>by show (q0f clT _ _).isSome=true↔_;rw [q17 d4.symm];exact g.sk p,g.sn,g.ex,fun p=>by show (q0f clT _ _).isSome=true↔_;rw [q17 d3.symm];exact g.ek p,g.en,g.rt⟩
 | go w hw h hc =>
  exact ⟨g.mo,by show (q0f clT _ _).isSome=true↔_;rw [q17 d1];exact g.mc,.inr h,by show (q0f clT _ _).isSome=true↔_;rw [j69];simp [jwx h],g.rq,fun p=>by show (q0f clT _ _).isSome=true↔_;rw [q17 d5.symm];exact g.rk p,g.rn,g.sw,fun p=>by show (q0f clT _ _).isSome=true↔_;rw [q17 d7.symm];exact g.sk p,g.sn,g.ex,fun p=>by show (q0f clT _ _).isSome=true↔_;rw [q17 d6.symm];exact g.ek p,g.en,g.rt⟩
 | rq x q hx hz h ht hc =>
  refine ⟨g.mo,by show (q0f clT _ _).isSome=true↔_;rw [q17 d2];exact g.mc,g.go,by show (q0f clT _ _).isSome=true↔_;rw [q17 d5];exact g.gk,fun y hy=>?_,fun p=>?_,?_,g.sw,fun p=>by show (q0f clT _ _).isSome=true↔_;rw [q17 d9.symm];exact g.sk p,g.sn,g.ex,fun p=>by show (q0f clT _ _).isSome=true↔_;rw [q17 d8.symm];exact g.ek p,g.en,g.rt⟩
  ·rcases List.mem_append.1 hy with hy|hy
   ·exact g.rq y hy
   ·rw [List.mem_singleton.1 hy];exact h
  ·show (q0f clT _ _).isSome=true↔_
   rw [j69]
   have:=g.rk p
   unfold q1c at this
   rw [this,List.map_append,List.mem_append]
   simp [or_comm]
  ·show ((σ.rq ++ [q]).map Prod.fst).Nodup
   rw [List.map_append]
   exact qkz g.rn (j4y (g.rk q.1) hc)
 | ex x q hx hz h ht hc =>
  refine ⟨g.mo,by show (q0f clT _ _).isSome=true↔_;rw [q17 d3];exact g.mc,g.go,by show (q0f clT _ _).isSome=true↔_;rw [q17 d6];exact g.gk,g.rq,fun p=>by show (q0f clT _ _).isSome=true↔_;rw [q17 d8];exact g.rk p,g.rn,g.sw,fun p=>by show (q0f clT _ _).isSome=true↔_;rw [q17 d10.symm];exact g.sk p,g.sn,fun y hy=>?_,fun p=>?_,?_,g.rt⟩
  ·rcases List.mem_append.1 hy with hy|hy
   ·exact g.ex y hy
   ·rw [List.mem_singleton.1 hy];exact h
  ·show (q0f clT _ _).isSome=true↔_
   rw [j69]
   have:=g.ek p
   unfold q1c at this
   rw [this,List.mem_append]
   obtain ⟨p1,p2⟩:=p
   obtain ⟨q1,q2⟩:=q
   simp [or_comm]
  ·exact qkz g.en (j4y (g.ek q) hc)
 | sw x q hx hz h h2 hc =>
  refine ⟨g.mo,by show (q0f clT _ _).isSome=true↔_;rw [q17 d4];exact g.mc,g.go,by show (q0f clT _ _).isSome=true↔_;rw [q17 d7];exact g.gk,g.rq,fun p=>by show (q0f clT _ _).isSome=true↔_;rw [q17 d9];exact g.rk p,g.rn,fun y hy=>?_,fun p=>?_,?_,g.ex,fun p=>by show (q0f clT _ _).isSome=true↔_;rw [q17 d10];exact g.ek p,g.en,g.rt⟩
  ·rcases List.mem_append.1 hy with hy|hy
   ·exact g.sw y hy
   ·rw [List.mem_singleton.1 hy];exact ⟨h,h2⟩
  ·show (q0f clT _ _).isSome=true↔_
   rw [j69]
   have:=g.sk p
   unfold q1c at this
   rw [this,List.map_append,List.mem_append]
   simp [or_comm]
  ·show ((σ.sw ++ [q]).map Prod.fst).Nodup
   rw [List.map_append]
   exact qkz g.sn (j4y (g.sk q.1) hc)
 | rt x hz h h2 hc =>
  refine ⟨g.mo,g.mc,g.go,g.gk,g.rq,g.rk,g.rn,g.sw,g.sk,g.sn,g.ex,g.ek,g.en,fun y hy=>?_⟩
  rcases List.mem_append.1 hy with hy|hy
  ·exact g.rt y hy
  ·rw [List.mem_singleton.1 hy];exact ⟨h,h2,hc⟩
theorem jyc {σ:MS} (g:GoodM σ) (b:List UInt8):GoodM { σ with bk:=b }:=⟨g.mo,g.mc,g.go,g.gk,g.rq,g.rk,g.rn,g.sw,g.sk,g.sn,g.ex,g.ek,g.en,g.rt⟩
theorem qt2 {σ σ':MS} {ws:List Lx.Wd} {st:Int} (g:GoodM σ) (e:q58 σ st ws = .inr σ'):GoodM σ':=by
 rcases j7h e with h|⟨b,rfl⟩
 ·exact jme g h
 ·exact jyc g b
theorem j74 : ∀(ls:List (List UInt8)) (i st:Int) (σ σ':MS),GoodM σ->q1a ls i st σ = .inr σ'->GoodM σ'
 | [],i,st,σ,σ',g,e=>by cases e;exact g
 | t::ts,i,st,σ,σ',g,e=>by
  rw [q1a] at e
  split at e
  ·cases e
  ·rename_i σ1 h1
   exact j74 ts _ _ σ1 σ' (qt2 g h1) e
def jpy (σ σ':MS):Prop:=(σ.mo ≠ []->σ'.mo=σ.mo)/\(σ.go ≠ []->σ'.go=σ.go)/\σ.rq <+: σ'.rq/\σ.sw <+: σ'.sw/\σ.ex <+: σ'.ex/\σ.rt <+: σ'.rt
theorem jpy.rfl' (σ:MS):jpy σ σ:=⟨fun _=>rfl,fun _=>rfl,List.prefix_rfl,List.prefix_rfl,List.prefix_rfl,List.prefix_rfl⟩
theorem jpy.trans {a b c:MS} (h1:jpy a b) (h2:jpy b c):jpy a c:=by
 obtain ⟨a1,a2,a3,a4,a5,a6⟩:=h1
 obtain ⟨b1,b2,b3,b4,b5,b6⟩:=h2
 exact ⟨fun h=>(b1 (by rw [a1 h];exact h)).trans (a1 h),fun h=>(b2 (by rw [a2 h];exact h)).trans (a2 h),a3.trans b3,a4.trans b4,a5.trans b5,a6.trans b6⟩
theorem jpd {σ σ':MS} {ws:List Lx.Wd} {st:Int} (g:GoodM σ) (e:q58 σ st ws = .inr σ'):jpy σ σ':=by
 rcases j7h e with h|⟨b,rfl⟩
 ·have p:=fun {β:Type} (l:List β) (x:β)=>List.prefix_append l [x]
  cases h with
  | mo w hw h hc=>exact ⟨fun hm=>absurd hm (j4y g.mc hc),fun _=>rfl,List.prefix_rfl,List.prefix_rfl,List.prefix_rfl,List.prefix_rfl⟩
  | go w hw h hc=>exact ⟨fun _=>rfl,fun hm=>absurd hm (j4y g.gk hc),List.prefix_rfl,List.prefix_rfl,List.prefix_rfl,List.prefix_rfl⟩
  | rq x q hx hz h ht hc=>exact ⟨fun _=>rfl,fun _=>rfl,p _ _,List.prefix_rfl,List.prefix_rfl,List.prefix_rfl⟩
  | ex x q hx hz h ht hc=>exact ⟨fun _=>rfl,fun _=>rfl,List.prefix_rfl,List.prefix_rfl,p _ _,List.prefix_rfl⟩
  | sw x q hx hz h h2 hc=>exact ⟨fun _=>rfl,fun _=>rfl,List.prefix_rfl,p _ _,List.prefix_rfl,List.prefix_rfl⟩
  | rt x hz h h2 hc=>exact ⟨fun _=>rfl,fun _=>rfl,List.prefix_rfl,List.prefix_rfl,List.prefix_rfl,p _ _⟩
 ·exact jpy.rfl' σ
theorem j67 : ∀(ls:List (List UInt8)) (i st:Int) (σ σ':MS),GoodM σ->q1a ls i st σ = .inr σ'->jpy σ σ'
 | [],i,st,σ,σ',g,e=>by cases e;exact jpy.rfl' σ
 | t::ts,i,st,σ,σ',g,e=>by
  rw [q1a] at e
  split at e
  ·cases e
  ·rename_i σ1 h1
   exact (jpd g h1).trans (j67 ts _ _ σ1 σ' (qt2 g h1) e)
theorem jct : ∀(a b:List (List UInt8)) (i st:Int) (σ:MS),q1a (a++b) i st σ=match q1a a i st σ with
  | .inl e=>.inl e
  | .inr σ'=>q1a b (i+((a.length:Nat):Int)) (st+((tot a:Nat):Int)) σ'
 | [],b,i,st,σ=>by simp [q1a,tot]
 | t::ts,b,i,st,σ=>by
  rw [List.cons_append,q1a,q1a]
  cases q58 σ st (q15 t) with
  | inl e=>rfl
  | inr σ1 =>
   show q1a (ts++b) _ _ σ1=_
   rw [jct ts b]
   simp only [List.length_cons,tot]
   rw [show i+1+((ts.length:Nat):Int)=i+((ts.length+1:Nat):Int) by omega,show st+((t.length:Nat):Int)+1+((tot ts:Nat):Int)=st+((t.length+1+tot ts:Nat):Int) by omega]
end Go.Proofs.YtapfankgdkdkgaaGreatDoor.AM
namespace Go.Proofs.YtapfankgdkdkgaaGreatDoor.AM
open Go.RowKit
set_option linter.unusedVariables false
set_option linter.unusedSimpArgs false
set_option synthInstance.maxSize 100000
set_option synthInstance.maxHeartbeats 0
theorem jkv {p x:List UInt8} {e:Int} (h:ja4 p x = .inl e):e≠0:=by
 unfold ja4 at h
 split at h
 ·cases h;decide
 ·split at h
  ·cases h;decide
  ·split at h<;>cases h;decide
theorem qbe {σ:MS} {c:Cl} {st:Int} {w:Lx.Wd} {e:Int} (h:q1w σ c st w = .inl e):e≠0:=by
 unfold q1w at h
 split at h<;>cases h;decide
theorem jy9 {σ:MS} {v:List UInt8} {ws:List Lx.Wd} {st e:Int} (h:qu3 σ st v ws = .inl e):e≠0:=by
 unfold qu3 at h
 split at h
 ·cases h;decide
 ·split at h
  ·split at h
   ·cases h;decide
   ·exact qbe h
  ·split at h
   ·split at h
    ·cases h;decide
    ·exact qbe h
   ·split at h
    ·split at h
     ·rename_i hq;cases h;exact jkv hq
     ·exact qbe h
    ·split at h
     ·split at h
      ·rename_i hq;cases h;exact jkv hq
      ·exact qbe h
     ·split at h
      ·split at h
       ·cases h;decide
       ·split at h
        ·cases h;decide
        ·exact qbe h
      ·split at h
       ·cases h;decide
       ·split at h
        ·cases h;decide
        ·split at h<;>cases h;decide
theorem jfh {σ:MS} {v:List UInt8} {ws:List Lx.Wd} {st e:Int} (h:q6d σ st v ws = .inl e):e≠0:=by
 unfold q6d at h
 split at h
 ·exact jy9 h
 ·cases h;decide
theorem js2 {σ:MS} {ws:List Lx.Wd} {st e:Int} (h:q58 σ st ws = .inl e):e≠0:=by
 unfold q58 at h
 split at h
 ·cases h
 ·split at h
  ·split at h
   ·cases h
   ·exact jfh h
  ·split at h
   ·cases h
   ·exact jfh h
theorem j2m : ∀(ls:List (List UInt8)) (i st:Int) (σ:MS) (e:Int×Int),q1a ls i st σ = .inl e->e.2≠0
 | [],i,st,σ,e,h=>by cases h
 | t::ts,i,st,σ,e,h=>by
  rw [q1a] at h
  split at h
  ·rename_i h1;cases h;exact js2 h1
  ·exact j2m ts _ _ _ e h
structure IsM (s:List UInt8) (σ:MS):Prop where
 okc : ∀t∈Lx.q0p s,∀c∈t,Lx.okc c=true
 rd:q1a (Lx.q0p s) 0 0 ms0 = .inr σ
 bk:σ.bk = []
 mo:σ.mo ≠ []
theorem jv8 {s:List UInt8} {σ:MS} {k:Int} (h:qsn s = .inr (σ,k)):IsM s σ/\k=(((Lx.q0p s).length:Nat):Int):=by
 unfold qsn at h
 split at h
 ·cases h
 ·rename_i h0
  split at h
  ·cases h
  ·rename_i σ1 h1
   split at h
   ·cases h
   ·rename_i h2
    split at h
    ·cases h
    ·rename_i h3
     cases h
     exact ⟨⟨qwn _ 0 [] (by simpa using h0),h1,by simpa using h2,h3⟩,rfl⟩
theorem jvn {s:List UInt8} {σ:MS} (h:IsM s σ):qsn s = .inr (σ,(((Lx.q0p s).length:Nat):Int)):=by
 unfold qsn
 rw [if_neg (by simpa using qwj _ 0 [] h.okc),h.rd]
 simp only [h.bk,h.mo,ne_eq,not_true_eq_false,if_false]
theorem qo1 {s:List UInt8} {σ:MS} (h:IsM s σ):qcf s=(σ.md,((((Lx.q0p s).length:Nat):Int),0)):=by unfold qcf;rw [jvn h]
theorem jeu {s:List UInt8} (h:(qcf s).2.2=0) : ∃ σ,IsM s σ:=by
 cases hr:qsn s with
 | inr x=>exact ⟨x.1,(jv8 (k:=x.2) hr).1⟩
 | inl e =>
  exfalso
  have h':e.2=0:=by unfold qcf at h;rw [hr] at h;exact h
  unfold qsn at hr
  split at hr
  ·rename_i h0;cases hr;exact h0 h'
  ·split at hr
   ·rename_i h1;cases hr;exact j2m _ _ _ _ _ h1 h'
   ·split at hr
    ·cases hr;exact absurd (show (10:Int)=0 from h') (by decide)
    ·split at hr
     ·cases hr;exact absurd (show (5:Int)=0 from h') (by decide)
     ·cases hr
theorem IsM.good {s:List UInt8} {σ:MS} (h:IsM s σ):GoodM σ:=j74 _ _ _ _ _ k0s h.rd
end Go.Proofs.YtapfankgdkdkgaaGreatDoor.AM
namespace Go.Proofs.YtapfankgdkdkgaaGreatDoor.AM
open Go.RowKit
set_option linter.unusedVariables false
set_option linter.unusedSimpArgs false
set_option synthInstance.maxSize 100000
set_option synthInstance.maxHeartbeats 0
def Sm (σ τ:MS):Prop:=σ.md=τ.md/\∀c,q1c σ c=q1c τ c
theorem Sm.mo {σ τ:MS} (h:Sm σ τ):σ.mo=τ.mo:=congrArg (fun m:MD=>m.1) h.1
theorem Sm.rfl' (σ:MS):Sm σ σ:=⟨rfl,fun _=>rfl⟩
def k1e (b1 b2:List UInt8):Int⊕MS->Int⊕MS->Prop
 | .inl e,.inl e'=>e=e'
 | .inr σ,.inr τ=>Sm σ τ/\σ.bk=b1/\τ.bk=b2
 | _,_=>False
theorem qcd {σ τ:MS} {b1 b2:List UInt8} (h:Sm σ τ) (h1:σ.bk=b1) (h2:τ.bk=b2) (c:Cl) (st st':Int) (w w':Lx.Wd):k1e b1 b2 (q1w σ c st w) (q1w τ c st' w'):=by
 have hc:=h.2 c
 unfold q1c at hc
 unfold q1w
 rw [hc]
 cases (q0f clT c τ.sd).isSome with
 | true=>rfl
 | false =>
  refine ⟨⟨h.1,fun c'=>?_⟩,h1,h2⟩
  have h3:=h.2 c'
  unfold q1c at h3 ⊢
  show (q0f clT c' (q41 clT c _ σ.sd)).isSome=(q0f clT c' (q41 clT c _ τ.sd)).isSome
  rw [qg8,qg8]
  cases eqT clT c' c with
  | true=>rfl
  | false=>exact h3
theorem jn4 : ∀(r r':List Lx.Wd) (w w':Lx.Wd),w.1=w'.1->tx r=tx r'->(r.getLast?.getD w).1=(r'.getLast?.getD w').1
 | [],[],w,w',h,_=>h
 | [],_::_,_,_,_,h=>by cases h
 | _::_,[],_,_,_,h=>by cases h
 | a::r,b::r',w,w',h,e=>by
  obtain ⟨h1,h2⟩:=List.cons.inj e
  rw [List.getLast?_cons,List.getLast?_cons]
  exact jn4 r r' a b h1 h2
theorem jqc {r r':List Lx.Wd} (h:tx r=tx r'):(r.headD ([],0)).1=(r'.headD ([],0)).1:=by
 cases r<;>cases r'<;>first|rfl|cases h|exact (List.cons.inj h).1
theorem jv2 {σ τ:MS} {b1 b2:List UInt8} (h:Sm σ τ) (h1:σ.bk=b1) (h2:τ.bk=b2) (v:List UInt8) (st st':Int) {ws ws':List Lx.Wd} (hw:tx ws=tx ws'):k1e b1 b2 (qu3 σ st v ws) (qu3 τ st' v ws'):=by
 obtain ⟨m1,g1,k1,s1,r1,w1,e1,t1⟩:=σ
 obtain ⟨m2,g2,k2,s2,r2,w2,e2,t2⟩:=τ
 have hc:=h.2
 have hm:=h.1
 simp only [MS.md,Prod.mk.injEq] at hm
 obtain ⟨rfl,rfl,rfl,rfl,rfl,rfl⟩:=hm
 cases ws with
 | nil =>
  cases ws' with
  | nil=>rfl
  | cons=>cases hw
 | cons w r =>
  cases ws' with
  | nil=>cases hw
  | cons w' r' =>
   obtain ⟨e0,e9⟩:=List.cons.inj hw
   have e1':=jqc e9
   have e2':=jn4 r r' w w' e0 e9
   unfold qu3
   simp only [e0,e1',e2']
   split
   ·split
    ·rfl
    ·exact qcd (by exact ⟨rfl,hc⟩) (by exact h1) (by exact h2) _ _ _ _ _
   ·split
    ·split
     ·rfl
     ·exact qcd (by exact ⟨rfl,hc⟩) (by exact h1) (by exact h2) _ _ _ _ _
    ·split
     ·split
      ·rfl
      ·exact qcd (by exact ⟨rfl,hc⟩) (by exact h1) (by exact h2) _ _ _ _ _
     ·split
      ·split
       ·rfl
       ·exact qcd (by exact ⟨rfl,hc⟩) (by exact h1) (by exact h2) _ _ _ _ _
      ·split
       ·split
        ·rfl
        ·split
         ·rfl
         ·exact qcd (by exact ⟨rfl,hc⟩) (by exact h1) (by exact h2) _ _ _ _ _
       ·split
        ·rfl
        ·split
         ·rfl
         ·split
          ·rfl
          ·exact ⟨⟨rfl,hc⟩,h1,h2⟩
theorem jmi {ws ws':List Lx.Wd} (h:tx ws=tx ws'):shp ws=shp ws':=by
 have e : ∀ws:List Lx.Wd,ws.map qu1=(tx ws).map fun t=>if j7f t then t else [120]:=fun ws=>by simp [qu1,Function.comp_def]
 unfold shp
 rw [e,e,h]
theorem jui : ∀{ws ws':List Lx.Wd},tx ws=tx ws'->tx (unm ws)=tx (unm ws')
 | [],[],_=>rfl
 | [],_::_,h=>by cases h
 | _::_,[],h=>by cases h
 | a::r,b::r',h=>by
  obtain ⟨h1,h2⟩:=List.cons.inj h
  have ih:=jui h2
  unfold unm at ih ⊢
  rw [List.filter_cons,List.filter_cons,h1]
  split
  ·show a.1::tx _=b.1::tx _
   rw [ih,h1]
  ·exact ih
theorem qyd {σ τ:MS} {b1 b2:List UInt8} (h:Sm σ τ) (h1:σ.bk=b1) (h2:τ.bk=b2) (v:List UInt8) (st st':Int) {ws ws':List Lx.Wd} (hw:tx ws=tx ws'):k1e b1 b2 (q6d σ st v ws) (q6d τ st' v ws'):=by
 unfold q6d
 rw [jmi hw]
 split
 ·exact jv2 h h1 h2 v st st' (jui hw)
 ·rfl
def RelL:Int⊕MS->Int⊕MS->Prop
 | .inl e,.inl e'=>e=e'
 | .inr σ,.inr τ=>Sm σ τ/\σ.bk=τ.bk
 | _,_=>False
theorem k1e.toL {b:List UInt8} {x y:Int⊕MS} (h:k1e b b x y):RelL x y:=by
 cases x<;>cases y
 ·exact h
 ·exact h
 ·exact h
 ·exact ⟨h.1,h.2.1.trans h.2.2.symm⟩
theorem jsz {σ τ:MS} (h:Sm σ τ) (hb:σ.bk=τ.bk) (st st':Int) {ws ws':List Lx.Wd} (hw:tx ws=tx ws'):RelL (q58 σ st ws) (q58 τ st' ws'):=by
 cases ws with
 | nil =>
  cases ws' with
  | nil=>exact ⟨h,hb⟩
  | cons=>cases hw
 | cons w r =>
  cases ws' with
  | nil=>cases hw
  | cons w' r' =>
   obtain ⟨e0,e9⟩:=List.cons.inj hw
   unfold q58
   have q1:=jmi hw
   have q2:=jmi e9
   simp only [q1,q2,hb,e0]
   split
   ·split
    ·exact ⟨⟨h.1,h.2⟩,rfl⟩
    ·exact (qyd h hb rfl _ st st' e9).toL
   ·split
    ·exact ⟨⟨h.1,h.2⟩,rfl⟩
    ·exact (qyd h hb rfl _ st st' hw).toL
inductive Lns:List (List UInt8)->List (List UInt8)->Prop
 | nil:Lns [] []
 | both {a b:List UInt8} {r r':List (List UInt8)} (h:tx (q15 a)=tx (q15 b)) (hr:Lns r r'):Lns (a::r) (b::r')
 | more {b:List UInt8} {r r':List (List UInt8)} (h:q15 b = []) (hr:Lns r r'):Lns r (b::r')
theorem Lns.read {L L':List (List UInt8)} (h:Lns L L') : ∀(i i' st st':Int) (σ τ σ':MS),Sm σ τ->σ.bk=τ.bk->q1a L i st σ = .inr σ'->∃ τ',q1a L' i' st' τ = .inr τ'/\Sm σ' τ'/\σ'.bk=τ'.bk:=by
 induction h with
 | nil=>intro i i' st st' σ τ σ' h1 h2 e;cases e;exact ⟨τ,rfl,h1,h2⟩
 | both h hr ih =>
  intro i i' st st' σ τ σ' h1 h2 e
  have hl:=jsz h1 h2 st st' h
  rw [q1a] at e ⊢
  split at e
  ·cases e
  ·rename_i σ1 hs
   rw [hs] at hl
   split
   ·rename_i e' he';rw [he'] at hl;exact absurd hl id
   ·rename_i τ1 ht
    rw [ht] at hl
    exact ih _ _ _ _ _ _ _ hl.1 hl.2 e
 | more h hr ih =>
  intro i i' st st' σ τ σ' h1 h2 e
  rw [q1a,h]
  exact ih _ _ _ _ _ _ _ h1 h2 e
theorem Sm.bk {σ τ:MS} (h:Sm σ τ) (b:List UInt8):Sm σ { τ with bk:=b }:=⟨h.1,h.2⟩
end Go.Proofs.YtapfankgdkdkgaaGreatDoor.AM
namespace Go.Proofs.YtapfankgdkdkgaaGreatDoor.AM
open Go.RowKit
set_option linter.unusedVariables false
set_option linter.unusedSimpArgs false
theorem jgc {p:List UInt8} (h:q56 p=true) : ∀c∈p,c=47\/qa3 c=true:=by
 have h2:=(qjh h).2
 have h3:(spl 47 [] p).all (fun w=>w.all qa3)=true:=by
  rw [List.all_eq_true] at h2 ⊢
  exact fun w hw=>jcf (h2 w hw)
 exact ((qrx 47 qa3 p []).1 h3).2
def word (w:List UInt8):Prop:=plain w/\j7f w=false
theorem jm1 {w:List UInt8} (h:plain w) (h2:w ≠ [61,62]):word w:=by
 refine ⟨h,?_⟩
 cases hm:j7f w with
 | false=>rfl
 | true =>
  exfalso
  rcases qki hm with e|e|e|e|e|e
  ·exact h2 e
  all_goals (rw [e] at h;exact absurd (h.2.2 _ (List.mem_cons_self ..)) (by decide))
theorem jnz {p:List UInt8} (h:q56 p=true):word p:=jm1 (qw9 h) fun e=>by
 rcases jgc h 61 (by rw [e];decide) with h1|h1
 ·exact absurd h1 (by decide)
 ·exact absurd h1 (by decide)
theorem j01 {p:List UInt8} (h:okS p=true):word p:=jnz (qyi h).1
theorem qpf {v:VD} (h:q1m v=true):word (q2x v):=jm1 (jia h) fun e=>by
 unfold q2x at e
 rw [if_pos h] at e
 exact absurd (List.cons.inj e).1 (by decide)
theorem qes {p:List UInt8} {v:VD} (h:q3p p v=true):okS p=true/\q1m v=true:=by
 unfold q3p at h
 simp only [Bool.and_eq_true] at h
 exact ⟨h.1,h.2.1⟩
theorem jh1 {v:VD} (h:q1m v=true):q10 (q2x v)=(v,true):=js8 h rfl
theorem jch {ws:List Lx.Wd} {L:List (List UInt8)} (h:tx ws=L):shp ws=Lib.join (L.map fun t=>if j7f t then t else [120]) [32]:=by
 unfold shp
 rw [<-h]
 congr 1
 simp [qu1,Function.comp_def]
theorem tx1 {ws:List Lx.Wd} {a:List UInt8} (h:tx ws = [a]) : ∃ w,ws = [w]/\w.1=a:=by
 match ws,h with
 | [w],h=>exact ⟨w,rfl,(List.cons.inj h).1⟩
theorem tx2 {ws:List Lx.Wd} {a b:List UInt8} (h:tx ws = [a,b]) : ∃ w x,ws = [w,x]/\w.1=a/\x.1=b:=by
 match ws,h with
 | [w,x],h=>exact ⟨w,x,rfl,(List.cons.inj h).1,(List.cons.inj (List.cons.inj h).2).1⟩
theorem jum {ws:List Lx.Wd} {L:List (List UInt8)} (h:tx ws=L):tx (unm ws)=L.filter fun t=>!j7f t:=by
 rw [<-h,List.filter_map]
 rfl
theorem jqk {p:List UInt8} {v:VD} (h:q3p p v=true):ja4 p (q2x v) = .inr (p,v):=by
 obtain ⟨h1,h2⟩:=qes h
 unfold ja4
 rw [jh1 h2,h1,h]
 rfl
theorem jr6 {σ:MS} {st:Int} {ws:List Lx.Wd} {p:List UInt8} (h:tx ws = [p]) (hp:okS p=true) : ∃ x:Lx.Wd,x.1=p/\q6d σ st qnh ws=q1w { σ with mo:=p } (qnh,([],v0)) st x:=by
 have hw:=(j01 hp).2
 obtain ⟨w,e,e1⟩:=tx1 (show tx (unm ws) = [p] by rw [jum h];simp [hw])
 refine ⟨w,e1,?_⟩
 unfold q6d
 rw [jch h,if_pos (by simp [hw,q3v,Lib.join_one]),e]
 show (if okS w.1=false then _ else q1w { σ with mo:=w.1 } (qnh,([],v0)) st w)=_
 rw [e1,hp];rfl
theorem jja:Lib.join [[(120:UInt8)],[120]] [32] = [120,32,120]:=by decide
theorem jsm {σ:MS} {st:Int} {ws:List Lx.Wd} {p:List UInt8} {v:VD} (h:tx ws = [p,q2x v]) (hf:q3p p v=true) : ∃ x:Lx.Wd,x.1=q2x v/\q6d σ st q8b ws=q1w { σ with rq:=σ.rq ++ [(p,v)] } (q8b,(p,v0)) st x:=by
 have hw:=(j01 (qes hf).1).2
 have hv:=(qpf (qes hf).2).2
 obtain ⟨w,x,e,e1,e2⟩:=tx2 (show tx (unm ws) = [p,q2x v] by rw [jum h];simp [hw,hv])
 refine ⟨x,e2,?_⟩
 unfold q6d
 rw [jch h,if_pos (by simp [hw,hv,q3v,jja]),e]
 show (match ja4 w.1 x.1 with
   | .inl e=>(Sum.inl e:Int⊕MS)
   | .inr q=>q1w { σ with rq:=σ.rq ++ [q] } (q8b,(q.1,v0)) st x)=_
 rw [e1,e2,jqk hf]
theorem jtn {σ:MS} {c:Cl} {st:Int} {w:Lx.Wd} (h:q1c σ c=false):q1w σ c st w = .inr { σ with sd:=q41 clT c (ps st w) σ.sd }:=by
 unfold q1c at h
 unfold q1w
 rw [h];rfl
theorem jel {σ:MS} {st:Int} {ws:List Lx.Wd} {v:List UInt8} {L:List (List UInt8)} (h:tx ws=v::L) (hb:σ.bk = []) (hs:Lib.join (L.map fun t=>if j7f t then t else [120]) [32] ≠ [40]) : ∃ ws',tx ws'=L/\q58 σ st ws=q6d σ st v ws':=by
 cases ws with
 | nil=>cases h
 | cons w r =>
  obtain ⟨h1,h2⟩:=List.cons.inj h
  refine ⟨r,h2,?_⟩
  unfold q58
  simp only [hb,if_true,h1]
  rw [if_neg (fun hh=>hs (by rw [<-jch h2];exact hh.2))]
theorem jwc {σ:MS} {st:Int} {ws:List Lx.Wd} {L:List (List UInt8)} (h:tx ws=L) (hL:L ≠ []) (hb:σ.bk ≠ []) (hs:Lib.join (L.map fun t=>if j7f t then t else [120]) [32] ≠ [41]):q58 σ st ws=q6d σ st σ.bk ws:=by
 cases ws with
 | nil=>exact absurd h.symm hL
 | cons w r =>
  unfold q58
  simp only [if_neg hb]
  rw [if_neg (fun hh=>hs (by rw [<-jch h];exact hh))]
end Go.Proofs.YtapfankgdkdkgaaGreatDoor.AM
