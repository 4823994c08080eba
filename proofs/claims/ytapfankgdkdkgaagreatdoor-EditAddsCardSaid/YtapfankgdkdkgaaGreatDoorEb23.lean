
import Derived.Test.YtapfankgdkdkgaaGreatDoorEb22
set_option linter.unusedVariables false
set_option linter.unusedSimpArgs false
namespace Go.Proofs.YtapfankgdkdkgaaGreatDoor.AM
open Go.RowKit
set_option synthInstance.maxSize 100000
set_option synthInstance.maxHeartbeats 0
def jp5 (x:Sp):Yy:=if jin x=qza x then q0b (jin x) else 91::(q0b (jin x)++44::32::(q0b (qza x) ++ [93]))
def rqL (q:Rq):List Yy:=[q0x,q.1,q0b q.2]
theorem qpe (v:VD):(q0b v).length<=92:=by
 unfold q0b
 split
 ·exact jc3 ‹_›
 ·simp
theorem q64 {s t:Yy} (h:s.length+t.length<=9223372036854775807):q5u s t=some (s++t):=by unfold q5u;rw [if_pos h]
theorem j9k : ∀(ls:List Yy) (i st:Int) (k:Nat) (σ σ':MS),SB k σ->q0y ls i st σ = .inr σ'->SB (k+ls.length) σ'
 | [],i,st,k,σ,σ',h,e=>by cases e;exact h
 | t::ts,i,st,k,σ,σ',h,e=>by
  rw [q0y] at e
  split at e
  ·cases e
  ·rename_i σ1 h1
   have:=j9k ts _ _ (k+1) σ1 σ' (qwy h h1) e
   rw [List.length_cons,show k+(ts.length+1)=k+1+ts.length by omega]
   exact this
theorem j0n (s:Yy):ML (s.length+1) (q3w s).1:=by
 obtain ⟨l1,l2⟩:=Lx.q5o s
 unfold q3w q9j
 split
 ·rename_i e he
  exact ⟨Nat.zero_le _,Nat.zero_le _,Nat.zero_le _,Nat.zero_le _⟩
 ·rename_i σ k he
  split at he
  ·cases he
  ·split at he
   ·cases he
   ·rename_i σ1 h1
    have h2:=j9k _ 0 0 0 ms0 σ1 ⟨Nat.le_refl _,Nat.le_refl _,Nat.le_refl _,Nat.le_refl _⟩ h1
    split at he
    ·cases he
    ·split at he
     ·cases he
     ·cases he
      obtain ⟨b1,b2,b3,b4⟩:=h2
      exact ⟨by show σ.rq.length<=_;omega,by show σ.sw.length<=_;omega,by show σ.ex.length<=_;omega,by show σ.rt.length<=_;omega⟩
theorem ML.mono {k j:Nat} {m:MD} (h:ML k m) (hj:k<=j):ML j m:=by unfold ML at *;omega
def plb (c:UInt8):Bool:=Lx.okc c&&(!Lx.q1d c && !Lx.isB c)
def plain (w:Yy):Prop:=w ≠ []/\w.head? ≠ some 47/\∀c∈w,plb c=true
theorem qug (c:UInt8) (h:qhu c=true):plb c=true/\c≠47:=by
 have h1 : ∀i:Fin 256,qhu (UInt8.ofNat i.1)=true->plb (UInt8.ofNat i.1)=true/\UInt8.ofNat i.1≠47:=by decide +kernel
 have:=h1 ⟨c.toNat,c.toNat_lt⟩
 simpa [h] using this
theorem j2e (c:UInt8) (h:q0t c=true):qhu c=true:=by unfold qhu;rw [h];simp
theorem pl46:plb 46=true:=by decide
theorem pl47:plb 47=true:=by decide
theorem jc1 (c:UInt8) (h:q7j c=true):plb c=true/\c≠47:=by
 have h1 : ∀i:Fin 256,q7j (UInt8.ofNat i.1)=true->plb (UInt8.ofNat i.1)=true/\UInt8.ofNat i.1≠47:=by decide +kernel
 have:=h1 ⟨c.toNat,c.toNat_lt⟩
 simpa [h] using this
theorem j1r {w:Yy} (h:q8z w=true):w.all q7j=true:=by
 unfold q8z at h
 simp only [Bool.and_eq_true] at h
 exact h.2.2.2
theorem qnk {p:Yy} (h:q3a p=true):plain p:=by
 have h2:=(qao h).2
 refine ⟨jkk h,fun hd=>?_,fun c hc=>?_⟩
 ·cases p with
  | nil=>cases hd
  | cons a r =>
   simp only [List.head?_cons,Option.some.injEq] at hd
   subst hd
   rw [spl,if_pos rfl,List.all_cons,show q8z []=false from rfl] at h2
   cases h2
 ·have h3:(spl 47 [] p).all (fun w=>w.all q7j)=true:=by
   rw [List.all_eq_true] at h2 ⊢
   exact fun w hw=>j1r (h2 w hw)
  rcases ((qmb 47 q7j p []).1 h3).2 c hc with rfl|h4
  ·exact pl47
  ·exact (jc1 c h4).1
theorem jg0 {p:Yy} (h:okS p=true):plain p:=qnk (qrn h).1
theorem qp4 {i:Int} (h:0<=i) : ∀c∈Lib.itoa i,plb c=true:=by
 rw [q0z h]
 intro c hc
 exact (qug c (j2e c (List.all_eq_true.1 (qjt i.toNat).1 c hc))).1
theorem qs6 {d:UInt8} (hd:plb d=true) {p:Yy->Bool} (hp : ∀w,p w=true->w.all qhu=true) {s:Yy} (h:q57 p s=true) : ∀c∈q4k d s,plb c=true:=by
 unfold q4k
 split
 ·intro c hc;cases hc
 ·intro c hc
  rcases List.mem_cons.1 hc with rfl|hc
  ·exact hd
  ·rcases j2f hp h c hc with rfl|h1
   ·exact pl46
   ·exact (qug c h1).1
theorem j6m {v:VD} (h:q0r v=true):plain (q0b v):=by
 obtain ⟨h1,h2,h3,h4,h5⟩:=q1a h
 unfold q0b
 rw [if_pos h]
 unfold j71
 refine ⟨by simp,by simp,fun c hc=>?_⟩
 simp only [List.mem_cons,List.mem_append] at hc
 rcases hc with rfl|hc|rfl|hc|rfl|hc|hc|hc
 ·decide
 ·exact qp4 h1.1 c hc
 ·exact pl46
 ·exact qp4 h2.1 c hc
 ·exact pl46
 ·exact qp4 h3.1 c hc
 ·exact qs6 (by decide) qtq h4 c hc
 ·exact qs6 (by decide) qo9 h5 c hc
theorem qqp {s:Yy} (h:q4e s=true):(∀c∈s,q0t c=true)/\s ≠ []/\s.length<=9:=by
 unfold q4e at h
 simp only [Bool.and_eq_true,decide_eq_true_eq] at h
 exact ⟨fun c hc=>List.all_eq_true.1 h.1 c hc,fun h0=>by have:=h.2.1;rw [h0] at this;simp at this,h.2.2.1⟩
theorem j5s {x:Yy} (h:q8y x=true) : ∃ a b,x=a++46::b/\q4e a=true/\q4e b=true:=by
 unfold q8y at h
 rw [Bool.and_eq_true] at h
 by_cases hm:(46:UInt8)∈x
 ·obtain ⟨a,b,hx,ha⟩:=List.eq_append_cons_of_mem hm
  have:=qlv 46 a b ha
  rw [hx,this.1,this.2] at h
  exact ⟨a,b,hx,h.1,h.2⟩
 ·have:q5e 46 x = []:=by unfold q5e;rw [if_pos (q5d 46 x hm)]
  rw [this] at h
  cases h.2
theorem j3s {x:Yy} (h:q8y x=true):plain x:=by
 obtain ⟨a,b,rfl,ha,hb⟩:=j5s h
 have ha:=qqp ha
 have hb:=qqp hb
 refine ⟨by simp,fun hd=>?_,fun c hc=>?_⟩
 ·cases a with
  | nil=>exact ha.2.1 rfl
  | cons d a =>
   simp only [List.cons_append,List.head?_cons,Option.some.injEq] at hd
   exact (qug d (j2e d (ha.1 d (List.mem_cons_self ..)))).2 hd
 ·rcases List.mem_append.1 hc with hc|hc
  ·exact (qug c (j2e c (ha.1 c hc))).1
  ·rcases List.mem_cons.1 hc with rfl|hc
   ·exact pl46
   ·exact (qug c (j2e c (hb.1 c hc))).1
theorem qkf {c:UInt8} (h:plb c=true):Lx.q1d c=false/\Lx.isB c=false/\Lx.okc c=true:=by
 unfold plb at h
 simp only [Bool.and_eq_true,Bool.not_eq_true'] at h
 exact ⟨h.2.1,h.2.2,h.1⟩
theorem jbb (r:Yy) : ∀(w:Yy) (i:Nat) (ws:List Lx.Wd) (u:Yy) (p:Int),(∀c∈w,plb c=true)->Lx.q3h (w++r) i true (ws ++ [(u,p)])=Lx.q3h r (i+w.length) true (ws ++ [(u++w,p)])
 | [],i,ws,u,p,_=>by simp
 | c::w,i,ws,u,p,h=>by
  obtain ⟨h1,h2,_⟩:=qkf (h c (List.mem_cons_self ..))
  rw [List.cons_append,Lx.q1m,h1,h2]
  simp only [Bool.false_eq_true,if_false,if_true]
  rw [Lx.q3t,jbb r w (i+1) ws (u ++ [c]) p (fun d hd=>h d (List.mem_cons_of_mem _ hd))]
  simp only [List.append_assoc,List.singleton_append,List.length_cons]
  congr 1;omega
theorem qr3 {w:Yy} (hw:plain w) (r:Yy) (i:Nat) (ws:List Lx.Wd):Lx.q3h (w++r) i false ws=Lx.q3h r (i+w.length) true (ws ++ [(w,((i:Nat):Int))]):=by
 obtain ⟨h0,h1,h2⟩:=hw
 cases w with
 | nil=>exact absurd rfl h0
 | cons c w =>
  obtain ⟨g1,g2,_⟩:=qkf (h2 c (List.mem_cons_self ..))
  have hp:Lx.pfx (c::(w++r))=false:=by
   have hc:c≠47:=fun h=>h1 (by rw [h];rfl)
   cases h:w++r with
   | nil=>rfl
   | cons b t=>simp [Lx.pfx,hc]
  rw [List.cons_append,Lx.q1m,g1,g2,hp]
  simp only [Bool.false_eq_true,if_false]
  rw [jbb r w (i+1) ws [c] _ (fun d hd=>h2 d (List.mem_cons_of_mem _ hd))]
  simp only [List.singleton_append,List.length_cons]
  congr 1;omega
theorem q9c (c:UInt8) (hc:Lx.q1d c=false/\Lx.isB c=true) (r:Yy) (i:Nat) (op:Bool) (ws:List Lx.Wd):Lx.q3h (c::r) i op ws=Lx.q3h r (i+1) false ws:=by
 rw [Lx.q1m,hc.1,hc.2];simp
theorem qpn (c:UInt8) (hc:Lx.q1d c=true) (r:Yy) (i:Nat) (op:Bool) (ws:List Lx.Wd):Lx.q3h (c::r) i op ws=Lx.q3h r (i+1) false (ws ++ [([c],((i:Nat):Int))]):=by
 rw [Lx.q1m,hc];simp
abbrev tx (ws:List Lx.Wd):List Yy:=ws.map Prod.fst
theorem qu9 : ∀(L:List Yy) (i:Nat) (ws:List Lx.Wd),(∀w∈L,plain w)->tx (Lx.q3h (Lib.joinTail [32] L) i true ws).1=tx ws++L
 | [],i,ws,_=>by simp [Lib.joinTail,Lx.q3h]
 | w::L,i,ws,h=>by
  have e:Lib.joinTail [32] (w::L)=32::(w++Lib.joinTail [32] L):=by simp [Lib.joinTail]
  rw [e,q9c 32 (by decide),qr3 (h w (List.mem_cons_self ..)),qu9 L _ _ (fun x hx=>h x (List.mem_cons_of_mem _ hx))]
  simp
theorem j6h (L:List Yy) (h : ∀w∈L,plain w):tx (q0v (Lib.join L [32]))=L:=by
 unfold q0v Lx.qc2
 cases L with
 | nil=>simp [Lib.join_nil,Lx.q3h]
 | cons w L =>
  rw [Lib.join_cons,qr3 (h w (List.mem_cons_self ..)),qu9 L _ _ (fun x hx=>h x (List.mem_cons_of_mem _ hx))]
  rfl
theorem jgz : ∀(L:List Yy),(∀w∈L,∀c∈w,Lx.okc c=true)->∀c∈Lib.join L [32],Lx.okc c=true
 | [],_,c,hc=>by cases hc
 | w::L,h,c,hc=>by
  rw [Lib.join_cons] at hc
  rcases List.mem_append.1 hc with hc|hc
  ·exact h w (List.mem_cons_self ..) c hc
  ·unfold Lib.joinTail at hc
   obtain ⟨l,hl,hcl⟩:=List.mem_flatten.1 hc
   obtain ⟨x,hx,rfl⟩:=List.mem_map.1 hl
   rcases List.mem_append.1 hcl with hc|hc
   ·rw [List.mem_singleton.1 hc];decide
   ·exact h x (List.mem_cons_of_mem _ hx) c hc
theorem qlh {w:Yy} (h:plain w) : ∀c∈w,Lx.okc c=true:=fun c hc=>(qkf (h.2.2 c hc)).2.2
theorem jcu {t:Yy} (h : ∀c∈t,Lx.okc c=true):(10:UInt8) ∉ t:=fun hc=>by
 have:=h 10 hc
 revert this;decide
theorem qop : ∀(L:List Yy) (i:Nat) (out:List Lx.Ln),(∀t∈L,∀c∈t,Lx.okc c=true)->(Lx.q2w L i out).2.2=0
 | [],i,out,_=>rfl
 | t::L,i,out,h=>by
  rw [Lx.q2w,if_pos (List.all_eq_true.2 (h t (List.mem_cons_self ..)))]
  exact qop L (i+1) _ fun x hx=>h x (List.mem_cons_of_mem _ hx)
theorem qov : ∀(L:List Yy) (i:Nat) (out:List Lx.Ln),(Lx.q2w L i out).2.2=0->∀t∈L,∀c∈t,Lx.okc c=true
 | [],i,out,_,t,ht=>by cases ht
 | x::L,i,out,h,t,ht=>by
  rw [Lx.q2w] at h
  split at h
  ·rename_i hx
   rcases List.mem_cons.1 ht with rfl|ht
   ·exact fun c hc=>List.all_eq_true.1 hx c hc
   ·exact qov L (i+1) _ h t ht
  ·cases h
def q04 (σ:MS) (c:Cl):Bool:=(q02 clT c σ.sd).isSome
def ps (st:Int) (w:Lx.Wd):Int×Int:=(st+w.2,st+w.2+((w.1.length:Nat):Int))
def qhh:List Lx.Wd->Nat
 | []=>0
 | w::r=>w.1.length+qhh r
theorem j1u {w:Lx.Wd} : ∀{ws:List Lx.Wd},w∈ws->w.1.length<=qhh ws
 | x::r,h=>by
  rcases List.mem_cons.1 h with rfl|h
  ·rw [qhh];omega
  ·have:=j1u h;rw [qhh];omega
theorem qku (p:Lx.Wd->Bool) : ∀ws:List Lx.Wd,qhh (ws.filter p)<=qhh ws
 | []=>Nat.le_refl _
 | x::r=>by
  have:=qku p r
  rw [List.filter_cons]
  split
  ·rw [qhh,qhh];omega
  ·rw [qhh];omega
inductive Step (σ:MS) (st:Int) (ws:List Lx.Wd):MS->Prop
 | mo (w:Lx.Wd) (hw:w∈ws) (h:okS w.1=true) (hc:q04 σ (qae,([],v0))=false):Step σ st ws { σ with mo:=w.1,sd:=q1q clT (qae,([],v0)) (ps st w) σ.sd }
 | go (w:Lx.Wd) (hw:w∈ws) (h:q8y w.1=true) (hc:q04 σ (kGo,([],v0))=false):Step σ st ws { σ with go:=w.1,sd:=q1q clT (kGo,([],v0)) (ps st w) σ.sd }
 | rq (x:Lx.Wd) (q:Rq) (hx:x∈ws) (hz:q.1.length+x.1.length<=qhh ws) (h:q40 q.1 q.2=true) (ht:q0b q.2=x.1) (hc:q04 σ (q0x,(q.1,v0))=false):Step σ st ws { σ with rq:=σ.rq ++ [q],sd:=q1q clT (q0x,(q.1,v0)) (ps st x) σ.sd }
 | ex (x:Lx.Wd) (q:Rq) (hx:x∈ws) (hz:q.1.length+x.1.length<=qhh ws) (h:q40 q.1 q.2=true) (ht:q0b q.2=x.1) (hc:q04 σ (q8s,(q.1,q.2))=false):Step σ st ws { σ with ex:=σ.ex ++ [q],sd:=q1q clT (q8s,(q.1,q.2)) (ps st x) σ.sd }
 | sw (x:Lx.Wd) (q:Sw) (hx:x∈ws) (hz:q.1.length+q.2.length<=qhh ws) (h:okS q.1=true) (h2:q3a q.2=true) (hc:q04 σ (q63,(q.1,v0))=false):Step σ st ws { σ with sw:=σ.sw ++ [q],sd:=q1q clT (q63,(q.1,v0)) (ps st x) σ.sd }
 | rt (x:Sp) (hz:(jp5 x).length<=qhh ws+4) (h:q0r (jin x)=true) (h2:q0r (qza x)=true) (hc:j41 (jin x) (qza x)<=0):Step σ st ws { σ with rt:=σ.rt ++ [x] }
theorem Step.mono {σ σ':MS} {st:Int} {ws ws':List Lx.Wd} (h:Step σ st ws σ') (h1 : ∀w∈ws,w∈ws') (h2:qhh ws<=qhh ws'):Step σ st ws' σ':=by
 cases h with
 | mo w hw h hc=>exact .mo w (h1 w hw) h hc
 | go w hw h hc=>exact .go w (h1 w hw) h hc
 | rq x q hx hz h ht hc=>exact .rq x q (h1 x hx) (by omega) h ht hc
 | ex x q hx hz h ht hc=>exact .ex x q (h1 x hx) (by omega) h ht hc
 | sw x q hx hz h h2 hc=>exact .sw x q (h1 x hx) (by omega) h h2 hc
 | rt x hz h h2 hc=>exact .rt x (by omega) h h2 hc
theorem q3s {σ σ':MS} {c:Cl} {st:Int} {w:Lx.Wd} (e:q0p σ c st w = .inr σ'):q04 σ c=false/\σ' = { σ with sd:=q1q clT c (ps st w) σ.sd }:=by
 unfold q0p at e
 unfold q04
 split at e
 ·cases e
 ·rename_i h
  cases e
  exact ⟨by simpa using h,rfl⟩
theorem qpv {p x:Yy} {q:Rq} (e:qeb p x = .inr q):q.1=p/\q40 q.1 q.2=true/\q0b q.2=x:=by
 unfold qeb at e
 split at e
 ·cases e
 ·split at e
  ·cases e
  ·split at e
   ·cases e
   ·rename_i h1 h2 h3
    cases e
    exact ⟨rfl,by simpa using h3,(qff (by simpa using h2)).2⟩
theorem jfo {σ σ':MS} {v:Yy} {ws:List Lx.Wd} {st:Int} (h2:v=q0x\/v=q8s\/v=q63->∃ w x r,ws=w::x::r) (e:q8w σ st v ws = .inr σ'):Step σ st ws σ':=by
 unfold q8w at e
 split at e
 ·cases e
 ·rename_i w ws'
  have hw0:w∈w::ws':=List.mem_cons_self ..
  split at e
  ·split at e
   ·cases e
   ·rename_i h
    obtain ⟨hc,rfl⟩:=q3s e
    exact .mo w hw0 (by simpa using h) hc
  ·split at e
   ·split at e
    ·cases e
    ·rename_i h
     obtain ⟨hc,rfl⟩:=q3s e
     exact .go w hw0 (by simpa using h) hc
   ·split at e
    ·rename_i hv
     obtain ⟨w',x,r,hx⟩:=h2 (.inl hv)
     obtain ⟨rfl,rfl⟩:=List.cons.inj hx
     split at e
     ·cases e
     ·rename_i q hq
      obtain ⟨q1,q2,q3⟩:=qpv hq
      obtain ⟨hc,rfl⟩:=q3s e
      exact .rq x q (by simp) (by rw [q1,qhh,qhh];omega) q2 q3 hc
    ·split at e
     ·rename_i hv
      obtain ⟨w',x,r,hx⟩:=h2 (.inr (.inl hv))
      obtain ⟨rfl,rfl⟩:=List.cons.inj hx
      split at e
      ·cases e
      ·rename_i q hq
       obtain ⟨q1,q2,q3⟩:=qpv hq
       obtain ⟨hc,rfl⟩:=q3s e
       exact .ex x q (by simp) (by rw [q1,qhh,qhh];omega) q2 q3 hc
     ·split at e
      ·rename_i hv
       obtain ⟨w',x,r,hx⟩:=h2 (.inr (.inr hv))
       obtain ⟨rfl,rfl⟩:=List.cons.inj hx
       split at e
       ·cases e
       ·rename_i g1
        split at e
        ·cases e
        ·rename_i g2
         obtain ⟨hc,rfl⟩:=q3s e
         exact .sw x (w.1,x.1) (by simp) (by rw [qhh,qhh];show w.1.length+x.1.length<=_;omega) (by simpa using g1) (by simpa using g2) hc
      ·split at e
       ·cases e
       ·rename_i g1
        split at e
        ·cases e
        ·rename_i g2
         split at e
         ·cases e
         ·rename_i g3
          cases e
          obtain ⟨a1,a2⟩:=qff (s:=w.1) (by simpa using g1)
          obtain ⟨b1,b2⟩:=qff (s:=(ws'.getLast?.getD w).1) (by simpa using g2)
          refine .rt _ ?_ a1 b1 (by simpa [jis,jaw] using g3)
          unfold jp5
          rw [jis,jaw]
          split
          ·rw [a2,qhh];omega
          ·rename_i hne
           rw [a2,b2]
           cases ws' with
           | nil=>exact absurd rfl hne
           | cons y r =>
            have hm:(y::r).getLast?.getD w∈y::r:=by
             rw [List.getLast?_eq_some_getLast (List.cons_ne_nil _ _),Option.getD_some]
             exact List.getLast_mem _
            have:=j1u hm
            rw [qhh]
            simp only [List.length_cons,List.length_append,List.length_nil]
            omega
theorem qt5 {σ σ':MS} {v:Yy} {ws:List Lx.Wd} {st:Int} (e:q53 σ st v ws = .inr σ'):Step σ st ws σ':=by
 unfold q53 at e
 split at e
 ·rename_i hm
  refine (jfo (fun hv=>?_) e).mono (fun w hw=>(List.mem_filter.1 hw).1) (qku _ ws)
  have:(unm ws).length=2:=by
   rcases hv with rfl|rfl|rfl
   ·exact q6o (k:=2) (List.mem_singleton.1 hm) (by decide) (by decide)
   ·exact q6o (k:=2) (List.mem_singleton.1 hm) (by decide) (by decide)
   ·exact q6o (k:=2) (List.mem_singleton.1 hm) (by decide) (by decide)
  obtain ⟨a,b,hab⟩:=jny this
  exact ⟨a,b,[],hab⟩
 ·cases e
theorem qdd {σ σ':MS} {ws:List Lx.Wd} {st:Int} (e:q3l σ st ws = .inr σ'):Step σ st ws σ' \/ ∃ b,σ' = { σ with bk:=b }:=by
 unfold q3l at e
 split at e
 ·cases e;exact .inr ⟨σ.bk,rfl⟩
 ·rename_i w ws'
  split at e
  ·split at e
   ·cases e;exact .inr ⟨w.1,rfl⟩
   ·exact .inl ((qt5 e).mono (fun x hx=>List.mem_cons_of_mem _ hx) (by rw [qhh];omega))
  ·split at e
   ·cases e;exact .inr ⟨[],rfl⟩
   ·exact .inl (qt5 e)
structure GoodM (σ:MS):Prop where
 mo:σ.mo = []\/okS σ.mo=true
 mc:q04 σ (qae,([],v0))=true↔σ.mo ≠ []
 go:σ.go = []\/q8y σ.go=true
 gk:q04 σ (kGo,([],v0))=true↔σ.go ≠ []
 rq : ∀q∈σ.rq,q40 q.1 q.2=true
 rk : ∀p,q04 σ (q0x,(p,v0))=true↔p∈σ.rq.map Prod.fst
 rn:(σ.rq.map Prod.fst).Nodup
 sw : ∀q∈σ.sw,okS q.1=true/\q3a q.2=true
 sk : ∀p,q04 σ (q63,(p,v0))=true↔p∈σ.sw.map Prod.fst
 sn:(σ.sw.map Prod.fst).Nodup
 ex : ∀q∈σ.ex,q40 q.1 q.2=true
 ek : ∀q:Rq,q04 σ (q8s,(q.1,q.2))=true↔q∈σ.ex
 en:σ.ex.Nodup
 rt : ∀x∈σ.rt,q0r (jin x)=true/\q0r (qza x)=true/\j41 (jin x) (qza x)<=0
theorem jnq (c:Cl) (P:Prop) (h : ¬ P):q04 ms0 c=true↔P:=⟨fun e=>(by cases e),fun p=>absurd p h⟩
theorem jej:GoodM ms0 where
 mo:=.inl rfl
 mc:=jnq _ _ (fun h=>h rfl)
 go:=.inl rfl
 gk:=jnq _ _ (fun h=>h rfl)
 rq:=fun q h=>by cases h
 rk:=fun p=>jnq _ _ (fun h=>by cases h)
 rn:=List.nodup_nil
 sw:=fun q h=>by cases h
 sk:=fun p=>jnq _ _ (fun h=>by cases h)
 sn:=List.nodup_nil
 ex:=fun q h=>by cases h
 ek:=fun p=>jnq _ _ (fun h=>by cases h)
 en:=List.nodup_nil
 rt:=fun q h=>by cases h
theorem qul (sd:jk7) (c c':Cl) (v:Int×Int):(q02 clT c' (q1q clT c v sd)).isSome=true↔c'=c\/(q02 clT c' sd).isSome=true:=by
 rw [q4c]
 cases h:eqT clT c' c with
 | true =>
  have:=(qge c' c).1 h
  simp [this]
 | false =>
  have:c'≠c:=fun e=>by rw [(qge c' c).2 e] at h;cases h
  simp [this]
theorem qf4 {β:Type} {l:List β} {a:β} (h:l.Nodup) (ha:a ∉ l):(l ++ [a]).Nodup:=by
 rw [List.nodup_append]
 exact ⟨h,by simp,fun x hx y hy e=>by rw [List.mem_singleton.1 hy] at e;rw [e] at hx;exact ha hx⟩
theorem ok_ne {p:Yy} (h:okS p=true):p ≠ []:=(jg0 h).1
theorem jkq {p:Yy} (h:q8y p=true):p ≠ []:=(j3s h).1
theorem kd:qae≠kGo/\qae≠q0x/\qae≠q8s/\qae≠q63/\kGo≠q0x/\kGo≠q8s/\kGo≠q63/\q0x≠q8s/\q0x≠q63/\q8s≠q63:=by decide
theorem q19 {σ:MS} {a b:Yy} (h:a≠b) (x y:Yy×VD) (v:Int×Int):(q02 clT (a,x) (q1q clT (b,y) v σ.sd)).isSome=(q02 clT (a,x) σ.sd).isSome:=by
 rw [q3x (fun e=>h (congrArg Prod.fst e))]
theorem qo1 {σ:MS} {c:Cl} {P:Prop} (h:q04 σ c=true↔P) (hc:q04 σ c=false) : ¬ P:=fun hp=>by rw [h.2 hp] at hc;cases hc
theorem j7c {σ σ':MS} {ws:List Lx.Wd} {st:Int} (g:GoodM σ) (h:Step σ st ws σ'):GoodM σ':=by
 obtain ⟨d1,d2,d3,d4,d5,d6,d7,d8,d9,d10⟩:=kd
 cases h with
 | mo w hw h hc =>
  exact ⟨.inr h,by show (q02 clT _ _).isSome=true↔_;rw [qul];simp [ok_ne h],g.go,by show (q02 clT _ _).isSome=true↔_;rw [q19 d1.symm];exact g.gk,g.rq,fun p=>by show (q02 clT _ _).isSome=true↔_;rw [q19 d2.symm];exact g.rk p,g.rn,g.sw,fun p=>by show (q02 clT _ _).isSome=true↔_;rw [q19 d4.symm];exact g.sk p,g.sn,g.ex,fun p=>by show (q02 clT _ _).isSome=true↔_;rw [q19 d3.symm];exact g.ek p,g.en,g.rt⟩
 | go w hw h hc =>
  exact ⟨g.mo,by show (q02 clT _ _).isSome=true↔_;rw [q19 d1];exact g.mc,.inr h,by show (q02 clT _ _).isSome=true↔_;rw [qul];simp [jkq h],g.rq,fun p=>by show (q02 clT _ _).isSome=true↔_;rw [q19 d5.symm];exact g.rk p,g.rn,g.sw,fun p=>by show (q02 clT _ _).isSome=true↔_;rw [q19 d7.symm];exact g.sk p,g.sn,g.ex,fun p=>by show (q02 clT _ _).isSome=true↔_;rw [q19 d6.symm];exact g.ek p,g.en,g.rt⟩
 | rq x q hx hz h ht hc =>
  refine ⟨g.mo,by show (q02 clT _ _).isSome=true↔_;rw [q19 d2];exact g.mc,g.go,by show (q02 clT _ _).isSome=true↔_;rw [q19 d5];exact g.gk,fun y hy=>?_,fun p=>?_,?_,g.sw,fun p=>by show (q02 clT _ _).isSome=true↔_;rw [q19 d9.symm];exact g.sk p,g.sn,g.ex,fun p=>by show (q02 clT _ _).isSome=true↔_;rw [q19 d8.symm];exact g.ek p,g.en,g.rt⟩
  ·rcases List.mem_append.1 hy with hy|hy
   ·exact g.rq y hy
   ·rw [List.mem_singleton.1 hy];exact h
  ·show (q02 clT _ _).isSome=true↔_
   rw [qul]
   have:=g.rk p
   unfold q04 at this
   rw [this,List.map_append,List.mem_append]
   simp [or_comm]
  ·show ((σ.rq ++ [q]).map Prod.fst).Nodup
   rw [List.map_append]
   exact qf4 g.rn (qo1 (g.rk q.1) hc)
 | ex x q hx hz h ht hc =>
  refine ⟨g.mo,by show (q02 clT _ _).isSome=true↔_;rw [q19 d3];exact g.mc,g.go,by show (q02 clT _ _).isSome=true↔_;rw [q19 d6];exact g.gk,g.rq,fun p=>by show (q02 clT _ _).isSome=true↔_;rw [q19 d8];exact g.rk p,g.rn,g.sw,fun p=>by show (q02 clT _ _).isSome=true↔_;rw [q19 d10.symm];exact g.sk p,g.sn,fun y hy=>?_,fun p=>?_,?_,g.rt⟩
  ·rcases List.mem_append.1 hy with hy|hy
   ·exact g.ex y hy
   ·rw [List.mem_singleton.1 hy];exact h
  ·show (q02 clT _ _).isSome=true↔_
   rw [qul]
   have:=g.ek p
   unfold q04 at this
   rw [this,List.mem_append]
   obtain ⟨p1,p2⟩:=p
   obtain ⟨q1,q2⟩:=q
   simp [or_comm]
  ·exact qf4 g.en (qo1 (g.ek q) hc)
 | sw x q hx hz h h2 hc =>
  refine ⟨g.mo,by show (q02 clT _ _).isSome=true↔_;rw [q19 d4];exact g.mc,g.go,by show (q02 clT _ _).isSome=true↔_;rw [q19 d7];exact g.gk,g.rq,fun p=>by show (q02 clT _ _).isSome=true↔_;rw [q19 d9];exact g.rk p,g.rn,fun y hy=>?_,fun p=>?_,?_,g.ex,fun p=>by show (q02 clT _ _).isSome=true↔_;rw [q19 d10];exact g.ek p,g.en,g.rt⟩
  ·rcases List.mem_append.1 hy with hy|hy
   ·exact g.sw y hy
   ·rw [List.mem_singleton.1 hy];exact ⟨h,h2⟩
  ·show (q02 clT _ _).isSome=true↔_
   rw [qul]
   have:=g.sk p
   unfold q04 at this
   rw [this,List.map_append,List.mem_append]
   simp [or_comm]
  ·show ((σ.sw ++ [q]).map Prod.fst).Nodup
   rw [List.map_append]
   exact qf4 g.sn (qo1 (g.sk q.1) hc)
 | rt x hz h h2 hc =>
  refine ⟨g.mo,g.mc,g.go,g.gk,g.rq,g.rk,g.rn,g.sw,g.sk,g.sn,g.ex,g.ek,g.en,fun y hy=>?_⟩
  rcases List.mem_append.1 hy with hy|hy
  ·exact g.rt y hy
  ·rw [List.mem_singleton.1 hy];exact ⟨h,h2,hc⟩
theorem jl8 {σ:MS} (g:GoodM σ) (b:Yy):GoodM { σ with bk:=b }:=⟨g.mo,g.mc,g.go,g.gk,g.rq,g.rk,g.rn,g.sw,g.sk,g.sn,g.ex,g.ek,g.en,g.rt⟩
theorem qdz {σ σ':MS} {ws:List Lx.Wd} {st:Int} (g:GoodM σ) (e:q3l σ st ws = .inr σ'):GoodM σ':=by
 rcases qdd e with h|⟨b,rfl⟩
 ·exact j7c g h
 ·exact jl8 g b
theorem qt7 : ∀(ls:List Yy) (i st:Int) (σ σ':MS),GoodM σ->q0y ls i st σ = .inr σ'->GoodM σ'
 | [],i,st,σ,σ',g,e=>by cases e;exact g
 | t::ts,i,st,σ,σ',g,e=>by
  rw [q0y] at e
  split at e
  ·cases e
  ·rename_i σ1 h1
   exact qt7 ts _ _ σ1 σ' (qdz g h1) e
def je9 (σ σ':MS):Prop:=(σ.mo ≠ []->σ'.mo=σ.mo)/\(σ.go ≠ []->σ'.go=σ.go)/\σ.rq <+: σ'.rq/\σ.sw <+: σ'.sw/\σ.ex <+: σ'.ex/\σ.rt <+: σ'.rt
theorem je9.rfl' (σ:MS):je9 σ σ:=⟨fun _=>rfl,fun _=>rfl,List.prefix_rfl,List.prefix_rfl,List.prefix_rfl,List.prefix_rfl⟩
theorem je9.trans {a b c:MS} (h1:je9 a b) (h2:je9 b c):je9 a c:=by
 obtain ⟨a1,a2,a3,a4,a5,a6⟩:=h1
 obtain ⟨b1,b2,b3,b4,b5,b6⟩:=h2
 exact ⟨fun h=>(b1 (by rw [a1 h];exact h)).trans (a1 h),fun h=>(b2 (by rw [a2 h];exact h)).trans (a2 h),a3.trans b3,a4.trans b4,a5.trans b5,a6.trans b6⟩
theorem jbr {σ σ':MS} {ws:List Lx.Wd} {st:Int} (g:GoodM σ) (e:q3l σ st ws = .inr σ'):je9 σ σ':=by
 rcases qdd e with h|⟨b,rfl⟩
 ·have p:=fun {β:Type} (l:List β) (x:β)=>List.prefix_append l [x]
  cases h with
  | mo w hw h hc=>exact ⟨fun hm=>absurd hm (qo1 g.mc hc),fun _=>rfl,List.prefix_rfl,List.prefix_rfl,List.prefix_rfl,List.prefix_rfl⟩
  | go w hw h hc=>exact ⟨fun _=>rfl,fun hm=>absurd hm (qo1 g.gk hc),List.prefix_rfl,List.prefix_rfl,List.prefix_rfl,List.prefix_rfl⟩
  | rq x q hx hz h ht hc=>exact ⟨fun _=>rfl,fun _=>rfl,p _ _,List.prefix_rfl,List.prefix_rfl,List.prefix_rfl⟩
  | ex x q hx hz h ht hc=>exact ⟨fun _=>rfl,fun _=>rfl,List.prefix_rfl,List.prefix_rfl,p _ _,List.prefix_rfl⟩
  | sw x q hx hz h h2 hc=>exact ⟨fun _=>rfl,fun _=>rfl,List.prefix_rfl,p _ _,List.prefix_rfl,List.prefix_rfl⟩
  | rt x hz h h2 hc=>exact ⟨fun _=>rfl,fun _=>rfl,List.prefix_rfl,List.prefix_rfl,List.prefix_rfl,p _ _⟩
 ·exact je9.rfl' σ
theorem quv : ∀(ls:List Yy) (i st:Int) (σ σ':MS),GoodM σ->q0y ls i st σ = .inr σ'->je9 σ σ'
 | [],i,st,σ,σ',g,e=>by cases e;exact je9.rfl' σ
 | t::ts,i,st,σ,σ',g,e=>by
  rw [q0y] at e
  split at e
  ·cases e
  ·rename_i σ1 h1
   exact (jbr g h1).trans (quv ts _ _ σ1 σ' (qdz g h1) e)
theorem qql : ∀(a b:List Yy) (i st:Int) (σ:MS),q0y (a++b) i st σ=match q0y a i st σ with
  | .inl e=>.inl e
  | .inr σ'=>q0y b (i+((a.length:Nat):Int)) (st+((tot a:Nat):Int)) σ'
 | [],b,i,st,σ=>by simp [q0y,tot]
 | t::ts,b,i,st,σ=>by
  rw [List.cons_append,q0y,q0y]
  cases q3l σ st (q0v t) with
  | inl e=>rfl
  | inr σ1 =>
   show q0y (ts++b) _ _ σ1=_
   rw [qql ts b]
   simp only [List.length_cons,tot]
   rw [show i+1+((ts.length:Nat):Int)=i+((ts.length+1:Nat):Int) by omega,show st+((t.length:Nat):Int)+1+((tot ts:Nat):Int)=st+((t.length+1+tot ts:Nat):Int) by omega]
set_option synthInstance.maxSize 100000
set_option synthInstance.maxHeartbeats 0
theorem qqy {p x:Yy} {e:Int} (h:qeb p x = .inl e):e≠0:=by
 unfold qeb at h
 split at h
 ·cases h;decide
 ·split at h
  ·cases h;decide
  ·split at h<;>cases h;decide
theorem qa2 {σ:MS} {c:Cl} {st:Int} {w:Lx.Wd} {e:Int} (h:q0p σ c st w = .inl e):e≠0:=by
 unfold q0p at h
 split at h<;>cases h;decide
theorem jkp {σ:MS} {v:Yy} {ws:List Lx.Wd} {st e:Int} (h:q8w σ st v ws = .inl e):e≠0:=by
 unfold q8w at h
 split at h
 ·cases h;decide
 ·split at h
  ·split at h
   ·cases h;decide
   ·exact qa2 h
  ·split at h
   ·split at h
    ·cases h;decide
    ·exact qa2 h
   ·split at h
    ·split at h
     ·rename_i hq;cases h;exact qqy hq
     ·exact qa2 h
    ·split at h
     ·split at h
      ·rename_i hq;cases h;exact qqy hq
      ·exact qa2 h
     ·split at h
      ·split at h
       ·cases h;decide
       ·split at h
        ·cases h;decide
        ·exact qa2 h
      ·split at h
       ·cases h;decide
       ·split at h
        ·cases h;decide
        ·split at h<;>cases h;decide
theorem j2h {σ:MS} {v:Yy} {ws:List Lx.Wd} {st e:Int} (h:q53 σ st v ws = .inl e):e≠0:=by
 unfold q53 at h
 split at h
 ·exact jkp h
 ·cases h;decide
theorem j1o {σ:MS} {ws:List Lx.Wd} {st e:Int} (h:q3l σ st ws = .inl e):e≠0:=by
 unfold q3l at h
 split at h
 ·cases h
 ·split at h
  ·split at h
   ·cases h
   ·exact j2h h
  ·split at h
   ·cases h
   ·exact j2h h
theorem qsz : ∀(ls:List Yy) (i st:Int) (σ:MS) (e:Int×Int),q0y ls i st σ = .inl e->e.2≠0
 | [],i,st,σ,e,h=>by cases h
 | t::ts,i,st,σ,e,h=>by
  rw [q0y] at h
  split at h
  ·rename_i h1;cases h;exact j1o h1
  ·exact qsz ts _ _ _ e h
structure IsM (s:Yy) (σ:MS):Prop where
 okc : ∀t∈Lx.q03 s,∀c∈t,Lx.okc c=true
 rd:q0y (Lx.q03 s) 0 0 ms0 = .inr σ
 bk:σ.bk = []
 mo:σ.mo ≠ []
theorem jce {s:Yy} {σ:MS} {k:Int} (h:q9j s = .inr (σ,k)):IsM s σ/\k=(((Lx.q03 s).length:Nat):Int):=by
 unfold q9j at h
 split at h
 ·cases h
 ·rename_i h0
  split at h
  ·cases h
  ·rename_i σ1 h1
   split at h
   ·cases h
   ·rename_i h2
    split at h
    ·cases h
    ·rename_i h3
     cases h
     exact ⟨⟨qov _ 0 [] (by simpa using h0),h1,by simpa using h2,h3⟩,rfl⟩
theorem qx9 {s:Yy} {σ:MS} (h:IsM s σ):q9j s = .inr (σ,(((Lx.q03 s).length:Nat):Int)):=by
 unfold q9j
 rw [if_neg (by simpa using qop _ 0 [] h.okc),h.rd]
 simp only [h.bk,h.mo,ne_eq,not_true_eq_false,if_false]
theorem q6h {s:Yy} {σ:MS} (h:IsM s σ):q3w s=(σ.md,((((Lx.q03 s).length:Nat):Int),0)):=by unfold q3w;rw [qx9 h]
theorem jeg {s:Yy} (h:(q3w s).2.2=0) : ∃ σ,IsM s σ:=by
 cases hr:q9j s with
 | inr x=>exact ⟨x.1,(jce (k:=x.2) hr).1⟩
 | inl e =>
  exfalso
  have h':e.2=0:=by unfold q3w at h;rw [hr] at h;exact h
  unfold q9j at hr
  split at hr
  ·rename_i h0;cases hr;exact h0 h'
  ·split at hr
   ·rename_i h1;cases hr;exact qsz _ _ _ _ _ h1 h'
   ·split at hr
    ·cases hr;exact absurd (show (10:Int)=0 from h') (by decide)
    ·split at hr
     ·cases hr;exact absurd (show (5:Int)=0 from h') (by decide)
     ·cases hr
theorem IsM.good {s:Yy} {σ:MS} (h:IsM s σ):GoodM σ:=qt7 _ _ _ _ _ jej h.rd
theorem q6t (a:Yy) (c:UInt8):Lx.q4n (a ++ [c])=decide (c=10):=by
 unfold Lx.q4n
 by_cases h:c=10<;>simp [h]
theorem j8s (a:Yy):Lx.q03 (a ++ [10])=spl 10 [] a:=by
 unfold Lx.q03
 rw [if_neg (by simp),q6t,decide_eq_true rfl,if_pos rfl,List.dropLast_concat]
set_option synthInstance.maxSize 100000
set_option synthInstance.maxHeartbeats 0
def Sm (σ τ:MS):Prop:=σ.md=τ.md/\∀c,q04 σ c=q04 τ c
theorem Sm.mo {σ τ:MS} (h:Sm σ τ):σ.mo=τ.mo:=congrArg (fun m:MD=>m.1) h.1
theorem Sm.rfl' (σ:MS):Sm σ σ:=⟨rfl,fun _=>rfl⟩
def jns (b1 b2:Yy):Int⊕MS->Int⊕MS->Prop
 | .inl e,.inl e'=>e=e'
 | .inr σ,.inr τ=>Sm σ τ/\σ.bk=b1/\τ.bk=b2
 | _,_=>False
theorem q9g {σ τ:MS} {b1 b2:Yy} (h:Sm σ τ) (h1:σ.bk=b1) (h2:τ.bk=b2) (c:Cl) (st st':Int) (w w':Lx.Wd):jns b1 b2 (q0p σ c st w) (q0p τ c st' w'):=by
 have hc:=h.2 c
 unfold q04 at hc
 unfold q0p
 rw [hc]
 cases (q02 clT c τ.sd).isSome with
 | true=>rfl
 | false =>
  refine ⟨⟨h.1,fun c'=>?_⟩,h1,h2⟩
  have h3:=h.2 c'
  unfold q04 at h3 ⊢
  show (q02 clT c' (q1q clT c _ σ.sd)).isSome=(q02 clT c' (q1q clT c _ τ.sd)).isSome
  rw [q4c,q4c]
  cases eqT clT c' c with
  | true=>rfl
  | false=>exact h3
theorem jdo : ∀(r r':List Lx.Wd) (w w':Lx.Wd),w.1=w'.1->tx r=tx r'->(r.getLast?.getD w).1=(r'.getLast?.getD w').1
 | [],[],w,w',h,_=>h
 | [],_::_,_,_,_,h=>by cases h
 | _::_,[],_,_,_,h=>by cases h
 | a::r,b::r',w,w',h,e=>by
  obtain ⟨h1,h2⟩:=List.cons.inj e
  rw [List.getLast?_cons,List.getLast?_cons]
  exact jdo r r' a b h1 h2
theorem jhz {r r':List Lx.Wd} (h:tx r=tx r'):(r.headD ([],0)).1=(r'.headD ([],0)).1:=by
 cases r<;>cases r'<;>first|rfl|cases h|exact (List.cons.inj h).1
theorem jju {σ τ:MS} {b1 b2:Yy} (h:Sm σ τ) (h1:σ.bk=b1) (h2:τ.bk=b2) (v:Yy) (st st':Int) {ws ws':List Lx.Wd} (hw:tx ws=tx ws'):jns b1 b2 (q8w σ st v ws) (q8w τ st' v ws'):=by
 obtain ⟨m1,g1,k1,s1,r1,w1,e1,t1⟩:=σ
 obtain ⟨m2,g2,k2,s2,r2,w2,e2,t2⟩:=τ
 have hc:=h.2
 have hm:=h.1
 simp only [MS.md,Prod.mk.injEq] at hm
 obtain ⟨rfl,rfl,rfl,rfl,rfl,rfl⟩:=hm
 cases ws with
 | nil =>
  cases ws' with
  | nil=>rfl
  | cons=>cases hw
 | cons w r =>
  cases ws' with
  | nil=>cases hw
  | cons w' r' =>
   obtain ⟨e0,e9⟩:=List.cons.inj hw
   have e1':=jhz e9
   have e2':=jdo r r' w w' e0 e9
   unfold q8w
   simp only [e0,e1',e2']
   split
   ·split
    ·rfl
    ·exact q9g (by exact ⟨rfl,hc⟩) (by exact h1) (by exact h2) _ _ _ _ _
   ·split
    ·split
     ·rfl
     ·exact q9g (by exact ⟨rfl,hc⟩) (by exact h1) (by exact h2) _ _ _ _ _
    ·split
     ·split
      ·rfl
      ·exact q9g (by exact ⟨rfl,hc⟩) (by exact h1) (by exact h2) _ _ _ _ _
     ·split
      ·split
       ·rfl
       ·exact q9g (by exact ⟨rfl,hc⟩) (by exact h1) (by exact h2) _ _ _ _ _
      ·split
       ·split
        ·rfl
        ·split
         ·rfl
         ·exact q9g (by exact ⟨rfl,hc⟩) (by exact h1) (by exact h2) _ _ _ _ _
       ·split
        ·rfl
        ·split
         ·rfl
         ·split
          ·rfl
          ·exact ⟨⟨rfl,hc⟩,h1,h2⟩
theorem jcw {ws ws':List Lx.Wd} (h:tx ws=tx ws'):shp ws=shp ws':=by
 have e : ∀ws:List Lx.Wd,ws.map qbd=(tx ws).map fun t=>if q2y t then t else [120]:=fun ws=>by simp [qbd,Function.comp_def]
 unfold shp
 rw [e,e,h]
theorem jif : ∀{ws ws':List Lx.Wd},tx ws=tx ws'->tx (unm ws)=tx (unm ws')
 | [],[],_=>rfl
 | [],_::_,h=>by cases h
 | _::_,[],h=>by cases h
 | a::r,b::r',h=>by
  obtain ⟨h1,h2⟩:=List.cons.inj h
  have ih:=jif h2
  unfold unm at ih ⊢
  rw [List.filter_cons,List.filter_cons,h1]
  split
  ·show a.1::tx _=b.1::tx _
   rw [ih,h1]
  ·exact ih
theorem j2k {σ τ:MS} {b1 b2:Yy} (h:Sm σ τ) (h1:σ.bk=b1) (h2:τ.bk=b2) (v:Yy) (st st':Int) {ws ws':List Lx.Wd} (hw:tx ws=tx ws'):jns b1 b2 (q53 σ st v ws) (q53 τ st' v ws'):=by
 unfold q53
 rw [jcw hw]
 split
 ·exact jju h h1 h2 v st st' (jif hw)
 ·rfl
def RelL:Int⊕MS->Int⊕MS->Prop
 | .inl e,.inl e'=>e=e'
 | .inr σ,.inr τ=>Sm σ τ/\σ.bk=τ.bk
 | _,_=>False
theorem jns.toL {b:Yy} {x y:Int⊕MS} (h:jns b b x y):RelL x y:=by
 cases x<;>cases y
 ·exact h
 ·exact h
 ·exact h
 ·exact ⟨h.1,h.2.1.trans h.2.2.symm⟩
theorem jg5 {σ τ:MS} (h:Sm σ τ) (hb:σ.bk=τ.bk) (st st':Int) {ws ws':List Lx.Wd} (hw:tx ws=tx ws'):RelL (q3l σ st ws) (q3l τ st' ws'):=by
 cases ws with
 | nil =>
  cases ws' with
  | nil=>exact ⟨h,hb⟩
  | cons=>cases hw
 | cons w r =>
  cases ws' with
  | nil=>cases hw
  | cons w' r' =>
   obtain ⟨e0,e9⟩:=List.cons.inj hw
   unfold q3l
   have q1:=jcw hw
   have q2:=jcw e9
   simp only [q1,q2,hb,e0]
   split
   ·split
    ·exact ⟨⟨h.1,h.2⟩,rfl⟩
    ·exact (j2k h hb rfl _ st st' e9).toL
   ·split
    ·exact ⟨⟨h.1,h.2⟩,rfl⟩
    ·exact (j2k h hb rfl _ st st' hw).toL
inductive Lns:List Yy->List Yy->Prop
 | nil:Lns [] []
 | both {a b:Yy} {r r':List Yy} (h:tx (q0v a)=tx (q0v b)) (hr:Lns r r'):Lns (a::r) (b::r')
 | more {b:Yy} {r r':List Yy} (h:q0v b = []) (hr:Lns r r'):Lns r (b::r')
theorem Lns.read {L L':List Yy} (h:Lns L L') : ∀(i i' st st':Int) (σ τ σ':MS),Sm σ τ->σ.bk=τ.bk->q0y L i st σ = .inr σ'->∃ τ',q0y L' i' st' τ = .inr τ'/\Sm σ' τ'/\σ'.bk=τ'.bk:=by
 induction h with
 | nil=>intro i i' st st' σ τ σ' h1 h2 e;cases e;exact ⟨τ,rfl,h1,h2⟩
 | both h hr ih =>
  intro i i' st st' σ τ σ' h1 h2 e
  have hl:=jg5 h1 h2 st st' h
  rw [q0y] at e ⊢
  split at e
  ·cases e
  ·rename_i σ1 hs
   rw [hs] at hl
   split
   ·rename_i e' he';rw [he'] at hl;exact absurd hl id
   ·rename_i τ1 ht
    rw [ht] at hl
    exact ih _ _ _ _ _ _ _ hl.1 hl.2 e
 | more h hr ih =>
  intro i i' st st' σ τ σ' h1 h2 e
  rw [q0y,h]
  exact ih _ _ _ _ _ _ _ h1 h2 e
theorem Sm.bk {σ τ:MS} (h:Sm σ τ) (b:Yy):Sm σ { τ with bk:=b }:=⟨h.1,h.2⟩
theorem j5i {p:Yy} (h:q3a p=true) : ∀c∈p,c=47\/q7j c=true:=by
 have h2:=(qao h).2
 have h3:(spl 47 [] p).all (fun w=>w.all q7j)=true:=by
  rw [List.all_eq_true] at h2 ⊢
  exact fun w hw=>j1r (h2 w hw)
 exact ((qmb 47 q7j p []).1 h3).2
def word (w:Yy):Prop:=plain w/\q2y w=false
theorem jdy {w:Yy} (h:plain w) (h2:w ≠ [61,62]):word w:=by
 refine ⟨h,?_⟩
 cases hm:q2y w with
 | false=>rfl
 | true =>
  exfalso
  rcases qaq hm with e|e|e|e|e|e
  ·exact h2 e
  all_goals (rw [e] at h;exact absurd (h.2.2 _ (List.mem_cons_self ..)) (by decide))
theorem jd4 {p:Yy} (h:q3a p=true):word p:=jdy (qnk h) fun e=>by
 rcases j5i h 61 (by rw [e];decide) with h1|h1
 ·exact absurd h1 (by decide)
 ·exact absurd h1 (by decide)
theorem qzj {p:Yy} (h:okS p=true):word p:=jd4 (qrn h).1
theorem q9a {v:VD} (h:q0r v=true):word (q0b v):=jdy (j6m h) fun e=>by
 unfold q0b at e
 rw [if_pos h] at e
 exact absurd (List.cons.inj e).1 (by decide)
theorem q7o {p:Yy} {v:VD} (h:q40 p v=true):okS p=true/\q0r v=true:=by
 unfold q40 at h
 simp only [Bool.and_eq_true] at h
 exact ⟨h.1,h.2.1⟩
theorem j4b {v:VD} (h:q0r v=true):q09 (q0b v)=(v,true):=j3a h rfl
theorem jid {ws:List Lx.Wd} {L:List Yy} (h:tx ws=L):shp ws=Lib.join (L.map fun t=>if q2y t then t else [120]) [32]:=by
 unfold shp
 rw [<-h]
 congr 1
 simp [qbd,Function.comp_def]
theorem tx2 {ws:List Lx.Wd} {a b:Yy} (h:tx ws = [a,b]) : ∃ w x,ws = [w,x]/\w.1=a/\x.1=b:=by
 match ws,h with
 | [w,x],h=>exact ⟨w,x,rfl,(List.cons.inj h).1,(List.cons.inj (List.cons.inj h).2).1⟩
theorem joq {ws:List Lx.Wd} {L:List Yy} (h:tx ws=L):tx (unm ws)=L.filter fun t=>!q2y t:=by
 rw [<-h,List.filter_map]
 rfl
theorem jgo {p:Yy} {v:VD} (h:q40 p v=true):qeb p (q0b v) = .inr (p,v):=by
 obtain ⟨h1,h2⟩:=q7o h
 unfold qeb
 rw [j4b h2,h1,h]
 rfl
theorem jdw:Lib.join [[(120:UInt8)],[120]] [32] = [120,32,120]:=by decide
theorem jew {σ:MS} {st:Int} {ws:List Lx.Wd} {p:Yy} {v:VD} (h:tx ws = [p,q0b v]) (hf:q40 p v=true) : ∃ x:Lx.Wd,x.1=q0b v/\q53 σ st q0x ws=q0p { σ with rq:=σ.rq ++ [(p,v)] } (q0x,(p,v0)) st x:=by
 have hw:=(qzj (q7o hf).1).2
 have hv:=(q9a (q7o hf).2).2
 obtain ⟨w,x,e,e1,e2⟩:=tx2 (show tx (unm ws) = [p,q0b v] by rw [joq h];simp [hw,hv])
 refine ⟨x,e2,?_⟩
 unfold q53
 rw [jid h,if_pos (by simp [hw,hv,q39,jdw]),e]
 show (match qeb w.1 x.1 with
   | .inl e=>(Sum.inl e:Int⊕MS)
   | .inr q=>q0p { σ with rq:=σ.rq ++ [q] } (q0x,(q.1,v0)) st x)=_
 rw [e1,e2,jgo hf]
theorem q84 {σ:MS} {c:Cl} {st:Int} {w:Lx.Wd} (h:q04 σ c=false):q0p σ c st w = .inr { σ with sd:=q1q clT c (ps st w) σ.sd }:=by
 unfold q04 at h
 unfold q0p
 rw [h];rfl
theorem jeo {σ:MS} {st:Int} {ws:List Lx.Wd} {v:Yy} {L:List Yy} (h:tx ws=v::L) (hb:σ.bk = []) (hs:Lib.join (L.map fun t=>if q2y t then t else [120]) [32] ≠ [40]) : ∃ ws',tx ws'=L/\q3l σ st ws=q53 σ st v ws':=by
 cases ws with
 | nil=>cases h
 | cons w r =>
  obtain ⟨h1,h2⟩:=List.cons.inj h
  refine ⟨r,h2,?_⟩
  unfold q3l
  simp only [hb,if_true,h1]
  rw [if_neg (fun hh=>hs (by rw [<-jid h2];exact hh.2))]
end Go.Proofs.YtapfankgdkdkgaaGreatDoor.AM
