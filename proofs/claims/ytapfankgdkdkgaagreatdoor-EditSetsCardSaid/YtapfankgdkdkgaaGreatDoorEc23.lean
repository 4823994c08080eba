
import Derived.Test.YtapfankgdkdkgaaGreatDoorEc22
set_option linter.unusedVariables false
set_option linter.unusedSimpArgs false
namespace Go.Proofs.YtapfankgdkdkgaaGreatDoor.AM
open Go.RowKit
set_option synthInstance.maxSize 100000
set_option synthInstance.maxHeartbeats 0
def jo4 (x:Sp):Yy:=if jhk x=qze x then q08 (jhk x) else 91::(q08 (jhk x)++44::32::(q08 (qze x) ++ [93]))
theorem qgs (v:VD):(q08 v).length<=92:=by
 unfold q08
 split
 ·exact j9e ‹_›
 ·simp
theorem jhu {s t:Yy} (h:s.length+t.length<=9223372036854775807):q5q s t=some (s++t):=by unfold q5q;rw [if_pos h]
theorem jb3 : ∀(ls:List Yy) (i st:Int) (k:Nat) (σ σ':MS),SB k σ->q1v ls i st σ = .inr σ'->SB (k+ls.length) σ'
 | [],i,st,k,σ,σ',h,e=>by cases e;exact h
 | t::ts,i,st,k,σ,σ',h,e=>by
  rw [q1v] at e
  split at e
  ·cases e
  ·rename_i σ1 h1
   have:=jb3 ts _ _ (k+1) σ1 σ' (qyd h h1) e
   rw [List.length_cons,show k+(ts.length+1)=k+1+ts.length by omega]
   exact this
theorem jdy (s:Yy):ML (s.length+1) (q6v s).1:=by
 obtain ⟨l1,l2⟩:=Lx.q5h s
 unfold q6v q9e
 split
 ·rename_i e he
  exact ⟨Nat.zero_le _,Nat.zero_le _,Nat.zero_le _,Nat.zero_le _⟩
 ·rename_i σ k he
  split at he
  ·cases he
  ·split at he
   ·cases he
   ·rename_i σ1 h1
    have h2:=jb3 _ 0 0 0 ms0 σ1 ⟨Nat.le_refl _,Nat.le_refl _,Nat.le_refl _,Nat.le_refl _⟩ h1
    split at he
    ·cases he
    ·split at he
     ·cases he
     ·cases he
      obtain ⟨b1,b2,b3,b4⟩:=h2
      exact ⟨by show σ.rq.length<=_;omega,by show σ.sw.length<=_;omega,by show σ.ex.length<=_;omega,by show σ.rt.length<=_;omega⟩
theorem ML.mono {k j:Nat} {m:MD} (h:ML k m) (hj:k<=j):ML j m:=by unfold ML at *;omega
def plb (c:UInt8):Bool:=Lx.okc c&&(!Lx.q1b c && !Lx.isB c)
def plain (w:Yy):Prop:=w ≠ []/\w.head? ≠ some 47/\∀c∈w,plb c=true
theorem qux (c:UInt8) (h:qhg c=true):plb c=true/\c≠47:=by
 have h1 : ∀i:Fin 256,qhg (UInt8.ofNat i.1)=true->plb (UInt8.ofNat i.1)=true/\UInt8.ofNat i.1≠47:=by decide +kernel
 have:=h1 ⟨c.toNat,c.toNat_lt⟩
 simpa [h] using this
theorem j0u (c:UInt8) (h:q0u c=true):qhg c=true:=by unfold qhg;rw [h];simp
theorem pl46:plb 46=true:=by decide
theorem pl47:plb 47=true:=by decide
theorem j9p (c:UInt8) (h:q7t c=true):plb c=true/\c≠47:=by
 have h1 : ∀i:Fin 256,q7t (UInt8.ofNat i.1)=true->plb (UInt8.ofNat i.1)=true/\UInt8.ofNat i.1≠47:=by decide +kernel
 have:=h1 ⟨c.toNat,c.toNat_lt⟩
 simpa [h] using this
theorem j0v {w:Yy} (h:q8u w=true):w.all q7t=true:=by
 unfold q8u at h
 simp only [Bool.and_eq_true] at h
 exact h.2.2.2
theorem qo8 {p:Yy} (h:q3e p=true):plain p:=by
 have h2:=(qa3 h).2
 refine ⟨jlx h,fun hd=>?_,fun c hc=>?_⟩
 ·cases p with
  | nil=>cases hd
  | cons a r =>
   simp only [List.head?_cons,Option.some.injEq] at hd
   subst hd
   rw [spl,if_pos rfl,List.all_cons,show q8u []=false from rfl] at h2
   cases h2
 ·have h3:(spl 47 [] p).all (fun w=>w.all q7t)=true:=by
   rw [List.all_eq_true] at h2 ⊢
   exact fun w hw=>j0v (h2 w hw)
  rcases ((qk5 47 q7t p []).1 h3).2 c hc with rfl|h4
  ·exact pl47
  ·exact (j9p c h4).1
theorem jew {p:Yy} (h:okS p=true):plain p:=qo8 (qk3 h).1
theorem qpz {i:Int} (h:0<=i) : ∀c∈Lib.itoa i,plb c=true:=by
 rw [q0y h]
 intro c hc
 exact (qux c (j0u c (List.all_eq_true.1 (qhw i.toNat).1 c hc))).1
theorem qth {d:UInt8} (hd:plb d=true) {p:Yy->Bool} (hp : ∀w,p w=true->w.all qhg=true) {s:Yy} (h:q54 p s=true) : ∀c∈q4h d s,plb c=true:=by
 unfold q4h
 split
 ·intro c hc;cases hc
 ·intro c hc
  rcases List.mem_cons.1 hc with rfl|hc
  ·exact hd
  ·rcases j1o hp h c hc with rfl|h1
   ·exact pl46
   ·exact (qux c h1).1
theorem j53 {v:VD} (h:q0r v=true):plain (q08 v):=by
 obtain ⟨h1,h2,h3,h4,h5⟩:=q19 h
 unfold q08
 rw [if_pos h]
 unfold j6l
 refine ⟨by simp,by simp,fun c hc=>?_⟩
 simp only [List.mem_cons,List.mem_append] at hc
 rcases hc with rfl|hc|rfl|hc|rfl|hc|hc|hc
 ·decide
 ·exact qpz h1.1 c hc
 ·exact pl46
 ·exact qpz h2.1 c hc
 ·exact pl46
 ·exact qpz h3.1 c hc
 ·exact qth (by decide) qto h4 c hc
 ·exact qth (by decide) qnt h5 c hc
theorem qqs {s:Yy} (h:q4f s=true):(∀c∈s,q0u c=true)/\s ≠ []/\s.length<=9:=by
 unfold q4f at h
 simp only [Bool.and_eq_true,decide_eq_true_eq] at h
 exact ⟨fun c hc=>List.all_eq_true.1 h.1 c hc,fun h0=>by have:=h.2.1;rw [h0] at this;simp at this,h.2.2.1⟩
theorem j6a {x:Yy} (h:q8s x=true) : ∃ a b,x=a++46::b/\q4f a=true/\q4f b=true:=by
 unfold q8s at h
 rw [Bool.and_eq_true] at h
 by_cases hm:(46:UInt8)∈x
 ·obtain ⟨a,b,hx,ha⟩:=List.eq_append_cons_of_mem hm
  have:=qr4 46 a b ha
  rw [hx,this.1,this.2] at h
  exact ⟨a,b,hx,h.1,h.2⟩
 ·have:q5r 46 x = []:=by unfold q5r;rw [if_pos (q6z 46 x hm)]
  rw [this] at h
  cases h.2
theorem j54 {x:Yy} (h:q8s x=true):plain x:=by
 obtain ⟨a,b,rfl,ha,hb⟩:=j6a h
 have ha:=qqs ha
 have hb:=qqs hb
 refine ⟨by simp,fun hd=>?_,fun c hc=>?_⟩
 ·cases a with
  | nil=>exact ha.2.1 rfl
  | cons d a =>
   simp only [List.cons_append,List.head?_cons,Option.some.injEq] at hd
   exact (qux d (j0u d (ha.1 d (List.mem_cons_self ..)))).2 hd
 ·rcases List.mem_append.1 hc with hc|hc
  ·exact (qux c (j0u c (ha.1 c hc))).1
  ·rcases List.mem_cons.1 hc with rfl|hc
   ·exact pl46
   ·exact (qux c (j0u c (hb.1 c hc))).1
theorem qm6 {c:UInt8} (h:plb c=true):Lx.q1b c=false/\Lx.isB c=false/\Lx.okc c=true:=by
 unfold plb at h
 simp only [Bool.and_eq_true,Bool.not_eq_true'] at h
 exact ⟨h.2.1,h.2.2,h.1⟩
theorem jbh (r:Yy) : ∀(w:Yy) (i:Nat) (ws:List Lx.Wd) (u:Yy) (p:Int),(∀c∈w,plb c=true)->Lx.q40 (w++r) i true (ws ++ [(u,p)])=Lx.q40 r (i+w.length) true (ws ++ [(u++w,p)])
 | [],i,ws,u,p,_=>by simp
 | c::w,i,ws,u,p,h=>by
  obtain ⟨h1,h2,_⟩:=qm6 (h c (List.mem_cons_self ..))
  rw [List.cons_append,Lx.q1o,h1,h2]
  simp only [Bool.false_eq_true,if_false,if_true]
  rw [Lx.q3q,jbh r w (i+1) ws (u ++ [c]) p (fun d hd=>h d (List.mem_cons_of_mem _ hd))]
  simp only [List.append_assoc,List.singleton_append,List.length_cons]
  congr 1;omega
theorem jfh {w:Yy} (hw:plain w) (r:Yy) (i:Nat) (ws:List Lx.Wd):Lx.q40 (w++r) i false ws=Lx.q40 r (i+w.length) true (ws ++ [(w,((i:Nat):Int))]):=by
 obtain ⟨h0,h1,h2⟩:=hw
 cases w with
 | nil=>exact absurd rfl h0
 | cons c w =>
  obtain ⟨g1,g2,_⟩:=qm6 (h2 c (List.mem_cons_self ..))
  have hp:Lx.pfx (c::(w++r))=false:=by
   have hc:c≠47:=fun h=>h1 (by rw [h];rfl)
   cases h:w++r with
   | nil=>rfl
   | cons b t=>simp [Lx.pfx,hc]
  rw [List.cons_append,Lx.q1o,g1,g2,hp]
  simp only [Bool.false_eq_true,if_false]
  rw [jbh r w (i+1) ws [c] _ (fun d hd=>h2 d (List.mem_cons_of_mem _ hd))]
  simp only [List.singleton_append,List.length_cons]
  congr 1;omega
theorem qc4 (c:UInt8) (hc:Lx.q1b c=false/\Lx.isB c=true) (r:Yy) (i:Nat) (op:Bool) (ws:List Lx.Wd):Lx.q40 (c::r) i op ws=Lx.q40 r (i+1) false ws:=by
 rw [Lx.q1o,hc.1,hc.2];simp
theorem qp4 (c:UInt8) (hc:Lx.q1b c=true) (r:Yy) (i:Nat) (op:Bool) (ws:List Lx.Wd):Lx.q40 (c::r) i op ws=Lx.q40 r (i+1) false (ws ++ [([c],((i:Nat):Int))]):=by
 rw [Lx.q1o,hc];simp
abbrev tx (ws:List Lx.Wd):List Yy:=ws.map Prod.fst
theorem jaf {w:Yy} (h:plain w) : ∀c∈w,Lx.okc c=true:=fun c hc=>(qm6 (h.2.2 c hc)).2.2
theorem jc9 {t:Yy} (h : ∀c∈t,Lx.okc c=true):(10:UInt8) ∉ t:=fun hc=>by
 have:=h 10 hc
 revert this;decide
theorem qnh : ∀(L:List Yy) (i:Nat) (out:List Lx.Ln),(∀t∈L,∀c∈t,Lx.okc c=true)->(Lx.q2w L i out).2.2=0
 | [],i,out,_=>rfl
 | t::L,i,out,h=>by
  rw [Lx.q2w,if_pos (List.all_eq_true.2 (h t (List.mem_cons_self ..)))]
  exact qnh L (i+1) _ fun x hx=>h x (List.mem_cons_of_mem _ hx)
theorem qmy : ∀(L:List Yy) (i:Nat) (out:List Lx.Ln),(Lx.q2w L i out).2.2=0->∀t∈L,∀c∈t,Lx.okc c=true
 | [],i,out,_,t,ht=>by cases ht
 | x::L,i,out,h,t,ht=>by
  rw [Lx.q2w] at h
  split at h
  ·rename_i hx
   rcases List.mem_cons.1 ht with rfl|ht
   ·exact fun c hc=>List.all_eq_true.1 hx c hc
   ·exact qmy L (i+1) _ h t ht
  ·cases h
def q04 (σ:MS) (c:Cl):Bool:=(q02 clT c σ.sd).isSome
def ps (st:Int) (w:Lx.Wd):Int×Int:=(st+w.2,st+w.2+((w.1.length:Nat):Int))
def qgw:List Lx.Wd->Nat
 | []=>0
 | w::r=>w.1.length+qgw r
theorem j1c {w:Lx.Wd} : ∀{ws:List Lx.Wd},w∈ws->w.1.length<=qgw ws
 | x::r,h=>by
  rcases List.mem_cons.1 h with rfl|h
  ·rw [qgw];omega
  ·have:=j1c h;rw [qgw];omega
theorem qi1 (p:Lx.Wd->Bool) : ∀ws:List Lx.Wd,qgw (ws.filter p)<=qgw ws
 | []=>Nat.le_refl _
 | x::r=>by
  have:=qi1 p r
  rw [List.filter_cons]
  split
  ·rw [qgw,qgw];omega
  ·rw [qgw];omega
inductive Step (σ:MS) (st:Int) (ws:List Lx.Wd):MS->Prop
 | mo (w:Lx.Wd) (hw:w∈ws) (h:okS w.1=true) (hc:q04 σ (qae,([],v0))=false):Step σ st ws { σ with mo:=w.1,sd:=q0x clT (qae,([],v0)) (ps st w) σ.sd }
 | go (w:Lx.Wd) (hw:w∈ws) (h:q8s w.1=true) (hc:q04 σ (kGo,([],v0))=false):Step σ st ws { σ with go:=w.1,sd:=q0x clT (kGo,([],v0)) (ps st w) σ.sd }
 | rq (x:Lx.Wd) (q:Rq) (hx:x∈ws) (hz:q.1.length+x.1.length<=qgw ws) (h:q3c q.1 q.2=true) (ht:q08 q.2=x.1) (hc:q04 σ (q0s,(q.1,v0))=false):Step σ st ws { σ with rq:=σ.rq ++ [q],sd:=q0x clT (q0s,(q.1,v0)) (ps st x) σ.sd }
 | ex (x:Lx.Wd) (q:Rq) (hx:x∈ws) (hz:q.1.length+x.1.length<=qgw ws) (h:q3c q.1 q.2=true) (ht:q08 q.2=x.1) (hc:q04 σ (q8p,(q.1,q.2))=false):Step σ st ws { σ with ex:=σ.ex ++ [q],sd:=q0x clT (q8p,(q.1,q.2)) (ps st x) σ.sd }
 | sw (x:Lx.Wd) (q:Sw) (hx:x∈ws) (hz:q.1.length+q.2.length<=qgw ws) (h:okS q.1=true) (h2:q3e q.2=true) (hc:q04 σ (q6h,(q.1,v0))=false):Step σ st ws { σ with sw:=σ.sw ++ [q],sd:=q0x clT (q6h,(q.1,v0)) (ps st x) σ.sd }
 | rt (x:Sp) (hz:(jo4 x).length<=qgw ws+4) (h:q0r (jhk x)=true) (h2:q0r (qze x)=true) (hc:j5w (jhk x) (qze x)<=0):Step σ st ws { σ with rt:=σ.rt ++ [x] }
theorem Step.mono {σ σ':MS} {st:Int} {ws ws':List Lx.Wd} (h:Step σ st ws σ') (h1 : ∀w∈ws,w∈ws') (h2:qgw ws<=qgw ws'):Step σ st ws' σ':=by
 cases h with
 | mo w hw h hc=>exact .mo w (h1 w hw) h hc
 | go w hw h hc=>exact .go w (h1 w hw) h hc
 | rq x q hx hz h ht hc=>exact .rq x q (h1 x hx) (by omega) h ht hc
 | ex x q hx hz h ht hc=>exact .ex x q (h1 x hx) (by omega) h ht hc
 | sw x q hx hz h h2 hc=>exact .sw x q (h1 x hx) (by omega) h h2 hc
 | rt x hz h h2 hc=>exact .rt x (by omega) h h2 hc
theorem q3k {σ σ':MS} {c:Cl} {st:Int} {w:Lx.Wd} (e:q0p σ c st w = .inr σ'):q04 σ c=false/\σ' = { σ with sd:=q0x clT c (ps st w) σ.sd }:=by
 unfold q0p at e
 unfold q04
 split at e
 ·cases e
 ·rename_i h
  cases e
  exact ⟨by simpa using h,rfl⟩
theorem qqk {p x:Yy} {q:Rq} (e:qe7 p x = .inr q):q.1=p/\q3c q.1 q.2=true/\q08 q.2=x:=by
 unfold qe7 at e
 split at e
 ·cases e
 ·split at e
  ·cases e
  ·split at e
   ·cases e
   ·rename_i h1 h2 h3
    cases e
    exact ⟨rfl,by simpa using h3,(qej (by simpa using h2)).2⟩
theorem jfl {σ σ':MS} {v:Yy} {ws:List Lx.Wd} {st:Int} (h2:v=q0s\/v=q8p\/v=q6h->∃ w x r,ws=w::x::r) (e:q8o σ st v ws = .inr σ'):Step σ st ws σ':=by
 unfold q8o at e
 split at e
 ·cases e
 ·rename_i w ws'
  have hw0:w∈w::ws':=List.mem_cons_self ..
  split at e
  ·split at e
   ·cases e
   ·rename_i h
    obtain ⟨hc,rfl⟩:=q3k e
    exact .mo w hw0 (by simpa using h) hc
  ·split at e
   ·split at e
    ·cases e
    ·rename_i h
     obtain ⟨hc,rfl⟩:=q3k e
     exact .go w hw0 (by simpa using h) hc
   ·split at e
    ·rename_i hv
     obtain ⟨w',x,r,hx⟩:=h2 (.inl hv)
     obtain ⟨rfl,rfl⟩:=List.cons.inj hx
     split at e
     ·cases e
     ·rename_i q hq
      obtain ⟨q1,q2,q3⟩:=qqk hq
      obtain ⟨hc,rfl⟩:=q3k e
      exact .rq x q (by simp) (by rw [q1,qgw,qgw];omega) q2 q3 hc
    ·split at e
     ·rename_i hv
      obtain ⟨w',x,r,hx⟩:=h2 (.inr (.inl hv))
      obtain ⟨rfl,rfl⟩:=List.cons.inj hx
      split at e
      ·cases e
      ·rename_i q hq
       obtain ⟨q1,q2,q3⟩:=qqk hq
       obtain ⟨hc,rfl⟩:=q3k e
       exact .ex x q (by simp) (by rw [q1,qgw,qgw];omega) q2 q3 hc
     ·split at e
      ·rename_i hv
       obtain ⟨w',x,r,hx⟩:=h2 (.inr (.inr hv))
       obtain ⟨rfl,rfl⟩:=List.cons.inj hx
       split at e
       ·cases e
       ·rename_i g1
        split at e
        ·cases e
        ·rename_i g2
         obtain ⟨hc,rfl⟩:=q3k e
         exact .sw x (w.1,x.1) (by simp) (by rw [qgw,qgw];show w.1.length+x.1.length<=_;omega) (by simpa using g1) (by simpa using g2) hc
      ·split at e
       ·cases e
       ·rename_i g1
        split at e
        ·cases e
        ·rename_i g2
         split at e
         ·cases e
         ·rename_i g3
          cases e
          obtain ⟨a1,a2⟩:=qej (s:=w.1) (by simpa using g1)
          obtain ⟨b1,b2⟩:=qej (s:=(ws'.getLast?.getD w).1) (by simpa using g2)
          refine .rt _ ?_ a1 b1 (by simpa [jia,jas] using g3)
          unfold jo4
          rw [jia,jas]
          split
          ·rw [a2,qgw];omega
          ·rename_i hne
           rw [a2,b2]
           cases ws' with
           | nil=>exact absurd rfl hne
           | cons y r =>
            have hm:(y::r).getLast?.getD w∈y::r:=by
             rw [List.getLast?_eq_some_getLast (List.cons_ne_nil _ _),Option.getD_some]
             exact List.getLast_mem _
            have:=j1c hm
            rw [qgw]
            simp only [List.length_cons,List.length_append,List.length_nil]
            omega
theorem qvc {σ σ':MS} {v:Yy} {ws:List Lx.Wd} {st:Int} (e:q4w σ st v ws = .inr σ'):Step σ st ws σ':=by
 unfold q4w at e
 split at e
 ·rename_i hm
  refine (jfl (fun hv=>?_) e).mono (fun w hw=>(List.mem_filter.1 hw).1) (qi1 _ ws)
  have:(unm ws).length=2:=by
   rcases hv with rfl|rfl|rfl
   ·exact q6m (k:=2) (List.mem_singleton.1 hm) (by decide) (by decide)
   ·exact q6m (k:=2) (List.mem_singleton.1 hm) (by decide) (by decide)
   ·exact q6m (k:=2) (List.mem_singleton.1 hm) (by decide) (by decide)
  obtain ⟨a,b,hab⟩:=jpv this
  exact ⟨a,b,[],hab⟩
 ·cases e
theorem qce {σ σ':MS} {ws:List Lx.Wd} {st:Int} (e:q3j σ st ws = .inr σ'):Step σ st ws σ' \/ ∃ b,σ' = { σ with bk:=b }:=by
 unfold q3j at e
 split at e
 ·cases e;exact .inr ⟨σ.bk,rfl⟩
 ·rename_i w ws'
  split at e
  ·split at e
   ·cases e;exact .inr ⟨w.1,rfl⟩
   ·exact .inl ((qvc e).mono (fun x hx=>List.mem_cons_of_mem _ hx) (by rw [qgw];omega))
  ·split at e
   ·cases e;exact .inr ⟨[],rfl⟩
   ·exact .inl (qvc e)
structure GoodM (σ:MS):Prop where
 mo:σ.mo = []\/okS σ.mo=true
 mc:q04 σ (qae,([],v0))=true↔σ.mo ≠ []
 go:σ.go = []\/q8s σ.go=true
 gk:q04 σ (kGo,([],v0))=true↔σ.go ≠ []
 rq : ∀q∈σ.rq,q3c q.1 q.2=true
 rk : ∀p,q04 σ (q0s,(p,v0))=true↔p∈σ.rq.map Prod.fst
 rn:(σ.rq.map Prod.fst).Nodup
 sw : ∀q∈σ.sw,okS q.1=true/\q3e q.2=true
 sk : ∀p,q04 σ (q6h,(p,v0))=true↔p∈σ.sw.map Prod.fst
 sn:(σ.sw.map Prod.fst).Nodup
 ex : ∀q∈σ.ex,q3c q.1 q.2=true
 ek : ∀q:Rq,q04 σ (q8p,(q.1,q.2))=true↔q∈σ.ex
 en:σ.ex.Nodup
 rt : ∀x∈σ.rt,q0r (jhk x)=true/\q0r (qze x)=true/\j5w (jhk x) (qze x)<=0
theorem joz (c:Cl) (P:Prop) (h : ¬ P):q04 ms0 c=true↔P:=⟨fun e=>(by cases e),fun p=>absurd p h⟩
theorem jix:GoodM ms0 where
 mo:=.inl rfl
 mc:=joz _ _ (fun h=>h rfl)
 go:=.inl rfl
 gk:=joz _ _ (fun h=>h rfl)
 rq:=fun q h=>by cases h
 rk:=fun p=>joz _ _ (fun h=>by cases h)
 rn:=List.nodup_nil
 sw:=fun q h=>by cases h
 sk:=fun p=>joz _ _ (fun h=>by cases h)
 sn:=List.nodup_nil
 ex:=fun q h=>by cases h
 ek:=fun p=>joz _ _ (fun h=>by cases h)
 en:=List.nodup_nil
 rt:=fun q h=>by cases h
theorem qvf (sd:jir) (c c':Cl) (v:Int×Int):(q02 clT c' (q0x clT c v sd)).isSome=true↔c'=c\/(q02 clT c' sd).isSome=true:=by
 rw [q29]
 cases h:eqT clT c' c with
 | true =>
  have:=(qgb c' c).1 h
  simp [this]
 | false =>
  have:c'≠c:=fun e=>by rw [(qgb c' c).2 e] at h;cases h
  simp [this]
theorem qer {β:Type} {l:List β} {a:β} (h:l.Nodup) (ha:a ∉ l):(l ++ [a]).Nodup:=by
 rw [List.nodup_append]
 exact ⟨h,by simp,fun x hx y hy e=>by rw [List.mem_singleton.1 hy] at e;rw [e] at hx;exact ha hx⟩
theorem ok_ne {p:Yy} (h:okS p=true):p ≠ []:=(jew h).1
theorem jj2 {p:Yy} (h:q8s p=true):p ≠ []:=(j54 h).1
theorem kd:qae≠kGo/\qae≠q0s/\qae≠q8p/\qae≠q6h/\kGo≠q0s/\kGo≠q8p/\kGo≠q6h/\q0s≠q8p/\q0s≠q6h/\q8p≠q6h:=by decide
theorem q0z {σ:MS} {a b:Yy} (h:a≠b) (x y:Yy×VD) (v:Int×Int):(q02 clT (a,x) (q0x clT (b,y) v σ.sd)).isSome=(q02 clT (a,x) σ.sd).isSome:=by
 rw [q2m (fun e=>h (congrArg Prod.fst e))]
theorem qnv {σ:MS} {c:Cl} {P:Prop} (h:q04 σ c=true↔P) (hc:q04 σ c=false) : ¬ P:=fun hp=>by rw [h.2 hp] at hc;cases hc
theorem jc5 {σ σ':MS} {ws:List Lx.Wd} {st:Int} (g:GoodM σ) (h:Step σ st ws σ'):GoodM σ':=by
 obtain ⟨d1,d2,d3,d4,d5,d6,d7,d8,d9,d10⟩:=kd
 cases h with
 | mo w hw h hc =>
  exact ⟨.inr h,by show (q02 clT _ _).isSome=true↔_;rw [qvf];simp [ok_ne h],g.go,by show (q02 clT _ _).isSome=true↔_;rw [q0z d1.symm];exact g.gk,g.rq,fun p=>by show (q02 clT _ _).isSome=true↔_;rw [q0z d2.symm];exact g.rk p,g.rn,g.sw,fun p=>by show (q02 clT _ _).isSome=true↔_;rw [q0z d4.symm];exact g.sk p,g.sn,g.ex,fun p=>by show (q02 clT _ _).isSome=true↔_;rw [q0z d3.symm];exact g.ek p,g.en,g.rt⟩
 | go w hw h hc =>
  exact ⟨g.mo,by show (q02 clT _ _).isSome=true↔_;rw [q0z d1];exact g.mc,.inr h,by show (q02 clT _ _).isSome=true↔_;rw [qvf];simp [jj2 h],g.rq,fun p=>by show (q02 clT _ _).isSome=true↔_;rw [q0z d5.symm];exact g.rk p,g.rn,g.sw,fun p=>by show (q02 clT _ _).isSome=true↔_;rw [q0z d7.symm];exact g.sk p,g.sn,g.ex,fun p=>by show (q02 clT _ _).isSome=true↔_;rw [q0z d6.symm];exact g.ek p,g.en,g.rt⟩
 | rq x q hx hz h ht hc =>
  refine ⟨g.mo,by show (q02 clT _ _).isSome=true↔_;rw [q0z d2];exact g.mc,g.go,by show (q02 clT _ _).isSome=true↔_;rw [q0z d5];exact g.gk,fun y hy=>?_,fun p=>?_,?_,g.sw,fun p=>by show (q02 clT _ _).isSome=true↔_;rw [q0z d9.symm];exact g.sk p,g.sn,g.ex,fun p=>by show (q02 clT _ _).isSome=true↔_;rw [q0z d8.symm];exact g.ek p,g.en,g.rt⟩
  ·rcases List.mem_append.1 hy with hy|hy
   ·exact g.rq y hy
   ·rw [List.mem_singleton.1 hy];exact h
  ·show (q02 clT _ _).isSome=true↔_
   rw [qvf]
   have:=g.rk p
   unfold q04 at this
   rw [this,List.map_append,List.mem_append]
   simp [or_comm]
  ·show ((σ.rq ++ [q]).map Prod.fst).Nodup
   rw [List.map_append]
   exact qer g.rn (qnv (g.rk q.1) hc)
 | ex x q hx hz h ht hc =>
  refine ⟨g.mo,by show (q02 clT _ _).isSome=true↔_;rw [q0z d3];exact g.mc,g.go,by show (q02 clT _ _).isSome=true↔_;rw [q0z d6];exact g.gk,g.rq,fun p=>by show (q02 clT _ _).isSome=true↔_;rw [q0z d8];exact g.rk p,g.rn,g.sw,fun p=>by show (q02 clT _ _).isSome=true↔_;rw [q0z d10.symm];exact g.sk p,g.sn,fun y hy=>?_,fun p=>?_,?_,g.rt⟩
  ·rcases List.mem_append.1 hy with hy|hy
   ·exact g.ex y hy
   ·rw [List.mem_singleton.1 hy];exact h
  ·show (q02 clT _ _).isSome=true↔_
   rw [qvf]
   have:=g.ek p
   unfold q04 at this
   rw [this,List.mem_append]
   obtain ⟨p1,p2⟩:=p
   obtain ⟨q1,q2⟩:=q
   simp [or_comm]
  ·exact qer g.en (qnv (g.ek q) hc)
 | sw x q hx hz h h2 hc =>
  refine ⟨g.mo,by show (q02 clT _ _).isSome=true↔_;rw [q0z d4];exact g.mc,g.go,by show (q02 clT _ _).isSome=true↔_;rw [q0z d7];exact g.gk,g.rq,fun p=>by show (q02 clT _ _).isSome=true↔_;rw [q0z d9];exact g.rk p,g.rn,fun y hy=>?_,fun p=>?_,?_,g.ex,fun p=>by show (q02 clT _ _).isSome=true↔_;rw [q0z d10];exact g.ek p,g.en,g.rt⟩
  ·rcases List.mem_append.1 hy with hy|hy
   ·exact g.sw y hy
   ·rw [List.mem_singleton.1 hy];exact ⟨h,h2⟩
  ·show (q02 clT _ _).isSome=true↔_
   rw [qvf]
   have:=g.sk p
   unfold q04 at this
   rw [this,List.map_append,List.mem_append]
   simp [or_comm]
  ·show ((σ.sw ++ [q]).map Prod.fst).Nodup
   rw [List.map_append]
   exact qer g.sn (qnv (g.sk q.1) hc)
 | rt x hz h h2 hc =>
  refine ⟨g.mo,g.mc,g.go,g.gk,g.rq,g.rk,g.rn,g.sw,g.sk,g.sn,g.ex,g.ek,g.en,fun y hy=>?_⟩
  rcases List.mem_append.1 hy with hy|hy
  ·exact g.rt y hy
  ·rw [List.mem_singleton.1 hy];exact ⟨h,h2,hc⟩
theorem jkc {σ:MS} (g:GoodM σ) (b:Yy):GoodM { σ with bk:=b }:=⟨g.mo,g.mc,g.go,g.gk,g.rq,g.rk,g.rn,g.sw,g.sk,g.sn,g.ex,g.ek,g.en,g.rt⟩
theorem qcc {σ σ':MS} {ws:List Lx.Wd} {st:Int} (g:GoodM σ) (e:q3j σ st ws = .inr σ'):GoodM σ':=by
 rcases qce e with h|⟨b,rfl⟩
 ·exact jc5 g h
 ·exact jkc g b
theorem qvl : ∀(ls:List Yy) (i st:Int) (σ σ':MS),GoodM σ->q1v ls i st σ = .inr σ'->GoodM σ'
 | [],i,st,σ,σ',g,e=>by cases e;exact g
 | t::ts,i,st,σ,σ',g,e=>by
  rw [q1v] at e
  split at e
  ·cases e
  ·rename_i σ1 h1
   exact qvl ts _ _ σ1 σ' (qcc g h1) e
def jdn (σ σ':MS):Prop:=(σ.mo ≠ []->σ'.mo=σ.mo)/\(σ.go ≠ []->σ'.go=σ.go)/\σ.rq <+: σ'.rq/\σ.sw <+: σ'.sw/\σ.ex <+: σ'.ex/\σ.rt <+: σ'.rt
theorem jdn.rfl' (σ:MS):jdn σ σ:=⟨fun _=>rfl,fun _=>rfl,List.prefix_rfl,List.prefix_rfl,List.prefix_rfl,List.prefix_rfl⟩
theorem jdn.trans {a b c:MS} (h1:jdn a b) (h2:jdn b c):jdn a c:=by
 obtain ⟨a1,a2,a3,a4,a5,a6⟩:=h1
 obtain ⟨b1,b2,b3,b4,b5,b6⟩:=h2
 exact ⟨fun h=>(b1 (by rw [a1 h];exact h)).trans (a1 h),fun h=>(b2 (by rw [a2 h];exact h)).trans (a2 h),a3.trans b3,a4.trans b4,a5.trans b5,a6.trans b6⟩
theorem jd7 {σ σ':MS} {ws:List Lx.Wd} {st:Int} (g:GoodM σ) (e:q3j σ st ws = .inr σ'):jdn σ σ':=by
 rcases qce e with h|⟨b,rfl⟩
 ·have p:=fun {β:Type} (l:List β) (x:β)=>List.prefix_append l [x]
  cases h with
  | mo w hw h hc=>exact ⟨fun hm=>absurd hm (qnv g.mc hc),fun _=>rfl,List.prefix_rfl,List.prefix_rfl,List.prefix_rfl,List.prefix_rfl⟩
  | go w hw h hc=>exact ⟨fun _=>rfl,fun hm=>absurd hm (qnv g.gk hc),List.prefix_rfl,List.prefix_rfl,List.prefix_rfl,List.prefix_rfl⟩
  | rq x q hx hz h ht hc=>exact ⟨fun _=>rfl,fun _=>rfl,p _ _,List.prefix_rfl,List.prefix_rfl,List.prefix_rfl⟩
  | ex x q hx hz h ht hc=>exact ⟨fun _=>rfl,fun _=>rfl,List.prefix_rfl,List.prefix_rfl,p _ _,List.prefix_rfl⟩
  | sw x q hx hz h h2 hc=>exact ⟨fun _=>rfl,fun _=>rfl,List.prefix_rfl,p _ _,List.prefix_rfl,List.prefix_rfl⟩
  | rt x hz h h2 hc=>exact ⟨fun _=>rfl,fun _=>rfl,List.prefix_rfl,List.prefix_rfl,List.prefix_rfl,p _ _⟩
 ·exact jdn.rfl' σ
theorem qtb : ∀(ls:List Yy) (i st:Int) (σ σ':MS),GoodM σ->q1v ls i st σ = .inr σ'->jdn σ σ'
 | [],i,st,σ,σ',g,e=>by cases e;exact jdn.rfl' σ
 | t::ts,i,st,σ,σ',g,e=>by
  rw [q1v] at e
  split at e
  ·cases e
  ·rename_i σ1 h1
   exact (jd7 g h1).trans (qtb ts _ _ σ1 σ' (qcc g h1) e)
set_option synthInstance.maxSize 100000
set_option synthInstance.maxHeartbeats 0
theorem qp1 {p x:Yy} {e:Int} (h:qe7 p x = .inl e):e≠0:=by
 unfold qe7 at h
 split at h
 ·cases h;decide
 ·split at h
  ·cases h;decide
  ·split at h<;>cases h;decide
theorem q8x {σ:MS} {c:Cl} {st:Int} {w:Lx.Wd} {e:Int} (h:q0p σ c st w = .inl e):e≠0:=by
 unfold q0p at h
 split at h<;>cases h;decide
theorem jkg {σ:MS} {v:Yy} {ws:List Lx.Wd} {st e:Int} (h:q8o σ st v ws = .inl e):e≠0:=by
 unfold q8o at h
 split at h
 ·cases h;decide
 ·split at h
  ·split at h
   ·cases h;decide
   ·exact q8x h
  ·split at h
   ·split at h
    ·cases h;decide
    ·exact q8x h
   ·split at h
    ·split at h
     ·rename_i hq;cases h;exact qp1 hq
     ·exact q8x h
    ·split at h
     ·split at h
      ·rename_i hq;cases h;exact qp1 hq
      ·exact q8x h
     ·split at h
      ·split at h
       ·cases h;decide
       ·split at h
        ·cases h;decide
        ·exact q8x h
      ·split at h
       ·cases h;decide
       ·split at h
        ·cases h;decide
        ·split at h<;>cases h;decide
theorem j01 {σ:MS} {v:Yy} {ws:List Lx.Wd} {st e:Int} (h:q4w σ st v ws = .inl e):e≠0:=by
 unfold q4w at h
 split at h
 ·exact jkg h
 ·cases h;decide
theorem j2p {σ:MS} {ws:List Lx.Wd} {st e:Int} (h:q3j σ st ws = .inl e):e≠0:=by
 unfold q3j at h
 split at h
 ·cases h
 ·split at h
  ·split at h
   ·cases h
   ·exact j01 h
  ·split at h
   ·cases h
   ·exact j01 h
theorem qtd : ∀(ls:List Yy) (i st:Int) (σ:MS) (e:Int×Int),q1v ls i st σ = .inl e->e.2≠0
 | [],i,st,σ,e,h=>by cases h
 | t::ts,i,st,σ,e,h=>by
  rw [q1v] at h
  split at h
  ·rename_i h1;cases h;exact j2p h1
  ·exact qtd ts _ _ _ e h
structure IsM (s:Yy) (σ:MS):Prop where
 okc : ∀t∈Lx.q0a s,∀c∈t,Lx.okc c=true
 rd:q1v (Lx.q0a s) 0 0 ms0 = .inr σ
 bk:σ.bk = []
 mo:σ.mo ≠ []
theorem j9s {s:Yy} {σ:MS} {k:Int} (h:q9e s = .inr (σ,k)):IsM s σ/\k=(((Lx.q0a s).length:Nat):Int):=by
 unfold q9e at h
 split at h
 ·cases h
 ·rename_i h0
  split at h
  ·cases h
  ·rename_i σ1 h1
   split at h
   ·cases h
   ·rename_i h2
    split at h
    ·cases h
    ·rename_i h3
     cases h
     exact ⟨⟨qmy _ 0 [] (by simpa using h0),h1,by simpa using h2,h3⟩,rfl⟩
theorem qqp {s:Yy} {σ:MS} (h:IsM s σ):q9e s = .inr (σ,(((Lx.q0a s).length:Nat):Int)):=by
 unfold q9e
 rw [if_neg (by simpa using qnh _ 0 [] h.okc),h.rd]
 simp only [h.bk,h.mo,ne_eq,not_true_eq_false,if_false]
theorem qpr {s:Yy} {σ:MS} (h:IsM s σ):q6v s=(σ.md,((((Lx.q0a s).length:Nat):Int),0)):=by unfold q6v;rw [qqp h]
theorem jf8 {s:Yy} (h:(q6v s).2.2=0) : ∃ σ,IsM s σ:=by
 cases hr:q9e s with
 | inr x=>exact ⟨x.1,(j9s (k:=x.2) hr).1⟩
 | inl e =>
  exfalso
  have h':e.2=0:=by unfold q6v at h;rw [hr] at h;exact h
  unfold q9e at hr
  split at hr
  ·rename_i h0;cases hr;exact h0 h'
  ·split at hr
   ·rename_i h1;cases hr;exact qtd _ _ _ _ _ h1 h'
   ·split at hr
    ·cases hr;exact absurd (show (10:Int)=0 from h') (by decide)
    ·split at hr
     ·cases hr;exact absurd (show (5:Int)=0 from h') (by decide)
     ·cases hr
theorem IsM.good {s:Yy} {σ:MS} (h:IsM s σ):GoodM σ:=qvl _ _ _ _ _ jix h.rd
theorem ql7 (a:Yy) (c:UInt8):Lx.q6j (a ++ [c])=decide (c=10):=by
 unfold Lx.q6j
 by_cases h:c=10<;>simp [h]
theorem j6z (a:Yy):Lx.q0a (a ++ [10])=spl 10 [] a:=by
 unfold Lx.q0a
 rw [if_neg (by simp),ql7,decide_eq_true rfl,if_pos rfl,List.dropLast_concat]
set_option synthInstance.maxSize 100000
set_option synthInstance.maxHeartbeats 0
def Sm (σ τ:MS):Prop:=σ.md=τ.md/\∀c,q04 σ c=q04 τ c
theorem Sm.mo {σ τ:MS} (h:Sm σ τ):σ.mo=τ.mo:=congrArg (fun m:MD=>m.1) h.1
theorem Sm.rfl' (σ:MS):Sm σ σ:=⟨rfl,fun _=>rfl⟩
def jp3 (b1 b2:Yy):Int⊕MS->Int⊕MS->Prop
 | .inl e,.inl e'=>e=e'
 | .inr σ,.inr τ=>Sm σ τ/\σ.bk=b1/\τ.bk=b2
 | _,_=>False
theorem q94 {σ τ:MS} {b1 b2:Yy} (h:Sm σ τ) (h1:σ.bk=b1) (h2:τ.bk=b2) (c:Cl) (st st':Int) (w w':Lx.Wd):jp3 b1 b2 (q0p σ c st w) (q0p τ c st' w'):=by
 have hc:=h.2 c
 unfold q04 at hc
 unfold q0p
 rw [hc]
 cases (q02 clT c τ.sd).isSome with
 | true=>rfl
 | false =>
  refine ⟨⟨h.1,fun c'=>?_⟩,h1,h2⟩
  have h3:=h.2 c'
  unfold q04 at h3 ⊢
  show (q02 clT c' (q0x clT c _ σ.sd)).isSome=(q02 clT c' (q0x clT c _ τ.sd)).isSome
  rw [q29,q29]
  cases eqT clT c' c with
  | true=>rfl
  | false=>exact h3
theorem jd0 : ∀(r r':List Lx.Wd) (w w':Lx.Wd),w.1=w'.1->tx r=tx r'->(r.getLast?.getD w).1=(r'.getLast?.getD w').1
 | [],[],w,w',h,_=>h
 | [],_::_,_,_,_,h=>by cases h
 | _::_,[],_,_,_,h=>by cases h
 | a::r,b::r',w,w',h,e=>by
  obtain ⟨h1,h2⟩:=List.cons.inj e
  rw [List.getLast?_cons,List.getLast?_cons]
  exact jd0 r r' a b h1 h2
theorem jea {r r':List Lx.Wd} (h:tx r=tx r'):(r.headD ([],0)).1=(r'.headD ([],0)).1:=by
 cases r<;>cases r'<;>first|rfl|cases h|exact (List.cons.inj h).1
theorem jld {σ τ:MS} {b1 b2:Yy} (h:Sm σ τ) (h1:σ.bk=b1) (h2:τ.bk=b2) (v:Yy) (st st':Int) {ws ws':List Lx.Wd} (hw:tx ws=tx ws'):jp3 b1 b2 (q8o σ st v ws) (q8o τ st' v ws'):=by
 obtain ⟨m1,g1,k1,s1,r1,w1,e1,t1⟩:=σ
 obtain ⟨m2,g2,k2,s2,r2,w2,e2,t2⟩:=τ
 have hc:=h.2
 have hm:=h.1
 simp only [MS.md,Prod.mk.injEq] at hm
 obtain ⟨rfl,rfl,rfl,rfl,rfl,rfl⟩:=hm
 cases ws with
 | nil =>
  cases ws' with
  | nil=>rfl
  | cons=>cases hw
 | cons w r =>
  cases ws' with
  | nil=>cases hw
  | cons w' r' =>
   obtain ⟨e0,e9⟩:=List.cons.inj hw
   have e1':=jea e9
   have e2':=jd0 r r' w w' e0 e9
   unfold q8o
   simp only [e0,e1',e2']
   split
   ·split
    ·rfl
    ·exact q94 (by exact ⟨rfl,hc⟩) (by exact h1) (by exact h2) _ _ _ _ _
   ·split
    ·split
     ·rfl
     ·exact q94 (by exact ⟨rfl,hc⟩) (by exact h1) (by exact h2) _ _ _ _ _
    ·split
     ·split
      ·rfl
      ·exact q94 (by exact ⟨rfl,hc⟩) (by exact h1) (by exact h2) _ _ _ _ _
     ·split
      ·split
       ·rfl
       ·exact q94 (by exact ⟨rfl,hc⟩) (by exact h1) (by exact h2) _ _ _ _ _
      ·split
       ·split
        ·rfl
        ·split
         ·rfl
         ·exact q94 (by exact ⟨rfl,hc⟩) (by exact h1) (by exact h2) _ _ _ _ _
       ·split
        ·rfl
        ·split
         ·rfl
         ·split
          ·rfl
          ·exact ⟨⟨rfl,hc⟩,h1,h2⟩
theorem ja1 {ws ws':List Lx.Wd} (h:tx ws=tx ws'):shp ws=shp ws':=by
 have e : ∀ws:List Lx.Wd,ws.map qbe=(tx ws).map fun t=>if q2x t then t else [120]:=fun ws=>by simp [qbe,Function.comp_def]
 unfold shp
 rw [e,e,h]
theorem jim : ∀{ws ws':List Lx.Wd},tx ws=tx ws'->tx (unm ws)=tx (unm ws')
 | [],[],_=>rfl
 | [],_::_,h=>by cases h
 | _::_,[],h=>by cases h
 | a::r,b::r',h=>by
  obtain ⟨h1,h2⟩:=List.cons.inj h
  have ih:=jim h2
  unfold unm at ih ⊢
  rw [List.filter_cons,List.filter_cons,h1]
  split
  ·show a.1::tx _=b.1::tx _
   rw [ih,h1]
  ·exact ih
theorem j15 {σ τ:MS} {b1 b2:Yy} (h:Sm σ τ) (h1:σ.bk=b1) (h2:τ.bk=b2) (v:Yy) (st st':Int) {ws ws':List Lx.Wd} (hw:tx ws=tx ws'):jp3 b1 b2 (q4w σ st v ws) (q4w τ st' v ws'):=by
 unfold q4w
 rw [ja1 hw]
 split
 ·exact jld h h1 h2 v st st' (jim hw)
 ·rfl
def RelL:Int⊕MS->Int⊕MS->Prop
 | .inl e,.inl e'=>e=e'
 | .inr σ,.inr τ=>Sm σ τ/\σ.bk=τ.bk
 | _,_=>False
theorem jp3.toL {b:Yy} {x y:Int⊕MS} (h:jp3 b b x y):RelL x y:=by
 cases x<;>cases y
 ·exact h
 ·exact h
 ·exact h
 ·exact ⟨h.1,h.2.1.trans h.2.2.symm⟩
theorem jfp {σ τ:MS} (h:Sm σ τ) (hb:σ.bk=τ.bk) (st st':Int) {ws ws':List Lx.Wd} (hw:tx ws=tx ws'):RelL (q3j σ st ws) (q3j τ st' ws'):=by
 cases ws with
 | nil =>
  cases ws' with
  | nil=>exact ⟨h,hb⟩
  | cons=>cases hw
 | cons w r =>
  cases ws' with
  | nil=>cases hw
  | cons w' r' =>
   obtain ⟨e0,e9⟩:=List.cons.inj hw
   unfold q3j
   have q1:=ja1 hw
   have q2:=ja1 e9
   simp only [q1,q2,hb,e0]
   split
   ·split
    ·exact ⟨⟨h.1,h.2⟩,rfl⟩
    ·exact (j15 h hb rfl _ st st' e9).toL
   ·split
    ·exact ⟨⟨h.1,h.2⟩,rfl⟩
    ·exact (j15 h hb rfl _ st st' hw).toL
inductive Lns:List Yy->List Yy->Prop
 | nil:Lns [] []
 | both {a b:Yy} {r r':List Yy} (h:tx (q0w a)=tx (q0w b)) (hr:Lns r r'):Lns (a::r) (b::r')
 | more {b:Yy} {r r':List Yy} (h:q0w b = []) (hr:Lns r r'):Lns r (b::r')
theorem Lns.read {L L':List Yy} (h:Lns L L') : ∀(i i' st st':Int) (σ τ σ':MS),Sm σ τ->σ.bk=τ.bk->q1v L i st σ = .inr σ'->∃ τ',q1v L' i' st' τ = .inr τ'/\Sm σ' τ'/\σ'.bk=τ'.bk:=by
 induction h with
 | nil=>intro i i' st st' σ τ σ' h1 h2 e;cases e;exact ⟨τ,rfl,h1,h2⟩
 | both h hr ih =>
  intro i i' st st' σ τ σ' h1 h2 e
  have hl:=jfp h1 h2 st st' h
  rw [q1v] at e ⊢
  split at e
  ·cases e
  ·rename_i σ1 hs
   rw [hs] at hl
   split
   ·rename_i e' he';rw [he'] at hl;exact absurd hl id
   ·rename_i τ1 ht
    rw [ht] at hl
    exact ih _ _ _ _ _ _ _ hl.1 hl.2 e
 | more h hr ih =>
  intro i i' st st' σ τ σ' h1 h2 e
  rw [q1v,h]
  exact ih _ _ _ _ _ _ _ h1 h2 e
theorem Sm.bk {σ τ:MS} (h:Sm σ τ) (b:Yy):Sm σ { τ with bk:=b }:=⟨h.1,h.2⟩
theorem j3q {p:Yy} (h:q3e p=true) : ∀c∈p,c=47\/q7t c=true:=by
 have h2:=(qa3 h).2
 have h3:(spl 47 [] p).all (fun w=>w.all q7t)=true:=by
  rw [List.all_eq_true] at h2 ⊢
  exact fun w hw=>j0v (h2 w hw)
 exact ((qk5 47 q7t p []).1 h3).2
def word (w:Yy):Prop:=plain w/\q2x w=false
theorem j9h {w:Yy} (h:plain w) (h2:w ≠ [61,62]):word w:=by
 refine ⟨h,?_⟩
 cases hm:q2x w with
 | false=>rfl
 | true =>
  exfalso
  rcases qai hm with e|e|e|e|e|e
  ·exact h2 e
  all_goals (rw [e] at h;exact absurd (h.2.2 _ (List.mem_cons_self ..)) (by decide))
theorem j8g {p:Yy} (h:q3e p=true):word p:=j9h (qo8 h) fun e=>by
 rcases j3q h 61 (by rw [e];decide) with h1|h1
 ·exact absurd h1 (by decide)
 ·exact absurd h1 (by decide)
theorem j97 {p:Yy} (h:okS p=true):word p:=j8g (qk3 h).1
theorem q5f {v:VD} (h:q0r v=true):word (q08 v):=j9h (j53 h) fun e=>by
 unfold q08 at e
 rw [if_pos h] at e
 exact absurd (List.cons.inj e).1 (by decide)
theorem q4k {p:Yy} {v:VD} (h:q3c p v=true):okS p=true/\q0r v=true:=by
 unfold q3c at h
 simp only [Bool.and_eq_true] at h
 exact ⟨h.1,h.2.1⟩
theorem j5z {v:VD} (h:q0r v=true):q09 (q08 v)=(v,true):=j0h h rfl
theorem ji4 {ws:List Lx.Wd} {L:List Yy} (h:tx ws=L):shp ws=Lib.join (L.map fun t=>if q2x t then t else [120]) [32]:=by
 unfold shp
 rw [<-h]
 congr 1
 simp [qbe,Function.comp_def]
theorem jex {p:Yy} {v:VD} (h:q3c p v=true):qe7 p (q08 v) = .inr (p,v):=by
 obtain ⟨h1,h2⟩:=q4k h
 unfold qe7
 rw [j5z h2,h1,h]
 rfl
theorem j7t:Lib.join [[(120:UInt8)],[120]] [32] = [120,32,120]:=by decide
theorem q7k {σ:MS} {c:Cl} {st:Int} {w:Lx.Wd} (h:q04 σ c=false):q0p σ c st w = .inr { σ with sd:=q0x clT c (ps st w) σ.sd }:=by
 unfold q04 at h
 unfold q0p
 rw [h];rfl
end Go.Proofs.YtapfankgdkdkgaaGreatDoor.AM
