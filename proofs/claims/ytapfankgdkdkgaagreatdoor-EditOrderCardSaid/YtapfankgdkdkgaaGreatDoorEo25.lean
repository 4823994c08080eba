
import Derived.Test.YtapfankgdkdkgaaGreatDoorEo24
set_option linter.unusedVariables false
set_option linter.unusedSimpArgs false
namespace Go.Proofs.YtapfankgdkdkgaaGreatDoor.AM
open Go.RowKit
set_option synthInstance.maxSize 100000
set_option synthInstance.maxHeartbeats 0
def jod (x:Sp):Yy:=if jjb x=qzy x then q08 (jjb x) else 91::(q08 (jjb x)++44::32::(q08 (qzy x) ++ [93]))
theorem qr1 (v:VD):(q08 v).length<=92:=by
 unfold q08
 split
 ·exact jmo ‹_›
 ·simp
theorem jjx {s t:Yy} (h:s.length+t.length<=9223372036854775807):q9w s t=some (s++t):=by unfold q9w;rw [if_pos h]
theorem ML.mono {k j:Nat} {m:MD} (h:ML k m) (hj:k<=j):ML j m:=by unfold ML at *;omega
end Go.Proofs.YtapfankgdkdkgaaGreatDoor.AM
namespace Go.Proofs.YtapfankgdkdkgaaGreatDoor.AM
open Go.RowKit
def plb (c:UInt8):Bool:=Lx.okc c&&(!Lx.q2z c && !Lx.isB c)
def plain (w:Yy):Prop:=w ≠ []/\w.head? ≠ some 47/\∀c∈w,plb c=true
theorem qxr (c:UInt8) (h:qs7 c=true):plb c=true/\c≠47:=by
 have h1 : ∀i:Fin 256,qs7 (UInt8.ofNat i.1)=true->plb (UInt8.ofNat i.1)=true/\UInt8.ofNat i.1≠47:=by decide +kernel
 have:=h1 ⟨c.toNat,c.toNat_lt⟩
 simpa [h] using this
theorem j2d (c:UInt8) (h:q29 c=true):qs7 c=true:=by unfold qs7;rw [h];simp
theorem pl46:plb 46=true:=by decide
theorem pl47:plb 47=true:=by decide
theorem jco (c:UInt8) (h:qcf c=true):plb c=true/\c≠47:=by
 have h1 : ∀i:Fin 256,qcf (UInt8.ofNat i.1)=true->plb (UInt8.ofNat i.1)=true/\UInt8.ofNat i.1≠47:=by decide +kernel
 have:=h1 ⟨c.toNat,c.toNat_lt⟩
 simpa [h] using this
theorem j2k {w:Yy} (h:qe3 w=true):w.all qcf=true:=by
 unfold qe3 at h
 simp only [Bool.and_eq_true] at h
 exact h.2.2.2
theorem qnw {p:Yy} (h:q5b p=true):plain p:=by
 have h2:=(qp7 h).2
 refine ⟨jm8 h,fun hd=>?_,fun c hc=>?_⟩
 ·cases p with
  | nil=>cases hd
  | cons a r =>
   simp only [List.head?_cons,Option.some.injEq] at hd
   subst hd
   rw [spl,if_pos rfl,List.all_cons,show qe3 []=false from rfl] at h2
   cases h2
 ·have h3:(spl 47 [] p).all (fun w=>w.all qcf)=true:=by
   rw [List.all_eq_true] at h2 ⊢
   exact fun w hw=>j2k (h2 w hw)
  rcases ((qki 47 qcf p []).1 h3).2 c hc with rfl|h4
  ·exact pl47
  ·exact (jco c h4).1
theorem jib {p:Yy} (h:okS p=true):plain p:=qnw (ja1 h).1
theorem qq0 {i:Int} (h:0<=i) : ∀c∈Lib.itoa i,plb c=true:=by
 rw [q3g h]
 intro c hc
 exact (qxr c (j2d c (List.all_eq_true.1 (qyq i.toNat).1 c hc))).1
theorem qt8 {d:UInt8} (hd:plb d=true) {p:Yy->Bool} (hp : ∀w,p w=true->w.all qs7=true) {s:Yy} (h:q50 p s=true) : ∀c∈q5d d s,plb c=true:=by
 unfold q5d
 split
 ·intro c hc;cases hc
 ·intro c hc
  rcases List.mem_cons.1 hc with rfl|hc
  ·exact hd
  ·rcases j1n hp h c hc with rfl|h1
   ·exact pl46
   ·exact (qxr c h1).1
theorem j7i {v:VD} (h:q1g v=true):plain (q08 v):=by
 obtain ⟨h1,h2,h3,h4,h5⟩:=q2t h
 unfold q08
 rw [if_pos h]
 unfold jj1
 refine ⟨by simp,by simp,fun c hc=>?_⟩
 simp only [List.mem_cons,List.mem_append] at hc
 rcases hc with rfl|hc|rfl|hc|rfl|hc|hc|hc
 ·decide
 ·exact qq0 h1.1 c hc
 ·exact pl46
 ·exact qq0 h2.1 c hc
 ·exact pl46
 ·exact qq0 h3.1 c hc
 ·exact qt8 (by decide) qun h4 c hc
 ·exact qt8 (by decide) qpl h5 c hc
theorem j3q {s:Yy} (h:qdb s=true):(∀c∈s,q29 c=true)/\s ≠ []/\s.length<=9:=by
 unfold qdb at h
 simp only [Bool.and_eq_true,decide_eq_true_eq] at h
 exact ⟨fun c hc=>List.all_eq_true.1 h.1 c hc,fun h0=>by have:=h.2.1;rw [h0] at this;simp at this,h.2.2.1⟩
theorem j6f {x:Yy} (h:qg6 x=true) : ∃ a b,x=a++46::b/\qdb a=true/\qdb b=true:=by
 unfold qg6 at h
 rw [Bool.and_eq_true] at h
 by_cases hm:(46:UInt8)∈x
 ·obtain ⟨a,b,hx,ha⟩:=List.eq_append_cons_of_mem hm
  have:=j1d 46 a b ha
  rw [hx,this.1,this.2] at h
  exact ⟨a,b,hx,h.1,h.2⟩
 ·have:qaa 46 x = []:=by unfold qaa;rw [if_pos (qei 46 x hm)]
  rw [this] at h
  cases h.2
theorem j61 {x:Yy} (h:qg6 x=true):plain x:=by
 obtain ⟨a,b,rfl,ha,hb⟩:=j6f h
 have ha:=j3q ha
 have hb:=j3q hb
 refine ⟨by simp,fun hd=>?_,fun c hc=>?_⟩
 ·cases a with
  | nil=>exact ha.2.1 rfl
  | cons d a =>
   simp only [List.cons_append,List.head?_cons,Option.some.injEq] at hd
   exact (qxr d (j2d d (ha.1 d (List.mem_cons_self ..)))).2 hd
 ·rcases List.mem_append.1 hc with hc|hc
  ·exact (qxr c (j2d c (ha.1 c hc))).1
  ·rcases List.mem_cons.1 hc with rfl|hc
   ·exact pl46
   ·exact (qxr c (j2d c (hb.1 c hc))).1
theorem qkl {c:UInt8} (h:plb c=true):Lx.q2z c=false/\Lx.isB c=false/\Lx.okc c=true:=by
 unfold plb at h
 simp only [Bool.and_eq_true,Bool.not_eq_true'] at h
 exact ⟨h.2.1,h.2.2,h.1⟩
theorem jcc (r:Yy) : ∀(w:Yy) (i:Nat) (ws:List Lx.Wd) (u:Yy) (p:Int),(∀c∈w,plb c=true)->Lx.q3h (w++r) i true (ws ++ [(u,p)])=Lx.q3h r (i+w.length) true (ws ++ [(u++w,p)])
 | [],i,ws,u,p,_=>by simp
 | c::w,i,ws,u,p,h=>by
  obtain ⟨h1,h2,_⟩:=qkl (h c (List.mem_cons_self ..))
  rw [List.cons_append,Lx.q1h,h1,h2]
  simp only [Bool.false_eq_true,if_false,if_true]
  rw [Lx.q42,jcc r w (i+1) ws (u ++ [c]) p (fun d hd=>h d (List.mem_cons_of_mem _ hd))]
  simp only [List.append_assoc,List.singleton_append,List.length_cons]
  congr 1;omega
theorem jf8 {w:Yy} (hw:plain w) (r:Yy) (i:Nat) (ws:List Lx.Wd):Lx.q3h (w++r) i false ws=Lx.q3h r (i+w.length) true (ws ++ [(w,((i:Nat):Int))]):=by
 obtain ⟨h0,h1,h2⟩:=hw
 cases w with
 | nil=>exact absurd rfl h0
 | cons c w =>
  obtain ⟨g1,g2,_⟩:=qkl (h2 c (List.mem_cons_self ..))
  have hp:Lx.pfx (c::(w++r))=false:=by
   have hc:c≠47:=fun h=>h1 (by rw [h];rfl)
   cases h:w++r with
   | nil=>rfl
   | cons b t=>simp [Lx.pfx,hc]
  rw [List.cons_append,Lx.q1h,g1,g2,hp]
  simp only [Bool.false_eq_true,if_false]
  rw [jcc r w (i+1) ws [c] _ (fun d hd=>h2 d (List.mem_cons_of_mem _ hd))]
  simp only [List.singleton_append,List.length_cons]
  congr 1;omega
theorem qde (c:UInt8) (hc:Lx.q2z c=false/\Lx.isB c=true) (r:Yy) (i:Nat) (op:Bool) (ws:List Lx.Wd):Lx.q3h (c::r) i op ws=Lx.q3h r (i+1) false ws:=by
 rw [Lx.q1h,hc.1,hc.2];simp
theorem qqd (c:UInt8) (hc:Lx.q2z c=true) (r:Yy) (i:Nat) (op:Bool) (ws:List Lx.Wd):Lx.q3h (c::r) i op ws=Lx.q3h r (i+1) false (ws ++ [([c],((i:Nat):Int))]):=by
 rw [Lx.q1h,hc];simp
abbrev tx (ws:List Lx.Wd):List (Yy):=ws.map Prod.fst
theorem jal {w:Yy} (h:plain w) : ∀c∈w,Lx.okc c=true:=fun c hc=>(qkl (h.2.2 c hc)).2.2
theorem jat {t:Yy} (h : ∀c∈t,Lx.okc c=true):(10:UInt8) ∉ t:=fun hc=>by
 have:=h 10 hc
 revert this;decide
theorem qpf : ∀(L:List (Yy)) (i:Nat) (out:List Lx.Ln),(∀t∈L,∀c∈t,Lx.okc c=true)->(Lx.q47 L i out).2.2=0
 | [],i,out,_=>rfl
 | t::L,i,out,h=>by
  rw [Lx.q47,if_pos (List.all_eq_true.2 (h t (List.mem_cons_self ..)))]
  exact qpf L (i+1) _ fun x hx=>h x (List.mem_cons_of_mem _ hx)
theorem qph : ∀(L:List (Yy)) (i:Nat) (out:List Lx.Ln),(Lx.q47 L i out).2.2=0->∀t∈L,∀c∈t,Lx.okc c=true
 | [],i,out,_,t,ht=>by cases ht
 | x::L,i,out,h,t,ht=>by
  rw [Lx.q47] at h
  split at h
  ·rename_i hx
   rcases List.mem_cons.1 ht with rfl|ht
   ·exact fun c hc=>List.all_eq_true.1 hx c hc
   ·exact qph L (i+1) _ h t ht
  ·cases h
end Go.Proofs.YtapfankgdkdkgaaGreatDoor.AM
namespace Go.Proofs.YtapfankgdkdkgaaGreatDoor.AM
open Go.RowKit
def q0a (σ:MS) (c:Cl):Bool:=(q02 clT c σ.sd).isSome
def ps (st:Int) (w:Lx.Wd):Int×Int:=(st+w.2,st+w.2+((w.1.length:Nat):Int))
def qh6:List Lx.Wd->Nat
 | []=>0
 | w::r=>w.1.length+qh6 r
theorem j34 {w:Lx.Wd} : ∀{ws:List Lx.Wd},w∈ws->w.1.length<=qh6 ws
 | x::r,h=>by
  rcases List.mem_cons.1 h with rfl|h
  ·rw [qh6];omega
  ·have:=j34 h;rw [qh6];omega
theorem qmh (p:Lx.Wd->Bool) : ∀ws:List Lx.Wd,qh6 (ws.filter p)<=qh6 ws
 | []=>Nat.le_refl _
 | x::r=>by
  have:=qmh p r
  rw [List.filter_cons]
  split
  ·rw [qh6,qh6];omega
  ·rw [qh6];omega
inductive Step (σ:MS) (st:Int) (ws:List Lx.Wd):MS->Prop
 | mo (w:Lx.Wd) (hw:w∈ws) (h:okS w.1=true) (hc:q0a σ (qih,([],v0))=false):Step σ st ws { σ with mo:=w.1,sd:=q0w clT (qih,([],v0)) (ps st w) σ.sd }
 | go (w:Lx.Wd) (hw:w∈ws) (h:qg6 w.1=true) (hc:q0a σ (kGo,([],v0))=false):Step σ st ws { σ with go:=w.1,sd:=q0w clT (kGo,([],v0)) (ps st w) σ.sd }
 | rq (x:Lx.Wd) (q:Rq) (hx:x∈ws) (hz:q.1.length+x.1.length<=qh6 ws) (h:q3m q.1 q.2=true) (ht:q08 q.2=x.1) (hc:q0a σ (q0z,(q.1,v0))=false):Step σ st ws { σ with rq:=σ.rq ++ [q],sd:=q0w clT (q0z,(q.1,v0)) (ps st x) σ.sd }
 | ex (x:Lx.Wd) (q:Rq) (hx:x∈ws) (hz:q.1.length+x.1.length<=qh6 ws) (h:q3m q.1 q.2=true) (ht:q08 q.2=x.1) (hc:q0a σ (qga,(q.1,q.2))=false):Step σ st ws { σ with ex:=σ.ex ++ [q],sd:=q0w clT (qga,(q.1,q.2)) (ps st x) σ.sd }
 | sw (x:Lx.Wd) (q:Sw) (hx:x∈ws) (hz:q.1.length+q.2.length<=qh6 ws) (h:okS q.1=true) (h2:q5b q.2=true) (hc:q0a σ (qg2,(q.1,v0))=false):Step σ st ws { σ with sw:=σ.sw ++ [q],sd:=q0w clT (qg2,(q.1,v0)) (ps st x) σ.sd }
 | rt (x:Sp) (hz:(jod x).length<=qh6 ws+4) (h:q1g (jjb x)=true) (h2:q1g (qzy x)=true) (hc:jjl (jjb x) (qzy x)<=0):Step σ st ws { σ with rt:=σ.rt ++ [x] }
theorem Step.mono {σ σ':MS} {st:Int} {ws ws':List Lx.Wd} (h:Step σ st ws σ') (h1 : ∀w∈ws,w∈ws') (h2:qh6 ws<=qh6 ws'):Step σ st ws' σ':=by
 cases h with
 | mo w hw h hc=>exact .mo w (h1 w hw) h hc
 | go w hw h hc=>exact .go w (h1 w hw) h hc
 | rq x q hx hz h ht hc=>exact .rq x q (h1 x hx) (by omega) h ht hc
 | ex x q hx hz h ht hc=>exact .ex x q (h1 x hx) (by omega) h ht hc
 | sw x q hx hz h h2 hc=>exact .sw x q (h1 x hx) (by omega) h h2 hc
 | rt x hz h h2 hc=>exact .rt x (by omega) h h2 hc
theorem q38 {σ σ':MS} {c:Cl} {st:Int} {w:Lx.Wd} (e:q11 σ c st w = .inr σ'):q0a σ c=false/\σ' = { σ with sd:=q0w clT c (ps st w) σ.sd }:=by
 unfold q11 at e
 unfold q0a
 split at e
 ·cases e
 ·rename_i h
  cases e
  exact ⟨by simpa using h,rfl⟩
theorem j03 {p x:Yy} {q:Rq} (e:qmo p x = .inr q):q.1=p/\q3m q.1 q.2=true/\q08 q.2=x:=by
 unfold qmo at e
 split at e
 ·cases e
 ·split at e
  ·cases e
  ·split at e
   ·cases e
   ·rename_i h1 h2 h3
    cases e
    exact ⟨rfl,by simpa using h3,(qe6 (by simpa using h2)).2⟩
theorem jga {σ σ':MS} {v:Yy} {ws:List Lx.Wd} {st:Int} (h2:v=q0z\/v=qga\/v=qg2->∃ w x r,ws=w::x::r) (e:qft σ st v ws = .inr σ'):Step σ st ws σ':=by
 unfold qft at e
 split at e
 ·cases e
 ·rename_i w ws'
  have hw0:w∈w::ws':=List.mem_cons_self ..
  split at e
  ·split at e
   ·cases e
   ·rename_i h
    obtain ⟨hc,rfl⟩:=q38 e
    exact .mo w hw0 (by simpa using h) hc
  ·split at e
   ·split at e
    ·cases e
    ·rename_i h
     obtain ⟨hc,rfl⟩:=q38 e
     exact .go w hw0 (by simpa using h) hc
   ·split at e
    ·rename_i hv
     obtain ⟨w',x,r,hx⟩:=h2 (.inl hv)
     obtain ⟨rfl,rfl⟩:=List.cons.inj hx
     split at e
     ·cases e
     ·rename_i q hq
      obtain ⟨q1,q2,q3⟩:=j03 hq
      obtain ⟨hc,rfl⟩:=q38 e
      exact .rq x q (by simp) (by rw [q1,qh6,qh6];omega) q2 q3 hc
    ·split at e
     ·rename_i hv
      obtain ⟨w',x,r,hx⟩:=h2 (.inr (.inl hv))
      obtain ⟨rfl,rfl⟩:=List.cons.inj hx
      split at e
      ·cases e
      ·rename_i q hq
       obtain ⟨q1,q2,q3⟩:=j03 hq
       obtain ⟨hc,rfl⟩:=q38 e
       exact .ex x q (by simp) (by rw [q1,qh6,qh6];omega) q2 q3 hc
     ·split at e
      ·rename_i hv
       obtain ⟨w',x,r,hx⟩:=h2 (.inr (.inr hv))
       obtain ⟨rfl,rfl⟩:=List.cons.inj hx
       split at e
       ·cases e
       ·rename_i g1
        split at e
        ·cases e
        ·rename_i g2
         obtain ⟨hc,rfl⟩:=q38 e
         exact .sw x (w.1,x.1) (by simp) (by rw [qh6,qh6];show w.1.length+x.1.length<=_;omega) (by simpa using g1) (by simpa using g2) hc
      ·split at e
       ·cases e
       ·rename_i g1
        split at e
        ·cases e
        ·rename_i g2
         split at e
         ·cases e
         ·rename_i g3
          cases e
          obtain ⟨a1,a2⟩:=qe6 (s:=w.1) (by simpa using g1)
          obtain ⟨b1,b2⟩:=qe6 (s:=(ws'.getLast?.getD w).1) (by simpa using g2)
          refine .rt _ ?_ a1 b1 (by simpa [jiu,ja4] using g3)
          unfold jod
          rw [jiu,ja4]
          split
          ·rw [a2,qh6];omega
          ·rename_i hne
           rw [a2,b2]
           cases ws' with
           | nil=>exact absurd rfl hne
           | cons y r =>
            have hm:(y::r).getLast?.getD w∈y::r:=by
             rw [List.getLast?_eq_some_getLast (List.cons_ne_nil _ _),Option.getD_some]
             exact List.getLast_mem _
            have:=j34 hm
            rw [qh6]
            simp only [List.length_cons,List.length_append,List.length_nil]
            omega
theorem qur {σ σ':MS} {v:Yy} {ws:List Lx.Wd} {st:Int} (e:q5c σ st v ws = .inr σ'):Step σ st ws σ':=by
 unfold q5c at e
 split at e
 ·rename_i hm
  refine (jga (fun hv=>?_) e).mono (fun w hw=>(List.mem_filter.1 hw).1) (qmh _ ws)
  have:(unm ws).length=2:=by
   rcases hv with rfl|rfl|rfl
   ·exact q66 (k:=2) (List.mem_singleton.1 hm) (by decide) (by decide)
   ·exact q66 (k:=2) (List.mem_singleton.1 hm) (by decide) (by decide)
   ·exact q66 (k:=2) (List.mem_singleton.1 hm) (by decide) (by decide)
  obtain ⟨a,b,hab⟩:=jqq this
  exact ⟨a,b,[],hab⟩
 ·cases e
theorem qcb {σ σ':MS} {ws:List Lx.Wd} {st:Int} (e:q3n σ st ws = .inr σ'):Step σ st ws σ' \/ ∃ b,σ' = { σ with bk:=b }:=by
 unfold q3n at e
 split at e
 ·cases e;exact .inr ⟨σ.bk,rfl⟩
 ·rename_i w ws'
  split at e
  ·split at e
   ·cases e;exact .inr ⟨w.1,rfl⟩
   ·exact .inl ((qur e).mono (fun x hx=>List.mem_cons_of_mem _ hx) (by rw [qh6];omega))
  ·split at e
   ·cases e;exact .inr ⟨[],rfl⟩
   ·exact .inl (qur e)
structure GoodM (σ:MS):Prop where
 mo:σ.mo = []\/okS σ.mo=true
 mc:q0a σ (qih,([],v0))=true↔σ.mo ≠ []
 go:σ.go = []\/qg6 σ.go=true
 gk:q0a σ (kGo,([],v0))=true↔σ.go ≠ []
 rq : ∀q∈σ.rq,q3m q.1 q.2=true
 rk : ∀p,q0a σ (q0z,(p,v0))=true↔p∈σ.rq.map Prod.fst
 rn:(σ.rq.map Prod.fst).Nodup
 sw : ∀q∈σ.sw,okS q.1=true/\q5b q.2=true
 sk : ∀p,q0a σ (qg2,(p,v0))=true↔p∈σ.sw.map Prod.fst
 sn:(σ.sw.map Prod.fst).Nodup
 ex : ∀q∈σ.ex,q3m q.1 q.2=true
 ek : ∀q:Rq,q0a σ (qga,(q.1,q.2))=true↔q∈σ.ex
 en:σ.ex.Nodup
 rt : ∀x∈σ.rt,q1g (jjb x)=true/\q1g (qzy x)=true/\jjl (jjb x) (qzy x)<=0
theorem jq9 (c:Cl) (P:Prop) (h : ¬ P):q0a ms0 c=true↔P:=⟨fun e=>(by cases e),fun p=>absurd p h⟩
theorem jpx:GoodM ms0 where
 mo:=.inl rfl
 mc:=jq9 _ _ (fun h=>h rfl)
 go:=.inl rfl
 gk:=jq9 _ _ (fun h=>h rfl)
 rq:=fun q h=>by cases h
 rk:=fun p=>jq9 _ _ (fun h=>by cases h)
 rn:=List.nodup_nil
 sw:=fun q h=>by cases h
 sk:=fun p=>jq9 _ _ (fun h=>by cases h)
 sn:=List.nodup_nil
 ex:=fun q h=>by cases h
 ek:=fun p=>jq9 _ _ (fun h=>by cases h)
 en:=List.nodup_nil
 rt:=fun q h=>by cases h
theorem qu2 (sd:jip) (c c':Cl) (v:Int×Int):(q02 clT c' (q0w clT c v sd)).isSome=true↔c'=c\/(q02 clT c' sd).isSome=true:=by
 rw [q1s]
 cases h:eqT clT c' c with
 | true =>
  have:=(qfk c' c).1 h
  simp [this]
 | false =>
  have:c'≠c:=fun e=>by rw [(qfk c' c).2 e] at h;cases h
  simp [this]
theorem qdu {β:Type} {l:List β} {a:β} (h:l.Nodup) (ha:a ∉ l):(l ++ [a]).Nodup:=by
 rw [List.nodup_append]
 exact ⟨h,by simp,fun x hx y hy e=>by rw [List.mem_singleton.1 hy] at e;rw [e] at hx;exact ha hx⟩
theorem ok_ne {p:Yy} (h:okS p=true):p ≠ []:=(jib h).1
theorem jm7 {p:Yy} (h:qg6 p=true):p ≠ []:=(j61 h).1
theorem kd:qih≠kGo/\qih≠q0z/\qih≠qga/\qih≠qg2/\kGo≠q0z/\kGo≠qga/\kGo≠qg2/\q0z≠qga/\q0z≠qg2/\qga≠qg2:=by decide
theorem q0y {σ:MS} {a b:Yy} (h:a≠b) (x y:Yy×VD) (v:Int×Int):(q02 clT (a,x) (q0w clT (b,y) v σ.sd)).isSome=(q02 clT (a,x) σ.sd).isSome:=by
 rw [q4b (fun e=>h (congrArg Prod.fst e))]
theorem qoi {σ:MS} {c:Cl} {P:Prop} (h:q0a σ c=true↔P) (hc:q0a σ c=false) : ¬ P:=fun hp=>by rw [h.2 hp] at hc;cases hc
theorem jaa {σ σ':MS} {ws:List Lx.Wd} {st:Int} (g:GoodM σ) (h:Step σ st ws σ'):GoodM σ':=by
 obtain ⟨d1,d2,d3,d4,d5,d6,d7,d8,d9,d10⟩:=kd
 cases h with
 | mo w hw h hc =>
  exact ⟨.inr h,by show (q02 clT _ _).isSome=true↔_;rw [qu2];simp [ok_ne h],g.go,by show (q02 clT _ _).isSome=true↔_;rw [q0y d1.symm];exact g.gk,g.rq,fun p=>by show (q02 clT _ _).isSome=true↔_;rw [q0y d2.symm];exact g.rk p,g.rn,g.sw,fun p=>by show (q02 clT _ _).isSome=true↔_;rw [q0y d4.symm];exact g.sk p,g.sn,g.ex,fun p=>by show (q02 clT _ _).isSome=true↔_;rw [q0y d3.symm];exact g.ek p,g.en,g.rt⟩
 | go w hw h hc =>
  exact ⟨g.mo,by show (q02 clT _ _).isSome=true↔_;rw [q0y d1];exact g.mc,.inr h,by show (q02 clT _ _).isSome=true↔_;rw [qu2];simp [jm7 h],g.rq,fun p=>by show (q02 clT _ _).isSome=true↔_;rw [q0y d5.symm];exact g.rk p,g.rn,g.sw,fun p=>by show (q02 clT _ _).isSome=true↔_;rw [q0y d7.symm];exact g.sk p,g.sn,g.ex,fun p=>by show (q02 clT _ _).isSome=true↔_;rw [q0y d6.symm];exact g.ek p,g.en,g.rt⟩
 | rq x q hx hz h ht hc =>
  refine ⟨g.mo,by show (q02 clT _ _).isSome=true↔_;rw [q0y d2];exact g.mc,g.go,by show (q02 clT _ _).isSome=true↔_;rw [q0y d5];exact g.gk,fun y hy=>?_,fun p=>?_,?_,g.sw,fun p=>by show (q02 clT _ _).isSome=true↔_;rw [q0y d9.symm];exact g.sk p,g.sn,g.ex,fun p=>by show (q02 clT _ _).isSome=true↔_;rw [q0y d8.symm];exact g.ek p,g.en,g.rt⟩
  ·rcases List.mem_append.1 hy with hy|hy
   ·exact g.rq y hy
   ·rw [List.mem_singleton.1 hy];exact h
  ·show (q02 clT _ _).isSome=true↔_
   rw [qu2]
   have:=g.rk p
   unfold q0a at this
   rw [this,List.map_append,List.mem_append]
   simp [or_comm]
  ·show ((σ.rq ++ [q]).map Prod.fst).Nodup
   rw [List.map_append]
   exact qdu g.rn (qoi (g.rk q.1) hc)
 | ex x q hx hz h ht hc =>
  refine ⟨g.mo,by show (q02 clT _ _).isSome=true↔_;rw [q0y d3];exact g.mc,g.go,by show (q02 clT _ _).isSome=true↔_;rw [q0y d6];exact g.gk,g.rq,fun p=>by show (q02 clT _ _).isSome=true↔_;rw [q0y d8];exact g.rk p,g.rn,g.sw,fun p=>by show (q02 clT _ _).isSome=true↔_;rw [q0y d10.symm];exact g.sk p,g.sn,fun y hy=>?_,fun p=>?_,?_,g.rt⟩
  ·rcases List.mem_append.1 hy with hy|hy
   ·exact g.ex y hy
   ·rw [List.mem_singleton.1 hy];exact h
  ·show (q02 clT _ _).isSome=true↔_
   rw [qu2]
   have:=g.ek p
   unfold q0a at this
   rw [this,List.mem_append]
   obtain ⟨p1,p2⟩:=p
   obtain ⟨q1,q2⟩:=q
   simp [or_comm]
  ·exact qdu g.en (qoi (g.ek q) hc)
 | sw x q hx hz h h2 hc =>
  refine ⟨g.mo,by show (q02 clT _ _).isSome=true↔_;rw [q0y d4];exact g.mc,g.go,by show (q02 clT _ _).isSome=true↔_;rw [q0y d7];exact g.gk,g.rq,fun p=>by show (q02 clT _ _).isSome=true↔_;rw [q0y d9];exact g.rk p,g.rn,fun y hy=>?_,fun p=>?_,?_,g.ex,fun p=>by show (q02 clT _ _).isSome=true↔_;rw [q0y d10];exact g.ek p,g.en,g.rt⟩
  ·rcases List.mem_append.1 hy with hy|hy
   ·exact g.sw y hy
   ·rw [List.mem_singleton.1 hy];exact ⟨h,h2⟩
  ·show (q02 clT _ _).isSome=true↔_
   rw [qu2]
   have:=g.sk p
   unfold q0a at this
   rw [this,List.map_append,List.mem_append]
   simp [or_comm]
  ·show ((σ.sw ++ [q]).map Prod.fst).Nodup
   rw [List.map_append]
   exact qdu g.sn (qoi (g.sk q.1) hc)
 | rt x hz h h2 hc =>
  refine ⟨g.mo,g.mc,g.go,g.gk,g.rq,g.rk,g.rn,g.sw,g.sk,g.sn,g.ex,g.ek,g.en,fun y hy=>?_⟩
  rcases List.mem_append.1 hy with hy|hy
  ·exact g.rt y hy
  ·rw [List.mem_singleton.1 hy];exact ⟨h,h2,hc⟩
theorem jmv {σ:MS} (g:GoodM σ) (b:Yy):GoodM { σ with bk:=b }:=⟨g.mo,g.mc,g.go,g.gk,g.rq,g.rk,g.rn,g.sw,g.sk,g.sn,g.ex,g.ek,g.en,g.rt⟩
theorem ql1 {σ σ':MS} {ws:List Lx.Wd} {st:Int} (g:GoodM σ) (e:q3n σ st ws = .inr σ'):GoodM σ':=by
 rcases qcb e with h|⟨b,rfl⟩
 ·exact jaa g h
 ·exact jmv g b
theorem qvd : ∀(ls:List (Yy)) (i st:Int) (σ σ':MS),GoodM σ->q27 ls i st σ = .inr σ'->GoodM σ'
 | [],i,st,σ,σ',g,e=>by cases e;exact g
 | t::ts,i,st,σ,σ',g,e=>by
  rw [q27] at e
  split at e
  ·cases e
  ·rename_i σ1 h1
   exact qvd ts _ _ σ1 σ' (ql1 g h1) e
def jev (σ σ':MS):Prop:=(σ.mo ≠ []->σ'.mo=σ.mo)/\(σ.go ≠ []->σ'.go=σ.go)/\σ.rq <+: σ'.rq/\σ.sw <+: σ'.sw/\σ.ex <+: σ'.ex/\σ.rt <+: σ'.rt
theorem jev.rfl' (σ:MS):jev σ σ:=⟨fun _=>rfl,fun _=>rfl,List.prefix_rfl,List.prefix_rfl,List.prefix_rfl,List.prefix_rfl⟩
theorem jev.trans {a b c:MS} (h1:jev a b) (h2:jev b c):jev a c:=by
 obtain ⟨a1,a2,a3,a4,a5,a6⟩:=h1
 obtain ⟨b1,b2,b3,b4,b5,b6⟩:=h2
 exact ⟨fun h=>(b1 (by rw [a1 h];exact h)).trans (a1 h),fun h=>(b2 (by rw [a2 h];exact h)).trans (a2 h),a3.trans b3,a4.trans b4,a5.trans b5,a6.trans b6⟩
theorem je0 {σ σ':MS} {ws:List Lx.Wd} {st:Int} (g:GoodM σ) (e:q3n σ st ws = .inr σ'):jev σ σ':=by
 rcases qcb e with h|⟨b,rfl⟩
 ·have p:=fun {β:Type} (l:List β) (x:β)=>List.prefix_append l [x]
  cases h with
  | mo w hw h hc=>exact ⟨fun hm=>absurd hm (qoi g.mc hc),fun _=>rfl,List.prefix_rfl,List.prefix_rfl,List.prefix_rfl,List.prefix_rfl⟩
  | go w hw h hc=>exact ⟨fun _=>rfl,fun hm=>absurd hm (qoi g.gk hc),List.prefix_rfl,List.prefix_rfl,List.prefix_rfl,List.prefix_rfl⟩
  | rq x q hx hz h ht hc=>exact ⟨fun _=>rfl,fun _=>rfl,p _ _,List.prefix_rfl,List.prefix_rfl,List.prefix_rfl⟩
  | ex x q hx hz h ht hc=>exact ⟨fun _=>rfl,fun _=>rfl,List.prefix_rfl,List.prefix_rfl,p _ _,List.prefix_rfl⟩
  | sw x q hx hz h h2 hc=>exact ⟨fun _=>rfl,fun _=>rfl,List.prefix_rfl,p _ _,List.prefix_rfl,List.prefix_rfl⟩
  | rt x hz h h2 hc=>exact ⟨fun _=>rfl,fun _=>rfl,List.prefix_rfl,List.prefix_rfl,List.prefix_rfl,p _ _⟩
 ·exact jev.rfl' σ
theorem qv3 : ∀(ls:List (Yy)) (i st:Int) (σ σ':MS),GoodM σ->q27 ls i st σ = .inr σ'->jev σ σ'
 | [],i,st,σ,σ',g,e=>by cases e;exact jev.rfl' σ
 | t::ts,i,st,σ,σ',g,e=>by
  rw [q27] at e
  split at e
  ·cases e
  ·rename_i σ1 h1
   exact (je0 g h1).trans (qv3 ts _ _ σ1 σ' (ql1 g h1) e)
end Go.Proofs.YtapfankgdkdkgaaGreatDoor.AM
namespace Go.Proofs.YtapfankgdkdkgaaGreatDoor.AM
open Go.RowKit
set_option synthInstance.maxSize 100000
set_option synthInstance.maxHeartbeats 0
theorem jah {p x:Yy} {e:Int} (h:qmo p x = .inl e):e≠0:=by
 unfold qmo at h
 split at h
 ·cases h;decide
 ·split at h
  ·cases h;decide
  ·split at h<;>cases h;decide
theorem q8m {σ:MS} {c:Cl} {st:Int} {w:Lx.Wd} {e:Int} (h:q11 σ c st w = .inl e):e≠0:=by
 unfold q11 at h
 split at h<;>cases h;decide
theorem jlj {σ:MS} {v:Yy} {ws:List Lx.Wd} {st e:Int} (h:qft σ st v ws = .inl e):e≠0:=by
 unfold qft at h
 split at h
 ·cases h;decide
 ·split at h
  ·split at h
   ·cases h;decide
   ·exact q8m h
  ·split at h
   ·split at h
    ·cases h;decide
    ·exact q8m h
   ·split at h
    ·split at h
     ·rename_i hq;cases h;exact jah hq
     ·exact q8m h
    ·split at h
     ·split at h
      ·rename_i hq;cases h;exact jah hq
      ·exact q8m h
     ·split at h
      ·split at h
       ·cases h;decide
       ·split at h
        ·cases h;decide
        ·exact q8m h
      ·split at h
       ·cases h;decide
       ·split at h
        ·cases h;decide
        ·split at h<;>cases h;decide
theorem j4q {σ:MS} {v:Yy} {ws:List Lx.Wd} {st e:Int} (h:q5c σ st v ws = .inl e):e≠0:=by
 unfold q5c at h
 split at h
 ·exact jlj h
 ·cases h;decide
theorem jhe {σ:MS} {ws:List Lx.Wd} {st e:Int} (h:q3n σ st ws = .inl e):e≠0:=by
 unfold q3n at h
 split at h
 ·cases h
 ·split at h
  ·split at h
   ·cases h
   ·exact j4q h
  ·split at h
   ·cases h
   ·exact j4q h
theorem qxb : ∀(ls:List (Yy)) (i st:Int) (σ:MS) (e:Int×Int),q27 ls i st σ = .inl e->e.2≠0
 | [],i,st,σ,e,h=>by cases h
 | t::ts,i,st,σ,e,h=>by
  rw [q27] at h
  split at h
  ·rename_i h1;cases h;exact jhe h1
  ·exact qxb ts _ _ _ e h
structure IsM (s:Yy) (σ:MS):Prop where
 okc : ∀t∈Lx.q0d s,∀c∈t,Lx.okc c=true
 rd:q27 (Lx.q0d s) 0 0 ms0 = .inr σ
 bk:σ.bk = []
 mo:σ.mo ≠ []
theorem jdc {s:Yy} {σ:MS} {k:Int} (h:qe0 s = .inr (σ,k)):IsM s σ/\k=(((Lx.q0d s).length:Nat):Int):=by
 unfold qe0 at h
 split at h
 ·cases h
 ·rename_i h0
  split at h
  ·cases h
  ·rename_i σ1 h1
   split at h
   ·cases h
   ·rename_i h2
    split at h
    ·cases h
    ·rename_i h3
     cases h
     exact ⟨⟨qph _ 0 [] (by simpa using h0),h1,by simpa using h2,h3⟩,rfl⟩
theorem qse {s:Yy} {σ:MS} (h:IsM s σ):qe0 s = .inr (σ,(((Lx.q0d s).length:Nat):Int)):=by
 unfold qe0
 rw [if_neg (by simpa using qpf _ 0 [] h.okc),h.rd]
 simp only [h.bk,h.mo,ne_eq,not_true_eq_false,if_false]
theorem jhy {s:Yy} {σ:MS} (h:IsM s σ):qcp s=(σ.md,((((Lx.q0d s).length:Nat):Int),0)):=by unfold qcp;rw [qse h]
theorem jin {s:Yy} (h:(qcp s).2.2=0) : ∃ σ,IsM s σ:=by
 cases hr:qe0 s with
 | inr x=>exact ⟨x.1,(jdc (k:=x.2) hr).1⟩
 | inl e =>
  exfalso
  have h':e.2=0:=by unfold qcp at h;rw [hr] at h;exact h
  unfold qe0 at hr
  split at hr
  ·rename_i h0;cases hr;exact h0 h'
  ·split at hr
   ·rename_i h1;cases hr;exact qxb _ _ _ _ _ h1 h'
   ·split at hr
    ·cases hr;exact absurd (show (10:Int)=0 from h') (by decide)
    ·split at hr
     ·cases hr;exact absurd (show (5:Int)=0 from h') (by decide)
     ·cases hr
theorem IsM.good {s:Yy} {σ:MS} (h:IsM s σ):GoodM σ:=qvd _ _ _ _ _ jpx h.rd
theorem qj1 (a:Yy) (c:UInt8):Lx.qa8 (a ++ [c])=decide (c=10):=by
 unfold Lx.qa8
 by_cases h:c=10<;>simp [h]
theorem jbu (a:Yy):Lx.q0d (a ++ [10])=spl 10 [] a:=by
 unfold Lx.q0d
 rw [if_neg (by simp),qj1,decide_eq_true rfl,if_pos rfl,List.dropLast_concat]
end Go.Proofs.YtapfankgdkdkgaaGreatDoor.AM
namespace Go.Proofs.YtapfankgdkdkgaaGreatDoor.AM
open Go.RowKit
set_option synthInstance.maxSize 100000
set_option synthInstance.maxHeartbeats 0
def Sm (σ τ:MS):Prop:=σ.md=τ.md/\∀c,q0a σ c=q0a τ c
theorem Sm.mo {σ τ:MS} (h:Sm σ τ):σ.mo=τ.mo:=congrArg (fun m:MD=>m.1) h.1
theorem Sm.rfl' (σ:MS):Sm σ σ:=⟨rfl,fun _=>rfl⟩
def jq4 (b1 b2:Yy):Int⊕MS->Int⊕MS->Prop
 | .inl e,.inl e'=>e=e'
 | .inr σ,.inr τ=>Sm σ τ/\σ.bk=b1/\τ.bk=b2
 | _,_=>False
theorem q8w {σ τ:MS} {b1 b2:Yy} (h:Sm σ τ) (h1:σ.bk=b1) (h2:τ.bk=b2) (c:Cl) (st st':Int) (w w':Lx.Wd):jq4 b1 b2 (q11 σ c st w) (q11 τ c st' w'):=by
 have hc:=h.2 c
 unfold q0a at hc
 unfold q11
 rw [hc]
 cases (q02 clT c τ.sd).isSome with
 | true=>rfl
 | false =>
  refine ⟨⟨h.1,fun c'=>?_⟩,h1,h2⟩
  have h3:=h.2 c'
  unfold q0a at h3 ⊢
  show (q02 clT c' (q0w clT c _ σ.sd)).isSome=(q02 clT c' (q0w clT c _ τ.sd)).isSome
  rw [q1s,q1s]
  cases eqT clT c' c with
  | true=>rfl
  | false=>exact h3
theorem ja3 : ∀(r r':List Lx.Wd) (w w':Lx.Wd),w.1=w'.1->tx r=tx r'->(r.getLast?.getD w).1=(r'.getLast?.getD w').1
 | [],[],w,w',h,_=>h
 | [],_::_,_,_,_,h=>by cases h
 | _::_,[],_,_,_,h=>by cases h
 | a::r,b::r',w,w',h,e=>by
  obtain ⟨h1,h2⟩:=List.cons.inj e
  rw [List.getLast?_cons,List.getLast?_cons]
  exact ja3 r r' a b h1 h2
theorem jf9 {r r':List Lx.Wd} (h:tx r=tx r'):(r.headD ([],0)).1=(r'.headD ([],0)).1:=by
 cases r<;>cases r'<;>first|rfl|cases h|exact (List.cons.inj h).1
theorem jki {σ τ:MS} {b1 b2:Yy} (h:Sm σ τ) (h1:σ.bk=b1) (h2:τ.bk=b2) (v:Yy) (st st':Int) {ws ws':List Lx.Wd} (hw:tx ws=tx ws'):jq4 b1 b2 (qft σ st v ws) (qft τ st' v ws'):=by
 obtain ⟨m1,g1,k1,s1,r1,w1,e1,t1⟩:=σ
 obtain ⟨m2,g2,k2,s2,r2,w2,e2,t2⟩:=τ
 have hc:=h.2
 have hm:=h.1
 simp only [MS.md,Prod.mk.injEq] at hm
 obtain ⟨rfl,rfl,rfl,rfl,rfl,rfl⟩:=hm
 cases ws with
 | nil =>
  cases ws' with
  | nil=>rfl
  | cons=>cases hw
 | cons w r =>
  cases ws' with
  | nil=>cases hw
  | cons w' r' =>
   obtain ⟨e0,e9⟩:=List.cons.inj hw
   have e1':=jf9 e9
   have e2':=ja3 r r' w w' e0 e9
   unfold qft
   simp only [e0,e1',e2']
   split
   ·split
    ·rfl
    ·exact q8w (by exact ⟨rfl,hc⟩) (by exact h1) (by exact h2) _ _ _ _ _
   ·split
    ·split
     ·rfl
     ·exact q8w (by exact ⟨rfl,hc⟩) (by exact h1) (by exact h2) _ _ _ _ _
    ·split
     ·split
      ·rfl
      ·exact q8w (by exact ⟨rfl,hc⟩) (by exact h1) (by exact h2) _ _ _ _ _
     ·split
      ·split
       ·rfl
       ·exact q8w (by exact ⟨rfl,hc⟩) (by exact h1) (by exact h2) _ _ _ _ _
      ·split
       ·split
        ·rfl
        ·split
         ·rfl
         ·exact q8w (by exact ⟨rfl,hc⟩) (by exact h1) (by exact h2) _ _ _ _ _
       ·split
        ·rfl
        ·split
         ·rfl
         ·split
          ·rfl
          ·exact ⟨⟨rfl,hc⟩,h1,h2⟩
theorem jbz {ws ws':List Lx.Wd} (h:tx ws=tx ws'):shp ws=shp ws':=by
 have e : ∀ws:List Lx.Wd,ws.map qba=(tx ws).map fun t=>if q6o t then t else [120]:=fun ws=>by simp [qba,Function.comp_def]
 unfold shp
 rw [e,e,h]
theorem jjo : ∀{ws ws':List Lx.Wd},tx ws=tx ws'->tx (unm ws)=tx (unm ws')
 | [],[],_=>rfl
 | [],_::_,h=>by cases h
 | _::_,[],h=>by cases h
 | a::r,b::r',h=>by
  obtain ⟨h1,h2⟩:=List.cons.inj h
  have ih:=jjo h2
  unfold unm at ih ⊢
  rw [List.filter_cons,List.filter_cons,h1]
  split
  ·show a.1::tx _=b.1::tx _
   rw [ih,h1]
  ·exact ih
theorem j42 {σ τ:MS} {b1 b2:Yy} (h:Sm σ τ) (h1:σ.bk=b1) (h2:τ.bk=b2) (v:Yy) (st st':Int) {ws ws':List Lx.Wd} (hw:tx ws=tx ws'):jq4 b1 b2 (q5c σ st v ws) (q5c τ st' v ws'):=by
 unfold q5c
 rw [jbz hw]
 split
 ·exact jki h h1 h2 v st st' (jjo hw)
 ·rfl
def RelL:Int⊕MS->Int⊕MS->Prop
 | .inl e,.inl e'=>e=e'
 | .inr σ,.inr τ=>Sm σ τ/\σ.bk=τ.bk
 | _,_=>False
theorem jq4.toL {b:Yy} {x y:Int⊕MS} (h:jq4 b b x y):RelL x y:=by
 cases x<;>cases y
 ·exact h
 ·exact h
 ·exact h
 ·exact ⟨h.1,h.2.1.trans h.2.2.symm⟩
theorem jil {σ τ:MS} (h:Sm σ τ) (hb:σ.bk=τ.bk) (st st':Int) {ws ws':List Lx.Wd} (hw:tx ws=tx ws'):RelL (q3n σ st ws) (q3n τ st' ws'):=by
 cases ws with
 | nil =>
  cases ws' with
  | nil=>exact ⟨h,hb⟩
  | cons=>cases hw
 | cons w r =>
  cases ws' with
  | nil=>cases hw
  | cons w' r' =>
   obtain ⟨e0,e9⟩:=List.cons.inj hw
   unfold q3n
   have q1:=jbz hw
   have q2:=jbz e9
   simp only [q1,q2,hb,e0]
   split
   ·split
    ·exact ⟨⟨h.1,h.2⟩,rfl⟩
    ·exact (j42 h hb rfl _ st st' e9).toL
   ·split
    ·exact ⟨⟨h.1,h.2⟩,rfl⟩
    ·exact (j42 h hb rfl _ st st' hw).toL
inductive Lns:List (Yy)->List (Yy)->Prop
 | nil:Lns [] []
 | both {a b:Yy} {r r':List (Yy)} (h:tx (q1d a)=tx (q1d b)) (hr:Lns r r'):Lns (a::r) (b::r')
 | more {b:Yy} {r r':List (Yy)} (h:q1d b = []) (hr:Lns r r'):Lns r (b::r')
theorem Lns.read {L L':List (Yy)} (h:Lns L L') : ∀(i i' st st':Int) (σ τ σ':MS),Sm σ τ->σ.bk=τ.bk->q27 L i st σ = .inr σ'->∃ τ',q27 L' i' st' τ = .inr τ'/\Sm σ' τ'/\σ'.bk=τ'.bk:=by
 induction h with
 | nil=>intro i i' st st' σ τ σ' h1 h2 e;cases e;exact ⟨τ,rfl,h1,h2⟩
 | both h hr ih =>
  intro i i' st st' σ τ σ' h1 h2 e
  have hl:=jil h1 h2 st st' h
  rw [q27] at e ⊢
  split at e
  ·cases e
  ·rename_i σ1 hs
   rw [hs] at hl
   split
   ·rename_i e' he';rw [he'] at hl;exact absurd hl id
   ·rename_i τ1 ht
    rw [ht] at hl
    exact ih _ _ _ _ _ _ _ hl.1 hl.2 e
 | more h hr ih =>
  intro i i' st st' σ τ σ' h1 h2 e
  rw [q27,h]
  exact ih _ _ _ _ _ _ _ h1 h2 e
theorem Sm.bk {σ τ:MS} (h:Sm σ τ) (b:Yy):Sm σ { τ with bk:=b }:=⟨h.1,h.2⟩
end Go.Proofs.YtapfankgdkdkgaaGreatDoor.AM
namespace Go.Proofs.YtapfankgdkdkgaaGreatDoor.AM
open Go.RowKit
theorem j6h {p:Yy} (h:q5b p=true) : ∀c∈p,c=47\/qcf c=true:=by
 have h2:=(qp7 h).2
 have h3:(spl 47 [] p).all (fun w=>w.all qcf)=true:=by
  rw [List.all_eq_true] at h2 ⊢
  exact fun w hw=>j2k (h2 w hw)
 exact ((qki 47 qcf p []).1 h3).2
def word (w:Yy):Prop:=plain w/\q6o w=false
theorem jbd {w:Yy} (h:plain w) (h2:w ≠ [61,62]):word w:=by
 refine ⟨h,?_⟩
 cases hm:q6o w with
 | false=>rfl
 | true =>
  exfalso
  rcases q9z hm with e|e|e|e|e|e
  ·exact h2 e
  all_goals (rw [e] at h;exact absurd (h.2.2 _ (List.mem_cons_self ..)) (by decide))
theorem j8o {p:Yy} (h:q5b p=true):word p:=jbd (qnw h) fun e=>by
 rcases j6h h 61 (by rw [e];decide) with h1|h1
 ·exact absurd h1 (by decide)
 ·exact absurd h1 (by decide)
theorem j9d {p:Yy} (h:okS p=true):word p:=j8o (ja1 h).1
theorem q44 {v:VD} (h:q1g v=true):word (q08 v):=jbd (j7i h) fun e=>by
 unfold q08 at e
 rw [if_pos h] at e
 exact absurd (List.cons.inj e).1 (by decide)
theorem q4d {p:Yy} {v:VD} (h:q3m p v=true):okS p=true/\q1g v=true:=by
 unfold q3m at h
 simp only [Bool.and_eq_true] at h
 exact ⟨h.1,h.2.1⟩
theorem j5l {v:VD} (h:q1g v=true):q0r (q08 v)=(v,true):=jfu h rfl
theorem jjr {ws:List Lx.Wd} {L:List (Yy)} (h:tx ws=L):shp ws=Lib.join (L.map fun t=>if q6o t then t else [120]) [32]:=by
 unfold shp
 rw [<-h]
 congr 1
 simp [qba,Function.comp_def]
theorem jge {p:Yy} {v:VD} (h:q3m p v=true):qmo p (q08 v) = .inr (p,v):=by
 obtain ⟨h1,h2⟩:=q4d h
 unfold qmo
 rw [j5l h2,h1,h]
 rfl
theorem jc0:Lib.join [[(120:UInt8)],[120]] [32] = [120,32,120]:=by decide
theorem j59 {σ:MS} {c:Cl} {st:Int} {w:Lx.Wd} (h:q0a σ c=false):q11 σ c st w = .inr { σ with sd:=q0w clT c (ps st w) σ.sd }:=by
 unfold q0a at h
 unfold q11
 rw [h];rfl
end Go.Proofs.YtapfankgdkdkgaaGreatDoor.AM
