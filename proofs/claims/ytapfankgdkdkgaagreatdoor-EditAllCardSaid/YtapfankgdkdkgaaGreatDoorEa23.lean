
import Derived.Test.YtapfankgdkdkgaaGreatDoorEa22
set_option linter.unusedVariables false
set_option linter.unusedSimpArgs false
namespace Go.Proofs.YtapfankgdkdkgaaGreatDoor.AM
open Go.RowKit
set_option synthInstance.maxSize 100000
set_option synthInstance.maxHeartbeats 0
def jat (x:Sp):Yy:=if j5c x=qpj x then q06 (j5c x) else 91::(q06 (j5c x)++44::32::(q06 (qpj x) ++ [93]))
theorem qil (v:VD):(q06 v).length<=92:=by
 unfold q06
 split
 ·exact j6v ‹_›
 ·simp
theorem j5a {s t:Yy} (h:s.length+t.length<=9223372036854775807):q6j s t=some (s++t):=by unfold q6j;rw [if_pos h]
theorem ML.mono {k j:Nat} {m:MD} (h:ML k m) (hj:k<=j):ML j m:=by unfold ML at *;omega
def plb (c:UInt8):Bool:=Lx.okc c&&(!Lx.q29 c && !Lx.isB c)
def plain (w:Yy):Prop:=w ≠ []/\w.head? ≠ some 47/\∀c∈w,plb c=true
theorem qkm (c:UInt8) (h:qij c=true):plb c=true/\c≠47:=by
 have h1 : ∀i:Fin 256,qij (UInt8.ofNat i.1)=true->plb (UInt8.ofNat i.1)=true/\UInt8.ofNat i.1≠47:=by decide +kernel
 have:=h1 ⟨c.toNat,c.toNat_lt⟩
 simpa [h] using this
theorem qrd (c:UInt8) (h:q1i c=true):qij c=true:=by unfold qij;rw [h];simp
theorem pl46:plb 46=true:=by decide
theorem pl47:plb 47=true:=by decide
theorem qxt (c:UInt8) (h:q8r c=true):plb c=true/\c≠47:=by
 have h1 : ∀i:Fin 256,q8r (UInt8.ofNat i.1)=true->plb (UInt8.ofNat i.1)=true/\UInt8.ofNat i.1≠47:=by decide +kernel
 have:=h1 ⟨c.toNat,c.toNat_lt⟩
 simpa [h] using this
theorem qqy {w:Yy} (h:q9r w=true):w.all q8r=true:=by
 unfold q9r at h
 simp only [Bool.and_eq_true] at h
 exact h.2.2.2
theorem qgi {p:Yy} (h:q3r p=true):plain p:=by
 have h2:=(qhb h).2
 refine ⟨j76 h,fun hd=>?_,fun c hc=>?_⟩
 ·cases p with
  | nil=>cases hd
  | cons a r =>
   simp only [List.head?_cons,Option.some.injEq] at hd
   subst hd
   rw [spl,if_pos rfl,List.all_cons,show q9r []=false from rfl] at h2
   cases h2
 ·have h3:(spl 47 [] p).all (fun w=>w.all q8r)=true:=by
   rw [List.all_eq_true] at h2 ⊢
   exact fun w hw=>qqy (h2 w hw)
  rcases ((qcj 47 q8r p []).1 h3).2 c hc with rfl|h4
  ·exact pl47
  ·exact (qxt c h4).1
theorem j2c {p:Yy} (h:okS p=true):plain p:=qgi (qvd h).1
theorem qhm {i:Int} (h:0<=i) : ∀c∈Lib.itoa i,plb c=true:=by
 rw [q2d h]
 intro c hc
 exact (qkm c (qrd c (List.all_eq_true.1 (qpp i.toNat).1 c hc))).1
theorem qm2 {d:UInt8} (hd:plb d=true) {p:Yy->Bool} (hp : ∀w,p w=true->w.all qij=true) {s:Yy} (h:q3o p s=true) : ∀c∈q3u d s,plb c=true:=by
 unfold q3u
 split
 ·intro c hc;cases hc
 ·intro c hc
  rcases List.mem_cons.1 hc with rfl|hc
  ·exact hd
  ·rcases qsk hp h c hc with rfl|h1
   ·exact pl46
   ·exact (qkm c h1).1
theorem qti {v:VD} (h:q0z v=true):plain (q06 v):=by
 obtain ⟨h1,h2,h3,h4,h5⟩:=q21 h
 unfold q06
 rw [if_pos h]
 unfold j55
 refine ⟨by simp,by simp,fun c hc=>?_⟩
 simp only [List.mem_cons,List.mem_append] at hc
 rcases hc with rfl|hc|rfl|hc|rfl|hc|hc|hc
 ·decide
 ·exact qhm h1.1 c hc
 ·exact pl46
 ·exact qhm h2.1 c hc
 ·exact pl46
 ·exact qhm h3.1 c hc
 ·exact qm2 (by decide) qmz h4 c hc
 ·exact qm2 (by decide) qgq h5 c hc
theorem qq7 {s:Yy} (h:q8g s=true):(∀c∈s,q1i c=true)/\s ≠ []/\s.length<=9:=by
 unfold q8g at h
 simp only [Bool.and_eq_true,decide_eq_true_eq] at h
 exact ⟨fun c hc=>List.all_eq_true.1 h.1 c hc,fun h0=>by have:=h.2.1;rw [h0] at this;simp at this,h.2.2.1⟩
theorem qto {x:Yy} (h:qaz x=true) : ∃ a b,x=a++46::b/\q8g a=true/\q8g b=true:=by
 unfold qaz at h
 rw [Bool.and_eq_true] at h
 by_cases hm:(46:UInt8)∈x
 ·obtain ⟨a,b,hx,ha⟩:=List.eq_append_cons_of_mem hm
  have:=qo4 46 a b ha
  rw [hx,this.1,this.2] at h
  exact ⟨a,b,hx,h.1,h.2⟩
 ·have:q71 46 x = []:=by unfold q71;rw [if_pos (qa4 46 x hm)]
  rw [this] at h
  cases h.2
theorem qui {x:Yy} (h:qaz x=true):plain x:=by
 obtain ⟨a,b,rfl,ha,hb⟩:=qto h
 have ha:=qq7 ha
 have hb:=qq7 hb
 refine ⟨by simp,fun hd=>?_,fun c hc=>?_⟩
 ·cases a with
  | nil=>exact ha.2.1 rfl
  | cons d a =>
   simp only [List.cons_append,List.head?_cons,Option.some.injEq] at hd
   exact (qkm d (qrd d (ha.1 d (List.mem_cons_self ..)))).2 hd
 ·rcases List.mem_append.1 hc with hc|hc
  ·exact (qkm c (qrd c (ha.1 c hc))).1
  ·rcases List.mem_cons.1 hc with rfl|hc
   ·exact pl46
   ·exact (qkm c (qrd c (hb.1 c hc))).1
theorem qei {c:UInt8} (h:plb c=true):Lx.q29 c=false/\Lx.isB c=false/\Lx.okc c=true:=by
 unfold plb at h
 simp only [Bool.and_eq_true,Bool.not_eq_true'] at h
 exact ⟨h.2.1,h.2.2,h.1⟩
theorem qxv (r:Yy) : ∀(w:Yy) (i:Nat) (ws:List Lx.Wd) (u:Yy) (p:Int),(∀c∈w,plb c=true)->Lx.q2g (w++r) i true (ws ++ [(u,p)])=Lx.q2g r (i+w.length) true (ws ++ [(u++w,p)])
 | [],i,ws,u,p,_=>by simp
 | c::w,i,ws,u,p,h=>by
  obtain ⟨h1,h2,_⟩:=qei (h c (List.mem_cons_self ..))
  rw [List.cons_append,Lx.q0x,h1,h2]
  simp only [Bool.false_eq_true,if_false,if_true]
  rw [Lx.q2q,qxv r w (i+1) ws (u ++ [c]) p (fun d hd=>h d (List.mem_cons_of_mem _ hd))]
  simp only [List.append_assoc,List.singleton_append,List.length_cons]
  congr 1;omega
theorem j3w {w:Yy} (hw:plain w) (r:Yy) (i:Nat) (ws:List Lx.Wd):Lx.q2g (w++r) i false ws=Lx.q2g r (i+w.length) true (ws ++ [(w,((i:Nat):Int))]):=by
 obtain ⟨h0,h1,h2⟩:=hw
 cases w with
 | nil=>exact absurd rfl h0
 | cons c w =>
  obtain ⟨g1,g2,_⟩:=qei (h2 c (List.mem_cons_self ..))
  have hp:Lx.pfx (c::(w++r))=false:=by
   have hc:c≠47:=fun h=>h1 (by rw [h];rfl)
   cases h:w++r with
   | nil=>rfl
   | cons b t=>simp [Lx.pfx,hc]
  rw [List.cons_append,Lx.q0x,g1,g2,hp]
  simp only [Bool.false_eq_true,if_false]
  rw [qxv r w (i+1) ws [c] _ (fun d hd=>h2 d (List.mem_cons_of_mem _ hd))]
  simp only [List.singleton_append,List.length_cons]
  congr 1;omega
theorem q8z (c:UInt8) (hc:Lx.q29 c=false/\Lx.isB c=true) (r:Yy) (i:Nat) (op:Bool) (ws:List Lx.Wd):Lx.q2g (c::r) i op ws=Lx.q2g r (i+1) false ws:=by
 rw [Lx.q0x,hc.1,hc.2];simp
theorem qjw (c:UInt8) (hc:Lx.q29 c=true) (r:Yy) (i:Nat) (op:Bool) (ws:List Lx.Wd):Lx.q2g (c::r) i op ws=Lx.q2g r (i+1) false (ws ++ [([c],((i:Nat):Int))]):=by
 rw [Lx.q0x,hc];simp
abbrev tx (ws:List Lx.Wd):List Yy:=ws.map Prod.fst
theorem qyl {w:Yy} (h:plain w) : ∀c∈w,Lx.okc c=true:=fun c hc=>(qei (h.2.2 c hc)).2.2
theorem qwx {t:Yy} (h : ∀c∈t,Lx.okc c=true):(10:UInt8) ∉ t:=fun hc=>by
 have:=h 10 hc
 revert this;decide
theorem qgo : ∀(L:List Yy) (i:Nat) (out:List Lx.Ln),(∀t∈L,∀c∈t,Lx.okc c=true)->(Lx.q2x L i out).2.2=0
 | [],i,out,_=>rfl
 | t::L,i,out,h=>by
  rw [Lx.q2x,if_pos (List.all_eq_true.2 (h t (List.mem_cons_self ..)))]
  exact qgo L (i+1) _ fun x hx=>h x (List.mem_cons_of_mem _ hx)
theorem qh0 : ∀(L:List Yy) (i:Nat) (out:List Lx.Ln),(Lx.q2x L i out).2.2=0->∀t∈L,∀c∈t,Lx.okc c=true
 | [],i,out,_,t,ht=>by cases ht
 | x::L,i,out,h,t,ht=>by
  rw [Lx.q2x] at h
  split at h
  ·rename_i hx
   rcases List.mem_cons.1 ht with rfl|ht
   ·exact fun c hc=>List.all_eq_true.1 hx c hc
   ·exact qh0 L (i+1) _ h t ht
  ·cases h
def q05 (σ:MS) (c:Cl):Bool:=(q01 clT c σ.sd).isSome
def ps (st:Int) (w:Lx.Wd):Int×Int:=(st+w.2,st+w.2+((w.1.length:Nat):Int))
def qbl:List Lx.Wd->Nat
 | []=>0
 | w::r=>w.1.length+qbl r
theorem qq6 {w:Lx.Wd} : ∀{ws:List Lx.Wd},w∈ws->w.1.length<=qbl ws
 | x::r,h=>by
  rcases List.mem_cons.1 h with rfl|h
  ·rw [qbl];omega
  ·have:=qq6 h;rw [qbl];omega
theorem qdw (p:Lx.Wd->Bool) : ∀ws:List Lx.Wd,qbl (ws.filter p)<=qbl ws
 | []=>Nat.le_refl _
 | x::r=>by
  have:=qdw p r
  rw [List.filter_cons]
  split
  ·rw [qbl,qbl];omega
  ·rw [qbl];omega
inductive Step (σ:MS) (st:Int) (ws:List Lx.Wd):MS->Prop
 | mo (w:Lx.Wd) (hw:w∈ws) (h:okS w.1=true) (hc:q05 σ (qd9,([],v0))=false):Step σ st ws { σ with mo:=w.1,sd:=q0n clT (qd9,([],v0)) (ps st w) σ.sd }
 | go (w:Lx.Wd) (hw:w∈ws) (h:qaz w.1=true) (hc:q05 σ (kGo,([],v0))=false):Step σ st ws { σ with go:=w.1,sd:=q0n clT (kGo,([],v0)) (ps st w) σ.sd }
 | rq (x:Lx.Wd) (q:Rq) (hx:x∈ws) (hz:q.1.length+x.1.length<=qbl ws) (h:q2t q.1 q.2=true) (ht:q06 q.2=x.1) (hc:q05 σ (q0r,(q.1,v0))=false):Step σ st ws { σ with rq:=σ.rq ++ [q],sd:=q0n clT (q0r,(q.1,v0)) (ps st x) σ.sd }
 | ex (x:Lx.Wd) (q:Rq) (hx:x∈ws) (hz:q.1.length+x.1.length<=qbl ws) (h:q2t q.1 q.2=true) (ht:q06 q.2=x.1) (hc:q05 σ (qb4,(q.1,q.2))=false):Step σ st ws { σ with ex:=σ.ex ++ [q],sd:=q0n clT (qb4,(q.1,q.2)) (ps st x) σ.sd }
 | sw (x:Lx.Wd) (q:Sw) (hx:x∈ws) (hz:q.1.length+q.2.length<=qbl ws) (h:okS q.1=true) (h2:q3r q.2=true) (hc:q05 σ (qb3,(q.1,v0))=false):Step σ st ws { σ with sw:=σ.sw ++ [q],sd:=q0n clT (qb3,(q.1,v0)) (ps st x) σ.sd }
 | rt (x:Sp) (hz:(jat x).length<=qbl ws+4) (h:q0z (j5c x)=true) (h2:q0z (qpj x)=true) (hc:j4u (j5c x) (qpj x)<=0):Step σ st ws { σ with rt:=σ.rt ++ [x] }
theorem Step.mono {σ σ':MS} {st:Int} {ws ws':List Lx.Wd} (h:Step σ st ws σ') (h1 : ∀w∈ws,w∈ws') (h2:qbl ws<=qbl ws'):Step σ st ws' σ':=by
 cases h with
 | mo w hw h hc=>exact .mo w (h1 w hw) h hc
 | go w hw h hc=>exact .go w (h1 w hw) h hc
 | rq x q hx hz h ht hc=>exact .rq x q (h1 x hx) (by omega) h ht hc
 | ex x q hx hz h ht hc=>exact .ex x q (h1 x hx) (by omega) h ht hc
 | sw x q hx hz h h2 hc=>exact .sw x q (h1 x hx) (by omega) h h2 hc
 | rt x hz h h2 hc=>exact .rt x (by omega) h h2 hc
theorem q2b {σ σ':MS} {c:Cl} {st:Int} {w:Lx.Wd} (e:q0p σ c st w = .inr σ'):q05 σ c=false/\σ' = { σ with sd:=q0n clT c (ps st w) σ.sd }:=by
 unfold q0p at e
 unfold q05
 split at e
 ·cases e
 ·rename_i h
  cases e
  exact ⟨by simpa using h,rfl⟩
theorem qo7 {p x:Yy} {q:Rq} (e:qfr p x = .inr q):q.1=p/\q2t q.1 q.2=true/\q06 q.2=x:=by
 unfold qfr at e
 split at e
 ·cases e
 ·split at e
  ·cases e
  ·split at e
   ·cases e
   ·rename_i h1 h2 h3
    cases e
    exact ⟨rfl,by simpa using h3,(q9o (by simpa using h2)).2⟩
theorem j1d {σ σ':MS} {v:Yy} {ws:List Lx.Wd} {st:Int} (h2:v=q0r\/v=qb4\/v=qb3->∃ w x r,ws=w::x::r) (e:qan σ st v ws = .inr σ'):Step σ st ws σ':=by
 unfold qan at e
 split at e
 ·cases e
 ·rename_i w ws'
  have hw0:w∈w::ws':=List.mem_cons_self ..
  split at e
  ·split at e
   ·cases e
   ·rename_i h
    obtain ⟨hc,rfl⟩:=q2b e
    exact .mo w hw0 (by simpa using h) hc
  ·split at e
   ·split at e
    ·cases e
    ·rename_i h
     obtain ⟨hc,rfl⟩:=q2b e
     exact .go w hw0 (by simpa using h) hc
   ·split at e
    ·rename_i hv
     obtain ⟨w',x,r,hx⟩:=h2 (.inl hv)
     obtain ⟨rfl,rfl⟩:=List.cons.inj hx
     split at e
     ·cases e
     ·rename_i q hq
      obtain ⟨q1,q2,q3⟩:=qo7 hq
      obtain ⟨hc,rfl⟩:=q2b e
      exact .rq x q (by simp) (by rw [q1,qbl,qbl];omega) q2 q3 hc
    ·split at e
     ·rename_i hv
      obtain ⟨w',x,r,hx⟩:=h2 (.inr (.inl hv))
      obtain ⟨rfl,rfl⟩:=List.cons.inj hx
      split at e
      ·cases e
      ·rename_i q hq
       obtain ⟨q1,q2,q3⟩:=qo7 hq
       obtain ⟨hc,rfl⟩:=q2b e
       exact .ex x q (by simp) (by rw [q1,qbl,qbl];omega) q2 q3 hc
     ·split at e
      ·rename_i hv
       obtain ⟨w',x,r,hx⟩:=h2 (.inr (.inr hv))
       obtain ⟨rfl,rfl⟩:=List.cons.inj hx
       split at e
       ·cases e
       ·rename_i g1
        split at e
        ·cases e
        ·rename_i g2
         obtain ⟨hc,rfl⟩:=q2b e
         exact .sw x (w.1,x.1) (by simp) (by rw [qbl,qbl];show w.1.length+x.1.length<=_;omega) (by simpa using g1) (by simpa using g2) hc
      ·split at e
       ·cases e
       ·rename_i g1
        split at e
        ·cases e
        ·rename_i g2
         split at e
         ·cases e
         ·rename_i g3
          cases e
          obtain ⟨a1,a2⟩:=q9o (s:=w.1) (by simpa using g1)
          obtain ⟨b1,b2⟩:=q9o (s:=(ws'.getLast?.getD w).1) (by simpa using g2)
          refine .rt _ ?_ a1 b1 (by simpa [j5i,qyh] using g3)
          unfold jat
          rw [j5i,qyh]
          split
          ·rw [a2,qbl];omega
          ·rename_i hne
           rw [a2,b2]
           cases ws' with
           | nil=>exact absurd rfl hne
           | cons y r =>
            have hm:(y::r).getLast?.getD w∈y::r:=by
             rw [List.getLast?_eq_some_getLast (List.cons_ne_nil _ _),Option.getD_some]
             exact List.getLast_mem _
            have:=qq6 hm
            rw [qbl]
            simp only [List.length_cons,List.length_append,List.length_nil]
            omega
theorem qn1 {σ σ':MS} {v:Yy} {ws:List Lx.Wd} {st:Int} (e:q3t σ st v ws = .inr σ'):Step σ st ws σ':=by
 unfold q3t at e
 split at e
 ·rename_i hm
  refine (j1d (fun hv=>?_) e).mono (fun w hw=>(List.mem_filter.1 hw).1) (qdw _ ws)
  have:(unm ws).length=2:=by
   rcases hv with rfl|rfl|rfl
   ·exact q4c (k:=2) (List.mem_singleton.1 hm) (by decide) (by decide)
   ·exact q4c (k:=2) (List.mem_singleton.1 hm) (by decide) (by decide)
   ·exact q4c (k:=2) (List.mem_singleton.1 hm) (by decide) (by decide)
  obtain ⟨a,b,hab⟩:=ja9 this
  exact ⟨a,b,[],hab⟩
 ·cases e
theorem q88 {σ σ':MS} {ws:List Lx.Wd} {st:Int} (e:q2j σ st ws = .inr σ'):Step σ st ws σ' \/ ∃ b,σ' = { σ with bk:=b }:=by
 unfold q2j at e
 split at e
 ·cases e;exact .inr ⟨σ.bk,rfl⟩
 ·rename_i w ws'
  split at e
  ·split at e
   ·cases e;exact .inr ⟨w.1,rfl⟩
   ·exact .inl ((qn1 e).mono (fun x hx=>List.mem_cons_of_mem _ hx) (by rw [qbl];omega))
  ·split at e
   ·cases e;exact .inr ⟨[],rfl⟩
   ·exact .inl (qn1 e)
structure GoodM (σ:MS):Prop where
 mo:σ.mo = []\/okS σ.mo=true
 mc:q05 σ (qd9,([],v0))=true↔σ.mo ≠ []
 go:σ.go = []\/qaz σ.go=true
 gk:q05 σ (kGo,([],v0))=true↔σ.go ≠ []
 rq : ∀q∈σ.rq,q2t q.1 q.2=true
 rk : ∀p,q05 σ (q0r,(p,v0))=true↔p∈σ.rq.map Prod.fst
 rn:(σ.rq.map Prod.fst).Nodup
 sw : ∀q∈σ.sw,okS q.1=true/\q3r q.2=true
 sk : ∀p,q05 σ (qb3,(p,v0))=true↔p∈σ.sw.map Prod.fst
 sn:(σ.sw.map Prod.fst).Nodup
 ex : ∀q∈σ.ex,q2t q.1 q.2=true
 ek : ∀q:Rq,q05 σ (qb4,(q.1,q.2))=true↔q∈σ.ex
 en:σ.ex.Nodup
 rt : ∀x∈σ.rt,q0z (j5c x)=true/\q0z (qpj x)=true/\j4u (j5c x) (qpj x)<=0
theorem jc6 (c:Cl) (P:Prop) (h : ¬ P):q05 ms0 c=true↔P:=⟨fun e=>(by cases e),fun p=>absurd p h⟩
theorem jar:GoodM ms0 where
 mo:=.inl rfl
 mc:=jc6 _ _ (fun h=>h rfl)
 go:=.inl rfl
 gk:=jc6 _ _ (fun h=>h rfl)
 rq:=fun q h=>by cases h
 rk:=fun p=>jc6 _ _ (fun h=>by cases h)
 rn:=List.nodup_nil
 sw:=fun q h=>by cases h
 sk:=fun p=>jc6 _ _ (fun h=>by cases h)
 sn:=List.nodup_nil
 ex:=fun q h=>by cases h
 ek:=fun p=>jc6 _ _ (fun h=>by cases h)
 en:=List.nodup_nil
 rt:=fun q h=>by cases h
theorem qlm (sd:j4w) (c c':Cl) (v:Int×Int):(q01 clT c' (q0n clT c v sd)).isSome=true↔c'=c\/(q01 clT c' sd).isSome=true:=by
 rw [q1b]
 cases h:eqT clT c' c with
 | true =>
  have:=(qat c' c).1 h
  simp [this]
 | false =>
  have:c'≠c:=fun e=>by rw [(qat c' c).2 e] at h;cases h
  simp [this]
theorem qa8 {β:Type} {l:List β} {a:β} (h:l.Nodup) (ha:a ∉ l):(l ++ [a]).Nodup:=by
 rw [List.nodup_append]
 exact ⟨h,by simp,fun x hx y hy e=>by rw [List.mem_singleton.1 hy] at e;rw [e] at hx;exact ha hx⟩
theorem ok_ne {p:Yy} (h:okS p=true):p ≠ []:=(j2c h).1
theorem j68 {p:Yy} (h:qaz p=true):p ≠ []:=(qui h).1
theorem kd:qd9≠kGo/\qd9≠q0r/\qd9≠qb4/\qd9≠qb3/\kGo≠q0r/\kGo≠qb4/\kGo≠qb3/\q0r≠qb4/\q0r≠qb3/\qb4≠qb3:=by decide
theorem q0o {σ:MS} {a b:Yy} (h:a≠b) (x y:Yy×VD) (v:Int×Int):(q01 clT (a,x) (q0n clT (b,y) v σ.sd)).isSome=(q01 clT (a,x) σ.sd).isSome:=by
 rw [q30 (fun e=>h (congrArg Prod.fst e))]
theorem qgn {σ:MS} {c:Cl} {P:Prop} (h:q05 σ c=true↔P) (hc:q05 σ c=false) : ¬ P:=fun hp=>by rw [h.2 hp] at hc;cases hc
theorem qvq {σ σ':MS} {ws:List Lx.Wd} {st:Int} (g:GoodM σ) (h:Step σ st ws σ'):GoodM σ':=by
 obtain ⟨d1,d2,d3,d4,d5,d6,d7,d8,d9,d10⟩:=kd
 cases h with
 | mo w hw h hc =>
  exact ⟨.inr h,by show (q01 clT _ _).isSome=true↔_;rw [qlm];simp [ok_ne h],g.go,by show (q01 clT _ _).isSome=true↔_;rw [q0o d1.symm];exact g.gk,g.rq,fun p=>by show (q01 clT _ _).isSome=true↔_;rw [q0o d2.symm];exact g.rk p,g.rn,g.sw,fun p=>by show (q01 clT _ _).isSome=true↔_;rw [q0o d4.symm];exact g.sk p,g.sn,g.ex,fun p=>by show (q01 clT _ _).isSome=true↔_;rw [q0o d3.symm];exact g.ek p,g.en,g.rt⟩
 | go w hw h hc =>
  exact ⟨g.mo,by show (q01 clT _ _).isSome=true↔_;rw [q0o d1];exact g.mc,.inr h,by show (q01 clT _ _).isSome=true↔_;rw [qlm];simp [j68 h],g.rq,fun p=>by show (q01 clT _ _).isSome=true↔_;rw [q0o d5.symm];exact g.rk p,g.rn,g.sw,fun p=>by show (q01 clT _ _).isSome=true↔_;rw [q0o d7.symm];exact g.sk p,g.sn,g.ex,fun p=>by show (q01 clT _ _).isSome=true↔_;rw [q0o d6.symm];exact g.ek p,g.en,g.rt⟩
 | rq x q hx hz h ht hc =>
  refine ⟨g.mo,by show (q01 clT _ _).isSome=true↔_;rw [q0o d2];exact g.mc,g.go,by show (q01 clT _ _).isSome=true↔_;rw [q0o d5];exact g.gk,fun y hy=>?_,fun p=>?_,?_,g.sw,fun p=>by show (q01 clT _ _).isSome=true↔_;rw [q0o d9.symm];exact g.sk p,g.sn,g.ex,fun p=>by show (q01 clT _ _).isSome=true↔_;rw [q0o d8.symm];exact g.ek p,g.en,g.rt⟩
  ·rcases List.mem_append.1 hy with hy|hy
   ·exact g.rq y hy
   ·rw [List.mem_singleton.1 hy];exact h
  ·show (q01 clT _ _).isSome=true↔_
   rw [qlm]
   have:=g.rk p
   unfold q05 at this
   rw [this,List.map_append,List.mem_append]
   simp [or_comm]
  ·show ((σ.rq ++ [q]).map Prod.fst).Nodup
   rw [List.map_append]
   exact qa8 g.rn (qgn (g.rk q.1) hc)
 | ex x q hx hz h ht hc =>
  refine ⟨g.mo,by show (q01 clT _ _).isSome=true↔_;rw [q0o d3];exact g.mc,g.go,by show (q01 clT _ _).isSome=true↔_;rw [q0o d6];exact g.gk,g.rq,fun p=>by show (q01 clT _ _).isSome=true↔_;rw [q0o d8];exact g.rk p,g.rn,g.sw,fun p=>by show (q01 clT _ _).isSome=true↔_;rw [q0o d10.symm];exact g.sk p,g.sn,fun y hy=>?_,fun p=>?_,?_,g.rt⟩
  ·rcases List.mem_append.1 hy with hy|hy
   ·exact g.ex y hy
   ·rw [List.mem_singleton.1 hy];exact h
  ·show (q01 clT _ _).isSome=true↔_
   rw [qlm]
   have:=g.ek p
   unfold q05 at this
   rw [this,List.mem_append]
   obtain ⟨p1,p2⟩:=p
   obtain ⟨q1,q2⟩:=q
   simp [or_comm]
  ·exact qa8 g.en (qgn (g.ek q) hc)
 | sw x q hx hz h h2 hc =>
  refine ⟨g.mo,by show (q01 clT _ _).isSome=true↔_;rw [q0o d4];exact g.mc,g.go,by show (q01 clT _ _).isSome=true↔_;rw [q0o d7];exact g.gk,g.rq,fun p=>by show (q01 clT _ _).isSome=true↔_;rw [q0o d9];exact g.rk p,g.rn,fun y hy=>?_,fun p=>?_,?_,g.ex,fun p=>by show (q01 clT _ _).isSome=true↔_;rw [q0o d10];exact g.ek p,g.en,g.rt⟩
  ·rcases List.mem_append.1 hy with hy|hy
   ·exact g.sw y hy
   ·rw [List.mem_singleton.1 hy];exact ⟨h,h2⟩
  ·show (q01 clT _ _).isSome=true↔_
   rw [qlm]
   have:=g.sk p
   unfold q05 at this
   rw [this,List.map_append,List.mem_append]
   simp [or_comm]
  ·show ((σ.sw ++ [q]).map Prod.fst).Nodup
   rw [List.map_append]
   exact qa8 g.sn (qgn (g.sk q.1) hc)
 | rt x hz h h2 hc =>
  refine ⟨g.mo,g.mc,g.go,g.gk,g.rq,g.rk,g.rn,g.sw,g.sk,g.sn,g.ex,g.ek,g.en,fun y hy=>?_⟩
  rcases List.mem_append.1 hy with hy|hy
  ·exact g.rt y hy
  ·rw [List.mem_singleton.1 hy];exact ⟨h,h2,hc⟩
theorem j8g {σ:MS} (g:GoodM σ) (b:Yy):GoodM { σ with bk:=b }:=⟨g.mo,g.mc,g.go,g.gk,g.rq,g.rk,g.rn,g.sw,g.sk,g.sn,g.ex,g.ek,g.en,g.rt⟩
theorem qdp {σ σ':MS} {ws:List Lx.Wd} {st:Int} (g:GoodM σ) (e:q2j σ st ws = .inr σ'):GoodM σ':=by
 rcases q88 e with h|⟨b,rfl⟩
 ·exact qvq g h
 ·exact j8g g b
theorem qkw : ∀(ls:List Yy) (i st:Int) (σ σ':MS),GoodM σ->q1k ls i st σ = .inr σ'->GoodM σ'
 | [],i,st,σ,σ',g,e=>by cases e;exact g
 | t::ts,i,st,σ,σ',g,e=>by
  rw [q1k] at e
  split at e
  ·cases e
  ·rename_i σ1 h1
   exact qkw ts _ _ σ1 σ' (qdp g h1) e
def j15 (σ σ':MS):Prop:=(σ.mo ≠ []->σ'.mo=σ.mo)/\(σ.go ≠ []->σ'.go=σ.go)/\σ.rq <+: σ'.rq/\σ.sw <+: σ'.sw/\σ.ex <+: σ'.ex/\σ.rt <+: σ'.rt
theorem j15.rfl' (σ:MS):j15 σ σ:=⟨fun _=>rfl,fun _=>rfl,List.prefix_rfl,List.prefix_rfl,List.prefix_rfl,List.prefix_rfl⟩
theorem j15.trans {a b c:MS} (h1:j15 a b) (h2:j15 b c):j15 a c:=by
 obtain ⟨a1,a2,a3,a4,a5,a6⟩:=h1
 obtain ⟨b1,b2,b3,b4,b5,b6⟩:=h2
 exact ⟨fun h=>(b1 (by rw [a1 h];exact h)).trans (a1 h),fun h=>(b2 (by rw [a2 h];exact h)).trans (a2 h),a3.trans b3,a4.trans b4,a5.trans b5,a6.trans b6⟩
theorem qwk {σ σ':MS} {ws:List Lx.Wd} {st:Int} (g:GoodM σ) (e:q2j σ st ws = .inr σ'):j15 σ σ':=by
 rcases q88 e with h|⟨b,rfl⟩
 ·have p:=fun {β:Type} (l:List β) (x:β)=>List.prefix_append l [x]
  cases h with
  | mo w hw h hc=>exact ⟨fun hm=>absurd hm (qgn g.mc hc),fun _=>rfl,List.prefix_rfl,List.prefix_rfl,List.prefix_rfl,List.prefix_rfl⟩
  | go w hw h hc=>exact ⟨fun _=>rfl,fun hm=>absurd hm (qgn g.gk hc),List.prefix_rfl,List.prefix_rfl,List.prefix_rfl,List.prefix_rfl⟩
  | rq x q hx hz h ht hc=>exact ⟨fun _=>rfl,fun _=>rfl,p _ _,List.prefix_rfl,List.prefix_rfl,List.prefix_rfl⟩
  | ex x q hx hz h ht hc=>exact ⟨fun _=>rfl,fun _=>rfl,List.prefix_rfl,List.prefix_rfl,p _ _,List.prefix_rfl⟩
  | sw x q hx hz h h2 hc=>exact ⟨fun _=>rfl,fun _=>rfl,List.prefix_rfl,p _ _,List.prefix_rfl,List.prefix_rfl⟩
  | rt x hz h h2 hc=>exact ⟨fun _=>rfl,fun _=>rfl,List.prefix_rfl,List.prefix_rfl,List.prefix_rfl,p _ _⟩
 ·exact j15.rfl' σ
theorem ql9 : ∀(ls:List Yy) (i st:Int) (σ σ':MS),GoodM σ->q1k ls i st σ = .inr σ'->j15 σ σ'
 | [],i,st,σ,σ',g,e=>by cases e;exact j15.rfl' σ
 | t::ts,i,st,σ,σ',g,e=>by
  rw [q1k] at e
  split at e
  ·cases e
  ·rename_i σ1 h1
   exact (qwk g h1).trans (ql9 ts _ _ σ1 σ' (qdp g h1) e)
set_option synthInstance.maxSize 100000
set_option synthInstance.maxHeartbeats 0
theorem qxo {p x:Yy} {e:Int} (h:qfr p x = .inl e):e≠0:=by
 unfold qfr at h
 split at h
 ·cases h;decide
 ·split at h
  ·cases h;decide
  ·split at h<;>cases h;decide
theorem q5s {σ:MS} {c:Cl} {st:Int} {w:Lx.Wd} {e:Int} (h:q0p σ c st w = .inl e):e≠0:=by
 unfold q0p at h
 split at h<;>cases h;decide
theorem j9b {σ:MS} {v:Yy} {ws:List Lx.Wd} {st e:Int} (h:qan σ st v ws = .inl e):e≠0:=by
 unfold qan at h
 split at h
 ·cases h;decide
 ·split at h
  ·split at h
   ·cases h;decide
   ·exact q5s h
  ·split at h
   ·split at h
    ·cases h;decide
    ·exact q5s h
   ·split at h
    ·split at h
     ·rename_i hq;cases h;exact qxo hq
     ·exact q5s h
    ·split at h
     ·split at h
      ·rename_i hq;cases h;exact qxo hq
      ·exact q5s h
     ·split at h
      ·split at h
       ·cases h;decide
       ·split at h
        ·cases h;decide
        ·exact q5s h
      ·split at h
       ·cases h;decide
       ·split at h
        ·cases h;decide
        ·split at h<;>cases h;decide
theorem qs5 {σ:MS} {v:Yy} {ws:List Lx.Wd} {st e:Int} (h:q3t σ st v ws = .inl e):e≠0:=by
 unfold q3t at h
 split at h
 ·exact j9b h
 ·cases h;decide
theorem j33 {σ:MS} {ws:List Lx.Wd} {st e:Int} (h:q2j σ st ws = .inl e):e≠0:=by
 unfold q2j at h
 split at h
 ·cases h
 ·split at h
  ·split at h
   ·cases h
   ·exact qs5 h
  ·split at h
   ·cases h
   ·exact qs5 h
theorem qlv : ∀(ls:List Yy) (i st:Int) (σ:MS) (e:Int×Int),q1k ls i st σ = .inl e->e.2≠0
 | [],i,st,σ,e,h=>by cases h
 | t::ts,i,st,σ,e,h=>by
  rw [q1k] at h
  split at h
  ·rename_i h1;cases h;exact j33 h1
  ·exact qlv ts _ _ _ e h
structure IsM (s:Yy) (σ:MS):Prop where
 okc : ∀t∈Lx.q07 s,∀c∈t,Lx.okc c=true
 rd:q1k (Lx.q07 s) 0 0 ms0 = .inr σ
 bk:σ.bk = []
 mo:σ.mo ≠ []
theorem qyd {s:Yy} {σ:MS} {k:Int} (h:qa5 s = .inr (σ,k)):IsM s σ/\k=(((Lx.q07 s).length:Nat):Int):=by
 unfold qa5 at h
 split at h
 ·cases h
 ·rename_i h0
  split at h
  ·cases h
  ·rename_i σ1 h1
   split at h
   ·cases h
   ·rename_i h2
    split at h
    ·cases h
    ·rename_i h3
     cases h
     exact ⟨⟨qh0 _ 0 [] (by simpa using h0),h1,by simpa using h2,h3⟩,rfl⟩
theorem qhu {s:Yy} {σ:MS} (h:IsM s σ):qa5 s = .inr (σ,(((Lx.q07 s).length:Nat):Int)):=by
 unfold qa5
 rw [if_neg (by simpa using qgo _ 0 [] h.okc),h.rd]
 simp only [h.bk,h.mo,ne_eq,not_true_eq_false,if_false]
theorem qt1 {s:Yy} {σ:MS} (h:IsM s σ):q42 s=(σ.md,((((Lx.q07 s).length:Nat):Int),0)):=by unfold q42;rw [qhu h]
theorem qrx {s:Yy} (h:(q42 s).2.2=0) : ∃ σ,IsM s σ:=by
 cases hr:qa5 s with
 | inr x=>exact ⟨x.1,(qyd (k:=x.2) hr).1⟩
 | inl e =>
  exfalso
  have h':e.2=0:=by unfold q42 at h;rw [hr] at h;exact h
  unfold qa5 at hr
  split at hr
  ·rename_i h0;cases hr;exact h0 h'
  ·split at hr
   ·rename_i h1;cases hr;exact qlv _ _ _ _ _ h1 h'
   ·split at hr
    ·cases hr;exact absurd (show (10:Int)=0 from h') (by decide)
    ·split at hr
     ·cases hr;exact absurd (show (5:Int)=0 from h') (by decide)
     ·cases hr
theorem IsM.good {s:Yy} {σ:MS} (h:IsM s σ):GoodM σ:=qkw _ _ _ _ _ jar h.rd
theorem qej (a:Yy) (c:UInt8):Lx.q72 (a ++ [c])=decide (c=10):=by
 unfold Lx.q72
 by_cases h:c=10<;>simp [h]
theorem qz2 (a:Yy):Lx.q07 (a ++ [10])=spl 10 [] a:=by
 unfold Lx.q07
 rw [if_neg (by simp),qej,decide_eq_true rfl,if_pos rfl,List.dropLast_concat]
set_option synthInstance.maxSize 100000
set_option synthInstance.maxHeartbeats 0
def Sm (σ τ:MS):Prop:=σ.md=τ.md/\∀c,q05 σ c=q05 τ c
theorem Sm.mo {σ τ:MS} (h:Sm σ τ):σ.mo=τ.mo:=congrArg (fun m:MD=>m.1) h.1
theorem Sm.rfl' (σ:MS):Sm σ σ:=⟨rfl,fun _=>rfl⟩
def jc2 (b1 b2:Yy):Int⊕MS->Int⊕MS->Prop
 | .inl e,.inl e'=>e=e'
 | .inr σ,.inr τ=>Sm σ τ/\σ.bk=b1/\τ.bk=b2
 | _,_=>False
theorem q5v {σ τ:MS} {b1 b2:Yy} (h:Sm σ τ) (h1:σ.bk=b1) (h2:τ.bk=b2) (c:Cl) (st st':Int) (w w':Lx.Wd):jc2 b1 b2 (q0p σ c st w) (q0p τ c st' w'):=by
 have hc:=h.2 c
 unfold q05 at hc
 unfold q0p
 rw [hc]
 cases (q01 clT c τ.sd).isSome with
 | true=>rfl
 | false =>
  refine ⟨⟨h.1,fun c'=>?_⟩,h1,h2⟩
  have h3:=h.2 c'
  unfold q05 at h3 ⊢
  show (q01 clT c' (q0n clT c _ σ.sd)).isSome=(q01 clT c' (q0n clT c _ τ.sd)).isSome
  rw [q1b,q1b]
  cases eqT clT c' c with
  | true=>rfl
  | false=>exact h3
theorem j0l : ∀(r r':List Lx.Wd) (w w':Lx.Wd),w.1=w'.1->tx r=tx r'->(r.getLast?.getD w).1=(r'.getLast?.getD w').1
 | [],[],w,w',h,_=>h
 | [],_::_,_,_,_,h=>by cases h
 | _::_,[],_,_,_,h=>by cases h
 | a::r,b::r',w,w',h,e=>by
  obtain ⟨h1,h2⟩:=List.cons.inj e
  rw [List.getLast?_cons,List.getLast?_cons]
  exact j0l r r' a b h1 h2
theorem j48 {r r':List Lx.Wd} (h:tx r=tx r'):(r.headD ([],0)).1=(r'.headD ([],0)).1:=by
 cases r<;>cases r'<;>first|rfl|cases h|exact (List.cons.inj h).1
theorem j7o {σ τ:MS} {b1 b2:Yy} (h:Sm σ τ) (h1:σ.bk=b1) (h2:τ.bk=b2) (v:Yy) (st st':Int) {ws ws':List Lx.Wd} (hw:tx ws=tx ws'):jc2 b1 b2 (qan σ st v ws) (qan τ st' v ws'):=by
 obtain ⟨m1,g1,k1,s1,r1,w1,e1,t1⟩:=σ
 obtain ⟨m2,g2,k2,s2,r2,w2,e2,t2⟩:=τ
 have hc:=h.2
 have hm:=h.1
 simp only [MS.md,Prod.mk.injEq] at hm
 obtain ⟨rfl,rfl,rfl,rfl,rfl,rfl⟩:=hm
 cases ws with
 | nil =>
  cases ws' with
  | nil=>rfl
  | cons=>cases hw
 | cons w r =>
  cases ws' with
  | nil=>cases hw
  | cons w' r' =>
   obtain ⟨e0,e9⟩:=List.cons.inj hw
   have e1':=j48 e9
   have e2':=j0l r r' w w' e0 e9
   unfold qan
   simp only [e0,e1',e2']
   split
   ·split
    ·rfl
    ·exact q5v (by exact ⟨rfl,hc⟩) (by exact h1) (by exact h2) _ _ _ _ _
   ·split
    ·split
     ·rfl
     ·exact q5v (by exact ⟨rfl,hc⟩) (by exact h1) (by exact h2) _ _ _ _ _
    ·split
     ·split
      ·rfl
      ·exact q5v (by exact ⟨rfl,hc⟩) (by exact h1) (by exact h2) _ _ _ _ _
     ·split
      ·split
       ·rfl
       ·exact q5v (by exact ⟨rfl,hc⟩) (by exact h1) (by exact h2) _ _ _ _ _
      ·split
       ·split
        ·rfl
        ·split
         ·rfl
         ·exact q5v (by exact ⟨rfl,hc⟩) (by exact h1) (by exact h2) _ _ _ _ _
       ·split
        ·rfl
        ·split
         ·rfl
         ·split
          ·rfl
          ·exact ⟨⟨rfl,hc⟩,h1,h2⟩
theorem qx4 {ws ws':List Lx.Wd} (h:tx ws=tx ws'):shp ws=shp ws':=by
 have e : ∀ws:List Lx.Wd,ws.map q7h=(tx ws).map fun t=>if q4j t then t else [120]:=fun ws=>by simp [q7h,Function.comp_def]
 unfold shp
 rw [e,e,h]
theorem j4j : ∀{ws ws':List Lx.Wd},tx ws=tx ws'->tx (unm ws)=tx (unm ws')
 | [],[],_=>rfl
 | [],_::_,h=>by cases h
 | _::_,[],h=>by cases h
 | a::r,b::r',h=>by
  obtain ⟨h1,h2⟩:=List.cons.inj h
  have ih:=j4j h2
  unfold unm at ih ⊢
  rw [List.filter_cons,List.filter_cons,h1]
  split
  ·show a.1::tx _=b.1::tx _
   rw [ih,h1]
  ·exact ih
theorem qsd {σ τ:MS} {b1 b2:Yy} (h:Sm σ τ) (h1:σ.bk=b1) (h2:τ.bk=b2) (v:Yy) (st st':Int) {ws ws':List Lx.Wd} (hw:tx ws=tx ws'):jc2 b1 b2 (q3t σ st v ws) (q3t τ st' v ws'):=by
 unfold q3t
 rw [qx4 hw]
 split
 ·exact j7o h h1 h2 v st st' (j4j hw)
 ·rfl
def RelL:Int⊕MS->Int⊕MS->Prop
 | .inl e,.inl e'=>e=e'
 | .inr σ,.inr τ=>Sm σ τ/\σ.bk=τ.bk
 | _,_=>False
theorem jc2.toL {b:Yy} {x y:Int⊕MS} (h:jc2 b b x y):RelL x y:=by
 cases x<;>cases y
 ·exact h
 ·exact h
 ·exact h
 ·exact ⟨h.1,h.2.1.trans h.2.2.symm⟩
theorem j46 {σ τ:MS} (h:Sm σ τ) (hb:σ.bk=τ.bk) (st st':Int) {ws ws':List Lx.Wd} (hw:tx ws=tx ws'):RelL (q2j σ st ws) (q2j τ st' ws'):=by
 cases ws with
 | nil =>
  cases ws' with
  | nil=>exact ⟨h,hb⟩
  | cons=>cases hw
 | cons w r =>
  cases ws' with
  | nil=>cases hw
  | cons w' r' =>
   obtain ⟨e0,e9⟩:=List.cons.inj hw
   unfold q2j
   have q1:=qx4 hw
   have q2:=qx4 e9
   simp only [q1,q2,hb,e0]
   split
   ·split
    ·exact ⟨⟨h.1,h.2⟩,rfl⟩
    ·exact (qsd h hb rfl _ st st' e9).toL
   ·split
    ·exact ⟨⟨h.1,h.2⟩,rfl⟩
    ·exact (qsd h hb rfl _ st st' hw).toL
inductive Lns:List Yy->List Yy->Prop
 | nil:Lns [] []
 | both {a b:Yy} {r r':List Yy} (h:tx (q0v a)=tx (q0v b)) (hr:Lns r r'):Lns (a::r) (b::r')
 | more {b:Yy} {r r':List Yy} (h:q0v b = []) (hr:Lns r r'):Lns r (b::r')
theorem Lns.read {L L':List Yy} (h:Lns L L') : ∀(i i' st st':Int) (σ τ σ':MS),Sm σ τ->σ.bk=τ.bk->q1k L i st σ = .inr σ'->∃ τ',q1k L' i' st' τ = .inr τ'/\Sm σ' τ'/\σ'.bk=τ'.bk:=by
 induction h with
 | nil=>intro i i' st st' σ τ σ' h1 h2 e;cases e;exact ⟨τ,rfl,h1,h2⟩
 | both h hr ih =>
  intro i i' st st' σ τ σ' h1 h2 e
  have hl:=j46 h1 h2 st st' h
  rw [q1k] at e ⊢
  split at e
  ·cases e
  ·rename_i σ1 hs
   rw [hs] at hl
   split
   ·rename_i e' he';rw [he'] at hl;exact absurd hl id
   ·rename_i τ1 ht
    rw [ht] at hl
    exact ih _ _ _ _ _ _ _ hl.1 hl.2 e
 | more h hr ih =>
  intro i i' st st' σ τ σ' h1 h2 e
  rw [q1k,h]
  exact ih _ _ _ _ _ _ _ h1 h2 e
theorem Sm.bk {σ τ:MS} (h:Sm σ τ) (b:Yy):Sm σ { τ with bk:=b }:=⟨h.1,h.2⟩
theorem qv5 {p:Yy} (h:q3r p=true) : ∀c∈p,c=47\/q8r c=true:=by
 have h2:=(qhb h).2
 have h3:(spl 47 [] p).all (fun w=>w.all q8r)=true:=by
  rw [List.all_eq_true] at h2 ⊢
  exact fun w hw=>qqy (h2 w hw)
 exact ((qcj 47 q8r p []).1 h3).2
def word (w:Yy):Prop:=plain w/\q4j w=false
theorem qzr {w:Yy} (h:plain w) (h2:w ≠ [61,62]):word w:=by
 refine ⟨h,?_⟩
 cases hm:q4j w with
 | false=>rfl
 | true =>
  exfalso
  rcases q6i hm with e|e|e|e|e|e
  ·exact h2 e
  all_goals (rw [e] at h;exact absurd (h.2.2 _ (List.mem_cons_self ..)) (by decide))
theorem qzi {p:Yy} (h:q3r p=true):word p:=qzr (qgi h) fun e=>by
 rcases qv5 h 61 (by rw [e];decide) with h1|h1
 ·exact absurd h1 (by decide)
 ·exact absurd h1 (by decide)
theorem qvi {p:Yy} (h:okS p=true):word p:=qzi (qvd h).1
theorem q3q {v:VD} (h:q0z v=true):word (q06 v):=qzr (qti h) fun e=>by
 unfold q06 at e
 rw [if_pos h] at e
 exact absurd (List.cons.inj e).1 (by decide)
theorem q3i {p:Yy} {v:VD} (h:q2t p v=true):okS p=true/\q0z v=true:=by
 unfold q2t at h
 simp only [Bool.and_eq_true] at h
 exact ⟨h.1,h.2.1⟩
theorem qtc {v:VD} (h:q0z v=true):q0k (q06 v)=(v,true):=j3k h rfl
theorem j4y {ws:List Lx.Wd} {L:List Yy} (h:tx ws=L):shp ws=Lib.join (L.map fun t=>if q4j t then t else [120]) [32]:=by
 unfold shp
 rw [<-h]
 congr 1
 simp [q7h,Function.comp_def]
theorem j2l {p:Yy} {v:VD} (h:q2t p v=true):qfr p (q06 v) = .inr (p,v):=by
 obtain ⟨h1,h2⟩:=q3i h
 unfold qfr
 rw [qtc h2,h1,h]
 rfl
theorem qzs:Lib.join [[(120:UInt8)],[120]] [32] = [120,32,120]:=by decide
theorem qsq {σ:MS} {c:Cl} {st:Int} {w:Lx.Wd} (h:q05 σ c=false):q0p σ c st w = .inr { σ with sd:=q0n clT c (ps st w) σ.sd }:=by
 unfold q05 at h
 unfold q0p
 rw [h];rfl
end Go.Proofs.YtapfankgdkdkgaaGreatDoor.AM
