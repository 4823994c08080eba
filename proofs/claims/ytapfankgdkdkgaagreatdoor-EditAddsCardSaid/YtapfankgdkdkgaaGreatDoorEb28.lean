
import Derived.Test.YtapfankgdkdkgaaGreatDoorEb27
import Derived.Test.YtapfankgdkdkgaaGreatDoorEb25
import Derived.Test.YtapfankgdkdkgaaGreatDoorEb26
import Derived.Test.YtapfankgdkdkgaaGreatDoorEb12
import Derived.Test.YtapfankgdkdkgaaGreatDoorEb8
import Derived.Test.YtapfankgdkdkgaaGreatDoorRows
import Derived.Test.YtapfankgdkdkgaaGreatDoorEb9
import Derived.LaidLaws
import Derived.LaidHandle
import Derived.Stop.LaidErr
import Derived.Lib.LaidTab
import Derived.Lay
set_option linter.unusedVariables false
set_option linter.unusedSimpArgs false
set_option maxRecDepth 100000
namespace Go.Proofs.YtapfankgdkdkgaaGreatDoor.AM
open Go.RowKit
set_option synthInstance.maxSize 100000
set_option synthInstance.maxHeartbeats 0
def qb5 (s:Yy) (r:Rq):Int:=if (q3w s).2.2=0 then (if okS r.1=false then 6 else if q0r r.2=false then 7 else if q40 r.1 r.2=false then 8 else 0) else (q3w s).2.2
def setM (s:Yy) (r:Rq):Yy×Int:=if qb5 s r=0 then (if (q1z s r.1).2.2=true then (s.take (q1z s r.1).1.toNat++(q0b r.2++s.drop (q1z s r.1).2.1.toNat),0) else ([],5)) else ([],qb5 s r)
def qs2 (s:Yy) (r:Rq):Yy×Int:=if qb5 s r=0 then (if (q1z s r.1).2.2=true then ([],11) else ((if Lx.q4n s=true then s else s ++ [10])++(qee r ++ [10]),0)) else ([],qb5 s r)
theorem qoq {s p:Yy} (h:(q1z s p).2.2=true) : ∃ (σ:MS) (q:Rq) (a:Nat),IsM s σ∧q∈σ.rq∧q.1=p∧q1z s p=((a:Int),(((a+(q0b q.2).length:Nat):Int),true))∧a+(q0b q.2).length≤s.length∧(s.drop a).take (q0b q.2).length=q0b q.2:=by
 cases hr:q9j s with
 | inl e=>unfold q1z at h;rw [hr] at h;cases h
 | inr x =>
  have hi:=(jce (σ:=x.1) (k:=x.2) hr).1
  have g:=hi.good
  have hc:q04 x.1 (q0x,(p,v0))=true:=by
   unfold q1z at h
   rw [hr] at h
   unfold q04
   cases hk:q02 clT (q0x,(p,v0)) x.1.sd with
   | none =>
    exfalso
    have h':(match q02 clT (q0x,(p,v0)) x.1.sd with|some x=>(x.1,(x.2,true))|none=>((0:Int),((0:Int),false))).2.2=true:=h
    rw [hk] at h'
    cases h'
   | some y=>rfl
  obtain ⟨q,hq,hp⟩:=List.mem_map.1 ((g.rk p).1 hc)
  obtain ⟨a,e1,e2,e3⟩:=jhq hi hq
  rw [hp] at e1
  exact ⟨x.1,q,a,hi,hq,hp,e1,e2,e3⟩
theorem qxk (n:Nat) (s:Yy) (r:Rq) (hs:s.length≤100000) (hr:r.1.length≤1000) (hn:1000000<n):qdu n s r=some (qb5 s r):=by
 unfold qdu qb5
 simp only [ql3 n s hs (by omega),Option.bind_some]
 by_cases h0:(q3w s).2.2=0
 ·simp only [h0,decide_true,Bool.not_true,cond_false,if_true,q8h n r.1 (show _≤1000000 by omega) (by omega),Option.bind_some]
  cases okS r.1 with
  | false=>rfl
  | true =>
   simp only [Bool.not_true,cond_false,Bool.true_eq_false,if_false,q44 n r.2 (show 4≤n by omega),Option.bind_some]
   cases q0r r.2 with
   | false=>rfl
   | true =>
    simp only [Bool.not_true,cond_false,Bool.true_eq_false,if_false,qow n r.1 r.2 (show _≤1000000 by omega) (show r.1.length<n by omega) (show 4≤n by omega),Option.bind_some]
    cases q40 r.1 r.2<;>rfl
 ·simp only [h0,decide_false,Bool.not_false,cond_true,if_false]
theorem j4f {s:Yy} {r:Rq} (h:qb5 s r=0):(∃ σ,IsM s σ)∧q40 r.1 r.2=true:=by
 unfold qb5 at h
 split at h
 ·rename_i h0
  split at h
  ·cases h
  ·split at h
   ·cases h
   ·split at h
    ·cases h
    ·rename_i h3
     exact ⟨jeg h0,by simpa using h3⟩
 ·rename_i h0;exact absurd h h0
theorem jbi (n:Nat) (s:Yy) (hs:s.length≤1000000):q7f n s [10]=some (Lx.q4n s):=by
 unfold q7f q2l
 rcases List.eq_nil_or_concat s with rfl|⟨m,c,rfl⟩
 ·rfl
 ·rw [List.concat_eq_append,q6t]
  have hl:(m ++ [c]).length=m.length+1:=by simp
  have c1:((([(10:UInt8)].length:Nat):Int)≤(((m ++ [c]).length:Nat):Int)):=by rw [hl];simp;omega
  have w1:IntKind.wrap .i64 ((((m ++ [c]).length:Nat):Int) - (([(10:UInt8)].length:Nat):Int))=((m.length:Nat):Int):=by
   rw [hl];simp only [List.length_cons,List.length_nil];simp at hs;rw [wrap64 (by omega) (by omega)];omega
  have s1:q0w (m ++ [c]) ((m.length:Nat):Int) (((m ++ [c]).length:Nat):Int)=some [c]:=by
   rw [sub_le (by rw [hl];omega) (Nat.le_refl _)];simp
  simp only [c1,decide_true,cond_true,q00,w1,s1,Option.bind_some]
  congr 1
  by_cases h:c=10<;>simp [h]
theorem jcb (n:Nat) (s:Yy) (r:Rq) (hs:s.length≤100000) (hr:r.1.length≤1000) (hn:1000000<n):qoo n s r=some (qs2 s r):=by
 have ht:=qpe r.2
 unfold qoo qs2
 rw [qxk n s r hs hr hn,Option.bind_some]
 by_cases h0:qb5 s r=0
 ·simp only [h0,decide_true,Bool.not_true,cond_false,if_true,j0j,qjv n s r.1 hs (by omega),Option.bind_some]
  cases (q1z s r.1).2.2 with
  | true=>rfl
  | false =>
   simp only [cond_false,Bool.false_eq_true,if_false,jbi n s (by omega),Option.bind_some,qnj n r.2 (show 4≤n by omega)]
   cases he:Lx.q4n s with
   | true =>
    simp only [Bool.not_true,cond_false,if_true]
    rw [q64 (by simp;omega),Option.bind_some,q64 (by simp;omega),Option.bind_some,q64 (by simp;omega),Option.bind_some,q64 (by simp;omega),Option.bind_some,q64 (by simp;omega),Option.bind_some,q64 (by simp;omega),Option.bind_some,qxh]
    simp
   | false =>
    simp only [Bool.not_false,cond_true,Bool.false_eq_true,if_false]
    rw [q64 (by simp;omega),Option.bind_some,q64 (by simp;omega),Option.bind_some,q64 (by simp;omega),Option.bind_some,q64 (by simp;omega),Option.bind_some,q64 (by simp;omega),Option.bind_some,q64 (by simp;omega),Option.bind_some,q64 (by simp;omega),Option.bind_some,qxh]
    simp
 ·simp only [h0,decide_false,Bool.not_false,cond_true,if_false]
theorem j33 (n:Nat) (l:List Rq) (hL:l.length≤9223372036854775807) : ∀ m j:Nat,j≤l.length→l.length - j<m→q6n n m l (j:Int)=some (if (l.drop j).all jkw=true then Sum.inr ((l,()),((),())) else Sum.inl ((false,()),((),())))
 | 0,j,_,h=>absurd h (Nat.not_lt_zero _)
 | m+1,j,hj,h=>by
  rw [qfi]
  unfold qlk
  by_cases c0:j<l.length
  ·have c0':((j:Nat):Int)<((l.length:Nat):Int):=by omega
   have ih:=j33 n l hL m (j+1) (by omega) (by omega)
   have w1:IntKind.wrap .i64 ((j:Int)+1)=((j+1:Nat):Int):=by rw [wrap64 (by omega) (by omega)];omega
   have g1:=gtI l[j].1 200
   have g2:=gtI l[j].2.2.2.2.1 200
   have g3:=gtI l[j].2.2.2.2.2 200
   rw [show ((200:Nat):Int)=(200:Int) from rfl] at g1 g2 g3
   rw [List.drop_eq_getElem_cons c0,List.all_cons,jkw]
   simp only [c0',decide_true,cond_true,q0l c0,Option.bind_some,q00,w1,g1,g2,g3]
   cases decide (l[j].1.length≤200) with
   | false=>rfl
   | true =>
    cases decide (l[j].2.2.2.2.1.length≤200) with
    | false=>rfl
    | true =>
     cases decide (l[j].2.2.2.2.2.length≤200) with
     | false=>rfl
     | true =>
      simp only [Bool.not_true,cond_false,Bool.true_and]
      exact ih
  ·have c0' : ¬ ((j:Nat):Int)<((l.length:Nat):Int):=by omega
   simp only [c0',decide_false,cond_false]
   rw [List.drop_eq_nil_of_le (by omega)]
   rfl
theorem jgf (n:Nat) (l:List Rq) (hL:l.length≤9223372036854775807) (hn:9223372036854775807<n):qgy n l=some (l.all jkw&&decide (l.length≤20)):=by
 unfold qgy
 have h:=j33 n l hL n 0 (Nat.zero_le _) (by omega)
 rw [zI,List.drop_zero] at h
 rw [h]
 have g:=leI l.length 20
 rw [show ((20:Nat):Int)=(20:Int) from rfl] at g
 cases l.all jkw with
 | false=>rfl
 | true=>simp only [if_true,Option.bind_some,Sum.elim_inr,g,Bool.true_and]
theorem jgg {q:Rq} (h:jkw q=true):q.1.length≤200:=by
 unfold jkw at h
 simp only [Bool.and_eq_true,decide_eq_true_eq] at h
 exact h.1
set_option synthInstance.maxSize 100000
set_option synthInstance.maxHeartbeats 0
theorem qhw {s:Yy} {σ:MS} (h:IsM s σ) (p:Yy):q1z s p=match q02 clT (q0x,(p,v0)) σ.sd with|some x=>(x.1,(x.2,true))|none=>((0:Int),((0:Int),false)):=by
 unfold q1z
 rw [qx9 h]
 cases hk:q02 clT (q0x,(p,v0)) σ.sd<;>simp only [hk]
structure SetOk (s:Yy) (q:Rq) (σ τ:MS) (u r:Yy) (v:VD):Prop where
 is:IsM s σ
 ft:q40 q.1 q.2=true
 sp:s=u++(q0b v++r)
 mem:(q.1,v)∈σ.rq
 wh:q1z s q.1=((u.length:Int),(((u.length+(q0b v).length:Nat):Int),true))
 eq:setM s q=(u++(q0b q.2++r),0)
 ist:IsM (u++(q0b q.2++r)) τ
 sv:Sv q.1 q.2 (u.length:Int) (((q0b v).length:Nat):Int) ((((q0b q.2).length:Nat):Int) - (((q0b v).length:Nat):Int)) σ τ
 ln:(Lx.q03 (u++(q0b q.2++r))).length=(Lx.q03 s).length
theorem SetOk.me {s:Yy} {q:Rq} {σ τ:MS} {u r:Yy} {v:VD} (h:SetOk s q σ τ u r v):q1z (u++(q0b q.2++r)) q.1=((u.length:Int),(((u.length+(q0b q.2).length:Nat):Int),true)):=by
 rw [qhw h.ist,h.sv.me]
 simp
set_option synthInstance.maxSize 100000
set_option synthInstance.maxHeartbeats 0
def oth (p:Yy) (l:List Rq):List Rq:=l.filter fun q=>!decide (q.1=p)
theorem q9z (n:Nat) (a b:List Rq) (p:Yy) (hL:a.length≤1000000) : ∀ (m j:Nat) (out:List Rq),j≤a.length→a.length - j<m→out.length≤j→q3r n m a b p (j:Int) out=some ((b,(p,((),((),())))),((),(out++oth p (a.drop j),())))
 | 0,j,_,_,h,_=>absurd h (Nat.not_lt_zero _)
 | m+1,j,out,hj,h,ho=>by
  rw [qay]
  unfold q99
  by_cases c0:j<a.length
  ·have c0':((j:Nat):Int)<((a.length:Nat):Int):=by omega
   have a1:q1t 72 out [a[j]]=some (out ++ [a[j]]):=q1s (by simp;omega)
   rw [List.drop_eq_getElem_cons c0,oth,List.filter_cons]
   simp only [c0',decide_true,cond_true,q0l c0,Option.bind_some,a1,q00,q05 (show j<4611686018427387904 by omega)]
   by_cases hp:a[j].1=p
   ·simp only [hp,decide_true,Bool.not_true,cond_false,Bool.false_eq_true,if_false]
    rw [q9z n a b p hL m (j+1) _ (by omega) (by omega) (by omega)];rfl
   ·simp only [hp,decide_false,Bool.not_false,cond_true,if_true]
    rw [q9z n a b p hL m (j+1) _ (by omega) (by omega) (by simp;omega)]
    simp [oth]
  ·have c0' : ¬ ((j:Nat):Int)<((a.length:Nat):Int):=by omega
   simp only [c0',decide_false,cond_false]
   rw [List.drop_eq_nil_of_le (by omega)]
   simp [oth]
theorem q9x (n:Nat) (a:List Rq) (p:Yy) (x:List Rq) (hL:a.length≤1000000) : ∀ (m j:Nat) (out:List Rq),j≤a.length→a.length - j<m→out.length≤j→q3o n m a p (j:Int) x out=some (((),((),())),((),(x,(out++oth p (a.drop j),()))))
 | 0,j,_,_,h,_=>absurd h (Nat.not_lt_zero _)
 | m+1,j,out,hj,h,ho=>by
  rw [qb1]
  unfold q9t
  by_cases c0:j<a.length
  ·have c0':((j:Nat):Int)<((a.length:Nat):Int):=by omega
   have a1:q1t 72 out [a[j]]=some (out ++ [a[j]]):=q1s (by simp;omega)
   rw [List.drop_eq_getElem_cons c0,oth,List.filter_cons]
   simp only [c0',decide_true,cond_true,q0l c0,Option.bind_some,a1,q00,q05 (show j<4611686018427387904 by omega)]
   by_cases hp:a[j].1=p
   ·simp only [hp,decide_true,Bool.not_true,cond_false,Bool.false_eq_true,if_false]
    rw [q9x n a p x hL m (j+1) _ (by omega) (by omega) (by omega)];rfl
   ·simp only [hp,decide_false,Bool.not_false,cond_true,if_true]
    rw [q9x n a p x hL m (j+1) _ (by omega) (by omega) (by simp;omega)]
    simp [oth]
  ·have c0' : ¬ ((j:Nat):Int)<((a.length:Nat):Int):=by omega
   simp only [c0',decide_false,cond_false]
   rw [List.drop_eq_nil_of_le (by omega)]
   simp [oth]
theorem qy7 (n:Nat) (a b:List Rq) (p:Yy) (ha:a.length≤1000000) (hb:b.length≤1000000) (hn:1000000<n):q46 n a b p=some (decide (oth p a=oth p b)):=by
 unfold q46
 have h0:=q9z n a b p ha n 0 [] (Nat.zero_le _) (by omega) (Nat.le_refl _)
 have h1:=q9x n b p (oth p a) hb n 0 [] (Nat.zero_le _) (by omega) (Nat.le_refl _)
 rw [zI,List.drop_zero,List.nil_append] at h0 h1
 have hl:(oth p a).length≤1000000:=Nat.le_trans (List.length_filter_le ..) ha
 simp only [h0,Option.bind_some,h1,q9b n (oth p a) (oth p b) hl hn]
set_option synthInstance.maxSize 100000
set_option synthInstance.maxHeartbeats 0
set_option synthInstance.maxSize 100000
set_option synthInstance.maxHeartbeats 0
structure Dv (p:Yy) (σ τ:MS):Prop where
 mo:τ.mo=σ.mo
 go:τ.go=σ.go
 bk:τ.bk=σ.bk
 rq:τ.rq=oth p σ.rq
 sw:τ.sw=σ.sw
 ex:τ.ex=σ.ex
 rt:τ.rt=σ.rt
 cl : ∀ c,c≠(q0x,(p,v0))→q04 τ c=q04 σ c
 ip:q04 σ (q0x,(p,v0))=true
theorem jet {p:Yy} {σ τ:MS} (h:Dv p σ τ) {c:Cl} (y y':Int×Int):Dv p { σ with sd:=q1q clT c y σ.sd } { τ with sd:=q1q clT c y' τ.sd }:=by
 refine ⟨h.mo,h.go,h.bk,h.rq,h.sw,h.ex,h.rt,fun c' hc'=>?_,?_⟩
 ·have:=h.cl c' hc'
  unfold q04 at this ⊢
  show (q02 clT c' (q1q clT c _ τ.sd)).isSome=(q02 clT c' (q1q clT c _ σ.sd)).isSome
  rw [q4c,q4c]
  cases eqT clT c' c with
  | true=>rfl
  | false=>exact this
 ·have:=h.ip
  unfold q04 at this ⊢
  show (q02 clT (q0x,(p,v0)) (q1q clT c _ σ.sd)).isSome=true
  rw [q4c]
  cases eqT clT (q0x,(p,v0)) c with
  | true=>rfl
  | false=>exact this
theorem jal {p:Yy} {σ τ σ':MS} (h:Dv p σ τ) {c:Cl} {st st':Int} {w:Lx.Wd} (e:q0p σ c st w = .inr σ') : ∃ τ',q0p τ c st' w = .inr τ'∧Dv p σ' τ':=by
 obtain ⟨hc,rfl⟩:=q3s e
 have hcp:c≠(q0x,(p,v0)):=fun e=>by rw [e,h.ip] at hc;cases hc
 exact ⟨_,q84 (by rw [h.cl c hcp];exact hc),jet h _ _⟩
theorem jq5 {p:Yy} {σ τ σ':MS} (h:Dv p σ τ) {st st':Int} (v:Yy) {ws:List Lx.Wd} (e:q8w σ st v ws = .inr σ') : ∃ τ',q8w τ st' v ws = .inr τ'∧Dv p σ' τ':=by
 cases ws with
 | nil=>cases e
 | cons w r =>
  rw [qso] at e ⊢
  split at e
  ·rename_i hv
   rw [if_pos hv]
   split at e
   ·cases e
   ·rename_i h1
    rw [if_neg h1]
    exact jal (σ:={ σ with mo:=w.1 }) (τ:={ τ with mo:=w.1 }) ⟨rfl,h.go,h.bk,h.rq,h.sw,h.ex,h.rt,h.cl,h.ip⟩ e
  ·rename_i hv
   rw [if_neg hv]
   split at e
   ·rename_i hv2
    rw [if_pos hv2]
    split at e
    ·cases e
    ·rename_i h1
     rw [if_neg h1]
     exact jal (σ:={ σ with go:=w.1 }) (τ:={ τ with go:=w.1 }) ⟨h.mo,rfl,h.bk,h.rq,h.sw,h.ex,h.rt,h.cl,h.ip⟩ e
   ·rename_i hv2
    rw [if_neg hv2]
    split at e
    ·rename_i hv3
     rw [if_pos hv3]
     cases hq:qeb w.1 ((r.headD ([],0)).1) with
     | inl e1=>rw [hq] at e;cases e
     | inr q =>
      rw [hq] at e
      have hne:q.1≠p:=fun hqp=>by
       have:=(q3s e).1
       rw [hqp] at this
       have hi:q04 { σ with rq:=σ.rq ++ [q] } (q0x,(p,v0))=true:=h.ip
       rw [hi] at this
       cases this
      exact jal (σ:={ σ with rq:=σ.rq ++ [q] }) (τ:={ τ with rq:=τ.rq ++ [q] }) ⟨h.mo,h.go,h.bk,by show τ.rq ++ [q]=oth p (σ.rq ++ [q]);rw [h.rq];simp [oth,hne],h.sw,h.ex,h.rt,h.cl,h.ip⟩ e
    ·rename_i hv3
     rw [if_neg hv3]
     split at e
     ·rename_i hv4
      rw [if_pos hv4]
      cases hq:qeb w.1 ((r.headD ([],0)).1) with
      | inl e1=>rw [hq] at e;cases e
      | inr q =>
       rw [hq] at e
       exact jal (σ:={ σ with ex:=σ.ex ++ [q] }) (τ:={ τ with ex:=τ.ex ++ [q] }) ⟨h.mo,h.go,h.bk,h.rq,h.sw,by show τ.ex ++ [q]=σ.ex ++ [q];rw [h.ex],h.rt,h.cl,h.ip⟩ e
     ·rename_i hv4
      rw [if_neg hv4]
      split at e
      ·rename_i hv5
       rw [if_pos hv5]
       split at e
       ·cases e
       ·rename_i h1
        rw [if_neg h1]
        split at e
        ·cases e
        ·rename_i h2
         rw [if_neg h2]
         exact jal (σ:={ σ with sw:=σ.sw ++ [(w.1,(r.headD ([],0)).1)] }) (τ:={ τ with sw:=τ.sw ++ [(w.1,(r.headD ([],0)).1)] }) ⟨h.mo,h.go,h.bk,h.rq,by show τ.sw++_=σ.sw++_;rw [h.sw],h.ex,h.rt,h.cl,h.ip⟩ e
      ·rename_i hv5
       rw [if_neg hv5]
       split at e
       ·cases e
       ·rename_i h1
        rw [if_neg h1]
        split at e
        ·cases e
        ·rename_i h2
         rw [if_neg h2]
         split at e
         ·cases e
         ·rename_i h3
          rw [if_neg h3]
          cases e
          exact ⟨_,rfl,⟨h.mo,h.go,h.bk,h.rq,h.sw,h.ex,by show τ.rt++_=σ.rt++_;rw [h.rt],h.cl,h.ip⟩⟩
theorem jd7 {p:Yy} {σ τ σ':MS} (h:Dv p σ τ) {st st':Int} (v:Yy) {ws:List Lx.Wd} (e:q53 σ st v ws = .inr σ') : ∃ τ',q53 τ st' v ws = .inr τ'∧Dv p σ' τ':=by
 unfold q53 at e ⊢
 split at e
 ·rename_i hm
  rw [if_pos hm]
  exact jq5 h v e
 ·cases e
theorem jqc {p:Yy} {σ τ:MS} (h:Dv p σ τ) (b:Yy):Dv p { σ with bk:=b } { τ with bk:=b }:=⟨h.mo,h.go,rfl,h.rq,h.sw,h.ex,h.rt,h.cl,h.ip⟩
theorem jmc {p:Yy} {σ τ σ':MS} (h:Dv p σ τ) {st st':Int} {ws:List Lx.Wd} (e:q3l σ st ws = .inr σ') : ∃ τ',q3l τ st' ws = .inr τ'∧Dv p σ' τ':=by
 cases ws with
 | nil=>cases e;exact ⟨τ,rfl,h⟩
 | cons w r =>
  unfold q3l at e ⊢
  simp only at e ⊢
  rw [h.bk]
  split at e
  ·rename_i hb
   rw [if_pos hb]
   split at e
   ·rename_i hc
    rw [if_pos hc]
    cases e
    exact ⟨_,rfl,jqc h w.1⟩
   ·rename_i hc
    rw [if_neg hc]
    exact jd7 h w.1 e
  ·rename_i hb
   rw [if_neg hb]
   split at e
   ·rename_i hc
    rw [if_pos hc]
    cases e
    exact ⟨_,rfl,jqc h []⟩
   ·rename_i hc
    rw [if_neg hc]
    exact jd7 h σ.bk e
theorem j7e {p:Yy} : ∀ (ls:List Yy) (i i' st st':Int) (σ τ σ':MS),Dv p σ τ→q0y ls i st σ = .inr σ'→∃ τ',q0y ls i' st' τ = .inr τ'∧Dv p σ' τ'
 | [],i,i',st,st',σ,τ,σ',h,e=>by cases e;exact ⟨τ,rfl,h⟩
 | t::ts,i,i',st,st',σ,τ,σ',h,e=>by
  rw [q0y] at e ⊢
  split at e
  ·cases e
  ·rename_i σ1 h1
   obtain ⟨τ1,h2,h3⟩:=jmc (st':=st') h h1
   rw [h2]
   exact j7e ts _ (i'+1) _ (st'+((t.length:Nat):Int)+1) σ1 τ1 σ' h3 e
theorem jbm {σ σ':MS} {ws:List Lx.Wd} {st:Int} {c:Cl} {y:Int×Int} (h:q02 clT c σ.sd=some y) (e:q3l σ st ws = .inr σ'):q02 clT c σ'.sd=some y:=by
 have hc:q04 σ c=true:=by unfold q04;rw [h];rfl
 have key : ∀ (c':Cl) (v:Int×Int),q04 σ c'=false→q02 clT c (q1q clT c' v σ.sd)=some y:=fun c' v hc'=>by
  rw [q3x (fun e=>by rw [e,hc'] at hc;cases hc)];exact h
 rcases qdd e with hs|⟨b,rfl⟩
 ·cases hs with
  | mo w hw h0 hc'=>exact key _ _ hc'
  | go w hw h0 hc'=>exact key _ _ hc'
  | rq x q hx hz h0 h1 hc'=>exact key _ _ hc'
  | ex x q hx hz h0 h1 hc'=>exact key _ _ hc'
  | sw x q hx hz h0 h1 hc'=>exact key _ _ hc'
  | rt x hz h0 h1 hc'=>exact h
 ·exact h
theorem qm6 : ∀ (ls:List Yy) (i st:Int) (σ σ':MS) (c:Cl) (y:Int×Int),q02 clT c σ.sd=some y→q0y ls i st σ = .inr σ'→q02 clT c σ'.sd=some y
 | [],i,st,σ,σ',c,y,h,e=>by cases e;exact h
 | t::ts,i,st,σ,σ',c,y,h,e=>by
  rw [q0y] at e
  split at e
  ·cases e
  ·rename_i σ1 h1
   exact qm6 ts _ _ σ1 σ' c y (jbm h h1) e
theorem qf0 (p:Yy) : ∀ (ls:List Yy) (i st:Int) (σ0 σ:MS),q0y ls i st σ0 = .inr σ→GoodM σ0→q04 σ0 (q0x,(p,v0))=false→q04 σ (q0x,(p,v0))=true →
  ∃ L1 u v r L2 σ2,ls=L1++(u++(q0b v++r))::L2∧q0y (L1 ++ [u++(q0b v++r)]) i st σ0 = .inr σ2∧q04 σ2 (q0x,(p,v0))=true∧(p,v)∈σ.rq∧q02 clT (q0x,(p,v0)) σ.sd=some (st+((tot L1+u.length:Nat):Int),st+((tot L1+u.length+(q0b v).length:Nat):Int)) ∧
   ∀ i',∃ τ,q0y (L1++L2) i' st σ0 = .inr τ∧Dv p σ τ
 | [],i,st,σ0,σ,e,g,h0,h1=>by cases e;rw [h0] at h1;cases h1
 | t::ts,i,st,σ0,σ,e,g,h0,h1=>by
  rw [q0y] at e
  split at e
  ·cases e
  ·rename_i σ1 hs
   have g1:=qdz g hs
   have wrap:q04 σ1 (q0x,(p,v0))=false→∃ L1 u v r L2 σ2,t::ts=L1++(u++(q0b v++r))::L2∧q0y (L1 ++ [u++(q0b v++r)]) i st σ0 = .inr σ2∧q04 σ2 (q0x,(p,v0))=true∧(p,v)∈σ.rq∧q02 clT (q0x,(p,v0)) σ.sd=some (st+((tot L1+u.length:Nat):Int),st+((tot L1+u.length+(q0b v).length:Nat):Int)) ∧
     ∀ i',∃ τ,q0y (L1++L2) i' st σ0 = .inr τ∧Dv p σ τ:=fun hc=>by
    obtain ⟨L1,u,v,r,L2,σ2,e1,e2,e3,e4,e5,e6⟩:=qf0 p ts (i+1) (st+((t.length:Nat):Int)+1) σ1 σ e g1 hc h1
    have es : ∀ k:Nat,st+((t.length:Nat):Int)+1+((tot L1+k:Nat):Int)=st+((tot (t::L1)+k:Nat):Int):=fun k=>by rw [tot];omega
    refine ⟨t::L1,u,v,r,L2,σ2,by rw [e1];rfl,by rw [List.cons_append,q0y,hs];exact e2,e3,e4,?_,fun i'=>?_⟩
    ·rw [e5,es u.length,Nat.add_assoc,es (u.length+(q0b v).length),Nat.add_assoc]
    ·obtain ⟨τ,f1,f2⟩:=e6 (i'+1)
     exact ⟨τ,by rw [List.cons_append,q0y,hs];exact f1,f2⟩
   rcases j4g hs with ⟨s1,s2⟩|⟨A,w,x,q,a1,a2,a3,a4,a5,a6,a7⟩
   ·exact wrap (by unfold q04 at h0 ⊢;rw [s2];exact h0)
   ·by_cases hq:q.1=p
    ·subst hq
     have hw1:q0v t=(A ++ [w])++x :: []:=by rw [a1];simp
     have hpl:plain x.1:=by rw [a4];exact (q9a (q7o a5).2).1
     obtain ⟨u,r,b1,b2,b3⟩:=jgc hw1 hpl
     rw [a4] at b1
     have hlook:q02 clT (q0x,(q.1,v0)) σ1.sd=some (ps st x):=by rw [a7];exact qj2 _ _ _
     have hps:ps st x=(st+((u.length:Nat):Int),st+((u.length+(q0b q.2).length:Nat):Int)):=by
      rw [ps,b2,a4]
      refine Prod.ext ?_ ?_<;>simp only<;>omega
     have hm:=quv _ _ _ _ _ g1 e
     have hmem:q∈σ1.rq:=by rw [a7];exact List.mem_append_right _ (List.mem_singleton.2 rfl)
     have hnp:q.1 ∉ σ0.rq.map Prod.fst:=qo1 (g.rk q.1) a6
     have hdv:Dv q.1 σ1 σ0:=by
      rw [a7]
      refine ⟨rfl,rfl,rfl,?_,rfl,rfl,rfl,fun c hc=>?_,?_⟩
      ·show σ0.rq=oth q.1 (σ0.rq ++ [q])
       unfold oth
       rw [List.filter_append,List.filter_eq_self.2 (fun y hy=>by
        have:y.1≠q.1:=fun h=>hnp (List.mem_map.2 ⟨y,hy,h⟩)
        simp [this])]
       simp
      ·unfold q04
       show (q02 clT c σ0.sd).isSome=(q02 clT c (q1q clT _ _ σ0.sd)).isSome
       rw [q3x hc]
      ·unfold q04
       show (q02 clT _ (q1q clT _ _ σ0.sd)).isSome=true
       rw [qj2];rfl
     refine ⟨[],u,q.2,r,ts,σ1,by rw [← b1];rfl,by rw [← b1,List.nil_append,q0y,hs];rfl,by unfold q04;rw [hlook];rfl,hm.2.2.1.subset hmem,?_,fun i'=>?_⟩
     ·rw [qm6 _ _ _ _ _ _ _ hlook e,hps,tot,Nat.zero_add]
     ·exact j7e ts _ i' _ st σ1 σ0 σ hdv e
    ·refine wrap ?_
     rw [a7]
     unfold q04 at h0 ⊢
     show (q02 clT (q0x,(p,v0)) (q1q clT (q0x,(q.1,v0)) (ps st x) σ0.sd)).isSome=false
     rw [q3x (fun h=>hq (by have:=congrArg (fun c:Cl=>c.2.1) h;exact this.symm))]
     exact h0
set_option synthInstance.maxSize 100000
set_option synthInstance.maxHeartbeats 0
theorem jbw {L:List Yy} (h10 : ∀ x∈L,(10:UInt8) ∉ x):Lx.q03 (nlT L)=L:=Lx.qv5 L h10
theorem jg3 (L:List Yy) (h:L ≠ []) : ∃ M,nlT L=M ++ [10]:=by
 rcases List.eq_nil_or_concat L with rfl|⟨m,c,rfl⟩
 ·exact absurd rfl h
 ·exact ⟨nlT m++c,by rw [List.concat_eq_append,j7j];simp [nlT]⟩
theorem j9o {s:Yy} {L1 L2:List Yy} {t:Yy} (hs:Lx.q03 s=L1++t::L2) (h10 : ∀ x∈Lx.q03 s,(10:UInt8) ∉ x) : ∃ Q,s=nlT L1++(t++Q)∧(Q = [] ∨ ∃ Q',Q=10::Q')∧Lx.q03 (nlT L1++Q.drop 1)=L1++L2:=by
 have hne:s ≠ []:=fun h=>by rw [h] at hs;cases L1<;>cases hs
 obtain ⟨tail,e1,e2,e3⟩:=qnx hne
 rw [hs] at e1 h10
 rw [q9u] at e1
 refine ⟨tlQ L2++tail,by rw [e1];simp,?_,?_⟩
 ·unfold tlQ
  split
  ·rcases e3 with rfl|⟨rfl,_⟩
   ·exact .inr ⟨[],rfl⟩
   ·exact .inl rfl
  ·exact .inr ⟨_,rfl⟩
 ·by_cases h2:L2 = []
  ·subst h2
   have:(tlQ []++tail).drop 1 = []:=by
    rcases e3 with rfl|⟨rfl,_⟩<;>rfl
   rw [this,List.append_nil,List.append_nil]
   exact jbw (fun x hx=>h10 x (List.mem_append_left _ hx))
  ·obtain ⟨y,r,rfl⟩ : ∃ y r,L2=y::r:=by
    cases L2 with
    | nil=>exact absurd rfl h2
    | cons y r=>exact ⟨y,r,rfl⟩
   have hq:tlQ (y::r)=10::q4x 10 (y::r):=by simp [tlQ]
   rw [hq]
   have e4:nlT L1++(10::q4x 10 (y::r)++tail).drop 1=q4x 10 (L1++y::r)++tail:=by rw [q9u,← q6v];simp
   rw [e4]
   refine j49 (by simp) (fun x hx=>?_) ?_
   ·rcases List.mem_append.1 hx with hx|hx
    ·exact h10 x (List.mem_append_left _ hx)
    ·exact h10 x (List.mem_append_right _ (List.mem_cons_of_mem _ hx))
   ·rcases e3 with h|⟨h,he⟩
    ·exact .inl h
    ·rw [h,List.append_nil,hq] at e1
     have hun:q4x 10 (y::r) ≠ []:=fun hu=>by
      rw [hu] at e1
      rw [e1,show nlT L1++(t ++ [10])=(nlT L1++t) ++ [10] by simp,q6t] at he
      cases he
     refine .inr ⟨h,?_,?_⟩
     ·rw [q9u,← q6v]
      exact fun hh=>hun (List.append_eq_nil_iff.1 hh).2
     ·rw [q9u,← q6v,j39 _ hun]
      rw [e1,show nlT L1++(t++10::q4x 10 (y::r))=(nlT L1++(t ++ [10]))++q4x 10 (y::r) by simp,j39 _ hun] at he
      exact he
def qb3 (s p:Yy):Yy×Int:=if (q3w s).2.2=0 then (if (q1z s p).2.2=true then (s.take (q4j 10 (s.take (q1z s p).1.toNat)+1).toNat++q5e 10 (s.drop (q1z s p).2.1.toNat),0) else ([],5)) else ([],(q3w s).2.2)
theorem lastIdx_spec (n:Nat) (s:Yy) (hs:s.length≤1000000) (hn:s.length<n):qd0 n s [10]=some (q4j 10 s):=by
 unfold qd0
 have:=qn4 n 10 s hs hn
 rw [show (((10:UInt8).toNat:Nat):Int)=(10:Int) from rfl] at this
 have s0:sAt [10] (0:Int)=some (10:Int):=rfl
 simp only [show decide ((([(10:UInt8)].length:Nat):Int)=0)=false from rfl,show decide ((([(10:UInt8)].length:Nat):Int)=1)=true from rfl,cond_true,cond_false,s0,Option.bind_some,this]
theorem qn6 (n:Nat) (s p:Yy) (hs:s.length≤100000) (hn:1000000<n):q9p n s p=some (qb3 s p):=by
 unfold q9p qb3
 simp only [ql3 n s hs (by omega),Option.bind_some]
 by_cases h0:(q3w s).2.2=0
 ·simp only [h0,decide_true,Bool.not_true,cond_false,if_true]
  unfold qwx
  simp only [qjv n s p hs (by omega),Option.bind_some]
  cases hw:(q1z s p).2.2 with
  | false=>rfl
  | true =>
   obtain ⟨σ,q,a,h1,h2,h3,h4,h5,h6⟩:=qoq hw
   rw [h4]
   have s1:q0w s (0:Int) (a:Int)=some (s.take a):=sub_zero (by omega)
   have s2:q0w s ((a+(q0b q.2).length:Nat):Int) ((s.length:Nat):Int)=some (s.drop (a+(q0b q.2).length)):=by
    rw [sub_le h5 (Nat.le_refl _),List.take_of_length_le (by simp)]
   have hta:(s.take a).length=a:=by rw [List.length_take];omega
   have hge:=qqq 10 (s.take a)
   obtain ⟨k,hk⟩ : ∃ k:Nat,q4j 10 (s.take a)+1=(k:Int):=⟨(q4j 10 (s.take a)+1).toNat,by omega⟩
   have hkl:k≤a:=by omega
   have w1:IntKind.wrap .i64 (k:Int)=(k:Int):=qah (by omega)
   have s3:q0w s (0:Int) (k:Int)=some (s.take k):=sub_zero (by omega)
   obtain ⟨b,hb⟩:=qak n 10 (s.drop (a+(q0b q.2).length)) (by simp;omega)
   have hc:=qcw 10 (s.drop (a+(q0b q.2).length))
   rw [List.length_drop] at hc
   simp only [Bool.not_true,cond_false,qrx,s1,s2,Option.bind_some,if_true,Int.toNat_natCast,lastIdx_spec n (s.take a) (by omega) (by omega),q00,hk,w1,s3,hb]
   rw [q64 (by simp;omega)]
   rfl
 ·simp only [h0,decide_false,Bool.not_false,cond_true,if_false]
theorem qzo {s:Yy} {σ:MS} (h:IsM s σ) : ∀ x∈Lx.q03 s,(10:UInt8) ∉ x:=fun x hx=>jcu (h.okc x hx)
theorem qv7 {s p:Yy} {σ:MS} (h:IsM s σ) {L1 L2:List Yy} {u r:Yy} {v:VD} (hs:Lx.q03 s=L1++(u++(q0b v++r))::L2) (hw:q1z s p=(((tot L1+u.length:Nat):Int),(((tot L1+u.length+(q0b v).length:Nat):Int),true))) : ∃ Q,s=nlT L1++((u++(q0b v++r))++Q)∧qb3 s p=(nlT L1++Q.drop 1,0)∧Lx.q03 (nlT L1++Q.drop 1)=L1++L2:=by
 have h10:=qzo h
 obtain ⟨Q,e1,e2,e3⟩:=j9o hs h10
 have ht10:(10:UInt8) ∉ u++(q0b v++r):=h10 _ (by rw [hs];exact List.mem_append_right _ (List.mem_cons_self ..))
 have hu10:(10:UInt8) ∉ u:=fun hh=>ht10 (List.mem_append_left _ hh)
 have hr10:(10:UInt8) ∉ r:=fun hh=>ht10 (List.mem_append_right _ (List.mem_append_right _ hh))
 have hlen:(nlT L1).length=tot L1:=j84 L1
 refine ⟨Q,e1,?_,e3⟩
 unfold qb3
 rw [q6h h,if_pos rfl,hw]
 simp only [if_true,Int.toNat_natCast]
 have t1:s.take (tot L1+u.length)=nlT L1++u:=by
  rw [e1,show nlT L1++(u++(q0b v++r)++Q)=(nlT L1++u)++((q0b v++r)++Q) by simp,List.take_left' (by rw [List.length_append,hlen])]
 have t2:s.drop (tot L1+u.length+(q0b v).length)=r++Q:=by
  rw [e1,show nlT L1++(u++(q0b v++r)++Q)=(nlT L1++(u++q0b v))++(r++Q) by simp,List.drop_left' (by simp [hlen];omega)]
 have t3:(q4j 10 (nlT L1++u)+1).toNat=tot L1:=by
  by_cases hL:L1 = []
  ·subst hL
   rw [show nlT []++u=u from rfl,qnd hu10];rfl
  ·obtain ⟨M,hM⟩:=jg3 L1 hL
   have hl2:=congrArg List.length hM
   rw [List.length_append,hlen] at hl2
   simp only [List.length_cons,List.length_nil] at hl2
   rw [hM,show M ++ [10]++u=M++10::u by simp,qsa hu10]
   omega
 have t4:s.take (tot L1)=nlT L1:=by rw [e1,List.take_left' hlen]
 have t5:q5e 10 (r++Q)=Q.drop 1:=by
  rcases e2 with rfl|⟨Q',rfl⟩
  ·unfold q5e
   rw [if_pos (q5d 10 _ (by simpa using hr10))];rfl
  ·exact (qlv 10 r Q' hr10).2
 rw [t1,t2,t3,t4,t5]
theorem jm9 {s p:Yy} (h:(qb3 s p).2=0) : ∃ σ τ,IsM s σ∧p∈σ.rq.map Prod.fst∧IsM (qb3 s p).1 τ∧Dv p σ τ∧(qb3 s p).1.length≤s.length:=by
 have h0:(q3w s).2.2=0:=by
  unfold qb3 at h
  split at h
  ·assumption
  ·rename_i hh;exact absurd h hh
 have hw:(q1z s p).2.2=true:=by
  unfold qb3 at h
  rw [if_pos h0] at h
  split at h
  ·assumption
  ·cases h
 obtain ⟨σ,q,a,hi,h2,h3,h4,h5,h6⟩:=qoq hw
 have g:=hi.good
 have hp:p∈σ.rq.map Prod.fst:=List.mem_map.2 ⟨q,h2,h3⟩
 obtain ⟨L1,u,v,r,L2,σ2,e1,e2,e3,e4,e5,e6⟩:=qf0 p (Lx.q03 s) 0 0 ms0 σ hi.rd jej rfl ((g.rk p).2 hp)
 have hwh:q1z s p=(((tot L1+u.length:Nat):Int),(((tot L1+u.length+(q0b v).length:Nat):Int),true)):=by
  rw [qhw hi,e5];simp
 obtain ⟨Q,k1,k2,k3⟩:=qv7 hi e1 hwh
 obtain ⟨τ,f1,f2⟩:=e6 0
 refine ⟨σ,τ,hi,hp,?_,f2,?_⟩
 ·rw [k2]
  refine ⟨?_,by rw [k3];exact f1,by rw [f2.bk];exact hi.bk,by rw [f2.mo];exact hi.mo⟩
  rw [k3]
  intro x hx
  refine hi.okc x ?_
  rw [e1]
  rcases List.mem_append.1 hx with hx|hx
  ·exact List.mem_append_left _ hx
  ·exact List.mem_append_right _ (List.mem_cons_of_mem _ hx)
 ·rw [k2]
  have:=congrArg List.length k1
  simp only [List.length_append,List.length_drop] at this ⊢
  omega
theorem jfp {s p:Yy} (h:(qb3 s p).2≠0):(qb3 s p).1 = []:=by
 unfold qb3 at h ⊢
 split
 ·rename_i hj
  rw [if_pos hj] at h
  split
  ·rename_i hw;rw [if_pos hw] at h;exact absurd rfl h
  ·rfl
 ·rfl
set_option synthInstance.maxSize 100000
set_option synthInstance.maxHeartbeats 0
theorem j7g (p:Yy) : ∀ l:List Rq,(l.map Prod.fst).Nodup→p∈l.map Prod.fst→(oth p l).length+1=l.length
 | [],_,h=>by cases h
 | q::l,hn,h=>by
  rw [List.map_cons,List.nodup_cons] at hn
  by_cases hq:q.1=p
  ·have hno:p ∉ l.map Prod.fst:=by rw [← hq];exact hn.1
   have e:oth p l=l:=List.filter_eq_self.2 (fun y hy=>by
    have:y.1≠p:=fun h=>hno (List.mem_map.2 ⟨y,hy,h⟩)
    simp [this])
   unfold oth at e ⊢
   rw [List.filter_cons,hq]
   simp [e]
  ·have hm:p∈l.map Prod.fst:=by
    rw [List.map_cons] at h
    rcases List.mem_cons.1 h with h|h
    ·exact absurd h.symm hq
    ·exact h
   have ih:=j7g p l hn.2 hm
   unfold oth at ih ⊢
   rw [List.filter_cons]
   simp [hq,ih]
theorem jja (p:Yy) (l:List Rq):oth p (oth p l)=oth p l:=by
 unfold oth
 rw [List.filter_filter]
 congr 1
 funext q
 cases decide (q.1=p)<;>rfl
def S0 (s:Yy):Yy:=if Lx.q4n s=true then s else s ++ [10]
theorem j1e : ∀ L:List Yy,L ≠ []→q4x 10 L ++ [10]=nlT L
 | [],h=>absurd rfl h
 | [x],_=>by simp [q4x,nlT]
 | x::y::r,_=>by
  rw [qrh,← j1e (y::r) (by simp)]
  simp [q4x]
theorem jhk {s:Yy} (hs:s ≠ []):S0 s=nlT (Lx.q03 s):=by
 obtain ⟨tail,e1,e2,e3⟩:=qnx hs
 rw [← j1e _ e2]
 unfold S0
 rcases e3 with rfl|⟨rfl,he⟩
 ·have:Lx.q4n s=true:=by rw [e1,q6t];rfl
  rw [if_pos this];exact e1
 ·rw [if_neg (by rw [he];decide)]
  rw [List.append_nil] at e1
  rw [← e1]
theorem j38 {s:Yy} {σ:MS} (h:IsM s σ):s ≠ []:=fun e=>by
 have hr:=h.rd
 rw [e] at hr
 cases hr
 exact h.mo rfl
theorem S0_is {s:Yy} {σ:MS} (h:IsM s σ):IsM (S0 s) σ:=by
 have e:Lx.q03 (S0 s)=Lx.q03 s:=by rw [jhk (j38 h)];exact jbw (qzo h)
 exact ⟨by rw [e];exact h.okc,by rw [e];exact h.rd,h.bk,h.mo⟩
theorem jnk {s:Yy} {r:Rq} (h:(qs2 s r).2=0) : ∃ σ τ,IsM s σ∧q40 r.1 r.2=true∧(qs2 s r).1=S0 s++(qee r ++ [10])∧IsM (qs2 s r).1 τ∧τ.rq=σ.rq ++ [r]∧qb3 (qs2 s r).1 r.1=(S0 s,0):=by
 have hj:qb5 s r=0:=by
  unfold qs2 at h
  split at h
  ·assumption
  ·rename_i hh;exact absurd h hh
 have hw : ¬ (q1z s r.1).2.2=true:=by
  unfold qs2 at h
  rw [if_pos hj] at h
  split at h
  ·cases h
  ·assumption
 have ea:(qs2 s r).1=S0 s++(qee r ++ [10]):=by
  unfold qs2 S0
  rw [if_pos hj,if_neg hw]
 obtain ⟨⟨σ,hi⟩,hf⟩:=j4f hj
 have g:=hi.good
 have hcl:q04 σ (q0x,(r.1,v0))=false:=by
  rw [qhw hi] at hw
  unfold q04
  cases hk:q02 clT (q0x,(r.1,v0)) σ.sd with
  | none=>rfl
  | some x=>rw [hk] at hw;exact absurd rfl hw
 have e0:(qs2 s r).1=nlT (Lx.q03 s ++ [qee r]):=by
  rw [ea,jhk (j38 hi),j7j];simp [nlT]
 have hfo:=jgu hf
 have hL:Lx.q03 (qs2 s r).1=Lx.q03 s ++ [qee r]:=by
  rw [e0]
  refine jbw fun x hx=>?_
  rcases List.mem_append.1 hx with hx|hx
  ·exact qzo hi x hx
  ·rw [List.mem_singleton.1 hx];exact jcu hfo
 obtain ⟨ws,t1,e1⟩:=jeo (σ:=σ) (st:=0+((tot (Lx.q03 s):Nat):Int)) (j3u hf) hi.bk (by rw [jly hf];decide)
 obtain ⟨x,hx,e2⟩:=jew (σ:=σ) (st:=0+((tot (Lx.q03 s):Nat):Int)) t1 hf
 have e3:=e1.trans (e2.trans (q84 hcl))
 have hrd:q0y (Lx.q03 s ++ [qee r]) 0 0 ms0 = .inr { σ with rq:=σ.rq ++ [(r.1,r.2)],sd:=q1q clT (q0x,(r.1,v0)) (ps (0+((tot (Lx.q03 s):Nat):Int)) x) σ.sd }:=by
  rw [qql,hi.rd]
  show q0y [qee r] _ _ σ=_
  rw [q0y,e3]
  rfl
 have hit:IsM (qs2 s r).1 { σ with rq:=σ.rq ++ [(r.1,r.2)],sd:=q1q clT (q0x,(r.1,v0)) (ps (0+((tot (Lx.q03 s):Nat):Int)) x) σ.sd }:=by
  refine ⟨?_,by rw [hL];exact hrd,hi.bk,hi.mo⟩
  rw [hL]
  intro y hy
  rcases List.mem_append.1 hy with hy|hy
  ·exact hi.okc y hy
  ·rw [List.mem_singleton.1 hy];exact hfo
 refine ⟨σ,_,hi,hf,ea,hit,rfl,?_⟩
 have gt:=hit.good
 obtain ⟨L1,u,v,rr,L2,σ2,k1,k2,k3,k4,k5,k6⟩:=qf0 r.1 _ 0 0 ms0 _ hit.rd jej rfl ((gt.rk r.1).2 (List.mem_map.2 ⟨(r.1,r.2),List.mem_append_right _ (List.mem_singleton.2 rfl),rfl⟩))
 have hwh:q1z (qs2 s r).1 r.1=(((tot L1+u.length:Nat):Int),(((tot L1+u.length+(q0b v).length:Nat):Int),true)):=by
  rw [qhw hit,k5];simp
 obtain ⟨Q,q1,q2,q3⟩:=qv7 hit k1 hwh
 have hL2:L2 = []∧L1=Lx.q03 s:=by
  rw [hL] at k1
  rcases List.eq_nil_or_concat L2 with rfl|⟨M,c,rfl⟩
  ·exact ⟨rfl,(List.append_inj' k1 rfl).1.symm⟩
  ·exfalso
   rw [List.concat_eq_append] at k1
   have k7:Lx.q03 s ++ [qee r]=(L1 ++ [u++(q0b v++rr)]++M) ++ [c]:=by rw [k1];simp
   have k8:=(List.append_inj' k7 rfl).1
   have hr2:=hi.rd
   rw [k8,qql,k2] at hr2
   unfold q04 at k3
   obtain ⟨y,hy⟩:=Option.isSome_iff_exists.1 k3
   have:=qm6 _ _ _ _ _ _ _ hy hr2
   unfold q04 at hcl
   rw [this] at hcl
   cases hcl
 obtain ⟨rfl,hL1⟩:=hL2
 have hline:u++(q0b v++rr)=qee r:=by
  rw [hL,hL1] at k1
  exact (List.cons.inj (List.append_cancel_left k1)).1.symm
 have hQ:Q = [10]:=by
  have:=q1
  rw [ea,jhk (j38 hi),hL1,hline] at this
  exact (List.append_cancel_left (List.append_cancel_left this)).symm
 rw [q2,hQ,hL1,jhk (j38 hi)]
 simp
theorem jhx (n:Nat) (hn:9223372036854775807<n) (hl:q2n n=some true) (s p:Yy) (hs:s.length≤4000):((q9p n s p).bind fun r15=>(bif !decide (r15.2=0) then (bif decide (r15.1=([]:Yy)) then some true else some false) else (q2p n r15.1).bind fun r17=>(bif decide (r17.2.2=0) then q00 (IntKind.wrap .i64 ((((q3w s).1.2.2.1.length:Nat):Int) - 1)) fun n18=>(bif decide (((r17.1.2.2.1.length:Nat):Int)=n18) then (q46 n (q3w s).1.2.2.1 r17.1.2.2.1 p).bind fun r19=>(bif r19 then some true else some false) else some false) else some false)))=some true:=by
 rw [qn6 n s p (by omega) (by omega),Option.bind_some]
 by_cases h0:(qb3 s p).2=0
 ·obtain ⟨σ,τ,h1,h2,h3,h4,h5⟩:=jm9 h0
  have g:=h1.good
  have hlen:=j7g p σ.rq g.rn h2
  have kL:σ.rq.length≤4001:=by
   have:=(j0n s).1
   rw [q6h h1] at this
   have h3:σ.rq.length≤s.length+1:=this
   omega
  have w1:IntKind.wrap .i64 (((σ.rq.length:Nat):Int) - 1)=(((oth p σ.rq).length:Nat):Int):=by rw [wrap64 (by omega) (by omega)];omega
  have ho:=qy7 n σ.rq τ.rq p (by omega) (by rw [h4.rq];omega) (by omega)
  rw [h4.rq,jja,decide_eq_true rfl,← h4.rq] at ho
  rw [decide_eq_true h0,Bool.not_true,cond_false,q56 n _ (show (qb3 s p).1.length≤100000 by omega) (by omega),Option.bind_some,q6h h3,q6h h1]
  simp only [decide_true,cond_true,q00]
  rw [show (σ.md,((((Lx.q03 s).length:Nat):Int),(0:Int))).1.2.2.1=σ.rq from rfl,show (τ.md,((((Lx.q03 (qb3 s p).1).length:Nat):Int),(0:Int))).1.2.2.1=τ.rq from rfl] at *
  rw [w1,ho]
  have hd:decide (((τ.rq.length:Nat):Int)=(((oth p σ.rq).length:Nat):Int))=true:=decide_eq_true (by rw [h4.rq])
  rw [hd]
  rfl
 ·rw [decide_eq_false h0,Bool.not_false,cond_true,jfp h0];rfl
theorem jbh (n:Nat) (hn:9223372036854775807<n) (hl:q2n n=some true) (s:Yy) (r:Rq) (p:Yy):qcz n s r p=some true:=by
 unfold qcz
 have g1:=gtI s 4000
 rw [show ((4000:Nat):Int)=(4000:Int) from rfl] at g1
 have g2:=gtI p 200
 rw [show ((200:Nat):Int)=(200:Int) from rfl] at g2
 simp only [hl,Option.bind_some,g1,g2,jgf n [r] (by simp) hn]
 by_cases c1:s.length≤4000
 ·have hend:=jhx n hn hl s p c1
  rw [decide_eq_true c1,Bool.not_true,cond_false]
  cases hf:(([r].all jkw)&&decide ([r].length≤20)) with
  | false=>rfl
  | true =>
   have hp:r.1.length≤200:=jgg (by simpa using hf)
   have ht:=qpe r.2
   rw [Bool.not_true,cond_false]
   by_cases c2:p.length≤200
   ·rw [decide_eq_true c2,Bool.not_true,cond_false]
    simp only [q56 n s (show _≤100000 by omega) (by omega),jcb n s r (by omega) (by omega) (by omega),Option.bind_some]
    by_cases h0:(qs2 s r).2=0
    ·rw [decide_eq_true h0,cond_true]
     obtain ⟨σ,τ,k1,k2,k3,k4,k5,k6⟩:=jnk h0
     have hS:(S0 s).length≤s.length+1∧∃ x,S0 s=s++x:=by
      unfold S0
      split
      ·exact ⟨by omega,[],by simp⟩
      ·exact ⟨by simp,[10],rfl⟩
     obtain ⟨hS1,y,hS2⟩:=hS
     have hal:(qs2 s r).1.length≤5000:=by
      rw [k3,qxh];simp;omega
     have i3:=S0_is k1
     have kL:ML 4001 σ.md:=by
      have:=(j0n s).mono (show _≤4001 by omega)
      rw [q6h k1] at this;exact this
     have hrl:σ.rq.length≤4001:=kL.1
     have hdr:=qn6 n (qs2 s r).1 r.1 (by omega) (by omega)
     rw [k6] at hdr
     have w1:IntKind.wrap .i64 (((σ.rq.length:Nat):Int)+1)=((σ.rq.length+1:Nat):Int):=by rw [wrap64 (by omega) (by omega)];omega
     have hl2:τ.rq.length=σ.rq.length+1:=by rw [k5];simp
     have w2:IntKind.wrap .i64 (((τ.rq.length:Nat):Int) - 1)=((σ.rq.length:Nat):Int):=by rw [hl2,wrap64 (by omega) (by omega)];omega
     have hx:q0f τ.rq ((σ.rq.length:Nat):Int)=some r:=by
      rw [q0l (by omega)]
      congr 1
      have e:τ.rq[σ.rq.length]? = some r:=by rw [k5,List.getElem?_concat_length]
      rw [List.getElem?_eq_getElem (by omega)] at e
      exact Option.some.inj e
     have he:=qyi r r
     rw [decide_eq_true rfl] at he
     have hsub:q0w (S0 s) (0:Int) ((s.length:Nat):Int)=some s:=by rw [sub_zero (by rw [hS2];simp),hS2,List.take_left]
     have hlt : ¬ (((S0 s).length:Nat):Int)<((s.length:Nat):Int):=by rw [hS2];simp;omega
     have hsm:=qu3 n σ.md σ.md (kL.mono (by omega)) (by omega)
     rw [decide_eq_true rfl] at hsm
     have hdl:decide (((τ.rq.length:Nat):Int)=((σ.rq.length+1:Nat):Int))=true:=decide_eq_true (by omega)
     simp only [q56 n (qs2 s r).1 (show _≤100000 by omega) (by omega),hdr,q56 n (S0 s) (show _≤100000 by omega) (by omega),Option.bind_some,q6h k4,q6h i3]
     rw [q6h k1] at hend ⊢
     simp only [decide_true,Bool.not_true,cond_false,q00]
     rw [show σ.md.2.2.1=σ.rq from rfl] at hend
     rw [show σ.md.2.2.1=σ.rq from rfl,show τ.md.2.2.1=τ.rq from rfl,w1,hdl]
     simp only [Bool.not_true,cond_false,w2,hx,Option.bind_some,he,hsm,hlt,decide_false,hsub,decide_true]
     exact hend
    ·rw [decide_eq_false h0,cond_false]
     exact hend
   ·rw [decide_eq_false c2];rfl
 ·rw [decide_eq_false c1];rfl
abbrev j0q:Nat:=9223372036854775808
theorem jp2:q2n j0q=some true:=by kernel_rfl
abbrev jow:Ty:=.prod .str Tv
theorem qtz (s:Yy) (r:den jow) (p:Yy) (_:s.length≤maxLen) (_:qyg jow r) (_:p.length≤maxLen):qcz j0q s r p=some true:=jbh j0q (by decide) jp2 s r p
theorem j2v : "*" ++ "errors.errorString" = "*errors.errorString":=by decide
theorem jdl (u:TypeId) (h:Tryz.prog.typeName? 3 u=some "*errors.errorString"):u=276 :=
 typeName_ptr_named (nm := "errors.errorString") (by rw [j2v];kernel_rfl) (by kernel_rfl) (by decide) u (by rw [j2v];exact h)
theorem jpe:(Rows.laid_internal_strconv_uint64pow10:DataW Unit)=Lib.tabData .u64 Lib.pow10Tab:=by rfl
theorem jpa:Tryz.prog.globalNamed "internal/strconv.uint64pow10" = some ((Tryz.prog.globalNamed "internal/strconv.uint64pow10").getD 0)∧(Tryz.prog.globals[(Tryz.prog.globalNamed "internal/strconv.uint64pow10").getD 0]?).map (·.type)=some 251:=⟨by kernel_rfl,by kernel_rfl⟩
theorem jkj:Tryz.prog.globalNamed "strconv.ErrSyntax" = some (Tryz.laysAtoi_ren.g 15)∧(Tryz.prog.globals[Tryz.laysAtoi_ren.g 15]?).map (·.type)=some 82:=⟨by kernel_rfl,by kernel_rfl⟩
theorem jl2:Tryz.prog.globalNamed "strconv.ErrRange" = some (Tryz.laysAtoi_ren.g 16)∧(Tryz.prog.globals[Tryz.laysAtoi_ren.g 16]?).map (·.type)=some 82:=⟨by kernel_rfl,by kernel_rfl⟩
theorem qtn:Tryz.prog.cellsOf 278=1:=by kernel_rfl
theorem qvm:Tryz.prog.cellsOf 9=1:=by kernel_rfl
theorem hEt:Tryz.prog.globalNamed "errors.errorType" = some 0:=by kernel_rfl
theorem hRt:(Tryz.prog.cutTypes.find? (·.1 == "internal/reflectlite.rtype")).map (·.2)=some 196:=by kernel_rfl
theorem hOne:((List.range 306).filter fun t=>Tryz.prog.rowNamed t [101,114,114,111,114]) = [82]:=by kernel_rfl
theorem hSize:Tryz.prog.types.size=306:=by kernel_rfl
theorem jok {w:World} (hsh:w.ShapedOpen Tryz.prog) (hLH:laidMetH Tryz.prog [("math/bits.deBruijn32tab",Rows.laid_math_bits_deBruijn32tab),("math/bits.deBruijn64tab",Rows.laid_math_bits_deBruijn64tab),("internal/strconv.uint64pow10",Rows.laid_internal_strconv_uint64pow10),("unicode/utf8.acceptRanges",Rows.laid_unicode_utf8_acceptRanges),("errors.errorType",Rows.laid_errors_errorType),("strconv.ErrRange",Rows.laid_strconv_ErrRange),("strconv.ErrSyntax",Rows.laid_strconv_ErrSyntax),("unicode/utf8.first",Rows.laid_unicode_utf8_first)] w):Inv w:=by
 have h':laidMet Tryz.prog [("math/bits.deBruijn32tab",Rows.laid_math_bits_deBruijn32tab),("math/bits.deBruijn64tab",Rows.laid_math_bits_deBruijn64tab),("internal/strconv.uint64pow10",Rows.laid_internal_strconv_uint64pow10),("unicode/utf8.acceptRanges",Rows.laid_unicode_utf8_acceptRanges),("strconv.ErrRange",Rows.laid_strconv_ErrRange),("strconv.ErrSyntax",Rows.laid_strconv_ErrSyntax),("unicode/utf8.first",Rows.laid_unicode_utf8_first)] w∧handlesMet Tryz.prog [("errors.errorType",Rows.laid_errors_errorType)] w:=hLH
 obtain ⟨name,u,ty,e1,e2,e3,e4,e5⟩:=h'.2 _ (List.mem_singleton.2 rfl)
 have en:name = [101,114,114,111,114]:=(Option.some.inj e1).symm
 subst en
 obtain rfl:=Option.some.inj (hRt.symm.trans e2)
 have hm:ty∈(List.range 306).filter fun t=>Tryz.prog.rowNamed t [101,114,114,111,114]:=List.mem_filter.2 ⟨List.mem_range.2 (by rw [← hSize];exact e3),e4⟩
 rw [hOne] at hm
 obtain rfl:=List.mem_singleton.1 hm
 have hh:typeHandle Tryz.prog 82 = .pointer (some ⟨9,82,none⟩):=by kernel_rfl
 rw [hh] at e5
 have hT:w.cell? ⟨0,0,none⟩=some (.iface 196 (.agg #[.pointer (some ⟨9,82,none⟩)])):=by simpa using World.var?_cell hEt e5 0
 have hL:=h'.1
 obtain ⟨m,hm⟩:=Tryz.laysIndex.s1_3 w hsh
 have h3:=hL.tail.tail
 rw [jpe] at h3
 have h5:=hL.tail.tail.tail.tail
 unfold Rows.laid_strconv_ErrRange at h5
 have h6:=hL.tail.tail.tail.tail.tail
 unfold Rows.laid_strconv_ErrSyntax at h6
 obtain ⟨a0,s0,hv0,-,-,-⟩:=laid_sentinel h5 jl2.1 jl2.2 Tryz.underlying82 jdl Tryz.underlying276 Tryz.underlying278 rfl rfl Tryz.underlying9 qtn qvm
 obtain ⟨a1,s1,hv1,-,-,-⟩:=laid_sentinel h6 jkj.1 jkj.2 Tryz.underlying82 jdl Tryz.underlying276 Tryz.underlying278 rfl rfl Tryz.underlying9 qtn qvm
 have c0:w.cell? ⟨Tryz.laysAtoi_ren.g 16,0,none⟩=some (.iface 276 (.pointer (some a0))):=by have h0:=World.var?_cell jl2.1 hv0 0;simpa using h0
 have c1:w.cell? ⟨Tryz.laysAtoi_ren.g 15,0,none⟩=some (.iface 276 (.pointer (some a1))):=by have h0:=World.var?_cell jkj.1 hv1 0;simpa using h0
 exact ⟨hT,⟨m,hm⟩,Lib.tabIs_of_head jpa.1 jpa.2 (n:=20) (e:=231) (by kernel_rfl) (by kernel_rfl) (by kernel_rfl) (by kernel_rfl) h3,⟨_,_,c1⟩,⟨_,_,c0⟩⟩
noncomputable def wH (os:Os):World :=
 let w0:=World.holding Tryz.prog os ⟨#[],#[],[]⟩
 {w0 with heap:=w0.heap.modify 0 fun
   | .cells _ t frozen=>.cells #[.iface 196 (.agg #[.pointer (some ⟨9,82,none⟩)])] t frozen
   | o=>o }
noncomputable def laidW (os:Os) (laid:List (String×DataW Unit)):World:=(wH os).layVars Tryz.prog laid
theorem qrv {os:Os} {laid:List (String×DataW Unit)} (args:Array Value) (hf:(wH os).layFits Tryz.prog laid []=true) (hi:(wH os).layIfaces Tryz.prog laid (laidW os laid)=true) :
  laidMet Tryz.prog laid ((laidW os laid).forCall (fun _ _=>0) ⟨#[],args,[]⟩).memory:=by
 have e1:(laid.filter fun x=>(laid.map (·.1)).contains x.1)=laid:=List.filter_eq_self.2 fun x hx=>List.contains_iff_mem.2 (List.mem_map.2 ⟨x,hx,rfl⟩)
 have e2:(laid.filter fun x=>!(laid.map (·.1)).contains x.1) = []:=List.filter_eq_nil_iff.2 fun x hx=>by rw [List.contains_iff_mem.2 (List.mem_map.2 ⟨x,hx,rfl⟩)];simp
 have h:laidMet Tryz.prog laid (laidW os laid):=laidMet_layVars (w0:=wH os) (laid.map (·.1)) [] (by rw [e1];rfl) (by rw [e1];exact hf) (by rw [e1];exact hi) (by rw [e2];exact LaidIn.none)
 exact h.of_heap (by simp [World.memory,World.forCall,Input.heap])
end Go.Proofs.YtapfankgdkdkgaaGreatDoor.AM
