
import Derived.Test.YtlmjgghohipipaaGreatDoorLc20
import Derived.Test.YtlmjgghohipipaaGreatDoorLc8
import Derived.Test.YtlmjgghohipipaaGreatDoorRows
import Derived.Deep.DeepHandedRow
import Derived.Test.YtlmjgghohipipaaGreatDoorLc9
import Derived.LaidLaws
namespace Go.Proofs.YtlmjgghohipipaaGreatDoor.AM
open Go.RowKit
set_option linter.unusedVariables false
set_option linter.unusedSimpArgs false
theorem qsj {p:List UInt8} (h:okS p=true):p.length≤60:=by
 unfold okS q9w at h
 exact of_decide_eq_true (Bool.and_eq_true_iff.1 (Bool.and_eq_true_iff.1 h).1).1
theorem qv6 {h:List UInt8} (hh:q21 h=true):h.length=47:=by
 unfold q21 at hh
 obtain ⟨h1,h2⟩:=Bool.and_eq_true_iff.1 hh
 obtain ⟨h3,h4⟩:=Bool.and_eq_true_iff.1 h2
 obtain ⟨r,hr⟩:=of_decide_eq_true h1
 have hd:h.drop 3=r:=by rw [← hr];rfl
 have he:Bs.q4n (Bs.q6j (h.drop 3)).1=h.drop 3:=Bs.j05 (by rw [← h3])
 have hl:=Bs.qub (Bs.q6j (h.drop 3)).1
 rw [he,of_decide_eq_true h4,hd] at hl
 rw [← hr,List.length_append,hl];rfl
theorem j1g {t:TgD} (h:q16 t=0):(q2p t).length≤202:=by
 obtain ⟨h1,_,_,h4⟩:=q1v h
 have:=qsj h1
 have:=qv6 h4
 have:=q9c (tV t)
 unfold q2p
 simp only [List.length_append,List.length_cons,List.length_nil]
 omega
theorem q7n : ∀ {l:List TgD},(∀ t∈l,q16 t=0)→(l.map q2p).flatten.length≤202*l.length
 | [],_=>by simp
 | t::l,h=>by
  have h1:=j1g (h t (List.mem_cons_self ..))
  have h2:=q7n (l:=l) (fun t ht=>h t (List.mem_cons_of_mem _ ht))
  simp only [List.map_cons,List.flatten_cons,List.length_append,List.length_cons]
  omega
end Go.Proofs.YtlmjgghohipipaaGreatDoor.AM
namespace Go.Proofs.YtlmjgghohipipaaGreatDoor.AM
open Go.RowKit
set_option linter.unusedVariables false
set_option linter.unusedSimpArgs false
theorem qx9 {a b:List TgD} {t:TgD} (h:q0a (a++b) t=0):q0a b t=0:=by
 obtain ⟨h1,h2⟩:=q6x h
 unfold q0a
 rw [if_pos h1,if_neg]
 rw [List.any_append] at h2
 have:=(Bool.or_eq_false_iff.1 h2).2
 rw [this];simp
theorem qv7 : ∀ (k:Nat) {a m:List TgD},m.length=k→Good (a++m)→Good m
 | 0,a,m,hm,h=>by
  have:m = []:=List.eq_nil_of_length_eq_zero hm
  rw [this];exact .nil
 | k+1,a,m,hm,h=>by
  rcases List.eq_nil_or_concat m with rfl|⟨m',x,rfl⟩
  ·simp at hm
  ·rw [List.concat_eq_append,← List.append_assoc] at h
   rw [List.concat_eq_append,List.length_append] at hm
   rw [List.concat_eq_append]
   obtain ⟨h1,h2⟩:=h.inv
   exact .snoc (qv7 k (by simpa using hm) h1) (qx9 h2)
theorem j7k (n:Nat) (hn:200000≤n) (hv:q22 n=some true) (l:List TgD) (k:Int) (hL:l.length≤9223372036854775807) (hl:l.length<n) (ht : ∃ r,q47 n l=some r):qaa n l k=some true:=by
 unfold qaa
 obtain ⟨r1,hr1⟩:=ht
 rw [hr1,Option.bind_some,qrh n l hL hl,Option.bind_some]
 cases hf:fewS l with
 | false=>rw [Bool.not_false,cond_true,hv];rfl
 | true =>
  rw [Bool.not_true,cond_false]
  obtain ⟨h60,hall⟩:=jc4 hf
  have h1:=qjf n hn l (by omega) (fun t ht=>qpz (hall t ht))
  obtain rfl:r1=q3z [] l:=Option.some.inj (hr1.symm.trans h1)
  by_cases he:(q3z [] l).2=0
  ·rw [decide_eq_true he,Bool.not_true,cond_false]
   obtain ⟨hg,_⟩:=qp0 l [] .nil he
   rw [List.nil_append] at hg
   have hT:=qf5 l [] (by rw [List.nil_append];exact hg)
   rw [List.nil_append] at hT
   rw [hT]
   by_cases hk0:k<0
   ·rw [decide_eq_true hk0,cond_true,hv];rfl
   ·rw [decide_eq_false hk0,cond_false]
    by_cases hk1:((l.length:Nat):Int)<k
    ·rw [decide_eq_true hk1,cond_true,hv];rfl
    ·rw [decide_eq_false hk1,cond_false]
     obtain ⟨j,rfl⟩ : ∃ j:Nat,k=(j:Int):=⟨k.toNat,(Int.toNat_of_nonneg (by omega)).symm⟩
     have hj:j≤l.length:=by omega
     have hsplit:l=l.take j++l.drop j:=(List.take_append_drop j l).symm
     have hgA:Good (l.take j):=qmr (m:=l.drop j) (by rw [← hsplit];exact hg)
     have hgB:Good (l.drop j):=qv7 _ (a:=l.take j) rfl (by rw [← hsplit];exact hg)
     have hlA:(l.take j).length=j:=by rw [List.length_take];omega
     have hlB:(l.drop j).length=l.length - j:=List.length_drop ..
     have hTA:=qf5 (l.take j) [] (by rw [List.nil_append];exact hgA)
     rw [List.nil_append] at hTA
     have hsmall : ∀ t∈l,small t:=fun t ht=>qpz (hall t ht)
     have hcat:(l.map q2p).flatten=((l.take j).map q2p).flatten++((l.drop j).map q2p).flatten:=by
      rw [← List.flatten_append,← List.map_append,List.take_append_drop]
     have hA:=q7n hgA.judge
     have hB:=q7n hgB.judge
     have pA:=qik hgA
     have pB:=qik hgB
     have eA:q5y l (0:Int) ((j:Nat):Int)=some (l.take j):=sub_zero hj
     have eB:q5y l ((j:Nat):Int) ((l.length:Nat):Int)=some (l.drop j):=by
      rw [sub_le hj (Nat.le_refl _),List.take_of_length_le (by rw [List.length_drop];exact Nat.le_refl _)]
     rw [eA,Option.bind_some,qjf n hn (l.take j) (by omega) (fun t ht=>hsmall t (List.mem_of_mem_take ht)),Option.bind_some,hTA]
     generalize hXA:((l.take j).map q2p).flatten=A at *
     generalize hXB:((l.drop j).map q2p).flatten=B at *
     rw [hcat]
     have sA:q5y (A++B) (0:Int) ((A.length:Nat):Int)=some A:=by
      rw [sub_zero (by rw [List.length_append];omega),List.take_left'];rfl
     have sB:q5y (A++B) ((A.length:Nat):Int) (((A++B).length:Nat):Int)=some B:=by
      rw [sub_le (by rw [List.length_append];omega) (Nat.le_refl _),List.drop_left',List.take_of_length_le (by rw [List.length_append];omega)];rfl
     show (bif !decide ((0:Int)=0) then some false else (bif decide ((((A++B).length:Nat):Int)<((A.length:Nat):Int)) then some false else (q5y (A++B) (0:Int) ((A.length:Nat):Int)).bind _))=_
     rw [decide_eq_true rfl,Bool.not_true,cond_false,decide_eq_false (by rw [List.length_append];omega),cond_false,sA,Option.bind_some]
     show (bif !decide (A=A) then some false else (some A).bind _)=_
     rw [decide_eq_true rfl,Bool.not_true,cond_false,Option.bind_some,qf1 n hn A (by omega),Option.bind_some,sB,Option.bind_some,qf1 n hn B (by omega),Option.bind_some,pA,pB]
     show (bif decide ((0:Int)=0) then (bif decide ((((l.take j).length:Nat):Int)=((j:Nat):Int)) then (some (l.take j)).bind _ else some false) else some false)=_
     rw [decide_eq_true rfl,cond_true,decide_eq_true (by rw [hlA]),cond_true,Option.bind_some,qc9 n (l.take j) (by omega) (by omega),Option.bind_some,cond_true]
     unfold q2f
     have hw:IntKind.wrap .i64 (((l.length:Nat):Int) - ((j:Nat):Int))=(((l.drop j).length:Nat):Int):=by
      rw [hlB,wrap64 (by omega) (by omega)];omega
     show (bif decide ((((l.drop j).length:Nat):Int)=IntKind.wrap .i64 (((l.length:Nat):Int) - ((j:Nat):Int))) then (q5y l ((j:Nat):Int) ((l.length:Nat):Int)).bind _ else some false)=_
     rw [hw,decide_eq_true rfl,cond_true,eB,Option.bind_some,qc9 n (l.drop j) (by omega) (by omega),Option.bind_some,cond_true,hv]
     rfl
  ·rw [decide_eq_false he,Bool.not_false,cond_true,hv];rfl
end Go.Proofs.YtlmjgghohipipaaGreatDoor.AM
namespace Go.Proofs.YtlmjgghohipipaaGreatDoor.AM
open Go.RowKit
set_option linter.unusedVariables false
set_option linter.unusedSimpArgs false
theorem qyn (n:Nat) (s:List UInt8) (hL:s.length≤1100000) (hn:s.length<n):q4y n s=some (q9l s):=by
 by_cases hp:s.length≤1000000
 ·exact q8m n s hp hn
 ·have h1:q9w s=false:=by
   unfold q9w
   rw [decide_eq_false (by omega)];rfl
  have e1:qay s=some (q6m s):=if_pos (by omega)
  have e4:qkg s=some (q9w s):=rfl
  unfold q4y q9l okS
  simp only [e1,e4,qjl n s (by omega) hn,Option.bind_some,h1]
  rfl
theorem qx8 (n:Nat) (s:List UInt8) (hL:s.length≤1100000) (hn:s.length<n):q7l n s=some (okS s):=by
 unfold q7l
 rw [qyn n s hL hn,← qls];rfl
theorem qti (n:Nat) (s:List UInt8) (hs:s.length≤1100000):q2n n s=some (q21 s):=by
 unfold q2n q21
 have hc:q11 n s h1L=some (if h1L <+: s then (s.drop h1L.length,true) else (s,false)):=by
  unfold q11 q2u q0x
  by_cases h:h1L.length≤s.length
  ·have h':((h1L.length:Nat):Int)≤((s.length:Nat):Int):=by omega
   have h3:q5y s ((h1L.length:Nat):Int) ((s.length:Nat):Int)=some (s.drop h1L.length):=by
    rw [sub_le h (Nat.le_refl _),List.take_of_length_le (by rw [List.length_drop];exact Nat.le_refl _)]
   have h4:decide (s.take h1L.length=h1L)=decide (h1L <+: s):=by
    refine decide_eq_decide.2 ?_
    rw [List.prefix_iff_eq_take]
    exact eq_comm
   simp only [h',decide_true,cond_true,sub_zero h,Option.bind_some,h4]
   by_cases hx:h1L <+: s
   ·simp only [hx,decide_true,Bool.not_true,cond_false,if_true,h3,Option.bind_some]
   ·simp only [hx,decide_false,Bool.not_false,cond_true,if_false]
    rfl
  ·have h' : ¬ ((h1L.length:Nat):Int)≤((s.length:Nat):Int):=by omega
   have h2 : ¬ h1L <+: s:=fun hx=>h hx.length_le
   simp [h',h2]
 unfold h1L at hc
 rw [hc,Option.bind_some]
 unfold h1L
 by_cases h:([104,49,58]:List UInt8) <+: s
 ·rw [if_pos h,decide_eq_true h,Bool.not_true,cond_false,Bs.qft (by rw [List.length_drop];omega),Option.bind_some,Bool.true_and]
  show (bif (Bs.q6j (s.drop 3)).2 then some (decide ((((Bs.q6j (s.drop 3)).1.length:Nat):Int)=32)) else some false)=_
  cases (Bs.q6j (s.drop 3)).2 with
  | false=>rfl
  | true =>
   rw [cond_true,Bool.true_and]
   congr 1
   exact decide_eq_decide.2 ⟨fun h=>by omega,fun h=>by omega⟩
 ·rw [if_neg h,decide_eq_false h]
  rfl
def mid (t:TgD):Prop:=t.1.length≤1100000∧(tH t).length≤1100000
theorem qx6 (n:Nat) (t:TgD) (hs:mid t) (hn:2000000≤n):q5p n t=some (q16 t):=by
 unfold q5p q16
 rw [qx8 n t.1 hs.1 (by have:=hs.1;omega),Option.bind_some]
 cases hk:okS t.1 with
 | false=>rfl
 | true =>
  have hl:=qsj hk
  show (q2c n (tV t)).bind _=_
  rw [q1s n (tV t) (by omega),Option.bind_some]
  cases q0n (tV t) with
  | false=>rfl
  | true =>
   show (qb2 n t.1 (tV t)).bind _=_
   rw [qj2 n t.1 (tV t) (by omega) (by omega) (by omega),Option.bind_some]
   cases qsk t.1 (tV t) with
   | false=>rfl
   | true =>
    show (q2n n (tH t)).bind _=_
    rw [qti n (tH t) hs.2,Option.bind_some]
    cases q21 (tH t)<;>rfl
theorem j2u (n:Nat) (t:TgD) (m:List (List UInt8×VD)) (hs:mid t) (hn:2000000≤n):q86 n () t m=some ((qop t m).1,(((qop t m).2,()),())):=by
 unfold q86 qop
 rw [qx6 n t hs hn,Option.bind_some]
 by_cases hj:q16 t=0
 ·rw [hj,decide_eq_true rfl,Bool.not_true,cond_false,if_pos rfl]
  unfold j5d
  cases hm:q5w t.1 m with
  | none=>rfl
  | some v =>
   simp only [Option.getD_some,Option.isSome_some,cond_true]
   show (q5i n v (tV t)).bind _=_
   rw [qh6 n v (tV t) (by omega),Option.bind_some]
   by_cases hc:qd6 v (tV t)<0
   ·rw [decide_eq_true hc,Bool.not_true,cond_false,if_pos hc];rfl
   ·rw [decide_eq_false hc,Bool.not_false,cond_true,if_neg hc]
 ·rw [decide_eq_false hj,Bool.not_false,cond_true,if_neg hj]
theorem qpc (n:Nat) (hn:4≤n) : ∀ l:List TgD,(∀ t∈l,q16 t=0)→j68 n (l.map q3h)=some (l.map q2p)
 | [],_=>rfl
 | t::l,h=>by
  obtain ⟨h1,_,_,h4⟩:=q1v (h t (List.mem_cons_self ..))
  have:=qsj h1
  have:=qv6 h4
  show (match (jbe (q3h t).1).bind (q6k n),j68 n (l.map q3h) with|some a,some b=>some (a::b)|_,_=>none)=_
  rw [j28,Option.bind_some,qiw n t ⟨by omega,by have:=q9c (tV t);omega,by omega⟩ hn,qpc n hn l (fun t ht=>h t (List.mem_cons_of_mem _ ht))]
  rfl
theorem j6m (n:Nat) (hn:4≤n) (l:List TgD) (hl:l.length≤2000000) (h : ∀ t∈l,q16 t=0):qi6 n (l.map q3h)=some (l.map q2p).flatten:=by
 unfold qi6
 rw [qpc n hn l h,Option.bind_some,if_pos]
 have:=q7n h
 refine ⟨by omega,by rw [List.length_map];omega⟩
theorem qn4 (n:Nat) (hn:2000000≤n) (l:List TgD) (hL:l.length≤2000000) (hs : ∀ t∈l,mid t) : ∀ m j:Nat,j≤l.length→l.length - j<m→Good (l.take j) →
  ∃ (r:jcq) (x:List UInt8×Int),q1u n m l ((l.length:Nat):Int) (j:Int) (q9j (l.take j)) ((l.take j).map q3h)=some r∧tFin n r=some x
 | 0,j,hj,hm,_=>absurd hm (Nat.not_lt_zero _)
 | m+1,j,hj,hm,hg=>by
  rw [q5s]
  unfold qdg
  by_cases hjl:j<l.length
  ·have h1:(j:Int)<((l.length:Nat):Int):=by omega
   rw [decide_eq_true h1,cond_true,q66 hjl,Option.bind_some]
   have hst:=hs l[j] (List.getElem_mem hjl)
   have htk:=qp6 hjl
   rw [j2u n l[j] (q9j (l.take j)) hst hn,Option.bind_some,qe1 hg]
   generalize l[j]=t at *
   by_cases hw:q0a (l.take j) t=0
   ·have h2:decide ((q0a (l.take j) t)=(0:Int))=true:=decide_eq_true hw
    simp only [h2,Bool.not_true,cond_false,if_pos hw]
    have h3:qrc 16 ((l.take j).map q3h) [q3h t]=some ((l.take (j+1)).map q3h):=by
     rw [j1e (by simp only [List.length_map,List.length_cons,List.length_nil,List.length_take];omega),htk,List.map_append];rfl
    show ∃ (r:jcq) (x:List UInt8×Int),((qrc 16 ((l.take j).map q3h) [q3h t]).bind _)=some r∧_
    rw [h3,Option.bind_some]
    unfold q2f
    rw [q12 (by omega),← htk]
    exact qn4 n hn l hL hs m (j+1) hjl (by omega) (by rw [htk];exact .snoc hg hw)
   ·have h2:decide ((q0a (l.take j) t)=(0:Int))=false:=decide_eq_false hw
    simp only [h2,Bool.not_false,cond_true]
    exact ⟨_,_,rfl,rfl⟩
  ·have h1 : ¬ (j:Int)<((l.length:Nat):Int):=by omega
   rw [decide_eq_false h1,cond_false]
   have hj':l.take j=l:=List.take_of_length_le (by omega)
   rw [hj'] at hg ⊢
   refine ⟨_,((l.map q2p).flatten,0),rfl,?_⟩
   show (qi6 n (l.map q3h)).bind _=_
   rw [j6m n (by omega) l hL hg.judge]
   rfl
theorem qy5 (n:Nat) (hn:2000000≤n) (l:List TgD) (hL:l.length≤2000000) (hl:l.length<n) (hs : ∀ t∈l,mid t) : ∃ r,q47 n l=some r:=by
 unfold q47
 obtain ⟨r,x,h1,h2⟩:=qn4 n hn l hL hs n 0 (Nat.zero_le _) (by omega) .nil
 have h1':q1u n n l ((l.length:Nat):Int) (0:Int) [] []=some r:=h1
 rw [h1',Option.bind_some]
 exact ⟨x,h2⟩
theorem qtb (n:Nat) (hn:2000000≤n) (hv:q22 n=some true) (l:List TgD) (k:Int) (hL:l.length≤1048576) (hs : ∀ t∈l,t.1.length≤1048576∧(tH t).length≤1048576):qaa n l k=some true :=
 j7k n (by omega) hv l k (by omega) (by omega) (qy5 n hn l (by omega) (by omega) fun t ht=>by have:=hs t ht;exact ⟨by omega,by omega⟩)
end Go.Proofs.YtlmjgghohipipaaGreatDoor.AM
namespace Go.Proofs.YtlmjgghohipipaaGreatDoor.AM
open Go.RowKit
set_option maxRecDepth 1000000
abbrev qvu:Nat:=9223372036854775808
theorem jca:q22 qvu=some true:=by decide +kernel
end Go.Proofs.YtlmjgghohipipaaGreatDoor.AM
namespace Go.Proofs.YtlmjgghohipipaaGreatDoor.AM
open Go.RowKit
set_option linter.unusedVariables false
abbrev jb3:Ty:=.lst (.prod .str (.prod (.int .i64) (.prod (.int .i64) (.prod (.int .i64) (.prod .str (.prod .str .str))))))
end Go.Proofs.YtlmjgghohipipaaGreatDoor.AM
namespace Go.Proofs.YtlmjgghohipipaaGreatDoor.AM
open Go.RowKit Go.ChangeShapes Go.WideShapes Go.ChangeAt
set_option linter.unusedVariables false
set_option linter.unusedSimpArgs false
mutual
def SmT (B:Nat):Sh→Dat→Prop
 | .str,.v x=>∀ s:ByteArray,x = .string s→s.size≤B
 | .lst e,.lst _ xs=>xs.length≤B∧∀ x∈xs,SmL B e x
 | _,_=>True
def SmL (B:Nat):List Sh→List Dat→Prop
 | s::ss,d::ds=>SmT B s d∧SmL B ss ds
 | _,_=>True
end
theorem SmL.cons {B:Nat} {s:Sh} {d:Dat} {ss:List Sh} {ds:List Dat} : SmL B (s::ss) (d::ds)↔SmT B s d∧SmL B ss ds:=by
 conv=>lhs;unfold SmL
theorem SmL.app {B:Nat} : ∀ {ss:List Sh} {ds:List Dat} {ss':List Sh} {ds':List Dat},ds.length=ss.length→(SmL B (ss++ss') (ds++ds')↔SmL B ss ds∧SmL B ss' ds')
 | [],[],_,_,_=>⟨fun h=>⟨by unfold SmL;trivial,h⟩,fun h=>h.2⟩
 | s::ss,d::ds,_,_,h=>by
  rw [List.cons_append,List.cons_append,SmL.cons,SmL.cons,SmL.app (by simpa using h)]
  exact and_assoc.symm
 | [],_::_,_,_,h=>by simp at h
 | _::_,[],_,_,h=>by simp at h
theorem jab {H:Type} (d:DataW H):1≤Rows.uptoBulk d:=by
 cases d with
 | lit l=>cases l<;>simp [Rows.uptoBulk]
 | nil=>simp [Rows.uptoBulk]
 | ptr d=>simp [Rows.uptoBulk]
 | slice elems spare=>simp [Rows.uptoBulk]
 | agg parts=>simp [Rows.uptoBulk]
 | iface t d=>simp [Rows.uptoBulk]
 | map entries=>simp [Rows.uptoBulk]
 | held h=>simp [Rows.uptoBulk]
theorem qcz {H:Type} {d:DataW H} : ∀ {l:List (DataW H)},d∈l→Rows.uptoBulk d≤Rows.uptoBulkAll l
 | [],h=>by cases h
 | x::r,h=>by
  simp only [Rows.uptoBulkAll]
  rcases List.mem_cons.1 h with rfl|h
  ·omega
  ·have:=qcz h;omega
theorem qit {H:Type} : ∀ (l:List (DataW H)),l.length≤Rows.uptoBulkAll l
 | []=>Nat.zero_le _
 | x::r=>by have:=jab x;have:=qit r;simp only [Rows.uptoBulkAll,List.length_cons];omega
variable {H:Type} {enc:TypeId×Value→H} {P:Program} {W:World} {Pc:Nat→Nat→Prop} {B:Nat}
def j80 (enc:TypeId×Value→H) (P:Program) (W:World) (B:Nat) (Pc:Nat→Nat→Prop) (t:TypeId) (sh:List Sh):Prop :=
 ∀ (fuel:Nat) (cells:List Value) (x:DataW H×List MemPlace),DataW.trod enc P W 0 (fun _=>true) true fuel t cells=some x→Rows.uptoBulk x.1≤B →
  ∀ ds,q08 (DatRep Pc W) cells ds→q1z sh ds→SmL B sh ds
theorem j85 {f:TypeId→Option (List Sh)} {c:TypeId→Nat} : ∀ (fs:List Field) (acc sh:List Sh),q3g f c fs acc=some sh→∃ r,sh=acc++r
 | [],acc,sh,h=>by
  simp only [q3g,Option.some.injEq] at h
  exact ⟨[],by rw [List.append_nil];exact h.symm⟩
 | fd::fs,acc,sh,h=>by
  unfold q3g at h
  split at h
  case h_2=>cases h
  split at h
  case isFalse=>cases h
  obtain ⟨r,hr⟩:=j85 fs _ sh h
  exact ⟨_,by rw [hr,List.append_assoc]⟩
theorem q1z.split2 {ss ss':List Sh} {ds:List Dat} (h:q1z (ss++ss') ds):q1z ss (ds.take ss.length)∧q1z ss' (ds.drop ss.length):=by
 obtain ⟨d1,d2,rfl,h1,h2⟩:=q1z.split h
 have:=h1.len
 rw [← this,List.take_left,List.drop_left]
 exact ⟨h1,h2⟩
theorem qc2 {f:TypeId→Option (List Sh)} (hf : ∀ t s,f t=some s→j80 enc P W B Pc t s) {cells:List Value} {ds:List Dat} {n:Nat} (h2:q08 (DatRep Pc W) cells ds) : ∀ (fs:List Field) (acc sh:List Sh),q3g f P.cellsOf fs acc=some sh→q1z sh ds →
  (∀ fd∈fs,∃ x,DataW.trod enc P W 0 (fun _=>true) true n fd.type ((cells.drop fd.offset).take (P.cellsOf fd.type))=some x∧Rows.uptoBulk x.1≤B)→SmL B acc (ds.take acc.length)→SmL B sh ds
 | [],acc,sh,h,ht,_,h3=>by
  simp only [q3g,Option.some.injEq] at h
  subst h
  rw [List.take_of_length_le (by rw [ht.len];exact Nat.le_refl _)] at h3
  exact h3
 | fd::fs,acc,sh,h,ht,hr,h3=>by
  unfold q3g at h
  split at h
  case h_2=>cases h
  rename_i s hs
  split at h
  case isFalse=>cases h
  rename_i hc
  obtain ⟨hc1,hc2⟩:=hc
  obtain ⟨x,hx,hxb⟩:=hr fd (List.mem_cons_self ..)
  obtain ⟨r,hr'⟩:=j85 _ _ _ h
  refine qc2 hf h2 fs (acc++s) sh h ht (fun fd' hfd=>hr fd' (List.mem_cons_of_mem _ hfd)) ?_
  rw [hr',List.append_assoc] at ht
  obtain ⟨t1,t2⟩:=ht.split2
  obtain ⟨t3,_⟩:=t2.split2
  rw [List.length_append,List.take_add]
  refine (SmL.app t1.len).2 ⟨h3,?_⟩
  refine hf _ _ hs _ _ _ hx hxb _ ?_ t3
  rw [hc1,← hc2]
  exact (h2.drop _).take _
theorem smalls : ∀ (n:Nat) (t:TypeId) (sh:List Sh),shapeOf P n t=some sh→j80 enc P W B Pc t sh
 | 0,_,_,h=>by cases h
 | n+1,t,sh,h=>by
  intro fuel cells x hx hb ds h2 ht
  unfold shapeOf at h
  split at h
  ·simp only [Option.some.injEq] at h;subst h
   obtain ⟨d,rfl,_⟩:=q58 ht
   unfold SmL SmL SmT;exact ⟨trivial,trivial⟩
  ·simp only [Option.some.injEq] at h;subst h
   obtain ⟨d,rfl,_⟩:=q58 ht
   unfold SmL SmL SmT;exact ⟨trivial,trivial⟩
  ·rename_i hu
   simp only [Option.some.injEq] at h;subst h
   obtain ⟨s,rfl,rfl,hs⟩:=DataW.trod_string hu hx
   obtain ⟨d,rfl,_⟩:=q58 ht
   have h3:DatRep Pc W (.string s) d:=h2.1
   cases h3
   unfold SmL SmL SmT
   refine ⟨fun s' e=>?_,trivial⟩
   obtain rfl:s=s':=Value.string.inj e
   have hb':s.data.toList.length+1≤B:=by simpa [Rows.uptoBulk] using hb
   have:s.data.toList.length=s.size:=by rw [Array.length_toList];rfl
   omega
  ·rename_i e hu
   split at h
   case h_2=>cases h
   rename_i s hs
   split at h
   case isFalse=>cases h
   rename_i hc
   obtain ⟨hc1,hc2⟩:=hc
   simp only [Option.some.injEq] at h;subst h
   have ih:=smalls n e s hs
   obtain ⟨d,rfl,hd⟩:=q58 ht
   cases d with
   | v y=>exact hd.elim
   | lst sz xs =>
    obtain ⟨rfl,_,htx⟩:sz=s.length∧xs.length≤maxLen∧∀ x∈xs,q1z s x:=by unfold Typ at hd;exact hd
    unfold SmL SmL SmT
    refine ⟨?_,trivial⟩
    rcases Deep.open_slice hu hx with ⟨rfl,_⟩|⟨a,len,cap,m,n',D,Pl,rfl,_,hl,hm,hmm,rfl,hi⟩
    ·have h3:DatRep Pc W (.slice none 0 0) (.lst s.length xs):=h2.1
     generalize hv:Value.slice none 0 0=v at h3
     generalize hdd:Dat.lst s.length xs=d at h3
     cases h3 with
     | v=>cases hdd
     | lst a n cap sz xs' b off c hn =>
      obtain ⟨_,rfl⟩:=Dat.lst.inj hdd
      have:(0:Nat)=n:=(Value.slice.inj hv).2.1
      have h0:xs = []:=List.eq_nil_of_length_eq_zero (by omega)
      subst h0
      exact ⟨Nat.zero_le _,fun x hx=>by cases hx⟩
    ·have hge:len≤m:=by rw [hmm];split<;>omega
     have h3:DatRep Pc W (.slice (some a) len cap) (.lst s.length xs):=h2.1
     simp only [Rows.uptoBulk] at hb
     have hle:len≤Rows.uptoBulkAll ((List.range len).map D):=by have:=qit ((List.range len).map D);simpa using this
     generalize hv:Value.slice (some a) len cap=v at h3
     generalize hdd:Dat.lst s.length xs=d at h3
     cases h3 with
     | v=>cases hdd
     | lst a' n0 cap' sz xs' b off c hn hcap hmax hsz ha hcc hr =>
      obtain ⟨rfl,rfl⟩:=Dat.lst.inj hdd
      obtain ⟨e1,e2,e3⟩:=Value.slice.inj hv
      subst e2
      refine ⟨by omega,fun y hy=>?_⟩
      obtain ⟨k,hk,rfl⟩:=List.getElem_of_mem hy
      obtain ⟨cs',hcs,htr⟩:=hi k (by omega)
      obtain ⟨_,hlen',hat⟩:=World.cells?_some hcs
      have ha':a=⟨b,off,none⟩:=Option.some.inj (e1.trans (ha (by omega)))
      subst ha'
      have hbk:Rows.uptoBulk (D k)≤B:=by
       have:=qcz (l:=(List.range len).map D) (List.mem_map.2 ⟨k,List.mem_range.2 (by omega),rfl⟩)
       omega
      refine ih _ _ _ htr hbk _ (q08.mk (by rw [hlen',← hc2,hsz _ (List.getElem_mem hk)]) fun j hj hj'=>?_) (htx _ (List.getElem_mem hk))
      have hjs:j<s.length:=by rw [hsz _ (List.getElem_mem hk)] at hj';exact hj'
      have hr':=hr k j hk hj'
      have h5:=(hcc k j hk hjs).2.1
      have h6:=hat j (by omega)
      rw [Addr.add_lit,Addr.add_lit,← hc2,h5] at h6
      rw [List.getElem?_eq_getElem hj] at h6
      rw [← Option.some.inj h6]
      exact hr'
  ·rename_i fs hu
   split at h
   case h_2=>cases h
   rename_i s hs
   split at h
   case isFalse=>cases h
   rename_i hst
   simp only [Option.some.injEq] at h;subst h
   obtain ⟨xs,n',_,rfl,hcl,hl,he⟩:=DataW.trod_struct hu hx
   simp only [Rows.uptoBulk] at hb
   refine qc2 (cells:=cells) (n:=n') (fun t s=>smalls n t s) h2 fs.toList [] s hs ht (fun fd hfd=>?_) (by unfold SmL;trivial)
   obtain ⟨i,hi,rfl⟩:=List.getElem_of_mem hfd
   have hif:i<fs.size:=by simpa using hi
   have:=he i fs[i] (Array.getElem?_eq_getElem hif)
   rw [List.getElem?_eq_getElem (by omega)] at this
   refine ⟨_,by simpa using this,?_⟩
   have:=qcz (l:=xs.map (·.1)) (List.mem_map.2 ⟨xs[i],List.getElem_mem (by omega),rfl⟩)
   omega
  ·cases h
def qzh (B:Nat):(ty:Ty)→den ty→Prop
 | .str,(s:List UInt8)=>s.length≤B
 | .lst e,(l:List (den e))=>l.length≤B∧∀ x∈l,qzh B e x
 | .prod a b,(p:den a×den b)=>qzh B a p.1∧qzh B b p.2
 | _,_=>True
theorem qvt (B:Nat) : ∀ (ty:Ty) (x:den ty),SmL B (qq9 ty) (q01 ty x)→qzh B ty x
 | .int _,_,_=>trivial
 | .bool,_,_=>trivial
 | .any,_,_=>trivial
 | .str,(s:List UInt8),h=>by
  have h':SmT B .str (.v (.string (ba s)))∧SmL B [] []:=by
   have h0:SmL B [.str] [.v (.string (ba s))]:=h
   unfold SmL at h0
   exact h0
  unfold SmT at h'
  have:=h'.1 _ rfl
  rw [q0p] at this
  exact this
 | .lst e,(l:List (den e)),h=>by
  have h0:SmL B [.lst (qq9 e)] [.lst (width e) (l.map (q01 e))]:=h
  unfold SmL SmT at h0
  obtain ⟨⟨h1,h2⟩,_⟩:=h0
  exact ⟨by simpa using h1,fun x hx=>qvt B e x (h2 _ (List.mem_map.2 ⟨x,hx,rfl⟩))⟩
 | .prod a b,(p:den a×den b),h=>by
  have h0:SmL B (qq9 a++qq9 b) (q01 a p.1++q01 b p.2):=h
  rw [SmL.app ((q0q a p.1).trans (qah a).symm)] at h0
  exact ⟨qvt B a p.1 h0.1,qvt B b p.2 h0.2⟩
def jdl (B:Nat) (ty:Ty) (w:World) (v:Value):Prop:=∃ x:den ty,qrk ty x∧qzh B ty x∧q0v (q37 (Old w)) q6b w v (argD false (q01 ty x))
theorem j57 {base:Nat} {t:TypeId} (B:Nat) (ty:Ty) {v:Value} {d:DataW H} {p:List MemPlace} (hs:shapeOf P 8 t=some (qq9 ty)) (hw:width ty=1) (ha:qj7 P t=some false)
  (hv:Value.okWide P W .any base t v) (h:DataW.Trod enc P W 0 (fun _=>true) true t v d p) (hb:Rows.uptoBulk d≤B):jdl B ty W v:=by
 have hl:=qah ty
 rw [hw] at hl
 obtain ⟨s,e1⟩ : ∃ s,qq9 ty = [s]:=by
  cases h1:qq9 ty with
  | nil=>rw [h1] at hl;cases hl
  | cons s l=>cases l with
   | nil=>exact ⟨s,rfl⟩
   | cons _ _=>rw [h1] at hl;simp at hl
 have hs':=hs
 rw [e1] at hs
 obtain ⟨x,h1,h2⟩:=j4c hs ha hv h
 have ht:q1z (qq9 ty) [x]:=by rw [e1];unfold q1z;exact ⟨h1,by unfold q1z;trivial⟩
 obtain ⟨y,h3,h4⟩:=qlx ty [x] ht
 refine ⟨y,h4,?_,by rw [← h3];exact h2⟩
 obtain ⟨fuel,hf⟩:=h
 refine qvt B ty y ?_
 rw [← h3]
 have hcells:v.cells.toList = [v]:=by
  have hne : ∀ cs,v ≠ .agg cs:=fun cs e=>by
   subst e
   have h6:DatRep (Old W) W (.agg cs) x:=h2
   cases x with
   | lst sz xs=>generalize hq:Dat.lst sz xs=d at h6;generalize hq2:Value.agg cs=v at h6;cases h6 with|v=>cases hq|lst=>cases hq2
   | v z =>
    cases h6
    cases s with
    | int k=>obtain ⟨n,hn,_⟩:=h1;cases hn
    | bool=>obtain ⟨n,hn⟩:=h1;cases hn
    | str=>obtain ⟨n,hn,_⟩:=h1;cases hn
    | lst e=>exact h1.elim
  unfold Value.cells
  split
  ·rename_i cs;exact absurd rfl (hne cs)
  ·rfl
 exact smalls 8 t _ hs' fuel _ _ hf hb [x] (by rw [hcells];exact ⟨h2,trivial⟩) ht
theorem qqf {C:Checked} {os:Os} {f:FuncId} {fn:Func} {s:OpenSpec} {conds:List PathCond} {apart:Bool} {laid:List (String×DataW Unit)} (modest:Bool) (w0:World) (args:Array Value) (hos:w0.os=os)
  (hsh:(w0.forCall (fun _ _=>0) ⟨#[],args,[]⟩).Shaped C.prog)
  (hok:Input.okWideB C.prog (w0.forCall (fun _ _=>0) ⟨#[],args,[]⟩) f ⟨#[],args,[]⟩=true)
  (hrow:s.preRow enc C.prog fn conds apart laid (w0.forCall (fun _ _=>0) ⟨#[],args,[]⟩).memory args) :
  ∃ (w:World) (tape:Tape) (i:Input),w.os=os∧(w.forCall tape i).Shaped C.prog∧i.vars = []∧Input.okWide C.prog (w.forCall tape i) .any w.heap.size f i ∧
   s.preRow enc C.prog fn conds apart laid (w.forCall tape i).memory i.args∧({ modest:=modest } : Assume).holds C.prog (lone (Frame.enter C.prog f i.args .normal) [] (w.forCall tape i)) :=
 ⟨w0,fun _ _=>0,⟨#[],args,[]⟩,hos,hsh,(Input.okWide_of_okWideB (base:=0) hok).1,(Input.okWide_of_okWideB hok).2,hrow,by
  simp only [Assume.holds]
  exact ⟨by simp,by simp,fun _=>Modest.zero,by simp,by simp⟩⟩
end Go.Proofs.YtlmjgghohipipaaGreatDoor.AM
namespace Go.Proofs.YtlmjgghohipipaaGreatDoor.AM
open Go.RowKit
set_option linter.unusedVariables false
theorem qnr (l:den jb3) (k:Int) (hl:qrk jb3 l) (hs:qzh 1048576 jb3 l) (_:(Lit.int .i64 k).wf=true):qaa qvu l k=some true :=
 qtb qvu (by decide) jca l k hs.1 fun t ht=>⟨(hs.2 t ht).1,(hs.2 t ht).2.2.2.2.2.2⟩
end Go.Proofs.YtlmjgghohipipaaGreatDoor.AM
namespace Go.Proofs.YtlmjgghohipipaaGreatDoor.AM
open Go.RowKit
set_option linter.unusedVariables false
set_option linter.unusedSimpArgs false
theorem qwp : "*" ++ "errors.errorString" = "*errors.errorString":=by decide
theorem j0x (u:TypeId) (h:Tryz.prog.typeName? 3 u=some "*errors.errorString"):u=165 :=
 typeName_ptr_named (nm := "errors.errorString") (by rw [qwp];kernel_rfl) (by kernel_rfl) (by decide) u (by rw [qwp];exact h)
theorem jcb:(Rows.laid_internal_strconv_uint64pow10:DataW Unit)=Lib.tabData .u64 Lib.pow10Tab:=by rfl
theorem jd0:Tryz.prog.globalNamed "internal/strconv.uint64pow10" = some ((Tryz.prog.globalNamed "internal/strconv.uint64pow10").getD 0)∧(Tryz.prog.globals[(Tryz.prog.globalNamed "internal/strconv.uint64pow10").getD 0]?).map (·.type)=some 168:=⟨by kernel_rfl,by kernel_rfl⟩
theorem jal:Tryz.prog.globalNamed "strconv.ErrSyntax" = some (Tryz.laysAtoi_ren.g 15)∧(Tryz.prog.globals[Tryz.laysAtoi_ren.g 15]?).map (·.type)=some 82:=⟨by kernel_rfl,by kernel_rfl⟩
theorem ja9:Tryz.prog.globalNamed "strconv.ErrRange" = some (Tryz.laysAtoi_ren.g 16)∧(Tryz.prog.globals[Tryz.laysAtoi_ren.g 16]?).map (·.type)=some 82:=⟨by kernel_rfl,by kernel_rfl⟩
theorem qo0:Tryz.prog.cellsOf 167=1:=by kernel_rfl
theorem qq5:Tryz.prog.cellsOf 9=1:=by kernel_rfl
theorem jda {w:World} (hsh:w.ShapedOpen Tryz.prog)
  (hL:laidMet Tryz.prog [("math/bits.deBruijn32tab",Rows.laid_math_bits_deBruijn32tab),("math/bits.deBruijn64tab",Rows.laid_math_bits_deBruijn64tab),("internal/strconv.uint64pow10",Rows.laid_internal_strconv_uint64pow10),("unicode/utf8.acceptRanges",Rows.laid_unicode_utf8_acceptRanges),("strconv.ErrRange",Rows.laid_strconv_ErrRange),("strconv.ErrSyntax",Rows.laid_strconv_ErrSyntax),("unicode/utf8.first",Rows.laid_unicode_utf8_first)] w):Inv w:=by
 obtain ⟨m,hm⟩:=Tryz.laysIndex.s1_3 w hsh
 have h3:=hL.tail.tail
 rw [jcb] at h3
 have h5:=hL.tail.tail.tail.tail
 unfold Rows.laid_strconv_ErrRange at h5
 have h6:=hL.tail.tail.tail.tail.tail
 unfold Rows.laid_strconv_ErrSyntax at h6
 obtain ⟨a0,s0,hv0,-,-,-⟩:=laid_sentinel h5 ja9.1 ja9.2 Tryz.underlying82 j0x Tryz.underlying165 Tryz.underlying167 rfl rfl Tryz.underlying9 qo0 qq5
 obtain ⟨a1,s1,hv1,-,-,-⟩:=laid_sentinel h6 jal.1 jal.2 Tryz.underlying82 j0x Tryz.underlying165 Tryz.underlying167 rfl rfl Tryz.underlying9 qo0 qq5
 have c0:w.cell? ⟨Tryz.laysAtoi_ren.g 16,0,none⟩=some (.iface 165 (.pointer (some a0))):=by have h0:=World.var?_cell ja9.1 hv0 0;simpa using h0
 have c1:w.cell? ⟨Tryz.laysAtoi_ren.g 15,0,none⟩=some (.iface 165 (.pointer (some a1))):=by have h0:=World.var?_cell jal.1 hv1 0;simpa using h0
 exact ⟨⟨m,hm⟩,Lib.tabIs_of_head jd0.1 jd0.2 (n:=20) (e:=152) (by kernel_rfl) (by kernel_rfl) (by kernel_rfl) (by kernel_rfl) h3,⟨_,_,c1⟩,⟨_,_,c0⟩⟩
end Go.Proofs.YtlmjgghohipipaaGreatDoor.AM
