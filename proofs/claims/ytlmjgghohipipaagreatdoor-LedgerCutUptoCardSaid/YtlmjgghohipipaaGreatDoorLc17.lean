
import Derived.Test.YtlmjgghohipipaaGreatDoorLc15
import Derived.Test.YtlmjgghohipipaaGreatDoorLc16
import Derived.Test.YtlmjgghohipipaaGreatDoorLc11
namespace Go.Proofs.YtlmjgghohipipaaGreatDoor.AM
open Go.RowKit
set_option linter.unusedVariables false
set_option linter.unusedSimpArgs false
theorem qsi (n:Nat) (p d:List UInt8) (hd:d.length<=1000000) (hp:p.length<=1000000):q0x n p d=some (decide (d <+: p)):=by
 unfold q0x
 by_cases h:d.length<=p.length
 ·have h':((d.length:Nat):Int)<=((p.length:Nat):Int):=by omega
  simp only [h',decide_true,cond_true,sub_zero h,Option.bind_some]
  congr 1
  refine decide_eq_decide.2 ?_
  rw [List.prefix_iff_eq_take]
  exact eq_comm
 ·have h' : ¬ ((d.length:Nat):Int)<=((p.length:Nat):Int):=by omega
  have h2 : ¬ d <+: p:=fun hx=>h hx.length_le
  simp [h',h2]
theorem qxp (n:Nat) (s p:List UInt8) (hs:s.length<=1000000) (hp:p.length<=1000000):q11 n s p=some (if p <+: s then (s.drop p.length,true) else (s,false)):=by
 unfold q11 q2u
 rw [qsi n s p hp hs,Option.bind_some]
 by_cases h:p <+: s
 ·have h3:q5y s ((p.length:Nat):Int) ((s.length:Nat):Int)=some (s.drop p.length):=by
   rw [sub_le h.length_le (Nat.le_refl _),List.take_of_length_le (by rw [List.length_drop];exact Nat.le_refl _)]
  rw [decide_eq_true h,Bool.not_true,cond_false,if_pos h,h3];rfl
 ·rw [decide_eq_false h,Bool.not_false,cond_true,if_neg h];rfl
theorem qpd (n:Nat) (s:List UInt8) (hs:s.length<=100000):q2n n s=some (q21 s):=by
 unfold q2n q21
 have hc:=qxp n s h1L (by omega) (by decide)
 unfold h1L at hc
 rw [hc,Option.bind_some]
 unfold h1L
 by_cases h:([104,49,58]:List UInt8) <+: s
 ·rw [if_pos h,decide_eq_true h,Bool.not_true,cond_false,Bs.qft (by rw [List.length_drop];omega),Option.bind_some,Bool.true_and]
  show (bif (Bs.q6j (s.drop 3)).2 then some (decide ((((Bs.q6j (s.drop 3)).1.length:Nat):Int)=32)) else some false)=_
  cases (Bs.q6j (s.drop 3)).2 with
  | false=>rfl
  | true =>
   rw [cond_true,Bool.true_and]
   congr 1
   exact decide_eq_decide.2 ⟨fun h=>by omega,fun h=>by omega⟩
 ·rw [if_neg h,decide_eq_false h]
  rfl
def small (t:TgD):Prop:=t.1.length<=100000/\(tH t).length<=100000
theorem qts (n:Nat) (t:TgD) (hs:small t) (hn:200000<=n):q5p n t=some (q16 t):=by
 unfold q5p q16
 rw [qrz n t.1 (by have:=hs.1;omega) (by have:=hs.1;omega),Option.bind_some]
 cases okS t.1 with
 | false=>rfl
 | true =>
  show (q2c n (tV t)).bind _=_
  rw [q1s n (tV t) (by omega),Option.bind_some]
  cases q0n (tV t) with
  | false=>rfl
  | true =>
   show (qb2 n t.1 (tV t)).bind _=_
   rw [qj2 n t.1 (tV t) (by have:=hs.1;omega) (by have:=hs.1;omega) (by omega),Option.bind_some]
   cases qsk t.1 (tV t) with
   | false=>rfl
   | true =>
    show (q2n n (tH t)).bind _=_
    rw [qpd n (tH t) hs.2,Option.bind_some]
    cases q21 (tH t)<;>rfl
theorem qh6 (n:Nat) (a b:VD) (hn:100<=n):q5i n a b=some (decide (qd6 a b<0)):=by
 unfold q5i
 rw [qmj n a b hn];rfl
theorem qil (n:Nat) (t:TgD) (m:List (List UInt8×VD)) (hs:small t) (hn:200000<=n):q86 n () t m=some ((qop t m).1,(((qop t m).2,()),())):=by
 unfold q86 qop
 rw [qts n t hs hn,Option.bind_some]
 by_cases hj:q16 t=0
 ·rw [hj,decide_eq_true rfl,Bool.not_true,cond_false,if_pos rfl]
  unfold j5d
  cases hm:q5w t.1 m with
  | none=>rfl
  | some v =>
   simp only [Option.getD_some,Option.isSome_some,cond_true]
   show (q5i n v (tV t)).bind _=_
   rw [qh6 n v (tV t) (by omega),Option.bind_some]
   by_cases hc:qd6 v (tV t)<0
   ·rw [decide_eq_true hc,Bool.not_true,cond_false,if_pos hc];rfl
   ·rw [decide_eq_false hc,Bool.not_false,cond_true,if_neg hc]
 ·rw [decide_eq_false hj,Bool.not_false,cond_true,if_neg hj]
theorem join3 (a b c:List UInt8):Lib.join [a,b,c] [32]=a++32::(b++32::c):=by
 rw [Lib.join_cons];simp [Lib.joinTail]
theorem qiw (n:Nat) (t:TgD) (h:t.1.length<=10000000000/\(q5b (tV t)).length<=10000000000/\(tH t).length<=10000000000) (hn:4<=n):q6k n t=some (q2p t):=by
 unfold q6k q2p
 show (qbf n (tV t)).bind _=_
 rw [qix n (tV t) hn,Option.bind_some]
 have hj:qgt [t.1,q5b (tV t),tH t] [32]=some (t.1++32::(q5b (tV t)++32::tH t)):=by
  unfold qgt
  rw [join3,if_pos]
  refine ⟨⟨by simp,by simp⟩,?_⟩
  simp only [List.length_append,List.length_cons];omega
 show (qgt [t.1,q5b (tV t),tH t] [32]).bind _=_
 rw [hj,Option.bind_some]
 unfold qmz
 rw [if_pos (by simp only [List.length_append,List.length_cons,List.length_nil];omega)]
 simp [Option.bind_some,List.append_assoc]
theorem qfd (n:Nat) (xs:List (List UInt8)) (v:List UInt8) (hL:xs.length<=1000000) : ∀m j:Nat,j<=xs.length->xs.length - j<m->∃ r,q2k n m xs v ((xs.length:Nat):Int) (j:Int)=some r/\(Sum.elim (fun q4=>some q4.1.1) (fun q5=>some (-1:Int)) r).map (fun r:Int=>decide (0<=r))=some ((xs.drop j).any fun x=>decide (v=x))
 | 0,j,hj,hm=>absurd hm (Nat.not_lt_zero _)
 | m+1,j,hj,hm=>by
  rw [qaw]
  unfold qgx
  by_cases hjl:j<xs.length
  ·have h1:(j:Int)<((xs.length:Nat):Int):=by omega
   rw [decide_eq_true h1,cond_true,q66 hjl,Option.bind_some]
   have hd:xs.drop j=xs[j]::xs.drop (j+1):=List.drop_eq_getElem_cons hjl
   by_cases hv:v=xs[j]
   ·rw [decide_eq_true hv,cond_true]
    refine ⟨_,rfl,?_⟩
    rw [hd,List.any_cons,decide_eq_true hv,Bool.true_or]
    show some (decide (0<=(j:Int)))=some true
    rw [decide_eq_true (by omega)]
   ·rw [decide_eq_false hv,cond_false]
    unfold q2f
    rw [q12 (by omega)]
    obtain ⟨r,h2,h3⟩:=qfd n xs v hL m (j+1) hjl (by omega)
    refine ⟨r,h2,?_⟩
    rw [h3,hd,List.any_cons,decide_eq_false hv,Bool.false_or]
  ·have h1 : ¬ (j:Int)<((xs.length:Nat):Int):=by omega
   rw [decide_eq_false h1,cond_false]
   refine ⟨_,rfl,?_⟩
   rw [List.drop_of_length_le (by omega)];rfl
theorem qi1 (n:Nat) (xs:List (List UInt8)) (v:List UInt8) (hL:xs.length<=1000000) (hn:xs.length<n):q5f n xs v=some (xs.any fun x=>decide (v=x)):=by
 unfold q5f ql9
 obtain ⟨r,h1,h2⟩:=qfd n xs v hL n 0 (Nat.zero_le _) (by omega)
 have h1':q2k n n xs v ((xs.length:Nat):Int) (0:Int)=some r:=h1
 rw [h1',Option.bind_some]
 cases r with
 | inl q =>
  have:some (decide (0<=q.1.1))=some ((xs.drop 0).any fun x=>decide (v=x)):=h2
  exact this
 | inr q =>
  have:some (decide ((0:Int)<=-1))=some ((xs.drop 0).any fun x=>decide (v=x)):=h2
  exact this
theorem qox (c:UInt8) (s:List UInt8) (h:s.length<4294967281):q49 s [c]=some (spl c [] s):=by
 show (if s.length<4294967281 then some (spl c [] s) else none)=_
 rw [if_pos h]
theorem j2n:(q19 []).2=false:=by
 cases h:(q19 []).2 with
 | false=>rfl
 | true =>
  obtain ⟨h1,h2⟩:=qxu h
  unfold q5b at h2
  rw [if_pos h1] at h2
  cases h2
def z0T:TgD:=([],(0,(0,(0,([],([],[]))))))
theorem qdo {p v h:List UInt8} (hn : ¬ ((q19 v).2=true/\p ≠ []/\h ≠ [])):qyl p v h=none:=if_neg hn
theorem qpt {p v h:List UInt8} (hn:(q19 v).2=true/\p ≠ []/\h ≠ []):qyl p v h=some (mkT p (q19 v).1 h):=if_pos hn
theorem qxc (n:Nat) (s:List UInt8) (hs:s.length<=100000) (hn:200000<=n) : ∃ t0,qlj n s=some (match qi7 s with|some t=>(t,true)|none=>(t0,false)):=by
 unfold qlj qi7
 rw [qox 32 s (by omega),Option.bind_some]
 have hmem:=q8d 32 s []
 generalize spl 32 [] s=L at hmem
 match L,hmem with
 | [p,v,h],hmem =>
  have hv:v.length<=100000:=by
   have:=hmem v (by simp)
   simp only [List.length_nil,Nat.zero_add] at this;omega
  have h3:decide ((([p,v,h]:List (List UInt8)).length:Int)=3)=true:=by simp
  rw [h3,Bool.not_true,cond_false,qi1 n _ _ (by simp) (by simp;omega),Option.bind_some]
  show ∃ t0,_=some (match qyl p v h with|some t=>(t,true)|none=>(t0,false))
  by_cases hp:p = []
  ·subst hp
   refine ⟨z0T,?_⟩
   rw [qdo (fun hc=>hc.2.1 rfl)]
   rfl
  ·by_cases hv0:v = []
   ·subst hv0
    refine ⟨z0T,?_⟩
    rw [qdo (fun hc=>by rw [j2n] at hc;cases hc.1)]
    have ha:([p,[],h].any fun x=>decide (([]:List UInt8)=x))=true:=by simp
    rw [ha]
    rfl
   ·by_cases hh:h = []
    ·subst hh
     refine ⟨z0T,?_⟩
     rw [qdo (fun hc=>hc.2.2 rfl)]
     have ha:([p,v,[]].any fun x=>decide (([]:List UInt8)=x))=true:=by simp
     rw [ha]
     rfl
    ·have ha:([p,v,h].any fun x=>decide (([]:List UInt8)=x))=false:=by
      rw [List.any_cons,List.any_cons,List.any_cons,decide_eq_false (Ne.symm hp),decide_eq_false (Ne.symm hv0),decide_eq_false (Ne.symm hh)];rfl
     refine ⟨mkT p (q19 v).1 h,?_⟩
     rw [ha,cond_false]
     have i1:q67 [p,v,h] (1:Int)=some v:=rfl
     have i0:q67 [p,v,h] (0:Int)=some p:=rfl
     have i2:q67 [p,v,h] (2:Int)=some h:=rfl
     rw [i1,Option.bind_some,qrn n v (by omega) (by omega),Option.bind_some,i0,Option.bind_some,i2,Option.bind_some]
     by_cases hc:(q19 v).2=true
     ·rw [qpt ⟨hc,hp,hh⟩]
      show some (mkT p (q19 v).1 h,(q19 v).2)=some (mkT p (q19 v).1 h,true)
      rw [hc]
     ·rw [qdo (fun h5=>hc h5.1)]
      show some (mkT p (q19 v).1 h,(q19 v).2)=some (mkT p (q19 v).1 h,false)
      rw [Bool.eq_false_iff.2 hc]
 | [],_=>exact ⟨z0T,rfl⟩
 | [a],_=>exact ⟨z0T,rfl⟩
 | [a,b],_=>exact ⟨z0T,rfl⟩
 | a::b::c::d::l,_ =>
  refine ⟨z0T,?_⟩
  have:decide ((((a::b::c::d::l).length:Nat):Int)=3)=false:=decide_eq_false (by simp only [List.length_cons];omega)
  rw [this];rfl
end Go.Proofs.YtlmjgghohipipaaGreatDoor.AM
namespace Go.Proofs.YtlmjgghohipipaaGreatDoor.AM
open Go.RowKit
set_option linter.unusedVariables false
set_option linter.unusedSimpArgs false
def qkn (s:List UInt8):Bool:=s.getLast? == some 10
def q2h (s:List UInt8):List (List UInt8):=if s = [] then [] else spl 10 [] (if qkn s=true then s.dropLast else s)
theorem qq6 (n:Nat) (s:List UInt8) (hs:s.length<=1000000):q3u n s [10]=some (if qkn s=true then s.dropLast else s):=by
 unfold q3u q5e q5z qkn
 rcases List.eq_nil_or_concat s with rfl|⟨m,c,rfl⟩
 ·rfl
 ·rw [List.concat_eq_append]
  have hl:(m ++ [c]).length=m.length+1:=by simp
  rw [List.concat_eq_append] at hs
  have h1:((([10]:List UInt8).length:Nat):Int)<=(((m ++ [c]).length:Nat):Int):=by rw [hl];simp;omega
  have w1:IntKind.wrap .i64 ((((m ++ [c]).length:Nat):Int) - ((([10]:List UInt8).length:Nat):Int))=((m.length:Nat):Int):=by
   rw [hl,show (((m.length+1:Nat):Int) - ((([10]:List UInt8).length:Nat):Int))=((m.length:Nat):Int) from by simp];exact j5m (by omega)
  have s1:q5y (m ++ [c]) ((m.length:Nat):Int) (((m ++ [c]).length:Nat):Int)=some [c]:=by rw [sub_le (by rw [hl];omega) (Nat.le_refl _),hl];simp
  have s2:q5y (m ++ [c]) (0:Int) ((m.length:Nat):Int)=some m:=by rw [sub_zero (by rw [hl];omega)];simp
  simp only [h1,decide_true,cond_true,q2f,w1,s1,s2,Option.bind_some]
  by_cases hc:c=10
  ·subst hc;simp
  ·simp [hc]
theorem j7e (n:Nat) (s:List UInt8) (hs:s.length<=1000000):qdt n s=some (q2h s):=by
 unfold qdt q2h
 by_cases h:s = []
 ·simp [h]
 ·have h2:(if qkn s=true then s.dropLast else s).length<=s.length:=by split<;>simp
  rw [qq6 n s hs,decide_eq_false h,cond_false,Option.bind_some,qox 10 _ (by omega),if_neg h]
  rfl
def q3h (t:TgD):IV:=mkIV 57 (j4w t)
theorem j28 (t:TgD):jbe (q3h t).1=some t:=by
 show some (unB (ba t.1),(t.2.1,(t.2.2.1,(t.2.2.2.1,(unB (ba t.2.2.2.2.1),(unB (ba t.2.2.2.2.2.1),unB (ba t.2.2.2.2.2.2)))))))=_
 simp only [jct]
theorem qqu (n:Nat) (hn:4<=n) : ∀l:List TgD,(∀t∈l,small t)->j68 n (l.map q3h)=some (l.map q2p)
 | [],_=>rfl
 | t::l,h=>by
  have h1:=h t (List.mem_cons_self ..)
  show (match (jbe (q3h t).1).bind (q6k n),j68 n (l.map q3h) with|some a,some b=>some (a::b)|_,_=>none)=_
  rw [j28,Option.bind_some,qiw n t ⟨by have:=h1.1;omega,by have:=q9c (tV t);omega,by have:=h1.2;omega⟩ hn,qqu n hn l (fun t ht=>h t (List.mem_cons_of_mem _ ht))]
  rfl
theorem j5b {t:TgD} (h:small t):(q2p t).length<=200200:=by
 unfold q2p
 have:=q9c (tV t)
 have:=h.1;have:=h.2
 simp only [List.length_append,List.length_cons,List.length_nil]
 omega
theorem qor : ∀{l:List TgD},(∀t∈l,small t)->(l.map q2p).flatten.length<=200200*l.length
 | [],_=>by simp
 | t::l,h=>by
  have h1:=j5b (h t (List.mem_cons_self ..))
  have h2:=qor (l:=l) (fun t ht=>h t (List.mem_cons_of_mem _ ht))
  simp only [List.map_cons,List.flatten_cons,List.length_append,List.length_cons]
  omega
theorem ql2 (n:Nat) (hn:4<=n) (l:List TgD) (hl:l.length<=100000) (h : ∀t∈l,small t):qi6 n (l.map q3h)=some (l.map q2p).flatten:=by
 unfold qi6
 rw [qqu n hn l h,Option.bind_some,if_pos]
 have:=qor h
 refine ⟨by omega,by rw [List.length_map];omega⟩
theorem qp6 {β:Type} {l:List β} {j:Nat} (h:j<l.length):l.take (j+1)=l.take j ++ [l[j]]:=List.take_succ_eq_append_getElem h
abbrev jcq:=((((List UInt8)×(Int×(Unit)))×(Unit)×(Unit))⊕((Unit×(Unit))×(Unit)×((List (IV))×(Unit))))
def tFin (n:Nat) (r:jcq):Option (List UInt8×Int):=Sum.elim (fun q6=>some (q6.1.1,q6.1.2.1)) (fun q7=>(qi6 n q7.2.2.1).bind fun r8=>some (r8,(0:Int))) r
theorem qoi (n:Nat) (hn:200000<=n) (l:List TgD) (hL:l.length<=100000) (hs : ∀t∈l,small t) : ∀m j:Nat,j<=l.length->l.length - j<m->Good (l.take j) ->
  ∃ r:jcq,q1u n m l ((l.length:Nat):Int) (j:Int) (q9j (l.take j)) ((l.take j).map q3h)=some r/\tFin n r=some (q3z (l.take j) (l.drop j))
 | 0,j,hj,hm,_=>absurd hm (Nat.not_lt_zero _)
 | m+1,j,hj,hm,hg=>by
  rw [q5s]
  unfold qdg
  by_cases hjl:j<l.length
  ·have h1:(j:Int)<((l.length:Nat):Int):=by omega
   rw [decide_eq_true h1,cond_true,q66 hjl,Option.bind_some]
   have hd:l.drop j=l[j]::l.drop (j+1):=List.drop_eq_getElem_cons hjl
   have hst:=hs l[j] (List.getElem_mem hjl)
   have htk:=qp6 hjl
   rw [qil n l[j] (q9j (l.take j)) hst hn,Option.bind_some,qe1 hg,hd]
   generalize l[j]=t at *
   by_cases hw:q0a (l.take j) t=0
   ·have h2:decide ((q0a (l.take j) t)=(0:Int))=true:=decide_eq_true hw
    simp only [h2,Bool.not_true,cond_false,if_pos hw]
    have h3:qrc 16 ((l.take j).map q3h) [q3h t]=some ((l.take (j+1)).map q3h):=by
     rw [j1e (by simp only [List.length_map,List.length_cons,List.length_nil,List.length_take];omega),htk,List.map_append];rfl
    show ∃ r:jcq,((qrc 16 ((l.take j).map q3h) [q3h t]).bind _)=some r/\_
    rw [h3,Option.bind_some]
    unfold q2f
    rw [q12 (by omega),<-htk]
    obtain ⟨r,h4,h5⟩:=qoi n hn l hL hs m (j+1) hjl (by omega) (by rw [htk];exact .snoc hg hw)
    refine ⟨r,h4,?_⟩
    rw [h5,htk]
    show _=some (if q0a (l.take j) t=0 then q3z (l.take j ++ [t]) (l.drop (j+1)) else ([],q0a (l.take j) t))
    rw [if_pos hw]
   ·have h2:decide ((q0a (l.take j) t)=(0:Int))=false:=decide_eq_false hw
    simp only [h2,Bool.not_false,cond_true]
    refine ⟨_,rfl,?_⟩
    show some (([]:List UInt8),q0a (l.take j) t)=some (if q0a (l.take j) t=0 then q3z (l.take j ++ [t]) (l.drop (j+1)) else ([],q0a (l.take j) t))
    rw [if_neg hw]
  ·have h1 : ¬ (j:Int)<((l.length:Nat):Int):=by omega
   rw [decide_eq_false h1,cond_false]
   refine ⟨_,rfl,?_⟩
   have hj':l.take j=l:=List.take_of_length_le (by omega)
   rw [List.drop_of_length_le (by omega),hj']
   show (qi6 n (l.map q3h)).bind _=_
   rw [ql2 n (by omega) l hL hs]
   rfl
theorem qjf (n:Nat) (hn:200000<=n) (l:List TgD) (hL:l.length<=100000) (hs : ∀t∈l,small t):q47 n l=some (q3z [] l):=by
 unfold q47
 obtain ⟨r,h1,h2⟩:=qoi n hn l hL hs n 0 (Nat.zero_le _) (by omega) .nil
 have h1':q1u n n l ((l.length:Nat):Int) (0:Int) [] []=some r:=h1
 rw [h1',Option.bind_some]
 exact h2
theorem qrr {L:List (List UInt8)} {t:TgD} {k:Nat} (h:jat L=some t) (hk : ∀x∈L,x.length<=k):t.1.length<=k/\(tH t).length<=k:=by
 unfold jat at h
 split at h
 case h_2=>cases h
 rename_i p v hh
 unfold qyl at h
 split at h
 case isFalse=>cases h
 obtain rfl:=Option.some.inj h
 exact ⟨hk p (by simp),hk hh (by simp)⟩
theorem qtj {s:List UInt8} {t:TgD} (h:qi7 s=some t):t.1.length<=s.length/\(tH t).length<=s.length :=
 qrr h fun x hx=>by have:=q8d 32 s [] x hx;simpa using this
abbrev POut:=((Unit×(Int×(Int×(Unit))))×(Unit)×(Unit))⊕((Unit×(Unit))×(Unit)×((List TgD)×(Unit)))
def pFin (r:POut):Option (List TgD×(Int×Int)):=Sum.elim (fun q8=>some (([]:List TgD),(q8.1.2.1,q8.1.2.2.1))) (fun q9=>some (q9.2.2.1,(((List.length q9.2.2.1:Nat):Int),(0:Int)))) r
theorem qiy (n:Nat) (hn:200000<=n) (ls:List (List UInt8)) (hL:ls.length<=100000) (hs : ∀s∈ls,s.length<=100000) : ∀(m j:Nat) (d:List TgD),j<=ls.length->ls.length - j<m->Good d->d.length=j ->
  ∃ r:POut,q2m n m ls ((ls.length:Nat):Int) (j:Int) (q9j d) d=some r/\pFin r=some (q2y d (ls.drop j))
 | 0,j,d,hj,hm,_,_=>absurd hm (Nat.not_lt_zero _)
 | m+1,j,d,hj,hm,hg,hdl=>by
  rw [qb0]
  unfold qgw
  by_cases hjl:j<ls.length
  ·have h1:(j:Int)<((ls.length:Nat):Int):=by omega
   rw [decide_eq_true h1,cond_true,q66 hjl,Option.bind_some]
   have hd:ls.drop j=ls[j]::ls.drop (j+1):=List.drop_eq_getElem_cons hjl
   have hst:=hs ls[j] (List.getElem_mem hjl)
   rw [hd]
   generalize ls[j]=s at *
   obtain ⟨t0,hr⟩:=qxc n s hst hn
   rw [hr,Option.bind_some]
   cases hrt:qi7 s with
   | none =>
    refine ⟨_,rfl,?_⟩
    show some (([]:List TgD),((j:Int),(10:Int)))=some (match qi7 s with
     | none=>([],((d.length:Int),10))
     | some t=>if q0a d t=0 then q2y (d ++ [t]) (ls.drop (j+1)) else ([],((d.length:Int),q0a d t)))
    rw [hrt,hdl]
   | some t =>
    have hsm:=qtj hrt
    have hst':small t:=⟨by have:=hsm.1;omega,by have:=hsm.2;omega⟩
    simp only [Bool.not_true,cond_false]
    rw [qil n t (q9j d) hst' hn,Option.bind_some,qe1 hg]
    have hgoal:q2y d (s::ls.drop (j+1))=if q0a d t=0 then q2y (d ++ [t]) (ls.drop (j+1)) else ([],((d.length:Int),q0a d t)):=by
     show (match qi7 s with
     | none=>([],((d.length:Int),10))
     | some t=>if q0a d t=0 then q2y (d ++ [t]) (ls.drop (j+1)) else ([],((d.length:Int),q0a d t)))=_
     rw [hrt]
    rw [hgoal]
    by_cases hw:q0a d t=0
    ·have h2:decide ((q0a d t)=(0:Int))=true:=decide_eq_true hw
     simp only [h2,Bool.not_true,cond_false,if_pos hw]
     have h3:qrc 88 d [t]=some (d ++ [t]):=j1e (by simp only [List.length_cons,List.length_nil];omega)
     show ∃ r:POut,((qrc 88 d [t]).bind _)=some r/\_
     rw [h3,Option.bind_some]
     unfold q2f
     rw [q12 (by omega)]
     exact qiy n hn ls hL hs m (j+1) (d ++ [t]) hjl (by omega) (.snoc hg hw) (by simp [hdl])
    ·have h2:decide ((q0a d t)=(0:Int))=false:=decide_eq_false hw
     simp only [h2,Bool.not_false,cond_true]
     refine ⟨_,rfl,?_⟩
     show some (([]:List TgD),((j:Int),q0a d t))=some (if q0a d t=0 then q2y (d ++ [t]) (ls.drop (j+1)) else ([],((d.length:Int),q0a d t)))
     rw [if_neg hw,hdl]
  ·have h1 : ¬ (j:Int)<((ls.length:Nat):Int):=by omega
   rw [decide_eq_false h1,cond_false]
   refine ⟨_,rfl,?_⟩
   rw [List.drop_of_length_le (by omega)]
   rfl
theorem qrj {s:List UInt8} {k:Nat} (hs:s.length<=k):(q2h s).length<=k+1/\∀x∈q2h s,x.length<=k:=by
 unfold q2h
 split
 ·exact ⟨by simp,fun x hx=>by cases hx⟩
 ·have h2:(if qkn s=true then s.dropLast else s).length<=k:=by
   have:(if qkn s=true then s.dropLast else s).length<=s.length:=by split<;>simp
   omega
  generalize (if qkn s=true then s.dropLast else s)=u at h2
  exact ⟨by have:=(qbb 10 u []).2;omega,fun x hx=>by have:=q8d 10 u [] x hx;simp only [List.length_nil,Nat.zero_add] at this;omega⟩
theorem qf1 (n:Nat) (hn:200000<=n) (s:List UInt8) (hs:s.length<=90000):q5j n s=some (q2y [] (q2h s)):=by
 unfold q5j
 rw [j7e n s (by omega),Option.bind_some]
 obtain ⟨k1,k2⟩:=qrj hs
 obtain ⟨r,h1,h2⟩:=qiy n hn (q2h s) (by omega) (fun x hx=>by have:=k2 x hx;omega) n 0 [] (Nat.zero_le _) (by omega) .nil rfl
 have h1':q2m n n (q2h s) (((q2h s).length:Nat):Int) (0:Int) [] []=some r:=h1
 rw [h1',Option.bind_some]
 exact h2
end Go.Proofs.YtlmjgghohipipaaGreatDoor.AM
namespace Go.Proofs.YtlmjgghohipipaaGreatDoor.AM.Bs
open Go.RowKit
set_option linter.unusedVariables false
set_option maxRecDepth 20000
end Go.Proofs.YtlmjgghohipipaaGreatDoor.AM.Bs
