
import Derived.Test.YtcdjkibiggjdoaaGreatDoorLp15
import Derived.Test.YtcdjkibiggjdoaaGreatDoorLp16
import Derived.Test.YtcdjkibiggjdoaaGreatDoorLp11
namespace Go.Proofs.YtcdjkibiggjdoaaGreatDoor.AM
open Go.RowKit
set_option linter.unusedVariables false
set_option linter.unusedSimpArgs false
theorem j8y (n:Nat) (p d:List UInt8) (hd:d.length<=1000000) (hp:p.length<=1000000):q2m n p d=some (decide (d <+: p)):=by
 unfold q2m
 by_cases h:d.length<=p.length
 ·have h':((d.length:Nat):Int)<=((p.length:Nat):Int):=by omega
  simp only [h',decide_true,cond_true,sub_zero h,Option.bind_some]
  congr 1
  refine decide_eq_decide.2 ?_
  rw [List.prefix_iff_eq_take]
  exact eq_comm
 ·have h' : ¬ ((d.length:Nat):Int)<=((p.length:Nat):Int):=by omega
  have h2 : ¬ d <+: p:=fun hx=>h hx.length_le
  simp [h',h2]
theorem jhj (n:Nat) (s p:List UInt8) (hs:s.length<=1000000) (hp:p.length<=1000000):q3g n s p=some (if p <+: s then (s.drop p.length,true) else (s,false)):=by
 unfold q3g q8r
 rw [j8y n s p hp hs,Option.bind_some]
 by_cases h:p <+: s
 ·have h3:q7n s ((p.length:Nat):Int) ((s.length:Nat):Int)=some (s.drop p.length):=by
   rw [sub_le h.length_le (Nat.le_refl _),List.take_of_length_le (by rw [List.length_drop];exact Nat.le_refl _)]
  rw [decide_eq_true h,Bool.not_true,cond_false,if_pos h,h3];rfl
 ·rw [decide_eq_false h,Bool.not_false,cond_true,if_neg h];rfl
theorem j2k (n:Nat) (s:List UInt8) (hs:s.length<=100000):qd4 n s=some (q3u s):=by
 unfold qd4 q3u
 have hc:=jhj n s h1L (by omega) (by decide)
 unfold h1L at hc
 rw [hc,Option.bind_some]
 unfold h1L
 by_cases h:([104,49,58]:List UInt8) <+: s
 ·rw [if_pos h,decide_eq_true h,Bool.not_true,cond_false,Bs.j8x (by show (s.drop 3).length<=1000000;rw [List.length_drop];omega),Option.bind_some,Bool.true_and]
  show (bif (Bs.qcx (s.drop 3)).2 then some (decide ((((Bs.qcx (s.drop 3)).1.length:Nat):Int)=32)) else some false)=_
  cases (Bs.qcx (s.drop 3)).2 with
  | false=>rfl
  | true =>
   rw [cond_true,Bool.true_and]
   congr 1
   exact decide_eq_decide.2 ⟨fun h=>by omega,fun h=>by omega⟩
 ·rw [if_neg h,decide_eq_false h]
  rfl
def small (t:TgD):Prop:=t.1.length<=100000/\(tH t).length<=100000
theorem qsi (n:Nat) (t:TgD) (hs:small t) (hn:200000<=n):qjj n t=some (q31 t):=by
 unfold qjj q31
 rw [jbk n t.1 (by have:=hs.1;omega) (by have:=hs.1;omega),Option.bind_some]
 cases okS t.1 with
 | false=>rfl
 | true =>
  show (q4u n (tV t)).bind _=_
  rw [q4l n (tV t) (by omega),Option.bind_some]
  cases q0u (tV t) with
  | false=>rfl
  | true =>
   show (qtd n t.1 (tV t)).bind _=_
   rw [jh3 n t.1 (tV t) (by have:=hs.1;omega) (by have:=hs.1;omega) (by omega),Option.bind_some]
   cases qzf t.1 (tV t) with
   | false=>rfl
   | true =>
    show (qd4 n (tH t)).bind _=_
    rw [j2k n (tH t) hs.2,Option.bind_some]
    cases q3u (tH t)<;>rfl
theorem qr3 (n:Nat) (a b:VD) (hn:100<=n):qa3 n a b=some (decide (q8w a b<0)):=by
 unfold qa3
 rw [qhs n a b hn];rfl
theorem qy4 (n:Nat) (t:TgD) (m:List (List UInt8×VD)) (hs:small t) (hn:200000<=n):qqq n () t m=some ((jma t m).1,(((jma t m).2,()),())):=by
 unfold qqq jma
 rw [qsi n t hs hn,Option.bind_some]
 by_cases hj:q31 t=0
 ·rw [hj,decide_eq_true rfl,Bool.not_true,cond_false,if_pos rfl]
  unfold jw2
  cases hm:qc4 t.1 m with
  | none=>rfl
  | some v =>
   simp only [Option.getD_some,Option.isSome_some,cond_true]
   show (qa3 n v (tV t)).bind _=_
   rw [qr3 n v (tV t) (by omega),Option.bind_some]
   by_cases hc:q8w v (tV t)<0
   ·rw [decide_eq_true hc,Bool.not_true,cond_false,if_pos hc];rfl
   ·rw [decide_eq_false hc,Bool.not_false,cond_true,if_neg hc]
 ·rw [decide_eq_false hj,Bool.not_false,cond_true,if_neg hj]
theorem join3 (a b c:List UInt8):Lib.join [a,b,c] [32]=a++32::(b++32::c):=by
 rw [Lib.join_cons];simp [Lib.joinTail]
theorem jhr (n:Nat) (t:TgD) (h:t.1.length<=10000000000/\(q3f (tV t)).length<=10000000000/\(tH t).length<=10000000000) (hn:4<=n):qgp n t=some (q4g t):=by
 unfold qgp q4g
 show (qlg n (tV t)).bind _=_
 rw [qy0 n (tV t) hn,Option.bind_some]
 have hj:qri [t.1,q3f (tV t),tH t] [32]=some (t.1++32::(q3f (tV t)++32::tH t)):=by
  unfold qri
  rw [join3,if_pos]
  refine ⟨⟨by simp,by simp⟩,?_⟩
  simp only [List.length_append,List.length_cons];omega
 show (qri [t.1,q3f (tV t),tH t] [32]).bind _=_
 rw [hj,Option.bind_some]
 unfold qaj
 rw [if_pos (by simp only [List.length_append,List.length_cons,List.length_nil];omega)]
 simp [Option.bind_some,List.append_assoc]
theorem qrz (n:Nat) (xs:List (List UInt8)) (v:List UInt8) (hL:xs.length<=1000000) : ∀m j:Nat,j<=xs.length->xs.length - j<m->∃ r,q5k n m xs v ((xs.length:Nat):Int) (j:Int)=some r/\(Sum.elim (fun q4=>some q4.1.1) (fun q5=>some (-1:Int)) r).map (fun r:Int=>decide (0<=r))=some ((xs.drop j).any fun x=>decide (v=x))
 | 0,j,hj,hm=>absurd hm (Nat.not_lt_zero _)
 | m+1,j,hj,hm=>by
  rw [qko]
  unfold qpz
  by_cases hjl:j<xs.length
  ·have h1:(j:Int)<((xs.length:Nat):Int):=by omega
   rw [decide_eq_true h1,cond_true,q1k hjl,Option.bind_some]
   have hd:xs.drop j=xs[j]::xs.drop (j+1):=List.drop_eq_getElem_cons hjl
   by_cases hv:v=xs[j]
   ·rw [decide_eq_true hv,cond_true]
    refine ⟨_,rfl,?_⟩
    rw [hd,List.any_cons,decide_eq_true hv,Bool.true_or]
    show some (decide (0<=(j:Int)))=some true
    rw [decide_eq_true (by omega)]
   ·rw [decide_eq_false hv,cond_false]
    unfold q0b
    rw [q06 (by omega)]
    obtain ⟨r,h2,h3⟩:=qrz n xs v hL m (j+1) hjl (by omega)
    refine ⟨r,h2,?_⟩
    rw [h3,hd,List.any_cons,decide_eq_false hv,Bool.false_or]
  ·have h1 : ¬ (j:Int)<((xs.length:Nat):Int):=by omega
   rw [decide_eq_false h1,cond_false]
   refine ⟨_,rfl,?_⟩
   rw [List.drop_of_length_le (by omega)];rfl
theorem qvb (n:Nat) (xs:List (List UInt8)) (v:List UInt8) (hL:xs.length<=1000000) (hn:xs.length<n):qae n xs v=some (xs.any fun x=>decide (v=x)):=by
 unfold qae qz0
 obtain ⟨r,h1,h2⟩:=qrz n xs v hL n 0 (Nat.zero_le _) (by omega)
 have h1':q5k n n xs v ((xs.length:Nat):Int) (0:Int)=some r:=h1
 rw [h1',Option.bind_some]
 cases r with
 | inl q =>
  have:some (decide (0<=q.1.1))=some ((xs.drop 0).any fun x=>decide (v=x)):=h2
  exact this
 | inr q =>
  have:some (decide ((0:Int)<=-1))=some ((xs.drop 0).any fun x=>decide (v=x)):=h2
  exact this
theorem j42 (c:UInt8) (s:List UInt8) (h:s.length<4294967281):q8v s [c]=some (spl c [] s):=by
 show (if s.length<4294967281 then some (spl c [] s) else none)=_
 rw [if_pos h]
theorem jmi:(q19 []).2=false:=by
 cases h:(q19 []).2 with
 | false=>rfl
 | true =>
  obtain ⟨h1,h2⟩:=qyn h
  unfold q3f at h2
  rw [if_pos h1] at h2
  cases h2
def z0T:TgD:=([],(0,(0,(0,([],([],[]))))))
theorem qa0 {p v h:List UInt8} (hn : ¬ ((q19 v).2=true/\p ≠ []/\h ≠ [])):j7e p v h=none:=if_neg hn
theorem qqa {p v h:List UInt8} (hn:(q19 v).2=true/\p ≠ []/\h ≠ []):j7e p v h=some (mkT p (q19 v).1 h):=if_pos hn
theorem jfv (n:Nat) (s:List UInt8) (hs:s.length<=100000) (hn:200000<=n) : ∃ t0,qz3 n s=some (match qap s with|some t=>(t,true)|none=>(t0,false)):=by
 unfold qz3 qap
 rw [j42 32 s (by omega),Option.bind_some]
 have hmem:=q4c 32 s []
 generalize spl 32 [] s=L at hmem
 match L,hmem with
 | [p,v,h],hmem =>
  have hv:v.length<=100000:=by
   have:=hmem v (by simp)
   simp only [List.length_nil,Nat.zero_add] at this;omega
  have h3:decide ((([p,v,h]:List (List UInt8)).length:Int)=3)=true:=by simp
  rw [h3,Bool.not_true,cond_false,qvb n _ _ (by simp) (by simp;omega),Option.bind_some]
  show ∃ t0,_=some (match j7e p v h with|some t=>(t,true)|none=>(t0,false))
  by_cases hp:p = []
  ·subst hp
   refine ⟨z0T,?_⟩
   rw [qa0 (fun hc=>hc.2.1 rfl)]
   rfl
  ·by_cases hv0:v = []
   ·subst hv0
    refine ⟨z0T,?_⟩
    rw [qa0 (fun hc=>by rw [jmi] at hc;cases hc.1)]
    have ha:([p,[],h].any fun x=>decide (([]:List UInt8)=x))=true:=by simp
    rw [ha]
    rfl
   ·by_cases hh:h = []
    ·subst hh
     refine ⟨z0T,?_⟩
     rw [qa0 (fun hc=>hc.2.2 rfl)]
     have ha:([p,v,[]].any fun x=>decide (([]:List UInt8)=x))=true:=by simp
     rw [ha]
     rfl
    ·have ha:([p,v,h].any fun x=>decide (([]:List UInt8)=x))=false:=by
      rw [List.any_cons,List.any_cons,List.any_cons,decide_eq_false (Ne.symm hp),decide_eq_false (Ne.symm hv0),decide_eq_false (Ne.symm hh)];rfl
     refine ⟨mkT p (q19 v).1 h,?_⟩
     rw [ha,cond_false]
     have i1:q1a [p,v,h] (1:Int)=some v:=rfl
     have i0:q1a [p,v,h] (0:Int)=some p:=rfl
     have i2:q1a [p,v,h] (2:Int)=some h:=rfl
     rw [i1,Option.bind_some,j99 n v (by omega) (by omega),Option.bind_some,i0,Option.bind_some,i2,Option.bind_some]
     by_cases hc:(q19 v).2=true
     ·rw [qqa ⟨hc,hp,hh⟩]
      show some (mkT p (q19 v).1 h,(q19 v).2)=some (mkT p (q19 v).1 h,true)
      rw [hc]
     ·rw [qa0 (fun h5=>hc h5.1)]
      show some (mkT p (q19 v).1 h,(q19 v).2)=some (mkT p (q19 v).1 h,false)
      rw [Bool.eq_false_iff.2 hc]
 | [],_=>exact ⟨z0T,rfl⟩
 | [a],_=>exact ⟨z0T,rfl⟩
 | [a,b],_=>exact ⟨z0T,rfl⟩
 | a::b::c::d::l,_ =>
  refine ⟨z0T,?_⟩
  have:decide ((((a::b::c::d::l).length:Nat):Int)=3)=false:=decide_eq_false (by simp only [List.length_cons];omega)
  rw [this];rfl
theorem q1t (p:List UInt8) (b:Option TgD) (t:TgD) (l:List TgD):q0i p b (t::l)=if t.1=p then (match b with
   | none=>q0i p (some t) l
   | some m=>if 0<q8w (tV t) (tV m) then q0i p (some t) l else q0i p b l) else q0i p b l:=by cases b<;>rfl
theorem q77 (n:Nat) (hn:100<=n) (l:List TgD) (p:List UInt8) (hL:l.length<=1000000000000) : ∀(m j:Nat) (b:Option TgD) (a6:List UInt8) (a7 a8 a9:Int) (a10 a11 a12:List UInt8),j<=l.length->l.length - j<m ->
  ∃ c:List UInt8×(Int×(Int×(Int×(List UInt8×(List UInt8×List UInt8))))),q4e n m p b.isSome l ((l.length:Nat):Int) (j:Int) a6 a7 a8 a9 a10 a11 a12 (b.getD z0T).1 (b.getD z0T).2.1 (b.getD z0T).2.2.1 (b.getD z0T).2.2.2.1 (b.getD z0T).2.2.2.2.1 (b.getD z0T).2.2.2.2.2.1 (b.getD z0T).2.2.2.2.2.2 =
   some ((((),((),((q0i p b (l.drop j)).isSome,()))),((c,((q0i p b (l.drop j)).getD z0T,())),())))
 | 0,j,b,_,_,_,_,_,_,_,hj,hm=>absurd hm (Nat.not_lt_zero _)
 | m+1,j,b,a6,a7,a8,a9,a10,a11,a12,hj,hm=>by
  rw [qim]
  unfold qkt
  by_cases hjl:j<l.length
  ·have h1:(j:Int)<((l.length:Nat):Int):=by omega
   rw [decide_eq_true h1,cond_true,q1k hjl,Option.bind_some]
   have hd:l.drop j=l[j]::l.drop (j+1):=List.drop_eq_getElem_cons hjl
   rw [hd]
   generalize l[j]=t
   have hw:IntKind.wrap .i64 ((j:Int)+1)=((j+1:Nat):Int):=by rw [q06 (by omega)]
   by_cases hp:t.1=p
   ·rw [decide_eq_true hp,cond_true]
    cases b with
    | none =>
     have e1:q0i p none (t::l.drop (j+1))=q0i p (some t) (l.drop (j+1)):=by rw [q1t,if_pos hp]
     rw [e1]
     show ∃ c:TgD,q0b _ _=_
     unfold q0b
     rw [hw]
     exact q77 n hn l p hL m (j+1) (some t) _ _ _ _ _ _ _ hjl (by omega)
    | some q =>
     show ∃ c:TgD,(q6t n (tV t) (tV q)).bind _=_
     rw [qhs n _ _ hn,Option.bind_some]
     by_cases hc:0<q8w (tV t) (tV q)
     ·have e1:q0i p (some q) (t::l.drop (j+1))=q0i p (some t) (l.drop (j+1)):=by rw [q1t,if_pos hp];simp only [hc,if_true]
      rw [decide_eq_true hc,cond_true,e1]
      unfold q0b
      rw [hw]
      exact q77 n hn l p hL m (j+1) (some t) _ _ _ _ _ _ _ hjl (by omega)
     ·have e1:q0i p (some q) (t::l.drop (j+1))=q0i p (some q) (l.drop (j+1)):=by rw [q1t,if_pos hp];simp only [hc,if_false]
      rw [decide_eq_false hc,cond_false,e1]
      unfold q0b
      rw [hw]
      exact q77 n hn l p hL m (j+1) (some q) _ _ _ _ _ _ _ hjl (by omega)
   ·have e1:q0i p b (t::l.drop (j+1))=q0i p b (l.drop (j+1)):=by rw [q1t,if_neg hp]
    rw [decide_eq_false hp,cond_false,e1]
    unfold q0b
    rw [hw]
    exact q77 n hn l p hL m (j+1) b _ _ _ _ _ _ _ hjl (by omega)
  ·have h1 : ¬ (j:Int)<((l.length:Nat):Int):=by omega
   rw [decide_eq_false h1,cond_false,List.drop_of_length_le (by omega)]
   exact ⟨_,rfl⟩
theorem q5l (n:Nat) (hn:100<=n) (l:List TgD) (p:List UInt8) (hL:l.length<=1000000000000) (hn2:l.length<n):q32 n l p=some ((q0i p none l).getD z0T,(q0i p none l).isSome):=by
 unfold q32
 obtain ⟨c,h⟩:=q77 n hn l p hL n 0 none [] 0 0 0 [] [] [] (Nat.zero_le _) (by omega)
 have h':q4e n n p false l ((l.length:Nat):Int) (0:Int) [] 0 0 0 [] [] [] [] 0 0 0 [] [] []=_:=h
 rw [h',Option.bind_some,List.drop_zero]
end Go.Proofs.YtcdjkibiggjdoaaGreatDoor.AM
namespace Go.Proofs.YtcdjkibiggjdoaaGreatDoor.AM
open Go.RowKit
set_option linter.unusedVariables false
set_option linter.unusedSimpArgs false
def qey (s:List UInt8):Bool:=s.getLast? == some 10
def q0q (s:List UInt8):List (List UInt8):=if s = [] then [] else spl 10 [] (if qey s=true then s.dropLast else s)
theorem j2z (n:Nat) (s:List UInt8) (hs:s.length<=1000000):q7t n s [10]=some (if qey s=true then s.dropLast else s):=by
 unfold q7t qab qcl qey
 rcases List.eq_nil_or_concat s with rfl|⟨m,c,rfl⟩
 ·rfl
 ·rw [List.concat_eq_append]
  have hl:(m ++ [c]).length=m.length+1:=by simp
  rw [List.concat_eq_append] at hs
  have h1:((([10]:List UInt8).length:Nat):Int)<=(((m ++ [c]).length:Nat):Int):=by rw [hl];simp;omega
  have w1:IntKind.wrap .i64 ((((m ++ [c]).length:Nat):Int) - ((([10]:List UInt8).length:Nat):Int))=((m.length:Nat):Int):=by
   rw [hl,show (((m.length+1:Nat):Int) - ((([10]:List UInt8).length:Nat):Int))=((m.length:Nat):Int) from by simp];exact qp6 (by omega)
  have s1:q7n (m ++ [c]) ((m.length:Nat):Int) (((m ++ [c]).length:Nat):Int)=some [c]:=by rw [sub_le (by rw [hl];omega) (Nat.le_refl _),hl];simp
  have s2:q7n (m ++ [c]) (0:Int) ((m.length:Nat):Int)=some m:=by rw [sub_zero (by rw [hl];omega)];simp
  simp only [h1,decide_true,cond_true,q0b,w1,s1,s2,Option.bind_some]
  by_cases hc:c=10
  ·subst hc;simp
  ·simp [hc]
theorem jsa (n:Nat) (s:List UInt8) (hs:s.length<=1000000):qoy n s=some (q0q s):=by
 unfold qoy q0q
 by_cases h:s = []
 ·simp [h]
 ·have h2:(if qey s=true then s.dropLast else s).length<=s.length:=by split<;>simp
  rw [j2z n s hs,decide_eq_false h,cond_false,Option.bind_some,j42 10 _ (by omega),if_neg h]
  rfl
theorem jrs (n:Nat) (s:List UInt8) (hs:s.length<=100000) (hn:s.length+1<n):qoi n s=some (q0q s):=by
 unfold qoi
 have h5:=q43 n s 10 (by omega) hn
 rw [show (((10:UInt8).toNat:Nat):Int)=(10:Int) from rfl] at h5
 show (q0n n s (10:Int)).bind _=_
 rw [h5,Option.bind_some]
 obtain ⟨t,x,h1,h2⟩:=j16 10 s []
 have hl:=(q4s 10 s []).2
 rw [h1] at hl ⊢
 have hl2:(t ++ [x]).length=t.length+1:=by simp
 have w1:IntKind.wrap .i64 ((((t ++ [x]).length:Nat):Int) - 1)=((t.length:Nat):Int):=by
  rw [hl2,show (((t.length+1:Nat):Int) - 1)=((t.length:Nat):Int) from by omega];exact qp6 (by omega)
 have g:t.length<(t ++ [x]).length:=by omega
 have ge:(t ++ [x])[t.length]'g=x:=by simp
 have s1:q7n (t ++ [x]) (0:Int) ((t.length:Nat):Int)=some t:=by rw [sub_zero (by omega)];simp
 simp only [q0b,w1,q1k g,ge,Option.bind_some,s1]
 unfold q0q
 by_cases hx:x = []
 ·simp only [hx,decide_true,cond_true]
  rcases h2.1 hx with ⟨_,rfl⟩|⟨m,rfl⟩
  ·simp [spl] at h1
   have:t = []:=by
    cases t with
    | nil=>rfl
    | cons a t=>simp at h1
   rw [this];rfl
  ·rw [if_neg (by simp)]
   have he:qey (m ++ [10])=true:=by simp [qey]
   rw [if_pos he,List.dropLast_concat]
   rw [jmt,hx] at h1
   exact congrArg some (List.append_cancel_right h1).symm
 ·simp only [hx,decide_false,cond_false]
  have hs0:s ≠ []:=fun e=>hx (h2.2 (Or.inl ⟨rfl,e⟩))
  have he:qey s=false:=by
   cases hh:qey s with
   | false=>rfl
   | true =>
    rcases List.eq_nil_or_concat s with rfl|⟨m,c,rfl⟩
    ·exact absurd rfl hs0
    ·rw [List.concat_eq_append] at hh
     simp [qey] at hh
     exact absurd (h2.2 (Or.inr ⟨m,by rw [hh,List.concat_eq_append]⟩)) hx
  rw [if_neg hs0,he]
  simp only [Bool.false_eq_true,if_false]
  rw [h1]
def qo0 (t:TgD):IV:=mkIV 57 (jrf t)
theorem jui (t:TgD):jwl (qo0 t).1=some t:=by
 show some (unB (ba t.1),(t.2.1,(t.2.2.1,(t.2.2.2.1,(unB (ba t.2.2.2.2.1),(unB (ba t.2.2.2.2.2.1),unB (ba t.2.2.2.2.2.2)))))))=_
 simp only [jwy]
theorem j70 (n:Nat) (hn:4<=n) : ∀l:List TgD,(∀t∈l,small t)->juj n (l.map qo0)=some (l.map q4g)
 | [],_=>rfl
 | t::l,h=>by
  have h1:=h t (List.mem_cons_self ..)
  show (match (jwl (qo0 t).1).bind (qgp n),juj n (l.map qo0) with|some a,some b=>some (a::b)|_,_=>none)=_
  rw [jui,Option.bind_some,jhr n t ⟨by have:=h1.1;omega,by have:=qhl (tV t);omega,by have:=h1.2;omega⟩ hn,j70 n hn l (fun t ht=>h t (List.mem_cons_of_mem _ ht))]
  rfl
theorem jr1 {t:TgD} (h:small t):(q4g t).length<=200200:=by
 unfold q4g
 have:=qhl (tV t)
 have:=h.1;have:=h.2
 simp only [List.length_append,List.length_cons,List.length_nil]
 omega
theorem qqz : ∀{l:List TgD},(∀t∈l,small t)->(l.map q4g).flatten.length<=200200*l.length
 | [],_=>by simp
 | t::l,h=>by
  have h1:=jr1 (h t (List.mem_cons_self ..))
  have h2:=qqz (l:=l) (fun t ht=>h t (List.mem_cons_of_mem _ ht))
  simp only [List.map_cons,List.flatten_cons,List.length_append,List.length_cons]
  omega
theorem j0m (n:Nat) (hn:4<=n) (l:List TgD) (hl:l.length<=100000) (h : ∀t∈l,small t):j8g n (l.map qo0)=some (l.map q4g).flatten:=by
 unfold j8g
 rw [j70 n hn l h,Option.bind_some,if_pos]
 have:=qqz h
 refine ⟨by omega,by rw [List.length_map];omega⟩
theorem q9o {β:Type} {l:List β} {j:Nat} (h:j<l.length):l.take (j+1)=l.take j ++ [l[j]]:=List.take_succ_eq_append_getElem h
abbrev TOut:=((((List UInt8)×(Int×(Unit)))×(Unit)×(Unit))⊕((Unit×(Unit))×(Unit)×((List (IV))×(Unit))))
def tFin (n:Nat) (r:TOut):Option (List UInt8×Int):=Sum.elim (fun q6=>some (q6.1.1,q6.1.2.1)) (fun q7=>(j8g n q7.2.2.1).bind fun r8=>some (r8,(0:Int))) r
theorem j50 (n:Nat) (hn:200000<=n) (l:List TgD) (hL:l.length<=100000) (hs : ∀t∈l,small t) : ∀m j:Nat,j<=l.length->l.length - j<m->Good (l.take j) ->
  ∃ r:TOut,q7e n m l ((l.length:Nat):Int) (j:Int) (qo1 (l.take j)) ((l.take j).map qo0)=some r/\tFin n r=some (q4i (l.take j) (l.drop j))
 | 0,j,hj,hm,_=>absurd hm (Nat.not_lt_zero _)
 | m+1,j,hj,hm,hg=>by
  rw [qo6]
  unfold j2a
  by_cases hjl:j<l.length
  ·have h1:(j:Int)<((l.length:Nat):Int):=by omega
   rw [decide_eq_true h1,cond_true,q1k hjl,Option.bind_some]
   have hd:l.drop j=l[j]::l.drop (j+1):=List.drop_eq_getElem_cons hjl
   have hst:=hs l[j] (List.getElem_mem hjl)
   have htk:=q9o hjl
   rw [qy4 n l[j] (qo1 (l.take j)) hst hn,Option.bind_some,j4t hg,hd]
   generalize l[j]=t at *
   by_cases hw:q09 (l.take j) t=0
   ·have h2:decide ((q09 (l.take j) t)=(0:Int))=true:=decide_eq_true hw
    simp only [h2,Bool.not_true,cond_false,if_pos hw]
    have h3:qj6 16 ((l.take j).map qo0) [qo0 t]=some ((l.take (j+1)).map qo0):=by
     rw [qdg (by simp only [List.length_map,List.length_cons,List.length_nil,List.length_take];omega),htk,List.map_append];rfl
    show ∃ r:TOut,((qj6 16 ((l.take j).map qo0) [qo0 t]).bind _)=some r/\_
    rw [h3,Option.bind_some]
    unfold q0b
    rw [q06 (by omega),<-htk]
    obtain ⟨r,h4,h5⟩:=j50 n hn l hL hs m (j+1) hjl (by omega) (by rw [htk];exact .snoc hg hw)
    refine ⟨r,h4,?_⟩
    rw [h5,htk]
    show _=some (if q09 (l.take j) t=0 then q4i (l.take j ++ [t]) (l.drop (j+1)) else ([],q09 (l.take j) t))
    rw [if_pos hw]
   ·have h2:decide ((q09 (l.take j) t)=(0:Int))=false:=decide_eq_false hw
    simp only [h2,Bool.not_false,cond_true]
    refine ⟨_,rfl,?_⟩
    show some (([]:List UInt8),q09 (l.take j) t)=some (if q09 (l.take j) t=0 then q4i (l.take j ++ [t]) (l.drop (j+1)) else ([],q09 (l.take j) t))
    rw [if_neg hw]
  ·have h1 : ¬ (j:Int)<((l.length:Nat):Int):=by omega
   rw [decide_eq_false h1,cond_false]
   refine ⟨_,rfl,?_⟩
   have hj':l.take j=l:=List.take_of_length_le (by omega)
   rw [List.drop_of_length_le (by omega),hj']
   show (j8g n (l.map qo0)).bind _=_
   rw [j0m n (by omega) l hL hs]
   rfl
theorem q8x (n:Nat) (hn:200000<=n) (l:List TgD) (hL:l.length<=100000) (hs : ∀t∈l,small t):q5u n l=some (q4i [] l):=by
 unfold q5u
 obtain ⟨r,h1,h2⟩:=j50 n hn l hL hs n 0 (Nat.zero_le _) (by omega) .nil
 have h1':q7e n n l ((l.length:Nat):Int) (0:Int) [] []=some r:=h1
 rw [h1',Option.bind_some]
 exact h2
theorem jba {L:List (List UInt8)} {t:TgD} {k:Nat} (h:jh9 L=some t) (hk : ∀x∈L,x.length<=k):t.1.length<=k/\(tH t).length<=k:=by
 unfold jh9 at h
 split at h
 case h_2=>cases h
 rename_i p v hh
 unfold j7e at h
 split at h
 case isFalse=>cases h
 obtain rfl:=Option.some.inj h
 exact ⟨hk p (by simp),hk hh (by simp)⟩
theorem qrl {s:List UInt8} {t:TgD} (h:qap s=some t):t.1.length<=s.length/\(tH t).length<=s.length :=
 jba h fun x hx=>by have:=q4c 32 s [] x hx;simpa using this
abbrev POut:=((Unit×(Int×(Int×(Unit))))×(Unit)×(Unit))⊕((Unit×(Unit))×(Unit)×((List TgD)×(Unit)))
def pFin (r:POut):Option (List TgD×(Int×Int)):=Sum.elim (fun q8=>some (([]:List TgD),(q8.1.2.1,q8.1.2.2.1))) (fun q9=>some (q9.2.2.1,(((List.length q9.2.2.1:Nat):Int),(0:Int)))) r
theorem qx6 (n:Nat) (hn:200000<=n) (ls:List (List UInt8)) (hL:ls.length<=100000) (hs : ∀s∈ls,s.length<=100000) : ∀(m j:Nat) (d:List TgD),j<=ls.length->ls.length - j<m->Good d->d.length=j ->
  ∃ r:POut,q56 n m ls ((ls.length:Nat):Int) (j:Int) (qo1 d) d=some r/\pFin r=some (q0j d (ls.drop j))
 | 0,j,d,hj,hm,_,_=>absurd hm (Nat.not_lt_zero _)
 | m+1,j,d,hj,hm,hg,hdl=>by
  rw [qlm]
  unfold qqu
  by_cases hjl:j<ls.length
  ·have h1:(j:Int)<((ls.length:Nat):Int):=by omega
   rw [decide_eq_true h1,cond_true,q1k hjl,Option.bind_some]
   have hd:ls.drop j=ls[j]::ls.drop (j+1):=List.drop_eq_getElem_cons hjl
   have hst:=hs ls[j] (List.getElem_mem hjl)
   rw [hd]
   generalize ls[j]=s at *
   obtain ⟨t0,hr⟩:=jfv n s hst hn
   rw [hr,Option.bind_some]
   cases hrt:qap s with
   | none =>
    refine ⟨_,rfl,?_⟩
    show some (([]:List TgD),((j:Int),(10:Int)))=some (match qap s with
     | none=>([],((d.length:Int),10))
     | some t=>if q09 d t=0 then q0j (d ++ [t]) (ls.drop (j+1)) else ([],((d.length:Int),q09 d t)))
    rw [hrt,hdl]
   | some t =>
    have hsm:=qrl hrt
    have hst':small t:=⟨by have:=hsm.1;omega,by have:=hsm.2;omega⟩
    simp only [Bool.not_true,cond_false]
    rw [qy4 n t (qo1 d) hst' hn,Option.bind_some,j4t hg]
    have hgoal:q0j d (s::ls.drop (j+1))=if q09 d t=0 then q0j (d ++ [t]) (ls.drop (j+1)) else ([],((d.length:Int),q09 d t)):=by
     show (match qap s with
     | none=>([],((d.length:Int),10))
     | some t=>if q09 d t=0 then q0j (d ++ [t]) (ls.drop (j+1)) else ([],((d.length:Int),q09 d t)))=_
     rw [hrt]
    rw [hgoal]
    by_cases hw:q09 d t=0
    ·have h2:decide ((q09 d t)=(0:Int))=true:=decide_eq_true hw
     simp only [h2,Bool.not_true,cond_false,if_pos hw]
     have h3:qj6 88 d [t]=some (d ++ [t]):=qdg (by simp only [List.length_cons,List.length_nil];omega)
     show ∃ r:POut,((qj6 88 d [t]).bind _)=some r/\_
     rw [h3,Option.bind_some]
     unfold q0b
     rw [q06 (by omega)]
     exact qx6 n hn ls hL hs m (j+1) (d ++ [t]) hjl (by omega) (.snoc hg hw) (by simp [hdl])
    ·have h2:decide ((q09 d t)=(0:Int))=false:=decide_eq_false hw
     simp only [h2,Bool.not_false,cond_true]
     refine ⟨_,rfl,?_⟩
     show some (([]:List TgD),((j:Int),q09 d t))=some (if q09 d t=0 then q0j (d ++ [t]) (ls.drop (j+1)) else ([],((d.length:Int),q09 d t)))
     rw [if_neg hw,hdl]
  ·have h1 : ¬ (j:Int)<((ls.length:Nat):Int):=by omega
   rw [decide_eq_false h1,cond_false]
   refine ⟨_,rfl,?_⟩
   rw [List.drop_of_length_le (by omega)]
   rfl
theorem q7h {s:List UInt8} {k:Nat} (hs:s.length<=k):(q0q s).length<=k+1/\∀x∈q0q s,x.length<=k:=by
 unfold q0q
 split
 ·exact ⟨by simp,fun x hx=>by cases hx⟩
 ·have h2:(if qey s=true then s.dropLast else s).length<=k:=by
   have:(if qey s=true then s.dropLast else s).length<=s.length:=by split<;>simp
   omega
  generalize (if qey s=true then s.dropLast else s)=u at h2
  exact ⟨by have:=(q4s 10 u []).2;omega,fun x hx=>by have:=q4c 10 u [] x hx;simp only [List.length_nil,Nat.zero_add] at this;omega⟩
theorem qan (n:Nat) (hn:200000<=n) (s:List UInt8) (hs:s.length<=90000):q3a n s=some (q0j [] (q0q s)):=by
 unfold q3a
 rw [jsa n s (by omega),Option.bind_some]
 obtain ⟨k1,k2⟩:=q7h hs
 obtain ⟨r,h1,h2⟩:=qx6 n hn (q0q s) (by omega) (fun x hx=>by have:=k2 x hx;omega) n 0 [] (Nat.zero_le _) (by omega) .nil rfl
 have h1':q56 n n (q0q s) (((q0q s).length:Nat):Int) (0:Int) [] []=some r:=h1
 rw [h1',Option.bind_some]
 exact h2
end Go.Proofs.YtcdjkibiggjdoaaGreatDoor.AM
namespace Go.Proofs.YtcdjkibiggjdoaaGreatDoor.AM.Bs
open Go.RowKit
set_option linter.unusedVariables false
set_option maxRecDepth 20000
@[reducible] def q6e:SSt:=⟨[(6,.one (.c (.row 60)))],[],[(60,⟨5,true,(.int .u8)⟩)]⟩
@[reducible] def q44:List (Exit×SSt):=[(.exit 10,⟨[(6,.one (.c (.row 60)))],[],[(60,⟨5,true,(.int .u8)⟩)]⟩)]
def qcu (n:Nat) (rec:(List (Int))->Option ((Unit×(Unit))×(Unit)×((List (Int))×(Unit)))) (a1:List (Int)):Option ((Unit×(Unit))×(Unit)×((List (Int))×(Unit))) :=
 (j58 ((List.length a1:Nat):Int) (4:Int)).bind fun (n24:Int)=>(bif !decide (n24=(0:Int)) then (qj6 1 a1 ([(61:Int)]:List (Int))).bind fun (l25:List (Int))=>rec l25 else some ((((),()),((),(a1,())))))
def qc1 (n:Nat) (rec:pSt q6e->Option (q0f q44)) (p:pSt q6e):Option (q0f q44):=qcu n (fun a1=>rec (((),()),((),(a1,())))) p.2.2.1
def q1d (n m:Nat) (a1:List (Int)):Option ((Unit×(Unit))×(Unit)×((List (Int))×(Unit))):=q0g (qc1 n) m (((),()),((),(a1,())))
theorem qf1 (n m:Nat) (a1:List (Int)):q1d n (m+1) a1=qcu n (fun a1=>q1d n m a1) a1:=rfl
def qmw (n:Nat):LC:={ sh:=q6e,outs:=q44,F:=q0g (qc1 n) n }
@[reducible] def q6b:SSt:=⟨[(3,.one (.c (.row 29))),(6,.one (.c (.row 60))),(7,.one (.c (.d (.int .i64)))),(8,.one (.c (.d (.int .i64)))),(9,.one (.c (.d (.int .i64))))],[],[(29,⟨3,true,(.int .i64)⟩),(60,⟨5,true,(.int .u8)⟩)]⟩
@[reducible] def q3q:List (Exit×SSt):=[(.exit 8,⟨[(3,.one (.c (.row 29))),(6,.one (.c (.row 60))),(7,.one (.c (.d (.int .i64)))),(8,.one (.c (.d (.int .i64))))],[],[(29,⟨3,true,(.int .i64)⟩),(60,⟨5,true,(.int .u8)⟩)]⟩)]
def q80 (n:Nat) (rec:Int->Int->Int->(List (Int))->(List (Int))->Option ((Unit×(Unit×(Int×(Int×(Unit)))))×(Unit)×((List (Int))×((List (Int))×(Unit))))) (a1:Int) (a2:Int) (a3:Int) (a4:List (Int)) (a5:List (Int)):Option ((Unit×(Unit×(Int×(Int×(Unit)))))×(Unit)×((List (Int))×((List (Int))×(Unit)))) :=
 (bif decide (a3<(6:Int)) then q0b (IntKind.wrap .i64 ((2:Int)*a2)) fun (n13:Int)=>q0b (IntKind.wrap .i64 (a1+a3)) fun (n14:Int)=>(q1a a4 n14).bind fun (_x15:Int)=>(nth a4 (Int.toNat n14)).bind fun (x16:Int)=>q0b (IntKind.wrap .i64 (n13+x16)) fun (n17:Int)=>q0b (IntKind.wrap .i64 (a3+(1:Int))) fun (n18:Int)=>rec a1 n17 n18 a4 a5 else some ((((),((),(a1,(a2,())))),((),(a4,(a5,()))))))
def qbs (n:Nat) (rec:pSt q6b->Option (q0f q3q)) (p:pSt q6b):Option (q0f q3q):=q80 n (fun a1 a2 a3 a4 a5=>rec (((),((),(a1,(a2,(a3,()))))),((),(a4,(a5,()))))) p.1.2.2.1 p.1.2.2.2.1 p.1.2.2.2.2.1 p.2.2.1 p.2.2.2.1
def q1c (n m:Nat) (a1:Int) (a2:Int) (a3:Int) (a4:List (Int)) (a5:List (Int)):Option ((Unit×(Unit×(Int×(Int×(Unit)))))×(Unit)×((List (Int))×((List (Int))×(Unit)))):=q0g (qbs n) m (((),((),(a1,(a2,(a3,()))))),((),(a4,(a5,()))))
theorem q5z (n m:Nat) (a1:Int) (a2:Int) (a3:Int) (a4:List (Int)) (a5:List (Int)):q1c n (m+1) a1 a2 a3 a4 a5=q80 n (fun a1 a2 a3 a4 a5=>q1c n m a1 a2 a3 a4 a5) a1 a2 a3 a4 a5:=rfl
def qne (n:Nat):LC:={ sh:=q6b,outs:=q3q,F:=q0g (qbs n) n }
@[reducible] def q6h:SSt:=⟨[(3,.one (.c (.row 29))),(6,.one (.c (.row 60))),(7,.one (.c (.d (.int .i64))))],[],[(29,⟨3,true,(.int .i64)⟩),(60,⟨5,true,(.int .u8)⟩)]⟩
@[reducible] def q4d:List (Exit×SSt):=[(.exit 6,⟨[(6,.one (.c (.row 60)))],[],[(60,⟨5,true,(.int .u8)⟩)]⟩)]
def qcm (n:Nat) (rec:Int->(List (Int))->(List (Int))->Option ((Unit×(Unit))×(Unit)×((List (Int))×(Unit)))) (a1:Int) (a2:List (Int)) (a3:List (Int)):Option ((Unit×(Unit))×(Unit)×((List (Int))×(Unit))) :=
 (bif decide (a1<((List.length a2:Nat):Int)) then (q1c n n a1 (0:Int) (0:Int) a2 a3).bind fun (o19:(Unit×(Unit×(Int×(Int×(Unit)))))×(Unit)×((List (Int))×((List (Int))×(Unit))))=>(sAt ([65,66,67,68,69,70,71,72,73,74,75,76,77,78,79,80,81,82,83,84,85,86,87,88,89,90,97,98,99,100,101,102,103,104,105,106,107,108,109,110,111,112,113,114,115,116,117,118,119,120,121,122,48,49,50,51,52,53,54,55,56,57,43,47]:List UInt8) o19.1.2.2.2.1).bind fun (c20:Int)=>(qj6 1 o19.2.2.2.1 ([c20]:List (Int))).bind fun (l21:List (Int))=>q0b (IntKind.wrap .i64 (o19.1.2.2.1+(6:Int))) fun (n22:Int)=>rec n22 o19.2.2.1 l21 else some ((((),()),((),(a3,())))))
def qbz (n:Nat) (rec:pSt q6h->Option (q0f q4d)) (p:pSt q6h):Option (q0f q4d):=qcm n (fun a1 a2 a3=>rec (((),((),(a1,()))),((),(a2,(a3,()))))) p.1.2.2.1 p.2.2.1 p.2.2.2.1
def q1l (n m:Nat) (a1:Int) (a2:List (Int)) (a3:List (Int)):Option ((Unit×(Unit))×(Unit)×((List (Int))×(Unit))):=q0g (qbz n) m (((),((),(a1,()))),((),(a2,(a3,()))))
theorem qeu (n m:Nat) (a1:Int) (a2:List (Int)) (a3:List (Int)):q1l n (m+1) a1 a2 a3=qcm n (fun a1 a2 a3=>q1l n m a1 a2 a3) a1 a2 a3:=rfl
def qm9 (n:Nat):LC:={ sh:=q6h,outs:=q4d,F:=q0g (qbz n) n }
@[reducible] def q61:SSt:=⟨[(3,.one (.c (.row 29)))],[],[(29,⟨3,true,(.int .i64)⟩)]⟩
@[reducible] def q47:List (Exit×SSt):=[(.exit 4,⟨[(3,.one (.c (.row 29)))],[],[(29,⟨3,true,(.int .i64)⟩)]⟩)]
def qdk (n:Nat) (rec:(List (Int))->Option ((Unit×(Unit))×(Unit)×((List (Int))×(Unit)))) (a1:List (Int)):Option ((Unit×(Unit))×(Unit)×((List (Int))×(Unit))) :=
 (j58 ((List.length a1:Nat):Int) (6:Int)).bind fun (n10:Int)=>(bif !decide (n10=(0:Int)) then (qj6 8 a1 ([(0:Int)]:List (Int))).bind fun (l11:List (Int))=>rec l11 else some ((((),()),((),(a1,())))))
def qcn (n:Nat) (rec:pSt q61->Option (q0f q47)) (p:pSt q61):Option (q0f q47):=qdk n (fun a1=>rec (((),()),((),(a1,())))) p.2.2.1
def q1y (n m:Nat) (a1:List (Int)):Option ((Unit×(Unit))×(Unit)×((List (Int))×(Unit))):=q0g (qcn n) m (((),()),((),(a1,())))
theorem qew (n m:Nat) (a1:List (Int)):q1y n (m+1) a1=qdk n (fun a1=>q1y n m a1) a1:=rfl
def qn4 (n:Nat):LC:={ sh:=q61,outs:=q47,F:=q0g (qcn n) n }
@[reducible] def q6a:SSt:=⟨[(0,.one (.c (.d .str))),(3,.one (.c (.row 29))),(4,.one (.c (.d (.int .i64)))),(5,.one (.c (.d (.int .i64))))],[],[(29,⟨3,true,(.int .i64)⟩)]⟩
@[reducible] def q45:List (Exit×SSt):=[(.exit 2,⟨[(0,.one (.c (.d .str))),(3,.one (.c (.row 29))),(4,.one (.c (.d (.int .i64))))],[],[(29,⟨3,true,(.int .i64)⟩)]⟩)]
def q86 (n:Nat) (rec:(List UInt8)->Int->Int->(List (Int))->Option (((List UInt8)×(Unit×(Int×(Unit))))×(Unit)×((List (Int))×(Unit)))) (a1:List UInt8) (a2:Int) (a3:Int) (a4:List (Int)):Option (((List UInt8)×(Unit×(Int×(Unit))))×(Unit)×((List (Int))×(Unit))) :=
 (bif decide ((0:Int)<=a3) then (sAt a1 a2).bind fun (c1:Int)=>q0b (IntKind.wrap .i64 c1) fun (n2:Int)=>(j1k .i64 n2 a3).bind fun (n3:Int)=>q0b (jpf .i64 n3 (1:Int)) fun (n4:Int)=>(qj6 8 a4 ([n4]:List (Int))).bind fun (l5:List (Int))=>q0b (IntKind.wrap .i64 (a3 - (1:Int))) fun (n6:Int)=>rec a1 a2 n6 l5 else some (((a1,((),(a2,()))),((),(a4,())))))
def qcy (n:Nat) (rec:pSt q6a->Option (q0f q45)) (p:pSt q6a):Option (q0f q45):=q86 n (fun a1 a2 a3 a4=>rec ((a1,((),(a2,(a3,())))),((),(a4,())))) p.1.1 p.1.2.2.1 p.1.2.2.2.1 p.2.2.1
def q1e (n m:Nat) (a1:List UInt8) (a2:Int) (a3:Int) (a4:List (Int)):Option (((List UInt8)×(Unit×(Int×(Unit))))×(Unit)×((List (Int))×(Unit))):=q0g (qcy n) m ((a1,((),(a2,(a3,())))),((),(a4,())))
theorem q5y (n m:Nat) (a1:List UInt8) (a2:Int) (a3:Int) (a4:List (Int)):q1e n (m+1) a1 a2 a3 a4=q86 n (fun a1 a2 a3 a4=>q1e n m a1 a2 a3 a4) a1 a2 a3 a4:=rfl
def qmo (n:Nat):LC:={ sh:=q6a,outs:=q45,F:=q0g (qcy n) n }
@[reducible] def q6k:SSt:=⟨[(0,.one (.c (.d .str))),(3,.one (.c (.row 29))),(4,.one (.c (.d (.int .i64))))],[],[(29,⟨3,true,(.int .i64)⟩)]⟩
@[reducible] def q3n:List (Exit×SSt):=[(.exit 0,⟨[(3,.one (.c (.row 29)))],[],[(29,⟨3,true,(.int .i64)⟩)]⟩)]
def qbp (n:Nat) (rec:(List UInt8)->Int->(List (Int))->Option ((Unit×(Unit))×(Unit)×((List (Int))×(Unit)))) (a1:List UInt8) (a2:Int) (a3:List (Int)):Option ((Unit×(Unit))×(Unit)×((List (Int))×(Unit))) :=
 (bif decide (a2<((List.length a1:Nat):Int)) then (q1e n n a1 a2 (7:Int) a3).bind fun (o7:((List UInt8)×(Unit×(Int×(Unit))))×(Unit)×((List (Int))×(Unit)))=>q0b (IntKind.wrap .i64 (o7.1.2.2.1+(1:Int))) fun (n8:Int)=>rec o7.1.1 n8 o7.2.2.1 else some ((((),()),((),(a3,())))))
def qbu (n:Nat) (rec:pSt q6k->Option (q0f q3n)) (p:pSt q6k):Option (q0f q3n):=qbp n (fun a1 a2 a3=>rec ((a1,((),(a2,()))),((),(a3,())))) p.1.1 p.1.2.2.1 p.2.2.1
def q2k (n m:Nat) (a1:List UInt8) (a2:Int) (a3:List (Int)):Option ((Unit×(Unit))×(Unit)×((List (Int))×(Unit))):=q0g (qbu n) m ((a1,((),(a2,()))),((),(a3,())))
theorem qf0 (n m:Nat) (a1:List UInt8) (a2:Int) (a3:List (Int)):q2k n (m+1) a1 a2 a3=qbp n (fun a1 a2 a3=>q2k n m a1 a2 a3) a1 a2 a3:=rfl
def qni (n:Nat):LC:={ sh:=q6k,outs:=q3n,F:=q0g (qbu n) n }
def q1s (n:Nat):List LC:=[qni n,qmo n,qn4 n,qm9 n,qne n,qmw n]
def q7k (n:Nat) (a1:List UInt8):Option (List UInt8) :=
 (q2k n n a1 (0:Int) []).bind fun (o9:(Unit×(Unit))×(Unit)×((List (Int))×(Unit)))=>(q1y n n o9.2.2.1).bind fun (o12:(Unit×(Unit))×(Unit)×((List (Int))×(Unit)))=>(q1l n n (0:Int) o12.2.2.1 []).bind fun (o23:(Unit×(Unit))×(Unit)×((List (Int))×(Unit)))=>(q1d n n o23.2.2.1).bind fun (o26:(Unit×(Unit))×(Unit)×((List (Int))×(Unit)))=>some (List.map (fun n:Int=>UInt8.ofNat n.toNat) o26.2.2.1)
def q5o (n:Nat):FC:={ f:=65,args:=[.one (.c (.d .str))],res:=.one (.c (.d .str)),F:=fun p=>q7k n p }
def q23 (n:Nat):List FC:=[]
theorem q1u (n:Nat) {G:World->Prop} (hG:Know Inv G) : ∀c∈q23 n,q1b Tryz.prog G c/\q0e c.args=true:=(fun _ h=>by cases h)
def q24:q0c:=[]
theorem q2j:drB q24 (q00 Tryz.f65)=true:=by kernel_rfl
theorem j0o (n:Nat) : ∀rec p,qc1 n rec p=round Tryz.prog 70 (q23 n) (q1s n) q24 6 q6e q44 (q01 0 5 (q00 Tryz.f65)) rec p:=by intro rec p;kernel_rfl
theorem j18 (n:Nat) : ∀rec p,qbs n rec p=round Tryz.prog 70 (q23 n) (q1s n) q24 5 q6b q3q (q01 0 4 (q00 Tryz.f65)) rec p:=by intro rec p;kernel_rfl
theorem qzr (n:Nat) : ∀rec p,qbz n rec p=round Tryz.prog 70 (q23 n) (q1s n) q24 4 q6h q4d (q01 0 3 (q00 Tryz.f65)) rec p:=by intro rec p;kernel_rfl
theorem j0b (n:Nat) : ∀rec p,qcn n rec p=round Tryz.prog 70 (q23 n) (q1s n) q24 3 q61 q47 (q01 0 2 (q00 Tryz.f65)) rec p:=by intro rec p;kernel_rfl
theorem qzx (n:Nat) : ∀rec p,qcy n rec p=round Tryz.prog 70 (q23 n) (q1s n) q24 2 q6a q45 (q01 0 1 (q00 Tryz.f65)) rec p:=by intro rec p;kernel_rfl
theorem j1r (n:Nat) : ∀rec p,qbu n rec p=round Tryz.prog 70 (q23 n) (q1s n) q24 1 q6k q3n (q01 0 0 (q00 Tryz.f65)) rec p:=by intro rec p;kernel_rfl
theorem qv3 (n:Nat) {F:Fr} (hF:F.n=70) (hK:Know Inv F.G):q71 Tryz.prog F (qmw n) (q01 0 5 (q00 Tryz.f65)) :=
 q0h hF (by kernel_rfl) (q1u n hK) (j0o n) (fuel:=n) (fun _=>rfl) (q02 fun j L h1 h2 h3=>absurd h2 (Nat.not_lt.2 (Nat.le_trans (by decide +kernel) h1))) (q0r q2j)
theorem qfn (n:Nat) {F:Fr} (hF:F.n=70) (hK:Know Inv F.G):q71 Tryz.prog F (qne n) (q01 0 4 (q00 Tryz.f65)) :=
 q0h hF (by kernel_rfl) (q1u n hK) (j18 n) (fuel:=n) (fun _=>rfl) (q02 fun j L h1 h2 h3=>absurd h2 (Nat.not_lt.2 (Nat.le_trans (by decide +kernel) h1))) (q0r q2j)
theorem qvz (n:Nat) {F:Fr} (hF:F.n=70) (hK:Know Inv F.G):q71 Tryz.prog F (qm9 n) (q01 0 3 (q00 Tryz.f65)) :=
 q0h hF (by kernel_rfl) (q1u n hK) (qzr n) (fuel:=n) (fun _=>rfl) (q02 (c:=(q01 0 3 (q00 Tryz.f65))) (fun j L h1 h2 h3=>by
  have h2':j<5:=Nat.lt_of_lt_of_le h2 (by decide +kernel)
  match j,h1,h2',h3 with
  | 0,h1,_,_=>exact absurd h1 (by decide)
  | 1,h1,_,_=>exact absurd h1 (by decide)
  | 2,h1,_,_=>exact absurd h1 (by decide)
  | 3,h1,_,_=>exact absurd h1 (by decide)
  | 4,_,_,h3=>obtain rfl:=Option.some.inj h3;exact (show q01 0 4 (q00 Tryz.f65)=q01 4 4 (q01 0 3 (q00 Tryz.f65)) by kernel_rfl) ▸ qfn n hF hK
  | j+5,_,h2',_=>exact absurd h2' (by omega))) (q0r q2j)
theorem qvr (n:Nat) {F:Fr} (hF:F.n=70) (hK:Know Inv F.G):q71 Tryz.prog F (qn4 n) (q01 0 2 (q00 Tryz.f65)) :=
 q0h hF (by kernel_rfl) (q1u n hK) (j0b n) (fuel:=n) (fun _=>rfl) (q02 fun j L h1 h2 h3=>absurd h2 (Nat.not_lt.2 (Nat.le_trans (by decide +kernel) h1))) (q0r q2j)
theorem qf4 (n:Nat) {F:Fr} (hF:F.n=70) (hK:Know Inv F.G):q71 Tryz.prog F (qmo n) (q01 0 1 (q00 Tryz.f65)) :=
 q0h hF (by kernel_rfl) (q1u n hK) (qzx n) (fuel:=n) (fun _=>rfl) (q02 fun j L h1 h2 h3=>absurd h2 (Nat.not_lt.2 (Nat.le_trans (by decide +kernel) h1))) (q0r q2j)
theorem qvh (n:Nat) {F:Fr} (hF:F.n=70) (hK:Know Inv F.G):q71 Tryz.prog F (qni n) (q01 0 0 (q00 Tryz.f65)) :=
 q0h hF (by kernel_rfl) (q1u n hK) (j1r n) (fuel:=n) (fun _=>rfl) (q02 (c:=(q01 0 0 (q00 Tryz.f65))) (fun j L h1 h2 h3=>by
  have h2':j<2:=Nat.lt_of_lt_of_le h2 (by decide +kernel)
  match j,h1,h2',h3 with
  | 0,h1,_,_=>exact absurd h1 (by decide)
  | 1,_,_,h3=>obtain rfl:=Option.some.inj h3;exact (show q01 0 1 (q00 Tryz.f65)=q01 1 1 (q01 0 0 (q00 Tryz.f65)) by kernel_rfl) ▸ qf4 n hF hK
  | j+2,_,h2',_=>exact absurd h2' (by omega))) (q0r q2j)
theorem j49 (n:Nat) : ∀a,(q5o n).F a=main Tryz.prog 70 (q23 n) (q1s n) q24 (q00 Tryz.f65) [.tmp 2] (q5o n).args (q5o n).res a:=by intro a;kernel_rfl
theorem j7x (n:Nat):q0a Inv Tryz.prog (q5o n):=fun G hG=>⟨⟨by kernel_rfl,fun a r h=>q03 (c:=q00 Tryz.f65) Tryz.func65 (by kernel_rfl) (by kernel_rfl) (Nat.le_of_ble_eq_true (by kernel_rfl)) hG.st (by kernel_rfl) (rs:=[.tmp 2]) (by kernel_rfl) (q1u n hG) (lts:=q1s n) (fun F hF hFG=>have hK:Know Inv F.G:=hFG ▸ hG;(q02 (c:=(q00 Tryz.f65)) (fun j L h1 h2 h3=>by
  have h2':j<6:=Nat.lt_of_lt_of_le h2 (by decide +kernel)
  match j,h1,h2',h3 with
  | 0,_,_,h3=>obtain rfl:=Option.some.inj h3;exact (show q01 0 0 (q00 Tryz.f65)=q01 0 0 (q00 Tryz.f65) by kernel_rfl) ▸ qvh n hF hK
  | 1,_,_,h3=>obtain rfl:=Option.some.inj h3;exact (show q01 0 1 (q00 Tryz.f65)=q01 0 1 (q00 Tryz.f65) by kernel_rfl) ▸ qf4 n hF hK
  | 2,_,_,h3=>obtain rfl:=Option.some.inj h3;exact (show q01 0 2 (q00 Tryz.f65)=q01 0 2 (q00 Tryz.f65) by kernel_rfl) ▸ qvr n hF hK
  | 3,_,_,h3=>obtain rfl:=Option.some.inj h3;exact (show q01 0 3 (q00 Tryz.f65)=q01 0 3 (q00 Tryz.f65) by kernel_rfl) ▸ qvz n hF hK
  | 4,_,_,h3=>obtain rfl:=Option.some.inj h3;exact (show q01 0 4 (q00 Tryz.f65)=q01 0 4 (q00 Tryz.f65) by kernel_rfl) ▸ qfn n hF hK
  | 5,_,_,h3=>obtain rfl:=Option.some.inj h3;exact (show q01 0 5 (q00 Tryz.f65)=q01 0 5 (q00 Tryz.f65) by kernel_rfl) ▸ qv3 n hF hK
  | j+6,_,h2',_=>exact absurd h2' (by omega)))) q2j ((j49 n a).symm.trans h)⟩,rfl⟩
@[reducible] def q6l:SSt:=⟨[(0,.one (.c (.d (.int .u8)))),(3,.one (.c (.d (.int .i64))))],[],[]⟩
@[reducible] def q3s:List (Exit×SSt):=[(.ret,⟨[(2,.one (.c (.d (.int .i64))))],[],[]⟩),(.exit 0,⟨[],[],[]⟩)]
def qce (n:Nat) (rec:Int->Int->Option (((Int×(Unit))×(Unit)×(Unit))⊕((Unit)×(Unit)×(Unit)))) (a1:Int) (a2:Int):Option (((Int×(Unit))×(Unit)×(Unit))⊕((Unit)×(Unit)×(Unit))) :=
 (bif decide (a2<(64:Int)) then (sAt ([65,66,67,68,69,70,71,72,73,74,75,76,77,78,79,80,81,82,83,84,85,86,87,88,89,90,97,98,99,100,101,102,103,104,105,106,107,108,109,110,111,112,113,114,115,116,117,118,119,120,121,122,48,49,50,51,52,53,54,55,56,57,43,47]:List UInt8) a2).bind fun (c1:Int)=>(bif decide (c1=a1) then some (Sum.inl ((a2,()),((),()))) else q0b (IntKind.wrap .i64 (a2+(1:Int))) fun (n2:Int)=>rec a1 n2) else some (Sum.inr (((),((),())))))
def qd3 (n:Nat) (rec:pSt q6l->Option (q0f q3s)) (p:pSt q6l):Option (q0f q3s):=qce n (fun a1 a2=>rec ((a1,(a2,())),((),()))) p.1.1 p.1.2.1
def q40 (n m:Nat) (a1:Int) (a2:Int):Option (((Int×(Unit))×(Unit)×(Unit))⊕((Unit)×(Unit)×(Unit))):=q0g (qd3 n) m ((a1,(a2,())),((),()))
theorem qf2 (n m:Nat) (a1:Int) (a2:Int):q40 n (m+1) a1 a2=qce n (fun a1 a2=>q40 n m a1 a2) a1 a2:=rfl
def qn1 (n:Nat):LC:={ sh:=q6l,outs:=q3s,F:=q0g (qd3 n) n }
def qb5 (n:Nat):List LC:=[qn1 n]
def qb2 (n:Nat) (a1:Int):Option (Int) :=
 (q40 n n a1 (0:Int)).bind fun (o3:((Int×(Unit))×(Unit)×(Unit))⊕((Unit)×(Unit)×(Unit)))=>Sum.elim (fun (q4:(Int×(Unit))×(Unit)×(Unit))=>some q4.1.1) (fun (q5:(Unit)×(Unit)×(Unit))=>some (-1:Int)) o3
def q59 (n:Nat):FC:={ f:=64,args:=[.one (.c (.d (.int .u8)))],res:=.one (.c (.d (.int .i64))),F:=fun p=>qb2 n p }
def qc9 (n:Nat):List FC:=[]
theorem qfj (n:Nat) {G:World->Prop} (hG:Know Inv G) : ∀c∈qc9 n,q1b Tryz.prog G c/\q0e c.args=true:=(fun _ h=>by cases h)
def qdb:q0c:=[]
theorem qn5:drB qdb (q00 Tryz.f64)=true:=by kernel_rfl
theorem j0h (n:Nat) : ∀rec p,qd3 n rec p=round Tryz.prog 13 (qc9 n) (qb5 n) qdb 1 q6l q3s (q01 0 0 (q00 Tryz.f64)) rec p:=by intro rec p;kernel_rfl
theorem qvd (n:Nat) {F:Fr} (hF:F.n=13) (hK:Know Inv F.G):q71 Tryz.prog F (qn1 n) (q01 0 0 (q00 Tryz.f64)) :=
 q0h hF (by kernel_rfl) (qfj n hK) (j0h n) (fuel:=n) (fun _=>rfl) (q02 fun j L h1 h2 h3=>absurd h2 (Nat.not_lt.2 (Nat.le_trans (by decide +kernel) h1))) (q0r qn5)
theorem j4i (n:Nat) : ∀a,(q59 n).F a=main Tryz.prog 13 (qc9 n) (qb5 n) qdb (q00 Tryz.f64) [.tmp 2] (q59 n).args (q59 n).res a:=by intro a;kernel_rfl
theorem j3e (n:Nat):q0a Inv Tryz.prog (q59 n):=fun G hG=>⟨⟨by kernel_rfl,fun a r h=>q03 (c:=q00 Tryz.f64) Tryz.func64 (by kernel_rfl) (by kernel_rfl) (Nat.le_of_ble_eq_true (by kernel_rfl)) hG.st (by kernel_rfl) (rs:=[.tmp 2]) (by kernel_rfl) (qfj n hG) (lts:=qb5 n) (fun F hF hFG=>have hK:Know Inv F.G:=hFG ▸ hG;(q02 (c:=(q00 Tryz.f64)) (fun j L h1 h2 h3=>by
  have h2':j<1:=Nat.lt_of_lt_of_le h2 (by decide +kernel)
  match j,h1,h2',h3 with
  | 0,_,_,h3=>obtain rfl:=Option.some.inj h3;exact (show q01 0 0 (q00 Tryz.f64)=q01 0 0 (q00 Tryz.f64) by kernel_rfl) ▸ qvd n hF hK
  | j+1,_,h2',_=>exact absurd h2' (by omega)))) qn5 ((j4i n a).symm.trans h)⟩,rfl⟩
@[reducible] def q6p:SSt:=⟨[(0,.one (.c (.d .str))),(4,.one (.c (.row 45))),(5,.one (.c (.d (.int .i64)))),(6,.one (.c (.d (.int .i64)))),(7,.one (.c (.d (.int .i64))))],[],[(45,⟨5,true,(.int .u8)⟩)]⟩
@[reducible] def q3o:List (Exit×SSt):=[(.ret,⟨[(2,.one (.c (.d .str))),(3,.one (.c (.d .bool)))],[],[]⟩),(.exit 0,⟨[(0,.one (.c (.d .str))),(4,.one (.c (.row 45)))],[],[(45,⟨5,true,(.int .u8)⟩)]⟩)]
def qc0 (n:Nat) (rec:(List UInt8)->Int->Int->Int->(List (Int))->Option ((((List UInt8)×(Bool×(Unit)))×(Unit)×(Unit))⊕(((List UInt8)×(Unit×(Unit)))×(Unit)×((List (Int))×(Unit))))) (a1:List UInt8) (a2:Int) (a3:Int) (a4:Int) (a5:List (Int)):Option ((((List UInt8)×(Bool×(Unit)))×(Unit)×(Unit))⊕(((List UInt8)×(Unit×(Unit)))×(Unit)×((List (Int))×(Unit)))) :=
 (bif decide (a4<((List.length a1:Nat):Int)) then (sAt a1 a4).bind fun (c1:Int)=>(bif !decide (c1=(61:Int)) then (sAt a1 a4).bind fun (c2:Int)=>(qb2 n c2).bind fun (r3:Int)=>(bif decide (r3<(0:Int)) then some (Sum.inl ((([]:List UInt8),(false,())),((),()))) else q0b (IntKind.wrap .i64 (a2*(64:Int))) fun (n4:Int)=>q0b (IntKind.wrap .i64 (n4+r3)) fun (n5:Int)=>q0b (jpf .i64 n5 (65535:Int)) fun (n6:Int)=>q0b (IntKind.wrap .i64 (a3+(6:Int))) fun (n7:Int)=>(bif decide ((8:Int)<=n7) then q0b (IntKind.wrap .i64 (n7 - (8:Int))) fun (n8:Int)=>(j1k .i64 n6 n8).bind fun (n9:Int)=>q0b (jpf .i64 n9 (255:Int)) fun (n10:Int)=>q0b (IntKind.wrap .u8 n10) fun (n11:Int)=>(qj6 1 a5 ([n11]:List (Int))).bind fun (l12:List (Int))=>q0b (IntKind.wrap .i64 (a4+(1:Int))) fun (n13:Int)=>rec a1 n6 n8 n13 l12 else q0b (IntKind.wrap .i64 (a4+(1:Int))) fun (n14:Int)=>rec a1 n6 n7 n14 a5)) else some (Sum.inr (((a1,((),())),((),(a5,())))))) else some (Sum.inr (((a1,((),())),((),(a5,()))))))
def qd7 (n:Nat) (rec:pSt q6p->Option (q0f q3o)) (p:pSt q6p):Option (q0f q3o):=qc0 n (fun a1 a2 a3 a4 a5=>rec ((a1,((),(a2,(a3,(a4,()))))),((),(a5,())))) p.1.1 p.1.2.2.1 p.1.2.2.2.1 p.1.2.2.2.2.1 p.2.2.1
def q2o (n m:Nat) (a1:List UInt8) (a2:Int) (a3:Int) (a4:Int) (a5:List (Int)):Option ((((List UInt8)×(Bool×(Unit)))×(Unit)×(Unit))⊕(((List UInt8)×(Unit×(Unit)))×(Unit)×((List (Int))×(Unit)))):=q0g (qd7 n) m ((a1,((),(a2,(a3,(a4,()))))),((),(a5,())))
theorem qex (n m:Nat) (a1:List UInt8) (a2:Int) (a3:Int) (a4:Int) (a5:List (Int)):q2o n (m+1) a1 a2 a3 a4 a5=qc0 n (fun a1 a2 a3 a4 a5=>q2o n m a1 a2 a3 a4 a5) a1 a2 a3 a4 a5:=rfl
def qmx (n:Nat):LC:={ sh:=q6p,outs:=q3o,F:=q0g (qd7 n) n }
def q9t (n:Nat):List LC:=[qmx n]
def qba (n:Nat) (a1:List UInt8):Option ((List UInt8)×(Bool)) :=
 (q2o n n a1 (0:Int) (0:Int) (0:Int) []).bind fun (o15:(((List UInt8)×(Bool×(Unit)))×(Unit)×(Unit))⊕(((List UInt8)×(Unit×(Unit)))×(Unit)×((List (Int))×(Unit))))=>Sum.elim (fun (q16:((List UInt8)×(Bool×(Unit)))×(Unit)×(Unit))=>some (q16.1.1,q16.1.2.1)) (fun (q17:((List UInt8)×(Unit×(Unit)))×(Unit)×((List (Int))×(Unit)))=>(q7k n (List.map (fun n:Int=>UInt8.ofNat n.toNat) q17.2.2.1)).bind fun (r18:List UInt8)=>(bif !decide (r18=q17.1.1) then some (([]:List UInt8),false) else some ((List.map (fun n:Int=>UInt8.ofNat n.toNat) q17.2.2.1),true))) o15
def q5m (n:Nat):FC:={ f:=38,args:=[.one (.c (.d .str))],res:=.tup [.c (.d .str),.c (.d .bool)],F:=fun p=>qba n p }
def qd6 (n:Nat):List FC:=[q59 n,q5o n]
theorem qf6 (n:Nat) {G:World->Prop} (hG:Know Inv G) : ∀c∈qd6 n,q1b Tryz.prog G c/\q0e c.args=true:=List.forall_mem_cons.2 ⟨j3e n G hG,List.forall_mem_cons.2 ⟨j7x n G hG,(fun _ h=>by cases h)⟩⟩
def qd0:q0c:=[]
theorem qmb:drB qd0 (q00 Tryz.f38)=true:=by kernel_rfl
theorem qzc (n:Nat) : ∀rec p,qd7 n rec p=round Tryz.prog 53 (qd6 n) (q9t n) qd0 1 q6p q3o (q01 0 0 (q00 Tryz.f38)) rec p:=by intro rec p;kernel_rfl
theorem qv4 (n:Nat) {F:Fr} (hF:F.n=53) (hK:Know Inv F.G):q71 Tryz.prog F (qmx n) (q01 0 0 (q00 Tryz.f38)) :=
 q0h hF (by kernel_rfl) (qf6 n hK) (qzc n) (fuel:=n) (fun _=>rfl) (q02 fun j L h1 h2 h3=>absurd h2 (Nat.not_lt.2 (Nat.le_trans (by decide +kernel) h1))) (q0r qmb)
theorem j4o (n:Nat) : ∀a,(q5m n).F a=main Tryz.prog 53 (qd6 n) (q9t n) qd0 (q00 Tryz.f38) [.tmp 2,.tmp 3] (q5m n).args (q5m n).res a:=by intro a;kernel_rfl
theorem j3r (n:Nat):q0a Inv Tryz.prog (q5m n):=fun G hG=>⟨⟨by kernel_rfl,fun a r h=>q03 (c:=q00 Tryz.f38) Tryz.func38 (by kernel_rfl) (by kernel_rfl) (Nat.le_of_ble_eq_true (by kernel_rfl)) hG.st (by kernel_rfl) (rs:=[.tmp 2,.tmp 3]) (by kernel_rfl) (qf6 n hG) (lts:=q9t n) (fun F hF hFG=>have hK:Know Inv F.G:=hFG ▸ hG;(q02 (c:=(q00 Tryz.f38)) (fun j L h1 h2 h3=>by
  have h2':j<1:=Nat.lt_of_lt_of_le h2 (by decide +kernel)
  match j,h1,h2',h3 with
  | 0,_,_,h3=>obtain rfl:=Option.some.inj h3;exact (show q01 0 0 (q00 Tryz.f38)=q01 0 0 (q00 Tryz.f38) by kernel_rfl) ▸ qv4 n hF hK
  | j+1,_,h2',_=>exact absurd h2' (by omega)))) qmb ((j4o n a).symm.trans h)⟩,rfl⟩
end Go.Proofs.YtcdjkibiggjdoaaGreatDoor.AM.Bs
