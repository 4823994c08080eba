
import Derived.Test.YtapfankgdkdkgaaGreatDoorEb11
import Derived.Test.YtapfankgdkdkgaaGreatDoorEb10
import Derived.Test.YtapfankgdkdkgaaGreatDoorEb8
import Derived.Test.YtapfankgdkdkgaaGreatDoorEb9
import Derived.Lib.SlTrimSet
import Derived.Shelf.Strings.SlTrimAscii
set_option linter.unusedVariables false
set_option linter.unusedSimpArgs false
set_option maxRecDepth 20000
namespace Go.Proofs.YtapfankgdkdkgaaGreatDoor.AM.Lx
open Go.RowKit
def q1d (c:UInt8):Bool:=decide (((c.toNat:Nat):Int)=40)||(decide (((c.toNat:Nat):Int)=41)||(decide (((c.toNat:Nat):Int)=91)||(decide (((c.toNat:Nat):Int)=93)||decide (((c.toNat:Nat):Int)=44))))
def pfx:Yy->Bool
 | a::b::_=>decide (a=47)&&decide (b=47)
 | _=>false
def addL (ws:List Wd) (c:UInt8):List Wd:=match ws.getLast? with
 | some (t,p)=>ws.dropLast ++ [(t ++ [c],p)]
 | none=>ws
def q3h:Yy->Nat->Bool->List Wd->List Wd×Nat
 | [],i,_,ws=>(ws,i)
 | c::r,i,op,ws =>
  if q1d c then q3h r (i+1) false (ws ++ [([c],(i:Int))])
  else if isB c then q3h r (i+1) false ws
  else if op then q3h r (i+1) true (addL ws c)
  else if pfx (c::r) then (ws,i)
  else q3h r (i+1) true (ws ++ [([c],(i:Int))])
theorem pfx_t (n:Nat) (s:Yy) (hs:s.length<=1000000):q0o n s [47,47]=some (pfx s):=by
 unfold q0o q1e
 match s with
 | []=>rfl
 | [a]=>simp [pfx]
 | a::b::r =>
  have h:((List.length ([47,47]:Yy):Nat):Int)<=((List.length (a::b::r):Nat):Int):=by simp;omega
  simp only [h,decide_true,cond_true]
  rw [sub_zero (by simp)]
  simp [pfx]
theorem q3t (ws:List Wd) (t:Yy) (p:Int) (c:UInt8):addL (ws ++ [(t,p)]) c=ws ++ [(t ++ [c],p)]:=by
 unfold addL;simp
theorem jc9 (n:Nat) (rec:Yy->Bool->Int->Int->List Wd->Option (((Unit×(Int×Unit))×Unit×((List Wd)×Unit))⊕((Yy×(Unit×Unit))×Unit×((List Wd)×Unit)))) (s:Yy) (op:Bool) (L:Int) (i:Nat) (ws:List Wd)
  (hi:i<s.length) (hL:L=((s.length:Nat):Int)) (hs:s.length<=1000000) (hw:ws.length<=i) (ho:op=true->∃ ws0 t p,ws=ws0 ++ [(t,((p:Nat):Int))]/\p<=i/\t=(s.drop p).take (i - p)) :
  qju n rec s op L (i:Int) ws=if q1d s[i] then rec s false L ((i+1:Nat):Int) (ws ++ [([s[i]],(i:Int))])
   else if isB s[i] then rec s false L ((i+1:Nat):Int) ws
   else if op then rec s true L ((i+1:Nat):Int) (addL ws s[i])
   else if pfx (s.drop i) then some (Sum.inl (((),((i:Int),())),((),(ws,()))))
   else rec s true L ((i+1:Nat):Int) (ws ++ [([s[i]],(i:Int))]):=by
 subst hL
 have c0:((i:Nat):Int)<((s.length:Nat):Int):=by omega
 have w1:=q05 (show i<4611686018427387904 by omega)
 have a1:q1t 24 ws [([s[i]],(i:Int))]=some (ws ++ [([s[i]],(i:Int))]):=q1s (by simp;omega)
 have a2:q1t 24 ws [(([]:Yy),(i:Int))]=some (ws ++ [([],(i:Int))]):=q1s (by simp;omega)
 have s1:q0w s ((i:Nat):Int) ((i+1:Nat):Int)=some [s[i]]:=by rw [sub_le (by omega) (by omega),take_one hi]
 have s2:q0w s ((i:Nat):Int) ((s.length:Nat):Int)=some (s.drop i):=by
  rw [sub_le (by omega) (Nat.le_refl _),List.take_of_length_le (by rw [List.length_drop];omega)]
 have hp:=pfx_t n (s.drop i) (by rw [List.length_drop];omega)
 unfold qju
 simp only [c0,decide_true,cond_true,q1h hi,Option.bind_some,q00,w1,s1,s2,a1,a2,hp]
 have eqc : ∀k:Int,decide (((s[i].toNat:Nat):Int)=k)=true\/decide (((s[i].toNat:Nat):Int)=k)=false:=fun k=>by cases decide (((s[i].toNat:Nat):Int)=k)<;>simp
 rcases eqc 40 with h40|h40
 ·simp only [q1d,h40,cond_true,Bool.true_or,Bool.or_true,Bool.false_or,if_true]
 rcases eqc 41 with h41|h41
 ·simp only [q1d,h40,h41,cond_true,cond_false,Bool.true_or,Bool.or_true,Bool.false_or,if_true]
 rcases eqc 91 with h91|h91
 ·simp only [q1d,h40,h41,h91,cond_true,cond_false,Bool.true_or,Bool.or_true,Bool.false_or,if_true]
 rcases eqc 93 with h93|h93
 ·simp only [q1d,h40,h41,h91,h93,cond_true,cond_false,Bool.true_or,Bool.or_true,Bool.false_or,if_true]
 rcases eqc 44 with h44|h44
 ·simp only [q1d,h40,h41,h91,h93,h44,cond_true,cond_false,Bool.true_or,Bool.or_true,Bool.false_or,if_true]
 have hS:q1d s[i]=false:=by simp only [q1d,h40,h41,h91,h93,h44,Bool.or_false]
 rcases eqc 32 with h32|h32
 ·have hB:isB s[i]=true:=by simp only [isB,h32,Bool.true_or]
  simp only [hS,hB,h40,h41,h91,h93,h44,h32,cond_true,cond_false,if_true,Bool.false_eq_true,if_false]
 rcases eqc 9 with h9|h9
 ·have hB:isB s[i]=true:=by simp only [isB,h9,Bool.or_true]
  simp only [hS,hB,h40,h41,h91,h93,h44,h32,h9,cond_true,cond_false,if_true,Bool.false_eq_true,if_false]
 have hB:isB s[i]=false:=by simp only [isB,h32,h9,Bool.or_false]
 simp only [hS,hB,h40,h41,h91,h93,h44,h32,h9,cond_true,cond_false,Bool.false_eq_true,if_false]
 cases op with
 | false =>
  simp only [Bool.not_false,cond_true,Bool.false_eq_true,if_false]
  cases hb:pfx (s.drop i) with
  | true=>simp only [cond_true,if_true]
  | false =>
   have hl:(ws ++ [(([]:Yy),(i:Int))]).length=ws.length+1:=by simp
   have w2:IntKind.wrap .i64 ((((ws ++ [(([]:Yy),(i:Int))]).length:Nat):Int) - 1)=((ws.length:Nat):Int):=by
    rw [hl,show (((ws.length+1:Nat):Int) - 1)=((ws.length:Nat):Int) from by omega];exact qah (by omega)
   have g:ws.length<(ws ++ [(([]:Yy),(i:Int))]).length:=by omega
   have ge:(ws ++ [(([]:Yy),(i:Int))])[ws.length]'g=([],(i:Int)):=by simp
   simp only [cond_false,Bool.false_eq_true,if_false,w2,q0l g,Option.bind_some,Int.toNat_natCast,ja0 g,ge,s1,j21]
 | true =>
  obtain ⟨ws0,t,p,rfl,hpi,rfl⟩:=ho rfl
  simp only [Bool.not_true,cond_false,if_true]
  generalize ht:(s.drop p).take (i - p)=t
  have hl:(ws0 ++ [(t,(p:Int))]).length=ws0.length+1:=by simp
  have w2:IntKind.wrap .i64 ((((ws0 ++ [(t,(p:Int))]).length:Nat):Int) - 1)=((ws0.length:Nat):Int):=by
   rw [hl,show (((ws0.length+1:Nat):Int) - 1)=((ws0.length:Nat):Int) from by omega];exact qah (by simp at hw;omega)
  have g:ws0.length<(ws0 ++ [(t,(p:Int))]).length:=by omega
  have ge:(ws0 ++ [(t,(p:Int))])[ws0.length]'g=(t,(p:Int)):=by simp
  have s3:q0w s ((p:Nat):Int) ((i+1:Nat):Int)=some (t ++ [s[i]]):=by
   rw [sub_le (by omega) (by omega),<-ht,show i+1 - p=(i - p)+1 from by omega,List.take_add_one,List.getElem?_drop,show p+(i - p)=i from by omega,List.getElem?_eq_getElem hi]
   rfl
  simp only [w2,q0l g,Option.bind_some,Int.toNat_natCast,ja0 g,ge,s3,j21,q3t]
theorem qu1 (n:Nat) (s:Yy) (hs:s.length<=1000000) : ∀(m i:Nat) (op:Bool) (ws:List Wd),i<=s.length->s.length - i<m->ws.length<=i->(op=true->∃ ws0 t p,ws=ws0 ++ [(t,((p:Nat):Int))]/\p<=i/\t=(s.drop p).take (i - p)) ->
  (q5a n m s op ((s.length:Nat):Int) (i:Int) ws=some (Sum.inl (((),((((q3h (s.drop i) i op ws).2:Nat):Int),())),((),((q3h (s.drop i) i op ws).1,()))))\/((q3h (s.drop i) i op ws).2=s.length/\q5a n m s op ((s.length:Nat):Int) (i:Int) ws=some (Sum.inr ((s,((),())),((),((q3h (s.drop i) i op ws).1,()))))))
 | 0,i,op,ws,_,h,_,_=>absurd h (Nat.not_lt_zero _)
 | m+1,i,op,ws,hi,h,hw,ho=>by
  rw [qic]
  by_cases c0:i<s.length
  ·have ih:=qu1 n s hs m
   rw [jc9 n (fun a1 a2 a3 a4 a5=>q5a n m a1 a2 a3 a4 a5) s op _ i ws c0 rfl hs hw ho]
   have hd:s.drop i=s[i]::s.drop (i+1):=List.drop_eq_getElem_cons c0
   have h1 : [s[i]]=(s.drop i).take (i+1 - i):=(take_one c0).symm
   rw [hd,q3h,<-hd]
   by_cases cS:q1d s[i]=true
   ·simp only [cS,if_true]
    exact ih (i+1) false _ (by omega) (by omega) (by simp;omega) (fun h=>by cases h)
   ·by_cases cB:isB s[i]=true
    ·simp only [cS,cB,if_true,if_false]
     exact ih (i+1) false _ (by omega) (by omega) (by omega) (fun h=>by cases h)
    ·cases op with
     | true =>
      simp only [cS,cB,if_true,if_false]
      obtain ⟨ws0,t,p,rfl,hpi,ht⟩:=ho rfl
      refine ih (i+1) true _ (by omega) (by omega) (by rw [q3t];simp at hw ⊢;omega) (fun _=>⟨ws0,t ++ [s[i]],p,q3t _ _ _ _,by omega,?_⟩)
      rw [ht,show i+1 - p=(i - p)+1 from by omega,List.take_add_one,List.getElem?_drop,show p+(i - p)=i from by omega,List.getElem?_eq_getElem c0]
      rfl
     | false =>
      by_cases cP:pfx (s.drop i)=true
      ·simp only [cS,cB,cP,Bool.false_eq_true,if_true,if_false]
       exact Or.inl (by first|rfl|trivial)
      ·simp only [cS,cB,cP,Bool.false_eq_true,if_false]
       exact ih (i+1) true _ (by omega) (by omega) (by simp;omega) (fun _=>⟨ws,[s[i]],i,rfl,by omega,h1⟩)
  ·unfold qju
   have c0' : ¬ ((i:Nat):Int)<((s.length:Nat):Int):=by omega
   have hie:i=s.length:=by omega
   have hd:s.drop i = []:=List.drop_eq_nil_of_le (by omega)
   simp only [c0',decide_false,cond_false,hd,q3h]
   exact Or.inr ⟨hie,by first|rfl|trivial⟩
theorem cut_P (n:Nat) (s:Yy) (hs:s.length<=1000000) (hn:s.length<n):j3d n s=some ((q3h s 0 false []).1,(((q3h s 0 false []).2:Nat):Int)):=by
 have h:=qu1 n s hs n 0 false [] (Nat.zero_le _) (by omega) (Nat.zero_le _) (fun h=>by cases h)
 rw [List.drop_zero,show ((0:Nat):Int)=(0:Int) from rfl] at h
 unfold j3d
 rcases h with h|⟨h0,h⟩
 ·rw [h];rfl
 ·rw [h,h0];rfl
theorem jcv : ∀(s:Yy) (i:Nat) (op:Bool) (ws:List Wd),i<=(q3h s i op ws).2/\(q3h s i op ws).2<=i+s.length
 | [],i,op,ws=>⟨Nat.le_refl _,Nat.le_refl _⟩
 | c::r,i,op,ws=>by
  have k:=fun op ws=>jcv r (i+1) op ws
  rw [q3h,List.length_cons]
  split
  ·have:=k false (ws ++ [([c],(i:Int))]);omega
  ·split
   ·have:=k false ws;omega
   ·split
    ·have:=k true (addL ws c);omega
    ·split
     ·simp
     ·have:=k true (ws ++ [([c],(i:Int))]);omega
theorem q1m (c:UInt8) (r:Yy) (i:Nat) (op:Bool) (ws:List Wd):q3h (c::r) i op ws =
  if q1d c then q3h r (i+1) false (ws ++ [([c],(i:Int))])
  else if isB c then q3h r (i+1) false ws
  else if op then q3h r (i+1) true (addL ws c)
  else if pfx (c::r) then (ws,i)
  else q3h r (i+1) true (ws ++ [([c],(i:Int))]):=rfl
def okc (c:UInt8):Bool:=!((decide (((c.toNat:Nat):Int)<32) && !decide (((c.toNat:Nat):Int)=9))||decide ((126:Int)<((c.toNat:Nat):Int)))
theorem qfw (n:Nat) (s:Yy) (hL:s.length<=1000000) : ∀m j:Nat,j<=s.length->s.length - j<m->q6j n m s ((s.length:Nat):Int) (j:Int)=some (if (s.drop j).all okc then Sum.inr ((),(),()) else Sum.inl ((false,()),(),()))
 | 0,j,_,h=>absurd h (Nat.not_lt_zero _)
 | m+1,j,hj,h=>by
  rw [qf3]
  unfold qma
  by_cases c0:j<s.length
  ·have c0':((j:Nat):Int)<((s.length:Nat):Int):=by omega
   have ih:=qfw n s hL m (j+1) (by omega) (by omega)
   have hd:s.drop j=s[j]::s.drop (j+1):=(List.drop_eq_getElem_cons c0)
   simp only [c0',decide_true,cond_true,q1h c0,Option.bind_some,q00,q05 (show j<4611686018427387904 by omega),ih,hd,List.all_cons,okc]
   generalize decide (((s[j].toNat:Nat):Int)<32)=b1
   generalize decide (((s[j].toNat:Nat):Int)=9)=b2
   generalize decide ((126:Int)<((s[j].toNat:Nat):Int))=b3
   cases b1<;>cases b2<;>cases b3<;>simp<;>rfl
  ·have c0' : ¬ ((j:Nat):Int)<((s.length:Nat):Int):=by omega
   have:s.drop j = []:=List.drop_eq_nil_of_le (by omega)
   simp [c0',this]
theorem jeu (n:Nat) (s:Yy) (hL:s.length<=1000000) (hn:s.length<n):qhr n s=some (s.all okc):=by
 unfold qhr
 have:=qfw n s hL n 0 (Nat.zero_le _) (by omega)
 rw [show ((0:Nat):Int)=(0:Int) from rfl] at this
 rw [this,List.drop_zero]
 cases s.all okc<;>rfl
theorem one_P (n:Nat) (s:Yy) (hL:s.length<=1000000) (hn:s.length<n):quy n s=some (if s.all okc then (((q3h s 0 false []).1,s.drop (q3h s 0 false []).2),0) else (([],[]),9)):=by
 unfold quy
 rw [jeu n s hL hn]
 cases h:s.all okc with
 | false=>rfl
 | true =>
  have h2:=(jcv s 0 false []).2
  simp only [Option.bind_some,Bool.not_true,cond_false,cut_P n s hL hn,if_true]
  rw [sub_le (by omega) (Nat.le_refl _),Option.bind_some,List.take_of_length_le (by rw [List.length_drop];omega)]
def qkh:Yy->Nat->Bool->List Wd->List Wd
 | [],i,_,ws=>ws
 | c::r,i,op,ws =>
  if q1d c then qkh r (i+1) false (ws ++ [([c],(i:Int))])
  else if isB c then qkh r (i+1) false ws
  else if op then qkh r (i+1) true (addL ws c)
  else qkh r (i+1) true (ws ++ [([c],(i:Int))])
theorem q33 (c:UInt8) (r:Yy) (i:Nat) (op:Bool) (ws:List Wd):qkh (c::r) i op ws =
  if q1d c then qkh r (i+1) false (ws ++ [([c],(i:Int))])
  else if isB c then qkh r (i+1) false ws
  else if op then qkh r (i+1) true (addL ws c)
  else qkh r (i+1) true (ws ++ [([c],(i:Int))]):=rfl
def qk6:Yy->Bool->Nat
 | [],_=>0
 | c::r,op=>if (!op&&pfx (c::r))=true then 0 else 1+qk6 r (!(q1d c||isB c))
theorem qe3 (c:UInt8) (r:Yy) (op:Bool):qk6 (c::r) op=if (!op&&pfx (c::r))=true then 0 else 1+qk6 r (!(q1d c||isB c)):=rfl
theorem jd5 : ∀(l:Yy) (op:Bool),qk6 l op<=l.length
 | [],_=>Nat.le_refl _
 | c::r,op=>by
  rw [qe3]
  split
  ·simp
  ·have:=jd5 r (!(q1d c||isB c));rw [List.length_cons];omega
theorem jar (c:UInt8) (r:Yy) (h:q1d c=true\/isB c=true):pfx (c::r)=false:=by
 cases r with
 | nil=>rfl
 | cons b r =>
  have:c≠47:=by
   rintro rfl
   rcases h with h|h<;>revert h<;>decide
  simp [pfx,this]
theorem qd7 : ∀(l:Yy) (i:Nat) (op:Bool) (ws:List Wd),q3h l i op ws=(qkh (l.take (qk6 l op)) i op ws,i+qk6 l op)
 | [],i,op,ws=>rfl
 | c::r,i,op,ws=>by
  have ih:=fun op ws=>qd7 r (i+1) op ws
  rw [q1m,qe3]
  by_cases c1:q1d c=true
  ·rw [if_pos c1,jar c r (Or.inl c1),ih]
   simp only [Bool.and_false,Bool.false_eq_true,if_false,c1,Bool.true_or,Bool.not_true]
   rw [Nat.add_comm 1,List.take_succ_cons,q33,if_pos c1,Nat.add_assoc i 1,Nat.add_comm 1]
  rw [if_neg c1]
  by_cases c2:isB c=true
  ·rw [if_pos c2,jar c r (Or.inr c2),ih]
   simp only [Bool.and_false,Bool.false_eq_true,if_false,c2,Bool.or_true,Bool.not_true]
   rw [Nat.add_comm 1,List.take_succ_cons,q33,if_neg c1,if_pos c2,Nat.add_assoc i 1,Nat.add_comm 1]
  rw [if_neg c2]
  have c1':q1d c=false:=by simpa using c1
  have c2':isB c=false:=by simpa using c2
  by_cases c3:op=true
  ·subst c3
   rw [if_pos rfl,ih]
   simp only [Bool.not_true,Bool.false_and,Bool.false_eq_true,if_false,c1',c2',Bool.or_self,Bool.not_false]
   rw [Nat.add_comm 1,List.take_succ_cons,q33,if_neg c1,if_neg c2,if_pos rfl,Nat.add_assoc i 1,Nat.add_comm 1]
  have c3':op=false:=by simpa using c3
  subst c3'
  rw [if_neg c3]
  by_cases c4:pfx (c::r)=true
  ·rw [if_pos c4,if_pos (by rw [c4];rfl)];rfl
  rw [if_neg c4,if_neg (by simpa using c4),ih]
  simp only [c1',c2',Bool.or_self,Bool.not_false]
  rw [Nat.add_comm 1,List.take_succ_cons,q33,if_neg c1,if_neg c2,if_neg c3,Nat.add_assoc i 1,Nat.add_comm 1]
def qpg:Yy->Nat
 | []=>0
 | c::r=>if (q1d c||isB c)=true then 0 else 1+qpg r
theorem qwt : ∀l:Yy,qpg l<=l.length
 | []=>Nat.le_refl _
 | c::r=>by
  rw [qpg]
  split
  ·simp
  ·have:=qwt r;simp;omega
theorem jb3 (p:Nat) (out:List Wd) : ∀(l:Yy) (k:Nat) (w:Yy),qkh l k true (out ++ [(w,(p:Int))])=qkh (l.drop (qpg l)) (k+qpg l) false (out ++ [(w++l.take (qpg l),(p:Int))])
 | [],k,w=>by simp [qpg,qkh]
 | c::r,k,w=>by
  rw [qpg]
  by_cases h:(q1d c||isB c)=true
  ·rw [if_pos h]
   simp only [List.drop_zero,Nat.add_zero,List.take_zero,List.append_nil]
   rw [q33,q33]
   by_cases c1:q1d c=true
   ·rw [if_pos c1,if_pos c1]
   ·rw [if_neg c1,if_neg c1]
    have c2:isB c=true:=by simpa [c1] using h
    rw [if_pos c2,if_pos c2]
  ·rw [if_neg h]
   have c1 : ¬ q1d c=true:=fun e=>h (by rw [e];rfl)
   have c2 : ¬ isB c=true:=fun e=>h (by rw [e];simp)
   rw [q33,if_neg c1,if_neg c2,if_pos rfl,q3t,jb3 p out r (k+1),Nat.add_comm 1,List.drop_succ_cons,List.take_succ_cons,Nat.add_assoc k 1,Nat.add_comm 1,List.append_assoc]
   rfl
theorem qqh (n:Nat) (c:UInt8):qap n ((c.toNat:Nat):Int)=some (isB c):=by
 unfold qap isB
 cases decide (((c.toNat:Nat):Int)=32)<;>rfl
theorem j77 (n:Nat) (c:UInt8):qfk n ((c.toNat:Nat):Int)=some (q1d c):=by
 unfold qfk q1d
 cases decide (((c.toNat:Nat):Int)=40)<;>cases decide (((c.toNat:Nat):Int)=41)<;>cases decide (((c.toNat:Nat):Int)=91)<;>cases decide (((c.toNat:Nat):Int)=93)<;>rfl
def prev (s:Yy) (i:Nat):Bool:=if h:0<i/\i<=s.length then !(q1d (s[i - 1]'(by omega))||isB (s[i - 1]'(by omega))) else false
theorem je2 {s:Yy} {i:Nat} (h:i<s.length):prev s (i+1) = !(q1d s[i]||isB s[i]):=by
 unfold prev
 rw [dif_pos ⟨by omega,by omega⟩]
 rfl
theorem qjr (n:Nat) (s:Yy) (hs:s.length<=1000000) : ∀m i:Nat,i<=s.length->s.length - i<m ->
  (q25 n m s (i:Int)=some (Sum.inl ((((i+qk6 (s.drop i) (prev s i):Nat):Int),()),((),()))))\/(q25 n m s (i:Int)=some (Sum.inr ((s,()),((),())))/\i+qk6 (s.drop i) (prev s i)=s.length)
 | 0,i,_,h=>absurd h (Nat.not_lt_zero _)
 | m+1,i,hi,h=>by
  rw [qdk]
  unfold qfq
  have w1:=q05 (show i<4611686018427387904 by omega)
  by_cases c0:i+1<s.length
  ·have ih:=qjr n s hs m (i+1) (by omega) (by omega)
   have hi':i<s.length:=by omega
   have c0':((i+1:Nat):Int)<((s.length:Nat):Int):=by omega
   have hd:s.drop i=s[i]::s.drop (i+1):=List.drop_eq_getElem_cons hi'
   have hd1:s.drop (i+1)=s[i+1]::s.drop (i+1+1):=List.drop_eq_getElem_cons c0
   rw [je2 hi'] at ih
   have key:pfx (s.drop i)=(decide (((s[i].toNat:Nat):Int)=47)&&decide (((s[i+1].toNat:Nat):Int)=47)):=by
    rw [hd,hd1]
    have e : ∀c:UInt8,decide (c=47)=decide (((c.toNat:Nat):Int)=47):=fun c=>by
     have h47:(47:UInt8).toNat=47:=rfl
     apply decide_eq_decide.2
     constructor
     ·rintro rfl;rfl
     ·intro hh;apply UInt8.toNat_inj.1;rw [h47];omega
    show (decide (s[i]=47)&&decide (s[i+1]=47))=_
    rw [e,e]
   have next : ∀b,qk6 (s.drop i) b=if (!b&&pfx (s.drop i))=true then 0 else 1+qk6 (s.drop (i+1)) (!(q1d s[i]||isB s[i])):=fun b=>by
    conv=>lhs;rw [hd]
    rw [qe3,<-hd]
   have goOn:(!(prev s i)&&pfx (s.drop i))=false->(q25 n m s ((i+1:Nat):Int)=some (Sum.inl ((((i+qk6 (s.drop i) (prev s i):Nat):Int),()),((),())))\/(q25 n m s ((i+1:Nat):Int)=some (Sum.inr ((s,()),((),())))/\i+qk6 (s.drop i) (prev s i)=s.length)):=fun hb=>by
    rw [next,hb]
    simp only [Bool.false_eq_true,if_false]
    rw [<-Nat.add_assoc]
    exact ih
   have stop:(!(prev s i)&&pfx (s.drop i))=true->i+qk6 (s.drop i) (prev s i)=i:=fun hb=>by
    rw [next,if_pos hb];rfl
   simp only [q00,w1,c0',decide_true,cond_true,q1h hi',q1h c0,Option.bind_some]
   cases h1:decide (((s[i].toNat:Nat):Int)=47) with
   | false=>exact goOn (by rw [key,h1];simp)
   | true =>
    cases h2:decide (((s[i+1].toNat:Nat):Int)=47) with
    | false=>exact goOn (by rw [key,h1,h2];simp)
    | true =>
     simp only [cond_true]
     by_cases h3:i=0
     ·have h3':((i:Nat):Int)=0:=by omega
      refine Or.inl ?_
      rw [stop (by rw [key,h1,h2];subst h3;simp [prev])]
      simp only [h3',decide_true,cond_true]
     ·have h3' : ¬ ((i:Nat):Int)=0:=by omega
      have w2:IntKind.wrap .i64 (((i:Nat):Int) - 1)=((i - 1:Nat):Int):=by rw [show ((i:Nat):Int) - 1=((i - 1:Nat):Int) from by omega];exact qah (by omega)
      have hp:prev s i = !(q1d s[i - 1]||isB s[i - 1]):=by unfold prev;rw [dif_pos ⟨by omega,hi⟩]
      simp only [h3',decide_false,cond_false,w2,q1h (show i - 1<s.length by omega),Option.bind_some,qqh,j77]
      cases h4:isB s[i - 1] with
      | true =>
       refine Or.inl ?_
       simp only [cond_true]
       rw [stop (by rw [key,h1,h2,hp,h4];simp)]
      | false =>
       cases h5:q1d s[i - 1] with
       | true =>
        refine Or.inl ?_
        simp only [cond_true,cond_false]
        rw [stop (by rw [key,h1,h2,hp,h4,h5];simp)]
       | false =>
        simp only [cond_false]
        exact goOn (by rw [hp,h4,h5];simp)
  ·have c0' : ¬ ((i+1:Nat):Int)<((s.length:Nat):Int):=by omega
   simp only [q00,w1,c0',decide_false,cond_false]
   refine Or.inr ⟨by first|rfl|trivial,?_⟩
   rcases Nat.lt_or_ge i s.length with h1|h1
   ·have hd:s.drop i = [s[i]]:=by rw [List.drop_eq_getElem_cons h1,List.drop_eq_nil_of_le (by omega)]
    rw [hd,qe3]
    simp [pfx,qk6];omega
   ·rw [List.drop_eq_nil_of_le h1];simp [qk6];omega
theorem jf3 (n:Nat) (s:Yy) (hs:s.length<=1000000) (hn:s.length<n):qce n s=some ((qk6 s false:Nat):Int):=by
 have h:=qjr n s hs n 0 (Nat.zero_le _) (by omega)
 rw [List.drop_zero,show prev s 0=false from rfl,Nat.zero_add] at h
 unfold qce
 rw [show ((0:Nat):Int)=(0:Int) from rfl] at h
 rcases h with h|⟨h,h2⟩
 ·rw [h];rfl
 ·rw [h,h2];rfl
theorem qj9 (n:Nat) (s:Yy) (hs:s.length<=1000000) (e i:Nat) (nt:Yy) (out:List Wd) (he:e<=s.length) (hi:i<s.length) : ∀m k:Nat,k<=e->e - k<m ->
  ∃ o,qa4 n m s (e:Int) (i:Int) (k:Int) nt out=some o/\∀(α:Type) (f:Yy->Int->Int->Int->Yy->List Wd->α),
   Sum.elim (fun q=>f q.1.1 q.1.2.2.1 q.1.2.2.2.2.1 q.1.2.2.2.2.2.1 q.2.1.1.2 q.2.2.1) (Sum.elim (fun q=>f q.1.1 q.1.2.2.1 q.1.2.2.2.2.1 q.1.2.2.2.2.2.1 q.2.1.1.2 q.2.2.1) (Sum.elim (fun q=>f q.1.1 q.1.2.2.1 q.1.2.2.2.2.1 q.1.2.2.2.2.2.1 q.2.1.1.2 q.2.2.1) (fun q=>f q.1.1 q.1.2.2.1 q.1.2.2.2.2.1 q.1.2.2.2.2.2.1 q.2.1.1.2 q.2.2.1))) o
    = f s (e:Int) (i:Int) ((if q1d s[i] then k else k+qpg ((s.take e).drop k):Nat):Int) nt out
 | 0,k,_,h=>absurd h (Nat.not_lt_zero _)
 | m+1,k,hk,h=>by
  rw [qjs]
  unfold qy6
  by_cases c0:k<e
  ·have c0':((k:Nat):Int)<((e:Nat):Int):=by omega
   have hk':k<s.length:=by omega
   have hd:(s.take e).drop k=s[k]::(s.take e).drop (k+1):=by
    rw [List.drop_eq_getElem_cons (by rw [List.length_take];omega),List.getElem_take]
   simp only [c0',decide_true,cond_true,q1h hi,q1h hk',Option.bind_some,j77,qqh]
   cases h1:q1d s[i] with
   | true =>
    refine ⟨_,rfl,fun α f=>?_⟩
    simp only [Bool.not_true,cond_false,Sum.elim_inr,Sum.elim_inl,if_true]
   | false =>
    simp only [Bool.not_false,cond_true,Bool.false_eq_true,if_false]
    cases h2:isB s[k] with
    | true =>
     refine ⟨_,rfl,fun α f=>?_⟩
     rw [hd,qpg,if_pos (by rw [h2];simp)]
     simp only [Sum.elim_inr,Sum.elim_inl,Nat.add_zero]
    | false =>
     simp only [Bool.not_false,cond_true]
     cases h3:q1d s[k] with
     | true =>
      refine ⟨_,rfl,fun α f=>?_⟩
      rw [hd,qpg,if_pos (by rw [h3];simp)]
      simp only [Sum.elim_inr,Sum.elim_inl,Nat.add_zero]
     | false =>
      simp only [Bool.not_false,cond_true,q00,q05 (show k<4611686018427387904 by omega)]
      obtain ⟨o,h4,h5⟩:=qj9 n s hs e i nt out he hi m (k+1) (by omega) (by omega)
      refine ⟨o,h4,fun α f=>?_⟩
      rw [h5]
      simp only [h1,Bool.false_eq_true,if_false]
      rw [hd,qpg,if_neg (by rw [h2,h3];simp),Nat.add_assoc]
  ·have c0' : ¬ ((k:Nat):Int)<((e:Nat):Int):=by omega
   refine ⟨_,by simp only [c0',decide_false,cond_false];rfl,fun α f=>?_⟩
   have hd:(s.take e).drop k = []:=List.drop_eq_nil_of_le (by rw [List.length_take];omega)
   rw [hd]
   simp only [Sum.elim_inr,qpg,Nat.add_zero,ite_self]
theorem j08 : ∀(l:Yy) (i:Nat) (op:Bool) (ws:List Wd),(qkh l i op ws).length<=ws.length+l.length
 | [],i,op,ws=>by simp [qkh]
 | c::r,i,op,ws=>by
  have ih:=fun op ws=>j08 r (i+1) op ws
  rw [q33,List.length_cons]
  split
  ·have:=ih false (ws ++ [([c],(i:Int))]);simp at this;omega
  ·split
   ·have:=ih false ws;omega
   ·split
    ·have:=ih true (addL ws c)
     have h2:(addL ws c).length<=ws.length:=by
      unfold addL
      split
      ·rename_i t p h
       have:ws ≠ []:=by rintro rfl;simp at h
       have:=List.length_pos_iff.2 this
       simp;omega
      ·exact Nat.le_refl _
     omega
    ·have:=ih true (ws ++ [([c],(i:Int))]);simp at this;omega
theorem qkk (n:Nat) (s:Yy) (hs:s.length<=1000000) (hn:s.length<n) (e:Nat) (nt:Yy) (he:e<=s.length) : ∀(m i:Nat) (out:List Wd),i<=e->e - i<m->out.length<=i ->
  ∃ o,q75 n m s (e:Int) (i:Int) nt out=some o/\o.1.1=s/\o.1.2.2.1=(e:Int)/\o.2.2.1=qkh ((s.take e).drop i) i false out
 | 0,i,_,_,h,_=>absurd h (Nat.not_lt_zero _)
 | m+1,i,out,hi,h,ho=>by
  rw [qit]
  unfold qz9
  by_cases c0:i<e
  ·have c0':((i:Nat):Int)<((e:Nat):Int):=by omega
   have hi':i<s.length:=by omega
   have ih:=qkk n s hs hn e nt he m
   have hd:(s.take e).drop i=s[i]::(s.take e).drop (i+1):=by
    rw [List.drop_eq_getElem_cons (by rw [List.length_take];omega),List.getElem_take]
   have w1:=q05 (show i<4611686018427387904 by omega)
   simp only [c0',decide_true,cond_true,q1h hi',Option.bind_some,qqh,q00,w1]
   cases h1:isB s[i] with
   | true =>
    simp only [cond_true]
    obtain ⟨o,k1,k2,k3,k4⟩:=ih (i+1) out (by omega) (by omega) (by omega)
    refine ⟨o,k1,k2,k3,?_⟩
    have hS : ¬ q1d s[i]=true:=fun hh=>by
     have h47 : ∀c:UInt8,q1d c=true->isB c=true->False:=by
      intro c;unfold q1d isB
      intro a b
      simp at a b;omega
     exact h47 _ hh h1
    rw [k4,hd,q33,if_neg hS,if_pos h1]
   | false =>
    simp only [cond_false]
    obtain ⟨o,k1,k2⟩:=qj9 n s hs e i nt out he hi' n (i+1) (by omega) (by omega)
    generalize hk:(if q1d s[i] then i+1 else i+1+qpg ((s.take e).drop (i+1)):Nat)=k at k2
    have hkb:i<k/\k<=e:=by
     have:=qwt ((s.take e).drop (i+1))
     rw [List.length_drop,List.length_take] at this
     rw [<-hk];split<;>omega
    have hsub:q0w s ((i:Nat):Int) ((k:Nat):Int)=some ((s.drop i).take (k - i)):=sub_le (by omega) (by omega)
    have ha:q1t 24 out [((s.drop i).take (k - i),(i:Int))]=some (out ++ [((s.drop i).take (k - i),(i:Int))]):=q1s (by simp;omega)
    obtain ⟨o',g1,g2,g3,g4⟩:=ih k (out ++ [((s.drop i).take (k - i),(i:Int))]) (by omega) (by omega) (by simp;omega)
    refine ⟨o',?_,g2,g3,?_⟩
    ·rw [k1,Option.bind_some]
     refine (k2 _ (fun b1 b2 b3 b4 b5 b6=>(q0w b1 b3 b4).bind fun s25=>(q1t 24 b6 [(s25,b3)]).bind fun l26=>q75 n m b1 b2 b4 b5 l26)).trans ?_
     rw [hsub,Option.bind_some,ha,Option.bind_some]
     exact g1
    ·rw [g4,hd,q33]
     by_cases h2:q1d s[i]=true
     ·rw [if_pos h2] at hk ⊢
      subst hk
      rw [show i+1 - i=1 from by omega,List.drop_eq_getElem_cons hi']
      rfl
     ·rw [if_neg h2] at hk
      rw [if_neg h2,if_neg (by rw [h1];simp),if_neg (by simp),jb3]
      have e1:((s.take e).drop (i+1)).drop (qpg ((s.take e).drop (i+1)))=(s.take e).drop k:=by rw [List.drop_drop,hk]
      have e2 : [s[i]]++((s.take e).drop (i+1)).take (qpg ((s.take e).drop (i+1)))=(s.drop i).take (k - i):=by
       rw [show k - i=qpg ((s.take e).drop (i+1))+1 from by omega,List.drop_eq_getElem_cons hi',List.take_succ_cons,List.drop_take,List.take_take]
       have hm:min (qpg ((s.take e).drop (i+1))) (e - (i+1))=qpg ((s.take e).drop (i+1)):=by
        have:=qwt ((s.take e).drop (i+1))
        rw [List.length_drop,List.length_take] at this
        omega
       rw [<-List.drop_take,hm]
       rfl
      rw [e1,e2,hk]
  ·have c0' : ¬ ((i:Nat):Int)<((e:Nat):Int):=by omega
   refine ⟨_,by simp only [c0',decide_false,cond_false];rfl,rfl,rfl,?_⟩
   rw [List.drop_eq_nil_of_le (by rw [List.length_take];omega)]
   rfl
theorem qiy (n:Nat) (s:Yy) (hL:s.length<=1000000) (nt:Yy) : ∀m j:Nat,j<=s.length->s.length - j<m->qaa n m s (j:Int) nt=some (if (s.drop j).all okc then Sum.inr ((s,((),())),((((),nt),()),())) else Sum.inl (((),((9:Int),())),((((),([]:Yy)),()),())))
 | 0,j,_,h=>absurd h (Nat.not_lt_zero _)
 | m+1,j,hj,h=>by
  rw [qlq]
  unfold qya
  by_cases c0:j<s.length
  ·have c0':((j:Nat):Int)<((s.length:Nat):Int):=by omega
   have ih:=qiy n s hL nt m (j+1) (by omega) (by omega)
   have hd:s.drop j=s[j]::s.drop (j+1):=(List.drop_eq_getElem_cons c0)
   simp only [c0',decide_true,cond_true,q1h c0,Option.bind_some,q00,q05 (show j<4611686018427387904 by omega),ih,hd,List.all_cons,okc]
   generalize decide (((s[j].toNat:Nat):Int)<32)=b1
   generalize decide (((s[j].toNat:Nat):Int)=9)=b2
   generalize decide ((126:Int)<((s[j].toNat:Nat):Int))=b3
   cases b1<;>cases b2<;>cases b3<;>simp
  ·have c0' : ¬ ((j:Nat):Int)<((s.length:Nat):Int):=by omega
   have:s.drop j = []:=List.drop_eq_nil_of_le (by omega)
   simp [c0',this]
abbrev Ln:=List Wd×Yy
def qc2 (s:Yy):Ln:=((q3h s 0 false []).1,s.drop (q3h s 0 false []).2)
def joo (s:Yy):Ln×Int:=if s.all okc then (qc2 s,0) else (([],[]),9)
theorem jpf (n:Nat) (s:Yy) (hL:s.length<=1000000) (hn:s.length<n):quy n s=some (joo s):=by
 rw [one_P n s hL hn];rfl
theorem jou (n:Nat) (s:Yy) (hL:s.length<=1000000) (hn:s.length<n):q94 n s=some (joo s):=by
 unfold q94 joo
 have h0:=qiy n s hL [] n 0 (Nat.zero_le _) (by omega)
 rw [show ((0:Nat):Int)=(0:Int) from rfl,List.drop_zero] at h0
 rw [h0]
 cases h:s.all okc with
 | false=>rfl
 | true =>
  have hle:=jd5 s false
  obtain ⟨o,k1,k2,k3,k4⟩:=qkk n s hL hn (qk6 s false) [] hle n 0 [] (Nat.zero_le _) (by omega) (Nat.le_refl _)
  rw [show ((0:Nat):Int)=(0:Int) from rfl] at k1
  simp only [if_true,Option.bind_some,Sum.elim_inr,jf3 n s hL hn,k1,k2,k3]
  rw [sub_le hle (Nat.le_refl _),Option.bind_some,k4,List.take_of_length_le (l:=s.drop (qk6 s false)) (by rw [List.length_drop];omega)]
  unfold qc2
  rw [qd7 s 0 false [],List.drop_zero,Nat.zero_add]
theorem jgv (s:Yy):(qc2 s).1.length<=s.length/\(qc2 s).2.length<=s.length:=by
 unfold qc2
 rw [qd7]
 have:=j08 (s.take (qk6 s false)) 0 false []
 rw [List.length_take,List.length_nil] at this
 refine ⟨?_,?_⟩
 ·show (qkh (s.take (qk6 s false)) 0 false []).length<=_;omega
 ·rw [List.length_drop];omega
def q4n (s:Yy):Bool:=s.getLast? == some 10
def q03 (s:Yy):List Yy:=if s = [] then [] else spl 10 [] (if q4n s=true then s.dropLast else s)
theorem qvx (n:Nat) (s:Yy) (hs:s.length<=1000000):q6e n s [10]=some (if q4n s=true then s.dropLast else s):=by
 unfold q6e q7k q2l q4n
 rcases List.eq_nil_or_concat s with rfl|⟨m,c,rfl⟩
 ·rfl
 ·rw [List.concat_eq_append]
  have hl:(m ++ [c]).length=m.length+1:=by simp
  rw [List.concat_eq_append] at hs
  have h1:((([10]:Yy).length:Nat):Int)<=(((m ++ [c]).length:Nat):Int):=by rw [hl];simp;omega
  have w1:IntKind.wrap .i64 ((((m ++ [c]).length:Nat):Int) - ((([10]:Yy).length:Nat):Int))=((m.length:Nat):Int):=by
   rw [hl,show (((m.length+1:Nat):Int) - ((([10]:Yy).length:Nat):Int))=((m.length:Nat):Int) from by simp];exact qah (by omega)
  have s1:q0w (m ++ [c]) ((m.length:Nat):Int) (((m ++ [c]).length:Nat):Int)=some [c]:=by rw [sub_le (by rw [hl];omega) (Nat.le_refl _),hl];simp
  have s2:q0w (m ++ [c]) (0:Int) ((m.length:Nat):Int)=some m:=by rw [sub_zero (by rw [hl];omega)];simp
  simp only [h1,decide_true,cond_true,q00,w1,s1,s2,Option.bind_some]
  by_cases hc:c=10
  ·subst hc;simp
  ·simp [hc]
theorem j19 (n:Nat) (s:Yy) (hs:s.length<=1000000):qag n s=some (q03 s):=by
 unfold qag q03
 by_cases h:s = []
 ·simp [h]
 ·have h2:(if q4n s=true then s.dropLast else s).length<=s.length:=by split<;>simp
  rw [qvx n s hs]
  simp only [h,decide_false,cond_false,Option.bind_some,q8j,if_false]
  rw [if_pos (by omega),Option.bind_some]
theorem q2j (n:Nat) (s:Yy) (c:UInt8) (hs:s.length<=1000000) : ∀(m i fr:Nat) (out:List Yy),i<=s.length->s.length - i+1<m->fr<=i->out.length<=i ->
  q1c n m s ((c.toNat:Nat):Int) (fr:Int) (i:Int) out=some (((),()),((),(out++spl c ((s.drop fr).take (i - fr)) (s.drop i),())))
 | 0,i,fr,_,_,h,_,_=>absurd h (Nat.not_lt_zero _)
 | m+1,i,fr,out,hi,h,hf,ho=>by
  rw [q1n]
  unfold q2o
  have c0:((i:Nat):Int)<=((s.length:Nat):Int):=by omega
  have w1:=q05 (show i<4611686018427387904 by omega)
  have s1:q0w s ((fr:Nat):Int) ((i:Nat):Int)=some ((s.drop fr).take (i - fr)):=sub_le hf hi
  have a1:q1t 16 out [(s.drop fr).take (i - fr)]=some (out ++ [(s.drop fr).take (i - fr)]):=q1s (by simp;omega)
  by_cases c1:i=s.length
  ·have c1':((i:Nat):Int)=((s.length:Nat):Int):=by omega
   have hd:s.drop i = []:=List.drop_eq_nil_of_le (by omega)
   simp only [c0,c1',decide_true,cond_true]
   rw [<-c1',s1,Option.bind_some,a1,Option.bind_some,hd]
   simp only [q00,w1]
   cases m with
   | zero=>omega
   | succ m =>
    rw [q1n]
    unfold q2o
    have c2 : ¬ ((i+1:Nat):Int)<=((s.length:Nat):Int):=by omega
    simp only [c2,Int.le_refl,decide_true,decide_false,cond_true,cond_false]
    rfl
  ·have c1' : ¬ ((i:Nat):Int)=((s.length:Nat):Int):=by omega
   have hi':i<s.length:=by omega
   have hd:s.drop i=s[i]::s.drop (i+1):=List.drop_eq_getElem_cons hi'
   simp only [c0,c1',decide_true,decide_false,cond_true,cond_false,q1h hi',Option.bind_some,q00,w1,s1,a1]
   have hc:decide (((s[i].toNat:Nat):Int)=((c.toNat:Nat):Int))=decide (s[i]=c):=by
    apply decide_eq_decide.2
    constructor
    ·intro hh;exact UInt8.toNat_inj.1 (by omega)
    ·intro hh;rw [hh]
   rw [hc,hd,spl]
   by_cases c2:s[i]=c
   ·simp only [c2,decide_true,cond_true,if_true]
    rw [q2j n s c hs m (i+1) (i+1) (out ++ [(s.drop fr).take (i - fr)]) (by omega) (by omega) (Nat.le_refl _) (by simp;omega)]
    simp
   ·simp only [c2,decide_false,cond_false,if_false]
    rw [q2j n s c hs m (i+1) fr out (by omega) (by omega) (by omega) (by omega)]
    have e1:(s.drop fr).take (i+1 - fr)=(s.drop fr).take (i - fr) ++ [s[i]]:=by
     rw [show i+1 - fr=(i - fr)+1 from by omega,List.take_add_one,List.getElem?_drop,show fr+(i - fr)=i from by omega,List.getElem?_eq_getElem hi']
     rfl
    rw [e1]
theorem q36 (n:Nat) (s:Yy) (c:UInt8) (hs:s.length<=1000000) (hn:s.length+1<n):q0d n s ((c.toNat:Nat):Int)=some (spl c [] s):=by
 unfold q0d
 have h:=q2j n s c hs n 0 0 [] (Nat.zero_le _) (by omega) (Nat.le_refl _) (Nat.zero_le _)
 rw [show ((0:Nat):Int)=(0:Int) from rfl] at h
 rw [h]
 simp
theorem jhp (n:Nat) (s:Yy) (hs:s.length<=100000) (hn:s.length+1<n):qhg n s=some (q03 s):=by
 unfold qhg
 have h5:=q36 n s 10 (by omega) hn
 rw [show (((10:UInt8).toNat:Nat):Int)=(10:Int) from rfl] at h5
 rw [h5,Option.bind_some]
 obtain ⟨t,x,h1,h2⟩:=qrj 10 s []
 have hl:=(q45 10 s []).2
 rw [h1] at hl ⊢
 have hl2:(t ++ [x]).length=t.length+1:=by simp
 have w1:IntKind.wrap .i64 ((((t ++ [x]).length:Nat):Int) - 1)=((t.length:Nat):Int):=by
  rw [hl2,show (((t.length+1:Nat):Int) - 1)=((t.length:Nat):Int) from by omega];exact qah (by omega)
 have g:t.length<(t ++ [x]).length:=by omega
 have ge:(t ++ [x])[t.length]'g=x:=by simp
 have s1:q0w (t ++ [x]) (0:Int) ((t.length:Nat):Int)=some t:=by rw [sub_zero (by omega)];simp
 simp only [q00,w1,q0l g,ge,Option.bind_some,s1]
 unfold q03
 by_cases hx:x = []
 ·simp only [hx,decide_true,cond_true]
  rcases h2.1 hx with ⟨_,rfl⟩|⟨m,rfl⟩
  ·simp [spl] at h1
   have:t = []:=by
    cases t with
    | nil=>rfl
    | cons a t=>simp at h1
   rw [this];rfl
  ·rw [if_neg (by simp)]
   have he:q4n (m ++ [10])=true:=by simp [q4n]
   rw [if_pos he,List.dropLast_concat]
   rw [qwd,hx] at h1
   exact congrArg some (List.append_cancel_right h1).symm
 ·simp only [hx,decide_false,cond_false]
  have hs0:s ≠ []:=fun e=>hx (h2.2 (Or.inl ⟨rfl,e⟩))
  have he:q4n s=false:=by
   cases hh:q4n s with
   | false=>rfl
   | true =>
    rcases List.eq_nil_or_concat s with rfl|⟨m,c,rfl⟩
    ·exact absurd rfl hs0
    ·rw [List.concat_eq_append] at hh
     simp [q4n] at hh
     exact absurd (h2.2 (Or.inr ⟨m,by rw [hh,List.concat_eq_append]⟩)) hx
  rw [if_neg hs0,he]
  simp only [Bool.false_eq_true,if_false]
  rw [h1]
theorem q5o (s:Yy):(q03 s).length<=s.length+1/\∀x∈q03 s,x.length<=s.length:=by
 unfold q03
 split
 ·exact ⟨by simp,fun x h=>by cases h⟩
 ·have h2:(if q4n s=true then s.dropLast else s).length<=s.length:=by split<;>simp
  refine ⟨by have:=(q45 10 (if q4n s=true then s.dropLast else s) []).2;omega,fun x hx=>?_⟩
  have:=q4l 10 _ _ x hx
  simp at this
  omega
def q2w:List Yy->Nat->List Ln->List Ln×Int×Int
 | [],i,out=>(out,(i:Int),0)
 | x::xs,i,out=>if x.all okc=true then q2w xs (i+1) (out ++ [qc2 x]) else ([],(i:Int),9)
theorem qi8 (n:Nat) (ls:List Yy) (hl:ls.length<=1000000) (hx : ∀x∈ls,x.length<=1000000/\x.length<n) : ∀(m j:Nat) (out:List Ln),j<=ls.length->ls.length - j<m->out.length=j ->
  (q62 n m ls ((ls.length:Nat):Int) (j:Int) out).bind (fun o6=>Sum.elim (fun q7=>some (([]:List Ln),(q7.1.2.1,q7.1.2.2.1))) (fun q8=>some (q8.2.2.1,(((List.length q8.2.2.1:Nat):Int),(0:Int)))) o6)=some (q2w (ls.drop j) j out)
 | 0,j,_,_,h,_=>absurd h (Nat.not_lt_zero _)
 | m+1,j,out,hj,h,ho=>by
  rw [qet]
  unfold ql9
  by_cases c0:j<ls.length
  ·have c0':((j:Nat):Int)<((ls.length:Nat):Int):=by omega
   obtain ⟨x1,x2⟩:=hx ls[j] (List.getElem_mem c0)
   rw [List.drop_eq_getElem_cons c0,q2w]
   simp only [c0',decide_true,cond_true,q0l c0,Option.bind_some,jpf n ls[j] x1 x2,joo]
   by_cases hk:ls[j].all okc=true
   ·have a1:q1t 40 out [qc2 ls[j]]=some (out ++ [qc2 ls[j]]):=q1s (by simp;omega)
    simp only [hk,if_true,decide_true,Bool.not_true,cond_false,a1,Option.bind_some,q00,q05 (show j<4611686018427387904 by omega)]
    exact qi8 n ls hl hx m (j+1) _ (by omega) (by omega) (by simp;omega)
   ·rw [if_neg hk,if_neg hk]
    rfl
  ·have c0' : ¬ ((j:Nat):Int)<((ls.length:Nat):Int):=by omega
   simp only [c0',decide_false,cond_false,Option.bind_some,Sum.elim_inr]
   rw [List.drop_eq_nil_of_le (by omega),q2w,ho]
theorem qln (n:Nat) (ls:List Yy) (hl:ls.length<=1000000) (hx : ∀x∈ls,x.length<=1000000/\x.length<n) : ∀(m j:Nat) (out:List Ln),j<=ls.length->ls.length - j<m->out.length=j ->
  (q61 n m ls (j:Int) out).bind (fun o6=>Sum.elim (fun q7=>some (([]:List Ln),(q7.1.2.1,q7.1.2.2.1))) (fun q8=>some (q8.2.2.1,(((List.length q8.1.2.1:Nat):Int),(0:Int)))) o6)=some (q2w (ls.drop j) j out)
 | 0,j,_,_,h,_=>absurd h (Nat.not_lt_zero _)
 | m+1,j,out,hj,h,ho=>by
  rw [qeo]
  unfold qkj
  by_cases c0:j<ls.length
  ·have c0':((j:Nat):Int)<((ls.length:Nat):Int):=by omega
   obtain ⟨x1,x2⟩:=hx ls[j] (List.getElem_mem c0)
   rw [List.drop_eq_getElem_cons c0,q2w]
   simp only [c0',decide_true,cond_true,q0l c0,Option.bind_some,jou n ls[j] x1 x2,joo]
   by_cases hk:ls[j].all okc=true
   ·have a1:q1t 40 out [qc2 ls[j]]=some (out ++ [qc2 ls[j]]):=q1s (by simp;omega)
    simp only [hk,if_true,decide_true,Bool.not_true,cond_false,a1,Option.bind_some,q00,q05 (show j<4611686018427387904 by omega)]
    exact qln n ls hl hx m (j+1) _ (by omega) (by omega) (by simp;omega)
   ·rw [if_neg hk,if_neg hk]
    rfl
  ·have c0' : ¬ ((j:Nat):Int)<((ls.length:Nat):Int):=by omega
   have hj':ls.length=j:=by omega
   simp only [c0',decide_false,cond_false,Option.bind_some,Sum.elim_inr]
   rw [List.drop_eq_nil_of_le (by omega),q2w,hj']
theorem jhg (n:Nat) (s:Yy) (hs:s.length<=100000) (hn:s.length+1<n):qc8 n s=some (q2w (q03 s) 0 []):=by
 unfold qc8
 obtain ⟨h1,h2⟩:=q5o s
 rw [j19 n s (by omega),Option.bind_some]
 exact qi8 n (q03 s) (by omega) (fun x hx=>by have:=h2 x hx;omega) n 0 [] (Nat.zero_le _) (by omega) rfl
theorem jhu (n:Nat) (s:Yy) (hs:s.length<=100000) (hn:s.length+1<n):qhd n s=some (q2w (q03 s) 0 []):=by
 unfold qhd
 obtain ⟨h1,h2⟩:=q5o s
 rw [jhp n s (by omega) hn,Option.bind_some]
 exact qln n (q03 s) (by omega) (fun x hx=>by have:=h2 x hx;omega) n 0 [] (Nat.zero_le _) (by omega) rfl
theorem j14 : ∀(l:List Yy),(∀x∈l,(10:UInt8) ∉ x)->∀x,(10:UInt8) ∉ x->spl 10 [] (((x::l).map (· ++ [10])).flatten)=(x::l) ++ [[]]
 | [],_,x,hx=>by
  simp only [List.map_cons,List.map_nil,List.flatten_cons,List.flatten_nil,List.append_nil]
  rw [qwd]
  have:=q7m 10 x [] [] hx
  rw [List.append_nil] at this
  rw [this];simp [spl]
 | y::l,h,x,hx=>by
  rw [List.map_cons,List.flatten_cons,List.append_assoc,q7m 10 x [] _ hx]
  rw [List.singleton_append,List.nil_append,spl,if_pos rfl,j14 l (fun z hz=>h z (List.mem_cons_of_mem _ hz)) y (h y List.mem_cons_self)]
  simp
theorem qv5 (l:List Yy) (h : ∀x∈l,(10:UInt8) ∉ x):q03 ((l.map (· ++ [10])).flatten)=l:=by
 unfold q03
 cases l with
 | nil=>rfl
 | cons x l =>
  have h1:=j14 l (fun z hz=>h z (List.mem_cons_of_mem _ hz)) x (h x List.mem_cons_self)
  obtain ⟨m,hm⟩ : ∃ m,((x::l).map (· ++ [10])).flatten=m ++ [10]:=by
   rcases List.eq_nil_or_concat (x::l) with h0|⟨a,b,h0⟩
   ·cases h0
   ·rw [h0,List.concat_eq_append]
    exact ⟨(a.map (· ++ [10])).flatten++b,by simp⟩
  rw [hm] at h1 ⊢
  rw [if_neg (by simp),if_pos (by simp [q4n]),List.dropLast_concat]
  rw [qwd] at h1
  exact List.append_cancel_right h1
end Go.Proofs.YtapfankgdkdkgaaGreatDoor.AM.Lx
namespace Go.Proofs.YtapfankgdkdkgaaGreatDoor.AM
open Go.RowKit
abbrev Za:=((Bool×Unit)×Unit×Unit)⊕(Unit×Unit×Unit)
abbrev Zb:=((Int×Unit)×Unit×Unit)⊕(Unit×Unit×Unit)
def q7j (c:UInt8):Bool:=qhu c||decide (c.toNat=95)||decide (c.toNat=46)
def q8z (s:Yy):Bool:=!decide (s = [])&&(!decide (s = [46])&&(!decide (s = [46,46])&&s.all q7j))
def q3a (s:Yy):Bool:=decide (s.length<=60)&&(spl 47 [] s).all q8z
def q1l (w:Yy):Bool:=decide (w.head? = some 118)&&q29 (w.drop 1)
def anyS (s:Yy):Bool:=(spl 47 [] s).any q1l
def q6q (c:UInt8):Yy->Int
 | []=>-1
 | b::r=>if b=c then (r.length:Int) else q6q c r
def q4j (c:UInt8) (s:Yy):Int:=q6q c s.reverse
theorem j23 (c:UInt8) : ∀l,-1<=q6q c l/\q6q c l<(l.length:Int)
 | []=>by simp [q6q]
 | b::r=>by
  have:=j23 c r
  rw [q6q];split
  ·simp;omega
  ·simp;omega
theorem qqq (c:UInt8) (s:Yy) : -1<=q4j c s/\q4j c s<(s.length:Int):=by
 have:=j23 c s.reverse;unfold q4j;simpa using this
theorem qo4 (c:UInt8) : ∀l,c ∉ l->q6q c l = -1
 | [],_=>rfl
 | b::r,h=>by
  have h1:b≠c:=fun e=>h (by simp [e])
  rw [q6q,if_neg h1,qo4 c r (fun e=>h (by simp [e]))]
theorem qse (c:UInt8) : ∀(y x:Yy),c ∉ y->q6q c (y++c::x)=(x.length:Int)
 | [],x,_=>by simp [q6q]
 | b::y,x,h=>by
  have h1:b≠c:=fun e=>h (by simp [e])
  rw [List.cons_append,q6q,if_neg h1,qse c y x (fun e=>h (by simp [e]))]
theorem qnd {c:UInt8} {s:Yy} (h:c ∉ s):q4j c s = -1:=qo4 c _ (by simpa using h)
theorem qsa {c:UInt8} {x y:Yy} (h:c ∉ y):q4j c (x++c::y)=(x.length:Int):=by
 have:=qse c y.reverse x.reverse (by simpa using h)
 unfold q4j
 simpa using this
def q2i (s:Yy):Yy:=s.take (q4j 47 s).toNat
def q2e (s:Yy):Yy:=s.drop (q4j 47 s+1).toNat
theorem j1p (c:UInt8) : ∀s:Yy,c ∉ s \/ ∃ x y,s=x++c::y/\c ∉ y
 | []=>Or.inl (by simp)
 | b::s=>by
  rcases j1p c s with h|⟨x,y,rfl,h⟩
  ·by_cases hb:b=c
   ·subst hb;exact Or.inr ⟨[],s,rfl,h⟩
   ·exact Or.inl (by simp [h,Ne.symm hb])
  ·exact Or.inr ⟨b::x,y,rfl,h⟩
theorem qv3 {s:Yy} (h:47 ∉ s):q2i s = []/\q2e s=s:=by
 unfold q2i q2e;rw [qnd h];exact ⟨rfl,rfl⟩
theorem j03 {x y:Yy} (h:47 ∉ y):q2i (x++47::y)=x/\q2e (x++47::y)=y:=by
 unfold q2i q2e;rw [qsa h]
 constructor
 ·simp
 ·rw [show (((x.length:Nat):Int)+1).toNat=x.length+1 from by omega];simp
theorem qzv (c:UInt8) : ∀(x cur y:Yy),spl c cur (x++c::y)=spl c cur x++spl c [] y
 | [],cur,y=>by simp [spl]
 | b::x,cur,y=>by
  rw [List.cons_append,spl,spl]
  split
  ·rw [qzv c x];rfl
  ·rw [qzv c x]
theorem j66 (s:Yy):(47 ∉ s/\q2i s = []/\q2e s=s/\spl 47 [] s = [s])\/(s=q2i s++47::q2e s/\47 ∉ q2e s/\spl 47 [] s=spl 47 [] (q2i s) ++ [q2e s]):=by
 rcases j1p 47 s with h|⟨x,y,rfl,h⟩
 ·exact Or.inl ⟨h,(qv3 h).1,(qv3 h).2,q6x 47 s h⟩
 ·refine Or.inr ?_
  rw [(j03 h).1,(j03 h).2]
  exact ⟨rfl,h,by rw [qzv,q6x 47 y h]⟩
abbrev j6b:Yy:=[48,49,50,51,52,53,54,55,56,57]
theorem jg4 (c:UInt8):j6b.contains c=q0t c:=by
 have h : ∀k:Fin 256,j6b.contains (UInt8.ofNat k.val)=q0t (UInt8.ofNat k.val):=by decide +kernel
 have h1:=h ⟨c.toNat,c.toNat_lt⟩
 simpa using h1
theorem dropWhile_nil (p:UInt8->Bool) : ∀l:Yy,l.dropWhile p = []↔l.all p=true
 | []=>by simp
 | b::l=>by
  rw [List.dropWhile_cons]
  cases h:p b with
  | true=>simp [h,dropWhile_nil p l]
  | false=>simp [h]
theorem qdp {p:UInt8->Bool} {c:UInt8} : ∀{l:Yy},c∈l->p c=false->c∈l.dropWhile p
 | b::l,h,hp=>by
  rw [List.dropWhile_cons]
  rcases List.mem_cons.1 h with rfl|h
  ·simp [hp]
  ·cases hb:p b with
   | true=>simpa using qdp h hp
   | false=>simp [h]
theorem jhi (s:Yy):decide (Lib.trimS s j6b = [])=s.all q0t:=by
 have he:(fun c=>j6b.contains c)=q0t:=funext jg4
 unfold Lib.trimS Lib.trimRightS Lib.trimLeftS
 rw [he]
 cases h:s.all q0t with
 | true =>
  have h2:s.reverse.all q0t=true:=by rw [List.all_reverse];exact h
  rw [(dropWhile_nil q0t s.reverse).2 h2];simp
 | false =>
  rw [decide_eq_false_iff_not,dropWhile_nil]
  intro hc
  have h3 : ∃ c,c∈s/\q0t c=false:=by
   have:=List.all_eq_false.1 h
   obtain ⟨c,hc,hn⟩:=this
   exact ⟨c,hc,by simpa using hn⟩
  obtain ⟨c,hm,hn⟩:=h3
  have h4:c∈(s.reverse.dropWhile q0t).reverse:=by simpa using qdp (l:=s.reverse) (by simpa using hm) hn
  have:=List.all_eq_true.1 hc c h4
  rw [hn] at this;cases this
def numOf (s:Yy):Int:=match Lib.atoiAll s with
 | .ok v=>v
 | .range=>Lib.atoiSat s
 | _=>0
def qml (s:Yy):Bool:=match Lib.atoiAll s with
 | .ok v=>decide (2<=v)&&(decide (v<=999999999)&&decide (s=Lib.itoa v))
 | _=>false
theorem jd3 {n:Int} (h0:2<=n) (h1:n<=999999999):qml (Lib.itoa n)=true/\numOf (Lib.itoa n)=n:=by
 unfold qml numOf;rw [qdl (by omega) h1];simp [h0,h1]
theorem qus {s:Yy} (h:qml s=true):2<=numOf s/\numOf s<=999999999/\s=Lib.itoa (numOf s):=by
 unfold qml at h;unfold numOf
 cases e:Lib.atoiAll s with
 | ok v=>rw [e] at h;simpa using h
 | range=>rw [e] at h;cases h
 | «syntax»=>rw [e] at h;cases h
def okS (p:Yy):Bool:=q3a p&&(!anyS (q2i p)&&(!q1l (q2e p)||(qml ((q2e p).drop 1) && !decide (q2i p = []))))
def q9d (p:Yy):Yy×(Int×Bool):=if okS p then (if q1l (q2e p) then (q2i p,(numOf ((q2e p).drop 1),true)) else (p,(0,true))) else ([],(0,false))
theorem qao {s:Yy} (h:q3a s=true):s.length<=60/\(spl 47 [] s).all q8z=true:=by
 unfold q3a at h;simpa using h
theorem jkk {s:Yy} (h:q3a s=true):s ≠ []:=by
 rintro rfl;exact absurd h (by decide)
theorem qrn {p:Yy} (h:okS p=true):q3a p=true/\anyS (q2i p)=false/\(q1l (q2e p)=true->qml ((q2e p).drop 1)=true/\q2i p ≠ []):=by
 unfold okS at h
 simp only [Bool.and_eq_true,Bool.or_eq_true,Bool.not_eq_true',decide_eq_false_iff_not] at h
 refine ⟨h.1,h.2.1,fun ht=>?_⟩
 rcases h.2.2 with h3|h3
 ·rw [ht] at h3;cases h3
 ·exact h3
end Go.Proofs.YtapfankgdkdkgaaGreatDoor.AM
namespace Go.Proofs
open Go.RowKit Go.Shelf Go.Lib
shelf_lay Lays.n160 Nm 160 at Tryz as Tryz.laysTrim
namespace YtapfankgdkdkgaaGreatDoor.AM
def qi6 (s cs:List UInt8):Option (List UInt8):=if cs=j6b/\s.length<=1000000 then some (Lib.trimS s j6b) else none
def jee:FC:={ f:=166,args:=[qn1,qn1],res:=qn1,F:=fun p=>qi6 p.1 p.2 }
theorem jhe:q06 Inv Tryz.prog jee:=fun G hG=>⟨⟨by kernel_rfl,fun a r h=>by
 obtain ⟨s,cs⟩:=a
 have h':qi6 s cs=some r:=h
 unfold qi6 at h'
 split at h'
 case isFalse=>cases h'
 rename_i hc
 obtain ⟨rfl,hl⟩:=hc
 have hr:Lib.trimS s j6b=r:=Option.some.inj h'
 intro Pc w vs hg hlt hv
 obtain ⟨l⟩:=vs
 match l,hv with
 | [x,y],⟨h1,h2,_⟩ =>
  obtain rfl:x = .string (ba s):=q0a h1
  obtain rfl:y = .string (ba j6b):=q0a h2
  have e1:(ba s).data.toList=s:=by simp [ba]
  have e2:(ba j6b).data.toList=j6b:=by simp [ba]
  have hh:=Any.strings_Trim_laid Tryz.laysTrim (by kernel_rfl) (ba s) (ba j6b) w (by rw [q30];omega) (by rw [q30];decide) (by rw [e2];exact ascii_of_all (by decide))
  rw [e1,e2,hr] at hh
  refine hh.mono ?_
  rintro e w' ⟨rfl,hb⟩
  exact q47 rfl hb (q07 (.string (ba r)))⟩,rfl⟩
end YtapfankgdkdkgaaGreatDoor.AM
end Go.Proofs
namespace Go.Proofs.YtapfankgdkdkgaaGreatDoor.AM
open Go.RowKit
@[reducible] def jay:SSt:=⟨[(0,.one (.c (.d .str))),(1,.one (.c (.d (.int .u8)))),(5,.one (.c (.d (.int .i64))))],[],[]⟩
@[reducible] def qyf:List (Exit×SSt):=[(.ret,⟨[(4,.one (.c (.d (.int .i64))))],[],[]⟩),(.exit 0,⟨[],[],[]⟩)]
def qh1 (n:Nat) (rec:(Yy)->Int->Int->Option Zb) (a1:Yy) (a2:Int) (a3:Int):Option Zb :=
 (bif decide (0<=a3) then (sAt a1 a3).bind fun c2=>(bif decide (c2=a2) then some (Sum.inl ((a3,()),((),()))) else q00 (IntKind.wrap .i64 (a3 - (1:Int))) fun n3=>rec a1 a2 n3) else some (Sum.inr (((),((),())))))
def j0l (n:Nat):Stp jay qyf:=fun rec p=>qh1 n (fun a1 a2 a3=>rec ((a1,(a2,(a3,()))),((),()))) p.1.1 p.1.2.1 p.1.2.2.1
def q85 (n m:Nat) (a1:Yy) (a2:Int) (a3:Int):Option Zb:=q0u (j0l n) m ((a1,(a2,(a3,()))),((),()))
theorem q8u (n m:Nat) (a1 a2 a3):q85 n (m+1) a1 a2 a3=qh1 n (fun a1 a2 a3=>q85 n m a1 a2 a3) a1 a2 a3:=rfl
def qj7 (n:Nat) (a1:Yy) (a2:Int):Option Int :=
 q00 (IntKind.wrap .i64 ((a1.length:Int) - (1:Int))) fun (n1:Int)=>(q85 n n a1 a2 n1).bind fun o4=>Sum.elim (fun (q5:(Int×Unit)×Unit×Unit)=>some q5.1.1) (fun (q6:(Unit)×Unit×Unit)=>some (-1:Int)) o4
def jeh (n:Nat):FC:={ f:=80,args:=[.one (.c (.d .str)),.one (.c (.d (.int .u8)))],res:=.one (.c (.d (.int .i64))),F:=fun p=>qj7 n p.1 p.2 }
theorem j18 (n:Nat):q06 Inv Tryz.prog (jeh n):=mkF Tryz.func80 [] [q5g j0l n] (cn) (by kernel_rfl) ⟨ls (by intro rec p;kernel_rfl),trivial⟩ (by intro a;kernel_rfl)
def qqm (n:Nat) (a1:Yy) (a2:Int):Option Int :=
 (qj7 n a1 a2).bind fun r1=>some r1
def jff (n:Nat):FC:={ f:=164,args:=[.one (.c (.d .str)),.one (.c (.d (.int .u8)))],res:=.one (.c (.d (.int .i64))),F:=fun p=>qqm n p.1 p.2 }
theorem j2l (n:Nat):q06 Inv Tryz.prog (jff n):=mkF Tryz.func164 [] [] (cc (j18 n) <| cn) (by kernel_rfl) trivial (by intro a;kernel_rfl)
def q93 (n:Nat) (a1:Yy) (a2:Yy):Option (Yy×Bool) :=
 (q1e n a1 a2).bind fun r1=>(bif !r1 then some (a1,false) else (q0w a1 (a2.length:Int) (a1.length:Int)).bind fun s2=>some (s2,true))
def qpx (n:Nat):FC:={ f:=190,args:=[.one (.c (.d .str)),.one (.c (.d .str))],res:=.tup [.c (.d .str),.c (.d .bool)],F:=fun p=>q93 n p.1 p.2 }
theorem qq2 (n:Nat):q06 Inv Tryz.prog (qpx n):=mkF Tryz.func190 [] [] (cc (q3v n) <| cn) (by kernel_rfl) trivial (by intro a;kernel_rfl)
def q8b (n:Nat) (a1:Yy) (a2:Yy):Option (Yy×Bool) :=
 (q93 n a1 a2).bind fun r1=>some r1
def qve (n:Nat):FC:={ f:=165,args:=[.one (.c (.d .str)),.one (.c (.d .str))],res:=.tup [.c (.d .str),.c (.d .bool)],F:=fun p=>q8b n p.1 p.2 }
theorem qs7 (n:Nat):q06 Inv Tryz.prog (qve n):=mkF Tryz.func165 [] [] (cc (qq2 n) <| cn) (by kernel_rfl) trivial (by intro a;kernel_rfl)
def q0o (n:Nat) (a1:Yy) (a2:Yy):Option Bool :=
 (q1e n a1 a2).bind fun r1=>some r1
def q9s (n:Nat):FC:={ f:=152,args:=[.one (.c (.d .str)),.one (.c (.d .str))],res:=.one (.c (.d .bool)),F:=fun p=>q0o n p.1 p.2 }
theorem qfy (n:Nat):q06 Inv Tryz.prog (q9s n):=mkF Tryz.func152 [] [] (cc (q3v n) <| cn) (by kernel_rfl) trivial (by intro a;kernel_rfl)
def qdr (n:Nat) (a1:Yy):Option Bool :=
 (q8b n a1 ([118]:Yy)).bind fun r1=>(bif r1.2 then (bif !decide (r1.1=([]:Yy)) then (qi6 r1.1 ([48,49,50,51,52,53,54,55,56,57]:Yy)).bind fun (r2:Yy)=>some (decide (r2=([]:Yy))) else some false) else some false)
def jbj (n:Nat):FC:={ f:=134,args:=[.one (.c (.d .str))],res:=.one (.c (.d .bool)),F:=fun p=>qdr n p }
theorem qt8 (n:Nat):q06 Inv Tryz.prog (jbj n):=mkF Tryz.func134 [] [] (cc (qs7 n) <| cc (jhe) <| cn) (by kernel_rfl) trivial (by intro a;kernel_rfl)
end Go.Proofs.YtapfankgdkdkgaaGreatDoor.AM
namespace Go.Proofs.YtapfankgdkdkgaaGreatDoor.AM
open Go.RowKit
def qqe (n:Nat) (a1:Int):Option Bool :=
 (bif decide (97<=a1) then (bif decide (a1<=122) then (bif decide (a1<=122) then some true else (bif decide (a1=45) then some true else (bif decide (a1=95) then some true else some (decide (a1=46))))) else (bif decide (65<=a1) then (bif decide (a1<=90) then (bif decide (a1<=90) then some true else (bif decide (a1=45) then some true else (bif decide (a1=95) then some true else some (decide (a1=46))))) else (bif decide (48<=a1) then (bif decide (a1<=57) then some true else (bif decide (a1=45) then some true else (bif decide (a1=95) then some true else some (decide (a1=46))))) else (bif decide (a1=45) then some true else (bif decide (a1=95) then some true else some (decide (a1=46)))))) else (bif decide (48<=a1) then (bif decide (a1<=57) then some true else (bif decide (a1=45) then some true else (bif decide (a1=95) then some true else some (decide (a1=46))))) else (bif decide (a1=45) then some true else (bif decide (a1=95) then some true else some (decide (a1=46))))))) else (bif decide (65<=a1) then (bif decide (a1<=90) then (bif decide (a1<=90) then some true else (bif decide (a1=45) then some true else (bif decide (a1=95) then some true else some (decide (a1=46))))) else (bif decide (48<=a1) then (bif decide (a1<=57) then some true else (bif decide (a1=45) then some true else (bif decide (a1=95) then some true else some (decide (a1=46))))) else (bif decide (a1=45) then some true else (bif decide (a1=95) then some true else some (decide (a1=46)))))) else (bif decide (48<=a1) then (bif decide (a1<=57) then some true else (bif decide (a1=45) then some true else (bif decide (a1=95) then some true else some (decide (a1=46))))) else (bif decide (a1=45) then some true else (bif decide (a1=95) then some true else some (decide (a1=46)))))))
def jft (n:Nat):FC:={ f:=182,args:=[.one (.c (.d (.int .u8)))],res:=.one (.c (.d .bool)),F:=fun p=>qqe n p }
theorem jhb (n:Nat):q06 Inv Tryz.prog (jft n):=mkF Tryz.func182 [] [] (cn) (by kernel_rfl) trivial (by intro a;kernel_rfl)
@[reducible] def j7k:SSt:=⟨[(0,.one (.c (.d .str))),(15,.one (.c (.d (.int .i64)))),(16,.one (.c (.d (.int .i64))))],[],[]⟩
@[reducible] def qy0:List (Exit×SSt):=[(.ret,⟨[(2,.one (.c (.d .bool)))],[],[]⟩),(.exit 0,⟨[],[],[]⟩)]
def qrz (n:Nat) (rec:(Yy)->Int->Int->Option Za) (a1:Yy) (a2:Int) (a3:Int):Option Za :=
 (bif decide (a3<a2) then (sAt a1 a3).bind fun c1=>(qqe n c1).bind fun r2=>(bif !r2 then some (Sum.inl ((false,()),((),()))) else q00 (IntKind.wrap .i64 (a3+1)) fun n3=>rec a1 a2 n3) else some (Sum.inr (((),((),())))))
def j2z (n:Nat):Stp j7k qy0:=fun rec p=>qrz n (fun a1 a2 a3=>rec ((a1,(a2,(a3,()))),((),()))) p.1.1 p.1.2.1 p.1.2.2.1
def q7e (n m:Nat) (a1:Yy) (a2:Int) (a3:Int):Option Za:=q0u (j2z n) m ((a1,(a2,(a3,()))),((),()))
theorem qgt (n m:Nat) (a1 a2 a3):q7e n (m+1) a1 a2 a3=qrz n (fun a1 a2 a3=>q7e n m a1 a2 a3) a1 a2 a3:=rfl
def qzc (n:Nat) (a1:Yy):Option Bool :=
 (bif decide (a1=([]:Yy)) then some false else (bif decide (a1=([46]:Yy)) then some false else (bif decide (a1=([46,46]:Yy)) then some false else (q7e n n a1 (a1.length:Int) (0:Int)).bind fun o4=>Sum.elim (fun (q5:(Bool×Unit)×Unit×Unit)=>some q5.1.1) (fun (q6:(Unit)×Unit×Unit)=>some true) o4)))
def jf0 (n:Nat):FC:={ f:=154,args:=[.one (.c (.d .str))],res:=.one (.c (.d .bool)),F:=fun p=>qzc n p }
theorem jha (n:Nat):q06 Inv Tryz.prog (jf0 n):=mkF Tryz.func154 [] [q5g j2z n] (cc (jhb n) <| cn) (by kernel_rfl) ⟨ls (by intro rec p;kernel_rfl),trivial⟩ (by intro a;kernel_rfl)
theorem j3k (n:Nat) (c:UInt8):qqe n ((c.toNat:Nat):Int)=some (q7j c):=by
 have h : ∀k:Fin 256,qqe 0 ((k.val:Nat):Int)=some (q7j (UInt8.ofNat k.val)):=by decide +kernel
 have h1:=h ⟨c.toNat,c.toNat_lt⟩
 have e:UInt8.ofNat c.toNat=c:=by simp
 rw [e] at h1
 exact h1
theorem qn0 (n:Nat) (s:Yy) (hL:s.length<=1000000) : ∀m j:Nat,j<=s.length->s.length - j<m->q7e n m s ((s.length:Nat):Int) (j:Int)=some (if (s.drop j).all q7j=true then Sum.inr ((),((),())) else Sum.inl ((false,()),((),())))
 | 0,j,_,h=>absurd h (Nat.not_lt_zero _)
 | m+1,j,hj,h=>by
  rw [qgt]
  unfold qrz
  by_cases c0:j<s.length
  ·have c0':((j:Nat):Int)<((s.length:Nat):Int):=by omega
   have ih:=qn0 n s hL m (j+1) (by omega) (by omega)
   have hd:s.drop j=s[j]::s.drop (j+1):=(List.drop_eq_getElem_cons c0)
   simp only [c0',decide_true,cond_true,q1h c0,Option.bind_some,j3k,q00,q05 (show j<4611686018427387904 by omega),ih,hd,List.all_cons]
   cases q7j s[j]<;>simp
  ·have c0' : ¬ ((j:Nat):Int)<((s.length:Nat):Int):=by omega
   have:s.drop j = []:=List.drop_eq_nil_of_le (by omega)
   simp [c0',this]
theorem j6f (n:Nat) (s:Yy) (hL:s.length<=1000000) (hn:s.length<n):qzc n s=some (q8z s):=by
 unfold qzc q8z
 have:=qn0 n s hL n 0 (Nat.zero_le _) (by omega)
 rw [show ((0:Nat):Int)=(0:Int) from rfl] at this
 rw [this,List.drop_zero]
 cases decide (s = [])<;>cases decide (s = [46])<;>cases decide (s = [46,46])<;>cases s.all q7j<;>rfl
theorem j1a {a:Int} (h0:0<=a):Lib.itoa a=if a<10 then [UInt8.ofNat (48+a.toNat)] else Lib.itoa (a / 10) ++ [UInt8.ofNat (48+(a % 10).toNat)]:=by
 rw [q0z h0,Lib.decDigits]
 by_cases h:a<10
 ·rw [if_pos h,dif_pos (by omega)]
 ·rw [if_neg h,dif_neg (by omega),q0z (by omega)]
  rw [show (a / 10).toNat=a.toNat / 10 from by omega,show (a % 10).toNat=a.toNat % 10 from by omega]
theorem q7l {n:Int} (h:0<=n/\n<=999999999):(Lib.itoa n).length<=9:=by
 rw [q0z h.1];exact qby 8 n.toNat (by omega)
theorem qva (s:Yy):(q1k s).length<=s.length:=by
 unfold q1k;split
 ·rw [List.length_drop];omega
 ·exact Nat.le_refl _
theorem q2d {s t:Yy} (h:s.length+t.length<=9223372036854775807):q5u s t=some (s++t):=if_pos h
theorem qbj (n m:Nat) (a1 a2 a3 i i' a5 a6 a7 x:Int) (a8 a9:Yy) (hx:q0f ([a1,a2,a3]:List Int) i=some x) (hi:i<3) (hw:IntKind.wrap .i64 (i+1)=i') :
  q4g n (m+1) a1 a2 a3 i a5 a6 a7 a8 a9=if j0b x=true then q4g n m a1 a2 a3 i' a5 a6 a7 a8 a9 else some (Sum.inl ((false,()),((),()))):=by
 rw [q7b]
 unfold qdm j0b
 simp only [hi,decide_true,cond_true,hx,Option.bind_some,q00,hw]
 by_cases h1:x<0
 ·have : ¬ (0:Int)<=x:=by omega
  simp [h1,this]
 ·have h1':(0:Int)<=x:=by omega
  by_cases h2:999999999<x
  ·have : ¬ x<=999999999:=by omega
   simp [h1,h2,this]
  ·have:x<=999999999:=by omega
   simp [h1,h2,h1',this]
theorem q44 (n:Nat) (v:VD) (hn:4<=n):q55 n v=some (q0r v):=by
 obtain ⟨k,rfl⟩ : ∃ k,n=k+1+1+1+1:=⟨n - 4,by omega⟩
 obtain ⟨a,b,c,p,q⟩:=v
 unfold q55
 rw [qbj _ _ a b c 0 1 _ _ _ a _ _ rfl (by decide) rfl,qbj _ _ a b c 1 2 _ _ _ b _ _ rfl (by decide) rfl,qbj _ _ a b c 2 3 _ _ _ c _ _ rfl (by decide) rfl,q7b]
 unfold qdm q0r qj4 qer
 dsimp only
 cases j0b a with
 | false=>rfl
 | true=>cases j0b b with
  | false=>rfl
  | true=>cases j0b c with
   | false=>rfl
   | true =>
    simp only [if_true,Bool.true_and,show ¬ (3:Int)<3 from by decide,decide_false,cond_false,Option.bind_some,Sum.elim_inr]
    cases q57 q43 p<;>cases q57 q26 q<;>rfl
theorem qwn (n:Nat) (s:Yy) (hs:s.length<=1000000):q68 n s [118]=some (q1k s):=by
 unfold q68 q89 q1e q1k
 cases s with
 | nil=>rfl
 | cons b r =>
  have h1:((List.length ([118]:Yy):Nat):Int)<=((List.length (b::r):Nat):Int):=by simp;omega
  have h2:q0w (b::r) (0:Int) ((List.length ([118]:Yy):Nat):Int)=some [b]:=sub_zero (b:=1) (by simp)
  have h3:q0w (b::r) ((List.length ([118]:Yy):Nat):Int) ((List.length (b::r):Nat):Int)=some r:=by
   have:=sub_le (l:=b::r) (a:=1) (b:=(b::r).length) (by simp) (Nat.le_refl _)
   rw [show ((List.length ([118]:Yy):Nat):Int)=((1:Nat):Int) from rfl,this]
   simp
  simp only [h1,decide_true,cond_true,h2,Option.bind_some,List.head?_cons,Option.some.injEq,List.drop_succ_cons,List.drop_zero]
  by_cases hb:b=118
  ·simp only [hb,decide_true,cond_true,if_true] at h3 ⊢
   rw [h3];rfl
  ·have : ¬ [b]=([118]:Yy):=fun h=>hb (by simpa using h)
   simp [this,hb]
theorem qm8 {n:Int} (h:0<=n/\n<=999999999):qks n=some (Lib.itoa n):=if_pos ⟨by omega,by omega⟩
theorem qcx (s:Yy) (j:Nat) (h:j<s.length):(s.take (j+1)).reverse=s[j]::(s.take j).reverse:=by
 rw [List.take_succ_eq_append_getElem h];simp
theorem qn9 (n:Nat) (c:UInt8) (s:Yy) (hL:s.length<=1000000) : ∀m j:Nat,j<=s.length->j<m->q85 n m s ((c.toNat:Nat):Int) ((j:Int) - 1)=some (if q6q c (s.take j).reverse = -1 then Sum.inr ((),((),())) else Sum.inl ((q6q c (s.take j).reverse,()),((),())))
 | 0,j,_,h=>absurd h (Nat.not_lt_zero _)
 | m+1,0,_,_=>by
  rw [q8u]
  unfold qh1
  simp [q6q]
 | m+1,j+1,hj,h=>by
  rw [q8u]
  unfold qh1
  have e1:((j+1:Nat):Int) - 1=((j:Nat):Int):=by omega
  have ih:=qn9 n c s hL m j (by omega) (by omega)
  have w1:IntKind.wrap .i64 (((j:Nat):Int) - 1)=((j:Nat):Int) - 1:=wrap64 (by omega) (by omega)
  have c0:(0:Int)<=((j:Nat):Int):=by omega
  have d1:decide (((s[j].toNat:Nat):Int)=((c.toNat:Nat):Int))=decide (s[j]=c):=decide_eq_decide.2 ⟨fun h=>UInt8.toNat_inj.1 (by omega),fun h=>by rw [h]⟩
  rw [e1]
  simp only [c0,decide_true,cond_true,q1h (show j<s.length by omega),Option.bind_some,d1,q00,w1,ih,qcx s j (by omega),q6q]
  by_cases h0:s[j]=c
  ·have : ¬ (((s.take j).reverse.length:Nat):Int) = -1:=by omega
   have l1:(s.take j).reverse.length=j:=by simp;omega
   simp only [h0,decide_true,cond_true,if_true,this,if_false,l1]
   rw [if_neg (by omega)]
  ·simp [h0]
theorem qn4 (n:Nat) (c:UInt8) (s:Yy) (hL:s.length<=1000000) (hn:s.length<n):qj7 n s ((c.toNat:Nat):Int)=some (q4j c s):=by
 unfold qj7
 have:=qn9 n c s hL n s.length (Nat.le_refl _) hn
 have w1:IntKind.wrap .i64 (((s.length:Nat):Int) - 1)=((s.length:Nat):Int) - 1:=wrap64 (by omega) (by omega)
 simp only [q00,w1,this,List.take_length]
 unfold q4j
 by_cases h:q6q c s.reverse = -1
 ·simp [h]
 ·simp [h]
theorem qnv (n:Nat) (s:Yy) (hL:s.length<=1000000) (hn:s.length<n):qqm n s (47:Int)=some (q4j 47 s):=by
 unfold qqm
 rw [show (47:Int)=(((47:UInt8).toNat:Nat):Int) from rfl,qn4 n 47 s hL hn];rfl
theorem qz7 (n:Nat) (s:Yy) (hs:s.length<=1000000):q8b n s [118]=some (if s.head? = some 118 then (s.drop 1,true) else (s,false)):=by
 unfold q8b q93 q1e
 cases s with
 | nil=>rfl
 | cons b r =>
  have h1:((List.length ([118]:Yy):Nat):Int)<=((List.length (b::r):Nat):Int):=by simp;omega
  have h2:q0w (b::r) (0:Int) ((List.length ([118]:Yy):Nat):Int)=some [b]:=sub_zero (b:=1) (by simp)
  have h3:q0w (b::r) ((List.length ([118]:Yy):Nat):Int) ((List.length (b::r):Nat):Int)=some r:=by
   have:=sub_le (l:=b::r) (a:=1) (b:=(b::r).length) (by simp) (Nat.le_refl _)
   rw [show ((List.length ([118]:Yy):Nat):Int)=((1:Nat):Int) from rfl,this]
   simp
  simp only [h1,decide_true,cond_true,h2,Option.bind_some,List.head?_cons,Option.some.injEq,List.drop_succ_cons,List.drop_zero]
  by_cases hb:b=118
  ·simp only [hb,decide_true,cond_true,if_true,Bool.not_true,cond_false] at h3 ⊢
   rw [h3];rfl
  ·have : ¬ [b]=([118]:Yy):=fun h=>hb (by simpa using h)
   simp [this,hb]
theorem qi5 (n:Nat) (s:Yy) (hs:s.length<=1000000):qdr n s=some (q1l s):=by
 unfold qdr q1l q29
 rw [qz7 n s hs]
 by_cases h:s.head? = some 118
 ·have hl:(s.drop 1).length<=1000000:=by rw [List.length_drop];omega
  have ht:qi6 (s.drop 1) j6b=some (Lib.trimS (s.drop 1) j6b):=if_pos ⟨rfl,hl⟩
  simp only [h,if_true,Option.bind_some,cond_true,ht,jhi,decide_true,Bool.true_and]
  cases decide (s.drop 1 = [])<;>cases (s.drop 1).all q0t<;>rfl
 ·simp [h]
end Go.Proofs.YtapfankgdkdkgaaGreatDoor.AM
