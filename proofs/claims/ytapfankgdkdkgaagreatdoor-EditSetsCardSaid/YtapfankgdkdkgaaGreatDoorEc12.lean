
import Derived.Test.YtapfankgdkdkgaaGreatDoorEc11
import Derived.Test.YtapfankgdkdkgaaGreatDoorEc10
import Derived.Test.YtapfankgdkdkgaaGreatDoorEc8
import Derived.Test.YtapfankgdkdkgaaGreatDoorEc9
import Derived.Lib.SlTrimSet
import Derived.Shelf.Strings.SlTrimAscii
set_option linter.unusedVariables false
set_option linter.unusedSimpArgs false
set_option maxRecDepth 20000
namespace Go.Proofs.YtapfankgdkdkgaaGreatDoor.AM.Lx
open Go.RowKit
def q1b (c:UInt8):Bool:=decide (((c.toNat:Nat):Int)=40)||(decide (((c.toNat:Nat):Int)=41)||(decide (((c.toNat:Nat):Int)=91)||(decide (((c.toNat:Nat):Int)=93)||decide (((c.toNat:Nat):Int)=44))))
def pfx:Yy->Bool
 | a::b::_=>decide (a=47)&&decide (b=47)
 | _=>false
def addL (ws:List Wd) (c:UInt8):List Wd:=match ws.getLast? with
 | some (t,p)=>ws.dropLast ++ [(t ++ [c],p)]
 | none=>ws
def q40:Yy->Nat->Bool->List Wd->List Wd×Nat
 | [],i,_,ws=>(ws,i)
 | c::r,i,op,ws =>
  if q1b c then q40 r (i+1) false (ws ++ [([c],(i:Int))])
  else if isB c then q40 r (i+1) false ws
  else if op then q40 r (i+1) true (addL ws c)
  else if pfx (c::r) then (ws,i)
  else q40 r (i+1) true (ws ++ [([c],(i:Int))])
theorem pfx_t (n:Nat) (s:Yy) (hs:s.length<=1000000):q0m n s [47,47]=some (pfx s):=by
 unfold q0m q1e
 match s with
 | []=>rfl
 | [a]=>simp [pfx]
 | a::b::r =>
  have h:((List.length ([47,47]:Yy):Nat):Int)<=((List.length (a::b::r):Nat):Int):=by simp;omega
  simp only [h,decide_true,cond_true]
  rw [sub_zero (by simp)]
  simp [pfx]
theorem q3q (ws:List Wd) (t:Yy) (p:Int) (c:UInt8):addL (ws ++ [(t,p)]) c=ws ++ [(t ++ [c],p)]:=by
 unfold addL;simp
theorem j8e (n:Nat) (rec:Yy->Bool->Int->Int->List Wd->Option (((Unit×(Int×Unit))×Unit×((List Wd)×Unit))⊕((Yy×(Unit×Unit))×Unit×((List Wd)×Unit)))) (s:Yy) (op:Bool) (L:Int) (i:Nat) (ws:List Wd)
  (hi:i<s.length) (hL:L=((s.length:Nat):Int)) (hs:s.length<=1000000) (hw:ws.length<=i) (ho:op=true->∃ ws0 t p,ws=ws0 ++ [(t,((p:Nat):Int))]/\p<=i/\t=(s.drop p).take (i - p)) :
  qks n rec s op L (i:Int) ws=if q1b s[i] then rec s false L ((i+1:Nat):Int) (ws ++ [([s[i]],(i:Int))])
   else if isB s[i] then rec s false L ((i+1:Nat):Int) ws
   else if op then rec s true L ((i+1:Nat):Int) (addL ws s[i])
   else if pfx (s.drop i) then some (Sum.inl (((),((i:Int),())),((),(ws,()))))
   else rec s true L ((i+1:Nat):Int) (ws ++ [([s[i]],(i:Int))]):=by
 subst hL
 have c0:((i:Nat):Int)<((s.length:Nat):Int):=by omega
 have w1:=q03 (show i<4611686018427387904 by omega)
 have a1:q1s 24 ws [([s[i]],(i:Int))]=some (ws ++ [([s[i]],(i:Int))]):=q1q (by simp;omega)
 have a2:q1s 24 ws [(([]:Yy),(i:Int))]=some (ws ++ [([],(i:Int))]):=q1q (by simp;omega)
 have s1:q1a s ((i:Nat):Int) ((i+1:Nat):Int)=some [s[i]]:=by rw [sub_le (by omega) (by omega),take_one hi]
 have s2:q1a s ((i:Nat):Int) ((s.length:Nat):Int)=some (s.drop i):=by
  rw [sub_le (by omega) (Nat.le_refl _),List.take_of_length_le (by rw [List.length_drop];omega)]
 have hp:=pfx_t n (s.drop i) (by rw [List.length_drop];omega)
 unfold qks
 simp only [c0,decide_true,cond_true,q1g hi,Option.bind_some,q00,w1,s1,s2,a1,a2,hp]
 have eqc : ∀k:Int,decide (((s[i].toNat:Nat):Int)=k)=true\/decide (((s[i].toNat:Nat):Int)=k)=false:=fun k=>by cases decide (((s[i].toNat:Nat):Int)=k)<;>simp
 rcases eqc 40 with h40|h40
 ·simp only [q1b,h40,cond_true,Bool.true_or,Bool.or_true,Bool.false_or,if_true]
 rcases eqc 41 with h41|h41
 ·simp only [q1b,h40,h41,cond_true,cond_false,Bool.true_or,Bool.or_true,Bool.false_or,if_true]
 rcases eqc 91 with h91|h91
 ·simp only [q1b,h40,h41,h91,cond_true,cond_false,Bool.true_or,Bool.or_true,Bool.false_or,if_true]
 rcases eqc 93 with h93|h93
 ·simp only [q1b,h40,h41,h91,h93,cond_true,cond_false,Bool.true_or,Bool.or_true,Bool.false_or,if_true]
 rcases eqc 44 with h44|h44
 ·simp only [q1b,h40,h41,h91,h93,h44,cond_true,cond_false,Bool.true_or,Bool.or_true,Bool.false_or,if_true]
 have hS:q1b s[i]=false:=by simp only [q1b,h40,h41,h91,h93,h44,Bool.or_false]
 rcases eqc 32 with h32|h32
 ·have hB:isB s[i]=true:=by simp only [isB,h32,Bool.true_or]
  simp only [hS,hB,h40,h41,h91,h93,h44,h32,cond_true,cond_false,if_true,Bool.false_eq_true,if_false]
 rcases eqc 9 with h9|h9
 ·have hB:isB s[i]=true:=by simp only [isB,h9,Bool.or_true]
  simp only [hS,hB,h40,h41,h91,h93,h44,h32,h9,cond_true,cond_false,if_true,Bool.false_eq_true,if_false]
 have hB:isB s[i]=false:=by simp only [isB,h32,h9,Bool.or_false]
 simp only [hS,hB,h40,h41,h91,h93,h44,h32,h9,cond_true,cond_false,Bool.false_eq_true,if_false]
 cases op with
 | false =>
  simp only [Bool.not_false,cond_true,Bool.false_eq_true,if_false]
  cases hb:pfx (s.drop i) with
  | true=>simp only [cond_true,if_true]
  | false =>
   have hl:(ws ++ [(([]:Yy),(i:Int))]).length=ws.length+1:=by simp
   have w2:IntKind.wrap .i64 ((((ws ++ [(([]:Yy),(i:Int))]).length:Nat):Int) - 1)=((ws.length:Nat):Int):=by
    rw [hl,show (((ws.length+1:Nat):Int) - 1)=((ws.length:Nat):Int) from by omega];exact qd5 (by omega)
   have g:ws.length<(ws ++ [(([]:Yy),(i:Int))]).length:=by omega
   have ge:(ws ++ [(([]:Yy),(i:Int))])[ws.length]'g=([],(i:Int)):=by simp
   simp only [cond_false,Bool.false_eq_true,if_false,w2,q0k g,Option.bind_some,Int.toNat_natCast,j9z g,ge,s1,j19]
 | true =>
  obtain ⟨ws0,t,p,rfl,hpi,rfl⟩:=ho rfl
  simp only [Bool.not_true,cond_false,if_true]
  generalize ht:(s.drop p).take (i - p)=t
  have hl:(ws0 ++ [(t,(p:Int))]).length=ws0.length+1:=by simp
  have w2:IntKind.wrap .i64 ((((ws0 ++ [(t,(p:Int))]).length:Nat):Int) - 1)=((ws0.length:Nat):Int):=by
   rw [hl,show (((ws0.length+1:Nat):Int) - 1)=((ws0.length:Nat):Int) from by omega];exact qd5 (by simp at hw;omega)
  have g:ws0.length<(ws0 ++ [(t,(p:Int))]).length:=by omega
  have ge:(ws0 ++ [(t,(p:Int))])[ws0.length]'g=(t,(p:Int)):=by simp
  have s3:q1a s ((p:Nat):Int) ((i+1:Nat):Int)=some (t ++ [s[i]]):=by
   rw [sub_le (by omega) (by omega),<-ht,show i+1 - p=(i - p)+1 from by omega,List.take_add_one,List.getElem?_drop,show p+(i - p)=i from by omega,List.getElem?_eq_getElem hi]
   rfl
  simp only [w2,q0k g,Option.bind_some,Int.toNat_natCast,j9z g,ge,s3,j19,q3q]
theorem qt4 (n:Nat) (s:Yy) (hs:s.length<=1000000) : ∀(m i:Nat) (op:Bool) (ws:List Wd),i<=s.length->s.length - i<m->ws.length<=i->(op=true->∃ ws0 t p,ws=ws0 ++ [(t,((p:Nat):Int))]/\p<=i/\t=(s.drop p).take (i - p)) ->
  (q56 n m s op ((s.length:Nat):Int) (i:Int) ws=some (Sum.inl (((),((((q40 (s.drop i) i op ws).2:Nat):Int),())),((),((q40 (s.drop i) i op ws).1,()))))\/((q40 (s.drop i) i op ws).2=s.length/\q56 n m s op ((s.length:Nat):Int) (i:Int) ws=some (Sum.inr ((s,((),())),((),((q40 (s.drop i) i op ws).1,()))))))
 | 0,i,op,ws,_,h,_,_=>absurd h (Nat.not_lt_zero _)
 | m+1,i,op,ws,hi,h,hw,ho=>by
  rw [qju]
  by_cases c0:i<s.length
  ·have ih:=qt4 n s hs m
   rw [j8e n (fun a1 a2 a3 a4 a5=>q56 n m a1 a2 a3 a4 a5) s op _ i ws c0 rfl hs hw ho]
   have hd:s.drop i=s[i]::s.drop (i+1):=List.drop_eq_getElem_cons c0
   have h1 : [s[i]]=(s.drop i).take (i+1 - i):=(take_one c0).symm
   rw [hd,q40,<-hd]
   by_cases cS:q1b s[i]=true
   ·simp only [cS,if_true]
    exact ih (i+1) false _ (by omega) (by omega) (by simp;omega) (fun h=>by cases h)
   ·by_cases cB:isB s[i]=true
    ·simp only [cS,cB,if_true,if_false]
     exact ih (i+1) false _ (by omega) (by omega) (by omega) (fun h=>by cases h)
    ·cases op with
     | true =>
      simp only [cS,cB,if_true,if_false]
      obtain ⟨ws0,t,p,rfl,hpi,ht⟩:=ho rfl
      refine ih (i+1) true _ (by omega) (by omega) (by rw [q3q];simp at hw ⊢;omega) (fun _=>⟨ws0,t ++ [s[i]],p,q3q _ _ _ _,by omega,?_⟩)
      rw [ht,show i+1 - p=(i - p)+1 from by omega,List.take_add_one,List.getElem?_drop,show p+(i - p)=i from by omega,List.getElem?_eq_getElem c0]
      rfl
     | false =>
      by_cases cP:pfx (s.drop i)=true
      ·simp only [cS,cB,cP,Bool.false_eq_true,if_true,if_false]
       exact Or.inl (by first|rfl|trivial)
      ·simp only [cS,cB,cP,Bool.false_eq_true,if_false]
       exact ih (i+1) true _ (by omega) (by omega) (by simp;omega) (fun _=>⟨ws,[s[i]],i,rfl,by omega,h1⟩)
  ·unfold qks
   have c0' : ¬ ((i:Nat):Int)<((s.length:Nat):Int):=by omega
   have hie:i=s.length:=by omega
   have hd:s.drop i = []:=List.drop_eq_nil_of_le (by omega)
   simp only [c0',decide_false,cond_false,hd,q40]
   exact Or.inr ⟨hie,by first|rfl|trivial⟩
theorem cut_P (n:Nat) (s:Yy) (hs:s.length<=1000000) (hn:s.length<n):j2g n s=some ((q40 s 0 false []).1,(((q40 s 0 false []).2:Nat):Int)):=by
 have h:=qt4 n s hs n 0 false [] (Nat.zero_le _) (by omega) (Nat.zero_le _) (fun h=>by cases h)
 rw [List.drop_zero,show ((0:Nat):Int)=(0:Int) from rfl] at h
 unfold j2g
 rcases h with h|⟨h0,h⟩
 ·rw [h];rfl
 ·rw [h,h0];rfl
theorem j93 : ∀(s:Yy) (i:Nat) (op:Bool) (ws:List Wd),i<=(q40 s i op ws).2/\(q40 s i op ws).2<=i+s.length
 | [],i,op,ws=>⟨Nat.le_refl _,Nat.le_refl _⟩
 | c::r,i,op,ws=>by
  have k:=fun op ws=>j93 r (i+1) op ws
  rw [q40,List.length_cons]
  split
  ·have:=k false (ws ++ [([c],(i:Int))]);omega
  ·split
   ·have:=k false ws;omega
   ·split
    ·have:=k true (addL ws c);omega
    ·split
     ·simp
     ·have:=k true (ws ++ [([c],(i:Int))]);omega
theorem q1o (c:UInt8) (r:Yy) (i:Nat) (op:Bool) (ws:List Wd):q40 (c::r) i op ws =
  if q1b c then q40 r (i+1) false (ws ++ [([c],(i:Int))])
  else if isB c then q40 r (i+1) false ws
  else if op then q40 r (i+1) true (addL ws c)
  else if pfx (c::r) then (ws,i)
  else q40 r (i+1) true (ws ++ [([c],(i:Int))]):=rfl
def okc (c:UInt8):Bool:=!((decide (((c.toNat:Nat):Int)<32) && !decide (((c.toNat:Nat):Int)=9))||decide ((126:Int)<((c.toNat:Nat):Int)))
theorem qg0 (n:Nat) (s:Yy) (hL:s.length<=1000000) : ∀m j:Nat,j<=s.length->s.length - j<m->q66 n m s ((s.length:Nat):Int) (j:Int)=some (if (s.drop j).all okc then Sum.inr ((),(),()) else Sum.inl ((false,()),(),()))
 | 0,j,_,h=>absurd h (Nat.not_lt_zero _)
 | m+1,j,hj,h=>by
  rw [qf1]
  unfold qj2
  by_cases c0:j<s.length
  ·have c0':((j:Nat):Int)<((s.length:Nat):Int):=by omega
   have ih:=qg0 n s hL m (j+1) (by omega) (by omega)
   have hd:s.drop j=s[j]::s.drop (j+1):=(List.drop_eq_getElem_cons c0)
   simp only [c0',decide_true,cond_true,q1g c0,Option.bind_some,q00,q03 (show j<4611686018427387904 by omega),ih,hd,List.all_cons,okc]
   generalize decide (((s[j].toNat:Nat):Int)<32)=b1
   generalize decide (((s[j].toNat:Nat):Int)=9)=b2
   generalize decide ((126:Int)<((s[j].toNat:Nat):Int))=b3
   cases b1<;>cases b2<;>cases b3<;>simp<;>rfl
  ·have c0' : ¬ ((j:Nat):Int)<((s.length:Nat):Int):=by omega
   have:s.drop j = []:=List.drop_eq_nil_of_le (by omega)
   simp [c0',this]
theorem jgv (n:Nat) (s:Yy) (hL:s.length<=1000000) (hn:s.length<n):qhp n s=some (s.all okc):=by
 unfold qhp
 have:=qg0 n s hL n 0 (Nat.zero_le _) (by omega)
 rw [show ((0:Nat):Int)=(0:Int) from rfl] at this
 rw [this,List.drop_zero]
 cases s.all okc<;>rfl
theorem one_P (n:Nat) (s:Yy) (hL:s.length<=1000000) (hn:s.length<n):quw n s=some (if s.all okc then (((q40 s 0 false []).1,s.drop (q40 s 0 false []).2),0) else (([],[]),9)):=by
 unfold quw
 rw [jgv n s hL hn]
 cases h:s.all okc with
 | false=>rfl
 | true =>
  have h2:=(j93 s 0 false []).2
  simp only [Option.bind_some,Bool.not_true,cond_false,cut_P n s hL hn,if_true]
  rw [sub_le (by omega) (Nat.le_refl _),Option.bind_some,List.take_of_length_le (by rw [List.length_drop];omega)]
def qjq:Yy->Nat->Bool->List Wd->List Wd
 | [],i,_,ws=>ws
 | c::r,i,op,ws =>
  if q1b c then qjq r (i+1) false (ws ++ [([c],(i:Int))])
  else if isB c then qjq r (i+1) false ws
  else if op then qjq r (i+1) true (addL ws c)
  else qjq r (i+1) true (ws ++ [([c],(i:Int))])
theorem q36 (c:UInt8) (r:Yy) (i:Nat) (op:Bool) (ws:List Wd):qjq (c::r) i op ws =
  if q1b c then qjq r (i+1) false (ws ++ [([c],(i:Int))])
  else if isB c then qjq r (i+1) false ws
  else if op then qjq r (i+1) true (addL ws c)
  else qjq r (i+1) true (ws ++ [([c],(i:Int))]):=rfl
def qid:Yy->Bool->Nat
 | [],_=>0
 | c::r,op=>if (!op&&pfx (c::r))=true then 0 else 1+qid r (!(q1b c||isB c))
theorem qc7 (c:UInt8) (r:Yy) (op:Bool):qid (c::r) op=if (!op&&pfx (c::r))=true then 0 else 1+qid r (!(q1b c||isB c)):=rfl
theorem jcq : ∀(l:Yy) (op:Bool),qid l op<=l.length
 | [],_=>Nat.le_refl _
 | c::r,op=>by
  rw [qc7]
  split
  ·simp
  ·have:=jcq r (!(q1b c||isB c));rw [List.length_cons];omega
theorem j9d (c:UInt8) (r:Yy) (h:q1b c=true\/isB c=true):pfx (c::r)=false:=by
 cases r with
 | nil=>rfl
 | cons b r =>
  have:c≠47:=by
   rintro rfl
   rcases h with h|h<;>revert h<;>decide
  simp [pfx,this]
theorem qd3 : ∀(l:Yy) (i:Nat) (op:Bool) (ws:List Wd),q40 l i op ws=(qjq (l.take (qid l op)) i op ws,i+qid l op)
 | [],i,op,ws=>rfl
 | c::r,i,op,ws=>by
  have ih:=fun op ws=>qd3 r (i+1) op ws
  rw [q1o,qc7]
  by_cases c1:q1b c=true
  ·rw [if_pos c1,j9d c r (Or.inl c1),ih]
   simp only [Bool.and_false,Bool.false_eq_true,if_false,c1,Bool.true_or,Bool.not_true]
   rw [Nat.add_comm 1,List.take_succ_cons,q36,if_pos c1,Nat.add_assoc i 1,Nat.add_comm 1]
  rw [if_neg c1]
  by_cases c2:isB c=true
  ·rw [if_pos c2,j9d c r (Or.inr c2),ih]
   simp only [Bool.and_false,Bool.false_eq_true,if_false,c2,Bool.or_true,Bool.not_true]
   rw [Nat.add_comm 1,List.take_succ_cons,q36,if_neg c1,if_pos c2,Nat.add_assoc i 1,Nat.add_comm 1]
  rw [if_neg c2]
  have c1':q1b c=false:=by simpa using c1
  have c2':isB c=false:=by simpa using c2
  by_cases c3:op=true
  ·subst c3
   rw [if_pos rfl,ih]
   simp only [Bool.not_true,Bool.false_and,Bool.false_eq_true,if_false,c1',c2',Bool.or_self,Bool.not_false]
   rw [Nat.add_comm 1,List.take_succ_cons,q36,if_neg c1,if_neg c2,if_pos rfl,Nat.add_assoc i 1,Nat.add_comm 1]
  have c3':op=false:=by simpa using c3
  subst c3'
  rw [if_neg c3]
  by_cases c4:pfx (c::r)=true
  ·rw [if_pos c4,if_pos (by rw [c4];rfl)];rfl
  rw [if_neg c4,if_neg (by simpa using c4),ih]
  simp only [c1',c2',Bool.or_self,Bool.not_false]
  rw [Nat.add_comm 1,List.take_succ_cons,q36,if_neg c1,if_neg c2,if_neg c3,Nat.add_assoc i 1,Nat.add_comm 1]
def qra:Yy->Nat
 | []=>0
 | c::r=>if (q1b c||isB c)=true then 0 else 1+qra r
theorem qx7 : ∀l:Yy,qra l<=l.length
 | []=>Nat.le_refl _
 | c::r=>by
  rw [qra]
  split
  ·simp
  ·have:=qx7 r;simp;omega
theorem j7u (p:Nat) (out:List Wd) : ∀(l:Yy) (k:Nat) (w:Yy),qjq l k true (out ++ [(w,(p:Int))])=qjq (l.drop (qra l)) (k+qra l) false (out ++ [(w++l.take (qra l),(p:Int))])
 | [],k,w=>by simp [qra,qjq]
 | c::r,k,w=>by
  rw [qra]
  by_cases h:(q1b c||isB c)=true
  ·rw [if_pos h]
   simp only [List.drop_zero,Nat.add_zero,List.take_zero,List.append_nil]
   rw [q36,q36]
   by_cases c1:q1b c=true
   ·rw [if_pos c1,if_pos c1]
   ·rw [if_neg c1,if_neg c1]
    have c2:isB c=true:=by simpa [c1] using h
    rw [if_pos c2,if_pos c2]
  ·rw [if_neg h]
   have c1 : ¬ q1b c=true:=fun e=>h (by rw [e];rfl)
   have c2 : ¬ isB c=true:=fun e=>h (by rw [e];simp)
   rw [q36,if_neg c1,if_neg c2,if_pos rfl,q3q,j7u p out r (k+1),Nat.add_comm 1,List.drop_succ_cons,List.take_succ_cons,Nat.add_assoc k 1,Nat.add_comm 1,List.append_assoc]
   rfl
theorem qq8 (n:Nat) (c:UInt8):q9y n ((c.toNat:Nat):Int)=some (isB c):=by
 unfold q9y isB
 cases decide (((c.toNat:Nat):Int)=32)<;>rfl
theorem j7f (n:Nat) (c:UInt8):qf4 n ((c.toNat:Nat):Int)=some (q1b c):=by
 unfold qf4 q1b
 cases decide (((c.toNat:Nat):Int)=40)<;>cases decide (((c.toNat:Nat):Int)=41)<;>cases decide (((c.toNat:Nat):Int)=91)<;>cases decide (((c.toNat:Nat):Int)=93)<;>rfl
def prev (s:Yy) (i:Nat):Bool:=if h:0<i/\i<=s.length then !(q1b (s[i - 1]'(by omega))||isB (s[i - 1]'(by omega))) else false
theorem jau {s:Yy} {i:Nat} (h:i<s.length):prev s (i+1) = !(q1b s[i]||isB s[i]):=by
 unfold prev
 rw [dif_pos ⟨by omega,by omega⟩]
 rfl
theorem qly (n:Nat) (s:Yy) (hs:s.length<=1000000) : ∀m i:Nat,i<=s.length->s.length - i<m ->
  (q26 n m s (i:Int)=some (Sum.inl ((((i+qid (s.drop i) (prev s i):Nat):Int),()),((),()))))\/(q26 n m s (i:Int)=some (Sum.inr ((s,()),((),())))/\i+qid (s.drop i) (prev s i)=s.length)
 | 0,i,_,h=>absurd h (Nat.not_lt_zero _)
 | m+1,i,hi,h=>by
  rw [qdd]
  unfold qem
  have w1:=q03 (show i<4611686018427387904 by omega)
  by_cases c0:i+1<s.length
  ·have ih:=qly n s hs m (i+1) (by omega) (by omega)
   have hi':i<s.length:=by omega
   have c0':((i+1:Nat):Int)<((s.length:Nat):Int):=by omega
   have hd:s.drop i=s[i]::s.drop (i+1):=List.drop_eq_getElem_cons hi'
   have hd1:s.drop (i+1)=s[i+1]::s.drop (i+1+1):=List.drop_eq_getElem_cons c0
   rw [jau hi'] at ih
   have key:pfx (s.drop i)=(decide (((s[i].toNat:Nat):Int)=47)&&decide (((s[i+1].toNat:Nat):Int)=47)):=by
    rw [hd,hd1]
    have e : ∀c:UInt8,decide (c=47)=decide (((c.toNat:Nat):Int)=47):=fun c=>by
     have h47:(47:UInt8).toNat=47:=rfl
     apply decide_eq_decide.2
     constructor
     ·rintro rfl;rfl
     ·intro hh;apply UInt8.toNat_inj.1;rw [h47];omega
    show (decide (s[i]=47)&&decide (s[i+1]=47))=_
    rw [e,e]
   have next : ∀b,qid (s.drop i) b=if (!b&&pfx (s.drop i))=true then 0 else 1+qid (s.drop (i+1)) (!(q1b s[i]||isB s[i])):=fun b=>by
    conv=>lhs;rw [hd]
    rw [qc7,<-hd]
   have goOn:(!(prev s i)&&pfx (s.drop i))=false->(q26 n m s ((i+1:Nat):Int)=some (Sum.inl ((((i+qid (s.drop i) (prev s i):Nat):Int),()),((),())))\/(q26 n m s ((i+1:Nat):Int)=some (Sum.inr ((s,()),((),())))/\i+qid (s.drop i) (prev s i)=s.length)):=fun hb=>by
    rw [next,hb]
    simp only [Bool.false_eq_true,if_false]
    rw [<-Nat.add_assoc]
    exact ih
   have stop:(!(prev s i)&&pfx (s.drop i))=true->i+qid (s.drop i) (prev s i)=i:=fun hb=>by
    rw [next,if_pos hb];rfl
   simp only [q00,w1,c0',decide_true,cond_true,q1g hi',q1g c0,Option.bind_some]
   cases h1:decide (((s[i].toNat:Nat):Int)=47) with
   | false=>exact goOn (by rw [key,h1];simp)
   | true =>
    cases h2:decide (((s[i+1].toNat:Nat):Int)=47) with
    | false=>exact goOn (by rw [key,h1,h2];simp)
    | true =>
     simp only [cond_true]
     by_cases h3:i=0
     ·have h3':((i:Nat):Int)=0:=by omega
      refine Or.inl ?_
      rw [stop (by rw [key,h1,h2];subst h3;simp [prev])]
      simp only [h3',decide_true,cond_true]
     ·have h3' : ¬ ((i:Nat):Int)=0:=by omega
      have w2:IntKind.wrap .i64 (((i:Nat):Int) - 1)=((i - 1:Nat):Int):=by rw [show ((i:Nat):Int) - 1=((i - 1:Nat):Int) from by omega];exact qd5 (by omega)
      have hp:prev s i = !(q1b s[i - 1]||isB s[i - 1]):=by unfold prev;rw [dif_pos ⟨by omega,hi⟩]
      simp only [h3',decide_false,cond_false,w2,q1g (show i - 1<s.length by omega),Option.bind_some,qq8,j7f]
      cases h4:isB s[i - 1] with
      | true =>
       refine Or.inl ?_
       simp only [cond_true]
       rw [stop (by rw [key,h1,h2,hp,h4];simp)]
      | false =>
       cases h5:q1b s[i - 1] with
       | true =>
        refine Or.inl ?_
        simp only [cond_true,cond_false]
        rw [stop (by rw [key,h1,h2,hp,h4,h5];simp)]
       | false =>
        simp only [cond_false]
        exact goOn (by rw [hp,h4,h5];simp)
  ·have c0' : ¬ ((i+1:Nat):Int)<((s.length:Nat):Int):=by omega
   simp only [q00,w1,c0',decide_false,cond_false]
   refine Or.inr ⟨by first|rfl|trivial,?_⟩
   rcases Nat.lt_or_ge i s.length with h1|h1
   ·have hd:s.drop i = [s[i]]:=by rw [List.drop_eq_getElem_cons h1,List.drop_eq_nil_of_le (by omega)]
    rw [hd,qc7]
    simp [pfx,qid];omega
   ·rw [List.drop_eq_nil_of_le h1];simp [qid];omega
theorem jgj (n:Nat) (s:Yy) (hs:s.length<=1000000) (hn:s.length<n):qca n s=some ((qid s false:Nat):Int):=by
 have h:=qly n s hs n 0 (Nat.zero_le _) (by omega)
 rw [List.drop_zero,show prev s 0=false from rfl,Nat.zero_add] at h
 unfold qca
 rw [show ((0:Nat):Int)=(0:Int) from rfl] at h
 rcases h with h|⟨h,h2⟩
 ·rw [h];rfl
 ·rw [h,h2];rfl
theorem qk1 (n:Nat) (s:Yy) (hs:s.length<=1000000) (e i:Nat) (nt:Yy) (out:List Wd) (he:e<=s.length) (hi:i<s.length) : ∀m k:Nat,k<=e->e - k<m ->
  ∃ o,qa5 n m s (e:Int) (i:Int) (k:Int) nt out=some o/\∀(α:Type) (f:Yy->Int->Int->Int->Yy->List Wd->α),
   Sum.elim (fun q=>f q.1.1 q.1.2.2.1 q.1.2.2.2.2.1 q.1.2.2.2.2.2.1 q.2.1.1.2 q.2.2.1) (Sum.elim (fun q=>f q.1.1 q.1.2.2.1 q.1.2.2.2.2.1 q.1.2.2.2.2.2.1 q.2.1.1.2 q.2.2.1) (Sum.elim (fun q=>f q.1.1 q.1.2.2.1 q.1.2.2.2.2.1 q.1.2.2.2.2.2.1 q.2.1.1.2 q.2.2.1) (fun q=>f q.1.1 q.1.2.2.1 q.1.2.2.2.2.1 q.1.2.2.2.2.2.1 q.2.1.1.2 q.2.2.1))) o
    = f s (e:Int) (i:Int) ((if q1b s[i] then k else k+qra ((s.take e).drop k):Nat):Int) nt out
 | 0,k,_,h=>absurd h (Nat.not_lt_zero _)
 | m+1,k,hk,h=>by
  rw [qif]
  unfold qzi
  by_cases c0:k<e
  ·have c0':((k:Nat):Int)<((e:Nat):Int):=by omega
   have hk':k<s.length:=by omega
   have hd:(s.take e).drop k=s[k]::(s.take e).drop (k+1):=by
    rw [List.drop_eq_getElem_cons (by rw [List.length_take];omega),List.getElem_take]
   simp only [c0',decide_true,cond_true,q1g hi,q1g hk',Option.bind_some,j7f,qq8]
   cases h1:q1b s[i] with
   | true =>
    refine ⟨_,rfl,fun α f=>?_⟩
    simp only [Bool.not_true,cond_false,Sum.elim_inr,Sum.elim_inl,if_true]
   | false =>
    simp only [Bool.not_false,cond_true,Bool.false_eq_true,if_false]
    cases h2:isB s[k] with
    | true =>
     refine ⟨_,rfl,fun α f=>?_⟩
     rw [hd,qra,if_pos (by rw [h2];simp)]
     simp only [Sum.elim_inr,Sum.elim_inl,Nat.add_zero]
    | false =>
     simp only [Bool.not_false,cond_true]
     cases h3:q1b s[k] with
     | true =>
      refine ⟨_,rfl,fun α f=>?_⟩
      rw [hd,qra,if_pos (by rw [h3];simp)]
      simp only [Sum.elim_inr,Sum.elim_inl,Nat.add_zero]
     | false =>
      simp only [Bool.not_false,cond_true,q00,q03 (show k<4611686018427387904 by omega)]
      obtain ⟨o,h4,h5⟩:=qk1 n s hs e i nt out he hi m (k+1) (by omega) (by omega)
      refine ⟨o,h4,fun α f=>?_⟩
      rw [h5]
      simp only [h1,Bool.false_eq_true,if_false]
      rw [hd,qra,if_neg (by rw [h2,h3];simp),Nat.add_assoc]
  ·have c0' : ¬ ((k:Nat):Int)<((e:Nat):Int):=by omega
   refine ⟨_,by simp only [c0',decide_false,cond_false];rfl,fun α f=>?_⟩
   have hd:(s.take e).drop k = []:=List.drop_eq_nil_of_le (by rw [List.length_take];omega)
   rw [hd]
   simp only [Sum.elim_inr,qra,Nat.add_zero,ite_self]
theorem j1v : ∀(l:Yy) (i:Nat) (op:Bool) (ws:List Wd),(qjq l i op ws).length<=ws.length+l.length
 | [],i,op,ws=>by simp [qjq]
 | c::r,i,op,ws=>by
  have ih:=fun op ws=>j1v r (i+1) op ws
  rw [q36,List.length_cons]
  split
  ·have:=ih false (ws ++ [([c],(i:Int))]);simp at this;omega
  ·split
   ·have:=ih false ws;omega
   ·split
    ·have:=ih true (addL ws c)
     have h2:(addL ws c).length<=ws.length:=by
      unfold addL
      split
      ·rename_i t p h
       have:ws ≠ []:=by rintro rfl;simp at h
       have:=List.length_pos_iff.2 this
       simp;omega
      ·exact Nat.le_refl _
     omega
    ·have:=ih true (ws ++ [([c],(i:Int))]);simp at this;omega
theorem qku (n:Nat) (s:Yy) (hs:s.length<=1000000) (hn:s.length<n) (e:Nat) (nt:Yy) (he:e<=s.length) : ∀(m i:Nat) (out:List Wd),i<=e->e - i<m->out.length<=i ->
  ∃ o,q6p n m s (e:Int) (i:Int) nt out=some o/\o.1.1=s/\o.1.2.2.1=(e:Int)/\o.2.2.1=qjq ((s.take e).drop i) i false out
 | 0,i,_,_,h,_=>absurd h (Nat.not_lt_zero _)
 | m+1,i,out,hi,h,ho=>by
  rw [qiq]
  unfold qx3
  by_cases c0:i<e
  ·have c0':((i:Nat):Int)<((e:Nat):Int):=by omega
   have hi':i<s.length:=by omega
   have ih:=qku n s hs hn e nt he m
   have hd:(s.take e).drop i=s[i]::(s.take e).drop (i+1):=by
    rw [List.drop_eq_getElem_cons (by rw [List.length_take];omega),List.getElem_take]
   have w1:=q03 (show i<4611686018427387904 by omega)
   simp only [c0',decide_true,cond_true,q1g hi',Option.bind_some,qq8,q00,w1]
   cases h1:isB s[i] with
   | true =>
    simp only [cond_true]
    obtain ⟨o,k1,k2,k3,k4⟩:=ih (i+1) out (by omega) (by omega) (by omega)
    refine ⟨o,k1,k2,k3,?_⟩
    have hS : ¬ q1b s[i]=true:=fun hh=>by
     have h47 : ∀c:UInt8,q1b c=true->isB c=true->False:=by
      intro c;unfold q1b isB
      intro a b
      simp at a b;omega
     exact h47 _ hh h1
    rw [k4,hd,q36,if_neg hS,if_pos h1]
   | false =>
    simp only [cond_false]
    obtain ⟨o,k1,k2⟩:=qk1 n s hs e i nt out he hi' n (i+1) (by omega) (by omega)
    generalize hk:(if q1b s[i] then i+1 else i+1+qra ((s.take e).drop (i+1)):Nat)=k at k2
    have hkb:i<k/\k<=e:=by
     have:=qx7 ((s.take e).drop (i+1))
     rw [List.length_drop,List.length_take] at this
     rw [<-hk];split<;>omega
    have hsub:q1a s ((i:Nat):Int) ((k:Nat):Int)=some ((s.drop i).take (k - i)):=sub_le (by omega) (by omega)
    have ha:q1s 24 out [((s.drop i).take (k - i),(i:Int))]=some (out ++ [((s.drop i).take (k - i),(i:Int))]):=q1q (by simp;omega)
    obtain ⟨o',g1,g2,g3,g4⟩:=ih k (out ++ [((s.drop i).take (k - i),(i:Int))]) (by omega) (by omega) (by simp;omega)
    refine ⟨o',?_,g2,g3,?_⟩
    ·rw [k1,Option.bind_some]
     refine (k2 _ (fun b1 b2 b3 b4 b5 b6=>(q1a b1 b3 b4).bind fun s25=>(q1s 24 b6 [(s25,b3)]).bind fun l26=>q6p n m b1 b2 b4 b5 l26)).trans ?_
     rw [hsub,Option.bind_some,ha,Option.bind_some]
     exact g1
    ·rw [g4,hd,q36]
     by_cases h2:q1b s[i]=true
     ·rw [if_pos h2] at hk ⊢
      subst hk
      rw [show i+1 - i=1 from by omega,List.drop_eq_getElem_cons hi']
      rfl
     ·rw [if_neg h2] at hk
      rw [if_neg h2,if_neg (by rw [h1];simp),if_neg (by simp),j7u]
      have e1:((s.take e).drop (i+1)).drop (qra ((s.take e).drop (i+1)))=(s.take e).drop k:=by rw [List.drop_drop,hk]
      have e2 : [s[i]]++((s.take e).drop (i+1)).take (qra ((s.take e).drop (i+1)))=(s.drop i).take (k - i):=by
       rw [show k - i=qra ((s.take e).drop (i+1))+1 from by omega,List.drop_eq_getElem_cons hi',List.take_succ_cons,List.drop_take,List.take_take]
       have hm:min (qra ((s.take e).drop (i+1))) (e - (i+1))=qra ((s.take e).drop (i+1)):=by
        have:=qx7 ((s.take e).drop (i+1))
        rw [List.length_drop,List.length_take] at this
        omega
       rw [<-List.drop_take,hm]
       rfl
      rw [e1,e2,hk]
  ·have c0' : ¬ ((i:Nat):Int)<((e:Nat):Int):=by omega
   refine ⟨_,by simp only [c0',decide_false,cond_false];rfl,rfl,rfl,?_⟩
   rw [List.drop_eq_nil_of_le (by rw [List.length_take];omega)]
   rfl
theorem qk4 (n:Nat) (s:Yy) (hL:s.length<=1000000) (nt:Yy) : ∀m j:Nat,j<=s.length->s.length - j<m->qag n m s (j:Int) nt=some (if (s.drop j).all okc then Sum.inr ((s,((),())),((((),nt),()),())) else Sum.inl (((),((9:Int),())),((((),([]:Yy)),()),())))
 | 0,j,_,h=>absurd h (Nat.not_lt_zero _)
 | m+1,j,hj,h=>by
  rw [qjw]
  unfold qza
  by_cases c0:j<s.length
  ·have c0':((j:Nat):Int)<((s.length:Nat):Int):=by omega
   have ih:=qk4 n s hL nt m (j+1) (by omega) (by omega)
   have hd:s.drop j=s[j]::s.drop (j+1):=(List.drop_eq_getElem_cons c0)
   simp only [c0',decide_true,cond_true,q1g c0,Option.bind_some,q00,q03 (show j<4611686018427387904 by omega),ih,hd,List.all_cons,okc]
   generalize decide (((s[j].toNat:Nat):Int)<32)=b1
   generalize decide (((s[j].toNat:Nat):Int)=9)=b2
   generalize decide ((126:Int)<((s[j].toNat:Nat):Int))=b3
   cases b1<;>cases b2<;>cases b3<;>simp
  ·have c0' : ¬ ((j:Nat):Int)<((s.length:Nat):Int):=by omega
   have:s.drop j = []:=List.drop_eq_nil_of_le (by omega)
   simp [c0',this]
abbrev Ln:=List Wd×Yy
def qdc (s:Yy):Ln:=((q40 s 0 false []).1,s.drop (q40 s 0 false []).2)
def jpk (s:Yy):Ln×Int:=if s.all okc then (qdc s,0) else (([],[]),9)
theorem jpq (n:Nat) (s:Yy) (hL:s.length<=1000000) (hn:s.length<n):quw n s=some (jpk s):=by
 rw [one_P n s hL hn];rfl
theorem jne (n:Nat) (s:Yy) (hL:s.length<=1000000) (hn:s.length<n):q9p n s=some (jpk s):=by
 unfold q9p jpk
 have h0:=qk4 n s hL [] n 0 (Nat.zero_le _) (by omega)
 rw [show ((0:Nat):Int)=(0:Int) from rfl,List.drop_zero] at h0
 rw [h0]
 cases h:s.all okc with
 | false=>rfl
 | true =>
  have hle:=jcq s false
  obtain ⟨o,k1,k2,k3,k4⟩:=qku n s hL hn (qid s false) [] hle n 0 [] (Nat.zero_le _) (by omega) (Nat.le_refl _)
  rw [show ((0:Nat):Int)=(0:Int) from rfl] at k1
  simp only [if_true,Option.bind_some,Sum.elim_inr,jgj n s hL hn,k1,k2,k3]
  rw [sub_le hle (Nat.le_refl _),Option.bind_some,k4,List.take_of_length_le (l:=s.drop (qid s false)) (by rw [List.length_drop];omega)]
  unfold qdc
  rw [qd3 s 0 false [],List.drop_zero,Nat.zero_add]
theorem jh4 (s:Yy):(qdc s).1.length<=s.length/\(qdc s).2.length<=s.length:=by
 unfold qdc
 rw [qd3]
 have:=j1v (s.take (qid s false)) 0 false []
 rw [List.length_take,List.length_nil] at this
 refine ⟨?_,?_⟩
 ·show (qjq (s.take (qid s false)) 0 false []).length<=_;omega
 ·rw [List.length_drop];omega
def q6j (s:Yy):Bool:=s.getLast? == some 10
def q0a (s:Yy):List Yy:=if s = [] then [] else spl 10 [] (if q6j s=true then s.dropLast else s)
theorem qut (n:Nat) (s:Yy) (hs:s.length<=1000000):q5u n s [10]=some (if q6j s=true then s.dropLast else s):=by
 unfold q5u q8k q3g q6j
 rcases List.eq_nil_or_concat s with rfl|⟨m,c,rfl⟩
 ·rfl
 ·rw [List.concat_eq_append]
  have hl:(m ++ [c]).length=m.length+1:=by simp
  rw [List.concat_eq_append] at hs
  have h1:((([10]:Yy).length:Nat):Int)<=(((m ++ [c]).length:Nat):Int):=by rw [hl];simp;omega
  have w1:IntKind.wrap .i64 ((((m ++ [c]).length:Nat):Int) - ((([10]:Yy).length:Nat):Int))=((m.length:Nat):Int):=by
   rw [hl,show (((m.length+1:Nat):Int) - ((([10]:Yy).length:Nat):Int))=((m.length:Nat):Int) from by simp];exact qd5 (by omega)
  have s1:q1a (m ++ [c]) ((m.length:Nat):Int) (((m ++ [c]).length:Nat):Int)=some [c]:=by rw [sub_le (by rw [hl];omega) (Nat.le_refl _),hl];simp
  have s2:q1a (m ++ [c]) (0:Int) ((m.length:Nat):Int)=some m:=by rw [sub_zero (by rw [hl];omega)];simp
  simp only [h1,decide_true,cond_true,q00,w1,s1,s2,Option.bind_some]
  by_cases hc:c=10
  ·subst hc;simp
  ·simp [hc]
theorem j1f (n:Nat) (s:Yy) (hs:s.length<=1000000):qa6 n s=some (q0a s):=by
 unfold qa6 q0a
 by_cases h:s = []
 ·simp [h]
 ·have h2:(if q6j s=true then s.dropLast else s).length<=s.length:=by split<;>simp
  rw [qut n s hs]
  simp only [h,decide_false,cond_false,Option.bind_some,q82,if_false]
  rw [if_pos (by omega),Option.bind_some]
theorem q2n (n:Nat) (s:Yy) (c:UInt8) (hs:s.length<=1000000) : ∀(m i fr:Nat) (out:List Yy),i<=s.length->s.length - i+1<m->fr<=i->out.length<=i ->
  q1d n m s ((c.toNat:Nat):Int) (fr:Int) (i:Int) out=some (((),()),((),(out++spl c ((s.drop fr).take (i - fr)) (s.drop i),())))
 | 0,i,fr,_,_,h,_,_=>absurd h (Nat.not_lt_zero _)
 | m+1,i,fr,out,hi,h,hf,ho=>by
  rw [q1m]
  unfold q2q
  have c0:((i:Nat):Int)<=((s.length:Nat):Int):=by omega
  have w1:=q03 (show i<4611686018427387904 by omega)
  have s1:q1a s ((fr:Nat):Int) ((i:Nat):Int)=some ((s.drop fr).take (i - fr)):=sub_le hf hi
  have a1:q1s 16 out [(s.drop fr).take (i - fr)]=some (out ++ [(s.drop fr).take (i - fr)]):=q1q (by simp;omega)
  by_cases c1:i=s.length
  ·have c1':((i:Nat):Int)=((s.length:Nat):Int):=by omega
   have hd:s.drop i = []:=List.drop_eq_nil_of_le (by omega)
   simp only [c0,c1',decide_true,cond_true]
   rw [<-c1',s1,Option.bind_some,a1,Option.bind_some,hd]
   simp only [q00,w1]
   cases m with
   | zero=>omega
   | succ m =>
    rw [q1m]
    unfold q2q
    have c2 : ¬ ((i+1:Nat):Int)<=((s.length:Nat):Int):=by omega
    simp only [c2,Int.le_refl,decide_true,decide_false,cond_true,cond_false]
    rfl
  ·have c1' : ¬ ((i:Nat):Int)=((s.length:Nat):Int):=by omega
   have hi':i<s.length:=by omega
   have hd:s.drop i=s[i]::s.drop (i+1):=List.drop_eq_getElem_cons hi'
   simp only [c0,c1',decide_true,decide_false,cond_true,cond_false,q1g hi',Option.bind_some,q00,w1,s1,a1]
   have hc:decide (((s[i].toNat:Nat):Int)=((c.toNat:Nat):Int))=decide (s[i]=c):=by
    apply decide_eq_decide.2
    constructor
    ·intro hh;exact UInt8.toNat_inj.1 (by omega)
    ·intro hh;rw [hh]
   rw [hc,hd,spl]
   by_cases c2:s[i]=c
   ·simp only [c2,decide_true,cond_true,if_true]
    rw [q2n n s c hs m (i+1) (i+1) (out ++ [(s.drop fr).take (i - fr)]) (by omega) (by omega) (Nat.le_refl _) (by simp;omega)]
    simp
   ·simp only [c2,decide_false,cond_false,if_false]
    rw [q2n n s c hs m (i+1) fr out (by omega) (by omega) (by omega) (by omega)]
    have e1:(s.drop fr).take (i+1 - fr)=(s.drop fr).take (i - fr) ++ [s[i]]:=by
     rw [show i+1 - fr=(i - fr)+1 from by omega,List.take_add_one,List.getElem?_drop,show fr+(i - fr)=i from by omega,List.getElem?_eq_getElem hi']
     rfl
    rw [e1]
theorem q2z (n:Nat) (s:Yy) (c:UInt8) (hs:s.length<=1000000) (hn:s.length+1<n):q0e n s ((c.toNat:Nat):Int)=some (spl c [] s):=by
 unfold q0e
 have h:=q2n n s c hs n 0 0 [] (Nat.zero_le _) (by omega) (Nat.le_refl _) (Nat.zero_le _)
 rw [show ((0:Nat):Int)=(0:Int) from rfl] at h
 rw [h]
 simp
theorem jgq (n:Nat) (s:Yy) (hs:s.length<=100000) (hn:s.length+1<n):qhd n s=some (q0a s):=by
 unfold qhd
 have h5:=q2z n s 10 (by omega) hn
 rw [show (((10:UInt8).toNat:Nat):Int)=(10:Int) from rfl] at h5
 rw [h5,Option.bind_some]
 obtain ⟨t,x,h1,h2⟩:=qpm 10 s []
 have hl:=(q47 10 s []).2
 rw [h1] at hl ⊢
 have hl2:(t ++ [x]).length=t.length+1:=by simp
 have w1:IntKind.wrap .i64 ((((t ++ [x]).length:Nat):Int) - 1)=((t.length:Nat):Int):=by
  rw [hl2,show (((t.length+1:Nat):Int) - 1)=((t.length:Nat):Int) from by omega];exact qd5 (by omega)
 have g:t.length<(t ++ [x]).length:=by omega
 have ge:(t ++ [x])[t.length]'g=x:=by simp
 have s1:q1a (t ++ [x]) (0:Int) ((t.length:Nat):Int)=some t:=by rw [sub_zero (by omega)];simp
 simp only [q00,w1,q0k g,ge,Option.bind_some,s1]
 unfold q0a
 by_cases hx:x = []
 ·simp only [hx,decide_true,cond_true]
  rcases h2.1 hx with ⟨_,rfl⟩|⟨m,rfl⟩
  ·simp [spl] at h1
   have:t = []:=by
    cases t with
    | nil=>rfl
    | cons a t=>simp at h1
   rw [this];rfl
  ·rw [if_neg (by simp)]
   have he:q6j (m ++ [10])=true:=by simp [q6j]
   rw [if_pos he,List.dropLast_concat]
   rw [j95,hx] at h1
   exact congrArg some (List.append_cancel_right h1).symm
 ·simp only [hx,decide_false,cond_false]
  have hs0:s ≠ []:=fun e=>hx (h2.2 (Or.inl ⟨rfl,e⟩))
  have he:q6j s=false:=by
   cases hh:q6j s with
   | false=>rfl
   | true =>
    rcases List.eq_nil_or_concat s with rfl|⟨m,c,rfl⟩
    ·exact absurd rfl hs0
    ·rw [List.concat_eq_append] at hh
     simp [q6j] at hh
     exact absurd (h2.2 (Or.inr ⟨m,by rw [hh,List.concat_eq_append]⟩)) hx
  rw [if_neg hs0,he]
  simp only [Bool.false_eq_true,if_false]
  rw [h1]
theorem q5h (s:Yy):(q0a s).length<=s.length+1/\∀x∈q0a s,x.length<=s.length:=by
 unfold q0a
 split
 ·exact ⟨by simp,fun x h=>by cases h⟩
 ·have h2:(if q6j s=true then s.dropLast else s).length<=s.length:=by split<;>simp
  refine ⟨by have:=(q47 10 (if q6j s=true then s.dropLast else s) []).2;omega,fun x hx=>?_⟩
  have:=q4j 10 _ _ x hx
  simp at this
  omega
def q2w:List Yy->Nat->List Ln->List Ln×Int×Int
 | [],i,out=>(out,(i:Int),0)
 | x::xs,i,out=>if x.all okc=true then q2w xs (i+1) (out ++ [qdc x]) else ([],(i:Int),9)
theorem qjb (n:Nat) (ls:List Yy) (hl:ls.length<=1000000) (hx : ∀x∈ls,x.length<=1000000/\x.length<n) : ∀(m j:Nat) (out:List Ln),j<=ls.length->ls.length - j<m->out.length=j ->
  (q6d n m ls ((ls.length:Nat):Int) (j:Int) out).bind (fun o6=>Sum.elim (fun q7=>some (([]:List Ln),(q7.1.2.1,q7.1.2.2.1))) (fun q8=>some (q8.2.2.1,(((List.length q8.2.2.1:Nat):Int),(0:Int)))) o6)=some (q2w (ls.drop j) j out)
 | 0,j,_,_,h,_=>absurd h (Nat.not_lt_zero _)
 | m+1,j,out,hj,h,ho=>by
  rw [qew]
  unfold qjg
  by_cases c0:j<ls.length
  ·have c0':((j:Nat):Int)<((ls.length:Nat):Int):=by omega
   obtain ⟨x1,x2⟩:=hx ls[j] (List.getElem_mem c0)
   rw [List.drop_eq_getElem_cons c0,q2w]
   simp only [c0',decide_true,cond_true,q0k c0,Option.bind_some,jpq n ls[j] x1 x2,jpk]
   by_cases hk:ls[j].all okc=true
   ·have a1:q1s 40 out [qdc ls[j]]=some (out ++ [qdc ls[j]]):=q1q (by simp;omega)
    simp only [hk,if_true,decide_true,Bool.not_true,cond_false,a1,Option.bind_some,q00,q03 (show j<4611686018427387904 by omega)]
    exact qjb n ls hl hx m (j+1) _ (by omega) (by omega) (by simp;omega)
   ·rw [if_neg hk,if_neg hk]
    rfl
  ·have c0' : ¬ ((j:Nat):Int)<((ls.length:Nat):Int):=by omega
   simp only [c0',decide_false,cond_false,Option.bind_some,Sum.elim_inr]
   rw [List.drop_eq_nil_of_le (by omega),q2w,ho]
theorem qki (n:Nat) (ls:List Yy) (hl:ls.length<=1000000) (hx : ∀x∈ls,x.length<=1000000/\x.length<n) : ∀(m j:Nat) (out:List Ln),j<=ls.length->ls.length - j<m->out.length=j ->
  (q68 n m ls (j:Int) out).bind (fun o6=>Sum.elim (fun q7=>some (([]:List Ln),(q7.1.2.1,q7.1.2.2.1))) (fun q8=>some (q8.2.2.1,(((List.length q8.1.2.1:Nat):Int),(0:Int)))) o6)=some (q2w (ls.drop j) j out)
 | 0,j,_,_,h,_=>absurd h (Nat.not_lt_zero _)
 | m+1,j,out,hj,h,ho=>by
  rw [qfb]
  unfold qhu
  by_cases c0:j<ls.length
  ·have c0':((j:Nat):Int)<((ls.length:Nat):Int):=by omega
   obtain ⟨x1,x2⟩:=hx ls[j] (List.getElem_mem c0)
   rw [List.drop_eq_getElem_cons c0,q2w]
   simp only [c0',decide_true,cond_true,q0k c0,Option.bind_some,jne n ls[j] x1 x2,jpk]
   by_cases hk:ls[j].all okc=true
   ·have a1:q1s 40 out [qdc ls[j]]=some (out ++ [qdc ls[j]]):=q1q (by simp;omega)
    simp only [hk,if_true,decide_true,Bool.not_true,cond_false,a1,Option.bind_some,q00,q03 (show j<4611686018427387904 by omega)]
    exact qki n ls hl hx m (j+1) _ (by omega) (by omega) (by simp;omega)
   ·rw [if_neg hk,if_neg hk]
    rfl
  ·have c0' : ¬ ((j:Nat):Int)<((ls.length:Nat):Int):=by omega
   have hj':ls.length=j:=by omega
   simp only [c0',decide_false,cond_false,Option.bind_some,Sum.elim_inr]
   rw [List.drop_eq_nil_of_le (by omega),q2w,hj']
theorem jg4 (n:Nat) (s:Yy) (hs:s.length<=100000) (hn:s.length+1<n):qcq n s=some (q2w (q0a s) 0 []):=by
 unfold qcq
 obtain ⟨h1,h2⟩:=q5h s
 rw [j1f n s (by omega),Option.bind_some]
 exact qjb n (q0a s) (by omega) (fun x hx=>by have:=h2 x hx;omega) n 0 [] (Nat.zero_le _) (by omega) rfl
theorem jfi (n:Nat) (s:Yy) (hs:s.length<=100000) (hn:s.length+1<n):qh9 n s=some (q2w (q0a s) 0 []):=by
 unfold qh9
 obtain ⟨h1,h2⟩:=q5h s
 rw [jgq n s (by omega) hn,Option.bind_some]
 exact qki n (q0a s) (by omega) (fun x hx=>by have:=h2 x hx;omega) n 0 [] (Nat.zero_le _) (by omega) rfl
end Go.Proofs.YtapfankgdkdkgaaGreatDoor.AM.Lx
namespace Go.Proofs.YtapfankgdkdkgaaGreatDoor.AM
open Go.RowKit
abbrev Za:=((Bool×Unit)×Unit×Unit)⊕(Unit×Unit×Unit)
abbrev Zb:=((Int×Unit)×Unit×Unit)⊕(Unit×Unit×Unit)
def q7t (c:UInt8):Bool:=qhg c||decide (c.toNat=95)||decide (c.toNat=46)
def q8u (s:Yy):Bool:=!decide (s = [])&&(!decide (s = [46])&&(!decide (s = [46,46])&&s.all q7t))
def q3e (s:Yy):Bool:=decide (s.length<=60)&&(spl 47 [] s).all q8u
def q1l (w:Yy):Bool:=decide (w.head? = some 118)&&q2b (w.drop 1)
def anyS (s:Yy):Bool:=(spl 47 [] s).any q1l
def q6l (c:UInt8):Yy->Int
 | []=>-1
 | b::r=>if b=c then (r.length:Int) else q6l c r
def q6x (c:UInt8) (s:Yy):Int:=q6l c s.reverse
theorem j2w (c:UInt8) : ∀l,-1<=q6l c l/\q6l c l<(l.length:Int)
 | []=>by simp [q6l]
 | b::r=>by
  have:=j2w c r
  rw [q6l];split
  ·simp;omega
  ·simp;omega
theorem j0c (c:UInt8) (s:Yy) : -1<=q6x c s/\q6x c s<(s.length:Int):=by
 have:=j2w c s.reverse;unfold q6x;simpa using this
theorem qn7 (c:UInt8) : ∀l,c ∉ l->q6l c l = -1
 | [],_=>rfl
 | b::r,h=>by
  have h1:b≠c:=fun e=>h (by simp [e])
  rw [q6l,if_neg h1,qn7 c r (fun e=>h (by simp [e]))]
theorem qs6 (c:UInt8) : ∀(y x:Yy),c ∉ y->q6l c (y++c::x)=(x.length:Int)
 | [],x,_=>by simp [q6l]
 | b::y,x,h=>by
  have h1:b≠c:=fun e=>h (by simp [e])
  rw [List.cons_append,q6l,if_neg h1,qs6 c y x (fun e=>h (by simp [e]))]
theorem j4w {c:UInt8} {s:Yy} (h:c ∉ s):q6x c s = -1:=qn7 c _ (by simpa using h)
theorem j8m {c:UInt8} {x y:Yy} (h:c ∉ y):q6x c (x++c::y)=(x.length:Int):=by
 have:=qs6 c y.reverse x.reverse (by simpa using h)
 unfold q6x
 simpa using this
def q2j (s:Yy):Yy:=s.take (q6x 47 s).toNat
def q2f (s:Yy):Yy:=s.drop (q6x 47 s+1).toNat
theorem j0q (c:UInt8) : ∀s:Yy,c ∉ s \/ ∃ x y,s=x++c::y/\c ∉ y
 | []=>Or.inl (by simp)
 | b::s=>by
  rcases j0q c s with h|⟨x,y,rfl,h⟩
  ·by_cases hb:b=c
   ·subst hb;exact Or.inr ⟨[],s,rfl,h⟩
   ·exact Or.inl (by simp [h,Ne.symm hb])
  ·exact Or.inr ⟨b::x,y,rfl,h⟩
theorem qsm {s:Yy} (h:47 ∉ s):q2j s = []/\q2f s=s:=by
 unfold q2j q2f;rw [j4w h];exact ⟨rfl,rfl⟩
theorem j0g {x y:Yy} (h:47 ∉ y):q2j (x++47::y)=x/\q2f (x++47::y)=y:=by
 unfold q2j q2f;rw [j8m h]
 constructor
 ·simp
 ·rw [show (((x.length:Nat):Int)+1).toNat=x.length+1 from by omega];simp
theorem qxh (c:UInt8) : ∀(x cur y:Yy),spl c cur (x++c::y)=spl c cur x++spl c [] y
 | [],cur,y=>by simp [spl]
 | b::x,cur,y=>by
  rw [List.cons_append,spl,spl]
  split
  ·rw [qxh c x];rfl
  ·rw [qxh c x]
theorem j5y (s:Yy):(47 ∉ s/\q2j s = []/\q2f s=s/\spl 47 [] s = [s])\/(s=q2j s++47::q2f s/\47 ∉ q2f s/\spl 47 [] s=spl 47 [] (q2j s) ++ [q2f s]):=by
 rcases j0q 47 s with h|⟨x,y,rfl,h⟩
 ·exact Or.inl ⟨h,(qsm h).1,(qsm h).2,q70 47 s h⟩
 ·refine Or.inr ?_
  rw [(j0g h).1,(j0g h).2]
  exact ⟨rfl,h,by rw [qxh,q70 47 y h]⟩
abbrev j5k:Yy:=[48,49,50,51,52,53,54,55,56,57]
theorem jf9 (c:UInt8):j5k.contains c=q0u c:=by
 have h : ∀k:Fin 256,j5k.contains (UInt8.ofNat k.val)=q0u (UInt8.ofNat k.val):=by decide +kernel
 have h1:=h ⟨c.toNat,c.toNat_lt⟩
 simpa using h1
theorem dropWhile_nil (p:UInt8->Bool) : ∀l:Yy,l.dropWhile p = []↔l.all p=true
 | []=>by simp
 | b::l=>by
  rw [List.dropWhile_cons]
  cases h:p b with
  | true=>simp [h,dropWhile_nil p l]
  | false=>simp [h]
theorem qcj {p:UInt8->Bool} {c:UInt8} : ∀{l:Yy},c∈l->p c=false->c∈l.dropWhile p
 | b::l,h,hp=>by
  rw [List.dropWhile_cons]
  rcases List.mem_cons.1 h with rfl|h
  ·simp [hp]
  ·cases hb:p b with
   | true=>simpa using qcj h hp
   | false=>simp [h]
theorem jgy (s:Yy):decide (Lib.trimS s j5k = [])=s.all q0u:=by
 have he:(fun c=>j5k.contains c)=q0u:=funext jf9
 unfold Lib.trimS Lib.trimRightS Lib.trimLeftS
 rw [he]
 cases h:s.all q0u with
 | true =>
  have h2:s.reverse.all q0u=true:=by rw [List.all_reverse];exact h
  rw [(dropWhile_nil q0u s.reverse).2 h2];simp
 | false =>
  rw [decide_eq_false_iff_not,dropWhile_nil]
  intro hc
  have h3 : ∃ c,c∈s/\q0u c=false:=by
   have:=List.all_eq_false.1 h
   obtain ⟨c,hc,hn⟩:=this
   exact ⟨c,hc,by simpa using hn⟩
  obtain ⟨c,hm,hn⟩:=h3
  have h4:c∈(s.reverse.dropWhile q0u).reverse:=by simpa using qcj (l:=s.reverse) (by simpa using hm) hn
  have:=List.all_eq_true.1 hc c h4
  rw [hn] at this;cases this
def numOf (s:Yy):Int:=match Lib.atoiAll s with
 | .ok v=>v
 | .range=>Lib.atoiSat s
 | _=>0
def qmh (s:Yy):Bool:=match Lib.atoiAll s with
 | .ok v=>decide (2<=v)&&(decide (v<=999999999)&&decide (s=Lib.itoa v))
 | _=>false
theorem jd9 {n:Int} (h0:2<=n) (h1:n<=999999999):qmh (Lib.itoa n)=true/\numOf (Lib.itoa n)=n:=by
 unfold qmh numOf;rw [qcz (by omega) h1];simp [h0,h1]
theorem qun {s:Yy} (h:qmh s=true):2<=numOf s/\numOf s<=999999999/\s=Lib.itoa (numOf s):=by
 unfold qmh at h;unfold numOf
 cases e:Lib.atoiAll s with
 | ok v=>rw [e] at h;simpa using h
 | range=>rw [e] at h;cases h
 | «syntax»=>rw [e] at h;cases h
def okS (p:Yy):Bool:=q3e p&&(!anyS (q2j p)&&(!q1l (q2f p)||(qmh ((q2f p).drop 1) && !decide (q2j p = []))))
def q9u (p:Yy):Yy×(Int×Bool):=if okS p then (if q1l (q2f p) then (q2j p,(numOf ((q2f p).drop 1),true)) else (p,(0,true))) else ([],(0,false))
theorem qa3 {s:Yy} (h:q3e s=true):s.length<=60/\(spl 47 [] s).all q8u=true:=by
 unfold q3e at h;simpa using h
theorem jlx {s:Yy} (h:q3e s=true):s ≠ []:=by
 rintro rfl;exact absurd h (by decide)
theorem qk3 {p:Yy} (h:okS p=true):q3e p=true/\anyS (q2j p)=false/\(q1l (q2f p)=true->qmh ((q2f p).drop 1)=true/\q2j p ≠ []):=by
 unfold okS at h
 simp only [Bool.and_eq_true,Bool.or_eq_true,Bool.not_eq_true',decide_eq_false_iff_not] at h
 refine ⟨h.1,h.2.1,fun ht=>?_⟩
 rcases h.2.2 with h3|h3
 ·rw [ht] at h3;cases h3
 ·exact h3
end Go.Proofs.YtapfankgdkdkgaaGreatDoor.AM
namespace Go.Proofs
open Go.RowKit Go.Shelf Go.Lib
shelf_lay Lays.n160 Nm 160 at Tryz as Tryz.laysTrim
namespace YtapfankgdkdkgaaGreatDoor.AM
def qlj (s cs:List UInt8):Option (List UInt8):=if cs=j5k/\s.length<=1000000 then some (Lib.trimS s j5k) else none
def je1:FC:={ f:=166,args:=[qmx,qmx],res:=qmx,F:=fun p=>qlj p.1 p.2 }
theorem jfj:q05 Inv Tryz.prog je1:=fun G hG=>⟨⟨by kernel_rfl,fun a r h=>by
 obtain ⟨s,cs⟩:=a
 have h':qlj s cs=some r:=h
 unfold qlj at h'
 split at h'
 case isFalse=>cases h'
 rename_i hc
 obtain ⟨rfl,hl⟩:=hc
 have hr:Lib.trimS s j5k=r:=Option.some.inj h'
 intro Pc w vs hg hlt hv
 obtain ⟨l⟩:=vs
 match l,hv with
 | [x,y],⟨h1,h2,_⟩ =>
  obtain rfl:x = .string (ba s):=q0b h1
  obtain rfl:y = .string (ba j5k):=q0b h2
  have e1:(ba s).data.toList=s:=by simp [ba]
  have e2:(ba j5k).data.toList=j5k:=by simp [ba]
  have hh:=Any.strings_Trim_laid Tryz.laysTrim (by kernel_rfl) (ba s) (ba j5k) w (by rw [q37];omega) (by rw [q37];decide) (by rw [e2];exact ascii_of_all (by decide))
  rw [e1,e2,hr] at hh
  refine hh.mono ?_
  rintro e w' ⟨rfl,hb⟩
  exact q46 rfl hb (q06 (.string (ba r)))⟩,rfl⟩
end YtapfankgdkdkgaaGreatDoor.AM
end Go.Proofs
namespace Go.Proofs.YtapfankgdkdkgaaGreatDoor.AM
open Go.RowKit
@[reducible] def jai:SSt:=⟨[(0,.one (.c (.d .str))),(1,.one (.c (.d (.int .u8)))),(5,.one (.c (.d (.int .i64))))],[],[]⟩
@[reducible] def qy0:List (Exit×SSt):=[(.ret,⟨[(4,.one (.c (.d (.int .i64))))],[],[]⟩),(.exit 0,⟨[],[],[]⟩)]
def qh6 (n:Nat) (rec:(Yy)->Int->Int->Option Zb) (a1:Yy) (a2:Int) (a3:Int):Option Zb :=
 (bif decide (0<=a3) then (sAt a1 a3).bind fun c2=>(bif decide (c2=a2) then some (Sum.inl ((a3,()),((),()))) else q00 (IntKind.wrap .i64 (a3 - (1:Int))) fun n3=>rec a1 a2 n3) else some (Sum.inr (((),((),())))))
def j12 (n:Nat):Stp jai qy0:=fun rec p=>qh6 n (fun a1 a2 a3=>rec ((a1,(a2,(a3,()))),((),()))) p.1.1 p.1.2.1 p.1.2.2.1
def q7o (n m:Nat) (a1:Yy) (a2:Int) (a3:Int):Option Zb:=q0v (j12 n) m ((a1,(a2,(a3,()))),((),()))
theorem q8l (n m:Nat) (a1 a2 a3):q7o n (m+1) a1 a2 a3=qh6 n (fun a1 a2 a3=>q7o n m a1 a2 a3) a1 a2 a3:=rfl
def qiy (n:Nat) (a1:Yy) (a2:Int):Option Int :=
 q00 (IntKind.wrap .i64 ((a1.length:Int) - (1:Int))) fun (n1:Int)=>(q7o n n a1 a2 n1).bind fun o4=>Sum.elim (fun (q5:(Int×Unit)×Unit×Unit)=>some q5.1.1) (fun (q6:(Unit)×Unit×Unit)=>some (-1:Int)) o4
def jhb (n:Nat):FC:={ f:=80,args:=[.one (.c (.d .str)),.one (.c (.d (.int .u8)))],res:=.one (.c (.d (.int .i64))),F:=fun p=>qiy n p.1 p.2 }
theorem j2a (n:Nat):q05 Inv Tryz.prog (jhb n):=mkF Tryz.func80 [] [q4o j12 n] (cn) (by kernel_rfl) ⟨ls (by intro rec p;kernel_rfl),trivial⟩ (by intro a;kernel_rfl)
def qqd (n:Nat) (a1:Yy) (a2:Int):Option Int :=
 (qiy n a1 a2).bind fun r1=>some r1
def jg5 (n:Nat):FC:={ f:=164,args:=[.one (.c (.d .str)),.one (.c (.d (.int .u8)))],res:=.one (.c (.d (.int .i64))),F:=fun p=>qqd n p.1 p.2 }
theorem j0b (n:Nat):q05 Inv Tryz.prog (jg5 n):=mkF Tryz.func164 [] [] (cc (j2a n) <| cn) (by kernel_rfl) trivial (by intro a;kernel_rfl)
def q9g (n:Nat) (a1:Yy) (a2:Yy):Option (Yy×Bool) :=
 (q1e n a1 a2).bind fun r1=>(bif !r1 then some (a1,false) else (q1a a1 (a2.length:Int) (a1.length:Int)).bind fun s2=>some (s2,true))
def qq1 (n:Nat):FC:={ f:=190,args:=[.one (.c (.d .str)),.one (.c (.d .str))],res:=.tup [.c (.d .str),.c (.d .bool)],F:=fun p=>q9g n p.1 p.2 }
theorem qor (n:Nat):q05 Inv Tryz.prog (qq1 n):=mkF Tryz.func190 [] [] (cc (q3x n) <| cn) (by kernel_rfl) trivial (by intro a;kernel_rfl)
def q8c (n:Nat) (a1:Yy) (a2:Yy):Option (Yy×Bool) :=
 (q9g n a1 a2).bind fun r1=>some r1
def qry (n:Nat):FC:={ f:=165,args:=[.one (.c (.d .str)),.one (.c (.d .str))],res:=.tup [.c (.d .str),.c (.d .bool)],F:=fun p=>q8c n p.1 p.2 }
theorem qwc (n:Nat):q05 Inv Tryz.prog (qry n):=mkF Tryz.func165 [] [] (cc (qor n) <| cn) (by kernel_rfl) trivial (by intro a;kernel_rfl)
def q0m (n:Nat) (a1:Yy) (a2:Yy):Option Bool :=
 (q1e n a1 a2).bind fun r1=>some r1
def q9l (n:Nat):FC:={ f:=152,args:=[.one (.c (.d .str)),.one (.c (.d .str))],res:=.one (.c (.d .bool)),F:=fun p=>q0m n p.1 p.2 }
theorem qg8 (n:Nat):q05 Inv Tryz.prog (q9l n):=mkF Tryz.func152 [] [] (cc (q3x n) <| cn) (by kernel_rfl) trivial (by intro a;kernel_rfl)
def qck (n:Nat) (a1:Yy):Option Bool :=
 (q8c n a1 ([118]:Yy)).bind fun r1=>(bif r1.2 then (bif !decide (r1.1=([]:Yy)) then (qlj r1.1 ([48,49,50,51,52,53,54,55,56,57]:Yy)).bind fun (r2:Yy)=>some (decide (r2=([]:Yy))) else some false) else some false)
def j9t (n:Nat):FC:={ f:=134,args:=[.one (.c (.d .str))],res:=.one (.c (.d .bool)),F:=fun p=>qck n p }
theorem qs8 (n:Nat):q05 Inv Tryz.prog (j9t n):=mkF Tryz.func134 [] [] (cc (qwc n) <| cc (jfj) <| cn) (by kernel_rfl) trivial (by intro a;kernel_rfl)
end Go.Proofs.YtapfankgdkdkgaaGreatDoor.AM
namespace Go.Proofs.YtapfankgdkdkgaaGreatDoor.AM
open Go.RowKit
def qq9 (n:Nat) (a1:Int):Option Bool :=
 (bif decide (97<=a1) then (bif decide (a1<=122) then (bif decide (a1<=122) then some true else (bif decide (a1=45) then some true else (bif decide (a1=95) then some true else some (decide (a1=46))))) else (bif decide (65<=a1) then (bif decide (a1<=90) then (bif decide (a1<=90) then some true else (bif decide (a1=45) then some true else (bif decide (a1=95) then some true else some (decide (a1=46))))) else (bif decide (48<=a1) then (bif decide (a1<=57) then some true else (bif decide (a1=45) then some true else (bif decide (a1=95) then some true else some (decide (a1=46))))) else (bif decide (a1=45) then some true else (bif decide (a1=95) then some true else some (decide (a1=46)))))) else (bif decide (48<=a1) then (bif decide (a1<=57) then some true else (bif decide (a1=45) then some true else (bif decide (a1=95) then some true else some (decide (a1=46))))) else (bif decide (a1=45) then some true else (bif decide (a1=95) then some true else some (decide (a1=46))))))) else (bif decide (65<=a1) then (bif decide (a1<=90) then (bif decide (a1<=90) then some true else (bif decide (a1=45) then some true else (bif decide (a1=95) then some true else some (decide (a1=46))))) else (bif decide (48<=a1) then (bif decide (a1<=57) then some true else (bif decide (a1=45) then some true else (bif decide (a1=95) then some true else some (decide (a1=46))))) else (bif decide (a1=45) then some true else (bif decide (a1=95) then some true else some (decide (a1=46)))))) else (bif decide (48<=a1) then (bif decide (a1<=57) then some true else (bif decide (a1=45) then some true else (bif decide (a1=95) then some true else some (decide (a1=46))))) else (bif decide (a1=45) then some true else (bif decide (a1=95) then some true else some (decide (a1=46)))))))
def jgz (n:Nat):FC:={ f:=182,args:=[.one (.c (.d (.int .u8)))],res:=.one (.c (.d .bool)),F:=fun p=>qq9 n p }
theorem jfb (n:Nat):q05 Inv Tryz.prog (jgz n):=mkF Tryz.func182 [] [] (cn) (by kernel_rfl) trivial (by intro a;kernel_rfl)
@[reducible] def jao:SSt:=⟨[(0,.one (.c (.d .str))),(15,.one (.c (.d (.int .i64)))),(16,.one (.c (.d (.int .i64))))],[],[]⟩
@[reducible] def qwn:List (Exit×SSt):=[(.ret,⟨[(2,.one (.c (.d .bool)))],[],[]⟩),(.exit 0,⟨[],[],[]⟩)]
def qqo (n:Nat) (rec:(Yy)->Int->Int->Option Za) (a1:Yy) (a2:Int) (a3:Int):Option Za :=
 (bif decide (a3<a2) then (sAt a1 a3).bind fun c1=>(qq9 n c1).bind fun r2=>(bif !r2 then some (Sum.inl ((false,()),((),()))) else q00 (IntKind.wrap .i64 (a3+1)) fun n3=>rec a1 a2 n3) else some (Sum.inr (((),((),())))))
def j25 (n:Nat):Stp jao qwn:=fun rec p=>qqo n (fun a1 a2 a3=>rec ((a1,(a2,(a3,()))),((),()))) p.1.1 p.1.2.1 p.1.2.2.1
def q7x (n m:Nat) (a1:Yy) (a2:Int) (a3:Int):Option Za:=q0v (j25 n) m ((a1,(a2,(a3,()))),((),()))
theorem qgn (n m:Nat) (a1 a2 a3):q7x n (m+1) a1 a2 a3=qqo n (fun a1 a2 a3=>q7x n m a1 a2 a3) a1 a2 a3:=rfl
def qz3 (n:Nat) (a1:Yy):Option Bool :=
 (bif decide (a1=([]:Yy)) then some false else (bif decide (a1=([46]:Yy)) then some false else (bif decide (a1=([46,46]:Yy)) then some false else (q7x n n a1 (a1.length:Int) (0:Int)).bind fun o4=>Sum.elim (fun (q5:(Bool×Unit)×Unit×Unit)=>some q5.1.1) (fun (q6:(Unit)×Unit×Unit)=>some true) o4)))
def jen (n:Nat):FC:={ f:=154,args:=[.one (.c (.d .str))],res:=.one (.c (.d .bool)),F:=fun p=>qz3 n p }
theorem jfc (n:Nat):q05 Inv Tryz.prog (jen n):=mkF Tryz.func154 [] [q4o j25 n] (cc (jfb n) <| cn) (by kernel_rfl) ⟨ls (by intro rec p;kernel_rfl),trivial⟩ (by intro a;kernel_rfl)
theorem j69 (n:Nat) (c:UInt8):qq9 n ((c.toNat:Nat):Int)=some (q7t c):=by
 have h : ∀k:Fin 256,qq9 0 ((k.val:Nat):Int)=some (q7t (UInt8.ofNat k.val)):=by decide +kernel
 have h1:=h ⟨c.toNat,c.toNat_lt⟩
 have e:UInt8.ofNat c.toNat=c:=by simp
 rw [e] at h1
 exact h1
theorem qmu (n:Nat) (s:Yy) (hL:s.length<=1000000) : ∀m j:Nat,j<=s.length->s.length - j<m->q7x n m s ((s.length:Nat):Int) (j:Int)=some (if (s.drop j).all q7t=true then Sum.inr ((),((),())) else Sum.inl ((false,()),((),())))
 | 0,j,_,h=>absurd h (Nat.not_lt_zero _)
 | m+1,j,hj,h=>by
  rw [qgn]
  unfold qqo
  by_cases c0:j<s.length
  ·have c0':((j:Nat):Int)<((s.length:Nat):Int):=by omega
   have ih:=qmu n s hL m (j+1) (by omega) (by omega)
   have hd:s.drop j=s[j]::s.drop (j+1):=(List.drop_eq_getElem_cons c0)
   simp only [c0',decide_true,cond_true,q1g c0,Option.bind_some,j69,q00,q03 (show j<4611686018427387904 by omega),ih,hd,List.all_cons]
   cases q7t s[j]<;>simp
  ·have c0' : ¬ ((j:Nat):Int)<((s.length:Nat):Int):=by omega
   have:s.drop j = []:=List.drop_eq_nil_of_le (by omega)
   simp [c0',this]
theorem j4g (n:Nat) (s:Yy) (hL:s.length<=1000000) (hn:s.length<n):qz3 n s=some (q8u s):=by
 unfold qz3 q8u
 have:=qmu n s hL n 0 (Nat.zero_le _) (by omega)
 rw [show ((0:Nat):Int)=(0:Int) from rfl] at this
 rw [this,List.drop_zero]
 cases decide (s = [])<;>cases decide (s = [46])<;>cases decide (s = [46,46])<;>cases s.all q7t<;>rfl
theorem j2n {a:Int} (h0:0<=a):Lib.itoa a=if a<10 then [UInt8.ofNat (48+a.toNat)] else Lib.itoa (a / 10) ++ [UInt8.ofNat (48+(a % 10).toNat)]:=by
 rw [q0y h0,Lib.decDigits]
 by_cases h:a<10
 ·rw [if_pos h,dif_pos (by omega)]
 ·rw [if_neg h,dif_neg (by omega),q0y (by omega)]
  rw [show (a / 10).toNat=a.toNat / 10 from by omega,show (a % 10).toNat=a.toNat % 10 from by omega]
theorem q8a {n:Int} (h:0<=n/\n<=999999999):(Lib.itoa n).length<=9:=by
 rw [q0y h.1];exact qb5 8 n.toNat (by omega)
theorem qs9 (s:Yy):(q1k s).length<=s.length:=by
 unfold q1k;split
 ·rw [List.length_drop];omega
 ·exact Nat.le_refl _
theorem q2c {s t:Yy} (h:s.length+t.length<=9223372036854775807):q5q s t=some (s++t):=if_pos h
theorem qbi (n m:Nat) (a1 a2 a3 i i' a5 a6 a7 x:Int) (a8 a9:Yy) (hx:q0d ([a1,a2,a3]:List Int) i=some x) (hi:i<3) (hw:IntKind.wrap .i64 (i+1)=i') :
  q4c n (m+1) a1 a2 a3 i a5 a6 a7 a8 a9=if j2z x=true then q4c n m a1 a2 a3 i' a5 a6 a7 a8 a9 else some (Sum.inl ((false,()),((),()))):=by
 rw [q6r]
 unfold qci j2z
 simp only [hi,decide_true,cond_true,hx,Option.bind_some,q00,hw]
 by_cases h1:x<0
 ·have : ¬ (0:Int)<=x:=by omega
  simp [h1,this]
 ·have h1':(0:Int)<=x:=by omega
  by_cases h2:999999999<x
  ·have : ¬ x<=999999999:=by omega
   simp [h1,h2,this]
  ·have:x<=999999999:=by omega
   simp [h1,h2,h1',this]
theorem q44 (n:Nat) (v:VD) (hn:4<=n):q53 n v=some (q0r v):=by
 obtain ⟨k,rfl⟩ : ∃ k,n=k+1+1+1+1:=⟨n - 4,by omega⟩
 obtain ⟨a,b,c,p,q⟩:=v
 unfold q53
 rw [qbi _ _ a b c 0 1 _ _ _ a _ _ rfl (by decide) rfl,qbi _ _ a b c 1 2 _ _ _ b _ _ rfl (by decide) rfl,qbi _ _ a b c 2 3 _ _ _ c _ _ rfl (by decide) rfl,q6r]
 unfold qci q0r qkm qfd
 dsimp only
 cases j2z a with
 | false=>rfl
 | true=>cases j2z b with
  | false=>rfl
  | true=>cases j2z c with
   | false=>rfl
   | true =>
    simp only [if_true,Bool.true_and,show ¬ (3:Int)<3 from by decide,decide_false,cond_false,Option.bind_some,Sum.elim_inr]
    cases q54 q41 p<;>cases q54 q20 q<;>rfl
theorem qss (n:Nat) (s:Yy) (hs:s.length<=1000000):q6f n s [118]=some (q1k s):=by
 unfold q6f q8f q1e q1k
 cases s with
 | nil=>rfl
 | cons b r =>
  have h1:((List.length ([118]:Yy):Nat):Int)<=((List.length (b::r):Nat):Int):=by simp;omega
  have h2:q1a (b::r) (0:Int) ((List.length ([118]:Yy):Nat):Int)=some [b]:=sub_zero (b:=1) (by simp)
  have h3:q1a (b::r) ((List.length ([118]:Yy):Nat):Int) ((List.length (b::r):Nat):Int)=some r:=by
   have:=sub_le (l:=b::r) (a:=1) (b:=(b::r).length) (by simp) (Nat.le_refl _)
   rw [show ((List.length ([118]:Yy):Nat):Int)=((1:Nat):Int) from rfl,this]
   simp
  simp only [h1,decide_true,cond_true,h2,Option.bind_some,List.head?_cons,Option.some.injEq,List.drop_succ_cons,List.drop_zero]
  by_cases hb:b=118
  ·simp only [hb,decide_true,cond_true,if_true] at h3 ⊢
   rw [h3];rfl
  ·have : ¬ [b]=([118]:Yy):=fun h=>hb (by simpa using h)
   simp [this,hb]
theorem qjz {n:Int} (h:0<=n/\n<=999999999):qkz n=some (Lib.itoa n):=if_pos ⟨by omega,by omega⟩
theorem qdq (s:Yy) (j:Nat) (h:j<s.length):(s.take (j+1)).reverse=s[j]::(s.take j).reverse:=by
 rw [List.take_succ_eq_append_getElem h];simp
theorem qn4 (n:Nat) (c:UInt8) (s:Yy) (hL:s.length<=1000000) : ∀m j:Nat,j<=s.length->j<m->q7o n m s ((c.toNat:Nat):Int) ((j:Int) - 1)=some (if q6l c (s.take j).reverse = -1 then Sum.inr ((),((),())) else Sum.inl ((q6l c (s.take j).reverse,()),((),())))
 | 0,j,_,h=>absurd h (Nat.not_lt_zero _)
 | m+1,0,_,_=>by
  rw [q8l]
  unfold qh6
  simp [q6l]
 | m+1,j+1,hj,h=>by
  rw [q8l]
  unfold qh6
  have e1:((j+1:Nat):Int) - 1=((j:Nat):Int):=by omega
  have ih:=qn4 n c s hL m j (by omega) (by omega)
  have w1:IntKind.wrap .i64 (((j:Nat):Int) - 1)=((j:Nat):Int) - 1:=wrap64 (by omega) (by omega)
  have c0:(0:Int)<=((j:Nat):Int):=by omega
  have d1:decide (((s[j].toNat:Nat):Int)=((c.toNat:Nat):Int))=decide (s[j]=c):=decide_eq_decide.2 ⟨fun h=>UInt8.toNat_inj.1 (by omega),fun h=>by rw [h]⟩
  rw [e1]
  simp only [c0,decide_true,cond_true,q1g (show j<s.length by omega),Option.bind_some,d1,q00,w1,ih,qdq s j (by omega),q6l]
  by_cases h0:s[j]=c
  ·have : ¬ (((s.take j).reverse.length:Nat):Int) = -1:=by omega
   have l1:(s.take j).reverse.length=j:=by simp;omega
   simp only [h0,decide_true,cond_true,if_true,this,if_false,l1]
   rw [if_neg (by omega)]
  ·simp [h0]
theorem j6k (n:Nat) (c:UInt8) (s:Yy) (hL:s.length<=1000000) (hn:s.length<n):qiy n s ((c.toNat:Nat):Int)=some (q6x c s):=by
 unfold qiy
 have:=qn4 n c s hL n s.length (Nat.le_refl _) hn
 have w1:IntKind.wrap .i64 (((s.length:Nat):Int) - 1)=((s.length:Nat):Int) - 1:=wrap64 (by omega) (by omega)
 simp only [q00,w1,this,List.take_length]
 unfold q6x
 by_cases h:q6l c s.reverse = -1
 ·simp [h]
 ·simp [h]
theorem qnw (n:Nat) (s:Yy) (hL:s.length<=1000000) (hn:s.length<n):qqd n s (47:Int)=some (q6x 47 s):=by
 unfold qqd
 rw [show (47:Int)=(((47:UInt8).toNat:Nat):Int) from rfl,j6k n 47 s hL hn];rfl
theorem qyz (n:Nat) (s:Yy) (hs:s.length<=1000000):q8c n s [118]=some (if s.head? = some 118 then (s.drop 1,true) else (s,false)):=by
 unfold q8c q9g q1e
 cases s with
 | nil=>rfl
 | cons b r =>
  have h1:((List.length ([118]:Yy):Nat):Int)<=((List.length (b::r):Nat):Int):=by simp;omega
  have h2:q1a (b::r) (0:Int) ((List.length ([118]:Yy):Nat):Int)=some [b]:=sub_zero (b:=1) (by simp)
  have h3:q1a (b::r) ((List.length ([118]:Yy):Nat):Int) ((List.length (b::r):Nat):Int)=some r:=by
   have:=sub_le (l:=b::r) (a:=1) (b:=(b::r).length) (by simp) (Nat.le_refl _)
   rw [show ((List.length ([118]:Yy):Nat):Int)=((1:Nat):Int) from rfl,this]
   simp
  simp only [h1,decide_true,cond_true,h2,Option.bind_some,List.head?_cons,Option.some.injEq,List.drop_succ_cons,List.drop_zero]
  by_cases hb:b=118
  ·simp only [hb,decide_true,cond_true,if_true,Bool.not_true,cond_false] at h3 ⊢
   rw [h3];rfl
  ·have : ¬ [b]=([118]:Yy):=fun h=>hb (by simpa using h)
   simp [this,hb]
theorem qjr (n:Nat) (s:Yy) (hs:s.length<=1000000):qck n s=some (q1l s):=by
 unfold qck q1l q2b
 rw [qyz n s hs]
 by_cases h:s.head? = some 118
 ·have hl:(s.drop 1).length<=1000000:=by rw [List.length_drop];omega
  have ht:qlj (s.drop 1) j5k=some (Lib.trimS (s.drop 1) j5k):=if_pos ⟨rfl,hl⟩
  simp only [h,if_true,Option.bind_some,cond_true,ht,jgy,decide_true,Bool.true_and]
  cases decide (s.drop 1 = [])<;>cases (s.drop 1).all q0u<;>rfl
 ·simp [h]
end Go.Proofs.YtapfankgdkdkgaaGreatDoor.AM
