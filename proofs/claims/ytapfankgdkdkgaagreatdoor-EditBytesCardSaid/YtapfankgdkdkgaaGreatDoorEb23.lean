
import Derived.Test.YtapfankgdkdkgaaGreatDoorEb16
import Derived.Test.YtapfankgdkdkgaaGreatDoorEb10
import Derived.Test.YtapfankgdkdkgaaGreatDoorEb15
import Derived.Test.YtapfankgdkdkgaaGreatDoorEb9
import Derived.Test.YtapfankgdkdkgaaGreatDoorEb12
import Derived.Test.YtapfankgdkdkgaaGreatDoorEb13
set_option linter.unusedVariables false
set_option linter.unusedSimpArgs false
namespace Go.Proofs.YtapfankgdkdkgaaGreatDoor.AM.Lx
open Go.RowKit
abbrev Wd:=Yy×Int
def isB (c:UInt8):Bool:=decide (((c.toNat:Nat):Int)=32)||decide (((c.toNat:Nat):Int)=9)
def blk (s:Yy) (a b:Nat):Prop:=((s.drop a).take (b - a)).all isB=true
def Std (s:Yy):Nat->List Wd->Nat->Prop
 | a,[],e=>e=a
 | a,w::ws,e=>∃ p:Nat,w.2=(p:Int)/\a<=p/\blk s a p/\w.1=(s.drop p).take w.1.length/\w.1 ≠ []/\p+w.1.length<=s.length/\Std s (p+w.1.length) ws e
theorem Std.le {s:Yy} : ∀{ws:List Wd} {a e:Nat},Std s a ws e->a<=e
 | [],a,e,h=>Nat.le_of_eq (Eq.symm h)
 | w::ws,a,e,⟨p,_,h1,_,_,_,_,h2⟩=>by have:=Std.le h2;omega
theorem Std.snoc {s:Yy} : ∀{ws:List Wd} {a e p:Nat} {t:Yy},Std s a ws e->e<=p->blk s e p->t=(s.drop p).take t.length->t ≠ []->p+t.length<=s.length->Std s a (ws ++ [(t,(p:Int))]) (p+t.length)
 | [],a,e,p,t,h,h1,h2,h3,h4,h5=>by
  have h':e=a:=h
  subst h'
  exact ⟨p,rfl,h1,h2,h3,h4,h5,rfl⟩
 | w::ws,a,e,p,t,⟨q,g1,g2,g3,g4,g5,g6,g7⟩,h1,h2,h3,h4,h5=>⟨q,g1,g2,g3,g4,g5,g6,Std.snoc g7 h1 h2 h3 h4 h5⟩
theorem take_one {s:Yy} {i:Nat} (h:i<s.length):(s.drop i).take (i+1 - i) = [s[i]]:=by
 rw [show i+1 - i=1 from by omega,List.drop_eq_getElem_cons h];rfl
theorem jje {β:Type} (l:List β) (x y:β):(l ++ [x]).set l.length y=l ++ [y]:=by simp
end Go.Proofs.YtapfankgdkdkgaaGreatDoor.AM.Lx
namespace Go.Proofs.YtapfankgdkdkgaaGreatDoor.AM.Lx
open Go.RowKit
def q2k (c:UInt8):Bool:=decide (((c.toNat:Nat):Int)=40)||(decide (((c.toNat:Nat):Int)=41)||(decide (((c.toNat:Nat):Int)=91)||(decide (((c.toNat:Nat):Int)=93)||decide (((c.toNat:Nat):Int)=44))))
def pfx:Yy->Bool
 | a::b::_=>decide (a=47)&&decide (b=47)
 | _=>false
def addL (ws:List Wd) (c:UInt8):List Wd:=match ws.getLast? with
 | some (t,p)=>ws.dropLast ++ [(t ++ [c],p)]
 | none=>ws
def qpi:Yy->Nat->Bool->List Wd->List Wd×Nat
 | [],i,_,ws=>(ws,i)
 | c::r,i,op,ws =>
  if q2k c then qpi r (i+1) false (ws ++ [([c],(i:Int))])
  else if isB c then qpi r (i+1) false ws
  else if op then qpi r (i+1) true (addL ws c)
  else if pfx (c::r) then (ws,i)
  else qpi r (i+1) true (ws ++ [([c],(i:Int))])
theorem pfx_t (n:Nat) (s:Yy) (hs:s.length<=1000000):q0x n s [47,47]=some (pfx s):=by
 unfold q0x q1t
 match s with
 | []=>rfl
 | [a]=>simp [pfx]
 | a::b::r =>
  have h:((List.length ([47,47]:Yy):Nat):Int)<=((List.length (a::b::r):Nat):Int):=by simp;omega
  simp only [h,decide_true,cond_true]
  rw [sub_zero (by simp)]
  simp [pfx]
theorem qe1 (ws:List Wd) (t:Yy) (p:Int) (c:UInt8):addL (ws ++ [(t,p)]) c=ws ++ [(t ++ [c],p)]:=by
 unfold addL;simp
theorem jrz (n:Nat) (rec:Yy->Bool->Int->Int->List Wd->Option (((Unit×(Int×Unit))×Unit×((List Wd)×Unit))⊕((Yy×(Unit×Unit))×Unit×((List Wd)×Unit)))) (s:Yy) (op:Bool) (L:Int) (i:Nat) (ws:List Wd)
  (hi:i<s.length) (hL:L=((s.length:Nat):Int)) (hs:s.length<=1000000) (hw:ws.length<=i) (ho:op=true->∃ ws0 t p,ws=ws0 ++ [(t,((p:Nat):Int))]/\p<=i/\t=(s.drop p).take (i - p)) :
  qw8 n rec s op L (i:Int) ws=if q2k s[i] then rec s false L ((i+1:Nat):Int) (ws ++ [([s[i]],(i:Int))])
   else if isB s[i] then rec s false L ((i+1:Nat):Int) ws
   else if op then rec s true L ((i+1:Nat):Int) (addL ws s[i])
   else if pfx (s.drop i) then some (Sum.inl (((),((i:Int),())),((),(ws,()))))
   else rec s true L ((i+1:Nat):Int) (ws ++ [([s[i]],(i:Int))]):=by
 subst hL
 have c0:((i:Nat):Int)<((s.length:Nat):Int):=by omega
 have w1:=q0a (show i<4611686018427387904 by omega)
 have a1:q2g 24 ws [([s[i]],(i:Int))]=some (ws ++ [([s[i]],(i:Int))]):=q2i (by simp;omega)
 have a2:q2g 24 ws [(([]:Yy),(i:Int))]=some (ws ++ [([],(i:Int))]):=q2i (by simp;omega)
 have s1:q1d s ((i:Nat):Int) ((i+1:Nat):Int)=some [s[i]]:=by rw [sub_le (by omega) (by omega),take_one hi]
 have s2:q1d s ((i:Nat):Int) ((s.length:Nat):Int)=some (s.drop i):=by
  rw [sub_le (by omega) (Nat.le_refl _),List.take_of_length_le (by rw [List.length_drop];omega)]
 have hp:=pfx_t n (s.drop i) (by rw [List.length_drop];omega)
 unfold qw8
 simp only [c0,decide_true,cond_true,q1l hi,Option.bind_some,q04,w1,s1,s2,a1,a2,hp]
 have eqc : ∀k:Int,decide (((s[i].toNat:Nat):Int)=k)=true\/decide (((s[i].toNat:Nat):Int)=k)=false:=fun k=>by cases decide (((s[i].toNat:Nat):Int)=k)<;>simp
 rcases eqc 40 with h40|h40
 ·simp only [q2k,h40,cond_true,Bool.true_or,Bool.or_true,Bool.false_or,if_true]
 rcases eqc 41 with h41|h41
 ·simp only [q2k,h40,h41,cond_true,cond_false,Bool.true_or,Bool.or_true,Bool.false_or,if_true]
 rcases eqc 91 with h91|h91
 ·simp only [q2k,h40,h41,h91,cond_true,cond_false,Bool.true_or,Bool.or_true,Bool.false_or,if_true]
 rcases eqc 93 with h93|h93
 ·simp only [q2k,h40,h41,h91,h93,cond_true,cond_false,Bool.true_or,Bool.or_true,Bool.false_or,if_true]
 rcases eqc 44 with h44|h44
 ·simp only [q2k,h40,h41,h91,h93,h44,cond_true,cond_false,Bool.true_or,Bool.or_true,Bool.false_or,if_true]
 have hS:q2k s[i]=false:=by simp only [q2k,h40,h41,h91,h93,h44,Bool.or_false]
 rcases eqc 32 with h32|h32
 ·have hB:isB s[i]=true:=by simp only [isB,h32,Bool.true_or]
  simp only [hS,hB,h40,h41,h91,h93,h44,h32,cond_true,cond_false,if_true,Bool.false_eq_true,if_false]
 rcases eqc 9 with h9|h9
 ·have hB:isB s[i]=true:=by simp only [isB,h9,Bool.or_true]
  simp only [hS,hB,h40,h41,h91,h93,h44,h32,h9,cond_true,cond_false,if_true,Bool.false_eq_true,if_false]
 have hB:isB s[i]=false:=by simp only [isB,h32,h9,Bool.or_false]
 simp only [hS,hB,h40,h41,h91,h93,h44,h32,h9,cond_true,cond_false,Bool.false_eq_true,if_false]
 cases op with
 | false =>
  simp only [Bool.not_false,cond_true,Bool.false_eq_true,if_false]
  cases hb:pfx (s.drop i) with
  | true=>simp only [cond_true,if_true]
  | false =>
   have hl:(ws ++ [(([]:Yy),(i:Int))]).length=ws.length+1:=by simp
   have w2:IntKind.wrap .i64 ((((ws ++ [(([]:Yy),(i:Int))]).length:Nat):Int) - 1)=((ws.length:Nat):Int):=by
    rw [hl,show (((ws.length+1:Nat):Int) - 1)=((ws.length:Nat):Int) from by omega];exact qjd (by omega)
   have g:ws.length<(ws ++ [(([]:Yy),(i:Int))]).length:=by omega
   have ge:(ws ++ [(([]:Yy),(i:Int))])[ws.length]'g=([],(i:Int)):=by simp
   simp only [cond_false,Bool.false_eq_true,if_false,w2,q1c g,Option.bind_some,Int.toNat_natCast,jtw g,ge,s1,jje]
 | true =>
  obtain ⟨ws0,t,p,rfl,hpi,rfl⟩:=ho rfl
  simp only [Bool.not_true,cond_false,if_true]
  generalize ht:(s.drop p).take (i - p)=t
  have hl:(ws0 ++ [(t,(p:Int))]).length=ws0.length+1:=by simp
  have w2:IntKind.wrap .i64 ((((ws0 ++ [(t,(p:Int))]).length:Nat):Int) - 1)=((ws0.length:Nat):Int):=by
   rw [hl,show (((ws0.length+1:Nat):Int) - 1)=((ws0.length:Nat):Int) from by omega];exact qjd (by simp at hw;omega)
  have g:ws0.length<(ws0 ++ [(t,(p:Int))]).length:=by omega
  have ge:(ws0 ++ [(t,(p:Int))])[ws0.length]'g=(t,(p:Int)):=by simp
  have s3:q1d s ((p:Nat):Int) ((i+1:Nat):Int)=some (t ++ [s[i]]):=by
   rw [sub_le (by omega) (by omega),<-ht,show i+1 - p=(i - p)+1 from by omega,List.take_add_one,List.getElem?_drop,show p+(i - p)=i from by omega,List.getElem?_eq_getElem hi]
   rfl
  simp only [w2,q1c g,Option.bind_some,Int.toNat_natCast,jtw g,ge,s3,jje,qe1]
theorem jax (n:Nat) (s:Yy) (hs:s.length<=1000000) : ∀(m i:Nat) (op:Bool) (ws:List Wd),i<=s.length->s.length - i<m->ws.length<=i->(op=true->∃ ws0 t p,ws=ws0 ++ [(t,((p:Nat):Int))]/\p<=i/\t=(s.drop p).take (i - p)) ->
  (q71 n m s op ((s.length:Nat):Int) (i:Int) ws=some (Sum.inl (((),((((qpi (s.drop i) i op ws).2:Nat):Int),())),((),((qpi (s.drop i) i op ws).1,()))))\/((qpi (s.drop i) i op ws).2=s.length/\q71 n m s op ((s.length:Nat):Int) (i:Int) ws=some (Sum.inr ((s,((),())),((),((qpi (s.drop i) i op ws).1,()))))))
 | 0,i,op,ws,_,h,_,_=>absurd h (Nat.not_lt_zero _)
 | m+1,i,op,ws,hi,h,hw,ho=>by
  rw [qv5]
  by_cases c0:i<s.length
  ·have ih:=jax n s hs m
   rw [jrz n (fun a1 a2 a3 a4 a5=>q71 n m a1 a2 a3 a4 a5) s op _ i ws c0 rfl hs hw ho]
   have hd:s.drop i=s[i]::s.drop (i+1):=List.drop_eq_getElem_cons c0
   have h1 : [s[i]]=(s.drop i).take (i+1 - i):=(take_one c0).symm
   rw [hd,qpi,<-hd]
   by_cases cS:q2k s[i]=true
   ·simp only [cS,if_true]
    exact ih (i+1) false _ (by omega) (by omega) (by simp;omega) (fun h=>by cases h)
   ·by_cases cB:isB s[i]=true
    ·simp only [cS,cB,if_true,if_false]
     exact ih (i+1) false _ (by omega) (by omega) (by omega) (fun h=>by cases h)
    ·cases op with
     | true =>
      simp only [cS,cB,if_true,if_false]
      obtain ⟨ws0,t,p,rfl,hpi,ht⟩:=ho rfl
      refine ih (i+1) true _ (by omega) (by omega) (by rw [qe1];simp at hw ⊢;omega) (fun _=>⟨ws0,t ++ [s[i]],p,qe1 _ _ _ _,by omega,?_⟩)
      rw [ht,show i+1 - p=(i - p)+1 from by omega,List.take_add_one,List.getElem?_drop,show p+(i - p)=i from by omega,List.getElem?_eq_getElem c0]
      rfl
     | false =>
      by_cases cP:pfx (s.drop i)=true
      ·simp only [cS,cB,cP,Bool.false_eq_true,if_true,if_false]
       exact Or.inl (by first|rfl|trivial)
      ·simp only [cS,cB,cP,Bool.false_eq_true,if_false]
       exact ih (i+1) true _ (by omega) (by omega) (by simp;omega) (fun _=>⟨ws,[s[i]],i,rfl,by omega,h1⟩)
  ·unfold qw8
   have c0' : ¬ ((i:Nat):Int)<((s.length:Nat):Int):=by omega
   have hie:i=s.length:=by omega
   have hd:s.drop i = []:=List.drop_eq_nil_of_le (by omega)
   simp only [c0',decide_false,cond_false,hd,qpi]
   exact Or.inr ⟨hie,by first|rfl|trivial⟩
theorem cut_P (n:Nat) (s:Yy) (hs:s.length<=1000000) (hn:s.length<n):jks n s=some ((qpi s 0 false []).1,(((qpi s 0 false []).2:Nat):Int)):=by
 have h:=jax n s hs n 0 false [] (Nat.zero_le _) (by omega) (Nat.zero_le _) (fun h=>by cases h)
 rw [List.drop_zero,show ((0:Nat):Int)=(0:Int) from rfl] at h
 unfold jks
 rcases h with h|⟨h0,h⟩
 ·rw [h];rfl
 ·rw [h,h0];rfl
theorem js7 : ∀(s:Yy) (i:Nat) (op:Bool) (ws:List Wd),i<=(qpi s i op ws).2/\(qpi s i op ws).2<=i+s.length
 | [],i,op,ws=>⟨Nat.le_refl _,Nat.le_refl _⟩
 | c::r,i,op,ws=>by
  have k:=fun op ws=>js7 r (i+1) op ws
  rw [qpi,List.length_cons]
  split
  ·have:=k false (ws ++ [([c],(i:Int))]);omega
  ·split
   ·have:=k false ws;omega
   ·split
    ·have:=k true (addL ws c);omega
    ·split
     ·simp
     ·have:=k true (ws ++ [([c],(i:Int))]);omega
theorem jx5 (c:UInt8) (r:Yy) (i:Nat) (op:Bool) (ws:List Wd):qpi (c::r) i op ws =
  if q2k c then qpi r (i+1) false (ws ++ [([c],(i:Int))])
  else if isB c then qpi r (i+1) false ws
  else if op then qpi r (i+1) true (addL ws c)
  else if pfx (c::r) then (ws,i)
  else qpi r (i+1) true (ws ++ [([c],(i:Int))]):=rfl
def okc (c:UInt8):Bool:=!((decide (((c.toNat:Nat):Int)<32) && !decide (((c.toNat:Nat):Int)=9))||decide ((126:Int)<((c.toNat:Nat):Int)))
theorem qoe (n:Nat) (s:Yy) (hL:s.length<=1000000) : ∀m j:Nat,j<=s.length->s.length - j<m->q8n n m s ((s.length:Nat):Int) (j:Int)=some (if (s.drop j).all okc then Sum.inr ((),(),()) else Sum.inl ((false,()),(),()))
 | 0,j,_,h=>absurd h (Nat.not_lt_zero _)
 | m+1,j,hj,h=>by
  rw [qmc]
  unfold qqy
  by_cases c0:j<s.length
  ·have c0':((j:Nat):Int)<((s.length:Nat):Int):=by omega
   have ih:=qoe n s hL m (j+1) (by omega) (by omega)
   have hd:s.drop j=s[j]::s.drop (j+1):=(List.drop_eq_getElem_cons c0)
   simp only [c0',decide_true,cond_true,q1l c0,Option.bind_some,q04,q0a (show j<4611686018427387904 by omega),ih,hd,List.all_cons,okc]
   generalize decide (((s[j].toNat:Nat):Int)<32)=b1
   generalize decide (((s[j].toNat:Nat):Int)=9)=b2
   generalize decide ((126:Int)<((s[j].toNat:Nat):Int))=b3
   cases b1<;>cases b2<;>cases b3<;>simp<;>rfl
  ·have c0' : ¬ ((j:Nat):Int)<((s.length:Nat):Int):=by omega
   have:s.drop j = []:=List.drop_eq_nil_of_le (by omega)
   simp [c0',this]
theorem jyr (n:Nat) (s:Yy) (hL:s.length<=1000000) (hn:s.length<n):qqf n s=some (s.all okc):=by
 unfold qqf
 have:=qoe n s hL n 0 (Nat.zero_le _) (by omega)
 rw [show ((0:Nat):Int)=(0:Int) from rfl] at this
 rw [this,List.drop_zero]
 cases s.all okc<;>rfl
theorem one_P (n:Nat) (s:Yy) (hL:s.length<=1000000) (hn:s.length<n):j6a n s=some (if s.all okc then (((qpi s 0 false []).1,s.drop (qpi s 0 false []).2),0) else (([],[]),9)):=by
 unfold j6a
 rw [jyr n s hL hn]
 cases h:s.all okc with
 | false=>rfl
 | true =>
  have h2:=(js7 s 0 false []).2
  simp only [Option.bind_some,Bool.not_true,cond_false,cut_P n s hL hn,if_true]
  rw [sub_le (by omega) (Nat.le_refl _),Option.bind_some,List.take_of_length_le (by rw [List.length_drop];omega)]
end Go.Proofs.YtapfankgdkdkgaaGreatDoor.AM.Lx
namespace Go.Proofs.YtapfankgdkdkgaaGreatDoor.AM.Lx
open Go.RowKit
def qwc:Yy->Nat->Bool->List Wd->List Wd
 | [],i,_,ws=>ws
 | c::r,i,op,ws =>
  if q2k c then qwc r (i+1) false (ws ++ [([c],(i:Int))])
  else if isB c then qwc r (i+1) false ws
  else if op then qwc r (i+1) true (addL ws c)
  else qwc r (i+1) true (ws ++ [([c],(i:Int))])
theorem q3s (c:UInt8) (r:Yy) (i:Nat) (op:Bool) (ws:List Wd):qwc (c::r) i op ws =
  if q2k c then qwc r (i+1) false (ws ++ [([c],(i:Int))])
  else if isB c then qwc r (i+1) false ws
  else if op then qwc r (i+1) true (addL ws c)
  else qwc r (i+1) true (ws ++ [([c],(i:Int))]):=rfl
def qx2:Yy->Bool->Nat
 | [],_=>0
 | c::r,op=>if (!op&&pfx (c::r))=true then 0 else 1+qx2 r (!(q2k c||isB c))
theorem qkd (c:UInt8) (r:Yy) (op:Bool):qx2 (c::r) op=if (!op&&pfx (c::r))=true then 0 else 1+qx2 r (!(q2k c||isB c)):=rfl
theorem jsb : ∀(l:Yy) (op:Bool),qx2 l op<=l.length
 | [],_=>Nat.le_refl _
 | c::r,op=>by
  rw [qkd]
  split
  ·simp
  ·have:=jsb r (!(q2k c||isB c));rw [List.length_cons];omega
theorem jx3 (c:UInt8) (r:Yy) (h:q2k c=true\/isB c=true):pfx (c::r)=false:=by
 cases r with
 | nil=>rfl
 | cons b r =>
  have:c≠47:=by
   rintro rfl
   rcases h with h|h<;>revert h<;>decide
  simp [pfx,this]
theorem qiy : ∀(l:Yy) (i:Nat) (op:Bool) (ws:List Wd),qpi l i op ws=(qwc (l.take (qx2 l op)) i op ws,i+qx2 l op)
 | [],i,op,ws=>rfl
 | c::r,i,op,ws=>by
  have ih:=fun op ws=>qiy r (i+1) op ws
  rw [jx5,qkd]
  by_cases c1:q2k c=true
  ·rw [if_pos c1,jx3 c r (Or.inl c1),ih]
   simp only [Bool.and_false,Bool.false_eq_true,if_false,c1,Bool.true_or,Bool.not_true]
   rw [Nat.add_comm 1,List.take_succ_cons,q3s,if_pos c1,Nat.add_assoc i 1,Nat.add_comm 1]
  rw [if_neg c1]
  by_cases c2:isB c=true
  ·rw [if_pos c2,jx3 c r (Or.inr c2),ih]
   simp only [Bool.and_false,Bool.false_eq_true,if_false,c2,Bool.or_true,Bool.not_true]
   rw [Nat.add_comm 1,List.take_succ_cons,q3s,if_neg c1,if_pos c2,Nat.add_assoc i 1,Nat.add_comm 1]
  rw [if_neg c2]
  have c1':q2k c=false:=by simpa using c1
  have c2':isB c=false:=by simpa using c2
  by_cases c3:op=true
  ·subst c3
   rw [if_pos rfl,ih]
   simp only [Bool.not_true,Bool.false_and,Bool.false_eq_true,if_false,c1',c2',Bool.or_self,Bool.not_false]
   rw [Nat.add_comm 1,List.take_succ_cons,q3s,if_neg c1,if_neg c2,if_pos rfl,Nat.add_assoc i 1,Nat.add_comm 1]
  have c3':op=false:=by simpa using c3
  subst c3'
  rw [if_neg c3]
  by_cases c4:pfx (c::r)=true
  ·rw [if_pos c4,if_pos (by rw [c4];rfl)];rfl
  rw [if_neg c4,if_neg (by simpa using c4),ih]
  simp only [c1',c2',Bool.or_self,Bool.not_false]
  rw [Nat.add_comm 1,List.take_succ_cons,q3s,if_neg c1,if_neg c2,if_neg c3,Nat.add_assoc i 1,Nat.add_comm 1]
def j4t:Yy->Nat
 | []=>0
 | c::r=>if (q2k c||isB c)=true then 0 else 1+j4t r
theorem jh8 : ∀l:Yy,j4t l<=l.length
 | []=>Nat.le_refl _
 | c::r=>by
  rw [j4t]
  split
  ·simp
  ·have:=jh8 r;simp;omega
theorem jt7 (p:Nat) (out:List Wd) : ∀(l:Yy) (k:Nat) (w:Yy),qwc l k true (out ++ [(w,(p:Int))])=qwc (l.drop (j4t l)) (k+j4t l) false (out ++ [(w++l.take (j4t l),(p:Int))])
 | [],k,w=>by simp [j4t,qwc]
 | c::r,k,w=>by
  rw [j4t]
  by_cases h:(q2k c||isB c)=true
  ·rw [if_pos h]
   simp only [List.drop_zero,Nat.add_zero,List.take_zero,List.append_nil]
   rw [q3s,q3s]
   by_cases c1:q2k c=true
   ·rw [if_pos c1,if_pos c1]
   ·rw [if_neg c1,if_neg c1]
    have c2:isB c=true:=by simpa [c1] using h
    rw [if_pos c2,if_pos c2]
  ·rw [if_neg h]
   have c1 : ¬ q2k c=true:=fun e=>h (by rw [e];rfl)
   have c2 : ¬ isB c=true:=fun e=>h (by rw [e];simp)
   rw [q3s,if_neg c1,if_neg c2,if_pos rfl,qe1,jt7 p out r (k+1),Nat.add_comm 1,List.drop_succ_cons,List.take_succ_cons,Nat.add_assoc k 1,Nat.add_comm 1,List.append_assoc]
   rfl
theorem j3h (n:Nat) (c:UInt8):qff n ((c.toNat:Nat):Int)=some (isB c):=by
 unfold qff isB
 cases decide (((c.toNat:Nat):Int)=32)<;>rfl
theorem jr1 (n:Nat) (c:UInt8):qlh n ((c.toNat:Nat):Int)=some (q2k c):=by
 unfold qlh q2k
 cases decide (((c.toNat:Nat):Int)=40)<;>cases decide (((c.toNat:Nat):Int)=41)<;>cases decide (((c.toNat:Nat):Int)=91)<;>cases decide (((c.toNat:Nat):Int)=93)<;>rfl
def prev (s:Yy) (i:Nat):Bool:=if h:0<i/\i<=s.length then !(q2k (s[i - 1]'(by omega))||isB (s[i - 1]'(by omega))) else false
theorem jx7 {s:Yy} {i:Nat} (h:i<s.length):prev s (i+1) = !(q2k s[i]||isB s[i]):=by
 unfold prev
 rw [dif_pos ⟨by omega,by omega⟩]
 rfl
theorem qrf (n:Nat) (s:Yy) (hs:s.length<=1000000) : ∀m i:Nat,i<=s.length->s.length - i<m ->
  (q2j n m s (i:Int)=some (Sum.inl ((((i+qx2 (s.drop i) (prev s i):Nat):Int),()),((),()))))\/(q2j n m s (i:Int)=some (Sum.inr ((s,()),((),())))/\i+qx2 (s.drop i) (prev s i)=s.length)
 | 0,i,_,h=>absurd h (Nat.not_lt_zero _)
 | m+1,i,hi,h=>by
  rw [qjh]
  unfold qln
  have w1:=q0a (show i<4611686018427387904 by omega)
  by_cases c0:i+1<s.length
  ·have ih:=qrf n s hs m (i+1) (by omega) (by omega)
   have hi':i<s.length:=by omega
   have c0':((i+1:Nat):Int)<((s.length:Nat):Int):=by omega
   have hd:s.drop i=s[i]::s.drop (i+1):=List.drop_eq_getElem_cons hi'
   have hd1:s.drop (i+1)=s[i+1]::s.drop (i+1+1):=List.drop_eq_getElem_cons c0
   rw [jx7 hi'] at ih
   have key:pfx (s.drop i)=(decide (((s[i].toNat:Nat):Int)=47)&&decide (((s[i+1].toNat:Nat):Int)=47)):=by
    rw [hd,hd1]
    have e : ∀c:UInt8,decide (c=47)=decide (((c.toNat:Nat):Int)=47):=fun c=>by
     have h47:(47:UInt8).toNat=47:=rfl
     apply decide_eq_decide.2
     constructor
     ·rintro rfl;rfl
     ·intro hh;apply UInt8.toNat_inj.1;rw [h47];omega
    show (decide (s[i]=47)&&decide (s[i+1]=47))=_
    rw [e,e]
   have next : ∀b,qx2 (s.drop i) b=if (!b&&pfx (s.drop i))=true then 0 else 1+qx2 (s.drop (i+1)) (!(q2k s[i]||isB s[i])):=fun b=>by
    conv=>lhs;rw [hd]
    rw [qkd,<-hd]
   have goOn:(!(prev s i)&&pfx (s.drop i))=false->(q2j n m s ((i+1:Nat):Int)=some (Sum.inl ((((i+qx2 (s.drop i) (prev s i):Nat):Int),()),((),())))\/(q2j n m s ((i+1:Nat):Int)=some (Sum.inr ((s,()),((),())))/\i+qx2 (s.drop i) (prev s i)=s.length)):=fun hb=>by
    rw [next,hb]
    simp only [Bool.false_eq_true,if_false]
    rw [<-Nat.add_assoc]
    exact ih
   have stop:(!(prev s i)&&pfx (s.drop i))=true->i+qx2 (s.drop i) (prev s i)=i:=fun hb=>by
    rw [next,if_pos hb];rfl
   simp only [q04,w1,c0',decide_true,cond_true,q1l hi',q1l c0,Option.bind_some]
   cases h1:decide (((s[i].toNat:Nat):Int)=47) with
   | false=>exact goOn (by rw [key,h1];simp)
   | true =>
    cases h2:decide (((s[i+1].toNat:Nat):Int)=47) with
    | false=>exact goOn (by rw [key,h1,h2];simp)
    | true =>
     simp only [cond_true]
     by_cases h3:i=0
     ·have h3':((i:Nat):Int)=0:=by omega
      refine Or.inl ?_
      rw [stop (by rw [key,h1,h2];subst h3;simp [prev])]
      simp only [h3',decide_true,cond_true]
     ·have h3' : ¬ ((i:Nat):Int)=0:=by omega
      have w2:IntKind.wrap .i64 (((i:Nat):Int) - 1)=((i - 1:Nat):Int):=by rw [show ((i:Nat):Int) - 1=((i - 1:Nat):Int) from by omega];exact qjd (by omega)
      have hp:prev s i = !(q2k s[i - 1]||isB s[i - 1]):=by unfold prev;rw [dif_pos ⟨by omega,hi⟩]
      simp only [h3',decide_false,cond_false,w2,q1l (show i - 1<s.length by omega),Option.bind_some,j3h,jr1]
      cases h4:isB s[i - 1] with
      | true =>
       refine Or.inl ?_
       simp only [cond_true]
       rw [stop (by rw [key,h1,h2,hp,h4];simp)]
      | false =>
       cases h5:q2k s[i - 1] with
       | true =>
        refine Or.inl ?_
        simp only [cond_true,cond_false]
        rw [stop (by rw [key,h1,h2,hp,h4,h5];simp)]
       | false =>
        simp only [cond_false]
        exact goOn (by rw [hp,h4,h5];simp)
  ·have c0' : ¬ ((i+1:Nat):Int)<((s.length:Nat):Int):=by omega
   simp only [q04,w1,c0',decide_false,cond_false]
   refine Or.inr ⟨by first|rfl|trivial,?_⟩
   rcases Nat.lt_or_ge i s.length with h1|h1
   ·have hd:s.drop i = [s[i]]:=by rw [List.drop_eq_getElem_cons h1,List.drop_eq_nil_of_le (by omega)]
    rw [hd,qkd]
    simp [pfx,qx2];omega
   ·rw [List.drop_eq_nil_of_le h1];simp [qx2];omega
theorem k0i (n:Nat) (s:Yy) (hs:s.length<=1000000) (hn:s.length<n):qia n s=some ((qx2 s false:Nat):Int):=by
 have h:=qrf n s hs n 0 (Nat.zero_le _) (by omega)
 rw [List.drop_zero,show prev s 0=false from rfl,Nat.zero_add] at h
 unfold qia
 rw [show ((0:Nat):Int)=(0:Int) from rfl] at h
 rcases h with h|⟨h,h2⟩
 ·rw [h];rfl
 ·rw [h,h2];rfl
theorem qvf (n:Nat) (s:Yy) (hs:s.length<=1000000) (e i:Nat) (nt:Yy) (out:List Wd) (he:e<=s.length) (hi:i<s.length) : ∀m k:Nat,k<=e->e - k<m ->
  ∃ o,qeo n m s (e:Int) (i:Int) (k:Int) nt out=some o/\∀(α:Type) (f:Yy->Int->Int->Int->Yy->List Wd->α),
   Sum.elim (fun q=>f q.1.1 q.1.2.2.1 q.1.2.2.2.2.1 q.1.2.2.2.2.2.1 q.2.1.1.2 q.2.2.1) (Sum.elim (fun q=>f q.1.1 q.1.2.2.1 q.1.2.2.2.2.1 q.1.2.2.2.2.2.1 q.2.1.1.2 q.2.2.1) (Sum.elim (fun q=>f q.1.1 q.1.2.2.1 q.1.2.2.2.2.1 q.1.2.2.2.2.2.1 q.2.1.1.2 q.2.2.1) (fun q=>f q.1.1 q.1.2.2.1 q.1.2.2.2.2.1 q.1.2.2.2.2.2.1 q.2.1.1.2 q.2.2.1))) o
    = f s (e:Int) (i:Int) ((if q2k s[i] then k else k+j4t ((s.take e).drop k):Nat):Int) nt out
 | 0,k,_,h=>absurd h (Nat.not_lt_zero _)
 | m+1,k,hk,h=>by
  rw [qro]
  unfold jeo
  by_cases c0:k<e
  ·have c0':((k:Nat):Int)<((e:Nat):Int):=by omega
   have hk':k<s.length:=by omega
   have hd:(s.take e).drop k=s[k]::(s.take e).drop (k+1):=by
    rw [List.drop_eq_getElem_cons (by rw [List.length_take];omega),List.getElem_take]
   simp only [c0',decide_true,cond_true,q1l hi,q1l hk',Option.bind_some,jr1,j3h]
   cases h1:q2k s[i] with
   | true =>
    refine ⟨_,rfl,fun α f=>?_⟩
    simp only [Bool.not_true,cond_false,Sum.elim_inr,Sum.elim_inl,if_true]
   | false =>
    simp only [Bool.not_false,cond_true,Bool.false_eq_true,if_false]
    cases h2:isB s[k] with
    | true =>
     refine ⟨_,rfl,fun α f=>?_⟩
     rw [hd,j4t,if_pos (by rw [h2];simp)]
     simp only [Sum.elim_inr,Sum.elim_inl,Nat.add_zero]
    | false =>
     simp only [Bool.not_false,cond_true]
     cases h3:q2k s[k] with
     | true =>
      refine ⟨_,rfl,fun α f=>?_⟩
      rw [hd,j4t,if_pos (by rw [h3];simp)]
      simp only [Sum.elim_inr,Sum.elim_inl,Nat.add_zero]
     | false =>
      simp only [Bool.not_false,cond_true,q04,q0a (show k<4611686018427387904 by omega)]
      obtain ⟨o,h4,h5⟩:=qvf n s hs e i nt out he hi m (k+1) (by omega) (by omega)
      refine ⟨o,h4,fun α f=>?_⟩
      rw [h5]
      simp only [h1,Bool.false_eq_true,if_false]
      rw [hd,j4t,if_neg (by rw [h2,h3];simp),Nat.add_assoc]
  ·have c0' : ¬ ((k:Nat):Int)<((e:Nat):Int):=by omega
   refine ⟨_,by simp only [c0',decide_false,cond_false];rfl,fun α f=>?_⟩
   have hd:(s.take e).drop k = []:=List.drop_eq_nil_of_le (by rw [List.length_take];omega)
   rw [hd]
   simp only [Sum.elim_inr,j4t,Nat.add_zero,ite_self]
theorem ji8 : ∀(l:Yy) (i:Nat) (op:Bool) (ws:List Wd),(qwc l i op ws).length<=ws.length+l.length
 | [],i,op,ws=>by simp [qwc]
 | c::r,i,op,ws=>by
  have ih:=fun op ws=>ji8 r (i+1) op ws
  rw [q3s,List.length_cons]
  split
  ·have:=ih false (ws ++ [([c],(i:Int))]);simp at this;omega
  ·split
   ·have:=ih false ws;omega
   ·split
    ·have:=ih true (addL ws c)
     have h2:(addL ws c).length<=ws.length:=by
      unfold addL
      split
      ·rename_i t p h
       have:ws ≠ []:=by rintro rfl;simp at h
       have:=List.length_pos_iff.2 this
       simp;omega
      ·exact Nat.le_refl _
     omega
    ·have:=ih true (ws ++ [([c],(i:Int))]);simp at this;omega
theorem qxq (n:Nat) (s:Yy) (hs:s.length<=1000000) (hn:s.length<n) (e:Nat) (nt:Yy) (he:e<=s.length) : ∀(m i:Nat) (out:List Wd),i<=e->e - i<m->out.length<=i ->
  ∃ o,q9v n m s (e:Int) (i:Int) nt out=some o/\o.1.1=s/\o.1.2.2.1=(e:Int)/\o.2.2.1=qwc ((s.take e).drop i) i false out
 | 0,i,_,_,h,_=>absurd h (Nat.not_lt_zero _)
 | m+1,i,out,hi,h,ho=>by
  rw [qwa]
  unfold jes
  by_cases c0:i<e
  ·have c0':((i:Nat):Int)<((e:Nat):Int):=by omega
   have hi':i<s.length:=by omega
   have ih:=qxq n s hs hn e nt he m
   have hd:(s.take e).drop i=s[i]::(s.take e).drop (i+1):=by
    rw [List.drop_eq_getElem_cons (by rw [List.length_take];omega),List.getElem_take]
   have w1:=q0a (show i<4611686018427387904 by omega)
   simp only [c0',decide_true,cond_true,q1l hi',Option.bind_some,j3h,q04,w1]
   cases h1:isB s[i] with
   | true =>
    simp only [cond_true]
    obtain ⟨o,k1,k2,k3,k4⟩:=ih (i+1) out (by omega) (by omega) (by omega)
    refine ⟨o,k1,k2,k3,?_⟩
    have hS : ¬ q2k s[i]=true:=fun hh=>by
     have h47 : ∀c:UInt8,q2k c=true->isB c=true->False:=by
      intro c;unfold q2k isB
      intro a b
      simp at a b;omega
     exact h47 _ hh h1
    rw [k4,hd,q3s,if_neg hS,if_pos h1]
   | false =>
    simp only [cond_false]
    obtain ⟨o,k1,k2⟩:=qvf n s hs e i nt out he hi' n (i+1) (by omega) (by omega)
    generalize hk:(if q2k s[i] then i+1 else i+1+j4t ((s.take e).drop (i+1)):Nat)=k at k2
    have hkb:i<k/\k<=e:=by
     have:=jh8 ((s.take e).drop (i+1))
     rw [List.length_drop,List.length_take] at this
     rw [<-hk];split<;>omega
    have hsub:q1d s ((i:Nat):Int) ((k:Nat):Int)=some ((s.drop i).take (k - i)):=sub_le (by omega) (by omega)
    have ha:q2g 24 out [((s.drop i).take (k - i),(i:Int))]=some (out ++ [((s.drop i).take (k - i),(i:Int))]):=q2i (by simp;omega)
    obtain ⟨o',g1,g2,g3,g4⟩:=ih k (out ++ [((s.drop i).take (k - i),(i:Int))]) (by omega) (by omega) (by simp;omega)
    refine ⟨o',?_,g2,g3,?_⟩
    ·rw [k1,Option.bind_some]
     refine (k2 _ (fun b1 b2 b3 b4 b5 b6=>(q1d b1 b3 b4).bind fun s25=>(q2g 24 b6 [(s25,b3)]).bind fun l26=>q9v n m b1 b2 b4 b5 l26)).trans ?_
     rw [hsub,Option.bind_some,ha,Option.bind_some]
     exact g1
    ·rw [g4,hd,q3s]
     by_cases h2:q2k s[i]=true
     ·rw [if_pos h2] at hk ⊢
      subst hk
      rw [show i+1 - i=1 from by omega,List.drop_eq_getElem_cons hi']
      rfl
     ·rw [if_neg h2] at hk
      rw [if_neg h2,if_neg (by rw [h1];simp),if_neg (by simp),jt7]
      have e1:((s.take e).drop (i+1)).drop (j4t ((s.take e).drop (i+1)))=(s.take e).drop k:=by rw [List.drop_drop,hk]
      have e2 : [s[i]]++((s.take e).drop (i+1)).take (j4t ((s.take e).drop (i+1)))=(s.drop i).take (k - i):=by
       rw [show k - i=j4t ((s.take e).drop (i+1))+1 from by omega,List.drop_eq_getElem_cons hi',List.take_succ_cons,List.drop_take,List.take_take]
       have hm:min (j4t ((s.take e).drop (i+1))) (e - (i+1))=j4t ((s.take e).drop (i+1)):=by
        have:=jh8 ((s.take e).drop (i+1))
        rw [List.length_drop,List.length_take] at this
        omega
       rw [<-List.drop_take,hm]
       rfl
      rw [e1,e2,hk]
  ·have c0' : ¬ ((i:Nat):Int)<((e:Nat):Int):=by omega
   refine ⟨_,by simp only [c0',decide_false,cond_false];rfl,rfl,rfl,?_⟩
   rw [List.drop_eq_nil_of_le (by rw [List.length_take];omega)]
   rfl
theorem qsi (n:Nat) (s:Yy) (hL:s.length<=1000000) (nt:Yy) : ∀m j:Nat,j<=s.length->s.length - j<m->qfh n m s (j:Int) nt=some (if (s.drop j).all okc then Sum.inr ((s,((),())),((((),nt),()),())) else Sum.inl (((),((9:Int),())),((((),([]:Yy)),()),())))
 | 0,j,_,h=>absurd h (Nat.not_lt_zero _)
 | m+1,j,hj,h=>by
  rw [qv2]
  unfold je9
  by_cases c0:j<s.length
  ·have c0':((j:Nat):Int)<((s.length:Nat):Int):=by omega
   have ih:=qsi n s hL nt m (j+1) (by omega) (by omega)
   have hd:s.drop j=s[j]::s.drop (j+1):=(List.drop_eq_getElem_cons c0)
   simp only [c0',decide_true,cond_true,q1l c0,Option.bind_some,q04,q0a (show j<4611686018427387904 by omega),ih,hd,List.all_cons,okc]
   generalize decide (((s[j].toNat:Nat):Int)<32)=b1
   generalize decide (((s[j].toNat:Nat):Int)=9)=b2
   generalize decide ((126:Int)<((s[j].toNat:Nat):Int))=b3
   cases b1<;>cases b2<;>cases b3<;>simp
  ·have c0' : ¬ ((j:Nat):Int)<((s.length:Nat):Int):=by omega
   have:s.drop j = []:=List.drop_eq_nil_of_le (by omega)
   simp [c0',this]
abbrev Ln:=List Wd×Yy
def qkz (s:Yy):Ln:=((qpi s 0 false []).1,s.drop (qpi s 0 false []).2)
def k90 (s:Yy):Ln×Int:=if s.all okc then (qkz s,0) else (([],[]),9)
theorem k98 (n:Nat) (s:Yy) (hL:s.length<=1000000) (hn:s.length<n):j6a n s=some (k90 s):=by
 rw [one_P n s hL hn];rfl
theorem k8y (n:Nat) (s:Yy) (hL:s.length<=1000000) (hn:s.length<n):qdu n s=some (k90 s):=by
 unfold qdu k90
 have h0:=qsi n s hL [] n 0 (Nat.zero_le _) (by omega)
 rw [show ((0:Nat):Int)=(0:Int) from rfl,List.drop_zero] at h0
 rw [h0]
 cases h:s.all okc with
 | false=>rfl
 | true =>
  have hle:=jsb s false
  obtain ⟨o,k1,k2,k3,k4⟩:=qxq n s hL hn (qx2 s false) [] hle n 0 [] (Nat.zero_le _) (by omega) (Nat.le_refl _)
  rw [show ((0:Nat):Int)=(0:Int) from rfl] at k1
  simp only [if_true,Option.bind_some,Sum.elim_inr,k0i n s hL hn,k1,k2,k3]
  rw [sub_le hle (Nat.le_refl _),Option.bind_some,k4,List.take_of_length_le (l:=s.drop (qx2 s false)) (by rw [List.length_drop];omega)]
  unfold qkz
  rw [qiy s 0 false [],List.drop_zero,Nat.zero_add]
theorem k0b (s:Yy):(qkz s).1.length<=s.length/\(qkz s).2.length<=s.length:=by
 unfold qkz
 rw [qiy]
 have:=ji8 (s.take (qx2 s false)) 0 false []
 rw [List.length_take,List.length_nil] at this
 refine ⟨?_,?_⟩
 ·show (qwc (s.take (qx2 s false)) 0 false []).length<=_;omega
 ·rw [List.length_drop];omega
def qg8 (s:Yy):Bool:=s.getLast? == some 10
def q0l (s:Yy):List (Yy):=if s = [] then [] else spl 10 [] (if qg8 s=true then s.dropLast else s)
theorem jaa (n:Nat) (s:Yy) (hs:s.length<=1000000):q8c n s [10]=some (if qg8 s=true then s.dropLast else s):=by
 unfold q8c qbp q37 qg8
 rcases List.eq_nil_or_concat s with rfl|⟨m,c,rfl⟩
 ·rfl
 ·rw [List.concat_eq_append]
  have hl:(m ++ [c]).length=m.length+1:=by simp
  rw [List.concat_eq_append] at hs
  have h1:((([10]:Yy).length:Nat):Int)<=(((m ++ [c]).length:Nat):Int):=by rw [hl];simp;omega
  have w1:IntKind.wrap .i64 ((((m ++ [c]).length:Nat):Int) - ((([10]:Yy).length:Nat):Int))=((m.length:Nat):Int):=by
   rw [hl,show (((m.length+1:Nat):Int) - ((([10]:Yy).length:Nat):Int))=((m.length:Nat):Int) from by simp];exact qjd (by omega)
  have s1:q1d (m ++ [c]) ((m.length:Nat):Int) (((m ++ [c]).length:Nat):Int)=some [c]:=by rw [sub_le (by rw [hl];omega) (Nat.le_refl _),hl];simp
  have s2:q1d (m ++ [c]) (0:Int) ((m.length:Nat):Int)=some m:=by rw [sub_zero (by rw [hl];omega)];simp
  simp only [h1,decide_true,cond_true,q04,w1,s1,s2,Option.bind_some]
  by_cases hc:c=10
  ·subst hc;simp
  ·simp [hc]
theorem jiu (n:Nat) (s:Yy) (hs:s.length<=1000000):qew n s=some (q0l s):=by
 unfold qew q0l
 by_cases h:s = []
 ·simp [h]
 ·have h2:(if qg8 s=true then s.dropLast else s).length<=s.length:=by split<;>simp
  rw [jaa n s hs]
  simp only [h,decide_false,cond_false,Option.bind_some,qak,if_false]
  rw [if_pos (by omega),Option.bind_some]
theorem q33 (n:Nat) (s:Yy) (c:UInt8) (hs:s.length<=1000000) : ∀(m i fr:Nat) (out:List (Yy)),i<=s.length->s.length - i+1<m->fr<=i->out.length<=i ->
  q1m n m s ((c.toNat:Nat):Int) (fr:Int) (i:Int) out=some (((),()),((),(out++spl c ((s.drop fr).take (i - fr)) (s.drop i),())))
 | 0,i,fr,_,_,h,_,_=>absurd h (Nat.not_lt_zero _)
 | m+1,i,fr,out,hi,h,hf,ho=>by
  rw [q20]
  unfold q3g
  have c0:((i:Nat):Int)<=((s.length:Nat):Int):=by omega
  have w1:=q0a (show i<4611686018427387904 by omega)
  have s1:q1d s ((fr:Nat):Int) ((i:Nat):Int)=some ((s.drop fr).take (i - fr)):=sub_le hf hi
  have a1:q2g 16 out [(s.drop fr).take (i - fr)]=some (out ++ [(s.drop fr).take (i - fr)]):=q2i (by simp;omega)
  by_cases c1:i=s.length
  ·have c1':((i:Nat):Int)=((s.length:Nat):Int):=by omega
   have hd:s.drop i = []:=List.drop_eq_nil_of_le (by omega)
   simp only [c0,c1',decide_true,cond_true]
   rw [<-c1',s1,Option.bind_some,a1,Option.bind_some,hd]
   simp only [q04,w1]
   cases m with
   | zero=>omega
   | succ m =>
    rw [q20]
    unfold q3g
    have c2 : ¬ ((i+1:Nat):Int)<=((s.length:Nat):Int):=by omega
    simp only [c2,Int.le_refl,decide_true,decide_false,cond_true,cond_false]
    rfl
  ·have c1' : ¬ ((i:Nat):Int)=((s.length:Nat):Int):=by omega
   have hi':i<s.length:=by omega
   have hd:s.drop i=s[i]::s.drop (i+1):=List.drop_eq_getElem_cons hi'
   simp only [c0,c1',decide_true,decide_false,cond_true,cond_false,q1l hi',Option.bind_some,q04,w1,s1,a1]
   have hc:decide (((s[i].toNat:Nat):Int)=((c.toNat:Nat):Int))=decide (s[i]=c):=by
    apply decide_eq_decide.2
    constructor
    ·intro hh;exact UInt8.toNat_inj.1 (by omega)
    ·intro hh;rw [hh]
   rw [hc,hd,spl]
   by_cases c2:s[i]=c
   ·simp only [c2,decide_true,cond_true,if_true]
    rw [q33 n s c hs m (i+1) (i+1) (out ++ [(s.drop fr).take (i - fr)]) (by omega) (by omega) (Nat.le_refl _) (by simp;omega)]
    simp
   ·simp only [c2,decide_false,cond_false,if_false]
    rw [q33 n s c hs m (i+1) fr out (by omega) (by omega) (by omega) (by omega)]
    have e1:(s.drop fr).take (i+1 - fr)=(s.drop fr).take (i - fr) ++ [s[i]]:=by
     rw [show i+1 - fr=(i - fr)+1 from by omega,List.take_add_one,List.getElem?_drop,show fr+(i - fr)=i from by omega,List.getElem?_eq_getElem hi']
     rfl
    rw [e1]
theorem q3n (n:Nat) (s:Yy) (c:UInt8) (hs:s.length<=1000000) (hn:s.length+1<n):q0k n s ((c.toNat:Nat):Int)=some (spl c [] s):=by
 unfold q0k
 have h:=q33 n s c hs n 0 0 [] (Nat.zero_le _) (by omega) (Nat.le_refl _) (Nat.zero_le _)
 rw [show ((0:Nat):Int)=(0:Int) from rfl] at h
 rw [h]
 simp
theorem jjo (n:Nat) (s:Yy) (hs:s.length<=100000) (hn:s.length+1<n):qk6 n s=some (q0l s):=by
 unfold qk6
 have h5:=q3n n s 10 (by omega) hn
 rw [show (((10:UInt8).toNat:Nat):Int)=(10:Int) from rfl] at h5
 rw [h5,Option.bind_some]
 obtain ⟨t,x,h1,h2⟩:=j27 10 s []
 have hl:=(q4y 10 s []).2
 rw [h1] at hl ⊢
 have hl2:(t ++ [x]).length=t.length+1:=by simp
 have w1:IntKind.wrap .i64 ((((t ++ [x]).length:Nat):Int) - 1)=((t.length:Nat):Int):=by
  rw [hl2,show (((t.length+1:Nat):Int) - 1)=((t.length:Nat):Int) from by omega];exact qjd (by omega)
 have g:t.length<(t ++ [x]).length:=by omega
 have ge:(t ++ [x])[t.length]'g=x:=by simp
 have s1:q1d (t ++ [x]) (0:Int) ((t.length:Nat):Int)=some t:=by rw [sub_zero (by omega)];simp
 simp only [q04,w1,q1c g,ge,Option.bind_some,s1]
 unfold q0l
 by_cases hx:x = []
 ·simp only [hx,decide_true,cond_true]
  rcases h2.1 hx with ⟨_,rfl⟩|⟨m,rfl⟩
  ·simp [spl] at h1
   have:t = []:=by
    cases t with
    | nil=>rfl
    | cons a t=>simp at h1
   rw [this];rfl
  ·rw [if_neg (by simp)]
   have he:qg8 (m ++ [10])=true:=by simp [qg8]
   rw [if_pos he,List.dropLast_concat]
   rw [jun,hx] at h1
   exact congrArg some (List.append_cancel_right h1).symm
 ·simp only [hx,decide_false,cond_false]
  have hs0:s ≠ []:=fun e=>hx (h2.2 (Or.inl ⟨rfl,e⟩))
  have he:qg8 s=false:=by
   cases hh:qg8 s with
   | false=>rfl
   | true =>
    rcases List.eq_nil_or_concat s with rfl|⟨m,c,rfl⟩
    ·exact absurd rfl hs0
    ·rw [List.concat_eq_append] at hh
     simp [qg8] at hh
     exact absurd (h2.2 (Or.inr ⟨m,by rw [hh,List.concat_eq_append]⟩)) hx
  rw [if_neg hs0,he]
  simp only [Bool.false_eq_true,if_false]
  rw [h1]
theorem q57 (s:Yy):(q0l s).length<=s.length+1/\∀x∈q0l s,x.length<=s.length:=by
 unfold q0l
 split
 ·exact ⟨by simp,fun x h=>by cases h⟩
 ·have h2:(if qg8 s=true then s.dropLast else s).length<=s.length:=by split<;>simp
  refine ⟨by have:=(q4y 10 (if qg8 s=true then s.dropLast else s) []).2;omega,fun x hx=>?_⟩
  have:=q62 10 _ _ x hx
  simp at this
  omega
end Go.Proofs.YtapfankgdkdkgaaGreatDoor.AM.Lx
namespace Go.Proofs.YtapfankgdkdkgaaGreatDoor.AM.Lx
open Go.RowKit
def q3k:List (Yy)->Nat->List Ln->List Ln×Int×Int
 | [],i,out=>(out,(i:Int),0)
 | x::xs,i,out=>if x.all okc=true then q3k xs (i+1) (out ++ [qkz x]) else ([],(i:Int),9)
theorem qwf (n:Nat) (ls:List (Yy)) (hl:ls.length<=1000000) (hx : ∀x∈ls,x.length<=1000000/\x.length<n) : ∀(m j:Nat) (out:List Ln),j<=ls.length->ls.length - j<m->out.length=j ->
  (q8v n m ls ((ls.length:Nat):Int) (j:Int) out).bind (fun o6=>Sum.elim (fun q7=>some (([]:List Ln),(q7.1.2.1,q7.1.2.2.1))) (fun q8=>some (q8.2.2.1,(((List.length q8.2.2.1:Nat):Int),(0:Int)))) o6)=some (q3k (ls.drop j) j out)
 | 0,j,_,_,h,_=>absurd h (Nat.not_lt_zero _)
 | m+1,j,out,hj,h,ho=>by
  rw [qnr]
  unfold qr6
  by_cases c0:j<ls.length
  ·have c0':((j:Nat):Int)<((ls.length:Nat):Int):=by omega
   obtain ⟨x1,x2⟩:=hx ls[j] (List.getElem_mem c0)
   rw [List.drop_eq_getElem_cons c0,q3k]
   simp only [c0',decide_true,cond_true,q1c c0,Option.bind_some,k98 n ls[j] x1 x2,k90]
   by_cases hk:ls[j].all okc=true
   ·have a1:q2g 40 out [qkz ls[j]]=some (out ++ [qkz ls[j]]):=q2i (by simp;omega)
    simp only [hk,if_true,decide_true,Bool.not_true,cond_false,a1,Option.bind_some,q04,q0a (show j<4611686018427387904 by omega)]
    exact qwf n ls hl hx m (j+1) _ (by omega) (by omega) (by simp;omega)
   ·rw [if_neg hk,if_neg hk]
    rfl
  ·have c0' : ¬ ((j:Nat):Int)<((ls.length:Nat):Int):=by omega
   simp only [c0',decide_false,cond_false,Option.bind_some,Sum.elim_inr]
   rw [List.drop_eq_nil_of_le (by omega),q3k,ho]
theorem qrd (n:Nat) (ls:List (Yy)) (hl:ls.length<=1000000) (hx : ∀x∈ls,x.length<=1000000/\x.length<n) : ∀(m j:Nat) (out:List Ln),j<=ls.length->ls.length - j<m->out.length=j ->
  (q8j n m ls (j:Int) out).bind (fun o6=>Sum.elim (fun q7=>some (([]:List Ln),(q7.1.2.1,q7.1.2.2.1))) (fun q8=>some (q8.2.2.1,(((List.length q8.1.2.1:Nat):Int),(0:Int)))) o6)=some (q3k (ls.drop j) j out)
 | 0,j,_,_,h,_=>absurd h (Nat.not_lt_zero _)
 | m+1,j,out,hj,h,ho=>by
  rw [qne]
  unfold qt7
  by_cases c0:j<ls.length
  ·have c0':((j:Nat):Int)<((ls.length:Nat):Int):=by omega
   obtain ⟨x1,x2⟩:=hx ls[j] (List.getElem_mem c0)
   rw [List.drop_eq_getElem_cons c0,q3k]
   simp only [c0',decide_true,cond_true,q1c c0,Option.bind_some,k8y n ls[j] x1 x2,k90]
   by_cases hk:ls[j].all okc=true
   ·have a1:q2g 40 out [qkz ls[j]]=some (out ++ [qkz ls[j]]):=q2i (by simp;omega)
    simp only [hk,if_true,decide_true,Bool.not_true,cond_false,a1,Option.bind_some,q04,q0a (show j<4611686018427387904 by omega)]
    exact qrd n ls hl hx m (j+1) _ (by omega) (by omega) (by simp;omega)
   ·rw [if_neg hk,if_neg hk]
    rfl
  ·have c0' : ¬ ((j:Nat):Int)<((ls.length:Nat):Int):=by omega
   have hj':ls.length=j:=by omega
   simp only [c0',decide_false,cond_false,Option.bind_some,Sum.elim_inr]
   rw [List.drop_eq_nil_of_le (by omega),q3k,hj']
theorem jyg (n:Nat) (s:Yy) (hs:s.length<=100000) (hn:s.length+1<n):qie n s=some (q3k (q0l s) 0 []):=by
 unfold qie
 obtain ⟨h1,h2⟩:=q57 s
 rw [jiu n s (by omega),Option.bind_some]
 exact qwf n (q0l s) (by omega) (fun x hx=>by have:=h2 x hx;omega) n 0 [] (Nat.zero_le _) (by omega) rfl
theorem jyd (n:Nat) (s:Yy) (hs:s.length<=100000) (hn:s.length+1<n):qpu n s=some (q3k (q0l s) 0 []):=by
 unfold qpu
 obtain ⟨h1,h2⟩:=q57 s
 rw [jjo n s (by omega) hn,Option.bind_some]
 exact qrd n (q0l s) (by omega) (fun x hx=>by have:=h2 x hx;omega) n 0 [] (Nat.zero_le _) (by omega) rfl
end Go.Proofs.YtapfankgdkdkgaaGreatDoor.AM.Lx
namespace Go.Proofs.YtapfankgdkdkgaaGreatDoor.AM
open Go.RowKit
theorem q33 (n:Nat) (s:Yy) (c:UInt8) (hs:s.length<=1000000) : ∀(m i fr:Nat) (out:List (Yy)),i<=s.length->s.length - i+1<m->fr<=i->out.length<=i ->
  q1m n m s ((c.toNat:Nat):Int) (fr:Int) (i:Int) out=some (((),()),((),(out++spl c ((s.drop fr).take (i - fr)) (s.drop i),())))
 | 0,i,fr,_,_,h,_,_=>absurd h (Nat.not_lt_zero _)
 | m+1,i,fr,out,hi,h,hf,ho=>by
  rw [q20]
  unfold q3g
  have c0:((i:Nat):Int)<=((s.length:Nat):Int):=by omega
  have w1:=q0a (show i<4611686018427387904 by omega)
  have s1:q1d s ((fr:Nat):Int) ((i:Nat):Int)=some ((s.drop fr).take (i - fr)):=sub_le hf hi
  have a1:q2g 16 out [(s.drop fr).take (i - fr)]=some (out ++ [(s.drop fr).take (i - fr)]):=q2i (by simp;omega)
  by_cases c1:i=s.length
  ·have c1':((i:Nat):Int)=((s.length:Nat):Int):=by omega
   have hd:s.drop i = []:=List.drop_eq_nil_of_le (by omega)
   simp only [c0,c1',decide_true,cond_true]
   rw [<-c1',s1,Option.bind_some,a1,Option.bind_some,hd]
   simp only [q04,w1]
   cases m with
   | zero=>omega
   | succ m =>
    rw [q20]
    unfold q3g
    have c2 : ¬ ((i+1:Nat):Int)<=((s.length:Nat):Int):=by omega
    simp only [c2,Int.le_refl,decide_true,decide_false,cond_true,cond_false]
    rfl
  ·have c1' : ¬ ((i:Nat):Int)=((s.length:Nat):Int):=by omega
   have hi':i<s.length:=by omega
   have hd:s.drop i=s[i]::s.drop (i+1):=List.drop_eq_getElem_cons hi'
   simp only [c0,c1',decide_true,decide_false,cond_true,cond_false,q1l hi',Option.bind_some,q04,w1,s1,a1]
   have hc:decide (((s[i].toNat:Nat):Int)=((c.toNat:Nat):Int))=decide (s[i]=c):=by
    apply decide_eq_decide.2
    constructor
    ·intro hh;exact UInt8.toNat_inj.1 (by omega)
    ·intro hh;rw [hh]
   rw [hc,hd,spl]
   by_cases c2:s[i]=c
   ·simp only [c2,decide_true,cond_true,if_true]
    rw [q33 n s c hs m (i+1) (i+1) (out ++ [(s.drop fr).take (i - fr)]) (by omega) (by omega) (Nat.le_refl _) (by simp;omega)]
    simp
   ·simp only [c2,decide_false,cond_false,if_false]
    rw [q33 n s c hs m (i+1) fr out (by omega) (by omega) (by omega) (by omega)]
    have e1:(s.drop fr).take (i+1 - fr)=(s.drop fr).take (i - fr) ++ [s[i]]:=by
     rw [show i+1 - fr=(i - fr)+1 from by omega,List.take_add_one,List.getElem?_drop,show fr+(i - fr)=i from by omega,List.getElem?_eq_getElem hi']
     rfl
    rw [e1]
theorem q3n (n:Nat) (s:Yy) (c:UInt8) (hs:s.length<=1000000) (hn:s.length+1<n):q0k n s ((c.toNat:Nat):Int)=some (spl c [] s):=by
 unfold q0k
 have h:=q33 n s c hs n 0 0 [] (Nat.zero_le _) (by omega) (Nat.le_refl _) (Nat.zero_le _)
 rw [show ((0:Nat):Int)=(0:Int) from rfl] at h
 rw [h]
 simp
theorem qok (n:Nat) (s:Yy) (hL:s.length<=1000000) : ∀m j:Nat,j<=s.length->s.length - j<m->q6v n m s (j:Int)=some (if (s.drop j).all q1e=true then Sum.inr ((s,()),((),())) else Sum.inl ((false,()),((),())))
 | 0,j,_,h=>absurd h (Nat.not_lt_zero _)
 | m+1,j,hj,h=>by
  rw [qj0]
  unfold qmm
  by_cases c0:j<s.length
  ·have c0':((j:Nat):Int)<((s.length:Nat):Int):=by omega
   have ih:=qok n s hL m (j+1) (by omega) (by omega)
   have hd:s.drop j=s[j]::s.drop (j+1):=(List.drop_eq_getElem_cons c0)
   simp only [c0',decide_true,cond_true,q1l c0,Option.bind_some,q04,q0a (show j<4611686018427387904 by omega),ih,hd,List.all_cons]
   unfold q1e
   by_cases h1:s[j].toNat<48
   ·have e1:((s[j].toNat:Nat):Int)<48:=by omega
    have e2 : ¬ 48<=s[j].toNat:=by omega
    simp [e1,e2]
   ·have e1 : ¬ ((s[j].toNat:Nat):Int)<48:=by omega
    have e2:48<=s[j].toNat:=by omega
    by_cases h2:57<s[j].toNat
    ·have e3:(57:Int)<((s[j].toNat:Nat):Int):=by omega
     have e4 : ¬ s[j].toNat<=57:=by omega
     simp [e1,e2,e3,e4]
    ·have e3 : ¬ (57:Int)<((s[j].toNat:Nat):Int):=by omega
     have e4:s[j].toNat<=57:=by omega
     simp [e1,e2,e3,e4]
  ·have c0' : ¬ ((j:Nat):Int)<((s.length:Nat):Int):=by omega
   have:s.drop j = []:=List.drop_eq_nil_of_le (by omega)
   simp [c0',this]
theorem q8w (n:Nat) (s:Yy) (hL:s.length<=1000000) (hn:s.length<n):q7n n s=some (q2q s):=by
 unfold q7n q2q
 have:=qok n s hL n 0 (Nat.zero_le _) (by omega)
 rw [show ((0:Nat):Int)=(0:Int) from rfl] at this
 rw [this,List.drop_zero]
 cases s.all q1e<;>rfl
theorem jle (c:UInt8):qqm c=((decide ((97:Int)<=((c.toNat:Nat):Int))&&decide (((c.toNat:Nat):Int)<=(122:Int)))||(decide ((65:Int)<=((c.toNat:Nat):Int))&&decide (((c.toNat:Nat):Int)<=(90:Int)))||(decide ((48:Int)<=((c.toNat:Nat):Int))&&decide (((c.toNat:Nat):Int)<=(57:Int)))||decide (((c.toNat:Nat):Int)=(45:Int))):=by
 unfold qqm q1e
 have h1:decide ((97:Int)<=((c.toNat:Nat):Int))=decide (97<=c.toNat):=decide_eq_decide.2 (by omega)
 have h2:decide (((c.toNat:Nat):Int)<=(122:Int))=decide (c.toNat<=122):=decide_eq_decide.2 (by omega)
 have h3:decide ((65:Int)<=((c.toNat:Nat):Int))=decide (65<=c.toNat):=decide_eq_decide.2 (by omega)
 have h4:decide (((c.toNat:Nat):Int)<=(90:Int))=decide (c.toNat<=90):=decide_eq_decide.2 (by omega)
 have h5:decide (((c.toNat:Nat):Int)=(45:Int))=decide (c.toNat=45):=decide_eq_decide.2 (by omega)
 have h6:decide ((48:Int)<=((c.toNat:Nat):Int))=decide (48<=c.toNat):=decide_eq_decide.2 (by omega)
 have h7:decide (((c.toNat:Nat):Int)<=(57:Int))=decide (c.toNat<=57):=decide_eq_decide.2 (by omega)
 rw [h1,h2,h3,h4,h5,h6,h7]
theorem qgm (n:Nat) (z:Bool) (l:List (Yy)) (i:Nat) (hi:i<l.length) (w:Yy) (hw:l[i]=w) (hL:w.length<=1000000) : ∀m j:Nat,j<=w.length->w.length - j<m->q6b n m z l (i:Int) (j:Int)=some (if (w.drop j).all qqm=true then Sum.inr ((z,(l,((i:Int),()))),((),())) else Sum.inl ((false,()),((),())))
 | 0,j,_,h=>absurd h (Nat.not_lt_zero _)
 | m+1,j,hj,h=>by
  rw [qir]
  unfold qmw
  have e0:q0n l ((i:Nat):Int)=some w:=by rw [q1c hi,hw]
  by_cases c0:j<w.length
  ·have c0':((j:Nat):Int)<((w.length:Nat):Int):=by omega
   have ih:=qgm n z l i hi w hw hL m (j+1) (by omega) (by omega)
   have hd:w.drop j=w[j]::w.drop (j+1):=(List.drop_eq_getElem_cons c0)
   simp only [e0,Option.bind_some,c0',decide_true,cond_true,q1l c0,q04,q0a (show j<4611686018427387904 by omega),ih,hd,List.all_cons,jle]
   cases decide ((97:Int)<=((w[j].toNat:Nat):Int))<;>cases decide (((w[j].toNat:Nat):Int)<=(122:Int))<;>cases decide ((65:Int)<=((w[j].toNat:Nat):Int))<;>cases decide (((w[j].toNat:Nat):Int)<=(90:Int))<;>cases decide ((48:Int)<=((w[j].toNat:Nat):Int))<;>cases decide (((w[j].toNat:Nat):Int)<=(57:Int))<;>cases decide (((w[j].toNat:Nat):Int)=(45:Int))<;>rfl
  ·have c0' : ¬ ((j:Nat):Int)<((w.length:Nat):Int):=by omega
   have:w.drop j = []:=List.drop_eq_nil_of_le (by omega)
   simp only [e0,Option.bind_some,c0',decide_false,cond_false,this,List.all_nil,if_true]
def q98 (z:Bool) (w:Yy):Bool:=q2l w&&(z || !(q2q w&&(decide (1<w.length)&&decide (w.head? = some 48))))
theorem j67 (w:Yy):q98 true w=q2l w:=by unfold q98;simp
theorem j25 (w:Yy):q98 false w=q4v w:=by
 unfold q98 q4v
 cases w with
 | nil=>simp [q2l]
 | cons c r =>
  cases hn:q2q (c::r) with
  | false=>simp
  | true =>
   by_cases hc:c=48
   ·subst hc
    cases r with
    | nil=>simp
    | cons d r=>simp
   ·simp [hc]
theorem qi5 (n:Nat) (z:Bool) (l:List (Yy)) (hl:l.length<=1000000) (hw : ∀w∈l,w.length<=1000000/\w.length<n) : ∀m i:Nat,i<=l.length->l.length - i<m->q6k n m z l (i:Int)=some (if (l.drop i).all (q98 z)=true then Sum.inr ((),((),())) else Sum.inl ((false,()),((),())))
 | 0,j,_,h=>absurd h (Nat.not_lt_zero _)
 | m+1,i,hi,h=>by
  rw [qj9]
  unfold qmd
  by_cases c0:i<l.length
  ·have c0':((i:Nat):Int)<((l.length:Nat):Int):=by omega
   have ih:=qi5 n z l hl hw m (i+1) (by omega) (by omega)
   have hd:l.drop i=l[i]::l.drop (i+1):=(List.drop_eq_getElem_cons c0)
   have hww:=hw l[i] (List.getElem_mem c0)
   have h1:=qgm n z l i c0 l[i] rfl hww.1 n 0 (Nat.zero_le _) (by omega)
   rw [show ((0:Nat):Int)=(0:Int) from rfl,List.drop_zero] at h1
   rw [hd,List.all_cons]
   simp only [c0',decide_true,cond_true,h1,Option.bind_some]
   rw [show q98 z l[i]=((l[i].all qqm && !decide (l[i] = []))&&(z || !(q2q l[i]&&(decide (1<l[i].length)&&decide (l[i].head? = some 48))))) from rfl]
   cases hs:l[i].all qqm with
   | false=>simp
   | true =>
    simp only [if_true,Sum.elim_inr,q1c c0,Option.bind_some,q8w n _ hww.1 hww.2,q04,q0a (show i<4611686018427387904 by omega),ih]
    generalize hx:l[i]=x at hs hww
    cases x with
    | nil=>simp
    | cons c r =>
     have h0:sAt (c::r) (0:Int)=some ((c.toNat:Nat):Int):=q1l (s:=c::r) (j:=0) (by simp)
     have h2:decide (((c.toNat:Nat):Int)=(48:Int))=decide ((c::r).head? = some 48):=decide_eq_decide.2 (by
      simp only [List.head?_cons,Option.some.injEq]
      constructor
      ·intro h;exact UInt8.toNat_inj.1 (by have e48:(48:UInt8).toNat=48:=rfl;rw [e48];omega)
      ·rintro rfl;rfl)
     have h3:decide ((1:Int)<(((c::r).length:Nat):Int))=decide (1<(c::r).length):=decide_eq_decide.2 (by omega)
     have e0:decide (c::r=([]:Yy))=false:=by simp
     simp only [h0,h2,h3,e0,Option.bind_some,cond_false]
     cases z<;>cases q2q (c::r)<;>cases decide (1<(c::r).length)<;>cases decide ((c::r).head? = some 48)<;>simp
  ·have c0' : ¬ ((i:Nat):Int)<((l.length:Nat):Int):=by omega
   have:l.drop i = []:=List.drop_eq_nil_of_le (by omega)
   simp only [c0',decide_false,cond_false,this,List.all_nil,if_true]
theorem qns (n:Nat) (s:Yy) (z:Bool) (hs:s.length<=100000) (hn:s.length+2<n):qa6 n s z=some ((spl 46 [] s).all (q98 z)):=by
 unfold qa6
 have e1:q0k n s (46:Int)=some (spl 46 [] s):=q3n n s 46 (by omega) (by omega)
 rw [e1]
 have k:=q4y 46 s []
 have h:=qi5 n z (spl 46 [] s) (by omega) (fun w hw=>by have:=q62 46 s [] w hw;simp at this;omega) n 0 (Nat.zero_le _) (by omega)
 rw [show ((0:Nat):Int)=(0:Int) from rfl,List.drop_zero] at h
 simp only [Option.bind_some,h]
 cases (spl 46 [] s).all (q98 z)<;>rfl
theorem jtu (n:Nat) (a:Int):j0x n a=some (jjn a):=by
 unfold j0x jjn
 cases decide ((0:Int)<=a)<;>rfl
theorem qap (n:Nat) (v:VD) (hn:100<=n):qbb n v=some (q1b v):=by
 unfold qbb q1b
 simp only [jtu,Option.bind_some]
 cases jjn v.1 with
 | false=>rfl
 | true=>cases jjn v.2.1 with
  | false=>rfl
  | true=>cases jjn v.2.2.1 with
   | false=>rfl
   | true =>
    simp only [Bool.not_true,cond_false,Bool.true_and]
    unfold q69
    have f1:(q98 true)=q2l:=funext j67
    have f2:(q98 false)=q4v:=funext j25
    by_cases c1:(30:Int)<((v.2.2.2.1.length:Nat):Int)
    ·have e1:v.2.2.2.1 ≠ []:=fun e=>by rw [e] at c1;simp at c1
     have e2 : ¬ v.2.2.2.1.length<=30:=by omega
     simp [c1,e1,e2]
    ·by_cases c2:(30:Int)<((v.2.2.2.2.length:Nat):Int)
     ·have e1:v.2.2.2.2 ≠ []:=fun e=>by rw [e] at c2;simp at c2
      have e2 : ¬ v.2.2.2.2.length<=30:=by omega
      simp [c1,c2,e1,e2]
     ·have l1:v.2.2.2.1.length<=30:=by omega
      have l2:v.2.2.2.2.length<=30:=by omega
      have r1:=qns n v.2.2.2.1 false (by omega) (by omega)
      have r2:=qns n v.2.2.2.2 true (by omega) (by omega)
      rw [f2] at r1
      rw [f1] at r2
      simp only [c1,c2,decide_false,cond_false,r1,r2,l1,l2,decide_true,Bool.true_and,Option.bind_some]
      by_cases p:v.2.2.2.1 = []
      ·by_cases q:v.2.2.2.2 = []<;>simp [p,q]
      ·by_cases q:v.2.2.2.2 = []
       ·simp only [p,q,decide_false,decide_true,cond_false,cond_true,Bool.false_or,Bool.true_or,Bool.and_true]
        cases (spl 46 [] v.2.2.2.1).all q4v<;>rfl
       ·simp only [p,q,decide_false,decide_true,cond_false,cond_true,Bool.false_or]
        cases (spl 46 [] v.2.2.2.1).all q4v<;>rfl
end Go.Proofs.YtapfankgdkdkgaaGreatDoor.AM
namespace Go.Proofs.YtapfankgdkdkgaaGreatDoor.AM
open Go.RowKit
theorem jly (n:Nat) (s:Yy) (hL:s.length<=1000000) (hn:s.length<n):j2p n s=some (q2w s):=by
 unfold j2p q2w
 have hg:=jku 47 s
 obtain ⟨k,hk⟩ : ∃ k:Nat,qah 47 s+1=(k:Int):=⟨(qah 47 s+1).toNat,by omega⟩
 rw [qzs n s hL hn]
 simp only [Option.bind_some,q04]
 rw [hk,wrap64 (by omega) (by omega),sub_le (by omega) (Nat.le_refl _)]
 simp only [Option.bind_some,Int.toNat_natCast]
 rw [List.take_of_length_le (by rw [List.length_drop];exact Nat.le_refl _)]
theorem k15 (s:Yy):(q2y s).length<=s.length:=by unfold q2y;rw [List.length_take];omega
theorem jl9 (s:Yy):(q2w s).length<=s.length:=by unfold q2w;rw [List.length_drop];omega
theorem jek {s:Yy} (h:q1x s=true):q1y s=s.drop 1:=by
 unfold q1x at h
 simp only [Bool.and_eq_true,decide_eq_true_eq] at h
 unfold q1y;rw [if_pos h.1]
theorem qv3 (n:Nat) (s:Yy) (hL:s.length<=1000000) (hn:s.length<n):qjt n s=some (qe8 s):=by
 have hb:=k15 s
 have hl:=jl9 s
 have e1:qv6 s=some (q2y s):=if_pos hL
 have e2:j7y (q2y s)=some (anyS (q2y s)):=if_pos (by omega)
 have e3:qyw (q2w s)=some (numOf (q1y (q2w s)),qyf (q1y (q2w s))):=if_pos (by omega)
 have e4:qxu s=some (q4u s):=rfl
 unfold qjt qe8 okS
 simp only [e1,e2,e3,e4,jly n s hL hn,qt0 n (q2w s) (by omega),Option.bind_some]
 cases q4u s with
 | false=>rfl
 | true=>cases anyS (q2y s) with
  | true=>rfl
  | false=>cases ht:q1x (q2w s) with
   | false=>rfl
   | true =>
    rw [jek ht]
    cases qyf ((q2w s).drop 1) with
    | false=>rfl
    | true =>
     by_cases h0:q2y s = []
     ·simp [h0]
     ·simp [h0]
theorem j5d (s:Yy):(qe8 s).2.2=okS s:=by
 unfold qe8
 cases okS s with
 | false=>rfl
 | true=>cases q1x (q2w s)<;>rfl
theorem qb9 (n:Nat) (s:Yy) (hL:s.length<=1000000) (hn:s.length<n):qbi n s=some (okS s):=by
 unfold qbi
 rw [qv3 n s hL hn,<-j5d];rfl
def qco (p:Yy) (v:VD):Bool:=okS p&&(q1b v&&(if (qe8 p).2.1=0 then decide (v.1<2) else decide (v.1=(qe8 p).2.1)))
theorem j0i (n:Nat) (s:Yy) (v:VD) (hL:s.length<=1000000) (hn:s.length<n) (h4:4<=n):qvd n s v=some (qco s v):=by
 unfold qvd qco
 rw [qv3 n s hL hn]
 simp only [Option.bind_some,j5d,q53 n v h4]
 cases okS s with
 | false=>rfl
 | true=>cases q1b v with
  | false=>rfl
  | true =>
   by_cases h:(qe8 s).2.1=0
   ·simp [h]
   ·simp [h]
theorem jfd (c:UInt8):qgb c=((decide ((97:Int)<=((c.toNat:Nat):Int))&&decide (((c.toNat:Nat):Int)<=(122:Int)))||(decide ((65:Int)<=((c.toNat:Nat):Int))&&decide (((c.toNat:Nat):Int)<=(90:Int)))||(decide ((48:Int)<=((c.toNat:Nat):Int))&&decide (((c.toNat:Nat):Int)<=(57:Int)))||decide (((c.toNat:Nat):Int)=(45:Int))||decide (((c.toNat:Nat):Int)=(95:Int))||decide (((c.toNat:Nat):Int)=(46:Int))):=by
 unfold qgb
 have h6:decide (((c.toNat:Nat):Int)=(95:Int))=decide (c.toNat=95):=decide_eq_decide.2 (by omega)
 have h7:decide (((c.toNat:Nat):Int)=(46:Int))=decide (c.toNat=46):=decide_eq_decide.2 (by omega)
 rw [h6,h7,<-jle]
theorem qsm (n:Nat) (s:Yy) (hL:s.length<=1000000) : ∀m j:Nat,j<=s.length->s.length - j<m->q8f n m s (j:Int)=some (if (s.drop j).all qgb=true then Sum.inr ((s,()),((),())) else Sum.inl ((false,()),((),())))
 | 0,j,_,h=>absurd h (Nat.not_lt_zero _)
 | m+1,j,hj,h=>by
  rw [qm5]
  unfold qwo
  by_cases c0:j<s.length
  ·have c0':((j:Nat):Int)<((s.length:Nat):Int):=by omega
   have ih:=qsm n s hL m (j+1) (by omega) (by omega)
   have hd:s.drop j=s[j]::s.drop (j+1):=(List.drop_eq_getElem_cons c0)
   simp only [c0',decide_true,cond_true,q1l c0,Option.bind_some,q04,q0a (show j<4611686018427387904 by omega),ih,hd,List.all_cons]
   rw [jfd]
   generalize (List.drop (j+1) s).all qgb=B
   generalize decide ((97:Int)<=((s[j].toNat:Nat):Int))=b1
   generalize decide (((s[j].toNat:Nat):Int)<=(122:Int))=b2
   generalize decide ((65:Int)<=((s[j].toNat:Nat):Int))=b3
   generalize decide (((s[j].toNat:Nat):Int)<=(90:Int))=b4
   generalize decide ((48:Int)<=((s[j].toNat:Nat):Int))=b5
   generalize decide (((s[j].toNat:Nat):Int)<=(57:Int))=b6
   generalize decide (((s[j].toNat:Nat):Int)=(45:Int))=b7
   generalize decide (((s[j].toNat:Nat):Int)=(95:Int))=b8
   generalize decide (((s[j].toNat:Nat):Int)=(46:Int))=b9
   cases b1<;>cases b2<;>cases b3<;>cases b4<;>cases b5<;>cases b6<;>cases b7<;>cases b8<;>cases b9<;>rfl
  ·have c0' : ¬ ((j:Nat):Int)<((s.length:Nat):Int):=by omega
   have:s.drop j = []:=List.drop_eq_nil_of_le (by omega)
   simp [c0',this]
theorem jfn (n:Nat) (s:Yy) (hL:s.length<=1000000) (hn:s.length<n):qqq n s=some (qcq s):=by
 unfold qqq qcq
 have:=qsm n s hL n 0 (Nat.zero_le _) (by omega)
 rw [show ((0:Nat):Int)=(0:Int) from rfl] at this
 rw [this,List.drop_zero]
 cases s.all qgb with
 | true =>
  simp only [if_true,Option.bind_some,Sum.elim_inr]
  cases decide (s = [])<;>cases decide (s = [46])<;>cases decide (s = [46,46])<;>rfl
 | false =>
  simp only [Bool.false_eq_true,if_false,Option.bind_some,Sum.elim_inl]
  cases decide (s = [])<;>cases decide (s = [46])<;>cases decide (s = [46,46])<;>rfl
theorem qrj (n:Nat) (l:List (Yy)) (hl:l.length<=1000000) (hw : ∀w∈l,w.length<=1000000/\w.length<n) : ∀m j:Nat,j<=l.length->l.length - j<m->q8x n m l (j:Int)=some (if (l.drop j).all qcq=true then Sum.inr ((),((),())) else Sum.inl ((false,()),((),())))
 | 0,j,_,h=>absurd h (Nat.not_lt_zero _)
 | m+1,j,hj,h=>by
  rw [qmx]
  unfold qtr
  by_cases c0:j<l.length
  ·have c0':((j:Nat):Int)<((l.length:Nat):Int):=by omega
   have ih:=qrj n l hl hw m (j+1) (by omega) (by omega)
   have hd:l.drop j=l[j]::l.drop (j+1):=(List.drop_eq_getElem_cons c0)
   have hm:=hw l[j] (List.getElem_mem c0)
   simp only [c0',decide_true,cond_true,q1c c0,Option.bind_some,jfn n l[j] hm.1 hm.2,q04,q0a (show j<4611686018427387904 by omega),ih,hd,List.all_cons]
   cases qcq l[j]<;>simp
  ·have c0' : ¬ ((j:Nat):Int)<((l.length:Nat):Int):=by omega
   have:l.drop j = []:=List.drop_eq_nil_of_le (by omega)
   simp [c0',this]
theorem qhe (n:Nat) (s:Yy) (hL:s.length<=1000000) (hn:100<=n):qkn n s=some (q4u s):=by
 unfold qkn q4u
 by_cases h:s.length<=60
 ·have h' : ¬ (60:Int)<((s.length:Nat):Int):=by omega
  have hlen:=q4y 47 s []
  have hw : ∀w∈spl 47 [] s,w.length<=s.length:=fun w hm=>by have:=q62 47 s [] w hm;simpa using this
  have:=qrj n (spl 47 [] s) (by omega) (fun w hm=>⟨by have:=hw w hm;omega,by have:=hw w hm;omega⟩) n 0 (Nat.zero_le _) (by omega)
  rw [show ((0:Nat):Int)=(0:Int) from rfl] at this
  simp only [h',decide_false,cond_false]
  rw [show (47:Int)=(((47:UInt8).toNat:Nat):Int) from rfl,q3n n s 47 hL (by omega)]
  simp only [Option.bind_some]
  rw [this,List.drop_zero]
  cases (spl 47 [] s).all qcq<;>simp [h]
 ·have h':(60:Int)<((s.length:Nat):Int):=by omega
  simp [h,h']
end Go.Proofs.YtapfankgdkdkgaaGreatDoor.AM
