
import Derived.Test.YtapfankgdkdkgaaGreatDoorMb11
import Derived.Test.YtapfankgdkdkgaaGreatDoorMb9
import Derived.Test.YtapfankgdkdkgaaGreatDoorMb8
import Derived.Lib.SlTrimSet
import Derived.Test.YtapfankgdkdkgaaGreatDoorMb10
import Derived.Shelf.Strings.SlTrimAscii
namespace Go.Proofs.YtapfankgdkdkgaaGreatDoor.AM.Lx
open Go.RowKit
set_option linter.unusedVariables false
set_option linter.unusedSimpArgs false
abbrev Wd:=List UInt8×Int
def isB (c:UInt8):Bool:=decide (((c.toNat:Nat):Int)=32)||decide (((c.toNat:Nat):Int)=9)
def blk (s:List UInt8) (a b:Nat):Prop:=((s.drop a).take (b - a)).all isB=true
def Std (s:List UInt8):Nat->List Wd->Nat->Prop
 | a,[],e=>e=a
 | a,w::ws,e=>∃ p:Nat,w.2=(p:Int)/\a<=p/\blk s a p/\w.1=(s.drop p).take w.1.length/\w.1 ≠ []/\p+w.1.length<=s.length/\Std s (p+w.1.length) ws e
theorem Std.le {s:List UInt8} : ∀{ws:List Wd} {a e:Nat},Std s a ws e->a<=e
 | [],a,e,h=>Nat.le_of_eq (Eq.symm h)
 | w::ws,a,e,⟨p,_,h1,_,_,_,_,h2⟩=>by have:=Std.le h2;omega
theorem Std.snoc {s:List UInt8} : ∀{ws:List Wd} {a e p:Nat} {t:List UInt8},Std s a ws e->e<=p->blk s e p->t=(s.drop p).take t.length->t ≠ []->p+t.length<=s.length->Std s a (ws ++ [(t,(p:Int))]) (p+t.length)
 | [],a,e,p,t,h,h1,h2,h3,h4,h5=>by
  have h':e=a:=h
  subst h'
  exact ⟨p,rfl,h1,h2,h3,h4,h5,rfl⟩
 | w::ws,a,e,p,t,⟨q,g1,g2,g3,g4,g5,g6,g7⟩,h1,h2,h3,h4,h5=>⟨q,g1,g2,g3,g4,g5,g6,Std.snoc g7 h1 h2 h3 h4 h5⟩
theorem take_one {s:List UInt8} {i:Nat} (h:i<s.length):(s.drop i).take (i+1 - i) = [s[i]]:=by
 rw [show i+1 - i=1 from by omega,List.drop_eq_getElem_cons h];rfl
theorem jex {β:Type} (l:List β) (x y:β):(l ++ [x]).set l.length y=l ++ [y]:=by simp
end Go.Proofs.YtapfankgdkdkgaaGreatDoor.AM.Lx
namespace Go.Proofs.YtapfankgdkdkgaaGreatDoor.AM.Lx
open Go.RowKit
set_option linter.unusedVariables false
set_option linter.unusedSimpArgs false
def q6x (c:UInt8):Bool:=decide (((c.toNat:Nat):Int)=40)||(decide (((c.toNat:Nat):Int)=41)||(decide (((c.toNat:Nat):Int)=91)||(decide (((c.toNat:Nat):Int)=93)||decide (((c.toNat:Nat):Int)=44))))
def pfx:List UInt8->Bool
 | a::b::_=>decide (a=47)&&decide (b=47)
 | _=>false
def addL (ws:List Wd) (c:UInt8):List Wd:=match ws.getLast? with
 | some (t,p)=>ws.dropLast ++ [(t ++ [c],p)]
 | none=>ws
def qbc:List UInt8->Nat->Bool->List Wd->List Wd×Nat
 | [],i,_,ws=>(ws,i)
 | c::r,i,op,ws =>
  if q6x c then qbc r (i+1) false (ws ++ [([c],(i:Int))])
  else if isB c then qbc r (i+1) false ws
  else if op then qbc r (i+1) true (addL ws c)
  else if pfx (c::r) then (ws,i)
  else qbc r (i+1) true (ws ++ [([c],(i:Int))])
theorem pfx_t (n:Nat) (s:List UInt8) (hs:s.length<=1000000):q0r n s [47,47]=some (pfx s):=by
 unfold q0r q1j
 match s with
 | []=>rfl
 | [a]=>simp [pfx]
 | a::b::r =>
  have h:((List.length ([47,47]:List UInt8):Nat):Int)<=((List.length (a::b::r):Nat):Int):=by simp;omega
  simp only [h,decide_true,cond_true]
  rw [sub_zero (by simp)]
  simp [pfx]
theorem qik (ws:List Wd) (t:List UInt8) (p:Int) (c:UInt8):addL (ws ++ [(t,p)]) c=ws ++ [(t ++ [c],p)]:=by
 unfold addL;simp
theorem jnf (n:Nat) (rec:List UInt8->Bool->Int->Int->List Wd->Option (((Unit×(Int×Unit))×Unit×((List Wd)×Unit))⊕(((List UInt8)×(Unit×Unit))×Unit×((List Wd)×Unit)))) (s:List UInt8) (op:Bool) (L:Int) (i:Nat) (ws:List Wd)
  (hi:i<s.length) (hL:L=((s.length:Nat):Int)) (hs:s.length<=1000000) (hw:ws.length<=i) (ho:op=true->∃ ws0 t p,ws=ws0 ++ [(t,((p:Nat):Int))]/\p<=i/\t=(s.drop p).take (i - p)) :
  qrv n rec s op L (i:Int) ws=if q6x s[i] then rec s false L ((i+1:Nat):Int) (ws ++ [([s[i]],(i:Int))])
   else if isB s[i] then rec s false L ((i+1:Nat):Int) ws
   else if op then rec s true L ((i+1:Nat):Int) (addL ws s[i])
   else if pfx (s.drop i) then some (Sum.inl (((),((i:Int),())),((),(ws,()))))
   else rec s true L ((i+1:Nat):Int) (ws ++ [([s[i]],(i:Int))]):=by
 subst hL
 have c0:((i:Nat):Int)<((s.length:Nat):Int):=by omega
 have w1:=q0a (show i<4611686018427387904 by omega)
 have a1:q4q 24 ws [([s[i]],(i:Int))]=some (ws ++ [([s[i]],(i:Int))]):=q7c (by simp;omega)
 have a2:q4q 24 ws [(([]:List UInt8),(i:Int))]=some (ws ++ [([],(i:Int))]):=q7c (by simp;omega)
 have s1:q2k s ((i:Nat):Int) ((i+1:Nat):Int)=some [s[i]]:=by rw [sub_le (by omega) (by omega),take_one hi]
 have s2:q2k s ((i:Nat):Int) ((s.length:Nat):Int)=some (s.drop i):=by
  rw [sub_le (by omega) (Nat.le_refl _),List.take_of_length_le (by rw [List.length_drop];omega)]
 have hp:=pfx_t n (s.drop i) (by rw [List.length_drop];omega)
 unfold qrv
 simp only [c0,decide_true,cond_true,q3g hi,Option.bind_some,q05,w1,s1,s2,a1,a2,hp]
 have eqc : ∀k:Int,decide (((s[i].toNat:Nat):Int)=k)=true\/decide (((s[i].toNat:Nat):Int)=k)=false:=fun k=>by cases decide (((s[i].toNat:Nat):Int)=k)<;>simp
 rcases eqc 40 with h40|h40
 ·simp only [q6x,h40,cond_true,Bool.true_or,Bool.or_true,Bool.false_or,if_true]
 rcases eqc 41 with h41|h41
 ·simp only [q6x,h40,h41,cond_true,cond_false,Bool.true_or,Bool.or_true,Bool.false_or,if_true]
 rcases eqc 91 with h91|h91
 ·simp only [q6x,h40,h41,h91,cond_true,cond_false,Bool.true_or,Bool.or_true,Bool.false_or,if_true]
 rcases eqc 93 with h93|h93
 ·simp only [q6x,h40,h41,h91,h93,cond_true,cond_false,Bool.true_or,Bool.or_true,Bool.false_or,if_true]
 rcases eqc 44 with h44|h44
 ·simp only [q6x,h40,h41,h91,h93,h44,cond_true,cond_false,Bool.true_or,Bool.or_true,Bool.false_or,if_true]
 have hS:q6x s[i]=false:=by simp only [q6x,h40,h41,h91,h93,h44,Bool.or_false]
 rcases eqc 32 with h32|h32
 ·have hB:isB s[i]=true:=by simp only [isB,h32,Bool.true_or]
  simp only [hS,hB,h40,h41,h91,h93,h44,h32,cond_true,cond_false,if_true,Bool.false_eq_true,if_false]
 rcases eqc 9 with h9|h9
 ·have hB:isB s[i]=true:=by simp only [isB,h9,Bool.or_true]
  simp only [hS,hB,h40,h41,h91,h93,h44,h32,h9,cond_true,cond_false,if_true,Bool.false_eq_true,if_false]
 have hB:isB s[i]=false:=by simp only [isB,h32,h9,Bool.or_false]
 simp only [hS,hB,h40,h41,h91,h93,h44,h32,h9,cond_true,cond_false,Bool.false_eq_true,if_false]
 cases op with
 | false =>
  simp only [Bool.not_false,cond_true,Bool.false_eq_true,if_false]
  cases hb:pfx (s.drop i) with
  | true=>simp only [cond_true,if_true]
  | false =>
   have hl:(ws ++ [(([]:List UInt8),(i:Int))]).length=ws.length+1:=by simp
   have w2:IntKind.wrap .i64 ((((ws ++ [(([]:List UInt8),(i:Int))]).length:Nat):Int) - 1)=((ws.length:Nat):Int):=by
    rw [hl,show (((ws.length+1:Nat):Int) - 1)=((ws.length:Nat):Int) from by omega];exact qzd (by omega)
   have g:ws.length<(ws ++ [(([]:List UInt8),(i:Int))]).length:=by omega
   have ge:(ws ++ [(([]:List UInt8),(i:Int))])[ws.length]'g=([],(i:Int)):=by simp
   simp only [cond_false,Bool.false_eq_true,if_false,w2,q0x g,Option.bind_some,Int.toNat_natCast,jk3 g,ge,s1,jex]
 | true =>
  obtain ⟨ws0,t,p,rfl,hpi,rfl⟩:=ho rfl
  simp only [Bool.not_true,cond_false,if_true]
  generalize ht:(s.drop p).take (i - p)=t
  have hl:(ws0 ++ [(t,(p:Int))]).length=ws0.length+1:=by simp
  have w2:IntKind.wrap .i64 ((((ws0 ++ [(t,(p:Int))]).length:Nat):Int) - 1)=((ws0.length:Nat):Int):=by
   rw [hl,show (((ws0.length+1:Nat):Int) - 1)=((ws0.length:Nat):Int) from by omega];exact qzd (by simp at hw;omega)
  have g:ws0.length<(ws0 ++ [(t,(p:Int))]).length:=by omega
  have ge:(ws0 ++ [(t,(p:Int))])[ws0.length]'g=(t,(p:Int)):=by simp
  have s3:q2k s ((p:Nat):Int) ((i+1:Nat):Int)=some (t ++ [s[i]]):=by
   rw [sub_le (by omega) (by omega),<-ht,show i+1 - p=(i - p)+1 from by omega,List.take_add_one,List.getElem?_drop,show p+(i - p)=i from by omega,List.getElem?_eq_getElem hi]
   rfl
  simp only [w2,q0x g,Option.bind_some,Int.toNat_natCast,jk3 g,ge,s3,jex,qik]
theorem j1t (n:Nat) (s:List UInt8) (hs:s.length<=1000000) : ∀(m i:Nat) (op:Bool) (ws:List Wd),i<=s.length->s.length - i<m->ws.length<=i->(op=true->∃ ws0 t p,ws=ws0 ++ [(t,((p:Nat):Int))]/\p<=i/\t=(s.drop p).take (i - p)) ->
  (q63 n m s op ((s.length:Nat):Int) (i:Int) ws=some (Sum.inl (((),((((qbc (s.drop i) i op ws).2:Nat):Int),())),((),((qbc (s.drop i) i op ws).1,()))))\/((qbc (s.drop i) i op ws).2=s.length/\q63 n m s op ((s.length:Nat):Int) (i:Int) ws=some (Sum.inr ((s,((),())),((),((qbc (s.drop i) i op ws).1,()))))))
 | 0,i,op,ws,_,h,_,_=>absurd h (Nat.not_lt_zero _)
 | m+1,i,op,ws,hi,h,hw,ho=>by
  rw [qqe]
  by_cases c0:i<s.length
  ·have ih:=j1t n s hs m
   rw [jnf n (fun a1 a2 a3 a4 a5=>q63 n m a1 a2 a3 a4 a5) s op _ i ws c0 rfl hs hw ho]
   have hd:s.drop i=s[i]::s.drop (i+1):=List.drop_eq_getElem_cons c0
   have h1 : [s[i]]=(s.drop i).take (i+1 - i):=(take_one c0).symm
   rw [hd,qbc,<-hd]
   by_cases cS:q6x s[i]=true
   ·simp only [cS,if_true]
    exact ih (i+1) false _ (by omega) (by omega) (by simp;omega) (fun h=>by cases h)
   ·by_cases cB:isB s[i]=true
    ·simp only [cS,cB,if_true,if_false]
     exact ih (i+1) false _ (by omega) (by omega) (by omega) (fun h=>by cases h)
    ·cases op with
     | true =>
      simp only [cS,cB,if_true,if_false]
      obtain ⟨ws0,t,p,rfl,hpi,ht⟩:=ho rfl
      refine ih (i+1) true _ (by omega) (by omega) (by rw [qik];simp at hw ⊢;omega) (fun _=>⟨ws0,t ++ [s[i]],p,qik _ _ _ _,by omega,?_⟩)
      rw [ht,show i+1 - p=(i - p)+1 from by omega,List.take_add_one,List.getElem?_drop,show p+(i - p)=i from by omega,List.getElem?_eq_getElem c0]
      rfl
     | false =>
      by_cases cP:pfx (s.drop i)=true
      ·simp only [cS,cB,cP,Bool.false_eq_true,if_true,if_false]
       exact Or.inl (by first|rfl|trivial)
      ·simp only [cS,cB,cP,Bool.false_eq_true,if_false]
       exact ih (i+1) true _ (by omega) (by omega) (by simp;omega) (fun _=>⟨ws,[s[i]],i,rfl,by omega,h1⟩)
  ·unfold qrv
   have c0' : ¬ ((i:Nat):Int)<((s.length:Nat):Int):=by omega
   have hie:i=s.length:=by omega
   have hd:s.drop i = []:=List.drop_eq_nil_of_le (by omega)
   simp only [c0',decide_false,cond_false,hd,qbc]
   exact Or.inr ⟨hie,by first|rfl|trivial⟩
theorem cut_P (n:Nat) (s:List UInt8) (hs:s.length<=1000000) (hn:s.length<n):jc0 n s=some ((qbc s 0 false []).1,(((qbc s 0 false []).2:Nat):Int)):=by
 have h:=j1t n s hs n 0 false [] (Nat.zero_le _) (by omega) (Nat.zero_le _) (fun h=>by cases h)
 rw [List.drop_zero,show ((0:Nat):Int)=(0:Int) from rfl] at h
 unfold jc0
 rcases h with h|⟨h0,h⟩
 ·rw [h];rfl
 ·rw [h,h0];rfl
theorem jou : ∀(s:List UInt8) (i:Nat) (op:Bool) (ws:List Wd),i<=(qbc s i op ws).2/\(qbc s i op ws).2<=i+s.length
 | [],i,op,ws=>⟨Nat.le_refl _,Nat.le_refl _⟩
 | c::r,i,op,ws=>by
  have k:=fun op ws=>jou r (i+1) op ws
  rw [qbc,List.length_cons]
  split
  ·have:=k false (ws ++ [([c],(i:Int))]);omega
  ·split
   ·have:=k false ws;omega
   ·split
    ·have:=k true (addL ws c);omega
    ·split
     ·simp
     ·have:=k true (ws ++ [([c],(i:Int))]);omega
theorem qh8 (c:UInt8) (r:List UInt8) (i:Nat) (op:Bool) (ws:List Wd):qbc (c::r) i op ws =
  if q6x c then qbc r (i+1) false (ws ++ [([c],(i:Int))])
  else if isB c then qbc r (i+1) false ws
  else if op then qbc r (i+1) true (addL ws c)
  else if pfx (c::r) then (ws,i)
  else qbc r (i+1) true (ws ++ [([c],(i:Int))]):=rfl
def okc (c:UInt8):Bool:=!((decide (((c.toNat:Nat):Int)<32) && !decide (((c.toNat:Nat):Int)=9))||decide ((126:Int)<((c.toNat:Nat):Int)))
theorem qm0 (n:Nat) (s:List UInt8) (hL:s.length<=1000000) : ∀m j:Nat,j<=s.length->s.length - j<m->q76 n m s ((s.length:Nat):Int) (j:Int)=some (if (s.drop j).all okc then Sum.inr ((),(),()) else Sum.inl ((false,()),(),()))
 | 0,j,_,h=>absurd h (Nat.not_lt_zero _)
 | m+1,j,hj,h=>by
  rw [qjt]
  unfold qst
  by_cases c0:j<s.length
  ·have c0':((j:Nat):Int)<((s.length:Nat):Int):=by omega
   have ih:=qm0 n s hL m (j+1) (by omega) (by omega)
   have hd:s.drop j=s[j]::s.drop (j+1):=(List.drop_eq_getElem_cons c0)
   simp only [c0',decide_true,cond_true,q3g c0,Option.bind_some,q05,q0a (show j<4611686018427387904 by omega),ih,hd,List.all_cons,okc]
   generalize decide (((s[j].toNat:Nat):Int)<32)=b1
   generalize decide (((s[j].toNat:Nat):Int)=9)=b2
   generalize decide ((126:Int)<((s[j].toNat:Nat):Int))=b3
   cases b1<;>cases b2<;>cases b3<;>simp<;>rfl
  ·have c0' : ¬ ((j:Nat):Int)<((s.length:Nat):Int):=by omega
   have:s.drop j = []:=List.drop_eq_nil_of_le (by omega)
   simp [c0',this]
theorem jqz (n:Nat) (s:List UInt8) (hL:s.length<=1000000) (hn:s.length<n):qmz n s=some (s.all okc):=by
 unfold qmz
 have:=qm0 n s hL n 0 (Nat.zero_le _) (by omega)
 rw [show ((0:Nat):Int)=(0:Int) from rfl] at this
 rw [this,List.drop_zero]
 cases s.all okc<;>rfl
theorem one_P (n:Nat) (s:List UInt8) (hL:s.length<=1000000) (hn:s.length<n):j1g n s=some (if s.all okc then (((qbc s 0 false []).1,s.drop (qbc s 0 false []).2),0) else (([],[]),9)):=by
 unfold j1g
 rw [jqz n s hL hn]
 cases h:s.all okc with
 | false=>rfl
 | true =>
  have h2:=(jou s 0 false []).2
  simp only [Option.bind_some,Bool.not_true,cond_false,cut_P n s hL hn,if_true]
  rw [sub_le (by omega) (Nat.le_refl _),Option.bind_some,List.take_of_length_le (by rw [List.length_drop];omega)]
end Go.Proofs.YtapfankgdkdkgaaGreatDoor.AM.Lx
namespace Go.Proofs.YtapfankgdkdkgaaGreatDoor.AM.Lx
open Go.RowKit
set_option linter.unusedVariables false
set_option linter.unusedSimpArgs false
def j7o:List UInt8->Nat->Bool->List Wd->List Wd
 | [],i,_,ws=>ws
 | c::r,i,op,ws =>
  if q6x c then j7o r (i+1) false (ws ++ [([c],(i:Int))])
  else if isB c then j7o r (i+1) false ws
  else if op then j7o r (i+1) true (addL ws c)
  else j7o r (i+1) true (ws ++ [([c],(i:Int))])
theorem qc3 (c:UInt8) (r:List UInt8) (i:Nat) (op:Bool) (ws:List Wd):j7o (c::r) i op ws =
  if q6x c then j7o r (i+1) false (ws ++ [([c],(i:Int))])
  else if isB c then j7o r (i+1) false ws
  else if op then j7o r (i+1) true (addL ws c)
  else j7o r (i+1) true (ws ++ [([c],(i:Int))]):=rfl
def jua:List UInt8->Bool->Nat
 | [],_=>0
 | c::r,op=>if (!op&&pfx (c::r))=true then 0 else 1+jua r (!(q6x c||isB c))
theorem jo9 (c:UInt8) (r:List UInt8) (op:Bool):jua (c::r) op=if (!op&&pfx (c::r))=true then 0 else 1+jua r (!(q6x c||isB c)):=rfl
theorem jmg (c:UInt8) (r:List UInt8) (h:q6x c=true\/isB c=true):pfx (c::r)=false:=by
 cases r with
 | nil=>rfl
 | cons b r =>
  have:c≠47:=by
   rintro rfl
   rcases h with h|h<;>revert h<;>decide
  simp [pfx,this]
theorem qyl : ∀(l:List UInt8) (i:Nat) (op:Bool) (ws:List Wd),qbc l i op ws=(j7o (l.take (jua l op)) i op ws,i+jua l op)
 | [],i,op,ws=>rfl
 | c::r,i,op,ws=>by
  have ih:=fun op ws=>qyl r (i+1) op ws
  rw [qh8,jo9]
  by_cases c1:q6x c=true
  ·rw [if_pos c1,jmg c r (Or.inl c1),ih]
   simp only [Bool.and_false,Bool.false_eq_true,if_false,c1,Bool.true_or,Bool.not_true]
   rw [Nat.add_comm 1,List.take_succ_cons,qc3,if_pos c1,Nat.add_assoc i 1,Nat.add_comm 1]
  rw [if_neg c1]
  by_cases c2:isB c=true
  ·rw [if_pos c2,jmg c r (Or.inr c2),ih]
   simp only [Bool.and_false,Bool.false_eq_true,if_false,c2,Bool.or_true,Bool.not_true]
   rw [Nat.add_comm 1,List.take_succ_cons,qc3,if_neg c1,if_pos c2,Nat.add_assoc i 1,Nat.add_comm 1]
  rw [if_neg c2]
  have c1':q6x c=false:=by simpa using c1
  have c2':isB c=false:=by simpa using c2
  by_cases c3:op=true
  ·subst c3
   rw [if_pos rfl,ih]
   simp only [Bool.not_true,Bool.false_and,Bool.false_eq_true,if_false,c1',c2',Bool.or_self,Bool.not_false]
   rw [Nat.add_comm 1,List.take_succ_cons,qc3,if_neg c1,if_neg c2,if_pos rfl,Nat.add_assoc i 1,Nat.add_comm 1]
  have c3':op=false:=by simpa using c3
  subst c3'
  rw [if_neg c3]
  by_cases c4:pfx (c::r)=true
  ·rw [if_pos c4,if_pos (by rw [c4];rfl)];rfl
  rw [if_neg c4,if_neg (by simpa using c4),ih]
  simp only [c1',c2',Bool.or_self,Bool.not_false]
  rw [Nat.add_comm 1,List.take_succ_cons,qc3,if_neg c1,if_neg c2,if_neg c3,Nat.add_assoc i 1,Nat.add_comm 1]
def prev (s:List UInt8) (i:Nat):Bool:=if h:0<i/\i<=s.length then !(q6x (s[i - 1]'(by omega))||isB (s[i - 1]'(by omega))) else false
theorem jeh : ∀(l:List UInt8) (i:Nat) (op:Bool) (ws:List Wd),(j7o l i op ws).length<=ws.length+l.length
 | [],i,op,ws=>by simp [j7o]
 | c::r,i,op,ws=>by
  have ih:=fun op ws=>jeh r (i+1) op ws
  rw [qc3,List.length_cons]
  split
  ·have:=ih false (ws ++ [([c],(i:Int))]);simp at this;omega
  ·split
   ·have:=ih false ws;omega
   ·split
    ·have:=ih true (addL ws c)
     have h2:(addL ws c).length<=ws.length:=by
      unfold addL
      split
      ·rename_i t p h
       have:ws ≠ []:=by rintro rfl;simp at h
       have:=List.length_pos_iff.2 this
       simp;omega
      ·exact Nat.le_refl _
     omega
    ·have:=ih true (ws ++ [([c],(i:Int))]);simp at this;omega
abbrev Ln:=List Wd×List UInt8
def j7n (s:List UInt8):Ln:=((qbc s 0 false []).1,s.drop (qbc s 0 false []).2)
def oneR (s:List UInt8):Ln×Int:=if s.all okc then (j7n s,0) else (([],[]),9)
theorem jz7 (n:Nat) (s:List UInt8) (hL:s.length<=1000000) (hn:s.length<n):j1g n s=some (oneR s):=by
 rw [one_P n s hL hn];rfl
theorem jsp (s:List UInt8):(j7n s).1.length<=s.length/\(j7n s).2.length<=s.length:=by
 unfold j7n
 rw [qyl]
 have:=jeh (s.take (jua s false)) 0 false []
 rw [List.length_take,List.length_nil] at this
 refine ⟨?_,?_⟩
 ·show (j7o (s.take (jua s false)) 0 false []).length<=_;omega
 ·rw [List.length_drop];omega
def j9q (s:List UInt8):Bool:=s.getLast? == some 10
def q0p (s:List UInt8):List (List UInt8):=if s = [] then [] else spl 10 [] (if j9q s=true then s.dropLast else s)
theorem j2p (n:Nat) (s:List UInt8) (hs:s.length<=1000000):q7z n s [10]=some (if j9q s=true then s.dropLast else s):=by
 unfold q7z qa6 qbo j9q
 rcases List.eq_nil_or_concat s with rfl|⟨m,c,rfl⟩
 ·rfl
 ·rw [List.concat_eq_append]
  have hl:(m ++ [c]).length=m.length+1:=by simp
  rw [List.concat_eq_append] at hs
  have h1:((([10]:List UInt8).length:Nat):Int)<=(((m ++ [c]).length:Nat):Int):=by rw [hl];simp;omega
  have w1:IntKind.wrap .i64 ((((m ++ [c]).length:Nat):Int) - ((([10]:List UInt8).length:Nat):Int))=((m.length:Nat):Int):=by
   rw [hl,show (((m.length+1:Nat):Int) - ((([10]:List UInt8).length:Nat):Int))=((m.length:Nat):Int) from by simp];exact qzd (by omega)
  have s1:q2k (m ++ [c]) ((m.length:Nat):Int) (((m ++ [c]).length:Nat):Int)=some [c]:=by rw [sub_le (by rw [hl];omega) (Nat.le_refl _),hl];simp
  have s2:q2k (m ++ [c]) (0:Int) ((m.length:Nat):Int)=some m:=by rw [sub_zero (by rw [hl];omega)];simp
  simp only [h1,decide_true,cond_true,q05,w1,s1,s2,Option.bind_some]
  by_cases hc:c=10
  ·subst hc;simp
  ·simp [hc]
theorem jbt (n:Nat) (s:List UInt8) (hs:s.length<=1000000):qdq n s=some (q0p s):=by
 unfold qdq q0p
 by_cases h:s = []
 ·simp [h]
 ·have h2:(if j9q s=true then s.dropLast else s).length<=s.length:=by split<;>simp
  rw [j2p n s hs]
  simp only [h,decide_false,cond_false,Option.bind_some,q9j,if_false]
  rw [if_pos (by omega),Option.bind_some]
theorem q2p (n:Nat) (s:List UInt8) (c:UInt8) (hs:s.length<=1000000) : ∀(m i fr:Nat) (out:List (List UInt8)),i<=s.length->s.length - i+1<m->fr<=i->out.length<=i ->
  q1b n m s ((c.toNat:Nat):Int) (fr:Int) (i:Int) out=some (((),()),((),(out++spl c ((s.drop fr).take (i - fr)) (s.drop i),())))
 | 0,i,fr,_,_,h,_,_=>absurd h (Nat.not_lt_zero _)
 | m+1,i,fr,out,hi,h,hf,ho=>by
  rw [q1p]
  unfold q2u
  have c0:((i:Nat):Int)<=((s.length:Nat):Int):=by omega
  have w1:=q0a (show i<4611686018427387904 by omega)
  have s1:q2k s ((fr:Nat):Int) ((i:Nat):Int)=some ((s.drop fr).take (i - fr)):=sub_le hf hi
  have a1:q4q 16 out [(s.drop fr).take (i - fr)]=some (out ++ [(s.drop fr).take (i - fr)]):=q7c (by simp;omega)
  by_cases c1:i=s.length
  ·have c1':((i:Nat):Int)=((s.length:Nat):Int):=by omega
   have hd:s.drop i = []:=List.drop_eq_nil_of_le (by omega)
   simp only [c0,c1',decide_true,cond_true]
   rw [<-c1',s1,Option.bind_some,a1,Option.bind_some,hd]
   simp only [q05,w1]
   cases m with
   | zero=>omega
   | succ m =>
    rw [q1p]
    unfold q2u
    have c2 : ¬ ((i+1:Nat):Int)<=((s.length:Nat):Int):=by omega
    simp only [c2,Int.le_refl,decide_true,decide_false,cond_true,cond_false]
    rfl
  ·have c1' : ¬ ((i:Nat):Int)=((s.length:Nat):Int):=by omega
   have hi':i<s.length:=by omega
   have hd:s.drop i=s[i]::s.drop (i+1):=List.drop_eq_getElem_cons hi'
   simp only [c0,c1',decide_true,decide_false,cond_true,cond_false,q3g hi',Option.bind_some,q05,w1,s1,a1]
   have hc:decide (((s[i].toNat:Nat):Int)=((c.toNat:Nat):Int))=decide (s[i]=c):=by
    apply decide_eq_decide.2
    constructor
    ·intro hh;exact UInt8.toNat_inj.1 (by omega)
    ·intro hh;rw [hh]
   rw [hc,hd,spl]
   by_cases c2:s[i]=c
   ·simp only [c2,decide_true,cond_true,if_true]
    rw [q2p n s c hs m (i+1) (i+1) (out ++ [(s.drop fr).take (i - fr)]) (by omega) (by omega) (Nat.le_refl _) (by simp;omega)]
    simp
   ·simp only [c2,decide_false,cond_false,if_false]
    rw [q2p n s c hs m (i+1) fr out (by omega) (by omega) (by omega) (by omega)]
    have e1:(s.drop fr).take (i+1 - fr)=(s.drop fr).take (i - fr) ++ [s[i]]:=by
     rw [show i+1 - fr=(i - fr)+1 from by omega,List.take_add_one,List.getElem?_drop,show fr+(i - fr)=i from by omega,List.getElem?_eq_getElem hi']
     rfl
    rw [e1]
theorem qaz (n:Nat) (s:List UInt8) (c:UInt8) (hs:s.length<=1000000) (hn:s.length+1<n):q2b n s ((c.toNat:Nat):Int)=some (spl c [] s):=by
 unfold q2b
 have h:=q2p n s c hs n 0 0 [] (Nat.zero_le _) (by omega) (Nat.le_refl _) (Nat.zero_le _)
 rw [show ((0:Nat):Int)=(0:Int) from rfl] at h
 rw [h]
 simp
theorem qfk (s:List UInt8):(q0p s).length<=s.length+1/\∀x∈q0p s,x.length<=s.length:=by
 unfold q0p
 split
 ·exact ⟨by simp,fun x h=>by cases h⟩
 ·have h2:(if j9q s=true then s.dropLast else s).length<=s.length:=by split<;>simp
  refine ⟨by have:=(q8a 10 (if j9q s=true then s.dropLast else s) []).2;omega,fun x hx=>?_⟩
  have:=qck 10 _ _ x hx
  simp at this
  omega
end Go.Proofs.YtapfankgdkdkgaaGreatDoor.AM.Lx
namespace Go.Proofs.YtapfankgdkdkgaaGreatDoor.AM.Lx
open Go.RowKit
set_option linter.unusedVariables false
set_option linter.unusedSimpArgs false
def q4x:List (List UInt8)->Nat->List Ln->List Ln×Int×Int
 | [],i,out=>(out,(i:Int),0)
 | x::xs,i,out=>if x.all okc=true then q4x xs (i+1) (out ++ [j7n x]) else ([],(i:Int),9)
theorem qs6 (n:Nat) (ls:List (List UInt8)) (hl:ls.length<=1000000) (hx : ∀x∈ls,x.length<=1000000/\x.length<n) : ∀(m j:Nat) (out:List Ln),j<=ls.length->ls.length - j<m->out.length=j ->
  (q7p n m ls ((ls.length:Nat):Int) (j:Int) out).bind (fun o6=>Sum.elim (fun q7=>some (([]:List Ln),(q7.1.2.1,q7.1.2.2.1))) (fun q8=>some (q8.2.2.1,(((List.length q8.2.2.1:Nat):Int),(0:Int)))) o6)=some (q4x (ls.drop j) j out)
 | 0,j,_,_,h,_=>absurd h (Nat.not_lt_zero _)
 | m+1,j,out,hj,h,ho=>by
  rw [qiz]
  unfold qrb
  by_cases c0:j<ls.length
  ·have c0':((j:Nat):Int)<((ls.length:Nat):Int):=by omega
   obtain ⟨x1,x2⟩:=hx ls[j] (List.getElem_mem c0)
   rw [List.drop_eq_getElem_cons c0,q4x]
   simp only [c0',decide_true,cond_true,q0x c0,Option.bind_some,jz7 n ls[j] x1 x2,oneR]
   by_cases hk:ls[j].all okc=true
   ·have a1:q4q 40 out [j7n ls[j]]=some (out ++ [j7n ls[j]]):=q7c (by simp;omega)
    simp only [hk,if_true,decide_true,Bool.not_true,cond_false,a1,Option.bind_some,q05,q0a (show j<4611686018427387904 by omega)]
    exact qs6 n ls hl hx m (j+1) _ (by omega) (by omega) (by simp;omega)
   ·rw [if_neg hk,if_neg hk]
    rfl
  ·have c0' : ¬ ((j:Nat):Int)<((ls.length:Nat):Int):=by omega
   simp only [c0',decide_false,cond_false,Option.bind_some,Sum.elim_inr]
   rw [List.drop_eq_nil_of_le (by omega),q4x,ho]
theorem jtc (n:Nat) (s:List UInt8) (hs:s.length<=100000) (hn:s.length+1<n):qgv n s=some (q4x (q0p s) 0 []):=by
 unfold qgv
 obtain ⟨h1,h2⟩:=qfk s
 rw [jbt n s (by omega),Option.bind_some]
 exact qs6 n (q0p s) (by omega) (fun x hx=>by have:=h2 x hx;omega) n 0 [] (Nat.zero_le _) (by omega) rfl
theorem je0 : ∀(l:List (List UInt8)),(∀x∈l,(10:UInt8) ∉ x)->∀x,(10:UInt8) ∉ x->spl 10 [] (((x::l).map (· ++ [10])).flatten)=(x::l) ++ [[]]
 | [],_,x,hx=>by
  simp only [List.map_cons,List.map_nil,List.flatten_cons,List.flatten_nil,List.append_nil]
  rw [jdp]
  have:=qdn 10 x [] [] hx
  rw [List.append_nil] at this
  rw [this];simp [spl]
 | y::l,h,x,hx=>by
  rw [List.map_cons,List.flatten_cons,List.append_assoc,qdn 10 x [] _ hx]
  rw [List.singleton_append,List.nil_append,spl,if_pos rfl,je0 l (fun z hz=>h z (List.mem_cons_of_mem _ hz)) y (h y List.mem_cons_self)]
  simp
theorem j7d (l:List (List UInt8)) (h : ∀x∈l,(10:UInt8) ∉ x):q0p ((l.map (· ++ [10])).flatten)=l:=by
 unfold q0p
 cases l with
 | nil=>rfl
 | cons x l =>
  have h1:=je0 l (fun z hz=>h z (List.mem_cons_of_mem _ hz)) x (h x List.mem_cons_self)
  obtain ⟨m,hm⟩ : ∃ m,((x::l).map (· ++ [10])).flatten=m ++ [10]:=by
   rcases List.eq_nil_or_concat (x::l) with h0|⟨a,b,h0⟩
   ·cases h0
   ·rw [h0,List.concat_eq_append]
    exact ⟨(a.map (· ++ [10])).flatten++b,by simp⟩
  rw [hm] at h1 ⊢
  rw [if_neg (by simp),if_pos (by simp [j9q]),List.dropLast_concat]
  rw [jdp] at h1
  exact List.append_cancel_right h1
end Go.Proofs.YtapfankgdkdkgaaGreatDoor.AM.Lx
namespace Go.Proofs.YtapfankgdkdkgaaGreatDoor.AM
open Go.RowKit
set_option linter.unusedVariables false
set_option linter.unusedSimpArgs false
def qa3 (c:UInt8):Bool:=qnn c||decide (c.toNat=95)||decide (c.toNat=46)
def qav (s:List UInt8):Bool:=!decide (s = [])&&(!decide (s = [46])&&(!decide (s = [46,46])&&s.all qa3))
def q56 (s:List UInt8):Bool:=decide (s.length<=60)&&(spl 47 [] s).all qav
def q1n (w:List UInt8):Bool:=decide (w.head? = some 118)&&q42 (w.drop 1)
def anyS (s:List UInt8):Bool:=(spl 47 [] s).any q1n
def q87 (c:UInt8):List UInt8->Int
 | []=>-1
 | b::r=>if b=c then (r.length:Int) else q87 c r
def q92 (c:UInt8) (s:List UInt8):Int:=q87 c s.reverse
theorem jdd (c:UInt8) : ∀l,-1<=q87 c l/\q87 c l<(l.length:Int)
 | []=>by simp [q87]
 | b::r=>by
  have:=jdd c r
  rw [q87];split
  ·simp;omega
  ·simp;omega
theorem jeo (c:UInt8) (s:List UInt8) : -1<=q92 c s/\q92 c s<(s.length:Int):=by
 have:=jdd c s.reverse;unfold q92;simpa using this
theorem qxl (c:UInt8) : ∀l,c ∉ l->q87 c l = -1
 | [],_=>rfl
 | b::r,h=>by
  have h1:b≠c:=fun e=>h (by simp [e])
  rw [q87,if_neg h1,qxl c r (fun e=>h (by simp [e]))]
theorem j3o (c:UInt8) : ∀(y x:List UInt8),c ∉ y->q87 c (y++c::x)=(x.length:Int)
 | [],x,_=>by simp [q87]
 | b::y,x,h=>by
  have h1:b≠c:=fun e=>h (by simp [e])
  rw [List.cons_append,q87,if_neg h1,j3o c y x (fun e=>h (by simp [e]))]
theorem jfs {c:UInt8} {s:List UInt8} (h:c ∉ s):q92 c s = -1:=qxl c _ (by simpa using h)
theorem jo6 {c:UInt8} {x y:List UInt8} (h:c ∉ y):q92 c (x++c::y)=(x.length:Int):=by
 have:=j3o c y.reverse x.reverse (by simpa using h)
 unfold q92
 simpa using this
def q2j (s:List UInt8):List UInt8:=s.take (q92 47 s).toNat
def q2g (s:List UInt8):List UInt8:=s.drop (q92 47 s+1).toNat
theorem jdc (c:UInt8) : ∀s:List UInt8,c ∉ s \/ ∃ x y,s=x++c::y/\c ∉ y
 | []=>Or.inl (by simp)
 | b::s=>by
  rcases jdc c s with h|⟨x,y,rfl,h⟩
  ·by_cases hb:b=c
   ·subst hb;exact Or.inr ⟨[],s,rfl,h⟩
   ·exact Or.inl (by simp [h,Ne.symm hb])
  ·exact Or.inr ⟨b::x,y,rfl,h⟩
theorem j55 {s:List UInt8} (h:47 ∉ s):q2j s = []/\q2g s=s:=by
 unfold q2j q2g;rw [jfs h];exact ⟨rfl,rfl⟩
theorem jf3 {x y:List UInt8} (h:47 ∉ y):q2j (x++47::y)=x/\q2g (x++47::y)=y:=by
 unfold q2j q2g;rw [jo6 h]
 constructor
 ·simp
 ·rw [show (((x.length:Nat):Int)+1).toNat=x.length+1 from by omega];simp
theorem j86 (c:UInt8) : ∀(x cur y:List UInt8),spl c cur (x++c::y)=spl c cur x++spl c [] y
 | [],cur,y=>by simp [spl]
 | b::x,cur,y=>by
  rw [List.cons_append,spl,spl]
  split
  ·rw [j86 c x];rfl
  ·rw [j86 c x]
theorem jhi (s:List UInt8):(47 ∉ s/\q2j s = []/\q2g s=s/\spl 47 [] s = [s])\/(s=q2j s++47::q2g s/\47 ∉ q2g s/\spl 47 [] s=spl 47 [] (q2j s) ++ [q2g s]):=by
 rcases jdc 47 s with h|⟨x,y,rfl,h⟩
 ·exact Or.inl ⟨h,(j55 h).1,(j55 h).2,j5z 47 s h⟩
 ·refine Or.inr ?_
  rw [(jf3 h).1,(jf3 h).2]
  exact ⟨rfl,h,by rw [j86,j5z 47 y h]⟩
abbrev jg4:List UInt8:=[48,49,50,51,52,53,54,55,56,57]
theorem jri (c:UInt8):jg4.contains c=q18 c:=by
 have h : ∀k:Fin 256,jg4.contains (UInt8.ofNat k.val)=q18 (UInt8.ofNat k.val):=by decide +kernel
 have h1:=h ⟨c.toNat,c.toNat_lt⟩
 simpa using h1
theorem dropWhile_nil (p:UInt8->Bool) : ∀l:List UInt8,l.dropWhile p = []↔l.all p=true
 | []=>by simp
 | b::l=>by
  rw [List.dropWhile_cons]
  cases h:p b with
  | true=>simp [h,dropWhile_nil p l]
  | false=>simp [h]
theorem qhk {p:UInt8->Bool} {c:UInt8} : ∀{l:List UInt8},c∈l->p c=false->c∈l.dropWhile p
 | b::l,h,hp=>by
  rw [List.dropWhile_cons]
  rcases List.mem_cons.1 h with rfl|h
  ·simp [hp]
  ·cases hb:p b with
   | true=>simpa using qhk h hp
   | false=>simp [h]
theorem jr0 (s:List UInt8):decide (Lib.trimS s jg4 = [])=s.all q18:=by
 have he:(fun c=>jg4.contains c)=q18:=funext jri
 unfold Lib.trimS Lib.trimRightS Lib.trimLeftS
 rw [he]
 cases h:s.all q18 with
 | true =>
  have h2:s.reverse.all q18=true:=by rw [List.all_reverse];exact h
  rw [(dropWhile_nil q18 s.reverse).2 h2];simp
 | false =>
  rw [decide_eq_false_iff_not,dropWhile_nil]
  intro hc
  have h3 : ∃ c,c∈s/\q18 c=false:=by
   have:=List.all_eq_false.1 h
   obtain ⟨c,hc,hn⟩:=this
   exact ⟨c,hc,by simpa using hn⟩
  obtain ⟨c,hm,hn⟩:=h3
  have h4:c∈(s.reverse.dropWhile q18).reverse:=by simpa using qhk (l:=s.reverse) (by simpa using hm) hn
  have:=List.all_eq_true.1 hc c h4
  rw [hn] at this;cases this
def numOf (s:List UInt8):Int:=match Lib.atoiAll s with
 | .ok v=>v
 | .range=>Lib.atoiSat s
 | _=>0
def qv3 (s:List UInt8):Bool:=match Lib.atoiAll s with
 | .ok v=>decide (2<=v)&&(decide (v<=999999999)&&decide (s=Lib.itoa v))
 | _=>false
theorem jm0 {n:Int} (h0:2<=n) (h1:n<=999999999):qv3 (Lib.itoa n)=true/\numOf (Lib.itoa n)=n:=by
 unfold qv3 numOf;rw [qhy (by omega) h1];simp [h0,h1]
theorem j2w {s:List UInt8} (h:qv3 s=true):2<=numOf s/\numOf s<=999999999/\s=Lib.itoa (numOf s):=by
 unfold qv3 at h;unfold numOf
 cases e:Lib.atoiAll s with
 | ok v=>rw [e] at h;simpa using h
 | range=>rw [e] at h;cases h
 | «syntax»=>rw [e] at h;cases h
def okS (p:List UInt8):Bool:=q56 p&&(!anyS (q2j p)&&(!q1n (q2g p)||(qv3 ((q2g p).drop 1) && !decide (q2j p = []))))
def qce (p:List UInt8):List UInt8×(Int×Bool):=if okS p then (if q1n (q2g p) then (q2j p,(numOf ((q2g p).drop 1),true)) else (p,(0,true))) else ([],(0,false))
theorem qjh {s:List UInt8} (h:q56 s=true):s.length<=60/\(spl 47 [] s).all qav=true:=by
 unfold q56 at h;simpa using h
theorem jw2 {s:List UInt8} (h:q56 s=true):s ≠ []:=by
 rintro rfl;exact absurd h (by decide)
theorem qyi {p:List UInt8} (h:okS p=true):q56 p=true/\anyS (q2j p)=false/\(q1n (q2g p)=true->qv3 ((q2g p).drop 1)=true/\q2j p ≠ []):=by
 unfold okS at h
 simp only [Bool.and_eq_true,Bool.or_eq_true,Bool.not_eq_true',decide_eq_false_iff_not] at h
 refine ⟨h.1,h.2.1,fun ht=>?_⟩
 rcases h.2.2 with h3|h3
 ·rw [ht] at h3;cases h3
 ·exact h3
end Go.Proofs.YtapfankgdkdkgaaGreatDoor.AM
namespace Go.Proofs
open Go.RowKit Go.Shelf Go.Lib
shelf_lay Lays.n160 Nm 160 at Tryz as Tryz.laysTrim
set_option linter.unusedVariables false
set_option linter.unusedSimpArgs false
namespace YtapfankgdkdkgaaGreatDoor.AM
def qrd (s cs:List UInt8):Option (List UInt8):=if cs=jg4/\s.length<=1000000 then some (Lib.trimS s jg4) else none
def jfi:FC:={ f:=166,args:=[qvn,qvn],res:=qvn,F:=fun p=>qrd p.1 p.2 }
theorem jqh:q0c Inv Tryz.prog jfi:=fun G hG=>⟨⟨by kernel_rfl,fun a r h=>by
 obtain ⟨s,cs⟩:=a
 have h':qrd s cs=some r:=h
 unfold qrd at h'
 split at h'
 case isFalse=>cases h'
 rename_i hc
 obtain ⟨rfl,hl⟩:=hc
 have hr:Lib.trimS s jg4=r:=Option.some.inj h'
 intro Pc w vs hg hlt hv
 obtain ⟨l⟩:=vs
 match l,hv with
 | [x,y],⟨h1,h2,_⟩ =>
  obtain rfl:x = .string (ba s):=q0b h1
  obtain rfl:y = .string (ba jg4):=q0b h2
  have e1:(ba s).data.toList=s:=by simp [ba]
  have e2:(ba jg4).data.toList=jg4:=by simp [ba]
  have hh:=Any.strings_Trim_laid Tryz.laysTrim (by kernel_rfl) (ba s) (ba jg4) w (by rw [q39];omega) (by rw [q39];decide) (by rw [e2];exact ascii_of_all (by decide))
  rw [e1,e2,hr] at hh
  refine hh.mono ?_
  rintro e w' ⟨rfl,hb⟩
  exact q4d rfl hb (q06 (.string (ba r)))⟩,rfl⟩
end YtapfankgdkdkgaaGreatDoor.AM
end Go.Proofs
