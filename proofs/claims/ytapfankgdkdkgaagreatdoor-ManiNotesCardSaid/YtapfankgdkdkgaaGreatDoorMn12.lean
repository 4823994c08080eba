
import Derived.Test.YtapfankgdkdkgaaGreatDoorMn11
import Derived.Test.YtapfankgdkdkgaaGreatDoorMn9
import Derived.Test.YtapfankgdkdkgaaGreatDoorMn8
import Derived.Lib.SlTrimSet
import Derived.Test.YtapfankgdkdkgaaGreatDoorMn10
import Derived.Shelf.Strings.SlTrimAscii
namespace Go.Proofs.YtapfankgdkdkgaaGreatDoor.AM.Lx
open Go.RowKit
set_option linter.unusedVariables false
set_option linter.unusedSimpArgs false
abbrev Wd:=List UInt8×Int
def isB (c:UInt8):Bool:=decide (((c.toNat:Nat):Int)=32)||decide (((c.toNat:Nat):Int)=9)
def blk (s:List UInt8) (a b:Nat):Prop:=((s.drop a).take (b - a)).all isB=true
def Std (s:List UInt8):Nat->List Wd->Nat->Prop
 | a,[],e=>e=a
 | a,w::ws,e=>∃ p:Nat,w.2=(p:Int)/\a<=p/\blk s a p/\w.1=(s.drop p).take w.1.length/\w.1 ≠ []/\p+w.1.length<=s.length/\Std s (p+w.1.length) ws e
theorem Std.le {s:List UInt8} : ∀{ws:List Wd} {a e:Nat},Std s a ws e->a<=e
 | [],a,e,h=>Nat.le_of_eq (Eq.symm h)
 | w::ws,a,e,⟨p,_,h1,_,_,_,_,h2⟩=>by have:=Std.le h2;omega
theorem Std.snoc {s:List UInt8} : ∀{ws:List Wd} {a e p:Nat} {t:List UInt8},Std s a ws e->e<=p->blk s e p->t=(s.drop p).take t.length->t ≠ []->p+t.length<=s.length->Std s a (ws ++ [(t,(p:Int))]) (p+t.length)
 | [],a,e,p,t,h,h1,h2,h3,h4,h5=>by
  have h':e=a:=h
  subst h'
  exact ⟨p,rfl,h1,h2,h3,h4,h5,rfl⟩
 | w::ws,a,e,p,t,⟨q,g1,g2,g3,g4,g5,g6,g7⟩,h1,h2,h3,h4,h5=>⟨q,g1,g2,g3,g4,g5,g6,Std.snoc g7 h1 h2 h3 h4 h5⟩
theorem take_one {s:List UInt8} {i:Nat} (h:i<s.length):(s.drop i).take (i+1 - i) = [s[i]]:=by
 rw [show i+1 - i=1 from by omega,List.drop_eq_getElem_cons h];rfl
theorem j7z {β:Type} (l:List β) (x y:β):(l ++ [x]).set l.length y=l ++ [y]:=by simp
end Go.Proofs.YtapfankgdkdkgaaGreatDoor.AM.Lx
namespace Go.Proofs.YtapfankgdkdkgaaGreatDoor.AM.Lx
open Go.RowKit
set_option linter.unusedVariables false
set_option linter.unusedSimpArgs false
def q1m (c:UInt8):Bool:=decide (((c.toNat:Nat):Int)=40)||(decide (((c.toNat:Nat):Int)=41)||(decide (((c.toNat:Nat):Int)=91)||(decide (((c.toNat:Nat):Int)=93)||decide (((c.toNat:Nat):Int)=44))))
def pfx:List UInt8->Bool
 | a::b::_=>decide (a=47)&&decide (b=47)
 | _=>false
def addL (ws:List Wd) (c:UInt8):List Wd:=match ws.getLast? with
 | some (t,p)=>ws.dropLast ++ [(t ++ [c],p)]
 | none=>ws
def qbs:List UInt8->Nat->Bool->List Wd->List Wd×Nat
 | [],i,_,ws=>(ws,i)
 | c::r,i,op,ws =>
  if q1m c then qbs r (i+1) false (ws ++ [([c],(i:Int))])
  else if isB c then qbs r (i+1) false ws
  else if op then qbs r (i+1) true (addL ws c)
  else if pfx (c::r) then (ws,i)
  else qbs r (i+1) true (ws ++ [([c],(i:Int))])
theorem pfx_t (n:Nat) (s:List UInt8) (hs:s.length<=1000000):q0q n s [47,47]=some (pfx s):=by
 unfold q0q q18
 match s with
 | []=>rfl
 | [a]=>simp [pfx]
 | a::b::r =>
  have h:((List.length ([47,47]:List UInt8):Nat):Int)<=((List.length (a::b::r):Nat):Int):=by simp;omega
  simp only [h,decide_true,cond_true]
  rw [sub_zero (by simp)]
  simp [pfx]
theorem qep (ws:List Wd) (t:List UInt8) (p:Int) (c:UInt8):addL (ws ++ [(t,p)]) c=ws ++ [(t ++ [c],p)]:=by
 unfold addL;simp
theorem jee (n:Nat) (rec:List UInt8->Bool->Int->Int->List Wd->Option (((Unit×(Int×Unit))×Unit×((List Wd)×Unit))⊕(((List UInt8)×(Unit×Unit))×Unit×((List Wd)×Unit)))) (s:List UInt8) (op:Bool) (L:Int) (i:Nat) (ws:List Wd)
  (hi:i<s.length) (hL:L=((s.length:Nat):Int)) (hs:s.length<=1000000) (hw:ws.length<=i) (ho:op=true->∃ ws0 t p,ws=ws0 ++ [(t,((p:Nat):Int))]/\p<=i/\t=(s.drop p).take (i - p)) :
  qk9 n rec s op L (i:Int) ws=if q1m s[i] then rec s false L ((i+1:Nat):Int) (ws ++ [([s[i]],(i:Int))])
   else if isB s[i] then rec s false L ((i+1:Nat):Int) ws
   else if op then rec s true L ((i+1:Nat):Int) (addL ws s[i])
   else if pfx (s.drop i) then some (Sum.inl (((),((i:Int),())),((),(ws,()))))
   else rec s true L ((i+1:Nat):Int) (ws ++ [([s[i]],(i:Int))]):=by
 subst hL
 have c0:((i:Nat):Int)<((s.length:Nat):Int):=by omega
 have w1:=q0g (show i<4611686018427387904 by omega)
 have a1:q35 24 ws [([s[i]],(i:Int))]=some (ws ++ [([s[i]],(i:Int))]):=q5b (by simp;omega)
 have a2:q35 24 ws [(([]:List UInt8),(i:Int))]=some (ws ++ [([],(i:Int))]):=q5b (by simp;omega)
 have s1:q1s s ((i:Nat):Int) ((i+1:Nat):Int)=some [s[i]]:=by rw [sub_le (by omega) (by omega),take_one hi]
 have s2:q1s s ((i:Nat):Int) ((s.length:Nat):Int)=some (s.drop i):=by
  rw [sub_le (by omega) (Nat.le_refl _),List.take_of_length_le (by rw [List.length_drop];omega)]
 have hp:=pfx_t n (s.drop i) (by rw [List.length_drop];omega)
 unfold qk9
 simp only [c0,decide_true,cond_true,q3l hi,Option.bind_some,q0b,w1,s1,s2,a1,a2,hp]
 have eqc : ∀k:Int,decide (((s[i].toNat:Nat):Int)=k)=true\/decide (((s[i].toNat:Nat):Int)=k)=false:=fun k=>by cases decide (((s[i].toNat:Nat):Int)=k)<;>simp
 rcases eqc 40 with h40|h40
 ·simp only [q1m,h40,cond_true,Bool.true_or,Bool.or_true,Bool.false_or,if_true]
 rcases eqc 41 with h41|h41
 ·simp only [q1m,h40,h41,cond_true,cond_false,Bool.true_or,Bool.or_true,Bool.false_or,if_true]
 rcases eqc 91 with h91|h91
 ·simp only [q1m,h40,h41,h91,cond_true,cond_false,Bool.true_or,Bool.or_true,Bool.false_or,if_true]
 rcases eqc 93 with h93|h93
 ·simp only [q1m,h40,h41,h91,h93,cond_true,cond_false,Bool.true_or,Bool.or_true,Bool.false_or,if_true]
 rcases eqc 44 with h44|h44
 ·simp only [q1m,h40,h41,h91,h93,h44,cond_true,cond_false,Bool.true_or,Bool.or_true,Bool.false_or,if_true]
 have hS:q1m s[i]=false:=by simp only [q1m,h40,h41,h91,h93,h44,Bool.or_false]
 rcases eqc 32 with h32|h32
 ·have hB:isB s[i]=true:=by simp only [isB,h32,Bool.true_or]
  simp only [hS,hB,h40,h41,h91,h93,h44,h32,cond_true,cond_false,if_true,Bool.false_eq_true,if_false]
 rcases eqc 9 with h9|h9
 ·have hB:isB s[i]=true:=by simp only [isB,h9,Bool.or_true]
  simp only [hS,hB,h40,h41,h91,h93,h44,h32,h9,cond_true,cond_false,if_true,Bool.false_eq_true,if_false]
 have hB:isB s[i]=false:=by simp only [isB,h32,h9,Bool.or_false]
 simp only [hS,hB,h40,h41,h91,h93,h44,h32,h9,cond_true,cond_false,Bool.false_eq_true,if_false]
 cases op with
 | false =>
  simp only [Bool.not_false,cond_true,Bool.false_eq_true,if_false]
  cases hb:pfx (s.drop i) with
  | true=>simp only [cond_true,if_true]
  | false =>
   have hl:(ws ++ [(([]:List UInt8),(i:Int))]).length=ws.length+1:=by simp
   have w2:IntKind.wrap .i64 ((((ws ++ [(([]:List UInt8),(i:Int))]).length:Nat):Int) - 1)=((ws.length:Nat):Int):=by
    rw [hl,show (((ws.length+1:Nat):Int) - 1)=((ws.length:Nat):Int) from by omega];exact qeo (by omega)
   have g:ws.length<(ws ++ [(([]:List UInt8),(i:Int))]).length:=by omega
   have ge:(ws ++ [(([]:List UInt8),(i:Int))])[ws.length]'g=([],(i:Int)):=by simp
   simp only [cond_false,Bool.false_eq_true,if_false,w2,q1l g,Option.bind_some,Int.toNat_natCast,jg3 g,ge,s1,j7z]
 | true =>
  obtain ⟨ws0,t,p,rfl,hpi,rfl⟩:=ho rfl
  simp only [Bool.not_true,cond_false,if_true]
  generalize ht:(s.drop p).take (i - p)=t
  have hl:(ws0 ++ [(t,(p:Int))]).length=ws0.length+1:=by simp
  have w2:IntKind.wrap .i64 ((((ws0 ++ [(t,(p:Int))]).length:Nat):Int) - 1)=((ws0.length:Nat):Int):=by
   rw [hl,show (((ws0.length+1:Nat):Int) - 1)=((ws0.length:Nat):Int) from by omega];exact qeo (by simp at hw;omega)
  have g:ws0.length<(ws0 ++ [(t,(p:Int))]).length:=by omega
  have ge:(ws0 ++ [(t,(p:Int))])[ws0.length]'g=(t,(p:Int)):=by simp
  have s3:q1s s ((p:Nat):Int) ((i+1:Nat):Int)=some (t ++ [s[i]]):=by
   rw [sub_le (by omega) (by omega),<-ht,show i+1 - p=(i - p)+1 from by omega,List.take_add_one,List.getElem?_drop,show p+(i - p)=i from by omega,List.getElem?_eq_getElem hi]
   rfl
  simp only [w2,q1l g,Option.bind_some,Int.toNat_natCast,jg3 g,ge,s3,j7z,qep]
theorem j02 (n:Nat) (s:List UInt8) (hs:s.length<=1000000) : ∀(m i:Nat) (op:Bool) (ws:List Wd),i<=s.length->s.length - i<m->ws.length<=i->(op=true->∃ ws0 t p,ws=ws0 ++ [(t,((p:Nat):Int))]/\p<=i/\t=(s.drop p).take (i - p)) ->
  (q50 n m s op ((s.length:Nat):Int) (i:Int) ws=some (Sum.inl (((),((((qbs (s.drop i) i op ws).2:Nat):Int),())),((),((qbs (s.drop i) i op ws).1,()))))\/((qbs (s.drop i) i op ws).2=s.length/\q50 n m s op ((s.length:Nat):Int) (i:Int) ws=some (Sum.inr ((s,((),())),((),((qbs (s.drop i) i op ws).1,()))))))
 | 0,i,op,ws,_,h,_,_=>absurd h (Nat.not_lt_zero _)
 | m+1,i,op,ws,hi,h,hw,ho=>by
  rw [qkl]
  by_cases c0:i<s.length
  ·have ih:=j02 n s hs m
   rw [jee n (fun a1 a2 a3 a4 a5=>q50 n m a1 a2 a3 a4 a5) s op _ i ws c0 rfl hs hw ho]
   have hd:s.drop i=s[i]::s.drop (i+1):=List.drop_eq_getElem_cons c0
   have h1 : [s[i]]=(s.drop i).take (i+1 - i):=(take_one c0).symm
   rw [hd,qbs,<-hd]
   by_cases cS:q1m s[i]=true
   ·simp only [cS,if_true]
    exact ih (i+1) false _ (by omega) (by omega) (by simp;omega) (fun h=>by cases h)
   ·by_cases cB:isB s[i]=true
    ·simp only [cS,cB,if_true,if_false]
     exact ih (i+1) false _ (by omega) (by omega) (by omega) (fun h=>by cases h)
    ·cases op with
     | true =>
      simp only [cS,cB,if_true,if_false]
      obtain ⟨ws0,t,p,rfl,hpi,ht⟩:=ho rfl
      refine ih (i+1) true _ (by omega) (by omega) (by rw [qep];simp at hw ⊢;omega) (fun _=>⟨ws0,t ++ [s[i]],p,qep _ _ _ _,by omega,?_⟩)
      rw [ht,show i+1 - p=(i - p)+1 from by omega,List.take_add_one,List.getElem?_drop,show p+(i - p)=i from by omega,List.getElem?_eq_getElem c0]
      rfl
     | false =>
      by_cases cP:pfx (s.drop i)=true
      ·simp only [cS,cB,cP,Bool.false_eq_true,if_true,if_false]
       exact Or.inl (by first|rfl|trivial)
      ·simp only [cS,cB,cP,Bool.false_eq_true,if_false]
       exact ih (i+1) true _ (by omega) (by omega) (by simp;omega) (fun _=>⟨ws,[s[i]],i,rfl,by omega,h1⟩)
  ·unfold qk9
   have c0' : ¬ ((i:Nat):Int)<((s.length:Nat):Int):=by omega
   have hie:i=s.length:=by omega
   have hd:s.drop i = []:=List.drop_eq_nil_of_le (by omega)
   simp only [c0',decide_false,cond_false,hd,qbs]
   exact Or.inr ⟨hie,by first|rfl|trivial⟩
theorem cut_P (n:Nat) (s:List UInt8) (hs:s.length<=1000000) (hn:s.length<n):j56 n s=some ((qbs s 0 false []).1,(((qbs s 0 false []).2:Nat):Int)):=by
 have h:=j02 n s hs n 0 false [] (Nat.zero_le _) (by omega) (Nat.zero_le _) (fun h=>by cases h)
 rw [List.drop_zero,show ((0:Nat):Int)=(0:Int) from rfl] at h
 unfold j56
 rcases h with h|⟨h0,h⟩
 ·rw [h];rfl
 ·rw [h,h0];rfl
theorem j1b : ∀(s:List UInt8) (i:Nat) (op:Bool) (ws:List Wd),i<=(qbs s i op ws).2/\(qbs s i op ws).2<=i+s.length
 | [],i,op,ws=>⟨Nat.le_refl _,Nat.le_refl _⟩
 | c::r,i,op,ws=>by
  have k:=fun op ws=>j1b r (i+1) op ws
  rw [qbs,List.length_cons]
  split
  ·have:=k false (ws ++ [([c],(i:Int))]);omega
  ·split
   ·have:=k false ws;omega
   ·split
    ·have:=k true (addL ws c);omega
    ·split
     ·simp
     ·have:=k true (ws ++ [([c],(i:Int))]);omega
theorem q9q (c:UInt8) (r:List UInt8) (i:Nat) (op:Bool) (ws:List Wd):qbs (c::r) i op ws =
  if q1m c then qbs r (i+1) false (ws ++ [([c],(i:Int))])
  else if isB c then qbs r (i+1) false ws
  else if op then qbs r (i+1) true (addL ws c)
  else if pfx (c::r) then (ws,i)
  else qbs r (i+1) true (ws ++ [([c],(i:Int))]):=rfl
theorem j5v (t:List UInt8) : ∀(s:List UInt8) (i:Nat) (op:Bool) (ws:List Wd),(qbs s i op ws).2=i+s.length->∃ o,qbs (s++32::t) i op ws=qbs (32::t) (i+s.length) o (qbs s i op ws).1
 | [],i,op,ws,_=>⟨op,rfl⟩
 | c::r,i,op,ws,h=>by
  have k:=fun op ws h=>j5v t r (i+1) op ws h
  have e:i+(c::r).length=i+1+r.length:=by simp;omega
  rw [e] at h ⊢
  have hp:pfx (c::(r++32::t))=pfx (c::r):=by
   cases r with
   | nil=>simp [pfx]
   | cons b r=>rfl
  rw [List.cons_append,q9q c r] at *
  rw [q9q c (r++32::t),hp]
  by_cases c1:q1m c=true
  ·rw [if_pos c1] at h ⊢;rw [if_pos c1];exact k _ _ h
  rw [if_neg c1] at h ⊢;rw [if_neg c1]
  by_cases c2:isB c=true
  ·rw [if_pos c2] at h ⊢;rw [if_pos c2];exact k _ _ h
  rw [if_neg c2] at h ⊢;rw [if_neg c2]
  by_cases c3:op=true
  ·rw [if_pos c3] at h ⊢;rw [if_pos c3];exact k _ _ h
  rw [if_neg c3] at h ⊢;rw [if_neg c3]
  by_cases c4:pfx (c::r)=true
  ·rw [if_pos c4] at h;simp at h;omega
  rw [if_neg c4] at h ⊢;rw [if_neg c4]
  exact k _ _ h
def okc (c:UInt8):Bool:=!((decide (((c.toNat:Nat):Int)<32) && !decide (((c.toNat:Nat):Int)=9))||decide ((126:Int)<((c.toNat:Nat):Int)))
theorem qhw (n:Nat) (s:List UInt8) (hL:s.length<=1000000) : ∀m j:Nat,j<=s.length->s.length - j<m->q5z n m s ((s.length:Nat):Int) (j:Int)=some (if (s.drop j).all okc then Sum.inr ((),(),()) else Sum.inl ((false,()),(),()))
 | 0,j,_,h=>absurd h (Nat.not_lt_zero _)
 | m+1,j,hj,h=>by
  rw [qfz]
  unfold qp6
  by_cases c0:j<s.length
  ·have c0':((j:Nat):Int)<((s.length:Nat):Int):=by omega
   have ih:=qhw n s hL m (j+1) (by omega) (by omega)
   have hd:s.drop j=s[j]::s.drop (j+1):=(List.drop_eq_getElem_cons c0)
   simp only [c0',decide_true,cond_true,q3l c0,Option.bind_some,q0b,q0g (show j<4611686018427387904 by omega),ih,hd,List.all_cons,okc]
   generalize decide (((s[j].toNat:Nat):Int)<32)=b1
   generalize decide (((s[j].toNat:Nat):Int)=9)=b2
   generalize decide ((126:Int)<((s[j].toNat:Nat):Int))=b3
   cases b1<;>cases b2<;>cases b3<;>simp<;>rfl
  ·have c0' : ¬ ((j:Nat):Int)<((s.length:Nat):Int):=by omega
   have:s.drop j = []:=List.drop_eq_nil_of_le (by omega)
   simp [c0',this]
theorem ji3 (n:Nat) (s:List UInt8) (hL:s.length<=1000000) (hn:s.length<n):qj3 n s=some (s.all okc):=by
 unfold qj3
 have:=qhw n s hL n 0 (Nat.zero_le _) (by omega)
 rw [show ((0:Nat):Int)=(0:Int) from rfl] at this
 rw [this,List.drop_zero]
 cases s.all okc<;>rfl
theorem one_P (n:Nat) (s:List UInt8) (hL:s.length<=1000000) (hn:s.length<n):qyb n s=some (if s.all okc then (((qbs s 0 false []).1,s.drop (qbs s 0 false []).2),0) else (([],[]),9)):=by
 unfold qyb
 rw [ji3 n s hL hn]
 cases h:s.all okc with
 | false=>rfl
 | true =>
  have h2:=(j1b s 0 false []).2
  simp only [Option.bind_some,Bool.not_true,cond_false,cut_P n s hL hn,if_true]
  rw [sub_le (by omega) (Nat.le_refl _),Option.bind_some,List.take_of_length_le (by rw [List.length_drop];omega)]
end Go.Proofs.YtapfankgdkdkgaaGreatDoor.AM.Lx
namespace Go.Proofs.YtapfankgdkdkgaaGreatDoor.AM.Lx
open Go.RowKit
set_option linter.unusedVariables false
set_option linter.unusedSimpArgs false
def qsb:List UInt8->Nat->Bool->List Wd->List Wd
 | [],i,_,ws=>ws
 | c::r,i,op,ws =>
  if q1m c then qsb r (i+1) false (ws ++ [([c],(i:Int))])
  else if isB c then qsb r (i+1) false ws
  else if op then qsb r (i+1) true (addL ws c)
  else qsb r (i+1) true (ws ++ [([c],(i:Int))])
theorem q2o (c:UInt8) (r:List UInt8) (i:Nat) (op:Bool) (ws:List Wd):qsb (c::r) i op ws =
  if q1m c then qsb r (i+1) false (ws ++ [([c],(i:Int))])
  else if isB c then qsb r (i+1) false ws
  else if op then qsb r (i+1) true (addL ws c)
  else qsb r (i+1) true (ws ++ [([c],(i:Int))]):=rfl
def qq8:List UInt8->Bool->Nat
 | [],_=>0
 | c::r,op=>if (!op&&pfx (c::r))=true then 0 else 1+qq8 r (!(q1m c||isB c))
theorem qdw (c:UInt8) (r:List UInt8) (op:Bool):qq8 (c::r) op=if (!op&&pfx (c::r))=true then 0 else 1+qq8 r (!(q1m c||isB c)):=rfl
theorem jbk : ∀(l:List UInt8) (op:Bool),qq8 l op<=l.length
 | [],_=>Nat.le_refl _
 | c::r,op=>by
  rw [qdw]
  split
  ·simp
  ·have:=jbk r (!(q1m c||isB c));rw [List.length_cons];omega
theorem jdu (c:UInt8) (r:List UInt8) (h:q1m c=true\/isB c=true):pfx (c::r)=false:=by
 cases r with
 | nil=>rfl
 | cons b r =>
  have:c≠47:=by
   rintro rfl
   rcases h with h|h<;>revert h<;>decide
  simp [pfx,this]
theorem qk2 : ∀(l:List UInt8) (i:Nat) (op:Bool) (ws:List Wd),qbs l i op ws=(qsb (l.take (qq8 l op)) i op ws,i+qq8 l op)
 | [],i,op,ws=>rfl
 | c::r,i,op,ws=>by
  have ih:=fun op ws=>qk2 r (i+1) op ws
  rw [q9q,qdw]
  by_cases c1:q1m c=true
  ·rw [if_pos c1,jdu c r (Or.inl c1),ih]
   simp only [Bool.and_false,Bool.false_eq_true,if_false,c1,Bool.true_or,Bool.not_true]
   rw [Nat.add_comm 1,List.take_succ_cons,q2o,if_pos c1,Nat.add_assoc i 1,Nat.add_comm 1]
  rw [if_neg c1]
  by_cases c2:isB c=true
  ·rw [if_pos c2,jdu c r (Or.inr c2),ih]
   simp only [Bool.and_false,Bool.false_eq_true,if_false,c2,Bool.or_true,Bool.not_true]
   rw [Nat.add_comm 1,List.take_succ_cons,q2o,if_neg c1,if_pos c2,Nat.add_assoc i 1,Nat.add_comm 1]
  rw [if_neg c2]
  have c1':q1m c=false:=by simpa using c1
  have c2':isB c=false:=by simpa using c2
  by_cases c3:op=true
  ·subst c3
   rw [if_pos rfl,ih]
   simp only [Bool.not_true,Bool.false_and,Bool.false_eq_true,if_false,c1',c2',Bool.or_self,Bool.not_false]
   rw [Nat.add_comm 1,List.take_succ_cons,q2o,if_neg c1,if_neg c2,if_pos rfl,Nat.add_assoc i 1,Nat.add_comm 1]
  have c3':op=false:=by simpa using c3
  subst c3'
  rw [if_neg c3]
  by_cases c4:pfx (c::r)=true
  ·rw [if_pos c4,if_pos (by rw [c4];rfl)];rfl
  rw [if_neg c4,if_neg (by simpa using c4),ih]
  simp only [c1',c2',Bool.or_self,Bool.not_false]
  rw [Nat.add_comm 1,List.take_succ_cons,q2o,if_neg c1,if_neg c2,if_neg c3,Nat.add_assoc i 1,Nat.add_comm 1]
def qt0:List UInt8->Nat
 | []=>0
 | c::r=>if (q1m c||isB c)=true then 0 else 1+qt0 r
theorem j2j : ∀l:List UInt8,qt0 l<=l.length
 | []=>Nat.le_refl _
 | c::r=>by
  rw [qt0]
  split
  ·simp
  ·have:=j2j r;simp;omega
theorem jfh (p:Nat) (out:List Wd) : ∀(l:List UInt8) (k:Nat) (w:List UInt8),qsb l k true (out ++ [(w,(p:Int))])=qsb (l.drop (qt0 l)) (k+qt0 l) false (out ++ [(w++l.take (qt0 l),(p:Int))])
 | [],k,w=>by simp [qt0,qsb]
 | c::r,k,w=>by
  rw [qt0]
  by_cases h:(q1m c||isB c)=true
  ·rw [if_pos h]
   simp only [List.drop_zero,Nat.add_zero,List.take_zero,List.append_nil]
   rw [q2o,q2o]
   by_cases c1:q1m c=true
   ·rw [if_pos c1,if_pos c1]
   ·rw [if_neg c1,if_neg c1]
    have c2:isB c=true:=by simpa [c1] using h
    rw [if_pos c2,if_pos c2]
  ·rw [if_neg h]
   have c1 : ¬ q1m c=true:=fun e=>h (by rw [e];rfl)
   have c2 : ¬ isB c=true:=fun e=>h (by rw [e];simp)
   rw [q2o,if_neg c1,if_neg c2,if_pos rfl,qep,jfh p out r (k+1),Nat.add_comm 1,List.drop_succ_cons,List.take_succ_cons,Nat.add_assoc k 1,Nat.add_comm 1,List.append_assoc]
   rfl
theorem qus (n:Nat) (c:UInt8):qat n ((c.toNat:Nat):Int)=some (isB c):=by
 unfold qat isB
 cases decide (((c.toNat:Nat):Int)=32)<;>rfl
theorem jbs (n:Nat) (c:UInt8):qg6 n ((c.toNat:Nat):Int)=some (q1m c):=by
 unfold qg6 q1m
 cases decide (((c.toNat:Nat):Int)=40)<;>cases decide (((c.toNat:Nat):Int)=41)<;>cases decide (((c.toNat:Nat):Int)=91)<;>cases decide (((c.toNat:Nat):Int)=93)<;>rfl
def prev (s:List UInt8) (i:Nat):Bool:=if h:0<i/\i<=s.length then !(q1m (s[i - 1]'(by omega))||isB (s[i - 1]'(by omega))) else false
theorem je0 {s:List UInt8} {i:Nat} (h:i<s.length):prev s (i+1) = !(q1m s[i]||isB s[i]):=by
 unfold prev
 rw [dif_pos ⟨by omega,by omega⟩]
 rfl
theorem qm4 (n:Nat) (s:List UInt8) (hs:s.length<=1000000) : ∀m i:Nat,i<=s.length->s.length - i<m ->
  (q1u n m s (i:Int)=some (Sum.inl ((((i+qq8 (s.drop i) (prev s i):Nat):Int),()),((),()))))\/(q1u n m s (i:Int)=some (Sum.inr ((s,()),((),())))/\i+qq8 (s.drop i) (prev s i)=s.length)
 | 0,i,_,h=>absurd h (Nat.not_lt_zero _)
 | m+1,i,hi,h=>by
  rw [qe6]
  unfold qfm
  have w1:=q0g (show i<4611686018427387904 by omega)
  by_cases c0:i+1<s.length
  ·have ih:=qm4 n s hs m (i+1) (by omega) (by omega)
   have hi':i<s.length:=by omega
   have c0':((i+1:Nat):Int)<((s.length:Nat):Int):=by omega
   have hd:s.drop i=s[i]::s.drop (i+1):=List.drop_eq_getElem_cons hi'
   have hd1:s.drop (i+1)=s[i+1]::s.drop (i+1+1):=List.drop_eq_getElem_cons c0
   rw [je0 hi'] at ih
   have key:pfx (s.drop i)=(decide (((s[i].toNat:Nat):Int)=47)&&decide (((s[i+1].toNat:Nat):Int)=47)):=by
    rw [hd,hd1]
    have e : ∀c:UInt8,decide (c=47)=decide (((c.toNat:Nat):Int)=47):=fun c=>by
     have h47:(47:UInt8).toNat=47:=rfl
     apply decide_eq_decide.2
     constructor
     ·rintro rfl;rfl
     ·intro hh;apply UInt8.toNat_inj.1;rw [h47];omega
    show (decide (s[i]=47)&&decide (s[i+1]=47))=_
    rw [e,e]
   have next : ∀b,qq8 (s.drop i) b=if (!b&&pfx (s.drop i))=true then 0 else 1+qq8 (s.drop (i+1)) (!(q1m s[i]||isB s[i])):=fun b=>by
    conv=>lhs;rw [hd]
    rw [qdw,<-hd]
   have goOn:(!(prev s i)&&pfx (s.drop i))=false->(q1u n m s ((i+1:Nat):Int)=some (Sum.inl ((((i+qq8 (s.drop i) (prev s i):Nat):Int),()),((),())))\/(q1u n m s ((i+1:Nat):Int)=some (Sum.inr ((s,()),((),())))/\i+qq8 (s.drop i) (prev s i)=s.length)):=fun hb=>by
    rw [next,hb]
    simp only [Bool.false_eq_true,if_false]
    rw [<-Nat.add_assoc]
    exact ih
   have stop:(!(prev s i)&&pfx (s.drop i))=true->i+qq8 (s.drop i) (prev s i)=i:=fun hb=>by
    rw [next,if_pos hb];rfl
   simp only [q0b,w1,c0',decide_true,cond_true,q3l hi',q3l c0,Option.bind_some]
   cases h1:decide (((s[i].toNat:Nat):Int)=47) with
   | false=>exact goOn (by rw [key,h1];simp)
   | true =>
    cases h2:decide (((s[i+1].toNat:Nat):Int)=47) with
    | false=>exact goOn (by rw [key,h1,h2];simp)
    | true =>
     simp only [cond_true]
     by_cases h3:i=0
     ·have h3':((i:Nat):Int)=0:=by omega
      refine Or.inl ?_
      rw [stop (by rw [key,h1,h2];subst h3;simp [prev])]
      simp only [h3',decide_true,cond_true]
     ·have h3' : ¬ ((i:Nat):Int)=0:=by omega
      have w2:IntKind.wrap .i64 (((i:Nat):Int) - 1)=((i - 1:Nat):Int):=by rw [show ((i:Nat):Int) - 1=((i - 1:Nat):Int) from by omega];exact qeo (by omega)
      have hp:prev s i = !(q1m s[i - 1]||isB s[i - 1]):=by unfold prev;rw [dif_pos ⟨by omega,hi⟩]
      simp only [h3',decide_false,cond_false,w2,q3l (show i - 1<s.length by omega),Option.bind_some,qus,jbs]
      cases h4:isB s[i - 1] with
      | true =>
       refine Or.inl ?_
       simp only [cond_true]
       rw [stop (by rw [key,h1,h2,hp,h4];simp)]
      | false =>
       cases h5:q1m s[i - 1] with
       | true =>
        refine Or.inl ?_
        simp only [cond_true,cond_false]
        rw [stop (by rw [key,h1,h2,hp,h4,h5];simp)]
       | false =>
        simp only [cond_false]
        exact goOn (by rw [hp,h4,h5];simp)
  ·have c0' : ¬ ((i+1:Nat):Int)<((s.length:Nat):Int):=by omega
   simp only [q0b,w1,c0',decide_false,cond_false]
   refine Or.inr ⟨by first|rfl|trivial,?_⟩
   rcases Nat.lt_or_ge i s.length with h1|h1
   ·have hd:s.drop i = [s[i]]:=by rw [List.drop_eq_getElem_cons h1,List.drop_eq_nil_of_le (by omega)]
    rw [hd,qdw]
    simp [pfx,qq8];omega
   ·rw [List.drop_eq_nil_of_le h1];simp [qq8];omega
theorem ji9 (n:Nat) (s:List UInt8) (hs:s.length<=1000000) (hn:s.length<n):qez n s=some ((qq8 s false:Nat):Int):=by
 have h:=qm4 n s hs n 0 (Nat.zero_le _) (by omega)
 rw [List.drop_zero,show prev s 0=false from rfl,Nat.zero_add] at h
 unfold qez
 rw [show ((0:Nat):Int)=(0:Int) from rfl] at h
 rcases h with h|⟨h,h2⟩
 ·rw [h];rfl
 ·rw [h,h2];rfl
theorem qnc (n:Nat) (s:List UInt8) (hs:s.length<=1000000) (e i:Nat) (nt:List UInt8) (out:List Wd) (he:e<=s.length) (hi:i<s.length) : ∀m k:Nat,k<=e->e - k<m ->
  ∃ o,qag n m s (e:Int) (i:Int) (k:Int) nt out=some o/\∀(α:Type) (f:List UInt8->Int->Int->Int->List UInt8->List Wd->α),
   Sum.elim (fun q=>f q.1.1 q.1.2.2.1 q.1.2.2.2.2.1 q.1.2.2.2.2.2.1 q.2.1.1.2 q.2.2.1) (Sum.elim (fun q=>f q.1.1 q.1.2.2.1 q.1.2.2.2.2.1 q.1.2.2.2.2.2.1 q.2.1.1.2 q.2.2.1) (Sum.elim (fun q=>f q.1.1 q.1.2.2.1 q.1.2.2.2.2.1 q.1.2.2.2.2.2.1 q.2.1.1.2 q.2.2.1) (fun q=>f q.1.1 q.1.2.2.1 q.1.2.2.2.2.1 q.1.2.2.2.2.2.1 q.2.1.1.2 q.2.2.1))) o
    = f s (e:Int) (i:Int) ((if q1m s[i] then k else k+qt0 ((s.take e).drop k):Nat):Int) nt out
 | 0,k,_,h=>absurd h (Nat.not_lt_zero _)
 | m+1,k,hk,h=>by
  rw [qmk]
  unfold j2s
  by_cases c0:k<e
  ·have c0':((k:Nat):Int)<((e:Nat):Int):=by omega
   have hk':k<s.length:=by omega
   have hd:(s.take e).drop k=s[k]::(s.take e).drop (k+1):=by
    rw [List.drop_eq_getElem_cons (by rw [List.length_take];omega),List.getElem_take]
   simp only [c0',decide_true,cond_true,q3l hi,q3l hk',Option.bind_some,jbs,qus]
   cases h1:q1m s[i] with
   | true =>
    refine ⟨_,rfl,fun α f=>?_⟩
    simp only [Bool.not_true,cond_false,Sum.elim_inr,Sum.elim_inl,if_true]
   | false =>
    simp only [Bool.not_false,cond_true,Bool.false_eq_true,if_false]
    cases h2:isB s[k] with
    | true =>
     refine ⟨_,rfl,fun α f=>?_⟩
     rw [hd,qt0,if_pos (by rw [h2];simp)]
     simp only [Sum.elim_inr,Sum.elim_inl,Nat.add_zero]
    | false =>
     simp only [Bool.not_false,cond_true]
     cases h3:q1m s[k] with
     | true =>
      refine ⟨_,rfl,fun α f=>?_⟩
      rw [hd,qt0,if_pos (by rw [h3];simp)]
      simp only [Sum.elim_inr,Sum.elim_inl,Nat.add_zero]
     | false =>
      simp only [Bool.not_false,cond_true,q0b,q0g (show k<4611686018427387904 by omega)]
      obtain ⟨o,h4,h5⟩:=qnc n s hs e i nt out he hi m (k+1) (by omega) (by omega)
      refine ⟨o,h4,fun α f=>?_⟩
      rw [h5]
      simp only [h1,Bool.false_eq_true,if_false]
      rw [hd,qt0,if_neg (by rw [h2,h3];simp),Nat.add_assoc]
  ·have c0' : ¬ ((k:Nat):Int)<((e:Nat):Int):=by omega
   refine ⟨_,by simp only [c0',decide_false,cond_false];rfl,fun α f=>?_⟩
   have hd:(s.take e).drop k = []:=List.drop_eq_nil_of_le (by rw [List.length_take];omega)
   rw [hd]
   simp only [Sum.elim_inr,qt0,Nat.add_zero,ite_self]
theorem j68 : ∀(l:List UInt8) (i:Nat) (op:Bool) (ws:List Wd),(qsb l i op ws).length<=ws.length+l.length
 | [],i,op,ws=>by simp [qsb]
 | c::r,i,op,ws=>by
  have ih:=fun op ws=>j68 r (i+1) op ws
  rw [q2o,List.length_cons]
  split
  ·have:=ih false (ws ++ [([c],(i:Int))]);simp at this;omega
  ·split
   ·have:=ih false ws;omega
   ·split
    ·have:=ih true (addL ws c)
     have h2:(addL ws c).length<=ws.length:=by
      unfold addL
      split
      ·rename_i t p h
       have:ws ≠ []:=by rintro rfl;simp at h
       have:=List.length_pos_iff.2 this
       simp;omega
      ·exact Nat.le_refl _
     omega
    ·have:=ih true (ws ++ [([c],(i:Int))]);simp at this;omega
theorem ql4 (n:Nat) (s:List UInt8) (hs:s.length<=1000000) (hn:s.length<n) (e:Nat) (nt:List UInt8) (he:e<=s.length) : ∀(m i:Nat) (out:List Wd),i<=e->e - i<m->out.length<=i ->
  ∃ o,q72 n m s (e:Int) (i:Int) nt out=some o/\o.1.1=s/\o.1.2.2.1=(e:Int)/\o.2.2.1=qsb ((s.take e).drop i) i false out
 | 0,i,_,_,h,_=>absurd h (Nat.not_lt_zero _)
 | m+1,i,out,hi,h,ho=>by
  rw [qoq]
  unfold j17
  by_cases c0:i<e
  ·have c0':((i:Nat):Int)<((e:Nat):Int):=by omega
   have hi':i<s.length:=by omega
   have ih:=ql4 n s hs hn e nt he m
   have hd:(s.take e).drop i=s[i]::(s.take e).drop (i+1):=by
    rw [List.drop_eq_getElem_cons (by rw [List.length_take];omega),List.getElem_take]
   have w1:=q0g (show i<4611686018427387904 by omega)
   simp only [c0',decide_true,cond_true,q3l hi',Option.bind_some,qus,q0b,w1]
   cases h1:isB s[i] with
   | true =>
    simp only [cond_true]
    obtain ⟨o,k1,k2,k3,k4⟩:=ih (i+1) out (by omega) (by omega) (by omega)
    refine ⟨o,k1,k2,k3,?_⟩
    have hS : ¬ q1m s[i]=true:=fun hh=>by
     have h47 : ∀c:UInt8,q1m c=true->isB c=true->False:=by
      intro c;unfold q1m isB
      intro a b
      simp at a b;omega
     exact h47 _ hh h1
    rw [k4,hd,q2o,if_neg hS,if_pos h1]
   | false =>
    simp only [cond_false]
    obtain ⟨o,k1,k2⟩:=qnc n s hs e i nt out he hi' n (i+1) (by omega) (by omega)
    generalize hk:(if q1m s[i] then i+1 else i+1+qt0 ((s.take e).drop (i+1)):Nat)=k at k2
    have hkb:i<k/\k<=e:=by
     have:=j2j ((s.take e).drop (i+1))
     rw [List.length_drop,List.length_take] at this
     rw [<-hk];split<;>omega
    have hsub:q1s s ((i:Nat):Int) ((k:Nat):Int)=some ((s.drop i).take (k - i)):=sub_le (by omega) (by omega)
    have ha:q35 24 out [((s.drop i).take (k - i),(i:Int))]=some (out ++ [((s.drop i).take (k - i),(i:Int))]):=q5b (by simp;omega)
    obtain ⟨o',g1,g2,g3,g4⟩:=ih k (out ++ [((s.drop i).take (k - i),(i:Int))]) (by omega) (by omega) (by simp;omega)
    refine ⟨o',?_,g2,g3,?_⟩
    ·rw [k1,Option.bind_some]
     refine (k2 _ (fun b1 b2 b3 b4 b5 b6=>(q1s b1 b3 b4).bind fun s25=>(q35 24 b6 [(s25,b3)]).bind fun l26=>q72 n m b1 b2 b4 b5 l26)).trans ?_
     rw [hsub,Option.bind_some,ha,Option.bind_some]
     exact g1
    ·rw [g4,hd,q2o]
     by_cases h2:q1m s[i]=true
     ·rw [if_pos h2] at hk ⊢
      subst hk
      rw [show i+1 - i=1 from by omega,List.drop_eq_getElem_cons hi']
      rfl
     ·rw [if_neg h2] at hk
      rw [if_neg h2,if_neg (by rw [h1];simp),if_neg (by simp),jfh]
      have e1:((s.take e).drop (i+1)).drop (qt0 ((s.take e).drop (i+1)))=(s.take e).drop k:=by rw [List.drop_drop,hk]
      have e2 : [s[i]]++((s.take e).drop (i+1)).take (qt0 ((s.take e).drop (i+1)))=(s.drop i).take (k - i):=by
       rw [show k - i=qt0 ((s.take e).drop (i+1))+1 from by omega,List.drop_eq_getElem_cons hi',List.take_succ_cons,List.drop_take,List.take_take]
       have hm:min (qt0 ((s.take e).drop (i+1))) (e - (i+1))=qt0 ((s.take e).drop (i+1)):=by
        have:=j2j ((s.take e).drop (i+1))
        rw [List.length_drop,List.length_take] at this
        omega
       rw [<-List.drop_take,hm]
       rfl
      rw [e1,e2,hk]
  ·have c0' : ¬ ((i:Nat):Int)<((e:Nat):Int):=by omega
   refine ⟨_,by simp only [c0',decide_false,cond_false];rfl,rfl,rfl,?_⟩
   rw [List.drop_eq_nil_of_le (by rw [List.length_take];omega)]
   rfl
theorem ql6 (n:Nat) (s:List UInt8) (hL:s.length<=1000000) (nt:List UInt8) : ∀m j:Nat,j<=s.length->s.length - j<m->qaw n m s (j:Int) nt=some (if (s.drop j).all okc then Sum.inr ((s,((),())),((((),nt),()),())) else Sum.inl (((),((9:Int),())),((((),([]:List UInt8)),()),())))
 | 0,j,_,h=>absurd h (Nat.not_lt_zero _)
 | m+1,j,hj,h=>by
  rw [qlf]
  unfold j27
  by_cases c0:j<s.length
  ·have c0':((j:Nat):Int)<((s.length:Nat):Int):=by omega
   have ih:=ql6 n s hL nt m (j+1) (by omega) (by omega)
   have hd:s.drop j=s[j]::s.drop (j+1):=(List.drop_eq_getElem_cons c0)
   simp only [c0',decide_true,cond_true,q3l c0,Option.bind_some,q0b,q0g (show j<4611686018427387904 by omega),ih,hd,List.all_cons,okc]
   generalize decide (((s[j].toNat:Nat):Int)<32)=b1
   generalize decide (((s[j].toNat:Nat):Int)=9)=b2
   generalize decide ((126:Int)<((s[j].toNat:Nat):Int))=b3
   cases b1<;>cases b2<;>cases b3<;>simp
  ·have c0' : ¬ ((j:Nat):Int)<((s.length:Nat):Int):=by omega
   have:s.drop j = []:=List.drop_eq_nil_of_le (by omega)
   simp [c0',this]
abbrev Ln:=List Wd×List UInt8
def qqu (s:List UInt8):Ln:=((qbs s 0 false []).1,s.drop (qbs s 0 false []).2)
def jt1 (s:List UInt8):Ln×Int:=if s.all okc then (qqu s,0) else (([],[]),9)
theorem jsg (n:Nat) (s:List UInt8) (hL:s.length<=1000000) (hn:s.length<n):qyb n s=some (jt1 s):=by
 rw [one_P n s hL hn];rfl
theorem jqu (n:Nat) (s:List UInt8) (hL:s.length<=1000000) (hn:s.length<n):qik n s=some (jt1 s):=by
 unfold qik jt1
 have h0:=ql6 n s hL [] n 0 (Nat.zero_le _) (by omega)
 rw [show ((0:Nat):Int)=(0:Int) from rfl,List.drop_zero] at h0
 rw [h0]
 cases h:s.all okc with
 | false=>rfl
 | true =>
  have hle:=jbk s false
  obtain ⟨o,k1,k2,k3,k4⟩:=ql4 n s hL hn (qq8 s false) [] hle n 0 [] (Nat.zero_le _) (by omega) (Nat.le_refl _)
  rw [show ((0:Nat):Int)=(0:Int) from rfl] at k1
  simp only [if_true,Option.bind_some,Sum.elim_inr,ji9 n s hL hn,k1,k2,k3]
  rw [sub_le hle (Nat.le_refl _),Option.bind_some,k4,List.take_of_length_le (l:=s.drop (qq8 s false)) (by rw [List.length_drop];omega)]
  unfold qqu
  rw [qk2 s 0 false [],List.drop_zero,Nat.zero_add]
theorem jj5 (s:List UInt8):(qqu s).1.length<=s.length/\(qqu s).2.length<=s.length:=by
 unfold qqu
 rw [qk2]
 have:=j68 (s.take (qq8 s false)) 0 false []
 rw [List.length_take,List.length_nil] at this
 refine ⟨?_,?_⟩
 ·show (qsb (s.take (qq8 s false)) 0 false []).length<=_;omega
 ·rw [List.length_drop];omega
def qit (s:List UInt8):Bool:=s.getLast? == some 10
def q0a (s:List UInt8):List (List UInt8):=if s = [] then [] else spl 10 [] (if qit s=true then s.dropLast else s)
theorem qwt (n:Nat) (s:List UInt8) (hs:s.length<=1000000):q66 n s [10]=some (if qit s=true then s.dropLast else s):=by
 unfold q66 q7c q95 qit
 rcases List.eq_nil_or_concat s with rfl|⟨m,c,rfl⟩
 ·rfl
 ·rw [List.concat_eq_append]
  have hl:(m ++ [c]).length=m.length+1:=by simp
  rw [List.concat_eq_append] at hs
  have h1:((([10]:List UInt8).length:Nat):Int)<=(((m ++ [c]).length:Nat):Int):=by rw [hl];simp;omega
  have w1:IntKind.wrap .i64 ((((m ++ [c]).length:Nat):Int) - ((([10]:List UInt8).length:Nat):Int))=((m.length:Nat):Int):=by
   rw [hl,show (((m.length+1:Nat):Int) - ((([10]:List UInt8).length:Nat):Int))=((m.length:Nat):Int) from by simp];exact qeo (by omega)
  have s1:q1s (m ++ [c]) ((m.length:Nat):Int) (((m ++ [c]).length:Nat):Int)=some [c]:=by rw [sub_le (by rw [hl];omega) (Nat.le_refl _),hl];simp
  have s2:q1s (m ++ [c]) (0:Int) ((m.length:Nat):Int)=some m:=by rw [sub_zero (by rw [hl];omega)];simp
  simp only [h1,decide_true,cond_true,q0b,w1,s1,s2,Option.bind_some]
  by_cases hc:c=10
  ·subst hc;simp
  ·simp [hc]
theorem j66 (n:Nat) (s:List UInt8) (hs:s.length<=1000000):qaf n s=some (q0a s):=by
 unfold qaf q0a
 by_cases h:s = []
 ·simp [h]
 ·have h2:(if qit s=true then s.dropLast else s).length<=s.length:=by split<;>simp
  rw [qwt n s hs]
  simp only [h,decide_false,cond_false,Option.bind_some,q7o,if_false]
  rw [if_pos (by omega),Option.bind_some]
theorem q2c (n:Nat) (s:List UInt8) (c:UInt8) (hs:s.length<=1000000) : ∀(m i fr:Nat) (out:List (List UInt8)),i<=s.length->s.length - i+1<m->fr<=i->out.length<=i ->
  q10 n m s ((c.toNat:Nat):Int) (fr:Int) (i:Int) out=some (((),()),((),(out++spl c ((s.drop fr).take (i - fr)) (s.drop i),())))
 | 0,i,fr,_,_,h,_,_=>absurd h (Nat.not_lt_zero _)
 | m+1,i,fr,out,hi,h,hf,ho=>by
  rw [q1i]
  unfold q2g
  have c0:((i:Nat):Int)<=((s.length:Nat):Int):=by omega
  have w1:=q0g (show i<4611686018427387904 by omega)
  have s1:q1s s ((fr:Nat):Int) ((i:Nat):Int)=some ((s.drop fr).take (i - fr)):=sub_le hf hi
  have a1:q35 16 out [(s.drop fr).take (i - fr)]=some (out ++ [(s.drop fr).take (i - fr)]):=q5b (by simp;omega)
  by_cases c1:i=s.length
  ·have c1':((i:Nat):Int)=((s.length:Nat):Int):=by omega
   have hd:s.drop i = []:=List.drop_eq_nil_of_le (by omega)
   simp only [c0,c1',decide_true,cond_true]
   rw [<-c1',s1,Option.bind_some,a1,Option.bind_some,hd]
   simp only [q0b,w1]
   cases m with
   | zero=>omega
   | succ m =>
    rw [q1i]
    unfold q2g
    have c2 : ¬ ((i+1:Nat):Int)<=((s.length:Nat):Int):=by omega
    simp only [c2,Int.le_refl,decide_true,decide_false,cond_true,cond_false]
    rfl
  ·have c1' : ¬ ((i:Nat):Int)=((s.length:Nat):Int):=by omega
   have hi':i<s.length:=by omega
   have hd:s.drop i=s[i]::s.drop (i+1):=List.drop_eq_getElem_cons hi'
   simp only [c0,c1',decide_true,decide_false,cond_true,cond_false,q3l hi',Option.bind_some,q0b,w1,s1,a1]
   have hc:decide (((s[i].toNat:Nat):Int)=((c.toNat:Nat):Int))=decide (s[i]=c):=by
    apply decide_eq_decide.2
    constructor
    ·intro hh;exact UInt8.toNat_inj.1 (by omega)
    ·intro hh;rw [hh]
   rw [hc,hd,spl]
   by_cases c2:s[i]=c
   ·simp only [c2,decide_true,cond_true,if_true]
    rw [q2c n s c hs m (i+1) (i+1) (out ++ [(s.drop fr).take (i - fr)]) (by omega) (by omega) (Nat.le_refl _) (by simp;omega)]
    simp
   ·simp only [c2,decide_false,cond_false,if_false]
    rw [q2c n s c hs m (i+1) fr out (by omega) (by omega) (by omega) (by omega)]
    have e1:(s.drop fr).take (i+1 - fr)=(s.drop fr).take (i - fr) ++ [s[i]]:=by
     rw [show i+1 - fr=(i - fr)+1 from by omega,List.take_add_one,List.getElem?_drop,show fr+(i - fr)=i from by omega,List.getElem?_eq_getElem hi']
     rfl
    rw [e1]
theorem qxb (n:Nat) (s:List UInt8) (c:UInt8) (hs:s.length<=1000000) (hn:s.length+1<n):q4a n s ((c.toNat:Nat):Int)=some (spl c [] s):=by
 unfold q4a
 have h:=q2c n s c hs n 0 0 [] (Nat.zero_le _) (by omega) (Nat.le_refl _) (Nat.zero_le _)
 rw [show ((0:Nat):Int)=(0:Int) from rfl] at h
 rw [h]
 simp
theorem jkv (n:Nat) (s:List UInt8) (hs:s.length<=100000) (hn:s.length+1<n):qj8 n s=some (q0a s):=by
 unfold qj8
 have h5:=qxb n s 10 (by omega) hn
 rw [show (((10:UInt8).toNat:Nat):Int)=(10:Int) from rfl] at h5
 rw [h5,Option.bind_some]
 obtain ⟨t,x,h1,h2⟩:=qvj 10 s []
 have hl:=(qc9 10 s []).2
 rw [h1] at hl ⊢
 have hl2:(t ++ [x]).length=t.length+1:=by simp
 have w1:IntKind.wrap .i64 ((((t ++ [x]).length:Nat):Int) - 1)=((t.length:Nat):Int):=by
  rw [hl2,show (((t.length+1:Nat):Int) - 1)=((t.length:Nat):Int) from by omega];exact qeo (by omega)
 have g:t.length<(t ++ [x]).length:=by omega
 have ge:(t ++ [x])[t.length]'g=x:=by simp
 have s1:q1s (t ++ [x]) (0:Int) ((t.length:Nat):Int)=some t:=by rw [sub_zero (by omega)];simp
 simp only [q0b,w1,q1l g,ge,Option.bind_some,s1]
 unfold q0a
 by_cases hx:x = []
 ·simp only [hx,decide_true,cond_true]
  rcases h2.1 hx with ⟨_,rfl⟩|⟨m,rfl⟩
  ·simp [spl] at h1
   have:t = []:=by
    cases t with
    | nil=>rfl
    | cons a t=>simp at h1
   rw [this];rfl
  ·rw [if_neg (by simp)]
   have he:qit (m ++ [10])=true:=by simp [qit]
   rw [if_pos he,List.dropLast_concat]
   rw [qzp,hx] at h1
   exact congrArg some (List.append_cancel_right h1).symm
 ·simp only [hx,decide_false,cond_false]
  have hs0:s ≠ []:=fun e=>hx (h2.2 (Or.inl ⟨rfl,e⟩))
  have he:qit s=false:=by
   cases hh:qit s with
   | false=>rfl
   | true =>
    rcases List.eq_nil_or_concat s with rfl|⟨m,c,rfl⟩
    ·exact absurd rfl hs0
    ·rw [List.concat_eq_append] at hh
     simp [qit] at hh
     exact absurd (h2.2 (Or.inr ⟨m,by rw [hh,List.concat_eq_append]⟩)) hx
  rw [if_neg hs0,he]
  simp only [Bool.false_eq_true,if_false]
  rw [h1]
theorem q8a (s:List UInt8):(q0a s).length<=s.length+1/\∀x∈q0a s,x.length<=s.length:=by
 unfold q0a
 split
 ·exact ⟨by simp,fun x h=>by cases h⟩
 ·have h2:(if qit s=true then s.dropLast else s).length<=s.length:=by split<;>simp
  refine ⟨by have:=(qc9 10 (if qit s=true then s.dropLast else s) []).2;omega,fun x hx=>?_⟩
  have:=qkr 10 _ _ x hx
  simp at this
  omega
end Go.Proofs.YtapfankgdkdkgaaGreatDoor.AM.Lx
namespace Go.Proofs.YtapfankgdkdkgaaGreatDoor.AM.Lx
open Go.RowKit
set_option linter.unusedVariables false
set_option linter.unusedSimpArgs false
def q42:List (List UInt8)->Nat->List Ln->List Ln×Int×Int
 | [],i,out=>(out,(i:Int),0)
 | x::xs,i,out=>if x.all okc=true then q42 xs (i+1) (out ++ [qqu x]) else ([],(i:Int),9)
theorem qnw (n:Nat) (ls:List (List UInt8)) (hl:ls.length<=1000000) (hx : ∀x∈ls,x.length<=1000000/\x.length<n) : ∀(m j:Nat) (out:List Ln),j<=ls.length->ls.length - j<m->out.length=j ->
  (q5m n m ls ((ls.length:Nat):Int) (j:Int) out).bind (fun o6=>Sum.elim (fun q7=>some (([]:List Ln),(q7.1.2.1,q7.1.2.2.1))) (fun q8=>some (q8.2.2.1,(((List.length q8.2.2.1:Nat):Int),(0:Int)))) o6)=some (q42 (ls.drop j) j out)
 | 0,j,_,_,h,_=>absurd h (Nat.not_lt_zero _)
 | m+1,j,out,hj,h,ho=>by
  rw [qgy]
  unfold qls
  by_cases c0:j<ls.length
  ·have c0':((j:Nat):Int)<((ls.length:Nat):Int):=by omega
   obtain ⟨x1,x2⟩:=hx ls[j] (List.getElem_mem c0)
   rw [List.drop_eq_getElem_cons c0,q42]
   simp only [c0',decide_true,cond_true,q1l c0,Option.bind_some,jsg n ls[j] x1 x2,jt1]
   by_cases hk:ls[j].all okc=true
   ·have a1:q35 40 out [qqu ls[j]]=some (out ++ [qqu ls[j]]):=q5b (by simp;omega)
    simp only [hk,if_true,decide_true,Bool.not_true,cond_false,a1,Option.bind_some,q0b,q0g (show j<4611686018427387904 by omega)]
    exact qnw n ls hl hx m (j+1) _ (by omega) (by omega) (by simp;omega)
   ·rw [if_neg hk,if_neg hk]
    rfl
  ·have c0' : ¬ ((j:Nat):Int)<((ls.length:Nat):Int):=by omega
   simp only [c0',decide_false,cond_false,Option.bind_some,Sum.elim_inr]
   rw [List.drop_eq_nil_of_le (by omega),q42,ho]
theorem jhz (n:Nat) (s:List UInt8) (hs:s.length<=100000) (hn:s.length+1<n):qes n s=some (q42 (q0a s) 0 []):=by
 unfold qes
 obtain ⟨h1,h2⟩:=q8a s
 rw [j66 n s (by omega),Option.bind_some]
 exact qnw n (q0a s) (by omega) (fun x hx=>by have:=h2 x hx;omega) n 0 [] (Nat.zero_le _) (by omega) rfl
theorem j60 : ∀(l:List (List UInt8)),(∀x∈l,(10:UInt8) ∉ x)->∀x,(10:UInt8) ∉ x->spl 10 [] (((x::l).map (· ++ [10])).flatten)=(x::l) ++ [[]]
 | [],_,x,hx=>by
  simp only [List.map_cons,List.map_nil,List.flatten_cons,List.flatten_nil,List.append_nil]
  rw [qzp]
  have:=qf9 10 x [] [] hx
  rw [List.append_nil] at this
  rw [this];simp [spl]
 | y::l,h,x,hx=>by
  rw [List.map_cons,List.flatten_cons,List.append_assoc,qf9 10 x [] _ hx]
  rw [List.singleton_append,List.nil_append,spl,if_pos rfl,j60 l (fun z hz=>h z (List.mem_cons_of_mem _ hz)) y (h y List.mem_cons_self)]
  simp
theorem qx5 (l:List (List UInt8)) (h : ∀x∈l,(10:UInt8) ∉ x):q0a ((l.map (· ++ [10])).flatten)=l:=by
 unfold q0a
 cases l with
 | nil=>rfl
 | cons x l =>
  have h1:=j60 l (fun z hz=>h z (List.mem_cons_of_mem _ hz)) x (h x List.mem_cons_self)
  obtain ⟨m,hm⟩ : ∃ m,((x::l).map (· ++ [10])).flatten=m ++ [10]:=by
   rcases List.eq_nil_or_concat (x::l) with h0|⟨a,b,h0⟩
   ·cases h0
   ·rw [h0,List.concat_eq_append]
    exact ⟨(a.map (· ++ [10])).flatten++b,by simp⟩
  rw [hm] at h1 ⊢
  rw [if_neg (by simp),if_pos (by simp [qit]),List.dropLast_concat]
  rw [qzp] at h1
  exact List.append_cancel_right h1
end Go.Proofs.YtapfankgdkdkgaaGreatDoor.AM.Lx
namespace Go.Proofs.YtapfankgdkdkgaaGreatDoor.AM
open Go.RowKit
set_option linter.unusedVariables false
set_option linter.unusedSimpArgs false
def qo0 (c:UInt8):Bool:=jb0 c||decide (c.toNat=95)||decide (c.toNat=46)
def qfu (s:List UInt8):Bool:=!decide (s = [])&&(!decide (s = [46])&&(!decide (s = [46,46])&&s.all qo0))
def q8g (s:List UInt8):Bool:=decide (s.length<=60)&&(spl 47 [] s).all qfu
def q3w (w:List UInt8):Bool:=decide (w.head? = some 118)&&qdx (w.drop 1)
def anyS (s:List UInt8):Bool:=(spl 47 [] s).any q3w
def qm2 (c:UInt8):List UInt8->Int
 | []=>-1
 | b::r=>if b=c then (r.length:Int) else qm2 c r
def qbk (c:UInt8) (s:List UInt8):Int:=qm2 c s.reverse
theorem j53 (c:UInt8) : ∀l,-1<=qm2 c l/\qm2 c l<(l.length:Int)
 | []=>by simp [qm2]
 | b::r=>by
  have:=j53 c r
  rw [qm2];split
  ·simp;omega
  ·simp;omega
theorem j73 (c:UInt8) (s:List UInt8) : -1<=qbk c s/\qbk c s<(s.length:Int):=by
 have:=j53 c s.reverse;unfold qbk;simpa using this
def q8r (s:List UInt8):List UInt8:=s.take (qbk 47 s).toNat
def q99 (s:List UInt8):List UInt8:=s.drop (qbk 47 s+1).toNat
abbrev jai:List UInt8:=[48,49,50,51,52,53,54,55,56,57]
theorem jjm (c:UInt8):jai.contains c=q47 c:=by
 have h : ∀k:Fin 256,jai.contains (UInt8.ofNat k.val)=q47 (UInt8.ofNat k.val):=by decide +kernel
 have h1:=h ⟨c.toNat,c.toNat_lt⟩
 simpa using h1
theorem dropWhile_nil (p:UInt8->Bool) : ∀l:List UInt8,l.dropWhile p = []↔l.all p=true
 | []=>by simp
 | b::l=>by
  rw [List.dropWhile_cons]
  cases h:p b with
  | true=>simp [h,dropWhile_nil p l]
  | false=>simp [h]
theorem qfh {p:UInt8->Bool} {c:UInt8} : ∀{l:List UInt8},c∈l->p c=false->c∈l.dropWhile p
 | b::l,h,hp=>by
  rw [List.dropWhile_cons]
  rcases List.mem_cons.1 h with rfl|h
  ·simp [hp]
  ·cases hb:p b with
   | true=>simpa using qfh h hp
   | false=>simp [h]
theorem jla (s:List UInt8):decide (Lib.trimS s jai = [])=s.all q47:=by
 have he:(fun c=>jai.contains c)=q47:=funext jjm
 unfold Lib.trimS Lib.trimRightS Lib.trimLeftS
 rw [he]
 cases h:s.all q47 with
 | true =>
  have h2:s.reverse.all q47=true:=by rw [List.all_reverse];exact h
  rw [(dropWhile_nil q47 s.reverse).2 h2];simp
 | false =>
  rw [decide_eq_false_iff_not,dropWhile_nil]
  intro hc
  have h3 : ∃ c,c∈s/\q47 c=false:=by
   have:=List.all_eq_false.1 h
   obtain ⟨c,hc,hn⟩:=this
   exact ⟨c,hc,by simpa using hn⟩
  obtain ⟨c,hm,hn⟩:=h3
  have h4:c∈(s.reverse.dropWhile q47).reverse:=by simpa using qfh (l:=s.reverse) (by simpa using hm) hn
  have:=List.all_eq_true.1 hc c h4
  rw [hn] at this;cases this
def numOf (s:List UInt8):Int:=match Lib.atoiAll s with
 | .ok v=>v
 | .range=>Lib.atoiSat s
 | _=>0
def j7f (s:List UInt8):Bool:=match Lib.atoiAll s with
 | .ok v=>decide (2<=v)&&(decide (v<=999999999)&&decide (s=Lib.itoa v))
 | _=>false
def okS (p:List UInt8):Bool:=q8g p&&(!anyS (q8r p)&&(!q3w (q99 p)||(j7f ((q99 p).drop 1) && !decide (q8r p = []))))
def qly (p:List UInt8):List UInt8×(Int×Bool):=if okS p then (if q3w (q99 p) then (q8r p,(numOf ((q99 p).drop 1),true)) else (p,(0,true))) else ([],(0,false))
theorem j8y {s:List UInt8} (h:q8g s=true):s.length<=60/\(spl 47 [] s).all qfu=true:=by
 unfold q8g at h;simpa using h
theorem jot {s:List UInt8} (h:q8g s=true):s ≠ []:=by
 rintro rfl;exact absurd h (by decide)
theorem joy {p:List UInt8} (h:okS p=true):q8g p=true/\anyS (q8r p)=false/\(q3w (q99 p)=true->j7f ((q99 p).drop 1)=true/\q8r p ≠ []):=by
 unfold okS at h
 simp only [Bool.and_eq_true,Bool.or_eq_true,Bool.not_eq_true',decide_eq_false_iff_not] at h
 refine ⟨h.1,h.2.1,fun ht=>?_⟩
 rcases h.2.2 with h3|h3
 ·rw [ht] at h3;cases h3
 ·exact h3
end Go.Proofs.YtapfankgdkdkgaaGreatDoor.AM
namespace Go.Proofs
open Go.RowKit Go.Shelf Go.Lib
shelf_lay Lays.n160 Nm 160 at Tryz as Tryz.laysTrim
set_option linter.unusedVariables false
set_option linter.unusedSimpArgs false
namespace YtapfankgdkdkgaaGreatDoor.AM
def qlt (s cs:List UInt8):Option (List UInt8):=if cs=jai/\s.length<=1000000 then some (Lib.trimS s jai) else none
def j54:FC:={ f:=166,args:=[qrs,qrs],res:=qrs,F:=fun p=>qlt p.1 p.2 }
theorem jl5:q0d Inv Tryz.prog j54:=fun G hG=>⟨⟨by kernel_rfl,fun a r h=>by
 obtain ⟨s,cs⟩:=a
 have h':qlt s cs=some r:=h
 unfold qlt at h'
 split at h'
 case isFalse=>cases h'
 rename_i hc
 obtain ⟨rfl,hl⟩:=hc
 have hr:Lib.trimS s jai=r:=Option.some.inj h'
 intro Pc w vs hg hlt hv
 obtain ⟨l⟩:=vs
 match l,hv with
 | [x,y],⟨h1,h2,_⟩ =>
  obtain rfl:x = .string (ba s):=q07 h1
  obtain rfl:y = .string (ba jai):=q07 h2
  have e1:(ba s).data.toList=s:=by simp [ba]
  have e2:(ba jai).data.toList=jai:=by simp [ba]
  have hh:=Any.strings_Trim_laid Tryz.laysTrim (by kernel_rfl) (ba s) (ba jai) w (by rw [q2u];omega) (by rw [q2u];decide) (by rw [e2];exact ascii_of_all (by decide))
  rw [e1,e2,hr] at hh
  refine hh.mono ?_
  rintro e w' ⟨rfl,hb⟩
  exact q3n rfl hb (q05 (.string (ba r)))⟩,rfl⟩
end YtapfankgdkdkgaaGreatDoor.AM
end Go.Proofs
