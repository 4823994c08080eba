
import Derived.Test.YtapfankgdkdkgaaGreatDoorMk11
import Derived.Test.YtapfankgdkdkgaaGreatDoorMk9
import Derived.Test.YtapfankgdkdkgaaGreatDoorMk8
import Derived.Lib.SlTrimSet
import Derived.Test.YtapfankgdkdkgaaGreatDoorMk10
import Derived.Shelf.Strings.SlTrimAscii
namespace Go.Proofs.YtapfankgdkdkgaaGreatDoor.AM.Lx
open Go.RowKit
set_option linter.unusedVariables false
set_option linter.unusedSimpArgs false
abbrev Wd:=List UInt8×Int
def isB (c:UInt8):Bool:=decide (((c.toNat:Nat):Int)=32)||decide (((c.toNat:Nat):Int)=9)
def blk (s:List UInt8) (a b:Nat):Prop:=((s.drop a).take (b - a)).all isB=true
def Std (s:List UInt8):Nat->List Wd->Nat->Prop
 | a,[],e=>e=a
 | a,w::ws,e=>∃ p:Nat,w.2=(p:Int)/\a<=p/\blk s a p/\w.1=(s.drop p).take w.1.length/\w.1 ≠ []/\p+w.1.length<=s.length/\Std s (p+w.1.length) ws e
theorem Std.le {s:List UInt8} : ∀{ws:List Wd} {a e:Nat},Std s a ws e->a<=e
 | [],a,e,h=>Nat.le_of_eq (Eq.symm h)
 | w::ws,a,e,⟨p,_,h1,_,_,_,_,h2⟩=>by have:=Std.le h2;omega
theorem Std.snoc {s:List UInt8} : ∀{ws:List Wd} {a e p:Nat} {t:List UInt8},Std s a ws e->e<=p->blk s e p->t=(s.drop p).take t.length->t ≠ []->p+t.length<=s.length->Std s a (ws ++ [(t,(p:Int))]) (p+t.length)
 | [],a,e,p,t,h,h1,h2,h3,h4,h5=>by
  have h':e=a:=h
  subst h'
  exact ⟨p,rfl,h1,h2,h3,h4,h5,rfl⟩
 | w::ws,a,e,p,t,⟨q,g1,g2,g3,g4,g5,g6,g7⟩,h1,h2,h3,h4,h5=>⟨q,g1,g2,g3,g4,g5,g6,Std.snoc g7 h1 h2 h3 h4 h5⟩
theorem take_one {s:List UInt8} {i:Nat} (h:i<s.length):(s.drop i).take (i+1 - i) = [s[i]]:=by
 rw [show i+1 - i=1 from by omega,List.drop_eq_getElem_cons h];rfl
theorem jcw {β:Type} (l:List β) (x y:β):(l ++ [x]).set l.length y=l ++ [y]:=by simp
end Go.Proofs.YtapfankgdkdkgaaGreatDoor.AM.Lx
namespace Go.Proofs.YtapfankgdkdkgaaGreatDoor.AM.Lx
open Go.RowKit
set_option linter.unusedVariables false
set_option linter.unusedSimpArgs false
def q6m (c:UInt8):Bool:=decide (((c.toNat:Nat):Int)=40)||(decide (((c.toNat:Nat):Int)=41)||(decide (((c.toNat:Nat):Int)=91)||(decide (((c.toNat:Nat):Int)=93)||decide (((c.toNat:Nat):Int)=44))))
def pfx:List UInt8->Bool
 | a::b::_=>decide (a=47)&&decide (b=47)
 | _=>false
def addL (ws:List Wd) (c:UInt8):List Wd:=match ws.getLast? with
 | some (t,p)=>ws.dropLast ++ [(t ++ [c],p)]
 | none=>ws
def qat:List UInt8->Nat->Bool->List Wd->List Wd×Nat
 | [],i,_,ws=>(ws,i)
 | c::r,i,op,ws =>
  if q6m c then qat r (i+1) false (ws ++ [([c],(i:Int))])
  else if isB c then qat r (i+1) false ws
  else if op then qat r (i+1) true (addL ws c)
  else if pfx (c::r) then (ws,i)
  else qat r (i+1) true (ws ++ [([c],(i:Int))])
theorem pfx_t (n:Nat) (s:List UInt8) (hs:s.length<=1000000):q0s n s [47,47]=some (pfx s):=by
 unfold q0s q1k
 match s with
 | []=>rfl
 | [a]=>simp [pfx]
 | a::b::r =>
  have h:((List.length ([47,47]:List UInt8):Nat):Int)<=((List.length (a::b::r):Nat):Int):=by simp;omega
  simp only [h,decide_true,cond_true]
  rw [sub_zero (by simp)]
  simp [pfx]
theorem q8u (ws:List Wd) (t:List UInt8) (p:Int) (c:UInt8):addL (ws ++ [(t,p)]) c=ws ++ [(t ++ [c],p)]:=by
 unfold addL;simp
theorem jnk (n:Nat) (rec:List UInt8->Bool->Int->Int->List Wd->Option (((Unit×(Int×Unit))×Unit×((List Wd)×Unit))⊕(((List UInt8)×(Unit×Unit))×Unit×((List Wd)×Unit)))) (s:List UInt8) (op:Bool) (L:Int) (i:Nat) (ws:List Wd)
  (hi:i<s.length) (hL:L=((s.length:Nat):Int)) (hs:s.length<=1000000) (hw:ws.length<=i) (ho:op=true->∃ ws0 t p,ws=ws0 ++ [(t,((p:Nat):Int))]/\p<=i/\t=(s.drop p).take (i - p)) :
  qqz n rec s op L (i:Int) ws=if q6m s[i] then rec s false L ((i+1:Nat):Int) (ws ++ [([s[i]],(i:Int))])
   else if isB s[i] then rec s false L ((i+1:Nat):Int) ws
   else if op then rec s true L ((i+1:Nat):Int) (addL ws s[i])
   else if pfx (s.drop i) then some (Sum.inl (((),((i:Int),())),((),(ws,()))))
   else rec s true L ((i+1:Nat):Int) (ws ++ [([s[i]],(i:Int))]):=by
 subst hL
 have c0:((i:Nat):Int)<((s.length:Nat):Int):=by omega
 have w1:=q07 (show i<4611686018427387904 by omega)
 have a1:q3e 24 ws [([s[i]],(i:Int))]=some (ws ++ [([s[i]],(i:Int))]):=q37 (by simp;omega)
 have a2:q3e 24 ws [(([]:List UInt8),(i:Int))]=some (ws ++ [([],(i:Int))]):=q37 (by simp;omega)
 have s1:q2i s ((i:Nat):Int) ((i+1:Nat):Int)=some [s[i]]:=by rw [sub_le (by omega) (by omega),take_one hi]
 have s2:q2i s ((i:Nat):Int) ((s.length:Nat):Int)=some (s.drop i):=by
  rw [sub_le (by omega) (Nat.le_refl _),List.take_of_length_le (by rw [List.length_drop];omega)]
 have hp:=pfx_t n (s.drop i) (by rw [List.length_drop];omega)
 unfold qqz
 simp only [c0,decide_true,cond_true,q7j hi,Option.bind_some,q08,w1,s1,s2,a1,a2,hp]
 have eqc : ∀k:Int,decide (((s[i].toNat:Nat):Int)=k)=true\/decide (((s[i].toNat:Nat):Int)=k)=false:=fun k=>by cases decide (((s[i].toNat:Nat):Int)=k)<;>simp
 rcases eqc 40 with h40|h40
 ·simp only [q6m,h40,cond_true,Bool.true_or,Bool.or_true,Bool.false_or,if_true]
 rcases eqc 41 with h41|h41
 ·simp only [q6m,h40,h41,cond_true,cond_false,Bool.true_or,Bool.or_true,Bool.false_or,if_true]
 rcases eqc 91 with h91|h91
 ·simp only [q6m,h40,h41,h91,cond_true,cond_false,Bool.true_or,Bool.or_true,Bool.false_or,if_true]
 rcases eqc 93 with h93|h93
 ·simp only [q6m,h40,h41,h91,h93,cond_true,cond_false,Bool.true_or,Bool.or_true,Bool.false_or,if_true]
 rcases eqc 44 with h44|h44
 ·simp only [q6m,h40,h41,h91,h93,h44,cond_true,cond_false,Bool.true_or,Bool.or_true,Bool.false_or,if_true]
 have hS:q6m s[i]=false:=by simp only [q6m,h40,h41,h91,h93,h44,Bool.or_false]
 rcases eqc 32 with h32|h32
 ·have hB:isB s[i]=true:=by simp only [isB,h32,Bool.true_or]
  simp only [hS,hB,h40,h41,h91,h93,h44,h32,cond_true,cond_false,if_true,Bool.false_eq_true,if_false]
 rcases eqc 9 with h9|h9
 ·have hB:isB s[i]=true:=by simp only [isB,h9,Bool.or_true]
  simp only [hS,hB,h40,h41,h91,h93,h44,h32,h9,cond_true,cond_false,if_true,Bool.false_eq_true,if_false]
 have hB:isB s[i]=false:=by simp only [isB,h32,h9,Bool.or_false]
 simp only [hS,hB,h40,h41,h91,h93,h44,h32,h9,cond_true,cond_false,Bool.false_eq_true,if_false]
 cases op with
 | false =>
  simp only [Bool.not_false,cond_true,Bool.false_eq_true,if_false]
  cases hb:pfx (s.drop i) with
  | true=>simp only [cond_true,if_true]
  | false =>
   have hl:(ws ++ [(([]:List UInt8),(i:Int))]).length=ws.length+1:=by simp
   have w2:IntKind.wrap .i64 ((((ws ++ [(([]:List UInt8),(i:Int))]).length:Nat):Int) - 1)=((ws.length:Nat):Int):=by
    rw [hl,show (((ws.length+1:Nat):Int) - 1)=((ws.length:Nat):Int) from by omega];exact qzn (by omega)
   have g:ws.length<(ws ++ [(([]:List UInt8),(i:Int))]).length:=by omega
   have ge:(ws ++ [(([]:List UInt8),(i:Int))])[ws.length]'g=([],(i:Int)):=by simp
   simp only [cond_false,Bool.false_eq_true,if_false,w2,q0o g,Option.bind_some,Int.toNat_natCast,jna g,ge,s1,jcw]
 | true =>
  obtain ⟨ws0,t,p,rfl,hpi,rfl⟩:=ho rfl
  simp only [Bool.not_true,cond_false,if_true]
  generalize ht:(s.drop p).take (i - p)=t
  have hl:(ws0 ++ [(t,(p:Int))]).length=ws0.length+1:=by simp
  have w2:IntKind.wrap .i64 ((((ws0 ++ [(t,(p:Int))]).length:Nat):Int) - 1)=((ws0.length:Nat):Int):=by
   rw [hl,show (((ws0.length+1:Nat):Int) - 1)=((ws0.length:Nat):Int) from by omega];exact qzn (by simp at hw;omega)
  have g:ws0.length<(ws0 ++ [(t,(p:Int))]).length:=by omega
  have ge:(ws0 ++ [(t,(p:Int))])[ws0.length]'g=(t,(p:Int)):=by simp
  have s3:q2i s ((p:Nat):Int) ((i+1:Nat):Int)=some (t ++ [s[i]]):=by
   rw [sub_le (by omega) (by omega),<-ht,show i+1 - p=(i - p)+1 from by omega,List.take_add_one,List.getElem?_drop,show p+(i - p)=i from by omega,List.getElem?_eq_getElem hi]
   rfl
  simp only [w2,q0o g,Option.bind_some,Int.toNat_natCast,jna g,ge,s3,jcw,q8u]
theorem j5f (n:Nat) (s:List UInt8) (hs:s.length<=1000000) : ∀(m i:Nat) (op:Bool) (ws:List Wd),i<=s.length->s.length - i<m->ws.length<=i->(op=true->∃ ws0 t p,ws=ws0 ++ [(t,((p:Nat):Int))]/\p<=i/\t=(s.drop p).take (i - p)) ->
  (q68 n m s op ((s.length:Nat):Int) (i:Int) ws=some (Sum.inl (((),((((qat (s.drop i) i op ws).2:Nat):Int),())),((),((qat (s.drop i) i op ws).1,()))))\/((qat (s.drop i) i op ws).2=s.length/\q68 n m s op ((s.length:Nat):Int) (i:Int) ws=some (Sum.inr ((s,((),())),((),((qat (s.drop i) i op ws).1,()))))))
 | 0,i,op,ws,_,h,_,_=>absurd h (Nat.not_lt_zero _)
 | m+1,i,op,ws,hi,h,hw,ho=>by
  rw [qtp]
  by_cases c0:i<s.length
  ·have ih:=j5f n s hs m
   rw [jnk n (fun a1 a2 a3 a4 a5=>q68 n m a1 a2 a3 a4 a5) s op _ i ws c0 rfl hs hw ho]
   have hd:s.drop i=s[i]::s.drop (i+1):=List.drop_eq_getElem_cons c0
   have h1 : [s[i]]=(s.drop i).take (i+1 - i):=(take_one c0).symm
   rw [hd,qat,<-hd]
   by_cases cS:q6m s[i]=true
   ·simp only [cS,if_true]
    exact ih (i+1) false _ (by omega) (by omega) (by simp;omega) (fun h=>by cases h)
   ·by_cases cB:isB s[i]=true
    ·simp only [cS,cB,if_true,if_false]
     exact ih (i+1) false _ (by omega) (by omega) (by omega) (fun h=>by cases h)
    ·cases op with
     | true =>
      simp only [cS,cB,if_true,if_false]
      obtain ⟨ws0,t,p,rfl,hpi,ht⟩:=ho rfl
      refine ih (i+1) true _ (by omega) (by omega) (by rw [q8u];simp at hw ⊢;omega) (fun _=>⟨ws0,t ++ [s[i]],p,q8u _ _ _ _,by omega,?_⟩)
      rw [ht,show i+1 - p=(i - p)+1 from by omega,List.take_add_one,List.getElem?_drop,show p+(i - p)=i from by omega,List.getElem?_eq_getElem c0]
      rfl
     | false =>
      by_cases cP:pfx (s.drop i)=true
      ·simp only [cS,cB,cP,Bool.false_eq_true,if_true,if_false]
       exact Or.inl (by first|rfl|trivial)
      ·simp only [cS,cB,cP,Bool.false_eq_true,if_false]
       exact ih (i+1) true _ (by omega) (by omega) (by simp;omega) (fun _=>⟨ws,[s[i]],i,rfl,by omega,h1⟩)
  ·unfold qqz
   have c0' : ¬ ((i:Nat):Int)<((s.length:Nat):Int):=by omega
   have hie:i=s.length:=by omega
   have hd:s.drop i = []:=List.drop_eq_nil_of_le (by omega)
   simp only [c0',decide_false,cond_false,hd,qat]
   exact Or.inr ⟨hie,by first|rfl|trivial⟩
theorem cut_P (n:Nat) (s:List UInt8) (hs:s.length<=1000000) (hn:s.length<n):jcx n s=some ((qat s 0 false []).1,(((qat s 0 false []).2:Nat):Int)):=by
 have h:=j5f n s hs n 0 false [] (Nat.zero_le _) (by omega) (Nat.zero_le _) (fun h=>by cases h)
 rw [List.drop_zero,show ((0:Nat):Int)=(0:Int) from rfl] at h
 unfold jcx
 rcases h with h|⟨h0,h⟩
 ·rw [h];rfl
 ·rw [h,h0];rfl
theorem jif : ∀(s:List UInt8) (i:Nat) (op:Bool) (ws:List Wd),i<=(qat s i op ws).2/\(qat s i op ws).2<=i+s.length
 | [],i,op,ws=>⟨Nat.le_refl _,Nat.le_refl _⟩
 | c::r,i,op,ws=>by
  have k:=fun op ws=>jif r (i+1) op ws
  rw [qat,List.length_cons]
  split
  ·have:=k false (ws ++ [([c],(i:Int))]);omega
  ·split
   ·have:=k false ws;omega
   ·split
    ·have:=k true (addL ws c);omega
    ·split
     ·simp
     ·have:=k true (ws ++ [([c],(i:Int))]);omega
theorem qbt (c:UInt8) (r:List UInt8) (i:Nat) (op:Bool) (ws:List Wd):qat (c::r) i op ws =
  if q6m c then qat r (i+1) false (ws ++ [([c],(i:Int))])
  else if isB c then qat r (i+1) false ws
  else if op then qat r (i+1) true (addL ws c)
  else if pfx (c::r) then (ws,i)
  else qat r (i+1) true (ws ++ [([c],(i:Int))]):=rfl
def okc (c:UInt8):Bool:=!((decide (((c.toNat:Nat):Int)<32) && !decide (((c.toNat:Nat):Int)=9))||decide ((126:Int)<((c.toNat:Nat):Int)))
theorem qlp (n:Nat) (s:List UInt8) (hL:s.length<=1000000) : ∀m j:Nat,j<=s.length->s.length - j<m->q7b n m s ((s.length:Nat):Int) (j:Int)=some (if (s.drop j).all okc then Sum.inr ((),(),()) else Sum.inl ((false,()),(),()))
 | 0,j,_,h=>absurd h (Nat.not_lt_zero _)
 | m+1,j,hj,h=>by
  rw [qiy]
  unfold qps
  by_cases c0:j<s.length
  ·have c0':((j:Nat):Int)<((s.length:Nat):Int):=by omega
   have ih:=qlp n s hL m (j+1) (by omega) (by omega)
   have hd:s.drop j=s[j]::s.drop (j+1):=(List.drop_eq_getElem_cons c0)
   simp only [c0',decide_true,cond_true,q7j c0,Option.bind_some,q08,q07 (show j<4611686018427387904 by omega),ih,hd,List.all_cons,okc]
   generalize decide (((s[j].toNat:Nat):Int)<32)=b1
   generalize decide (((s[j].toNat:Nat):Int)=9)=b2
   generalize decide ((126:Int)<((s[j].toNat:Nat):Int))=b3
   cases b1<;>cases b2<;>cases b3<;>simp<;>rfl
  ·have c0' : ¬ ((j:Nat):Int)<((s.length:Nat):Int):=by omega
   have:s.drop j = []:=List.drop_eq_nil_of_le (by omega)
   simp [c0',this]
theorem jpc (n:Nat) (s:List UInt8) (hL:s.length<=1000000) (hn:s.length<n):qmw n s=some (s.all okc):=by
 unfold qmw
 have:=qlp n s hL n 0 (Nat.zero_le _) (by omega)
 rw [show ((0:Nat):Int)=(0:Int) from rfl] at this
 rw [this,List.drop_zero]
 cases s.all okc<;>rfl
theorem one_P (n:Nat) (s:List UInt8) (hL:s.length<=1000000) (hn:s.length<n):j2s n s=some (if s.all okc then (((qat s 0 false []).1,s.drop (qat s 0 false []).2),0) else (([],[]),9)):=by
 unfold j2s
 rw [jpc n s hL hn]
 cases h:s.all okc with
 | false=>rfl
 | true =>
  have h2:=(jif s 0 false []).2
  simp only [Option.bind_some,Bool.not_true,cond_false,cut_P n s hL hn,if_true]
  rw [sub_le (by omega) (Nat.le_refl _),Option.bind_some,List.take_of_length_le (by rw [List.length_drop];omega)]
end Go.Proofs.YtapfankgdkdkgaaGreatDoor.AM.Lx
namespace Go.Proofs.YtapfankgdkdkgaaGreatDoor.AM.Lx
open Go.RowKit
set_option linter.unusedVariables false
set_option linter.unusedSimpArgs false
def qtt:List UInt8->Nat->Bool->List Wd->List Wd
 | [],i,_,ws=>ws
 | c::r,i,op,ws =>
  if q6m c then qtt r (i+1) false (ws ++ [([c],(i:Int))])
  else if isB c then qtt r (i+1) false ws
  else if op then qtt r (i+1) true (addL ws c)
  else qtt r (i+1) true (ws ++ [([c],(i:Int))])
theorem qbk (c:UInt8) (r:List UInt8) (i:Nat) (op:Bool) (ws:List Wd):qtt (c::r) i op ws =
  if q6m c then qtt r (i+1) false (ws ++ [([c],(i:Int))])
  else if isB c then qtt r (i+1) false ws
  else if op then qtt r (i+1) true (addL ws c)
  else qtt r (i+1) true (ws ++ [([c],(i:Int))]):=rfl
def ji1:List UInt8->Bool->Nat
 | [],_=>0
 | c::r,op=>if (!op&&pfx (c::r))=true then 0 else 1+ji1 r (!(q6m c||isB c))
theorem jka (c:UInt8) (r:List UInt8) (op:Bool):ji1 (c::r) op=if (!op&&pfx (c::r))=true then 0 else 1+ji1 r (!(q6m c||isB c)):=rfl
theorem jmx (c:UInt8) (r:List UInt8) (h:q6m c=true\/isB c=true):pfx (c::r)=false:=by
 cases r with
 | nil=>rfl
 | cons b r =>
  have:c≠47:=by
   rintro rfl
   rcases h with h|h<;>revert h<;>decide
  simp [pfx,this]
theorem qhr : ∀(l:List UInt8) (i:Nat) (op:Bool) (ws:List Wd),qat l i op ws=(qtt (l.take (ji1 l op)) i op ws,i+ji1 l op)
 | [],i,op,ws=>rfl
 | c::r,i,op,ws=>by
  have ih:=fun op ws=>qhr r (i+1) op ws
  rw [qbt,jka]
  by_cases c1:q6m c=true
  ·rw [if_pos c1,jmx c r (Or.inl c1),ih]
   simp only [Bool.and_false,Bool.false_eq_true,if_false,c1,Bool.true_or,Bool.not_true]
   rw [Nat.add_comm 1,List.take_succ_cons,qbk,if_pos c1,Nat.add_assoc i 1,Nat.add_comm 1]
  rw [if_neg c1]
  by_cases c2:isB c=true
  ·rw [if_pos c2,jmx c r (Or.inr c2),ih]
   simp only [Bool.and_false,Bool.false_eq_true,if_false,c2,Bool.or_true,Bool.not_true]
   rw [Nat.add_comm 1,List.take_succ_cons,qbk,if_neg c1,if_pos c2,Nat.add_assoc i 1,Nat.add_comm 1]
  rw [if_neg c2]
  have c1':q6m c=false:=by simpa using c1
  have c2':isB c=false:=by simpa using c2
  by_cases c3:op=true
  ·subst c3
   rw [if_pos rfl,ih]
   simp only [Bool.not_true,Bool.false_and,Bool.false_eq_true,if_false,c1',c2',Bool.or_self,Bool.not_false]
   rw [Nat.add_comm 1,List.take_succ_cons,qbk,if_neg c1,if_neg c2,if_pos rfl,Nat.add_assoc i 1,Nat.add_comm 1]
  have c3':op=false:=by simpa using c3
  subst c3'
  rw [if_neg c3]
  by_cases c4:pfx (c::r)=true
  ·rw [if_pos c4,if_pos (by rw [c4];rfl)];rfl
  rw [if_neg c4,if_neg (by simpa using c4),ih]
  simp only [c1',c2',Bool.or_self,Bool.not_false]
  rw [Nat.add_comm 1,List.take_succ_cons,qbk,if_neg c1,if_neg c2,if_neg c3,Nat.add_assoc i 1,Nat.add_comm 1]
def prev (s:List UInt8) (i:Nat):Bool:=if h:0<i/\i<=s.length then !(q6m (s[i - 1]'(by omega))||isB (s[i - 1]'(by omega))) else false
theorem jct : ∀(l:List UInt8) (i:Nat) (op:Bool) (ws:List Wd),(qtt l i op ws).length<=ws.length+l.length
 | [],i,op,ws=>by simp [qtt]
 | c::r,i,op,ws=>by
  have ih:=fun op ws=>jct r (i+1) op ws
  rw [qbk,List.length_cons]
  split
  ·have:=ih false (ws ++ [([c],(i:Int))]);simp at this;omega
  ·split
   ·have:=ih false ws;omega
   ·split
    ·have:=ih true (addL ws c)
     have h2:(addL ws c).length<=ws.length:=by
      unfold addL
      split
      ·rename_i t p h
       have:ws ≠ []:=by rintro rfl;simp at h
       have:=List.length_pos_iff.2 this
       simp;omega
      ·exact Nat.le_refl _
     omega
    ·have:=ih true (ws ++ [([c],(i:Int))]);simp at this;omega
abbrev Ln:=List Wd×List UInt8
def j0e (s:List UInt8):Ln:=((qat s 0 false []).1,s.drop (qat s 0 false []).2)
def oneR (s:List UInt8):Ln×Int:=if s.all okc then (j0e s,0) else (([],[]),9)
theorem jyv (n:Nat) (s:List UInt8) (hL:s.length<=1000000) (hn:s.length<n):j2s n s=some (oneR s):=by
 rw [one_P n s hL hn];rfl
theorem jq2 (s:List UInt8):(j0e s).1.length<=s.length/\(j0e s).2.length<=s.length:=by
 unfold j0e
 rw [qhr]
 have:=jct (s.take (ji1 s false)) 0 false []
 rw [List.length_take,List.length_nil] at this
 refine ⟨?_,?_⟩
 ·show (qtt (s.take (ji1 s false)) 0 false []).length<=_;omega
 ·rw [List.length_drop];omega
def qzy (s:List UInt8):Bool:=s.getLast? == some 10
def q0p (s:List UInt8):List (List UInt8):=if s = [] then [] else spl 10 [] (if qzy s=true then s.dropLast else s)
theorem j2m (n:Nat) (s:List UInt8) (hs:s.length<=1000000):q7z n s [10]=some (if qzy s=true then s.dropLast else s):=by
 unfold q7z q9x qbi qzy
 rcases List.eq_nil_or_concat s with rfl|⟨m,c,rfl⟩
 ·rfl
 ·rw [List.concat_eq_append]
  have hl:(m ++ [c]).length=m.length+1:=by simp
  rw [List.concat_eq_append] at hs
  have h1:((([10]:List UInt8).length:Nat):Int)<=(((m ++ [c]).length:Nat):Int):=by rw [hl];simp;omega
  have w1:IntKind.wrap .i64 ((((m ++ [c]).length:Nat):Int) - ((([10]:List UInt8).length:Nat):Int))=((m.length:Nat):Int):=by
   rw [hl,show (((m.length+1:Nat):Int) - ((([10]:List UInt8).length:Nat):Int))=((m.length:Nat):Int) from by simp];exact qzn (by omega)
  have s1:q2i (m ++ [c]) ((m.length:Nat):Int) (((m ++ [c]).length:Nat):Int)=some [c]:=by rw [sub_le (by rw [hl];omega) (Nat.le_refl _),hl];simp
  have s2:q2i (m ++ [c]) (0:Int) ((m.length:Nat):Int)=some m:=by rw [sub_zero (by rw [hl];omega)];simp
  simp only [h1,decide_true,cond_true,q08,w1,s1,s2,Option.bind_some]
  by_cases hc:c=10
  ·subst hc;simp
  ·simp [hc]
theorem jat (n:Nat) (s:List UInt8) (hs:s.length<=1000000):qcm n s=some (q0p s):=by
 unfold qcm q0p
 by_cases h:s = []
 ·simp [h]
 ·have h2:(if qzy s=true then s.dropLast else s).length<=s.length:=by split<;>simp
  rw [j2m n s hs]
  simp only [h,decide_false,cond_false,Option.bind_some,qa6,if_false]
  rw [if_pos (by omega),Option.bind_some]
theorem q2k (n:Nat) (s:List UInt8) (c:UInt8) (hs:s.length<=1000000) : ∀(m i fr:Nat) (out:List (List UInt8)),i<=s.length->s.length - i+1<m->fr<=i->out.length<=i ->
  q1d n m s ((c.toNat:Nat):Int) (fr:Int) (i:Int) out=some (((),()),((),(out++spl c ((s.drop fr).take (i - fr)) (s.drop i),())))
 | 0,i,fr,_,_,h,_,_=>absurd h (Nat.not_lt_zero _)
 | m+1,i,fr,out,hi,h,hf,ho=>by
  rw [q1p]
  unfold q2s
  have c0:((i:Nat):Int)<=((s.length:Nat):Int):=by omega
  have w1:=q07 (show i<4611686018427387904 by omega)
  have s1:q2i s ((fr:Nat):Int) ((i:Nat):Int)=some ((s.drop fr).take (i - fr)):=sub_le hf hi
  have a1:q3e 16 out [(s.drop fr).take (i - fr)]=some (out ++ [(s.drop fr).take (i - fr)]):=q37 (by simp;omega)
  by_cases c1:i=s.length
  ·have c1':((i:Nat):Int)=((s.length:Nat):Int):=by omega
   have hd:s.drop i = []:=List.drop_eq_nil_of_le (by omega)
   simp only [c0,c1',decide_true,cond_true]
   rw [<-c1',s1,Option.bind_some,a1,Option.bind_some,hd]
   simp only [q08,w1]
   cases m with
   | zero=>omega
   | succ m =>
    rw [q1p]
    unfold q2s
    have c2 : ¬ ((i+1:Nat):Int)<=((s.length:Nat):Int):=by omega
    simp only [c2,Int.le_refl,decide_true,decide_false,cond_true,cond_false]
    rfl
  ·have c1' : ¬ ((i:Nat):Int)=((s.length:Nat):Int):=by omega
   have hi':i<s.length:=by omega
   have hd:s.drop i=s[i]::s.drop (i+1):=List.drop_eq_getElem_cons hi'
   simp only [c0,c1',decide_true,decide_false,cond_true,cond_false,q7j hi',Option.bind_some,q08,w1,s1,a1]
   have hc:decide (((s[i].toNat:Nat):Int)=((c.toNat:Nat):Int))=decide (s[i]=c):=by
    apply decide_eq_decide.2
    constructor
    ·intro hh;exact UInt8.toNat_inj.1 (by omega)
    ·intro hh;rw [hh]
   rw [hc,hd,spl]
   by_cases c2:s[i]=c
   ·simp only [c2,decide_true,cond_true,if_true]
    rw [q2k n s c hs m (i+1) (i+1) (out ++ [(s.drop fr).take (i - fr)]) (by omega) (by omega) (Nat.le_refl _) (by simp;omega)]
    simp
   ·simp only [c2,decide_false,cond_false,if_false]
    rw [q2k n s c hs m (i+1) fr out (by omega) (by omega) (by omega) (by omega)]
    have e1:(s.drop fr).take (i+1 - fr)=(s.drop fr).take (i - fr) ++ [s[i]]:=by
     rw [show i+1 - fr=(i - fr)+1 from by omega,List.take_add_one,List.getElem?_drop,show fr+(i - fr)=i from by omega,List.getElem?_eq_getElem hi']
     rfl
    rw [e1]
theorem j4x (n:Nat) (s:List UInt8) (c:UInt8) (hs:s.length<=1000000) (hn:s.length+1<n):q3s n s ((c.toNat:Nat):Int)=some (spl c [] s):=by
 unfold q3s
 have h:=q2k n s c hs n 0 0 [] (Nat.zero_le _) (by omega) (Nat.le_refl _) (Nat.zero_le _)
 rw [show ((0:Nat):Int)=(0:Int) from rfl] at h
 rw [h]
 simp
theorem qag (s:List UInt8):(q0p s).length<=s.length+1/\∀x∈q0p s,x.length<=s.length:=by
 unfold q0p
 split
 ·exact ⟨by simp,fun x h=>by cases h⟩
 ·have h2:(if qzy s=true then s.dropLast else s).length<=s.length:=by split<;>simp
  refine ⟨by have:=(qf5 10 (if qzy s=true then s.dropLast else s) []).2;omega,fun x hx=>?_⟩
  have:=qkv 10 _ _ x hx
  simp at this
  omega
end Go.Proofs.YtapfankgdkdkgaaGreatDoor.AM.Lx
namespace Go.Proofs.YtapfankgdkdkgaaGreatDoor.AM.Lx
open Go.RowKit
set_option linter.unusedVariables false
set_option linter.unusedSimpArgs false
def q4z:List (List UInt8)->Nat->List Ln->List Ln×Int×Int
 | [],i,out=>(out,(i:Int),0)
 | x::xs,i,out=>if x.all okc=true then q4z xs (i+1) (out ++ [j0e x]) else ([],(i:Int),9)
theorem qrl (n:Nat) (ls:List (List UInt8)) (hl:ls.length<=1000000) (hx : ∀x∈ls,x.length<=1000000/\x.length<n) : ∀(m j:Nat) (out:List Ln),j<=ls.length->ls.length - j<m->out.length=j ->
  (q79 n m ls ((ls.length:Nat):Int) (j:Int) out).bind (fun o6=>Sum.elim (fun q7=>some (([]:List Ln),(q7.1.2.1,q7.1.2.2.1))) (fun q8=>some (q8.2.2.1,(((List.length q8.2.2.1:Nat):Int),(0:Int)))) o6)=some (q4z (ls.drop j) j out)
 | 0,j,_,_,h,_=>absurd h (Nat.not_lt_zero _)
 | m+1,j,out,hj,h,ho=>by
  rw [qj8]
  unfold qpx
  by_cases c0:j<ls.length
  ·have c0':((j:Nat):Int)<((ls.length:Nat):Int):=by omega
   obtain ⟨x1,x2⟩:=hx ls[j] (List.getElem_mem c0)
   rw [List.drop_eq_getElem_cons c0,q4z]
   simp only [c0',decide_true,cond_true,q0o c0,Option.bind_some,jyv n ls[j] x1 x2,oneR]
   by_cases hk:ls[j].all okc=true
   ·have a1:q3e 40 out [j0e ls[j]]=some (out ++ [j0e ls[j]]):=q37 (by simp;omega)
    simp only [hk,if_true,decide_true,Bool.not_true,cond_false,a1,Option.bind_some,q08,q07 (show j<4611686018427387904 by omega)]
    exact qrl n ls hl hx m (j+1) _ (by omega) (by omega) (by simp;omega)
   ·rw [if_neg hk,if_neg hk]
    rfl
  ·have c0' : ¬ ((j:Nat):Int)<((ls.length:Nat):Int):=by omega
   simp only [c0',decide_false,cond_false,Option.bind_some,Sum.elim_inr]
   rw [List.drop_eq_nil_of_le (by omega),q4z,ho]
theorem jqq (n:Nat) (s:List UInt8) (hs:s.length<=100000) (hn:s.length+1<n):qfs n s=some (q4z (q0p s) 0 []):=by
 unfold qfs
 obtain ⟨h1,h2⟩:=qag s
 rw [jat n s (by omega),Option.bind_some]
 exact qrl n (q0p s) (by omega) (fun x hx=>by have:=h2 x hx;omega) n 0 [] (Nat.zero_le _) (by omega) rfl
theorem jcm : ∀(l:List (List UInt8)),(∀x∈l,(10:UInt8) ∉ x)->∀x,(10:UInt8) ∉ x->spl 10 [] (((x::l).map (· ++ [10])).flatten)=(x::l) ++ [[]]
 | [],_,x,hx=>by
  simp only [List.map_cons,List.map_nil,List.flatten_cons,List.flatten_nil,List.append_nil]
  rw [jdq]
  have:=qgi 10 x [] [] hx
  rw [List.append_nil] at this
  rw [this];simp [spl]
 | y::l,h,x,hx=>by
  rw [List.map_cons,List.flatten_cons,List.append_assoc,qgi 10 x [] _ hx]
  rw [List.singleton_append,List.nil_append,spl,if_pos rfl,jcm l (fun z hz=>h z (List.mem_cons_of_mem _ hz)) y (h y List.mem_cons_self)]
  simp
theorem j5o (l:List (List UInt8)) (h : ∀x∈l,(10:UInt8) ∉ x):q0p ((l.map (· ++ [10])).flatten)=l:=by
 unfold q0p
 cases l with
 | nil=>rfl
 | cons x l =>
  have h1:=jcm l (fun z hz=>h z (List.mem_cons_of_mem _ hz)) x (h x List.mem_cons_self)
  obtain ⟨m,hm⟩ : ∃ m,((x::l).map (· ++ [10])).flatten=m ++ [10]:=by
   rcases List.eq_nil_or_concat (x::l) with h0|⟨a,b,h0⟩
   ·cases h0
   ·rw [h0,List.concat_eq_append]
    exact ⟨(a.map (· ++ [10])).flatten++b,by simp⟩
  rw [hm] at h1 ⊢
  rw [if_neg (by simp),if_pos (by simp [qzy]),List.dropLast_concat]
  rw [jdq] at h1
  exact List.append_cancel_right h1
end Go.Proofs.YtapfankgdkdkgaaGreatDoor.AM.Lx
namespace Go.Proofs.YtapfankgdkdkgaaGreatDoor.AM
open Go.RowKit
set_option linter.unusedVariables false
set_option linter.unusedSimpArgs false
def qfk (c:UInt8):Bool:=qmu c||decide (c.toNat=95)||decide (c.toNat=46)
def qk7 (s:List UInt8):Bool:=!decide (s = [])&&(!decide (s = [46])&&(!decide (s = [46,46])&&s.all qfk))
def q4w (s:List UInt8):Bool:=decide (s.length<=60)&&(spl 47 [] s).all qk7
def q4r (w:List UInt8):Bool:=decide (w.head? = some 118)&&q6v (w.drop 1)
def anyS (s:List UInt8):Bool:=(spl 47 [] s).any q4r
def qqt (c:UInt8):List UInt8->Int
 | []=>-1
 | b::r=>if b=c then (r.length:Int) else qqt c r
def qdt (c:UInt8) (s:List UInt8):Int:=qqt c s.reverse
theorem jc9 (c:UInt8) : ∀l,-1<=qqt c l/\qqt c l<(l.length:Int)
 | []=>by simp [qqt]
 | b::r=>by
  have:=jc9 c r
  rw [qqt];split
  ·simp;omega
  ·simp;omega
theorem jbm (c:UInt8) (s:List UInt8) : -1<=qdt c s/\qdt c s<(s.length:Int):=by
 have:=jc9 c s.reverse;unfold qdt;simpa using this
def qau (s:List UInt8):List UInt8:=s.take (qdt 47 s).toNat
def qc3 (s:List UInt8):List UInt8:=s.drop (qdt 47 s+1).toNat
abbrev jg8:List UInt8:=[48,49,50,51,52,53,54,55,56,57]
theorem jrx (c:UInt8):jg8.contains c=q26 c:=by
 have h : ∀k:Fin 256,jg8.contains (UInt8.ofNat k.val)=q26 (UInt8.ofNat k.val):=by decide +kernel
 have h1:=h ⟨c.toNat,c.toNat_lt⟩
 simpa using h1
theorem dropWhile_nil (p:UInt8->Bool) : ∀l:List UInt8,l.dropWhile p = []↔l.all p=true
 | []=>by simp
 | b::l=>by
  rw [List.dropWhile_cons]
  cases h:p b with
  | true=>simp [h,dropWhile_nil p l]
  | false=>simp [h]
theorem qi7 {p:UInt8->Bool} {c:UInt8} : ∀{l:List UInt8},c∈l->p c=false->c∈l.dropWhile p
 | b::l,h,hp=>by
  rw [List.dropWhile_cons]
  rcases List.mem_cons.1 h with rfl|h
  ·simp [hp]
  ·cases hb:p b with
   | true=>simpa using qi7 h hp
   | false=>simp [h]
theorem jpz (s:List UInt8):decide (Lib.trimS s jg8 = [])=s.all q26:=by
 have he:(fun c=>jg8.contains c)=q26:=funext jrx
 unfold Lib.trimS Lib.trimRightS Lib.trimLeftS
 rw [he]
 cases h:s.all q26 with
 | true =>
  have h2:s.reverse.all q26=true:=by rw [List.all_reverse];exact h
  rw [(dropWhile_nil q26 s.reverse).2 h2];simp
 | false =>
  rw [decide_eq_false_iff_not,dropWhile_nil]
  intro hc
  have h3 : ∃ c,c∈s/\q26 c=false:=by
   have:=List.all_eq_false.1 h
   obtain ⟨c,hc,hn⟩:=this
   exact ⟨c,hc,by simpa using hn⟩
  obtain ⟨c,hm,hn⟩:=h3
  have h4:c∈(s.reverse.dropWhile q26).reverse:=by simpa using qi7 (l:=s.reverse) (by simpa using hm) hn
  have:=List.all_eq_true.1 hc c h4
  rw [hn] at this;cases this
def numOf (s:List UInt8):Int:=match Lib.atoiAll s with
 | .ok v=>v
 | .range=>Lib.atoiSat s
 | _=>0
def jaq (s:List UInt8):Bool:=match Lib.atoiAll s with
 | .ok v=>decide (2<=v)&&(decide (v<=999999999)&&decide (s=Lib.itoa v))
 | _=>false
def okS (p:List UInt8):Bool:=q4w p&&(!anyS (qau p)&&(!q4r (qc3 p)||(jaq ((qc3 p).drop 1) && !decide (qau p = []))))
def qri (p:List UInt8):List UInt8×(Int×Bool):=if okS p then (if q4r (qc3 p) then (qau p,(numOf ((qc3 p).drop 1),true)) else (p,(0,true))) else ([],(0,false))
theorem qiq {s:List UInt8} (h:q4w s=true):s.length<=60/\(spl 47 [] s).all qk7=true:=by
 unfold q4w at h;simpa using h
theorem jwh {s:List UInt8} (h:q4w s=true):s ≠ []:=by
 rintro rfl;exact absurd h (by decide)
theorem qka {p:List UInt8} (h:okS p=true):q4w p=true/\anyS (qau p)=false/\(q4r (qc3 p)=true->jaq ((qc3 p).drop 1)=true/\qau p ≠ []):=by
 unfold okS at h
 simp only [Bool.and_eq_true,Bool.or_eq_true,Bool.not_eq_true',decide_eq_false_iff_not] at h
 refine ⟨h.1,h.2.1,fun ht=>?_⟩
 rcases h.2.2 with h3|h3
 ·rw [ht] at h3;cases h3
 ·exact h3
end Go.Proofs.YtapfankgdkdkgaaGreatDoor.AM
namespace Go.Proofs
open Go.RowKit Go.Shelf Go.Lib
shelf_lay Lays.n160 Nm 160 at Tryz as Tryz.laysTrim
set_option linter.unusedVariables false
set_option linter.unusedSimpArgs false
namespace YtapfankgdkdkgaaGreatDoor.AM
def qru (s cs:List UInt8):Option (List UInt8):=if cs=jg8/\s.length<=1000000 then some (Lib.trimS s jg8) else none
def jbr:FC:={ f:=166,args:=[qv7,qv7],res:=qv7,F:=fun p=>qru p.1 p.2 }
theorem jru:q0d Inv Tryz.prog jbr:=fun G hG=>⟨⟨by kernel_rfl,fun a r h=>by
 obtain ⟨s,cs⟩:=a
 have h':qru s cs=some r:=h
 unfold qru at h'
 split at h'
 case isFalse=>cases h'
 rename_i hc
 obtain ⟨rfl,hl⟩:=hc
 have hr:Lib.trimS s jg8=r:=Option.some.inj h'
 intro Pc w vs hg hlt hv
 obtain ⟨l⟩:=vs
 match l,hv with
 | [x,y],⟨h1,h2,_⟩ =>
  obtain rfl:x = .string (ba s):=q09 h1
  obtain rfl:y = .string (ba jg8):=q09 h2
  have e1:(ba s).data.toList=s:=by simp [ba]
  have e2:(ba jg8).data.toList=jg8:=by simp [ba]
  have hh:=Any.strings_Trim_laid Tryz.laysTrim (by kernel_rfl) (ba s) (ba jg8) w (by rw [q2y];omega) (by rw [q2y];decide) (by rw [e2];exact ascii_of_all (by decide))
  rw [e1,e2,hr] at hh
  refine hh.mono ?_
  rintro e w' ⟨rfl,hb⟩
  exact q4c rfl hb (q05 (.string (ba r)))⟩,rfl⟩
end YtapfankgdkdkgaaGreatDoor.AM
end Go.Proofs
