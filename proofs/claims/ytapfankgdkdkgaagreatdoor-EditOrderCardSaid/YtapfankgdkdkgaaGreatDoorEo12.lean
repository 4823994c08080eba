
import Derived.Test.YtapfankgdkdkgaaGreatDoorEo11
import Derived.Test.YtapfankgdkdkgaaGreatDoorEo9
import Derived.Test.YtapfankgdkdkgaaGreatDoorEo8
import Derived.Lib.SlTrimSet
import Derived.Test.YtapfankgdkdkgaaGreatDoorEo10
import Derived.Shelf.Strings.SlTrimAscii
set_option linter.unusedVariables false
set_option linter.unusedSimpArgs false
namespace Go.Proofs.YtapfankgdkdkgaaGreatDoor.AM.Lx
open Go.RowKit
abbrev Wd:=Yy×Int
def isB (c:UInt8):Bool:=decide (((c.toNat:Nat):Int)=32)||decide (((c.toNat:Nat):Int)=9)
def blk (s:Yy) (a b:Nat):Prop:=((s.drop a).take (b - a)).all isB=true
def Std (s:Yy):Nat->List Wd->Nat->Prop
 | a,[],e=>e=a
 | a,w::ws,e=>∃ p:Nat,w.2=(p:Int)/\a<=p/\blk s a p/\w.1=(s.drop p).take w.1.length/\w.1 ≠ []/\p+w.1.length<=s.length/\Std s (p+w.1.length) ws e
theorem Std.le {s:Yy} : ∀{ws:List Wd} {a e:Nat},Std s a ws e->a<=e
 | [],a,e,h=>Nat.le_of_eq (Eq.symm h)
 | w::ws,a,e,⟨p,_,h1,_,_,_,_,h2⟩=>by have:=Std.le h2;omega
theorem Std.snoc {s:Yy} : ∀{ws:List Wd} {a e p:Nat} {t:Yy},Std s a ws e->e<=p->blk s e p->t=(s.drop p).take t.length->t ≠ []->p+t.length<=s.length->Std s a (ws ++ [(t,(p:Int))]) (p+t.length)
 | [],a,e,p,t,h,h1,h2,h3,h4,h5=>by
  have h':e=a:=h
  subst h'
  exact ⟨p,rfl,h1,h2,h3,h4,h5,rfl⟩
 | w::ws,a,e,p,t,⟨q,g1,g2,g3,g4,g5,g6,g7⟩,h1,h2,h3,h4,h5=>⟨q,g1,g2,g3,g4,g5,g6,Std.snoc g7 h1 h2 h3 h4 h5⟩
theorem take_one {s:Yy} {i:Nat} (h:i<s.length):(s.drop i).take (i+1 - i) = [s[i]]:=by
 rw [show i+1 - i=1 from by omega,List.drop_eq_getElem_cons h];rfl
theorem j3c {β:Type} (l:List β) (x y:β):(l ++ [x]).set l.length y=l ++ [y]:=by simp
end Go.Proofs.YtapfankgdkdkgaaGreatDoor.AM.Lx
namespace Go.Proofs.YtapfankgdkdkgaaGreatDoor.AM.Lx
open Go.RowKit
def q2z (c:UInt8):Bool:=decide (((c.toNat:Nat):Int)=40)||(decide (((c.toNat:Nat):Int)=41)||(decide (((c.toNat:Nat):Int)=91)||(decide (((c.toNat:Nat):Int)=93)||decide (((c.toNat:Nat):Int)=44))))
def pfx:Yy->Bool
 | a::b::_=>decide (a=47)&&decide (b=47)
 | _=>false
def addL (ws:List Wd) (c:UInt8):List Wd:=match ws.getLast? with
 | some (t,p)=>ws.dropLast ++ [(t ++ [c],p)]
 | none=>ws
def q3h:Yy->Nat->Bool->List Wd->List Wd×Nat
 | [],i,_,ws=>(ws,i)
 | c::r,i,op,ws =>
  if q2z c then q3h r (i+1) false (ws ++ [([c],(i:Int))])
  else if isB c then q3h r (i+1) false ws
  else if op then q3h r (i+1) true (addL ws c)
  else if pfx (c::r) then (ws,i)
  else q3h r (i+1) true (ws ++ [([c],(i:Int))])
theorem pfx_t (n:Nat) (s:Yy) (hs:s.length<=1000000):q0p n s [47,47]=some (pfx s):=by
 unfold q0p q16
 match s with
 | []=>rfl
 | [a]=>simp [pfx]
 | a::b::r =>
  have h:((List.length ([47,47]:Yy):Nat):Int)<=((List.length (a::b::r):Nat):Int):=by simp;omega
  simp only [h,decide_true,cond_true]
  rw [sub_zero (by simp)]
  simp [pfx]
theorem q42 (ws:List Wd) (t:Yy) (p:Int) (c:UInt8):addL (ws ++ [(t,p)]) c=ws ++ [(t ++ [c],p)]:=by
 unfold addL;simp
theorem j8s (n:Nat) (rec:Yy->Bool->Int->Int->List Wd->Option (((Unit×(Int×Unit))×Unit×((List Wd)×Unit))⊕((Yy×(Unit×Unit))×Unit×((List Wd)×Unit)))) (s:Yy) (op:Bool) (L:Int) (i:Nat) (ws:List Wd)
  (hi:i<s.length) (hL:L=((s.length:Nat):Int)) (hs:s.length<=1000000) (hw:ws.length<=i) (ho:op=true->∃ ws0 t p,ws=ws0 ++ [(t,((p:Nat):Int))]/\p<=i/\t=(s.drop p).take (i - p)) :
  qij n rec s op L (i:Int) ws=if q2z s[i] then rec s false L ((i+1:Nat):Int) (ws ++ [([s[i]],(i:Int))])
   else if isB s[i] then rec s false L ((i+1:Nat):Int) ws
   else if op then rec s true L ((i+1:Nat):Int) (addL ws s[i])
   else if pfx (s.drop i) then some (Sum.inl (((),((i:Int),())),((),(ws,()))))
   else rec s true L ((i+1:Nat):Int) (ws ++ [([s[i]],(i:Int))]):=by
 subst hL
 have c0:((i:Nat):Int)<((s.length:Nat):Int):=by omega
 have w1:=q1f (show i<4611686018427387904 by omega)
 have a1:q7g 24 ws [([s[i]],(i:Int))]=some (ws ++ [([s[i]],(i:Int))]):=qao (by simp;omega)
 have a2:q7g 24 ws [(([]:Yy),(i:Int))]=some (ws ++ [([],(i:Int))]):=qao (by simp;omega)
 have s1:q20 s ((i:Nat):Int) ((i+1:Nat):Int)=some [s[i]]:=by rw [sub_le (by omega) (by omega),take_one hi]
 have s2:q20 s ((i:Nat):Int) ((s.length:Nat):Int)=some (s.drop i):=by
  rw [sub_le (by omega) (Nat.le_refl _),List.take_of_length_le (by rw [List.length_drop];omega)]
 have hp:=pfx_t n (s.drop i) (by rw [List.length_drop];omega)
 unfold qij
 simp only [c0,decide_true,cond_true,qcn hi,Option.bind_some,q0h,w1,s1,s2,a1,a2,hp]
 have eqc : ∀k:Int,decide (((s[i].toNat:Nat):Int)=k)=true\/decide (((s[i].toNat:Nat):Int)=k)=false:=fun k=>by cases decide (((s[i].toNat:Nat):Int)=k)<;>simp
 rcases eqc 40 with h40|h40
 ·simp only [q2z,h40,cond_true,Bool.true_or,Bool.or_true,Bool.false_or,if_true]
 rcases eqc 41 with h41|h41
 ·simp only [q2z,h40,h41,cond_true,cond_false,Bool.true_or,Bool.or_true,Bool.false_or,if_true]
 rcases eqc 91 with h91|h91
 ·simp only [q2z,h40,h41,h91,cond_true,cond_false,Bool.true_or,Bool.or_true,Bool.false_or,if_true]
 rcases eqc 93 with h93|h93
 ·simp only [q2z,h40,h41,h91,h93,cond_true,cond_false,Bool.true_or,Bool.or_true,Bool.false_or,if_true]
 rcases eqc 44 with h44|h44
 ·simp only [q2z,h40,h41,h91,h93,h44,cond_true,cond_false,Bool.true_or,Bool.or_true,Bool.false_or,if_true]
 have hS:q2z s[i]=false:=by simp only [q2z,h40,h41,h91,h93,h44,Bool.or_false]
 rcases eqc 32 with h32|h32
 ·have hB:isB s[i]=true:=by simp only [isB,h32,Bool.true_or]
  simp only [hS,hB,h40,h41,h91,h93,h44,h32,cond_true,cond_false,if_true,Bool.false_eq_true,if_false]
 rcases eqc 9 with h9|h9
 ·have hB:isB s[i]=true:=by simp only [isB,h9,Bool.or_true]
  simp only [hS,hB,h40,h41,h91,h93,h44,h32,h9,cond_true,cond_false,if_true,Bool.false_eq_true,if_false]
 have hB:isB s[i]=false:=by simp only [isB,h32,h9,Bool.or_false]
 simp only [hS,hB,h40,h41,h91,h93,h44,h32,h9,cond_true,cond_false,Bool.false_eq_true,if_false]
 cases op with
 | false =>
  simp only [Bool.not_false,cond_true,Bool.false_eq_true,if_false]
  cases hb:pfx (s.drop i) with
  | true=>simp only [cond_true,if_true]
  | false =>
   have hl:(ws ++ [(([]:Yy),(i:Int))]).length=ws.length+1:=by simp
   have w2:IntKind.wrap .i64 ((((ws ++ [(([]:Yy),(i:Int))]).length:Nat):Int) - 1)=((ws.length:Nat):Int):=by
    rw [hl,show (((ws.length+1:Nat):Int) - 1)=((ws.length:Nat):Int) from by omega];exact qr6 (by omega)
   have g:ws.length<(ws ++ [(([]:Yy),(i:Int))]).length:=by omega
   have ge:(ws ++ [(([]:Yy),(i:Int))])[ws.length]'g=([],(i:Int)):=by simp
   simp only [cond_false,Bool.false_eq_true,if_false,w2,q37 g,Option.bind_some,Int.toNat_natCast,je5 g,ge,s1,j3c]
 | true =>
  obtain ⟨ws0,t,p,rfl,hpi,rfl⟩:=ho rfl
  simp only [Bool.not_true,cond_false,if_true]
  generalize ht:(s.drop p).take (i - p)=t
  have hl:(ws0 ++ [(t,(p:Int))]).length=ws0.length+1:=by simp
  have w2:IntKind.wrap .i64 ((((ws0 ++ [(t,(p:Int))]).length:Nat):Int) - 1)=((ws0.length:Nat):Int):=by
   rw [hl,show (((ws0.length+1:Nat):Int) - 1)=((ws0.length:Nat):Int) from by omega];exact qr6 (by simp at hw;omega)
  have g:ws0.length<(ws0 ++ [(t,(p:Int))]).length:=by omega
  have ge:(ws0 ++ [(t,(p:Int))])[ws0.length]'g=(t,(p:Int)):=by simp
  have s3:q20 s ((p:Nat):Int) ((i+1:Nat):Int)=some (t ++ [s[i]]):=by
   rw [sub_le (by omega) (by omega),<-ht,show i+1 - p=(i - p)+1 from by omega,List.take_add_one,List.getElem?_drop,show p+(i - p)=i from by omega,List.getElem?_eq_getElem hi]
   rfl
  simp only [w2,q37 g,Option.bind_some,Int.toNat_natCast,je5 g,ge,s3,j3c,q42]
theorem qua (n:Nat) (s:Yy) (hs:s.length<=1000000) : ∀(m i:Nat) (op:Bool) (ws:List Wd),i<=s.length->s.length - i<m->ws.length<=i->(op=true->∃ ws0 t p,ws=ws0 ++ [(t,((p:Nat):Int))]/\p<=i/\t=(s.drop p).take (i - p)) ->
  (q4p n m s op ((s.length:Nat):Int) (i:Int) ws=some (Sum.inl (((),((((q3h (s.drop i) i op ws).2:Nat):Int),())),((),((q3h (s.drop i) i op ws).1,()))))\/((q3h (s.drop i) i op ws).2=s.length/\q4p n m s op ((s.length:Nat):Int) (i:Int) ws=some (Sum.inr ((s,((),())),((),((q3h (s.drop i) i op ws).1,()))))))
 | 0,i,op,ws,_,h,_,_=>absurd h (Nat.not_lt_zero _)
 | m+1,i,op,ws,hi,h,hw,ho=>by
  rw [qj4]
  by_cases c0:i<s.length
  ·have ih:=qua n s hs m
   rw [j8s n (fun a1 a2 a3 a4 a5=>q4p n m a1 a2 a3 a4 a5) s op _ i ws c0 rfl hs hw ho]
   have hd:s.drop i=s[i]::s.drop (i+1):=List.drop_eq_getElem_cons c0
   have h1 : [s[i]]=(s.drop i).take (i+1 - i):=(take_one c0).symm
   rw [hd,q3h,<-hd]
   by_cases cS:q2z s[i]=true
   ·simp only [cS,if_true]
    exact ih (i+1) false _ (by omega) (by omega) (by simp;omega) (fun h=>by cases h)
   ·by_cases cB:isB s[i]=true
    ·simp only [cS,cB,if_true,if_false]
     exact ih (i+1) false _ (by omega) (by omega) (by omega) (fun h=>by cases h)
    ·cases op with
     | true =>
      simp only [cS,cB,if_true,if_false]
      obtain ⟨ws0,t,p,rfl,hpi,ht⟩:=ho rfl
      refine ih (i+1) true _ (by omega) (by omega) (by rw [q42];simp at hw ⊢;omega) (fun _=>⟨ws0,t ++ [s[i]],p,q42 _ _ _ _,by omega,?_⟩)
      rw [ht,show i+1 - p=(i - p)+1 from by omega,List.take_add_one,List.getElem?_drop,show p+(i - p)=i from by omega,List.getElem?_eq_getElem c0]
      rfl
     | false =>
      by_cases cP:pfx (s.drop i)=true
      ·simp only [cS,cB,cP,Bool.false_eq_true,if_true,if_false]
       exact Or.inl (by first|rfl|trivial)
      ·simp only [cS,cB,cP,Bool.false_eq_true,if_false]
       exact ih (i+1) true _ (by omega) (by omega) (by simp;omega) (fun _=>⟨ws,[s[i]],i,rfl,by omega,h1⟩)
  ·unfold qij
   have c0' : ¬ ((i:Nat):Int)<((s.length:Nat):Int):=by omega
   have hie:i=s.length:=by omega
   have hd:s.drop i = []:=List.drop_eq_nil_of_le (by omega)
   simp only [c0',decide_false,cond_false,hd,q3h]
   exact Or.inr ⟨hie,by first|rfl|trivial⟩
theorem cut_P (n:Nat) (s:Yy) (hs:s.length<=1000000) (hn:s.length<n):j3w n s=some ((q3h s 0 false []).1,(((q3h s 0 false []).2:Nat):Int)):=by
 have h:=qua n s hs n 0 false [] (Nat.zero_le _) (by omega) (Nat.zero_le _) (fun h=>by cases h)
 rw [List.drop_zero,show ((0:Nat):Int)=(0:Int) from rfl] at h
 unfold j3w
 rcases h with h|⟨h0,h⟩
 ·rw [h];rfl
 ·rw [h,h0];rfl
theorem jck : ∀(s:Yy) (i:Nat) (op:Bool) (ws:List Wd),i<=(q3h s i op ws).2/\(q3h s i op ws).2<=i+s.length
 | [],i,op,ws=>⟨Nat.le_refl _,Nat.le_refl _⟩
 | c::r,i,op,ws=>by
  have k:=fun op ws=>jck r (i+1) op ws
  rw [q3h,List.length_cons]
  split
  ·have:=k false (ws ++ [([c],(i:Int))]);omega
  ·split
   ·have:=k false ws;omega
   ·split
    ·have:=k true (addL ws c);omega
    ·split
     ·simp
     ·have:=k true (ws ++ [([c],(i:Int))]);omega
theorem q1h (c:UInt8) (r:Yy) (i:Nat) (op:Bool) (ws:List Wd):q3h (c::r) i op ws =
  if q2z c then q3h r (i+1) false (ws ++ [([c],(i:Int))])
  else if isB c then q3h r (i+1) false ws
  else if op then q3h r (i+1) true (addL ws c)
  else if pfx (c::r) then (ws,i)
  else q3h r (i+1) true (ws ++ [([c],(i:Int))]):=rfl
def okc (c:UInt8):Bool:=!((decide (((c.toNat:Nat):Int)<32) && !decide (((c.toNat:Nat):Int)=9))||decide ((126:Int)<((c.toNat:Nat):Int)))
theorem qf6 (n:Nat) (s:Yy) (hL:s.length<=1000000) : ∀m j:Nat,j<=s.length->s.length - j<m->q5z n m s ((s.length:Nat):Int) (j:Int)=some (if (s.drop j).all okc then Sum.inr ((),(),()) else Sum.inl ((false,()),(),()))
 | 0,j,_,h=>absurd h (Nat.not_lt_zero _)
 | m+1,j,hj,h=>by
  rw [qdw]
  unfold qjf
  by_cases c0:j<s.length
  ·have c0':((j:Nat):Int)<((s.length:Nat):Int):=by omega
   have ih:=qf6 n s hL m (j+1) (by omega) (by omega)
   have hd:s.drop j=s[j]::s.drop (j+1):=(List.drop_eq_getElem_cons c0)
   simp only [c0',decide_true,cond_true,qcn c0,Option.bind_some,q0h,q1f (show j<4611686018427387904 by omega),ih,hd,List.all_cons,okc]
   generalize decide (((s[j].toNat:Nat):Int)<32)=b1
   generalize decide (((s[j].toNat:Nat):Int)=9)=b2
   generalize decide ((126:Int)<((s[j].toNat:Nat):Int))=b3
   cases b1<;>cases b2<;>cases b3<;>simp<;>rfl
  ·have c0' : ¬ ((j:Nat):Int)<((s.length:Nat):Int):=by omega
   have:s.drop j = []:=List.drop_eq_nil_of_le (by omega)
   simp [c0',this]
theorem jfe (n:Nat) (s:Yy) (hL:s.length<=1000000) (hn:s.length<n):qh4 n s=some (s.all okc):=by
 unfold qh4
 have:=qf6 n s hL n 0 (Nat.zero_le _) (by omega)
 rw [show ((0:Nat):Int)=(0:Int) from rfl] at this
 rw [this,List.drop_zero]
 cases s.all okc<;>rfl
theorem one_P (n:Nat) (s:Yy) (hL:s.length<=1000000) (hn:s.length<n):quk n s=some (if s.all okc then (((q3h s 0 false []).1,s.drop (q3h s 0 false []).2),0) else (([],[]),9)):=by
 unfold quk
 rw [jfe n s hL hn]
 cases h:s.all okc with
 | false=>rfl
 | true =>
  have h2:=(jck s 0 false []).2
  simp only [Option.bind_some,Bool.not_true,cond_false,cut_P n s hL hn,if_true]
  rw [sub_le (by omega) (Nat.le_refl _),Option.bind_some,List.take_of_length_le (by rw [List.length_drop];omega)]
end Go.Proofs.YtapfankgdkdkgaaGreatDoor.AM.Lx
namespace Go.Proofs.YtapfankgdkdkgaaGreatDoor.AM.Lx
open Go.RowKit
def qq2:Yy->Nat->Bool->List Wd->List Wd
 | [],i,_,ws=>ws
 | c::r,i,op,ws =>
  if q2z c then qq2 r (i+1) false (ws ++ [([c],(i:Int))])
  else if isB c then qq2 r (i+1) false ws
  else if op then qq2 r (i+1) true (addL ws c)
  else qq2 r (i+1) true (ws ++ [([c],(i:Int))])
theorem q89 (c:UInt8) (r:Yy) (i:Nat) (op:Bool) (ws:List Wd):qq2 (c::r) i op ws =
  if q2z c then qq2 r (i+1) false (ws ++ [([c],(i:Int))])
  else if isB c then qq2 r (i+1) false ws
  else if op then qq2 r (i+1) true (addL ws c)
  else qq2 r (i+1) true (ws ++ [([c],(i:Int))]):=rfl
def jey:Yy->Bool->Nat
 | [],_=>0
 | c::r,op=>if (!op&&pfx (c::r))=true then 0 else 1+jey r (!(q2z c||isB c))
theorem jcl (c:UInt8) (r:Yy) (op:Bool):jey (c::r) op=if (!op&&pfx (c::r))=true then 0 else 1+jey r (!(q2z c||isB c)):=rfl
theorem jbg (c:UInt8) (r:Yy) (h:q2z c=true\/isB c=true):pfx (c::r)=false:=by
 cases r with
 | nil=>rfl
 | cons b r =>
  have:c≠47:=by
   rintro rfl
   rcases h with h|h<;>revert h<;>decide
  simp [pfx,this]
theorem qgv : ∀(l:Yy) (i:Nat) (op:Bool) (ws:List Wd),q3h l i op ws=(qq2 (l.take (jey l op)) i op ws,i+jey l op)
 | [],i,op,ws=>rfl
 | c::r,i,op,ws=>by
  have ih:=fun op ws=>qgv r (i+1) op ws
  rw [q1h,jcl]
  by_cases c1:q2z c=true
  ·rw [if_pos c1,jbg c r (Or.inl c1),ih]
   simp only [Bool.and_false,Bool.false_eq_true,if_false,c1,Bool.true_or,Bool.not_true]
   rw [Nat.add_comm 1,List.take_succ_cons,q89,if_pos c1,Nat.add_assoc i 1,Nat.add_comm 1]
  rw [if_neg c1]
  by_cases c2:isB c=true
  ·rw [if_pos c2,jbg c r (Or.inr c2),ih]
   simp only [Bool.and_false,Bool.false_eq_true,if_false,c2,Bool.or_true,Bool.not_true]
   rw [Nat.add_comm 1,List.take_succ_cons,q89,if_neg c1,if_pos c2,Nat.add_assoc i 1,Nat.add_comm 1]
  rw [if_neg c2]
  have c1':q2z c=false:=by simpa using c1
  have c2':isB c=false:=by simpa using c2
  by_cases c3:op=true
  ·subst c3
   rw [if_pos rfl,ih]
   simp only [Bool.not_true,Bool.false_and,Bool.false_eq_true,if_false,c1',c2',Bool.or_self,Bool.not_false]
   rw [Nat.add_comm 1,List.take_succ_cons,q89,if_neg c1,if_neg c2,if_pos rfl,Nat.add_assoc i 1,Nat.add_comm 1]
  have c3':op=false:=by simpa using c3
  subst c3'
  rw [if_neg c3]
  by_cases c4:pfx (c::r)=true
  ·rw [if_pos c4,if_pos (by rw [c4];rfl)];rfl
  rw [if_neg c4,if_neg (by simpa using c4),ih]
  simp only [c1',c2',Bool.or_self,Bool.not_false]
  rw [Nat.add_comm 1,List.take_succ_cons,q89,if_neg c1,if_neg c2,if_neg c3,Nat.add_assoc i 1,Nat.add_comm 1]
def prev (s:Yy) (i:Nat):Bool:=if h:0<i/\i<=s.length then !(q2z (s[i - 1]'(by omega))||isB (s[i - 1]'(by omega))) else false
theorem j2h : ∀(l:Yy) (i:Nat) (op:Bool) (ws:List Wd),(qq2 l i op ws).length<=ws.length+l.length
 | [],i,op,ws=>by simp [qq2]
 | c::r,i,op,ws=>by
  have ih:=fun op ws=>j2h r (i+1) op ws
  rw [q89,List.length_cons]
  split
  ·have:=ih false (ws ++ [([c],(i:Int))]);simp at this;omega
  ·split
   ·have:=ih false ws;omega
   ·split
    ·have:=ih true (addL ws c)
     have h2:(addL ws c).length<=ws.length:=by
      unfold addL
      split
      ·rename_i t p h
       have:ws ≠ []:=by rintro rfl;simp at h
       have:=List.length_pos_iff.2 this
       simp;omega
      ·exact Nat.le_refl _
     omega
    ·have:=ih true (ws ++ [([c],(i:Int))]);simp at this;omega
abbrev Ln:=List Wd×Yy
def qy3 (s:Yy):Ln:=((q3h s 0 false []).1,s.drop (q3h s 0 false []).2)
def oneR (s:Yy):Ln×Int:=if s.all okc then (qy3 s,0) else (([],[]),9)
theorem jpu (n:Nat) (s:Yy) (hL:s.length<=1000000) (hn:s.length<n):quk n s=some (oneR s):=by
 rw [one_P n s hL hn];rfl
theorem jgb (s:Yy):(qy3 s).1.length<=s.length/\(qy3 s).2.length<=s.length:=by
 unfold qy3
 rw [qgv]
 have:=j2h (s.take (jey s false)) 0 false []
 rw [List.length_take,List.length_nil] at this
 refine ⟨?_,?_⟩
 ·show (qq2 (s.take (jey s false)) 0 false []).length<=_;omega
 ·rw [List.length_drop];omega
def qa8 (s:Yy):Bool:=s.getLast? == some 10
def q0d (s:Yy):List (Yy):=if s = [] then [] else spl 10 [] (if qa8 s=true then s.dropLast else s)
theorem qty (n:Nat) (s:Yy) (hs:s.length<=1000000):q5l n s [10]=some (if qa8 s=true then s.dropLast else s):=by
 unfold q5l q7f q2x qa8
 rcases List.eq_nil_or_concat s with rfl|⟨m,c,rfl⟩
 ·rfl
 ·rw [List.concat_eq_append]
  have hl:(m ++ [c]).length=m.length+1:=by simp
  rw [List.concat_eq_append] at hs
  have h1:((([10]:Yy).length:Nat):Int)<=(((m ++ [c]).length:Nat):Int):=by rw [hl];simp;omega
  have w1:IntKind.wrap .i64 ((((m ++ [c]).length:Nat):Int) - ((([10]:Yy).length:Nat):Int))=((m.length:Nat):Int):=by
   rw [hl,show (((m.length+1:Nat):Int) - ((([10]:Yy).length:Nat):Int))=((m.length:Nat):Int) from by simp];exact qr6 (by omega)
  have s1:q20 (m ++ [c]) ((m.length:Nat):Int) (((m ++ [c]).length:Nat):Int)=some [c]:=by rw [sub_le (by rw [hl];omega) (Nat.le_refl _),hl];simp
  have s2:q20 (m ++ [c]) (0:Int) ((m.length:Nat):Int)=some m:=by rw [sub_zero (by rw [hl];omega)];simp
  simp only [h1,decide_true,cond_true,q0h,w1,s1,s2,Option.bind_some]
  by_cases hc:c=10
  ·subst hc;simp
  ·simp [hc]
theorem j4j (n:Nat) (s:Yy) (hs:s.length<=1000000):q9y n s=some (q0d s):=by
 unfold q9y q0d
 by_cases h:s = []
 ·simp [h]
 ·have h2:(if qa8 s=true then s.dropLast else s).length<=s.length:=by split<;>simp
  rw [qty n s hs]
  simp only [h,decide_false,cond_false,Option.bind_some,q7h,if_false]
  rw [if_pos (by omega),Option.bind_some]
theorem qhu (s:Yy):(q0d s).length<=s.length+1/\∀x∈q0d s,x.length<=s.length:=by
 unfold q0d
 split
 ·exact ⟨by simp,fun x h=>by cases h⟩
 ·have h2:(if qa8 s=true then s.dropLast else s).length<=s.length:=by split<;>simp
  refine ⟨by have:=(qem 10 (if qa8 s=true then s.dropLast else s) []).2;omega,fun x hx=>?_⟩
  have:=qk3 10 _ _ x hx
  simp at this
  omega
end Go.Proofs.YtapfankgdkdkgaaGreatDoor.AM.Lx
namespace Go.Proofs.YtapfankgdkdkgaaGreatDoor.AM.Lx
open Go.RowKit
def q47:List (Yy)->Nat->List Ln->List Ln×Int×Int
 | [],i,out=>(out,(i:Int),0)
 | x::xs,i,out=>if x.all okc=true then q47 xs (i+1) (out ++ [qy3 x]) else ([],(i:Int),9)
theorem qi5 (n:Nat) (ls:List (Yy)) (hl:ls.length<=1000000) (hx : ∀x∈ls,x.length<=1000000/\x.length<n) : ∀(m j:Nat) (out:List Ln),j<=ls.length->ls.length - j<m->out.length=j ->
  (q5w n m ls ((ls.length:Nat):Int) (j:Int) out).bind (fun o6=>Sum.elim (fun q7=>some (([]:List Ln),(q7.1.2.1,q7.1.2.2.1))) (fun q8=>some (q8.2.2.1,(((List.length q8.2.2.1:Nat):Int),(0:Int)))) o6)=some (q47 (ls.drop j) j out)
 | 0,j,_,_,h,_=>absurd h (Nat.not_lt_zero _)
 | m+1,j,out,hj,h,ho=>by
  rw [qee]
  unfold qiu
  by_cases c0:j<ls.length
  ·have c0':((j:Nat):Int)<((ls.length:Nat):Int):=by omega
   obtain ⟨x1,x2⟩:=hx ls[j] (List.getElem_mem c0)
   rw [List.drop_eq_getElem_cons c0,q47]
   simp only [c0',decide_true,cond_true,q37 c0,Option.bind_some,jpu n ls[j] x1 x2,oneR]
   by_cases hk:ls[j].all okc=true
   ·have a1:q7g 40 out [qy3 ls[j]]=some (out ++ [qy3 ls[j]]):=qao (by simp;omega)
    simp only [hk,if_true,decide_true,Bool.not_true,cond_false,a1,Option.bind_some,q0h,q1f (show j<4611686018427387904 by omega)]
    exact qi5 n ls hl hx m (j+1) _ (by omega) (by omega) (by simp;omega)
   ·rw [if_neg hk,if_neg hk]
    rfl
  ·have c0' : ¬ ((j:Nat):Int)<((ls.length:Nat):Int):=by omega
   simp only [c0',decide_false,cond_false,Option.bind_some,Sum.elim_inr]
   rw [List.drop_eq_nil_of_le (by omega),q47,ho]
theorem jfk (n:Nat) (s:Yy) (hs:s.length<=100000) (hn:s.length+1<n):qd9 n s=some (q47 (q0d s) 0 []):=by
 unfold qd9
 obtain ⟨h1,h2⟩:=qhu s
 rw [j4j n s (by omega),Option.bind_some]
 exact qi5 n (q0d s) (by omega) (fun x hx=>by have:=h2 x hx;omega) n 0 [] (Nat.zero_le _) (by omega) rfl
end Go.Proofs.YtapfankgdkdkgaaGreatDoor.AM.Lx
namespace Go.Proofs.YtapfankgdkdkgaaGreatDoor.AM
open Go.RowKit
def qcf (c:UInt8):Bool:=qs7 c||decide (c.toNat=95)||decide (c.toNat=46)
def qe3 (s:Yy):Bool:=!decide (s = [])&&(!decide (s = [46])&&(!decide (s = [46,46])&&s.all qcf))
def q5b (s:Yy):Bool:=decide (s.length<=60)&&(spl 47 [] s).all qe3
def q3z (w:Yy):Bool:=decide (w.head? = some 118)&&qc5 (w.drop 1)
def anyS (s:Yy):Bool:=(spl 47 [] s).any q3z
def qlu (c:UInt8):Yy->Int
 | []=>-1
 | b::r=>if b=c then (r.length:Int) else qlu c r
def qad (c:UInt8) (s:Yy):Int:=qlu c s.reverse
theorem j58 (c:UInt8) : ∀l,-1<=qlu c l/\qlu c l<(l.length:Int)
 | []=>by simp [qlu]
 | b::r=>by
  have:=j58 c r
  rw [qlu];split
  ·simp;omega
  ·simp;omega
theorem j1r (c:UInt8) (s:Yy) : -1<=qad c s/\qad c s<(s.length:Int):=by
 have:=j58 c s.reverse;unfold qad;simpa using this
def q84 (s:Yy):Yy:=s.take (qad 47 s).toNat
def q90 (s:Yy):Yy:=s.drop (qad 47 s+1).toNat
abbrev j6y:Yy:=[48,49,50,51,52,53,54,55,56,57]
theorem jh8 (c:UInt8):j6y.contains c=q29 c:=by
 have h : ∀k:Fin 256,j6y.contains (UInt8.ofNat k.val)=q29 (UInt8.ofNat k.val):=by decide +kernel
 have h1:=h ⟨c.toNat,c.toNat_lt⟩
 simpa using h1
theorem dropWhile_nil (p:UInt8->Bool) : ∀l:Yy,l.dropWhile p = []↔l.all p=true
 | []=>by simp
 | b::l=>by
  rw [List.dropWhile_cons]
  cases h:p b with
  | true=>simp [h,dropWhile_nil p l]
  | false=>simp [h]
theorem qbw {p:UInt8->Bool} {c:UInt8} : ∀{l:Yy},c∈l->p c=false->c∈l.dropWhile p
 | b::l,h,hp=>by
  rw [List.dropWhile_cons]
  rcases List.mem_cons.1 h with rfl|h
  ·simp [hp]
  ·cases hb:p b with
   | true=>simpa using qbw h hp
   | false=>simp [h]
theorem jhk (s:Yy):decide (Lib.trimS s j6y = [])=s.all q29:=by
 have he:(fun c=>j6y.contains c)=q29:=funext jh8
 unfold Lib.trimS Lib.trimRightS Lib.trimLeftS
 rw [he]
 cases h:s.all q29 with
 | true =>
  have h2:s.reverse.all q29=true:=by rw [List.all_reverse];exact h
  rw [(dropWhile_nil q29 s.reverse).2 h2];simp
 | false =>
  rw [decide_eq_false_iff_not,dropWhile_nil]
  intro hc
  have h3 : ∃ c,c∈s/\q29 c=false:=by
   have:=List.all_eq_false.1 h
   obtain ⟨c,hc,hn⟩:=this
   exact ⟨c,hc,by simpa using hn⟩
  obtain ⟨c,hm,hn⟩:=h3
  have h4:c∈(s.reverse.dropWhile q29).reverse:=by simpa using qbw (l:=s.reverse) (by simpa using hm) hn
  have:=List.all_eq_true.1 hc c h4
  rw [hn] at this;cases this
def numOf (s:Yy):Int:=match Lib.atoiAll s with
 | .ok v=>v
 | .range=>Lib.atoiSat s
 | _=>0
def j1y (s:Yy):Bool:=match Lib.atoiAll s with
 | .ok v=>decide (2<=v)&&(decide (v<=999999999)&&decide (s=Lib.itoa v))
 | _=>false
def okS (p:Yy):Bool:=q5b p&&(!anyS (q84 p)&&(!q3z (q90 p)||(j1y ((q90 p).drop 1) && !decide (q84 p = []))))
def qhk (p:Yy):Yy×(Int×Bool):=if okS p then (if q3z (q90 p) then (q84 p,(numOf ((q90 p).drop 1),true)) else (p,(0,true))) else ([],(0,false))
theorem qp7 {s:Yy} (h:q5b s=true):s.length<=60/\(spl 47 [] s).all qe3=true:=by
 unfold q5b at h;simpa using h
theorem jm8 {s:Yy} (h:q5b s=true):s ≠ []:=by
 rintro rfl;exact absurd h (by decide)
theorem ja1 {p:Yy} (h:okS p=true):q5b p=true/\anyS (q84 p)=false/\(q3z (q90 p)=true->j1y ((q90 p).drop 1)=true/\q84 p ≠ []):=by
 unfold okS at h
 simp only [Bool.and_eq_true,Bool.or_eq_true,Bool.not_eq_true',decide_eq_false_iff_not] at h
 refine ⟨h.1,h.2.1,fun ht=>?_⟩
 rcases h.2.2 with h3|h3
 ·rw [ht] at h3;cases h3
 ·exact h3
end Go.Proofs.YtapfankgdkdkgaaGreatDoor.AM
namespace Go.Proofs
open Go.RowKit Go.Shelf Go.Lib
shelf_lay Lays.n160 Nm 160 at Tryz as Tryz.laysTrim
namespace YtapfankgdkdkgaaGreatDoor.AM
def qkw (s cs:List UInt8):Option (List UInt8):=if cs=j6y/\s.length<=1000000 then some (Lib.trimS s j6y) else none
def j3i:FC:={ f:=166,args:=[qp8,qp8],res:=qp8,F:=fun p=>qkw p.1 p.2 }
theorem jhn:q0g Inv Tryz.prog j3i:=fun G hG=>⟨⟨by kernel_rfl,fun a r h=>by
 obtain ⟨s,cs⟩:=a
 have h':qkw s cs=some r:=h
 unfold qkw at h'
 split at h'
 case isFalse=>cases h'
 rename_i hc
 obtain ⟨rfl,hl⟩:=hc
 have hr:Lib.trimS s j6y=r:=Option.some.inj h'
 intro Pc w vs hg hlt hv
 obtain ⟨l⟩:=vs
 match l,hv with
 | [x,y],⟨h1,h2,_⟩ =>
  obtain rfl:x = .string (ba s):=q09 h1
  obtain rfl:y = .string (ba j6y):=q09 h2
  have e1:(ba s).data.toList=s:=by simp [ba]
  have e2:(ba j6y).data.toList=j6y:=by simp [ba]
  have hh:=Any.strings_Trim_laid Tryz.laysTrim (by kernel_rfl) (ba s) (ba j6y) w (by rw [q2k];omega) (by rw [q2k];decide) (by rw [e2];exact ascii_of_all (by decide))
  rw [e1,e2,hr] at hh
  refine hh.mono ?_
  rintro e w' ⟨rfl,hb⟩
  exact q3p rfl hb (q06 (.string (ba r)))⟩,rfl⟩
end YtapfankgdkdkgaaGreatDoor.AM
end Go.Proofs
