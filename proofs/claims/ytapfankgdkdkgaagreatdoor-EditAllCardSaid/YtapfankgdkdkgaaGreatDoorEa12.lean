
import Derived.Test.YtapfankgdkdkgaaGreatDoorEa11
import Derived.Test.YtapfankgdkdkgaaGreatDoorEa10
import Derived.Test.YtapfankgdkdkgaaGreatDoorEa8
import Derived.Test.YtapfankgdkdkgaaGreatDoorEa9
import Derived.Lib.SlTrimSet
import Derived.Shelf.Strings.SlTrimAscii
set_option linter.unusedVariables false
set_option linter.unusedSimpArgs false
set_option maxRecDepth 20000
namespace Go.Proofs.YtapfankgdkdkgaaGreatDoor.AM.Lx
open Go.RowKit
def q29 (c:UInt8):Bool:=decide (((c.toNat:Nat):Int)=40)||(decide (((c.toNat:Nat):Int)=41)||(decide (((c.toNat:Nat):Int)=91)||(decide (((c.toNat:Nat):Int)=93)||decide (((c.toNat:Nat):Int)=44))))
def pfx:Yy->Bool
 | a::b::_=>decide (a=47)&&decide (b=47)
 | _=>false
def addL (ws:List Wd) (c:UInt8):List Wd:=match ws.getLast? with
 | some (t,p)=>ws.dropLast ++ [(t ++ [c],p)]
 | none=>ws
def q2g:Yy->Nat->Bool->List Wd->List Wd×Nat
 | [],i,_,ws=>(ws,i)
 | c::r,i,op,ws =>
  if q29 c then q2g r (i+1) false (ws ++ [([c],(i:Int))])
  else if isB c then q2g r (i+1) false ws
  else if op then q2g r (i+1) true (addL ws c)
  else if pfx (c::r) then (ws,i)
  else q2g r (i+1) true (ws ++ [([c],(i:Int))])
theorem pfx_t (n:Nat) (s:Yy) (hs:s.length<=1000000):q0j n s [47,47]=some (pfx s):=by
 unfold q0j q0s
 match s with
 | []=>rfl
 | [a]=>simp [pfx]
 | a::b::r =>
  have h:((List.length ([47,47]:Yy):Nat):Int)<=((List.length (a::b::r):Nat):Int):=by simp;omega
  simp only [h,decide_true,cond_true]
  rw [sub_zero (by simp)]
  simp [pfx]
theorem q2q (ws:List Wd) (t:Yy) (p:Int) (c:UInt8):addL (ws ++ [(t,p)]) c=ws ++ [(t ++ [c],p)]:=by
 unfold addL;simp
theorem j0e (n:Nat) (rec:Yy->Bool->Int->Int->List Wd->Option (((Unit×(Int×Unit))×Unit×((List Wd)×Unit))⊕((Yy×(Unit×Unit))×Unit×((List Wd)×Unit)))) (s:Yy) (op:Bool) (L:Int) (i:Nat) (ws:List Wd)
  (hi:i<s.length) (hL:L=((s.length:Nat):Int)) (hs:s.length<=1000000) (hw:ws.length<=i) (ho:op=true->∃ ws0 t p,ws=ws0 ++ [(t,((p:Nat):Int))]/\p<=i/\t=(s.drop p).take (i - p)) :
  qcn n rec s op L (i:Int) ws=if q29 s[i] then rec s false L ((i+1:Nat):Int) (ws ++ [([s[i]],(i:Int))])
   else if isB s[i] then rec s false L ((i+1:Nat):Int) ws
   else if op then rec s true L ((i+1:Nat):Int) (addL ws s[i])
   else if pfx (s.drop i) then some (Sum.inl (((),((i:Int),())),((),(ws,()))))
   else rec s true L ((i+1:Nat):Int) (ws ++ [([s[i]],(i:Int))]):=by
 subst hL
 have c0:((i:Nat):Int)<((s.length:Nat):Int):=by omega
 have w1:=q0q (show i<4611686018427387904 by omega)
 have a1:q5b 24 ws [([s[i]],(i:Int))]=some (ws ++ [([s[i]],(i:Int))]):=q78 (by simp;omega)
 have a2:q5b 24 ws [(([]:Yy),(i:Int))]=some (ws ++ [([],(i:Int))]):=q78 (by simp;omega)
 have s1:q1c s ((i:Nat):Int) ((i+1:Nat):Int)=some [s[i]]:=by rw [sub_le (by omega) (by omega),take_one hi]
 have s2:q1c s ((i:Nat):Int) ((s.length:Nat):Int)=some (s.drop i):=by
  rw [sub_le (by omega) (Nat.le_refl _),List.take_of_length_le (by rw [List.length_drop];omega)]
 have hp:=pfx_t n (s.drop i) (by rw [List.length_drop];omega)
 unfold qcn
 simp only [c0,decide_true,cond_true,q89 hi,Option.bind_some,q0b,w1,s1,s2,a1,a2,hp]
 have eqc : ∀k:Int,decide (((s[i].toNat:Nat):Int)=k)=true\/decide (((s[i].toNat:Nat):Int)=k)=false:=fun k=>by cases decide (((s[i].toNat:Nat):Int)=k)<;>simp
 rcases eqc 40 with h40|h40
 ·simp only [q29,h40,cond_true,Bool.true_or,Bool.or_true,Bool.false_or,if_true]
 rcases eqc 41 with h41|h41
 ·simp only [q29,h40,h41,cond_true,cond_false,Bool.true_or,Bool.or_true,Bool.false_or,if_true]
 rcases eqc 91 with h91|h91
 ·simp only [q29,h40,h41,h91,cond_true,cond_false,Bool.true_or,Bool.or_true,Bool.false_or,if_true]
 rcases eqc 93 with h93|h93
 ·simp only [q29,h40,h41,h91,h93,cond_true,cond_false,Bool.true_or,Bool.or_true,Bool.false_or,if_true]
 rcases eqc 44 with h44|h44
 ·simp only [q29,h40,h41,h91,h93,h44,cond_true,cond_false,Bool.true_or,Bool.or_true,Bool.false_or,if_true]
 have hS:q29 s[i]=false:=by simp only [q29,h40,h41,h91,h93,h44,Bool.or_false]
 rcases eqc 32 with h32|h32
 ·have hB:isB s[i]=true:=by simp only [isB,h32,Bool.true_or]
  simp only [hS,hB,h40,h41,h91,h93,h44,h32,cond_true,cond_false,if_true,Bool.false_eq_true,if_false]
 rcases eqc 9 with h9|h9
 ·have hB:isB s[i]=true:=by simp only [isB,h9,Bool.or_true]
  simp only [hS,hB,h40,h41,h91,h93,h44,h32,h9,cond_true,cond_false,if_true,Bool.false_eq_true,if_false]
 have hB:isB s[i]=false:=by simp only [isB,h32,h9,Bool.or_false]
 simp only [hS,hB,h40,h41,h91,h93,h44,h32,h9,cond_true,cond_false,Bool.false_eq_true,if_false]
 cases op with
 | false =>
  simp only [Bool.not_false,cond_true,Bool.false_eq_true,if_false]
  cases hb:pfx (s.drop i) with
  | true=>simp only [cond_true,if_true]
  | false =>
   have hl:(ws ++ [(([]:Yy),(i:Int))]).length=ws.length+1:=by simp
   have w2:IntKind.wrap .i64 ((((ws ++ [(([]:Yy),(i:Int))]).length:Nat):Int) - 1)=((ws.length:Nat):Int):=by
    rw [hl,show (((ws.length+1:Nat):Int) - 1)=((ws.length:Nat):Int) from by omega];exact qjt (by omega)
   have g:ws.length<(ws ++ [(([]:Yy),(i:Int))]).length:=by omega
   have ge:(ws ++ [(([]:Yy),(i:Int))])[ws.length]'g=([],(i:Int)):=by simp
   simp only [cond_false,Bool.false_eq_true,if_false,w2,q26 g,Option.bind_some,Int.toNat_natCast,qwh g,ge,s1,qrv]
 | true =>
  obtain ⟨ws0,t,p,rfl,hpi,rfl⟩:=ho rfl
  simp only [Bool.not_true,cond_false,if_true]
  generalize ht:(s.drop p).take (i - p)=t
  have hl:(ws0 ++ [(t,(p:Int))]).length=ws0.length+1:=by simp
  have w2:IntKind.wrap .i64 ((((ws0 ++ [(t,(p:Int))]).length:Nat):Int) - 1)=((ws0.length:Nat):Int):=by
   rw [hl,show (((ws0.length+1:Nat):Int) - 1)=((ws0.length:Nat):Int) from by omega];exact qjt (by simp at hw;omega)
  have g:ws0.length<(ws0 ++ [(t,(p:Int))]).length:=by omega
  have ge:(ws0 ++ [(t,(p:Int))])[ws0.length]'g=(t,(p:Int)):=by simp
  have s3:q1c s ((p:Nat):Int) ((i+1:Nat):Int)=some (t ++ [s[i]]):=by
   rw [sub_le (by omega) (by omega),<-ht,show i+1 - p=(i - p)+1 from by omega,List.take_add_one,List.getElem?_drop,show p+(i - p)=i from by omega,List.getElem?_eq_getElem hi]
   rfl
  simp only [w2,q26 g,Option.bind_some,Int.toNat_natCast,qwh g,ge,s3,qrv,q2q]
theorem qm8 (n:Nat) (s:Yy) (hs:s.length<=1000000) : ∀(m i:Nat) (op:Bool) (ws:List Wd),i<=s.length->s.length - i<m->ws.length<=i->(op=true->∃ ws0 t p,ws=ws0 ++ [(t,((p:Nat):Int))]/\p<=i/\t=(s.drop p).take (i - p)) ->
  (q3b n m s op ((s.length:Nat):Int) (i:Int) ws=some (Sum.inl (((),((((q2g (s.drop i) i op ws).2:Nat):Int),())),((),((q2g (s.drop i) i op ws).1,()))))\/((q2g (s.drop i) i op ws).2=s.length/\q3b n m s op ((s.length:Nat):Int) (i:Int) ws=some (Sum.inr ((s,((),())),((),((q2g (s.drop i) i op ws).1,()))))))
 | 0,i,op,ws,_,h,_,_=>absurd h (Nat.not_lt_zero _)
 | m+1,i,op,ws,hi,h,hw,ho=>by
  rw [qcg]
  by_cases c0:i<s.length
  ·have ih:=qm8 n s hs m
   rw [j0e n (fun a1 a2 a3 a4 a5=>q3b n m a1 a2 a3 a4 a5) s op _ i ws c0 rfl hs hw ho]
   have hd:s.drop i=s[i]::s.drop (i+1):=List.drop_eq_getElem_cons c0
   have h1 : [s[i]]=(s.drop i).take (i+1 - i):=(take_one c0).symm
   rw [hd,q2g,<-hd]
   by_cases cS:q29 s[i]=true
   ·simp only [cS,if_true]
    exact ih (i+1) false _ (by omega) (by omega) (by simp;omega) (fun h=>by cases h)
   ·by_cases cB:isB s[i]=true
    ·simp only [cS,cB,if_true,if_false]
     exact ih (i+1) false _ (by omega) (by omega) (by omega) (fun h=>by cases h)
    ·cases op with
     | true =>
      simp only [cS,cB,if_true,if_false]
      obtain ⟨ws0,t,p,rfl,hpi,ht⟩:=ho rfl
      refine ih (i+1) true _ (by omega) (by omega) (by rw [q2q];simp at hw ⊢;omega) (fun _=>⟨ws0,t ++ [s[i]],p,q2q _ _ _ _,by omega,?_⟩)
      rw [ht,show i+1 - p=(i - p)+1 from by omega,List.take_add_one,List.getElem?_drop,show p+(i - p)=i from by omega,List.getElem?_eq_getElem c0]
      rfl
     | false =>
      by_cases cP:pfx (s.drop i)=true
      ·simp only [cS,cB,cP,Bool.false_eq_true,if_true,if_false]
       exact Or.inl (by first|rfl|trivial)
      ·simp only [cS,cB,cP,Bool.false_eq_true,if_false]
       exact ih (i+1) true _ (by omega) (by omega) (by simp;omega) (fun _=>⟨ws,[s[i]],i,rfl,by omega,h1⟩)
  ·unfold qcn
   have c0' : ¬ ((i:Nat):Int)<((s.length:Nat):Int):=by omega
   have hie:i=s.length:=by omega
   have hd:s.drop i = []:=List.drop_eq_nil_of_le (by omega)
   simp only [c0',decide_false,cond_false,hd,q2g]
   exact Or.inr ⟨hie,by first|rfl|trivial⟩
theorem cut_P (n:Nat) (s:Yy) (hs:s.length<=1000000) (hn:s.length<n):qr5 n s=some ((q2g s 0 false []).1,(((q2g s 0 false []).2:Nat):Int)):=by
 have h:=qm8 n s hs n 0 false [] (Nat.zero_le _) (by omega) (Nat.zero_le _) (fun h=>by cases h)
 rw [List.drop_zero,show ((0:Nat):Int)=(0:Int) from rfl] at h
 unfold qr5
 rcases h with h|⟨h0,h⟩
 ·rw [h];rfl
 ·rw [h,h0];rfl
theorem j0h : ∀(s:Yy) (i:Nat) (op:Bool) (ws:List Wd),i<=(q2g s i op ws).2/\(q2g s i op ws).2<=i+s.length
 | [],i,op,ws=>⟨Nat.le_refl _,Nat.le_refl _⟩
 | c::r,i,op,ws=>by
  have k:=fun op ws=>j0h r (i+1) op ws
  rw [q2g,List.length_cons]
  split
  ·have:=k false (ws ++ [([c],(i:Int))]);omega
  ·split
   ·have:=k false ws;omega
   ·split
    ·have:=k true (addL ws c);omega
    ·split
     ·simp
     ·have:=k true (ws ++ [([c],(i:Int))]);omega
theorem q0x (c:UInt8) (r:Yy) (i:Nat) (op:Bool) (ws:List Wd):q2g (c::r) i op ws =
  if q29 c then q2g r (i+1) false (ws ++ [([c],(i:Int))])
  else if isB c then q2g r (i+1) false ws
  else if op then q2g r (i+1) true (addL ws c)
  else if pfx (c::r) then (ws,i)
  else q2g r (i+1) true (ws ++ [([c],(i:Int))]):=rfl
def okc (c:UInt8):Bool:=!((decide (((c.toNat:Nat):Int)<32) && !decide (((c.toNat:Nat):Int)=9))||decide ((126:Int)<((c.toNat:Nat):Int)))
theorem qal (n:Nat) (s:Yy) (hL:s.length<=1000000) : ∀m j:Nat,j<=s.length->s.length - j<m->q47 n m s ((s.length:Nat):Int) (j:Int)=some (if (s.drop j).all okc then Sum.inr ((),(),()) else Sum.inl ((false,()),(),()))
 | 0,j,_,h=>absurd h (Nat.not_lt_zero _)
 | m+1,j,hj,h=>by
  rw [q9h]
  unfold qfe
  by_cases c0:j<s.length
  ·have c0':((j:Nat):Int)<((s.length:Nat):Int):=by omega
   have ih:=qal n s hL m (j+1) (by omega) (by omega)
   have hd:s.drop j=s[j]::s.drop (j+1):=(List.drop_eq_getElem_cons c0)
   simp only [c0',decide_true,cond_true,q89 c0,Option.bind_some,q0b,q0q (show j<4611686018427387904 by omega),ih,hd,List.all_cons,okc]
   generalize decide (((s[j].toNat:Nat):Int)<32)=b1
   generalize decide (((s[j].toNat:Nat):Int)=9)=b2
   generalize decide ((126:Int)<((s[j].toNat:Nat):Int))=b3
   cases b1<;>cases b2<;>cases b3<;>simp<;>rfl
  ·have c0' : ¬ ((j:Nat):Int)<((s.length:Nat):Int):=by omega
   have:s.drop j = []:=List.drop_eq_nil_of_le (by omega)
   simp [c0',this]
theorem j1b (n:Nat) (s:Yy) (hL:s.length<=1000000) (hn:s.length<n):qby n s=some (s.all okc):=by
 unfold qby
 have:=qal n s hL n 0 (Nat.zero_le _) (by omega)
 rw [show ((0:Nat):Int)=(0:Int) from rfl] at this
 rw [this,List.drop_zero]
 cases s.all okc<;>rfl
theorem one_P (n:Nat) (s:Yy) (hL:s.length<=1000000) (hn:s.length<n):qka n s=some (if s.all okc then (((q2g s 0 false []).1,s.drop (q2g s 0 false []).2),0) else (([],[]),9)):=by
 unfold qka
 rw [j1b n s hL hn]
 cases h:s.all okc with
 | false=>rfl
 | true =>
  have h2:=(j0h s 0 false []).2
  simp only [Option.bind_some,Bool.not_true,cond_false,cut_P n s hL hn,if_true]
  rw [sub_le (by omega) (Nat.le_refl _),Option.bind_some,List.take_of_length_le (by rw [List.length_drop];omega)]
def qhy:Yy->Nat->Bool->List Wd->List Wd
 | [],i,_,ws=>ws
 | c::r,i,op,ws =>
  if q29 c then qhy r (i+1) false (ws ++ [([c],(i:Int))])
  else if isB c then qhy r (i+1) false ws
  else if op then qhy r (i+1) true (addL ws c)
  else qhy r (i+1) true (ws ++ [([c],(i:Int))])
theorem q61 (c:UInt8) (r:Yy) (i:Nat) (op:Bool) (ws:List Wd):qhy (c::r) i op ws =
  if q29 c then qhy r (i+1) false (ws ++ [([c],(i:Int))])
  else if isB c then qhy r (i+1) false ws
  else if op then qhy r (i+1) true (addL ws c)
  else qhy r (i+1) true (ws ++ [([c],(i:Int))]):=rfl
def j11:Yy->Bool->Nat
 | [],_=>0
 | c::r,op=>if (!op&&pfx (c::r))=true then 0 else 1+j11 r (!(q29 c||isB c))
theorem qz9 (c:UInt8) (r:Yy) (op:Bool):j11 (c::r) op=if (!op&&pfx (c::r))=true then 0 else 1+j11 r (!(q29 c||isB c)):=rfl
theorem qvn (c:UInt8) (r:Yy) (h:q29 c=true\/isB c=true):pfx (c::r)=false:=by
 cases r with
 | nil=>rfl
 | cons b r =>
  have:c≠47:=by
   rintro rfl
   rcases h with h|h<;>revert h<;>decide
  simp [pfx,this]
theorem qbq : ∀(l:Yy) (i:Nat) (op:Bool) (ws:List Wd),q2g l i op ws=(qhy (l.take (j11 l op)) i op ws,i+j11 l op)
 | [],i,op,ws=>rfl
 | c::r,i,op,ws=>by
  have ih:=fun op ws=>qbq r (i+1) op ws
  rw [q0x,qz9]
  by_cases c1:q29 c=true
  ·rw [if_pos c1,qvn c r (Or.inl c1),ih]
   simp only [Bool.and_false,Bool.false_eq_true,if_false,c1,Bool.true_or,Bool.not_true]
   rw [Nat.add_comm 1,List.take_succ_cons,q61,if_pos c1,Nat.add_assoc i 1,Nat.add_comm 1]
  rw [if_neg c1]
  by_cases c2:isB c=true
  ·rw [if_pos c2,qvn c r (Or.inr c2),ih]
   simp only [Bool.and_false,Bool.false_eq_true,if_false,c2,Bool.or_true,Bool.not_true]
   rw [Nat.add_comm 1,List.take_succ_cons,q61,if_neg c1,if_pos c2,Nat.add_assoc i 1,Nat.add_comm 1]
  rw [if_neg c2]
  have c1':q29 c=false:=by simpa using c1
  have c2':isB c=false:=by simpa using c2
  by_cases c3:op=true
  ·subst c3
   rw [if_pos rfl,ih]
   simp only [Bool.not_true,Bool.false_and,Bool.false_eq_true,if_false,c1',c2',Bool.or_self,Bool.not_false]
   rw [Nat.add_comm 1,List.take_succ_cons,q61,if_neg c1,if_neg c2,if_pos rfl,Nat.add_assoc i 1,Nat.add_comm 1]
  have c3':op=false:=by simpa using c3
  subst c3'
  rw [if_neg c3]
  by_cases c4:pfx (c::r)=true
  ·rw [if_pos c4,if_pos (by rw [c4];rfl)];rfl
  rw [if_neg c4,if_neg (by simpa using c4),ih]
  simp only [c1',c2',Bool.or_self,Bool.not_false]
  rw [Nat.add_comm 1,List.take_succ_cons,q61,if_neg c1,if_neg c2,if_neg c3,Nat.add_assoc i 1,Nat.add_comm 1]
def prev (s:Yy) (i:Nat):Bool:=if h:0<i/\i<=s.length then !(q29 (s[i - 1]'(by omega))||isB (s[i - 1]'(by omega))) else false
theorem qsx : ∀(l:Yy) (i:Nat) (op:Bool) (ws:List Wd),(qhy l i op ws).length<=ws.length+l.length
 | [],i,op,ws=>by simp [qhy]
 | c::r,i,op,ws=>by
  have ih:=fun op ws=>qsx r (i+1) op ws
  rw [q61,List.length_cons]
  split
  ·have:=ih false (ws ++ [([c],(i:Int))]);simp at this;omega
  ·split
   ·have:=ih false ws;omega
   ·split
    ·have:=ih true (addL ws c)
     have h2:(addL ws c).length<=ws.length:=by
      unfold addL
      split
      ·rename_i t p h
       have:ws ≠ []:=by rintro rfl;simp at h
       have:=List.length_pos_iff.2 this
       simp;omega
      ·exact Nat.le_refl _
     omega
    ·have:=ih true (ws ++ [([c],(i:Int))]);simp at this;omega
abbrev Ln:=List Wd×Yy
def qno (s:Yy):Ln:=((q2g s 0 false []).1,s.drop (q2g s 0 false []).2)
def oneR (s:Yy):Ln×Int:=if s.all okc then (qno s,0) else (([],[]),9)
theorem jc3 (n:Nat) (s:Yy) (hL:s.length<=1000000) (hn:s.length<n):qka n s=some (oneR s):=by
 rw [one_P n s hL hn];rfl
theorem j1j (s:Yy):(qno s).1.length<=s.length/\(qno s).2.length<=s.length:=by
 unfold qno
 rw [qbq]
 have:=qsx (s.take (j11 s false)) 0 false []
 rw [List.length_take,List.length_nil] at this
 refine ⟨?_,?_⟩
 ·show (qhy (s.take (j11 s false)) 0 false []).length<=_;omega
 ·rw [List.length_drop];omega
def q72 (s:Yy):Bool:=s.getLast? == some 10
def q07 (s:Yy):List Yy:=if s = [] then [] else spl 10 [] (if q72 s=true then s.dropLast else s)
theorem qmr (n:Nat) (s:Yy) (hs:s.length<=1000000):q48 n s [10]=some (if q72 s=true then s.dropLast else s):=by
 unfold q48 q4y q25 q72
 rcases List.eq_nil_or_concat s with rfl|⟨m,c,rfl⟩
 ·rfl
 ·rw [List.concat_eq_append]
  have hl:(m ++ [c]).length=m.length+1:=by simp
  rw [List.concat_eq_append] at hs
  have h1:((([10]:Yy).length:Nat):Int)<=(((m ++ [c]).length:Nat):Int):=by rw [hl];simp;omega
  have w1:IntKind.wrap .i64 ((((m ++ [c]).length:Nat):Int) - ((([10]:Yy).length:Nat):Int))=((m.length:Nat):Int):=by
   rw [hl,show (((m.length+1:Nat):Int) - ((([10]:Yy).length:Nat):Int))=((m.length:Nat):Int) from by simp];exact qjt (by omega)
  have s1:q1c (m ++ [c]) ((m.length:Nat):Int) (((m ++ [c]).length:Nat):Int)=some [c]:=by rw [sub_le (by rw [hl];omega) (Nat.le_refl _),hl];simp
  have s2:q1c (m ++ [c]) (0:Int) ((m.length:Nat):Int)=some m:=by rw [sub_zero (by rw [hl];omega)];simp
  simp only [h1,decide_true,cond_true,q0b,w1,s1,s2,Option.bind_some]
  by_cases hc:c=10
  ·subst hc;simp
  ·simp [hc]
theorem qqa (n:Nat) (s:Yy) (hs:s.length<=1000000):q6v n s=some (q07 s):=by
 unfold q6v q07
 by_cases h:s = []
 ·simp [h]
 ·have h2:(if q72 s=true then s.dropLast else s).length<=s.length:=by split<;>simp
  rw [qmr n s hs]
  simp only [h,decide_false,cond_false,Option.bind_some,q54,if_false]
  rw [if_pos (by omega),Option.bind_some]
theorem qfi (s:Yy):(q07 s).length<=s.length+1/\∀x∈q07 s,x.length<=s.length:=by
 unfold q07
 split
 ·exact ⟨by simp,fun x h=>by cases h⟩
 ·have h2:(if q72 s=true then s.dropLast else s).length<=s.length:=by split<;>simp
  refine ⟨by have:=(qa6 10 (if q72 s=true then s.dropLast else s) []).2;omega,fun x hx=>?_⟩
  have:=qf3 10 _ _ x hx
  simp at this
  omega
def q2x:List Yy->Nat->List Ln->List Ln×Int×Int
 | [],i,out=>(out,(i:Int),0)
 | x::xs,i,out=>if x.all okc=true then q2x xs (i+1) (out ++ [qno x]) else ([],(i:Int),9)
theorem qcq (n:Nat) (ls:List Yy) (hl:ls.length<=1000000) (hx : ∀x∈ls,x.length<=1000000/\x.length<n) : ∀(m j:Nat) (out:List Ln),j<=ls.length->ls.length - j<m->out.length=j ->
  (q40 n m ls ((ls.length:Nat):Int) (j:Int) out).bind (fun o6=>Sum.elim (fun q7=>some (([]:List Ln),(q7.1.2.1,q7.1.2.2.1))) (fun q8=>some (q8.2.2.1,(((List.length q8.2.2.1:Nat):Int),(0:Int)))) o6)=some (q2x (ls.drop j) j out)
 | 0,j,_,_,h,_=>absurd h (Nat.not_lt_zero _)
 | m+1,j,out,hj,h,ho=>by
  rw [q9l]
  unfold qep
  by_cases c0:j<ls.length
  ·have c0':((j:Nat):Int)<((ls.length:Nat):Int):=by omega
   obtain ⟨x1,x2⟩:=hx ls[j] (List.getElem_mem c0)
   rw [List.drop_eq_getElem_cons c0,q2x]
   simp only [c0',decide_true,cond_true,q26 c0,Option.bind_some,jc3 n ls[j] x1 x2,oneR]
   by_cases hk:ls[j].all okc=true
   ·have a1:q5b 40 out [qno ls[j]]=some (out ++ [qno ls[j]]):=q78 (by simp;omega)
    simp only [hk,if_true,decide_true,Bool.not_true,cond_false,a1,Option.bind_some,q0b,q0q (show j<4611686018427387904 by omega)]
    exact qcq n ls hl hx m (j+1) _ (by omega) (by omega) (by simp;omega)
   ·rw [if_neg hk,if_neg hk]
    rfl
  ·have c0' : ¬ ((j:Nat):Int)<((ls.length:Nat):Int):=by omega
   simp only [c0',decide_false,cond_false,Option.bind_some,Sum.elim_inr]
   rw [List.drop_eq_nil_of_le (by omega),q2x,ho]
theorem j30 (n:Nat) (s:Yy) (hs:s.length<=100000) (hn:s.length+1<n):q87 n s=some (q2x (q07 s) 0 []):=by
 unfold q87
 obtain ⟨h1,h2⟩:=qfi s
 rw [qqa n s (by omega),Option.bind_some]
 exact qcq n (q07 s) (by omega) (fun x hx=>by have:=h2 x hx;omega) n 0 [] (Nat.zero_le _) (by omega) rfl
end Go.Proofs.YtapfankgdkdkgaaGreatDoor.AM.Lx
namespace Go.Proofs.YtapfankgdkdkgaaGreatDoor.AM
open Go.RowKit
abbrev Z5:=((Bool×Unit)×Unit×Unit)⊕(Unit×Unit×Unit)
abbrev Z6:=((Int×Unit)×Unit×Unit)⊕(Unit×Unit×Unit)
def q8r (c:UInt8):Bool:=qij c||decide (c.toNat=95)||decide (c.toNat=46)
def q9r (s:Yy):Bool:=!decide (s = [])&&(!decide (s = [46])&&(!decide (s = [46,46])&&s.all q8r))
def q3r (s:Yy):Bool:=decide (s.length<=60)&&(spl 47 [] s).all q9r
def q2p (w:Yy):Bool:=decide (w.head? = some 118)&&q80 (w.drop 1)
def anyS (s:Yy):Bool:=(spl 47 [] s).any q2p
def qd2 (c:UInt8):Yy->Int
 | []=>-1
 | b::r=>if b=c then (r.length:Int) else qd2 c r
def q74 (c:UInt8) (s:Yy):Int:=qd2 c s.reverse
theorem qso (c:UInt8) : ∀l,-1<=qd2 c l/\qd2 c l<(l.length:Int)
 | []=>by simp [qd2]
 | b::r=>by
  have:=qso c r
  rw [qd2];split
  ·simp;omega
  ·simp;omega
theorem qs0 (c:UInt8) (s:Yy) : -1<=q74 c s/\q74 c s<(s.length:Int):=by
 have:=qso c s.reverse;unfold q74;simpa using this
def q5q (s:Yy):Yy:=s.take (q74 47 s).toNat
def q5t (s:Yy):Yy:=s.drop (q74 47 s+1).toNat
abbrev qtk:Yy:=[48,49,50,51,52,53,54,55,56,57]
theorem j2a (c:UInt8):qtk.contains c=q1i c:=by
 have h : ∀k:Fin 256,qtk.contains (UInt8.ofNat k.val)=q1i (UInt8.ofNat k.val):=by decide +kernel
 have h1:=h ⟨c.toNat,c.toNat_lt⟩
 simpa using h1
theorem dropWhile_nil (p:UInt8->Bool) : ∀l:Yy,l.dropWhile p = []↔l.all p=true
 | []=>by simp
 | b::l=>by
  rw [List.dropWhile_cons]
  cases h:p b with
  | true=>simp [h,dropWhile_nil p l]
  | false=>simp [h]
theorem q8a {p:UInt8->Bool} {c:UInt8} : ∀{l:Yy},c∈l->p c=false->c∈l.dropWhile p
 | b::l,h,hp=>by
  rw [List.dropWhile_cons]
  rcases List.mem_cons.1 h with rfl|h
  ·simp [hp]
  ·cases hb:p b with
   | true=>simpa using q8a h hp
   | false=>simp [h]
theorem j2w (s:Yy):decide (Lib.trimS s qtk = [])=s.all q1i:=by
 have he:(fun c=>qtk.contains c)=q1i:=funext j2a
 unfold Lib.trimS Lib.trimRightS Lib.trimLeftS
 rw [he]
 cases h:s.all q1i with
 | true =>
  have h2:s.reverse.all q1i=true:=by rw [List.all_reverse];exact h
  rw [(dropWhile_nil q1i s.reverse).2 h2];simp
 | false =>
  rw [decide_eq_false_iff_not,dropWhile_nil]
  intro hc
  have h3 : ∃ c,c∈s/\q1i c=false:=by
   have:=List.all_eq_false.1 h
   obtain ⟨c,hc,hn⟩:=this
   exact ⟨c,hc,by simpa using hn⟩
  obtain ⟨c,hm,hn⟩:=h3
  have h4:c∈(s.reverse.dropWhile q1i).reverse:=by simpa using q8a (l:=s.reverse) (by simpa using hm) hn
  have:=List.all_eq_true.1 hc c h4
  rw [hn] at this;cases this
def numOf (s:Yy):Int:=match Lib.atoiAll s with
 | .ok v=>v
 | .range=>Lib.atoiSat s
 | _=>0
def qqn (s:Yy):Bool:=match Lib.atoiAll s with
 | .ok v=>decide (2<=v)&&(decide (v<=999999999)&&decide (s=Lib.itoa v))
 | _=>false
def okS (p:Yy):Bool:=q3r p&&(!anyS (q5q p)&&(!q2p (q5t p)||(qqn ((q5t p).drop 1) && !decide (q5q p = []))))
def qf2 (p:Yy):Yy×(Int×Bool):=if okS p then (if q2p (q5t p) then (q5q p,(numOf ((q5t p).drop 1),true)) else (p,(0,true))) else ([],(0,false))
theorem qhb {s:Yy} (h:q3r s=true):s.length<=60/\(spl 47 [] s).all q9r=true:=by
 unfold q3r at h;simpa using h
theorem j76 {s:Yy} (h:q3r s=true):s ≠ []:=by
 rintro rfl;exact absurd h (by decide)
theorem qvd {p:Yy} (h:okS p=true):q3r p=true/\anyS (q5q p)=false/\(q2p (q5t p)=true->qqn ((q5t p).drop 1)=true/\q5q p ≠ []):=by
 unfold okS at h
 simp only [Bool.and_eq_true,Bool.or_eq_true,Bool.not_eq_true',decide_eq_false_iff_not] at h
 refine ⟨h.1,h.2.1,fun ht=>?_⟩
 rcases h.2.2 with h3|h3
 ·rw [ht] at h3;cases h3
 ·exact h3
end Go.Proofs.YtapfankgdkdkgaaGreatDoor.AM
namespace Go.Proofs
open Go.RowKit Go.Shelf Go.Lib
shelf_lay Lays.n160 Nm 160 at Tryz as Tryz.laysTrim
namespace YtapfankgdkdkgaaGreatDoor.AM
def qcp (s cs:List UInt8):Option (List UInt8):=if cs=qtk/\s.length<=1000000 then some (Lib.trimS s qtk) else none
def j2o:FC:={ f:=166,args:=[qhj,qhj],res:=qhj,F:=fun p=>qcp p.1 p.2 }
theorem j1x:q08 Inv Tryz.prog j2o:=fun G hG=>⟨⟨by kernel_rfl,fun a r h=>by
 obtain ⟨s,cs⟩:=a
 have h':qcp s cs=some r:=h
 unfold qcp at h'
 split at h'
 case isFalse=>cases h'
 rename_i hc
 obtain ⟨rfl,hl⟩:=hc
 have hr:Lib.trimS s qtk=r:=Option.some.inj h'
 intro Pc w vs hg hlt hv
 obtain ⟨l⟩:=vs
 match l,hv with
 | [x,y],⟨h1,h2,_⟩ =>
  obtain rfl:x = .string (ba s):=q04 h1
  obtain rfl:y = .string (ba qtk):=q04 h2
  have e1:(ba s).data.toList=s:=by simp [ba]
  have e2:(ba qtk).data.toList=qtk:=by simp [ba]
  have hh:=Any.strings_Trim_laid Tryz.laysTrim (by kernel_rfl) (ba s) (ba qtk) w (by rw [q1w];omega) (by rw [q1w];decide) (by rw [e2];exact ascii_of_all (by decide))
  rw [e1,e2,hr] at hh
  refine hh.mono ?_
  rintro e w' ⟨rfl,hb⟩
  exact q2l rfl hb (q02 (.string (ba r)))⟩,rfl⟩
end YtapfankgdkdkgaaGreatDoor.AM
end Go.Proofs
namespace Go.Proofs.YtapfankgdkdkgaaGreatDoor.AM
open Go.RowKit
@[reducible] def qyc:SSt:=⟨[(0,.one (.c (.d .str))),(1,.one (.c (.d (.int .u8)))),(5,.one (.c (.d (.int .i64))))],[],[]⟩
@[reducible] def qon:List (Exit×SSt):=[(.ret,⟨[(4,.one (.c (.d (.int .i64))))],[],[]⟩),(.exit 0,⟨[],[],[]⟩)]
def qc3 (n:Nat) (rec:(Yy)->Int->Int->Option Z6) (a1:Yy) (a2:Int) (a3:Int):Option Z6 :=
 (bif decide (0<=a3) then (sAt a1 a3).bind fun c2=>(bif decide (c2=a2) then some (Sum.inl ((a3,()),((),()))) else q0b (IntKind.wrap .i64 (a3 - (1:Int))) fun n3=>rec a1 a2 n3) else some (Sum.inr (((),((),())))))
def qs2 (n:Nat):Stp qyc qon:=fun rec p=>qc3 n (fun a1 a2 a3=>rec ((a1,(a2,(a3,()))),((),()))) p.1.1 p.1.2.1 p.1.2.2.1
def q53 (n m:Nat) (a1:Yy) (a2:Int) (a3:Int):Option Z6:=q2y (qs2 n) m ((a1,(a2,(a3,()))),((),()))
theorem q5p (n m:Nat) (a1 a2 a3):q53 n (m+1) a1 a2 a3=qc3 n (fun a1 a2 a3=>q53 n m a1 a2 a3) a1 a2 a3:=rfl
def qcm (n:Nat) (a1:Yy) (a2:Int):Option Int :=
 q0b (IntKind.wrap .i64 ((a1.length:Int) - (1:Int))) fun (n1:Int)=>(q53 n n a1 a2 n1).bind fun o4=>Sum.elim (fun (q5:(Int×Unit)×Unit×Unit)=>some q5.1.1) (fun (q6:(Unit)×Unit×Unit)=>some (-1:Int)) o4
def j3z (n:Nat):FC:={ f:=80,args:=[.one (.c (.d .str)),.one (.c (.d (.int .u8)))],res:=.one (.c (.d (.int .i64))),F:=fun p=>qcm n p.1 p.2 }
theorem qrk (n:Nat):q08 Inv Tryz.prog (j3z n):=mkF Tryz.func80 [] [qi5 qs2 n] (cn) (by kernel_rfl) ⟨ls (by intro rec p;kernel_rfl),trivial⟩ (by intro a;kernel_rfl)
def qig (n:Nat) (a1:Yy) (a2:Int):Option Int :=
 (qcm n a1 a2).bind fun r1=>some r1
def j40 (n:Nat):FC:={ f:=164,args:=[.one (.c (.d .str)),.one (.c (.d (.int .u8)))],res:=.one (.c (.d (.int .i64))),F:=fun p=>qig n p.1 p.2 }
theorem qqo (n:Nat):q08 Inv Tryz.prog (j40 n):=mkF Tryz.func164 [] [] (cc (qrk n) <| cn) (by kernel_rfl) trivial (by intro a;kernel_rfl)
def q68 (n:Nat) (a1:Yy) (a2:Yy):Option (Yy×Bool) :=
 (q0s n a1 a2).bind fun r1=>(bif !r1 then some (a1,false) else (q1c a1 (a2.length:Int) (a1.length:Int)).bind fun s2=>some (s2,true))
def qjg (n:Nat):FC:={ f:=190,args:=[.one (.c (.d .str)),.one (.c (.d .str))],res:=.tup [.c (.d .str),.c (.d .bool)],F:=fun p=>q68 n p.1 p.2 }
theorem qjo (n:Nat):q08 Inv Tryz.prog (qjg n):=mkF Tryz.func190 [] [] (cc (q2a n) <| cn) (by kernel_rfl) trivial (by intro a;kernel_rfl)
def q5h (n:Nat) (a1:Yy) (a2:Yy):Option (Yy×Bool) :=
 (q68 n a1 a2).bind fun r1=>some r1
def qkz (n:Nat):FC:={ f:=165,args:=[.one (.c (.d .str)),.one (.c (.d .str))],res:=.tup [.c (.d .str),.c (.d .bool)],F:=fun p=>q5h n p.1 p.2 }
theorem qm7 (n:Nat):q08 Inv Tryz.prog (qkz n):=mkF Tryz.func165 [] [] (cc (qjo n) <| cn) (by kernel_rfl) trivial (by intro a;kernel_rfl)
def q0j (n:Nat) (a1:Yy) (a2:Yy):Option Bool :=
 (q0s n a1 a2).bind fun r1=>some r1
def q6b (n:Nat):FC:={ f:=152,args:=[.one (.c (.d .str)),.one (.c (.d .str))],res:=.one (.c (.d .bool)),F:=fun p=>q0j n p.1 p.2 }
theorem qai (n:Nat):q08 Inv Tryz.prog (q6b n):=mkF Tryz.func152 [] [] (cc (q2a n) <| cn) (by kernel_rfl) trivial (by intro a;kernel_rfl)
def q8j (n:Nat) (a1:Yy):Option Bool :=
 (q5h n a1 ([118]:Yy)).bind fun r1=>(bif r1.2 then (bif !decide (r1.1=([]:Yy)) then (qcp r1.1 ([48,49,50,51,52,53,54,55,56,57]:Yy)).bind fun (r2:Yy)=>some (decide (r2=([]:Yy))) else some false) else some false)
def qw1 (n:Nat):FC:={ f:=134,args:=[.one (.c (.d .str))],res:=.one (.c (.d .bool)),F:=fun p=>q8j n p }
theorem qm1 (n:Nat):q08 Inv Tryz.prog (qw1 n):=mkF Tryz.func134 [] [] (cc (qm7 n) <| cc (j1x) <| cn) (by kernel_rfl) trivial (by intro a;kernel_rfl)
end Go.Proofs.YtapfankgdkdkgaaGreatDoor.AM
namespace Go.Proofs.YtapfankgdkdkgaaGreatDoor.AM
open Go.RowKit
def qhv (n:Nat) (a1:Int):Option Bool :=
 (bif decide (97<=a1) then (bif decide (a1<=122) then (bif decide (a1<=122) then some true else (bif decide (a1=45) then some true else (bif decide (a1=95) then some true else some (decide (a1=46))))) else (bif decide (65<=a1) then (bif decide (a1<=90) then (bif decide (a1<=90) then some true else (bif decide (a1=45) then some true else (bif decide (a1=95) then some true else some (decide (a1=46))))) else (bif decide (48<=a1) then (bif decide (a1<=57) then some true else (bif decide (a1=45) then some true else (bif decide (a1=95) then some true else some (decide (a1=46))))) else (bif decide (a1=45) then some true else (bif decide (a1=95) then some true else some (decide (a1=46)))))) else (bif decide (48<=a1) then (bif decide (a1<=57) then some true else (bif decide (a1=45) then some true else (bif decide (a1=95) then some true else some (decide (a1=46))))) else (bif decide (a1=45) then some true else (bif decide (a1=95) then some true else some (decide (a1=46))))))) else (bif decide (65<=a1) then (bif decide (a1<=90) then (bif decide (a1<=90) then some true else (bif decide (a1=45) then some true else (bif decide (a1=95) then some true else some (decide (a1=46))))) else (bif decide (48<=a1) then (bif decide (a1<=57) then some true else (bif decide (a1=45) then some true else (bif decide (a1=95) then some true else some (decide (a1=46))))) else (bif decide (a1=45) then some true else (bif decide (a1=95) then some true else some (decide (a1=46)))))) else (bif decide (48<=a1) then (bif decide (a1<=57) then some true else (bif decide (a1=45) then some true else (bif decide (a1=95) then some true else some (decide (a1=46))))) else (bif decide (a1=45) then some true else (bif decide (a1=95) then some true else some (decide (a1=46)))))))
def j29 (n:Nat):FC:={ f:=182,args:=[.one (.c (.d (.int .u8)))],res:=.one (.c (.d .bool)),F:=fun p=>qhv n p }
theorem j3g (n:Nat):q08 Inv Tryz.prog (j29 n):=mkF Tryz.func182 [] [] (cn) (by kernel_rfl) trivial (by intro a;kernel_rfl)
@[reducible] def qyv:SSt:=⟨[(0,.one (.c (.d .str))),(15,.one (.c (.d (.int .i64)))),(16,.one (.c (.d (.int .i64))))],[],[]⟩
@[reducible] def qpb:List (Exit×SSt):=[(.ret,⟨[(2,.one (.c (.d .bool)))],[],[]⟩),(.exit 0,⟨[],[],[]⟩)]
def qiv (n:Nat) (rec:(Yy)->Int->Int->Option Z5) (a1:Yy) (a2:Int) (a3:Int):Option Z5 :=
 (bif decide (a3<a2) then (sAt a1 a3).bind fun c1=>(qhv n c1).bind fun r2=>(bif !r2 then some (Sum.inl ((false,()),((),()))) else q0b (IntKind.wrap .i64 (a3+1)) fun n3=>rec a1 a2 n3) else some (Sum.inr (((),((),())))))
def qqp (n:Nat):Stp qyv qpb:=fun rec p=>qiv n (fun a1 a2 a3=>rec ((a1,(a2,(a3,()))),((),()))) p.1.1 p.1.2.1 p.1.2.2.1
def q4t (n m:Nat) (a1:Yy) (a2:Int) (a3:Int):Option Z5:=q2y (qqp n) m ((a1,(a2,(a3,()))),((),()))
theorem qb1 (n m:Nat) (a1 a2 a3):q4t n (m+1) a1 a2 a3=qiv n (fun a1 a2 a3=>q4t n m a1 a2 a3) a1 a2 a3:=rfl
def qo5 (n:Nat) (a1:Yy):Option Bool :=
 (bif decide (a1=([]:Yy)) then some false else (bif decide (a1=([46]:Yy)) then some false else (bif decide (a1=([46,46]:Yy)) then some false else (q4t n n a1 (a1.length:Int) (0:Int)).bind fun o4=>Sum.elim (fun (q5:(Bool×Unit)×Unit×Unit)=>some q5.1.1) (fun (q6:(Unit)×Unit×Unit)=>some true) o4)))
def j1o (n:Nat):FC:={ f:=154,args:=[.one (.c (.d .str))],res:=.one (.c (.d .bool)),F:=fun p=>qo5 n p }
theorem j1q (n:Nat):q08 Inv Tryz.prog (j1o n):=mkF Tryz.func154 [] [qi5 qqp n] (cc (j3g n) <| cn) (by kernel_rfl) ⟨ls (by intro rec p;kernel_rfl),trivial⟩ (by intro a;kernel_rfl)
theorem qtf (n:Nat) (c:UInt8):qhv n ((c.toNat:Nat):Int)=some (q8r c):=by
 have h : ∀k:Fin 256,qhv 0 ((k.val:Nat):Int)=some (q8r (UInt8.ofNat k.val)):=by decide +kernel
 have h1:=h ⟨c.toNat,c.toNat_lt⟩
 have e:UInt8.ofNat c.toNat=c:=by simp
 rw [e] at h1
 exact h1
theorem qgg (n:Nat) (s:Yy) (hL:s.length<=1000000) : ∀m j:Nat,j<=s.length->s.length - j<m->q4t n m s ((s.length:Nat):Int) (j:Int)=some (if (s.drop j).all q8r=true then Sum.inr ((),((),())) else Sum.inl ((false,()),((),())))
 | 0,j,_,h=>absurd h (Nat.not_lt_zero _)
 | m+1,j,hj,h=>by
  rw [qb1]
  unfold qiv
  by_cases c0:j<s.length
  ·have c0':((j:Nat):Int)<((s.length:Nat):Int):=by omega
   have ih:=qgg n s hL m (j+1) (by omega) (by omega)
   have hd:s.drop j=s[j]::s.drop (j+1):=(List.drop_eq_getElem_cons c0)
   simp only [c0',decide_true,cond_true,q89 c0,Option.bind_some,qtf,q0b,q0q (show j<4611686018427387904 by omega),ih,hd,List.all_cons]
   cases q8r s[j]<;>simp
  ·have c0' : ¬ ((j:Nat):Int)<((s.length:Nat):Int):=by omega
   have:s.drop j = []:=List.drop_eq_nil_of_le (by omega)
   simp [c0',this]
theorem qv6 (n:Nat) (s:Yy) (hL:s.length<=1000000) (hn:s.length<n):qo5 n s=some (q9r s):=by
 unfold qo5 q9r
 have:=qgg n s hL n 0 (Nat.zero_le _) (by omega)
 rw [show ((0:Nat):Int)=(0:Int) from rfl] at this
 rw [this,List.drop_zero]
 cases decide (s = [])<;>cases decide (s = [46])<;>cases decide (s = [46,46])<;>cases s.all q8r<;>rfl
theorem qj9 {n:Int} (h:0<=n/\n<=999999999):(Lib.itoa n).length<=9:=by
 rw [q2d h.1];exact qfp 8 n.toNat (by omega)
theorem qme (s:Yy):(q0w s).length<=s.length:=by
 unfold q0w;split
 ·rw [List.length_drop];omega
 ·exact Nat.le_refl _
theorem q69 {s t:Yy} (h:s.length+t.length<=9223372036854775807):q6j s t=some (s++t):=if_pos h
theorem q7b (n m:Nat) (a1 a2 a3 i i' a5 a6 a7 x:Int) (a8 a9:Yy) (hx:q1t ([a1,a2,a3]:List Int) i=some x) (hi:i<3) (hw:IntKind.wrap .i64 (i+1)=i') :
  q2s n (m+1) a1 a2 a3 i a5 a6 a7 a8 a9=if j2d x=true then q2s n m a1 a2 a3 i' a5 a6 a7 a8 a9 else some (Sum.inl ((false,()),((),()))):=by
 rw [q4f]
 unfold q8i j2d
 simp only [hi,decide_true,cond_true,hx,Option.bind_some,q0b,hw]
 by_cases h1:x<0
 ·have : ¬ (0:Int)<=x:=by omega
  simp [h1,this]
 ·have h1':(0:Int)<=x:=by omega
  by_cases h2:999999999<x
  ·have : ¬ x<=999999999:=by omega
   simp [h1,h2,this]
  ·have:x<=999999999:=by omega
   simp [h1,h2,h1',this]
theorem q2k (n:Nat) (v:VD) (hn:4<=n):q37 n v=some (q0z v):=by
 obtain ⟨k,rfl⟩ : ∃ k,n=k+1+1+1+1:=⟨n - 4,by omega⟩
 obtain ⟨a,b,c,p,q⟩:=v
 unfold q37
 rw [q7b _ _ a b c 0 1 _ _ _ a _ _ rfl (by decide) rfl,q7b _ _ a b c 1 2 _ _ _ b _ _ rfl (by decide) rfl,q7b _ _ a b c 2 3 _ _ _ c _ _ rfl (by decide) rfl,q4f]
 unfold q8i q0z qf9 qa0
 dsimp only
 cases j2d a with
 | false=>rfl
 | true=>cases j2d b with
  | false=>rfl
  | true=>cases j2d c with
   | false=>rfl
   | true =>
    simp only [if_true,Bool.true_and,show ¬ (3:Int)<3 from by decide,decide_false,cond_false,Option.bind_some,Sum.elim_inr]
    cases q3o q4o p<;>cases q3o q24 q<;>rfl
theorem qmu (n:Nat) (s:Yy) (hs:s.length<=1000000):q3x n s [118]=some (q0w s):=by
 unfold q3x q5a q0s q0w
 cases s with
 | nil=>rfl
 | cons b r =>
  have h1:((List.length ([118]:Yy):Nat):Int)<=((List.length (b::r):Nat):Int):=by simp;omega
  have h2:q1c (b::r) (0:Int) ((List.length ([118]:Yy):Nat):Int)=some [b]:=sub_zero (b:=1) (by simp)
  have h3:q1c (b::r) ((List.length ([118]:Yy):Nat):Int) ((List.length (b::r):Nat):Int)=some r:=by
   have:=sub_le (l:=b::r) (a:=1) (b:=(b::r).length) (by simp) (Nat.le_refl _)
   rw [show ((List.length ([118]:Yy):Nat):Int)=((1:Nat):Int) from rfl,this]
   simp
  simp only [h1,decide_true,cond_true,h2,Option.bind_some,List.head?_cons,Option.some.injEq,List.drop_succ_cons,List.drop_zero]
  by_cases hb:b=118
  ·simp only [hb,decide_true,cond_true,if_true] at h3 ⊢
   rw [h3];rfl
  ·have : ¬ [b]=([118]:Yy):=fun h=>hb (by simpa using h)
   simp [this,hb]
theorem qd7 {n:Int} (h:0<=n/\n<=999999999):qea n=some (Lib.itoa n):=if_pos ⟨by omega,by omega⟩
theorem qjn (s:Yy) (j:Nat) (h:j<s.length):(s.take (j+1)).reverse=s[j]::(s.take j).reverse:=by
 rw [List.take_succ_eq_append_getElem h];simp
theorem qgr (n:Nat) (c:UInt8) (s:Yy) (hL:s.length<=1000000) : ∀m j:Nat,j<=s.length->j<m->q53 n m s ((c.toNat:Nat):Int) ((j:Int) - 1)=some (if qd2 c (s.take j).reverse = -1 then Sum.inr ((),((),())) else Sum.inl ((qd2 c (s.take j).reverse,()),((),())))
 | 0,j,_,h=>absurd h (Nat.not_lt_zero _)
 | m+1,0,_,_=>by
  rw [q5p]
  unfold qc3
  simp [qd2]
 | m+1,j+1,hj,h=>by
  rw [q5p]
  unfold qc3
  have e1:((j+1:Nat):Int) - 1=((j:Nat):Int):=by omega
  have ih:=qgr n c s hL m j (by omega) (by omega)
  have w1:IntKind.wrap .i64 (((j:Nat):Int) - 1)=((j:Nat):Int) - 1:=wrap64 (by omega) (by omega)
  have c0:(0:Int)<=((j:Nat):Int):=by omega
  have d1:decide (((s[j].toNat:Nat):Int)=((c.toNat:Nat):Int))=decide (s[j]=c):=decide_eq_decide.2 ⟨fun h=>UInt8.toNat_inj.1 (by omega),fun h=>by rw [h]⟩
  rw [e1]
  simp only [c0,decide_true,cond_true,q89 (show j<s.length by omega),Option.bind_some,d1,q0b,w1,ih,qjn s j (by omega),qd2]
  by_cases h0:s[j]=c
  ·have : ¬ (((s.take j).reverse.length:Nat):Int) = -1:=by omega
   have l1:(s.take j).reverse.length=j:=by simp;omega
   simp only [h0,decide_true,cond_true,if_true,this,if_false,l1]
   rw [if_neg (by omega)]
  ·simp [h0]
theorem qu2 (n:Nat) (c:UInt8) (s:Yy) (hL:s.length<=1000000) (hn:s.length<n):qcm n s ((c.toNat:Nat):Int)=some (q74 c s):=by
 unfold qcm
 have:=qgr n c s hL n s.length (Nat.le_refl _) hn
 have w1:IntKind.wrap .i64 (((s.length:Nat):Int) - 1)=((s.length:Nat):Int) - 1:=wrap64 (by omega) (by omega)
 simp only [q0b,w1,this,List.take_length]
 unfold q74
 by_cases h:qd2 c s.reverse = -1
 ·simp [h]
 ·simp [h]
theorem qhl (n:Nat) (s:Yy) (hL:s.length<=1000000) (hn:s.length<n):qig n s (47:Int)=some (q74 47 s):=by
 unfold qig
 rw [show (47:Int)=(((47:UInt8).toNat:Nat):Int) from rfl,qu2 n 47 s hL hn];rfl
theorem qou (n:Nat) (s:Yy) (hs:s.length<=1000000):q5h n s [118]=some (if s.head? = some 118 then (s.drop 1,true) else (s,false)):=by
 unfold q5h q68 q0s
 cases s with
 | nil=>rfl
 | cons b r =>
  have h1:((List.length ([118]:Yy):Nat):Int)<=((List.length (b::r):Nat):Int):=by simp;omega
  have h2:q1c (b::r) (0:Int) ((List.length ([118]:Yy):Nat):Int)=some [b]:=sub_zero (b:=1) (by simp)
  have h3:q1c (b::r) ((List.length ([118]:Yy):Nat):Int) ((List.length (b::r):Nat):Int)=some r:=by
   have:=sub_le (l:=b::r) (a:=1) (b:=(b::r).length) (by simp) (Nat.le_refl _)
   rw [show ((List.length ([118]:Yy):Nat):Int)=((1:Nat):Int) from rfl,this]
   simp
  simp only [h1,decide_true,cond_true,h2,Option.bind_some,List.head?_cons,Option.some.injEq,List.drop_succ_cons,List.drop_zero]
  by_cases hb:b=118
  ·simp only [hb,decide_true,cond_true,if_true,Bool.not_true,cond_false] at h3 ⊢
   rw [h3];rfl
  ·have : ¬ [b]=([118]:Yy):=fun h=>hb (by simpa using h)
   simp [this,hb]
theorem qdq (n:Nat) (s:Yy) (hs:s.length<=1000000):q8j n s=some (q2p s):=by
 unfold q8j q2p q80
 rw [qou n s hs]
 by_cases h:s.head? = some 118
 ·have hl:(s.drop 1).length<=1000000:=by rw [List.length_drop];omega
  have ht:qcp (s.drop 1) qtk=some (Lib.trimS (s.drop 1) qtk):=if_pos ⟨rfl,hl⟩
  simp only [h,if_true,Option.bind_some,cond_true,ht,j2w,decide_true,Bool.true_and]
  cases decide (s.drop 1 = [])<;>cases (s.drop 1).all q1i<;>rfl
 ·simp [h]
end Go.Proofs.YtapfankgdkdkgaaGreatDoor.AM
