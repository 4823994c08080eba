
import Derived.Test.YtapfankgdkdkgaaGreatDoorEb23
import Derived.Test.YtapfankgdkdkgaaGreatDoorEb9
import Derived.Lib.Join
import Derived.Test.YtapfankgdkdkgaaGreatDoorEb12
import Derived.Test.YtapfankgdkdkgaaGreatDoorEb18
import Derived.Test.YtapfankgdkdkgaaGreatDoorEb19
set_option linter.unusedVariables false
set_option linter.unusedSimpArgs false
namespace Go.Proofs.YtapfankgdkdkgaaGreatDoor.AM
open Go.RowKit
abbrev Rq:=Yy×VD
abbrev Sw:=Yy×Yy
abbrev Sp:=Int×(Int×(Int×(Yy×(Yy×VD))))
def jpj (a b:VD):Sp:=(a.1,(a.2.1,(a.2.2.1,(a.2.2.2.1,(a.2.2.2.2,b)))))
def k2b (x:Sp):VD:=(x.1,(x.2.1,(x.2.2.1,(x.2.2.2.1,x.2.2.2.2.1))))
def jh5 (x:Sp):VD:=x.2.2.2.2.2
theorem k26 (a b:VD):k2b (jpj a b)=a:=rfl
theorem jxd (a b:VD):jh5 (jpj a b)=b:=rfl
abbrev MD:=Yy×(Yy×(List Rq×(List Sw×(List Rq×List Sp))))
abbrev Cl:=Yy×(Yy×VD)
abbrev k5a:=List (Cl×(Int×Int))
abbrev clT:Ty:=.prod .str (.prod .str Tv)
abbrev qgj:Yy:=[109,111,100,117,108,101]
abbrev kGo:Yy:=[103,111]
abbrev q43:Yy:=[114,101,113,117,105,114,101]
abbrev qct:Yy:=[101,120,99,108,117,100,101]
abbrev q9b:Yy:=[114,101,112,108,97,99,101]
abbrev ql2:Yy:=[114,101,116,114,97,99,116]
def q42 (t:Yy):Bool:=decide (t = [61,62])||(decide (t = [91])||(decide (t = [44])||(decide (t = [93])||(decide (t = [40])||decide (t = [41])))))
def qi2 (w:Lx.Wd):Yy:=if q42 w.1 then w.1 else [120]
def shp (ws:List Lx.Wd):Yy:=Lib.join (ws.map qi2) [32]
def unm (ws:List Lx.Wd):List Lx.Wd:=ws.filter fun w=>!q42 w.1
def q4p (v:Yy):List (Yy) :=
 if v=qgj then [[120]] else if v=kGo then [[120]] else if v=q43 then [[120,32,120]] else if v=qct then [[120,32,120]] else if v=q9b then [[120,32,61,62,32,120]]
 else if v=ql2 then [[120],[91,32,120,32,44,32,120,32,93]] else []
def q8i (v:Yy):Bool:=decide (v=q43)||(decide (v=qct)||(decide (v=q9b)||decide (v=ql2)))
def q5p (s:Yy):Bool:=s.all q1e&&(decide (1<=s.length)&&(decide (s.length<=9)&&(decide (s = [48]) || !decide (s.head? = some 48))))
def qde (x:Yy):Bool:=q5p (q2s 46 x)&&q5p (q7t 46 x)
def j5i (p v:Yy):Int⊕Rq:=if okS p=false then .inl 6 else if (q0e v).2=false then .inl 7 else if qco p (q0e v).1=false then .inl 8 else .inr (p,(q0e v).1)
structure MS where
 mo:Yy
 go:Yy
 bk:Yy
 sd:k5a
 rq:List Rq
 sw:List Sw
 ex:List Rq
 rt:List Sp
def ms0:MS:=⟨[],[],[],[],[],[],[],[]⟩
def MS.md (σ:MS):MD:=(σ.mo,(σ.go,(σ.rq,(σ.sw,(σ.ex,σ.rt)))))
def q1z (σ:MS) (c:Cl) (st:Int) (w:Lx.Wd):Int⊕MS:=if (q0c clT c σ.sd).isSome then .inl 11 else .inr { σ with sd:=q3x clT c (st+w.2,st+w.2+(w.1.length:Nat)) σ.sd }
def qg4 (σ:MS) (st:Int) (v:Yy) (ws:List Lx.Wd):Int⊕MS :=
 match ws with
 | []=>.inl 10
 | w::ws' =>
  if v=qgj then (if okS w.1=false then .inl 6 else q1z { σ with mo:=w.1 } (qgj,([],v0)) st w)
  else if v=kGo then (if qde w.1=false then .inl 7 else q1z { σ with go:=w.1 } (kGo,([],v0)) st w)
  else if v=q43 then (match j5i w.1 ((ws'.headD ([],0)).1) with
   | .inl e=>.inl e
   | .inr q=>q1z { σ with rq:=σ.rq ++ [q] } (q43,(q.1,v0)) st (ws'.headD ([],0)))
  else if v=qct then (match j5i w.1 ((ws'.headD ([],0)).1) with
   | .inl e=>.inl e
   | .inr q=>q1z { σ with ex:=σ.ex ++ [q] } (qct,(q.1,q.2)) st (ws'.headD ([],0)))
  else if v=q9b then (if okS w.1=false then .inl 6 else if q4u ((ws'.headD ([],0)).1)=false then .inl 6 else q1z { σ with sw:=σ.sw ++ [(w.1,(ws'.headD ([],0)).1)] } (q9b,(w.1,v0)) st (ws'.headD ([],0)))
  else if (q0e w.1).2=false then .inl 7 else if (q0e ((ws'.getLast?.getD w).1)).2=false then .inl 7
  else if 0<jpc (q0e w.1).1 (q0e ((ws'.getLast?.getD w).1)).1 then .inl 7 else .inr { σ with rt:=σ.rt ++ [jpj (q0e w.1).1 (q0e ((ws'.getLast?.getD w).1)).1] }
def qgc (σ:MS) (st:Int) (v:Yy) (ws:List Lx.Wd):Int⊕MS:=if shp ws∈q4p v then qg4 σ st v (unm ws) else .inl 10
def qaj (σ:MS) (st:Int) (ws:List Lx.Wd):Int⊕MS :=
 match ws with
 | []=>.inr σ
 | w::ws' =>
  if σ.bk = [] then (if q8i w.1=true/\shp ws' = [40] then .inr { σ with bk:=w.1 } else qgc σ st w.1 ws')
  else if shp (w::ws') = [41] then .inr { σ with bk:=[] } else qgc σ st σ.bk (w::ws')
def q2t (t:Yy):List Lx.Wd:=(Lx.qkz t).1
def q5o:List (Yy)->Int->Int->MS->(Int×Int)⊕MS
 | [],_,_,σ=>.inr σ
 | t::ts,i,st,σ=>match qaj σ st (q2t t) with
  | .inl e=>.inl (i,e)
  | .inr σ'=>q5o ts (i+1) (st+((t.length:Nat):Int)+1) σ'
def qcv (s:Yy):(Int×Int)⊕(MS×Int) :=
 if (Lx.q3k (Lx.q0l s) 0 []).2.2≠0 then .inl ((Lx.q3k (Lx.q0l s) 0 []).2.1,(Lx.q3k (Lx.q0l s) 0 []).2.2)
 else match q5o (Lx.q0l s) 0 0 ms0 with
  | .inl e=>.inl e
  | .inr σ=>if σ.bk ≠ [] then .inl (((Lx.q0l s).length:Nat),10) else if σ.mo = [] then .inl (((Lx.q0l s).length:Nat),5) else .inr (σ,((Lx.q0l s).length:Nat))
abbrev md0:MD:=([],([],([],([],([],[])))))
def q9i (s:Yy):MD×(Int×Int):=match qcv s with
 | .inl e=>(md0,e)
 | .inr (σ,n)=>(σ.md,(n,0))
def q5y (s p:Yy):Int×(Int×Bool):=match qcv s with
 | .inl _=>(0,(0,false))
 | .inr (σ,_)=>match q0c clT (q43,(p,v0)) σ.sd with
  | some x=>(x.1,(x.2,true))
  | none=>(0,(0,false))
theorem qnu (a b:Cl):eqT clT a b=true↔a=b:=by
 obtain ⟨a1,a2,a3,a4,a5,a6,a7⟩:=a
 obtain ⟨b1,b2,b3,b4,b5,b6,b7⟩:=b
 show (decide (a1=b1)&&(decide (a2=b2)&&(decide (a3=b3)&&(decide (a4=b4)&&(decide (a5=b5)&&(decide (a6=b6)&&decide (a7=b7)))))))=true↔_
 simp only [Bool.and_eq_true,decide_eq_true_eq,Prod.mk.injEq]
theorem k2d {a b:Cl} (h:a≠b):eqT clT a b=false:=by
 cases hb:eqT clT a b with
 | true=>exact absurd ((qnu a b).1 hb) h
 | false=>rfl
theorem qbj (c c':Cl) (v:Int×Int) : ∀l:k5a,q0c clT c (q3x clT c' v l)=bif eqT clT c c' then some v else q0c clT c l
 | []=>rfl
 | (k,y)::l=>by
  show q0c clT c (bif eqT clT c' k then (c',v)::l else (k,y)::q3x clT c' v l)=bif eqT clT c c' then some v else (bif eqT clT c k then some y else q0c clT c l)
  cases hk:eqT clT c' k with
  | true =>
   have hk':=(qnu c' k).1 hk
   subst hk'
   show (bif eqT clT c c' then some v else q0c clT c l)=_
   cases eqT clT c c'<;>rfl
  | false =>
   show (bif eqT clT c k then some y else q0c clT c (q3x clT c' v l))=_
   rw [qbj c c' v l]
   cases hb:eqT clT c k with
   | true =>
    have:=(qnu c k).1 hb
    subst this
    have:eqT clT c c'=false:=by
     refine k2d fun h=>?_
     subst h;rw [(qnu c c).2 rfl] at hk;cases hk
    rw [this];rfl
   | false=>rfl
theorem jxf (c:Cl) (v:Int×Int) (l:k5a):q0c clT c (q3x clT c v l)=some v:=by rw [qbj,(qnu c c).2 rfl];rfl
theorem q99 {c c':Cl} (h:c≠c') (v:Int×Int) (l:k5a):q0c clT c (q3x clT c' v l)=q0c clT c l:=by rw [qbj,k2d h];rfl
end Go.Proofs.YtapfankgdkdkgaaGreatDoor.AM
namespace Go.Proofs.YtapfankgdkdkgaaGreatDoor.AM
open Go.RowKit
theorem qs9 (n:Nat) (a b:Int):qbm n a b=some (qbh a b):=by
 unfold qbm j4g qbh
 simp only [decide_true,Bool.not_true,Option.bind_some,cond_false]
 by_cases h1:a<b
 ·simp [h1]
 ·by_cases h2:b<a
  ·simp [h1,h2]
  ·simp [h1,h2]
def qby:List Int->Int
 | []=>0
 | x::l=>or2 x (qby l)
theorem j06 (n:Nat) (l:List Int) (hL:l.length<=1000000) : ∀m j:Nat,j<=l.length->l.length - j<m->qaz n m 0 l ((l.length:Nat):Int) (j:Int)=some (if qby (l.drop j)=0 then Sum.inr (((0:Int),()),((),())) else Sum.inl ((qby (l.drop j),()),((),())))
 | 0,j,_,h=>absurd h (Nat.not_lt_zero _)
 | m+1,j,hj,h=>by
  rw [qph]
  unfold j3l
  by_cases c0:j<l.length
  ·have c0':((j:Nat):Int)<((l.length:Nat):Int):=by omega
   have ih:=j06 n l hL m (j+1) (by omega) (by omega)
   have hd:l.drop j=l[j]::l.drop (j+1):=(List.drop_eq_getElem_cons c0)
   simp only [c0',decide_true,cond_true,q1c c0,Option.bind_some,q04,q0a (show j<4611686018427387904 by omega),ih,hd,qby,or2]
   by_cases h0:l[j]=0
   ·simp [h0]
   ·simp [h0]
  ·have c0' : ¬ ((j:Nat):Int)<((l.length:Nat):Int):=by omega
   have:l.drop j = []:=List.drop_eq_nil_of_le (by omega)
   simp [c0',this,qby]
theorem qz1 (n:Nat) (l:List Int) (hL:l.length<=1000000) (hn:l.length<n):qs2 n l=some (qby l):=by
 unfold qs2
 have:=j06 n l hL n 0 (Nat.zero_le _) (by omega)
 rw [show ((0:Nat):Int)=(0:Int) from rfl] at this
 rw [this,List.drop_zero]
 by_cases h:qby l=0
 ·simp [h]
 ·simp [h]
theorem qmk (n:Nat) (v:VD) (hn:4<=n):qh2 n v=some (q1g v):=by
 unfold qh2 q1g
 rw [q53 n v hn]
 cases hc:q1b v with
 | false=>rfl
 | true =>
  obtain ⟨h1,h2,h3,h4,h5⟩:=q1k hc
  have l1:=qbt h1
  have l2:=qbt h2
  have l3:=qbt h3
  have t1:=q5b h4
  have t2:=q5b h5
  simp only [Option.bind_some,Bool.not_true,cond_false,qr7 h1,qr7 h2,qr7 h3,if_true]
  unfold jpd q64
  generalize Lib.itoa v.1=A at l1
  generalize Lib.itoa v.2.1=B at l2
  generalize Lib.itoa v.2.2.1=C at l3
  generalize v.2.2.2.1=p at t1
  generalize v.2.2.2.2=q at t2
  rw [q2o (by simp;omega)];simp only [Option.bind_some]
  rw [q2o (by simp;omega)];simp only [Option.bind_some]
  rw [q2o (by simp;omega)];simp only [Option.bind_some]
  rw [q2o (by simp;omega)];simp only [Option.bind_some]
  rw [q2o (by simp;omega)];simp only [Option.bind_some]
  have k1:q7s [45] p=some ([45]++p):=q2o (by simp;omega)
  have k2:q7s [43] q=some ([43]++q):=q2o (by simp;omega)
  by_cases hp:p = []
  ·by_cases hq:q = []
   ·simp [hp,hq]
   ·simp only [hp,hq,decide_true,decide_false,Bool.not_true,Bool.not_false,cond_true,cond_false,k2,Option.bind_some]
    rw [q2o (by simp;omega)]
    simp
  ·by_cases hq:q = []
   ·simp only [hp,hq,decide_true,decide_false,Bool.not_true,Bool.not_false,cond_true,cond_false,k1,Option.bind_some]
    rw [q2o (by simp;omega)]
    simp
   ·simp only [hp,hq,decide_true,decide_false,Bool.not_true,Bool.not_false,cond_true,cond_false,k1,k2,Option.bind_some]
    rw [q2o (by simp;omega)];simp only [Option.bind_some]
    rw [q2o (by simp;omega)]
    simp
theorem qin (n:Nat) (c:UInt8) (s:Yy) (hs:s.length<=1000000) : ∃ b,j50 n s [c]=some (q2s c s,(q7t c s,b)):=by
 unfold j50 jpt qs1 q2s q7t
 simp only [show s.length<4294967281 from by omega,if_true,Option.bind_some]
 have hge:=Lib.index_ge s [c]
 by_cases h1:Lib.index s [c] = -1
 ·simp only [h1,show ¬ (0:Int)<=-1 from by decide,decide_false,cond_false,Option.bind_some,if_true]
  exact ⟨_,rfl⟩
 ·obtain ⟨i,hi⟩ : ∃ i:Nat,Lib.index s [c]=(i:Int):=⟨(Lib.index s [c]).toNat,by omega⟩
  have hlt:=qq3 c s i hi
  have n1 : ¬ ((i:Nat):Int) = -1:=by omega
  have n2:(0:Int)<=((i:Nat):Int):=by omega
  rw [hi]
  have w1:IntKind.wrap .i64 (((i:Nat):Int)+((List.length [c]:Nat):Int))=((i+1:Nat):Int):=q0a (by omega)
  simp only [n1,n2,decide_true,cond_true,if_false,sub_zero (show i<=s.length by omega),Option.bind_some,q04,w1,sub_le (show i+1<=s.length by omega) (Nat.le_refl _),Int.toNat_natCast]
  refine ⟨true,?_⟩
  have e6:(s.drop (i+1)).take (s.length - (i+1))=s.drop (i+1):=List.take_of_length_le (by rw [List.length_drop];exact Nat.le_refl _)
  rw [e6]
theorem qkf (c:UInt8) (s:Yy):(q2s c s).length<=s.length:=by
 unfold q2s;split
 ·exact Nat.le_refl _
 ·rw [List.length_take];omega
theorem qq2 (c:UInt8) (s:Yy):(q7t c s).length<=s.length:=by
 unfold q7t;split
 ·simp
 ·rw [List.length_drop];omega
theorem qha (n:Nat) (s:Yy) (hs:s.length<=1000000) (hn:4<=n):qg5 n s=some (q0e s):=by
 unfold qg5 q0e jmz
 obtain ⟨b1,e1⟩:=qin n 43 s hs
 have l1:=qkf 43 s
 have l1':=qq2 43 s
 obtain ⟨b2,e2⟩:=qin n 45 (q2s 43 s) (by omega)
 have l2:=qkf 45 (q2s 43 s)
 have e3:=jcb n (q2s 45 (q2s 43 s)) (by omega)
 have l3:=j8b (q2s 45 (q2s 43 s))
 obtain ⟨b4,e4⟩:=qin n 46 (q1y (q2s 45 (q2s 43 s))) (by omega)
 have l4:=qkf 46 (q1y (q2s 45 (q2s 43 s)))
 have l4':=qq2 46 (q1y (q2s 45 (q2s 43 s)))
 obtain ⟨b5,e5⟩:=qin n 46 (q7t 46 (q1y (q2s 45 (q2s 43 s)))) (by omega)
 have l5:=qkf 46 (q7t 46 (q1y (q2s 45 (q2s 43 s))))
 have l5':=qq2 46 (q7t 46 (q1y (q2s 45 (q2s 43 s))))
 have m1:q6n (q2s 46 (q1y (q2s 45 (q2s 43 s))))=some (qk7 (q2s 46 (q1y (q2s 45 (q2s 43 s))))):=if_pos (by omega)
 have m2:q6n (q2s 46 (q7t 46 (q1y (q2s 45 (q2s 43 s)))))=some (qk7 (q2s 46 (q7t 46 (q1y (q2s 45 (q2s 43 s)))))):=if_pos (by omega)
 have m3:q6n (q7t 46 (q7t 46 (q1y (q2s 45 (q2s 43 s)))))=some (qk7 (q7t 46 (q7t 46 (q1y (q2s 45 (q2s 43 s)))))):=if_pos (by omega)
 simp only [e1,Option.bind_some,e2,e3,e4,e5,m1,m2,m3]
 generalize (qk7 (q2s 46 (q1y (q2s 45 (q2s 43 s)))),(qk7 (q2s 46 (q7t 46 (q1y (q2s 45 (q2s 43 s))))),(qk7 (q7t 46 (q7t 46 (q1y (q2s 45 (q2s 43 s))))),(q7t 45 (q2s 43 s),q7t 43 s))))=v
 rw [q53 n v hn,qmk n v hn]
 cases hc:q1b v with
 | false=>simp
 | true =>
  by_cases ht:q1g v=s
  ·simp [ht]
  ·simp [ht]
theorem jox (n:Nat) (a b:Yy) (ha:a.length<=1000000) (hb:b.length<=1000000) (hn:a.length<n/\b.length<n/\3<=n):j2f n a b=some (jpq a b):=by
 unfold j2f jpq k2v qih
 rw [qam n a ha hn.1,qam n b hb hn.2.1]
 simp only [Option.bind_some,qs9,qdy]
 cases q2q a with
 | false=>cases q2q b with
  | false =>
   simp only [cond_false,Bool.false_eq_true,if_false]
   unfold ql0 qbh or2
   simp
  | true =>
   simp only [cond_false,cond_true,Bool.false_eq_true,if_false,if_true]
   unfold ql0 qbh or2
   simp
 | true=>cases q2q b with
  | false =>
   simp only [cond_false,cond_true,Bool.false_eq_true,if_false,if_true]
   unfold ql0 qbh or2
   simp
  | true =>
   simp only [cond_true,if_true]
   rw [qz1 n _ (by simp) (by simp;omega)]
   simp only [Option.bind_some,qby]
   unfold ql0
   have e0:qbh (0:Int) 0=0:=by decide
   dsimp only
   rw [e0]
   unfold or2
   simp only [if_true]
   split
   ·split<;>simp_all
   ·rfl
theorem qo8 (n:Nat) (l1 l2:List (Yy)) (h1:l1.length<=1000000) (h2:l2.length<=1000000) (hw : ∀w,w∈l1\/w∈l2->w.length<=1000000/\w.length<n) (hn:3<=n) : ∀m j:Nat,j<=l1.length->j<=l2.length->l1.length - j<m ->
  ((q6h n m l1 l2 l1 ((l1.length:Nat):Int) (j:Int)).bind fun (o5:((Int×(Unit))×(Unit)×(Unit))⊕(((List (Yy))×((List (Yy))×(Unit)))×(Unit)×(Unit)))=>Sum.elim (fun (q6:(Int×(Unit))×(Unit)×(Unit))=>some q6.1.1) (fun (q7:((List (Yy))×((List (Yy))×(Unit)))×(Unit)×(Unit))=>(bif decide (((List.length q7.1.1:Nat):Int)<((List.length q7.1.2.1:Nat):Int)) then some (-1:Int) else some (0:Int))) o5)=some (cmpL jpq (l1.drop j) (l2.drop j))
 | 0,j,_,_,h=>absurd h (Nat.not_lt_zero _)
 | m+1,j,hj,hj2,h=>by
  rw [qio]
  unfold qly
  by_cases c0:j<l1.length
  ·have c0':((j:Nat):Int)<((l1.length:Nat):Int):=by omega
   have hd:l1.drop j=l1[j]::l1.drop (j+1):=(List.drop_eq_getElem_cons c0)
   by_cases c1:j<l2.length
   ·have c1' : ¬ ((l2.length:Nat):Int)<=((j:Nat):Int):=by omega
    have hd2:l2.drop j=l2[j]::l2.drop (j+1):=(List.drop_eq_getElem_cons c1)
    have ih:=qo8 n l1 l2 h1 h2 hw hn m (j+1) (by omega) (by omega) (by omega)
    have k1:=hw l1[j] (Or.inl (List.getElem_mem c0))
    have k2:=hw l2[j] (Or.inr (List.getElem_mem c1))
    have hp:=jox n l1[j] l2[j] k1.1 k2.1 ⟨k1.2,k2.2,hn⟩
    rw [hd,hd2,cmpL]
    simp only [c0',decide_true,cond_true,q1c c0,Option.bind_some,c1',decide_false,cond_false,q1c c1,hp,q04,q0a (show j<4611686018427387904 by omega)]
    unfold or2
    by_cases h0:jpq l1[j] l2[j]=0
    ·simp only [h0,decide_true,Bool.not_true,cond_false,if_true]
     exact ih
    ·simp only [h0,decide_false,Bool.not_false,cond_true,if_false,Option.bind_some,Sum.elim_inl]
   ·have c1':((l2.length:Nat):Int)<=((j:Nat):Int):=by omega
    have hd2:l2.drop j = []:=List.drop_eq_nil_of_le (by omega)
    rw [hd,hd2,cmpL]
    simp only [c0',decide_true,cond_true,q1c c0,Option.bind_some,c1',Sum.elim_inl]
  ·have c0' : ¬ ((j:Nat):Int)<((l1.length:Nat):Int):=by omega
   have hd:l1.drop j = []:=List.drop_eq_nil_of_le (by omega)
   simp only [c0',decide_false,cond_false,Option.bind_some,Sum.elim_inr]
   have hje:j=l1.length:=by omega
   rw [hd]
   by_cases c1:j<l2.length
   ·have hd2:l2.drop j=l2[j]::l2.drop (j+1):=(List.drop_eq_getElem_cons c1)
    have c2:((l1.length:Nat):Int)<((l2.length:Nat):Int):=by omega
    rw [hd2]
    simp only [c2,decide_true,cond_true,cmpL]
   ·have hd2:l2.drop j = []:=List.drop_eq_nil_of_le (by omega)
    have c2 : ¬ ((l1.length:Nat):Int)<((l2.length:Nat):Int):=by omega
    rw [hd2]
    simp only [c2,decide_false,cond_false,cmpL]
theorem j7f (n:Nat) (l1 l2:List (Yy)) (h1:l1.length<=1000000) (h2:l2.length<=1000000) (hw : ∀w,w∈l1\/w∈l2->w.length<=1000000/\w.length<n) (hn:3<=n) (hn2:l1.length<n):qws n l1 l2 ()=some (cmpL jpq l1 l2):=by
 have:=qo8 n l1 l2 h1 h2 hw hn n 0 (Nat.zero_le _) (Nat.zero_le _) (by omega)
 rw [List.drop_zero,List.drop_zero] at this
 exact this
theorem jxb (n:Nat) (a b:Yy) (ha:a.length<=100000) (hb:b.length<=100000) (hn:a.length+3<n/\b.length+3<n):jhy n a b=some (qcw a b):=by
 unfold jhy
 by_cases hab:a=b
 ·subst hab
  rw [jm7.refl]
  simp
 ·simp only [hab,decide_false,cond_false]
  by_cases h1:a = []
  ·have hb0:b ≠ []:=fun e=>hab (by rw [h1,e])
   simp only [h1,decide_true,cond_true]
   unfold qcw ql0 jq2 qbh or2
   simp [hb0]
  ·simp only [h1,decide_false,cond_false]
   by_cases h2:b = []
   ·simp only [h2,decide_true,cond_true]
    unfold qcw ql0 jq2 qbh or2
    simp [h1]
   ·simp only [h2,decide_false,cond_false]
    have s1:qak a [46]=some (spl 46 [] a):=if_pos (by omega)
    have s2:qak b [46]=some (spl 46 [] b):=if_pos (by omega)
    have k1:=q4y 46 a []
    have k2:=q4y 46 b []
    rw [s1,s2]
    simp only [Option.bind_some]
    rw [j7f n _ _ (by omega) (by omega) (fun w hw=>by
     rcases hw with hw|hw
     ·have:=q62 46 a [] w hw;simp at this;omega
     ·have:=q62 46 b [] w hw;simp at this;omega) (by omega) (by omega)]
    unfold qcw jq2
    simp only [h1,h2,if_false]
    unfold ql0
    have e0:qbh (0:Int) 0=0:=by decide
    dsimp only
    rw [e0]
    unfold or2
    simp
theorem j2s (n:Nat) (a b:VD) (hn:100<=n):qex n a b=some (jpc a b):=by
 unfold qex jpc
 rw [q53 n a (by omega),q53 n b (by omega)]
 cases hca:q1b a with
 | false=>rfl
 | true=>cases hcb:q1b b with
  | false=>rfl
  | true =>
   obtain ⟨-,-,-,h4,-⟩:=q1k hca
   obtain ⟨-,-,-,k4,-⟩:=q1k hcb
   have t1:=q5b h4
   have t2:=q5b k4
   simp only [Option.bind_some,Bool.not_true,cond_false,qs9]
   rw [jxb n _ _ (by omega) (by omega) ⟨by omega,by omega⟩]
   simp only [Option.bind_some]
   rw [qz1 n _ (by simp) (by simp;omega)]
   simp only [Option.bind_some,qby,Bool.and_self,if_true]
   have z0 : ∀x:Int,or2 x 0=x:=fun x=>by unfold or2;split<;>simp_all
   rw [z0]
   rfl
end Go.Proofs.YtapfankgdkdkgaaGreatDoor.AM
namespace Go.Proofs.YtapfankgdkdkgaaGreatDoor.AM
open Go.RowKit
def WB (ws:List Lx.Wd):Prop:=ws.length<=100001/\∀w∈ws,w.1.length<=100001/\0<=w.2/\w.2<=100001
theorem j0z (n:Nat) (w:Lx.Wd):qxl n w=some (q42 w.1):=by
 unfold qxl q42
 by_cases h1:w.1 = [61,62]
 ·simp [h1]
 by_cases h2:w.1 = [91]
 ·simp [h2]
 by_cases h3:w.1 = [44]
 ·simp [h3]
 by_cases h4:w.1 = [93]
 ·simp [h4]
 by_cases h5:w.1 = [40]
 ·simp [h5]
 by_cases h6:w.1 = [41]
 ·simp [h6]
 simp only [h1,h2,h3,h4,h5,h6,decide_false,cond_false,Bool.or_false,Bool.false_or]
theorem qol (c:UInt8) (B:Nat) : ∀r:List (Yy),(∀x∈r,x.length<=B)->(Lib.joinTail [c] r).length<=r.length*(B+1)
 | [],_=>by simp [Lib.joinTail]
 | x::r,h=>by
  have h1:=qol c B r (fun y hy=>h y (List.mem_cons_of_mem _ hy))
  have h2:=h x (List.mem_cons_self ..)
  show ([c]++x++Lib.joinTail [c] r).length<=_
  simp only [List.length_append,List.length_cons,List.length_nil]
  rw [Nat.succ_mul]
  omega
theorem jwx (c:UInt8) (B:Nat) (r:List (Yy)) (h : ∀x∈r,x.length<=B):(Lib.join r [c]).length<=r.length*(B+1):=by
 cases r with
 | nil=>simp [Lib.join_nil]
 | cons x r =>
  rw [Lib.join_cons]
  have h1:=qol c B r (fun y hy=>h y (List.mem_cons_of_mem _ hy))
  have h2:=h x (List.mem_cons_self ..)
  simp only [List.length_append,List.length_cons]
  rw [Nat.succ_mul]
  omega
theorem k55 (w:Lx.Wd) (h:w.1.length<=100001):(qi2 w).length<=100001:=by
 unfold qi2;split
 ·exact h
 ·simp
theorem k75 {xs:List (Yy)} {c:UInt8} (hl:xs.length<=200000) (hx : ∀x∈xs,x.length<=200000):qti xs [c]=some (Lib.join xs [c]):=by
 unfold qti
 have:=jwx c 200000 xs hx
 rw [if_pos ⟨by omega,by
  have:xs.length*(200000+1)<=200000*200001:=Nat.mul_le_mul_right _ hl
  omega⟩]
theorem qhi (n:Nat) (ws:List Lx.Wd) (hw:ws.length<=100001) : ∀(m j:Nat) (out:List (Yy)),j<=ws.length->ws.length - j<m->out.length=j ->
  q8g n m ws ((ws.length:Nat):Int) (j:Int) out=some (((),()),((),(out++(ws.drop j).map qi2,())))
 | 0,j,_,_,h,_=>absurd h (Nat.not_lt_zero _)
 | m+1,j,out,hj,h,ho=>by
  rw [qmn]
  unfold qsr
  by_cases c0:j<ws.length
  ·have c0':((j:Nat):Int)<((ws.length:Nat):Int):=by omega
   have e1:out++(ws.drop j).map qi2=(out ++ [qi2 ws[j]])++(ws.drop (j+1)).map qi2:=by
    rw [List.drop_eq_getElem_cons c0];simp only [List.map_cons,List.append_assoc,List.cons_append,List.nil_append]
   simp only [c0',decide_true,cond_true,q1c c0,Option.bind_some,j0z,q04,q0a (show j<4611686018427387904 by omega)]
   rw [e1]
   cases hk:q42 ws[j].1 with
   | true =>
    have a1:q2g 16 out [ws[j].1]=some (out ++ [ws[j].1]):=q2i (by simp;omega)
    simp only [cond_true,a1,Option.bind_some]
    rw [qhi n ws hw m (j+1) _ (by omega) (by omega) (by simp;omega)]
    simp only [qi2,hk,if_true]
   | false =>
    have a1:q2g 16 out [([120]:Yy)]=some (out ++ [[120]]):=q2i (by simp;omega)
    simp only [cond_false,a1,Option.bind_some]
    rw [qhi n ws hw m (j+1) _ (by omega) (by omega) (by simp;omega)]
    simp only [qi2,hk,Bool.false_eq_true,if_false]
  ·have c0' : ¬ ((j:Nat):Int)<((ws.length:Nat):Int):=by omega
   simp only [c0',decide_false,cond_false]
   rw [List.drop_eq_nil_of_le (by omega)]
   simp
theorem qhx (n:Nat) (ws:List Lx.Wd) (hw:WB ws) (hn:ws.length<n):qcd n ws=some (shp ws):=by
 unfold qcd
 have h:=qhi n ws hw.1 n 0 [] (Nat.zero_le _) (by omega) rfl
 rw [show ((0:Nat):Int)=(0:Int) from rfl] at h
 rw [h]
 have hj:qti (ws.map qi2) [32]=some (shp ws):=k75 (by rw [List.length_map];have:=hw.1;omega) (fun x hx=>by
  obtain ⟨w,hw1,rfl⟩:=List.mem_map.1 hx
  have:=k55 w (hw.2 w hw1).1;omega)
 simp only [Option.bind_some,List.nil_append,List.drop_zero,hj]
theorem qxd (n:Nat) (l:List (Yy)) (x:Yy) (hl:l.length<=1000000) : ∀(m j:Nat),j<=l.length->l.length - j<m ->
  ∃ k:Int,(q8z n m l x ((l.length:Nat):Int) (j:Int)).bind (fun o3=>Sum.elim (fun q4=>some q4.1.1) (fun q5=>some (-1:Int)) o3)=some k/\(0<=k↔x∈l.drop j)
 | 0,j,_,h=>absurd h (Nat.not_lt_zero _)
 | m+1,j,hj,h=>by
  rw [qm2]
  unfold qt3
  by_cases c0:j<l.length
  ·have c0':((j:Nat):Int)<((l.length:Nat):Int):=by omega
   simp only [c0',decide_true,cond_true,q1c c0,Option.bind_some]
   rw [List.drop_eq_getElem_cons c0]
   by_cases hx:x=l[j]
   ·exact ⟨(j:Int),by simp only [hx,decide_true,cond_true,Option.bind_some,Sum.elim_inl],⟨fun _=>by rw [hx];exact List.mem_cons_self ..,fun _=>by omega⟩⟩
   ·simp only [hx,decide_false,cond_false,q04,q0a (show j<4611686018427387904 by omega)]
    obtain ⟨k,h1,h2⟩:=qxd n l x hl m (j+1) (by omega) (by omega)
    exact ⟨k,h1,by rw [h2,List.mem_cons];simp [hx]⟩
  ·have c0' : ¬ ((j:Nat):Int)<((l.length:Nat):Int):=by omega
   refine ⟨-1,by simp only [c0',decide_false,cond_false,Option.bind_some,Sum.elim_inr],?_⟩
   rw [List.drop_eq_nil_of_le (by omega)]
   simp
theorem q29 (n:Nat) (l:List (Yy)) (x:Yy) (hl:l.length<=1000000) (hn:l.length<n):q7e n l x=some (decide (x∈l)):=by
 unfold q7e j2q
 obtain ⟨k,h,h2⟩:=qxd n l x hl n 0 (Nat.zero_le _) (by omega)
 rw [show ((0:Nat):Int)=(0:Int) from rfl] at h
 rw [List.drop_zero] at h2
 rw [h]
 simp only [Option.bind_some]
 congr 1
 by_cases hm:x∈l
 ·rw [decide_eq_true hm,decide_eq_true (h2.2 hm)]
 ·rw [decide_eq_false hm,decide_eq_false (fun h=>hm (h2.1 h))]
theorem quw (n:Nat) (ws:List Lx.Wd) (hw:ws.length<=100001) : ∀(m j:Nat) (out:List Lx.Wd),j<=ws.length->ws.length - j<m->out.length<=j ->
  qfj n m ws ((ws.length:Nat):Int) (j:Int) out=some (((),()),((),(out++unm (ws.drop j),())))
 | 0,j,_,_,h,_=>absurd h (Nat.not_lt_zero _)
 | m+1,j,out,hj,h,ho=>by
  rw [qsa]
  unfold jf0
  by_cases c0:j<ws.length
  ·have c0':((j:Nat):Int)<((ws.length:Nat):Int):=by omega
   simp only [c0',decide_true,cond_true,q1c c0,Option.bind_some,j0z,q04,q0a (show j<4611686018427387904 by omega)]
   rw [List.drop_eq_getElem_cons c0,unm,List.filter_cons]
   cases hk:q42 ws[j].1 with
   | true =>
    simp only [Bool.not_true,cond_false,Bool.false_eq_true,if_false]
    rw [quw n ws hw m (j+1) _ (by omega) (by omega) (by omega)];rfl
   | false =>
    have a1:q2g 24 out [ws[j]]=some (out ++ [ws[j]]):=q2i (by simp;omega)
    simp only [Bool.not_false,cond_true,a1,Option.bind_some,if_true]
    rw [quw n ws hw m (j+1) _ (by omega) (by omega) (by simp;omega)]
    simp [unm]
  ·have c0' : ¬ ((j:Nat):Int)<((ws.length:Nat):Int):=by omega
   simp only [c0',decide_false,cond_false]
   rw [List.drop_eq_nil_of_le (by omega)]
   simp [unm]
theorem jvo (n:Nat) (ws:List Lx.Wd) (hw:ws.length<=100001) (hn:ws.length<n):j76 n ws=some (unm ws):=by
 unfold j76
 have h:=quw n ws hw n 0 [] (Nat.zero_le _) (by omega) (Nat.le_refl _)
 rw [show ((0:Nat):Int)=(0:Int) from rfl] at h
 rw [h];simp
theorem jrt (c:UInt8):q1e c=(!decide (((c.toNat:Nat):Int)<48) && !decide ((57:Int)<((c.toNat:Nat):Int))):=by
 unfold q1e
 by_cases h1:48<=c.toNat<;>by_cases h2:c.toNat<=57<;>simp [h1,h2]<;>omega
theorem qwr (n:Nat) (s:Yy) (hL:s.length<=1000000) : ∀m j:Nat,j<=s.length->s.length - j<m->q8h n m s ((s.length:Nat):Int) (j:Int)=some (if (s.drop j).all q1e=true then Sum.inr ((s,()),((),())) else Sum.inl ((false,()),((),())))
 | 0,j,_,h=>absurd h (Nat.not_lt_zero _)
 | m+1,j,hj,h=>by
  rw [qml]
  unfold qu2
  by_cases c0:j<s.length
  ·have c0':((j:Nat):Int)<((s.length:Nat):Int):=by omega
   rw [List.drop_eq_getElem_cons c0,List.all_cons,jrt s[j]]
   simp only [c0',decide_true,cond_true,q1l c0,Option.bind_some,q04,q0a (show j<4611686018427387904 by omega)]
   by_cases h1:((s[j].toNat:Nat):Int)<48
   ·simp [h1]
   ·by_cases h2:(57:Int)<((s[j].toNat:Nat):Int)
    ·simp [h1,h2]
    ·simp only [h1,h2,decide_false,cond_false,Bool.not_false,Bool.true_and]
     exact qwr n s hL m (j+1) (by omega) (by omega)
  ·have c0' : ¬ ((j:Nat):Int)<((s.length:Nat):Int):=by omega
   simp only [c0',decide_false,cond_false]
   rw [List.drop_eq_nil_of_le (by omega)]
   simp
theorem c48 (c:UInt8):decide (((c.toNat:Nat):Int)=48)=decide (c=48):=by
 by_cases h:c=48
 ·subst h;rfl
 ·have h2 : ¬ ((c.toNat:Nat):Int)=48:=fun h'=>by
   have h3:c.toNat=48:=by omega
   exact h (UInt8.toNat_inj.1 (h3.trans rfl))
  rw [decide_eq_false h,decide_eq_false h2]
theorem qvu (n:Nat) (s:Yy) (hL:s.length<=1000000) (hn:s.length<n):qje n s=some (q5p s):=by
 unfold qje
 have h:=qwr n s hL n 0 (Nat.zero_le _) (by omega)
 rw [show ((0:Nat):Int)=(0:Int) from rfl,List.drop_zero] at h
 rw [h]
 unfold q5p
 cases s.all q1e with
 | false=>simp
 | true =>
  simp only [if_true,Option.bind_some,Sum.elim_inr,Bool.true_and]
  by_cases h1:1<=s.length
  ·have h1':(1:Int)<=((s.length:Nat):Int):=by omega
   by_cases h2:s.length<=9
   ·have h2':((s.length:Nat):Int)<=9:=by omega
    simp only [h1',h2',h1,h2,decide_true,cond_true,Bool.true_and]
    by_cases h3:s = [48]
    ·simp [h3]
    ·cases s with
     | nil=>simp at h1
     | cons c r =>
      have:=q1l (s:=c::r) (j:=0) (by simp)
      rw [show ((0:Nat):Int)=(0:Int) from rfl] at this
      simp only [h3,decide_false,cond_false,this,Option.bind_some,Bool.false_or,List.getElem_cons_zero,List.head?_cons,Option.some.injEq]
      rw [c48]
   ·have h2' : ¬ ((s.length:Nat):Int)<=9:=by omega
    simp only [h1',h2',h1,h2,decide_true,decide_false,cond_true,cond_false,Bool.true_and,Bool.false_and]
  ·have h1' : ¬ (1:Int)<=((s.length:Nat):Int):=by omega
   simp only [h1',h1,decide_false,cond_false,Bool.false_and]
theorem j8s (n:Nat) (s:Yy) (hL:s.length<=1000000) (hn:s.length<n):qif n s=some (qde s):=by
 unfold qif qde
 obtain ⟨b,hb⟩:=qin n 46 s hL
 have l1:=qkf 46 s
 have l2:=qq2 46 s
 simp only [hb,Option.bind_some,qvu n (q2s 46 s) (by omega) (by omega),qvu n (q7t 46 s) (by omega) (by omega)]
 cases q5p (q2s 46 s)<;>simp
def errT (e:Int):IV:=qqr 126 (.agg ⟨[.int .i64 e]⟩)
def q0:Rq:=([],v0)
theorem j5z (n:Nat) (w x:Lx.Wd) (r:List Lx.Wd) (hw:w.1.length<=1000000) (hx:x.1.length<=1000000) (hn:w.1.length<n) (h4:4<=n):j84 n (w::x::r)=some (match j5i w.1 x.1 with | .inl e=>(q0,errT e) | .inr q=>(q,qdt)):=by
 unfold j84 j5i
 have i0:q0n (w::x::r) (0:Int)=some w:=q1c (l:=w::x::r) (j:=0) (by simp)
 have i1:q0n (w::x::r) (1:Int)=some x:=q1c (l:=w::x::r) (j:=1) (by simp)
 simp only [i0,i1,Option.bind_some,qha n x.1 hx h4,qb9 n w.1 hw hn]
 cases h1:okS w.1 with
 | false=>rfl
 | true =>
  cases h2:(q0e x.1).2 with
  | false=>simp [q0,v0,errT]
  | true =>
   simp only [Bool.not_true,cond_false,j0i n w.1 (q0e x.1).1 hw hn h4,Option.bind_some,Bool.true_eq_false,if_false]
   cases h3:qco w.1 (q0e x.1).1 with
   | false=>simp [q0,v0,errT]
   | true=>simp
abbrev VB:=List (Yy×(List Yy×(Bool×IV)))
def pk (σ:MS) (ln st:Int) (vb:VB):((Yy×(Yy×(Unit×(Unit×(Unit×(Unit×(Int×(Int×(Yy×(Unit×Unit))))))))))×(VB×(k5a×Unit)))×(List Rq×(List Sw×(List Rq×(List Sp×Unit)))) :=
 (((σ.mo,(σ.go,((),((),((),((),(ln,(st,(σ.bk,((),())))))))))),(vb,(σ.sd,()))),(σ.rq,(σ.sw,(σ.ex,(σ.rt,())))))
abbrev PK:=((Yy×(Yy×(Unit×(Unit×(Unit×(Unit×(Int×(Int×(Yy×(Unit×Unit))))))))))×(VB×(k5a×Unit)))×(List Rq×(List Sw×(List Rq×(List Sp×Unit))))
def Tl (x:Option (IV×PK)) (r:Int⊕MS) (ln st:Int) (vb:VB):Prop:=match r with
 | .inr σ'=>x=some (qdt,pk σ' ln st vb)
 | .inl e=>∃ y,x=some (errT e,y)
theorem Tl.bind {x:Option (IV×PK)} {r:Int⊕MS} {ln st:Int} {vb:VB} (h:Tl x r ln st vb) {f:IV×PK->Option (IV×PK)} (h1 : ∀σ',f (qdt,pk σ' ln st vb)=some (qdt,pk σ' ln st vb)) (h2 : ∀e y,∃ y',f (errT e,y)=some (errT e,y')):Tl (x.bind f) r ln st vb:=by
 cases r with
 | inr σ' =>
  have h':x=some (qdt,pk σ' ln st vb):=h
  show x.bind f=_
  rw [h'];exact h1 σ'
 | inl e =>
  obtain ⟨y,hy⟩ : ∃ y,x=some (errT e,y):=h
  obtain ⟨y',hy'⟩:=h2 e y
  exact ⟨y',by rw [hy];exact hy'⟩
theorem q5r (n:Nat) (σ:MS) (c:Cl) (w:Lx.Wd) (ln st:Int) (vb:VB) (hs:0<=st/\st<=1000000) (hw:w.1.length<=100001/\0<=w.2/\w.2<=100001) :
  Tl (q5w n () c w σ.mo σ.go ln st σ.bk vb σ.sd σ.rq σ.sw σ.ex σ.rt) (q1z σ c st w) ln st vb:=by
 unfold q5w q1z
 have e1:IntKind.wrap .i64 (st+w.2)=st+w.2:=wrap64 (by omega) (by omega)
 have e2:IntKind.wrap .i64 (st+w.2+((w.1.length:Nat):Int))=st+w.2+((w.1.length:Nat):Int):=wrap64 (by omega) (by omega)
 cases hm:q0c clT c σ.sd with
 | some v =>
  simp only [Option.isSome_some,if_true]
  exact ⟨_,by simp only [jp1,hm,Option.isSome_some,cond_true];rfl⟩
 | none =>
  simp only [Option.isSome_none,Bool.false_eq_true,if_false]
  show _=some (qdt,pk _ ln st vb)
  simp only [jp1,hm,Option.isSome_none,cond_false,q04,e1,e2]
  rfl
end Go.Proofs.YtapfankgdkdkgaaGreatDoor.AM
namespace Go.Proofs.YtapfankgdkdkgaaGreatDoor.AM
open Go.RowKit
def SB (k:Nat) (σ:MS):Prop:=σ.rq.length<=k/\σ.sw.length<=k/\σ.ex.length<=k/\σ.rt.length<=k
def StB (st:Int):Prop:=0<=st/\st<=1000000
theorem WB.head {w:Lx.Wd} {r:List Lx.Wd} (h:WB (w::r)):w.1.length<=100001/\0<=w.2/\w.2<=100001:=h.2 w (List.mem_cons_self ..)
theorem WB.tail {w:Lx.Wd} {r:List Lx.Wd} (h:WB (w::r)):WB r:=⟨by have:=h.1;simp at this;omega,fun x hx=>h.2 x (List.mem_cons_of_mem _ hx)⟩
theorem jo9 {β:Type} (x:β) (r:List β):q0n (x::r) (0:Int)=some x:=q1c (l:=x::r) (j:=0) (by simp)
theorem k6p {β:Type} (x y:β) (r:List β):q0n (x::y::r) (1:Int)=some y:=q1c (l:=x::y::r) (j:=1) (by simp)
theorem j4d (n:Nat) (σ:MS) (w:Lx.Wd) (r:List Lx.Wd) (ln st:Int) (vb:VB) (hs:StB st) (hw:WB (w::r)) (hn:200000<n) :
  Tl (qf9 n () (w::r) σ.mo σ.go ln st σ.bk vb σ.sd σ.rq σ.sw σ.ex σ.rt) (qg4 σ st qgj (w::r)) ln st vb:=by
 have hw0:=hw.head
 unfold qf9
 rw [show qg4 σ st qgj (w::r)=(if okS w.1=false then .inl 6 else q1z { σ with mo:=w.1 } (qgj,([],v0)) st w) from rfl]
 simp only [jo9,Option.bind_some,qb9 n w.1 (by omega) (by omega)]
 cases okS w.1 with
 | false=>exact ⟨_,rfl⟩
 | true =>
  simp only [Bool.not_true,cond_false,Bool.true_eq_false,if_false]
  exact (q5r n { σ with mo:=w.1 } (qgj,([],v0)) w ln st vb hs hw0).bind (fun σ'=>rfl) (fun e y=>⟨_,rfl⟩)
theorem quy (n:Nat) (σ:MS) (w:Lx.Wd) (r:List Lx.Wd) (ln st:Int) (vb:VB) (hs:StB st) (hw:WB (w::r)) (hn:200000<n) :
  Tl (q8m n () (w::r) σ.mo σ.go ln st σ.bk vb σ.sd σ.rq σ.sw σ.ex σ.rt) (qg4 σ st kGo (w::r)) ln st vb:=by
 have hw0:=hw.head
 unfold q8m
 rw [show qg4 σ st kGo (w::r)=(if qde w.1=false then .inl 7 else q1z { σ with go:=w.1 } (kGo,([],v0)) st w) from rfl]
 simp only [jo9,Option.bind_some,j8s n w.1 (by omega) (by omega)]
 cases qde w.1 with
 | false=>exact ⟨_,rfl⟩
 | true =>
  simp only [Bool.not_true,cond_false,Bool.true_eq_false,if_false]
  exact (q5r n { σ with go:=w.1 } (kGo,([],v0)) w ln st vb hs hw0).bind (fun σ'=>rfl) (fun e y=>⟨_,rfl⟩)
theorem jjc (e:Int):q4w (Subtype.val (errT e))=some false:=rfl
theorem qec:q4w (Subtype.val qdt)=some true:=rfl
theorem qy7 (n:Nat) (σ:MS) (w x:Lx.Wd) (r:List Lx.Wd) (ln st:Int) (vb:VB) (hs:StB st) (hw:WB (w::x::r)) (hb:SB 200000 σ) (hn:200000<n) :
  Tl (qc9 n () (w::x::r) σ.mo σ.go ln st σ.bk vb σ.sd σ.rq σ.sw σ.ex σ.rt) (qg4 σ st q43 (w::x::r)) ln st vb:=by
 have hw0:=hw.head
 have hx0:=hw.tail.head
 unfold qc9
 rw [show qg4 σ st q43 (w::x::r)=(match j5i w.1 x.1 with
   | .inl e=>.inl e
   | .inr q=>q1z { σ with rq:=σ.rq ++ [q] } (q43,(q.1,v0)) st x) from rfl]
 simp only [j5z n w x r (by omega) (by omega) (by omega) (by omega),Option.bind_some]
 cases j5i w.1 x.1 with
 | inl e=>exact ⟨_,by simp only [jjc,Option.bind_some,Bool.not_false,cond_true];rfl⟩
 | inr q =>
  have a1:q2g 72 σ.rq [q]=some (σ.rq ++ [q]):=q2i (by have:=hb.1;simp;omega)
  simp only [qec,Option.bind_some,Bool.not_true,cond_false,a1,k6p]
  exact (q5r n { σ with rq:=σ.rq ++ [q] } (q43,(q.1,v0)) x ln st vb hs hx0).bind (fun σ'=>rfl) (fun e y=>⟨_,rfl⟩)
theorem qyc (n:Nat) (σ:MS) (w x:Lx.Wd) (r:List Lx.Wd) (ln st:Int) (vb:VB) (hs:StB st) (hw:WB (w::x::r)) (hb:SB 200000 σ) (hn:200000<n) :
  Tl (qc0 n () (w::x::r) σ.mo σ.go ln st σ.bk vb σ.sd σ.rq σ.sw σ.ex σ.rt) (qg4 σ st qct (w::x::r)) ln st vb:=by
 have hw0:=hw.head
 have hx0:=hw.tail.head
 unfold qc0
 rw [show qg4 σ st qct (w::x::r)=(match j5i w.1 x.1 with
   | .inl e=>.inl e
   | .inr q=>q1z { σ with ex:=σ.ex ++ [q] } (qct,(q.1,q.2)) st x) from rfl]
 simp only [j5z n w x r (by omega) (by omega) (by omega) (by omega),Option.bind_some]
 cases j5i w.1 x.1 with
 | inl e=>exact ⟨_,by simp only [jjc,Option.bind_some,Bool.not_false,cond_true];rfl⟩
 | inr q =>
  have a1:q2g 72 σ.ex [q]=some (σ.ex ++ [q]):=q2i (by have:=hb.2.2.1;simp;omega)
  simp only [qec,Option.bind_some,Bool.not_true,cond_false,a1,k6p]
  exact (q5r n { σ with ex:=σ.ex ++ [q] } (qct,(q.1,q.2)) x ln st vb hs hx0).bind (fun σ'=>rfl) (fun e y=>⟨_,rfl⟩)
theorem qy3 (n:Nat) (σ:MS) (w x:Lx.Wd) (r:List Lx.Wd) (ln st:Int) (vb:VB) (hs:StB st) (hw:WB (w::x::r)) (hb:SB 200000 σ) (hn:200000<n) :
  Tl (qbe n () (w::x::r) σ.mo σ.go ln st σ.bk vb σ.sd σ.rq σ.sw σ.ex σ.rt) (qg4 σ st q9b (w::x::r)) ln st vb:=by
 have hw0:=hw.head
 have hx0:=hw.tail.head
 unfold qbe
 rw [show qg4 σ st q9b (w::x::r)=(if okS w.1=false then .inl 6 else if q4u x.1=false then .inl 6 else q1z { σ with sw:=σ.sw ++ [(w.1,x.1)] } (q9b,(w.1,v0)) st x) from rfl]
 simp only [jo9,k6p,Option.bind_some,qb9 n w.1 (by omega) (by omega),qxu]
 cases okS w.1 with
 | false=>exact ⟨_,rfl⟩
 | true =>
  simp only [Bool.not_true,cond_false,Bool.true_eq_false,if_false]
  cases q4u x.1 with
  | false=>exact ⟨_,rfl⟩
  | true =>
   have a1:q2g 32 σ.sw [(w.1,x.1)]=some (σ.sw ++ [(w.1,x.1)]):=q2i (by have:=hb.2.1;simp;omega)
   simp only [Bool.not_true,cond_false,Bool.true_eq_false,if_false,a1,Option.bind_some]
   exact (q5r n { σ with sw:=σ.sw ++ [(w.1,x.1)] } (q9b,(w.1,v0)) x ln st vb hs hx0).bind (fun σ'=>rfl) (fun e y=>⟨_,rfl⟩)
theorem qyp (n:Nat) (σ:MS) (w:Lx.Wd) (r:List Lx.Wd) (ln st:Int) (vb:VB) (hs:StB st) (hw:WB (w::r)) (hb:SB 200000 σ) (hn:200000<n) :
  Tl (qb0 n () (w::r) σ.mo σ.go ln st σ.bk vb σ.sd σ.rq σ.sw σ.ex σ.rt) (qg4 σ st ql2 (w::r)) ln st vb:=by
 have hw0:=hw.head
 have hw1:=hw.1
 obtain ⟨y,hy,hyi⟩ : ∃ y,r.getLast?.getD w=y/\q0n (w::r) (((w::r).length:Int) - 1)=some y:=by
  refine ⟨_,rfl,?_⟩
  have e0:(((w::r).length:Int) - 1)=((r.length:Nat):Int):=by simp
  rw [e0,q1c (l:=w::r) (j:=r.length) (by simp)]
  congr 1
  cases r with
  | nil=>rfl
  | cons a r=>rw [List.getLast?_eq_some_getLast (List.cons_ne_nil _ _),Option.getD_some,List.getLast_eq_getElem];simp
 have hyB:y.1.length<=100001:=by
  have hm:y∈w::r:=by
   rw [<-hy]
   cases r with
   | nil=>exact List.mem_cons_self ..
   | cons a r=>rw [List.getLast?_eq_some_getLast (List.cons_ne_nil _ _),Option.getD_some];exact List.mem_cons_of_mem _ (List.getLast_mem _)
  exact (hw.2 y hm).1
 unfold qb0
 rw [show qg4 σ st ql2 (w::r)=(if (q0e w.1).2=false then .inl 7 else if (q0e ((r.getLast?.getD w).1)).2=false then .inl 7
  else if 0<jpc (q0e w.1).1 (q0e ((r.getLast?.getD w).1)).1 then .inl 7 else .inr { σ with rt:=σ.rt ++ [jpj (q0e w.1).1 (q0e ((r.getLast?.getD w).1)).1] }) from rfl,hy]
 have e1:IntKind.wrap .i64 (((w::r).length:Int) - 1)=((w::r).length:Int) - 1:=wrap64 (by simp only [List.length_cons] at hw1 ⊢;omega) (by simp only [List.length_cons] at hw1 ⊢;omega)
 simp only [jo9,Option.bind_some,qha n w.1 (by omega) (by omega),q04,e1,hyi,qha n y.1 (by omega) (by omega),j2s n _ _ (show 100<=n by omega)]
 cases (q0e w.1).2 with
 | false=>exact ⟨_,rfl⟩
 | true =>
  simp only [Bool.not_true,cond_false,Bool.true_eq_false,if_false]
  cases (q0e y.1).2 with
  | false=>exact ⟨_,rfl⟩
  | true =>
   simp only [Bool.not_true,cond_false,Bool.true_eq_false,if_false]
   by_cases hc:0<jpc (q0e w.1).1 (q0e y.1).1
   ·simp only [hc,decide_true,cond_true,if_true]
    exact ⟨_,rfl⟩
   ·have a1:q2g 112 σ.rt [jpj (q0e w.1).1 (q0e y.1).1]=some (σ.rt ++ [jpj (q0e w.1).1 (q0e y.1).1]):=q2i (by have:=hb.2.2.2;simp;omega)
    unfold jpj at a1
    simp only [hc,decide_false,cond_false,if_false,a1,Option.bind_some]
    rfl
end Go.Proofs.YtapfankgdkdkgaaGreatDoor.AM
namespace Go.Proofs.YtapfankgdkdkgaaGreatDoor.AM
open Go.RowKit
theorem qzk (c:UInt8) : ∀(r:List (Yy)) (x:Yy),c ∉ x->(∀y∈r,c ∉ y)->spl c [] (x++Lib.joinTail [c] r)=x::r
 | [],x,hx,_=>by
  show spl c [] (x ++ [])=_
  rw [qjm c x [] [] hx];simp [spl]
 | y::r,x,hx,h=>by
  have e:Lib.joinTail [c] (y::r)=c::(y++Lib.joinTail [c] r):=by simp [Lib.joinTail]
  rw [e,qjm c x [] _ hx,List.nil_append,spl,if_pos rfl,qzk c r y (h y (List.mem_cons_self ..)) (fun z hz=>h z (List.mem_cons_of_mem _ hz))]
theorem qfa {t:Yy} (h:q42 t=true):t = [61,62]\/t = [91]\/t = [44]\/t = [93]\/t = [40]\/t = [41]:=by
 simpa [q42] using h
theorem k77 (w:Lx.Wd):(32:UInt8) ∉ qi2 w:=by
 unfold qi2
 split
 ·rename_i h
  rcases qfa h with h|h|h|h|h|h<;>rw [h]<;>decide
 ·decide
theorem jv0 {ws:List Lx.Wd} {S:Yy} (h:shp ws=S) (hS:S ≠ []):ws.map qi2=spl 32 [] S:=by
 cases ws with
 | nil=>exact absurd h.symm hS
 | cons w ws =>
  rw [<-h]
  show _=spl 32 [] (Lib.join (qi2 w::ws.map qi2) [32])
  rw [Lib.join_cons,qzk 32 _ _ (k77 w) (fun y hy=>by
   obtain ⟨z,_,rfl⟩:=List.mem_map.1 hy
   exact k77 z)]
  rfl
theorem j7i : ∀ws:List Lx.Wd,(unm ws).length=(ws.map qi2).count [120]
 | []=>rfl
 | w::ws=>by
  rw [List.map_cons,List.count_cons,unm,List.filter_cons]
  have ih:=j7i ws
  unfold unm at ih
  cases hk:q42 w.1 with
  | true =>
   have:qi2 w ≠ [120]:=by
    unfold qi2
    rw [if_pos hk]
    rcases qfa hk with h|h|h|h|h|h<;>rw [h]<;>decide
   simp [ih,this]
  | false=>simp [qi2,hk,ih]
theorem q97 {ws:List Lx.Wd} {S:Yy} {k:Nat} (h:shp ws=S) (hS:S ≠ []) (hk:(spl 32 [] S).count [120]=k):(unm ws).length=k:=by
 rw [j7i,jv0 h hS,hk]
theorem len1 {β:Type} {l:List β} (h:l.length=1) : ∃ a,l = [a]:=List.length_eq_one_iff.1 h
theorem k8l {β:Type} {l:List β} (h:l.length=2) : ∃ a b,l = [a,b]:=by
 match l,h with
 | [a,b],_=>exact ⟨a,b,rfl⟩
theorem k9f (ws:List Lx.Wd):(unm ws).length<=ws.length:=List.length_filter_le ..
theorem WB.unm {ws:List Lx.Wd} (h:WB ws):WB (unm ws):=⟨Nat.le_trans (k9f ws) h.1,fun w hw=>h.2 w (List.mem_filter.1 hw).1⟩
def vbs:VB:=[(qgj,([[120]],(false,j3o 87))),(kGo,([[120]],(false,j3o 88))),(q43,([[120,32,120]],(true,j3o 89))),(qct,([[120,32,120]],(true,j3o 90))),
 (q9b,([[120,32,61,62,32,120]],(true,j3o 91))),(ql2,([[120],[91,32,120,32,44,32,120,32,93]],(true,j3o 92)))]
theorem jdp (n:Nat):qq4 n=some ((),((vbs,()),())):=rfl
theorem q30 {x:Option (IV×PK)} {r:Int⊕MS} {ln st:Int} {vb:VB} {f:IV×PK->Option (IV×PK)} (h:Tl x r ln st vb) (hf : ∀e y,f (e,y)=some (e,y)):Tl (x.bind f) r ln st vb :=
 h.bind (fun σ'=>hf _ _) (fun e y=>⟨y,hf _ _⟩)
theorem jc8 {v:Yy} (h1:v≠qgj) (h2:v≠kGo) (h3:v≠q43) (h4:v≠qct) (h5:v≠q9b) (h6:v≠ql2):qga v vbs=none:=by
 unfold vbs
 simp only [qga,if_neg h1,if_neg h2,if_neg h3,if_neg h4,if_neg h5,if_neg h6]
theorem qr3 (n:Nat) (σ:MS) (v:Yy) (ws:List Lx.Wd) (ln st:Int) (hs:StB st) (hw:WB ws) (hb:SB 200000 σ) (hn:200000<n) :
  Tl (qcb n () v ws σ.mo σ.go ln st σ.bk vbs σ.sd σ.rq σ.sw σ.ex σ.rt) (qgc σ st v ws) ln st vbs:=by
 have hu:=hw.unm
 have hwl:=hw.1
 unfold qcb qgc
 simp only [qhx n ws hw (by omega),jvo n ws hw.1 (by omega),Option.bind_some]
 by_cases h1:v=qgj
 ·subst h1
  rw [show qga qgj vbs=some ([[120]],(false,j3o 87)) from rfl,show q4p qgj = [[120]] from rfl]
  simp only [qsf,q29 n [[120]] (shp ws) (by simp) (by simp;omega),Option.bind_some]
  by_cases hm:shp ws ∈ [[(120:UInt8)]]
  ·obtain ⟨w,hw'⟩:=len1 (q97 (k:=1) (List.mem_singleton.1 hm) (by decide) (by decide))
   rw [hw'] at hu ⊢
   rw [decide_eq_true hm,if_pos hm]
   exact q30 (j4d n σ w [] ln st vbs hs hu hn) (fun e y=>rfl)
  ·rw [decide_eq_false hm,if_neg hm];exact ⟨_,rfl⟩
 by_cases h2:v=kGo
 ·subst h2
  rw [show qga kGo vbs=some ([[120]],(false,j3o 88)) from rfl,show q4p kGo = [[120]] from rfl]
  simp only [qsf,q29 n [[120]] (shp ws) (by simp) (by simp;omega),Option.bind_some]
  by_cases hm:shp ws ∈ [[(120:UInt8)]]
  ·obtain ⟨w,hw'⟩:=len1 (q97 (k:=1) (List.mem_singleton.1 hm) (by decide) (by decide))
   rw [hw'] at hu ⊢
   rw [decide_eq_true hm,if_pos hm]
   exact q30 (quy n σ w [] ln st vbs hs hu hn) (fun e y=>rfl)
  ·rw [decide_eq_false hm,if_neg hm];exact ⟨_,rfl⟩
 by_cases h3:v=q43
 ·subst h3
  rw [show qga q43 vbs=some ([[120,32,120]],(true,j3o 89)) from rfl,show q4p q43 = [[120,32,120]] from rfl]
  simp only [qsf,q29 n [[120,32,120]] (shp ws) (by simp) (by simp;omega),Option.bind_some]
  by_cases hm:shp ws ∈ [[(120:UInt8),32,120]]
  ·obtain ⟨w,x,hw'⟩:=k8l (q97 (k:=2) (List.mem_singleton.1 hm) (by decide) (by decide))
   rw [hw'] at hu ⊢
   rw [decide_eq_true hm,if_pos hm]
   exact q30 (qy7 n σ w x [] ln st vbs hs hu hb hn) (fun e y=>rfl)
  ·rw [decide_eq_false hm,if_neg hm];exact ⟨_,rfl⟩
 by_cases h4:v=qct
 ·subst h4
  rw [show qga qct vbs=some ([[120,32,120]],(true,j3o 90)) from rfl,show q4p qct = [[120,32,120]] from rfl]
  simp only [qsf,q29 n [[120,32,120]] (shp ws) (by simp) (by simp;omega),Option.bind_some]
  by_cases hm:shp ws ∈ [[(120:UInt8),32,120]]
  ·obtain ⟨w,x,hw'⟩:=k8l (q97 (k:=2) (List.mem_singleton.1 hm) (by decide) (by decide))
   rw [hw'] at hu ⊢
   rw [decide_eq_true hm,if_pos hm]
   exact q30 (qyc n σ w x [] ln st vbs hs hu hb hn) (fun e y=>rfl)
  ·rw [decide_eq_false hm,if_neg hm];exact ⟨_,rfl⟩
 by_cases h5:v=q9b
 ·subst h5
  rw [show qga q9b vbs=some ([[120,32,61,62,32,120]],(true,j3o 91)) from rfl,show q4p q9b = [[120,32,61,62,32,120]] from rfl]
  simp only [qsf,q29 n [[120,32,61,62,32,120]] (shp ws) (by simp) (by simp;omega),Option.bind_some]
  by_cases hm:shp ws ∈ [[(120:UInt8),32,61,62,32,120]]
  ·obtain ⟨w,x,hw'⟩:=k8l (q97 (k:=2) (List.mem_singleton.1 hm) (by decide) (by decide))
   rw [hw'] at hu ⊢
   rw [decide_eq_true hm,if_pos hm]
   exact q30 (qy3 n σ w x [] ln st vbs hs hu hb hn) (fun e y=>rfl)
  ·rw [decide_eq_false hm,if_neg hm];exact ⟨_,rfl⟩
 by_cases h6:v=ql2
 ·subst h6
  rw [show qga ql2 vbs=some ([[120],[91,32,120,32,44,32,120,32,93]],(true,j3o 92)) from rfl,show q4p ql2 = [[120],[91,32,120,32,44,32,120,32,93]] from rfl]
  simp only [qsf,q29 n [[120],[91,32,120,32,44,32,120,32,93]] (shp ws) (by simp) (by simp;omega),Option.bind_some]
  by_cases hm:shp ws ∈ [[(120:UInt8)],[91,32,120,32,44,32,120,32,93]]
  ·obtain ⟨w,r,hw'⟩ : ∃ w r,unm ws=w::r:=by
    rcases List.mem_cons.1 hm with h|h
    ·obtain ⟨w,hw'⟩:=len1 (q97 (k:=1) h (by decide) (by decide))
     exact ⟨w,[],hw'⟩
    ·obtain ⟨w,x,hw'⟩:=k8l (q97 (k:=2) (List.mem_singleton.1 h) (by decide) (by decide))
     exact ⟨w,[x],hw'⟩
   rw [hw'] at hu ⊢
   rw [decide_eq_true hm,if_pos hm]
   exact q30 (qyp n σ w r ln st vbs hs hu hb hn) (fun e y=>rfl)
  ·rw [decide_eq_false hm,if_neg hm];exact ⟨_,rfl⟩
 ·rw [jc8 h1 h2 h3 h4 h5 h6,show q4p v = [] by simp only [q4p,if_neg h1,if_neg h2,if_neg h3,if_neg h4,if_neg h5,if_neg h6]]
  simp only [qsf,q29 n [] (shp ws) (by simp) (by simp;omega),Option.bind_some]
  exact ⟨_,rfl⟩
theorem jzf (v:Yy):(∃ y,qga v vbs=some y/\y.2.1=q8i v)\/(qga v vbs=none/\q8i v=false):=by
 by_cases h1:v=qgj
 ·subst h1;exact .inl ⟨_,rfl,by decide⟩
 by_cases h2:v=kGo
 ·subst h2;exact .inl ⟨_,rfl,by decide⟩
 by_cases h3:v=q43
 ·subst h3;exact .inl ⟨_,rfl,by decide⟩
 by_cases h4:v=qct
 ·subst h4;exact .inl ⟨_,rfl,by decide⟩
 by_cases h5:v=q9b
 ·subst h5;exact .inl ⟨_,rfl,by decide⟩
 by_cases h6:v=ql2
 ·subst h6;exact .inl ⟨_,rfl,by decide⟩
 ·exact .inr ⟨jc8 h1 h2 h3 h4 h5 h6,by simp only [q8i,decide_eq_false h3,decide_eq_false h4,decide_eq_false h5,decide_eq_false h6,Bool.or_self]⟩
theorem jm2 (n:Nat) (σ:MS) (v:Yy) (ws:List Lx.Wd) (ln st:Int) (hs:StB st) (hw:WB ws) (hb:SB 200000 σ) (hn:200000<n) :
  Tl (j2l n () v ws σ.mo σ.go ln st σ.bk vbs σ.sd σ.rq σ.sw σ.ex σ.rt) (if q8i v=true/\shp ws = [40] then .inr { σ with bk:=v } else qgc σ st v ws) ln st vbs:=by
 have hwl:=hw.1
 have hS:=qr3 n σ v ws ln st hs hw hb hn
 unfold j2l
 rcases jzf v with ⟨y,h1,h2⟩|⟨h1,h2⟩
 ·rw [h1]
  simp only [qsf,h2,qhx n ws hw (by omega),Option.bind_some]
  cases q8i v with
  | false =>
   simp only [cond_false,Bool.false_eq_true,false_and,if_false]
   exact q30 hS (fun e y=>rfl)
  | true =>
   simp only [cond_true,true_and]
   by_cases hp:shp ws = [40]
   ·rw [decide_eq_true hp,if_pos hp];rfl
   ·rw [decide_eq_false hp,if_neg hp]
    exact q30 hS (fun e y=>rfl)
 ·rw [h1]
  simp only [qsf,h2,Bool.false_eq_true,false_and,if_false]
  exact q30 hS (fun e y=>rfl)
theorem jgf (n:Nat) (σ:MS) (ws:List Lx.Wd) (ln st:Int) (hs:StB st) (hw:WB ws) (hb:SB 200000 σ) (hn:200000<n) :
  Tl (qkt n () ws σ.mo σ.go ln st σ.bk vbs σ.sd σ.rq σ.sw σ.ex σ.rt) (qaj σ st ws) ln st vbs:=by
 have hwl:=hw.1
 unfold qkt
 cases ws with
 | nil=>rfl
 | cons w r =>
  have c0 : ¬ ((((w::r).length:Nat):Int)=0):=by simp only [List.length_cons];omega
  have hsub:q1d (w::r) (1:Int) (((w::r).length:Nat):Int)=some r:=by
   have:=sub_le (l:=w::r) (a:=1) (b:=(w::r).length) (by simp) (Nat.le_refl _)
   rw [show ((1:Nat):Int)=(1:Int) from rfl] at this
   rw [this];simp
  unfold qaj
  simp only [c0,decide_false,cond_false,jo9,hsub,Option.bind_some,qhx n (w::r) hw (by omega)]
  by_cases hb0:σ.bk = []
  ·rw [decide_eq_true hb0,if_pos hb0]
   exact q30 (jm2 n σ w.1 r ln st hs hw.tail hb hn) (fun e y=>rfl)
  ·rw [decide_eq_false hb0,if_neg hb0]
   by_cases hp:shp (w::r) = [41]
   ·rw [cond_false,decide_eq_true hp,if_pos hp];rfl
   ·rw [cond_false,decide_eq_false hp,if_neg hp]
    exact q30 (qr3 n σ σ.bk (w::r) ln st hs hw hb hn) (fun e y=>rfl)
end Go.Proofs.YtapfankgdkdkgaaGreatDoor.AM
namespace Go.Proofs.YtapfankgdkdkgaaGreatDoor.AM
open Go.RowKit
def WAt (i:Nat) (ws:List Lx.Wd):Prop:=∀w∈ws,0<=w.2/\w.2+((w.1.length:Nat):Int)<=(i:Int)
theorem WAt.mono {i j:Nat} {ws:List Lx.Wd} (h:WAt i ws) (hj:i<=j):WAt j ws:=fun w hw=>by have:=h w hw;omega
theorem WAt.snoc {i:Nat} {ws:List Lx.Wd} {w:Lx.Wd} (h:WAt i ws) (hw:0<=w.2/\w.2+((w.1.length:Nat):Int)<=(i:Int)):WAt i (ws ++ [w]):=fun x hx=>by
 rcases List.mem_append.1 hx with hx|hx
 ·exact h x hx
 ·rw [List.mem_singleton.1 hx];exact hw
theorem WAt.addL {i:Nat} {ws:List Lx.Wd} {c:UInt8} (h:WAt i ws):WAt (i+1) (Lx.addL ws c):=by
 unfold Lx.addL
 split
 ·rename_i t p hp
  have hm:(t,p)∈ws:=List.mem_of_getLast? hp
  have h0:=h _ hm
  refine WAt.snoc (fun x hx=>?_) (by simp at h0 ⊢;omega)
  have:=h x (List.dropLast_subset _ hx)
  omega
 ·exact h.mono (by omega)
theorem qxr : ∀(l:Yy) (i:Nat) (op:Bool) (ws:List Lx.Wd),WAt i ws->WAt (i+l.length) (Lx.qwc l i op ws)
 | [],i,op,ws,h=>by rw [Lx.qwc];exact h
 | c::r,i,op,ws,h=>by
  rw [Lx.qwc,List.length_cons,show i+(r.length+1)=(i+1)+r.length by omega]
  split
  ·exact qxr r (i+1) false _ ((h.mono (by omega)).snoc (by simp))
  ·split
   ·exact qxr r (i+1) false _ (h.mono (by omega))
   ·split
    ·exact qxr r (i+1) true _ h.addL
    ·exact qxr r (i+1) true _ ((h.mono (by omega)).snoc (by simp))
theorem jz8 (t:Yy):WAt t.length (q2t t):=by
 unfold q2t Lx.qkz
 rw [Lx.qiy]
 have:=qxr (t.take (Lx.qx2 t false)) 0 false [] (fun w hw=>by cases hw)
 refine this.mono ?_
 simp;omega
theorem jiw (t:Yy) (h:t.length<=100001):WB (q2t t):=by
 refine ⟨Nat.le_trans (Lx.k0b t).1 h,fun w hw=>?_⟩
 have:=jz8 t w hw
 omega
theorem SB.mono {k j:Nat} {σ:MS} (h:SB k σ) (hj:k<=j):SB j σ:=by unfold SB at *;omega
theorem qk0 {k:Nat} {σ σ':MS} {c:Cl} {st:Int} {w:Lx.Wd} (h:SB k σ) (e:q1z σ c st w = .inr σ'):SB k σ':=by
 unfold q1z at e
 split at e
 ·cases e
 ·cases e;exact h
theorem k9g {k:Nat} {σ σ':MS} {v:Yy} {ws:List Lx.Wd} {st:Int} (h:SB k σ) (e:qg4 σ st v ws = .inr σ'):SB (k+1) σ':=by
 have h':=h.mono (Nat.le_succ k)
 obtain ⟨b1,b2,b3,b4⟩:=h
 unfold qg4 at e
 split at e
 ·cases e
 ·split at e
  ·split at e
   ·cases e
   ·refine qk0 (k:=k+1) ?_ e
    exact h'
  ·split at e
   ·split at e
    ·cases e
    ·refine qk0 (k:=k+1) ?_ e
     exact h'
   ·split at e
    ·split at e
     ·cases e
     ·exact qk0 (k:=k+1) ⟨by simp;omega,by simp;omega,by simp;omega,by simp;omega⟩ e
    ·split at e
     ·split at e
      ·cases e
      ·exact qk0 (k:=k+1) ⟨by simp;omega,by simp;omega,by simp;omega,by simp;omega⟩ e
     ·split at e
      ·split at e
       ·cases e
       ·split at e
        ·cases e
        ·exact qk0 (k:=k+1) ⟨by simp;omega,by simp;omega,by simp;omega,by simp;omega⟩ e
      ·split at e
       ·cases e
       ·split at e
        ·cases e
        ·split at e
         ·cases e
         ·cases e
          exact ⟨by simp;omega,by simp;omega,by simp;omega,by simp;omega⟩
theorem jtt {k:Nat} {σ σ':MS} {v:Yy} {ws:List Lx.Wd} {st:Int} (h:SB k σ) (e:qgc σ st v ws = .inr σ'):SB (k+1) σ':=by
 unfold qgc at e
 split at e
 ·exact k9g h e
 ·cases e
theorem jg0 {k:Nat} {σ σ':MS} {ws:List Lx.Wd} {st:Int} (h:SB k σ) (e:qaj σ st ws = .inr σ'):SB (k+1) σ':=by
 unfold qaj at e
 split at e
 ·cases e;exact h.mono (Nat.le_succ k)
 ·split at e
  ·split at e
   ·cases e;exact h.mono (Nat.le_succ k)
   ·exact jtt h e
  ·split at e
   ·cases e;exact h.mono (Nat.le_succ k)
   ·exact jtt h e
def tot:List (Yy)->Nat
 | []=>0
 | x::xs=>x.length+1+tot xs
theorem jf1 (c:UInt8) : ∀(l cur:Yy),tot (spl c cur l)=cur.length+l.length+1
 | [],cur=>by simp [spl,tot]
 | x::r,cur=>by
  rw [spl]
  split
  ·rw [tot,jf1 c r []];simp;omega
  ·rw [jf1 c r _];simp;omega
theorem j91 (s:Yy):tot (Lx.q0l s)<=s.length+1:=by
 unfold Lx.q0l
 split
 ·simp [tot]
 ·rw [jf1]
  split
  ·simp
  ·simp
theorem qun : ∀(ls:List (Yy)) (i:Nat) (out:List Lx.Ln),(Lx.q3k ls i out).2.2=0->Lx.q3k ls i out=(out++ls.map Lx.qkz,(((i+ls.length:Nat):Int),0))
 | [],i,out,_=>by rw [Lx.q3k];simp
 | x::xs,i,out,h=>by
  rw [Lx.q3k] at h ⊢
  split
  ·rename_i hc
   rw [if_pos hc] at h
   rw [qun xs (i+1) _ h]
   simp;omega
  ·rename_i hc
   rw [if_neg hc] at h
   cases h
def fauT (i e:Int):IV:=qqr 128 (.agg ⟨[.int .i64 i,Subtype.val (errT e)]⟩)
theorem k03 (i e:Int):j3p (fauT i e)=some (i,e):=rfl
theorem jw4 (i e:Int):q4w (Subtype.val (fauT i e))=some false:=rfl
theorem jzc (n:Nat):qot n=q45 n:=rfl
theorem j83 (n:Nat) (ls:List (Yy)) (a2:Int) (hl:ls.length<=100001) (hx : ∀x∈ls,x.length<=100001) (hn:200000<n) :
  ∀(m j:Nat) (st:Int) (σ:MS),j<=ls.length->ls.length - j<m->0<=st->st+((tot (ls.drop j):Nat):Int)<=1000000->SB j σ ->
  match q5o (ls.drop j) (j:Int) st σ with
  | .inl e=>∃ y,q45 n m (ls.map Lx.qkz) a2 ls ((ls.length:Nat):Int) (j:Int) vbs σ.sd σ.mo σ.go a2 st σ.bk σ.rq σ.sw σ.ex σ.rt=some (Sum.inl ((jaw,(fauT e.1 e.2,())),y))
  | .inr σ'=>∃ st',q45 n m (ls.map Lx.qkz) a2 ls ((ls.length:Nat):Int) (j:Int) vbs σ.sd σ.mo σ.go a2 st σ.bk σ.rq σ.sw σ.ex σ.rt =
    some (Sum.inr (((a2,((),())),((vbs,(σ'.sd,((σ'.mo,(σ'.go,((),((),((),((),(a2,(st',(σ'.bk,((),())))))))))),()))),(σ'.rq,(σ'.sw,(σ'.ex,(σ'.rt,()))))))))
 | 0,j,st,σ,_,h,_,_,_=>absurd h (Nat.not_lt_zero _)
 | m+1,j,st,σ,hj,h,h0,ht,hs=>by
  rw [ql6]
  unfold qto
  by_cases c0:j<ls.length
  ·have c0':((j:Nat):Int)<((ls.length:Nat):Int):=by omega
   rw [List.drop_eq_getElem_cons c0] at ht ⊢
   rw [tot] at ht
   have hxj:=hx ls[j] (List.getElem_mem c0)
   have i2:q0n (ls.map Lx.qkz) (j:Int)=some (Lx.qkz ls[j]):=by
    rw [q1c (by rw [List.length_map];exact c0)];simp
   have hL:=jgf n σ (q2t ls[j]) a2 st ⟨h0,by omega⟩ (jiw _ hxj) (hs.mono (by omega)) hn
   rw [q5o]
   simp only [c0',decide_true,cond_true,q1c c0,i2,Option.bind_some]
   cases hr:qaj σ st (q2t ls[j]) with
   | inl e =>
    rw [hr] at hL
    obtain ⟨y,hy⟩:=hL
    unfold q2t at hy
    refine ⟨((),()),?_⟩
    rw [hy]
    rfl
   | inr σ' =>
    rw [hr] at hL
    unfold q2t at hL
    have hL':_=some (qdt,pk σ' a2 st vbs):=hL
    rw [hL']
    have e1:IntKind.wrap .i64 (((ls[j].length:Nat):Int)+1)=((ls[j].length:Nat):Int)+1:=wrap64 (by omega) (by omega)
    have e2:IntKind.wrap .i64 (st+(((ls[j].length:Nat):Int)+1))=st+((ls[j].length:Nat):Int)+1:=by rw [wrap64 (by omega) (by omega)];omega
    have ih:=j83 n ls a2 hl hx hn m (j+1) (st+((ls[j].length:Nat):Int)+1) σ' (by omega) (by omega) (by omega) (by omega) (jg0 hs hr)
    simp only [pk,qec,Option.bind_some,Bool.not_true,cond_false,q04,e1,e2,q0a (show j<4611686018427387904 by omega)]
    exact ih
  ·have c0' : ¬ ((j:Nat):Int)<((ls.length:Nat):Int):=by omega
   simp only [c0',decide_false,cond_false]
   rw [List.drop_eq_nil_of_le (by omega),q5o]
   exact ⟨st,rfl⟩
theorem j1d (n:Nat) (s:Yy) (hs:s.length<=100000) (hn:200000<n) :
  match qcv s with
  | .inl e=>qg2 n s=none/\qiq n s=some (jaw,fauT e.1 e.2)
  | .inr (σ,k)=>∃ st',qg2 n s=some (((),qdt),pk σ k st' vbs):=by
 unfold qcv qg2 qiq
 obtain ⟨l1,l2⟩:=Lx.q57 s
 have l3:=j91 s
 rw [Lx.jyg n s hs (by omega)]
 by_cases h9:(Lx.q3k (Lx.q0l s) 0 []).2.2=0
 ·rw [if_neg (by simp [h9]),qun _ _ _ h9]
  have hlp:=j83 n (Lx.q0l s) ((Lx.q0l s).length:Nat) (by omega) (fun x hx=>by have:=l2 x hx;omega) hn n 0 0 ms0 (Nat.zero_le _) (by omega) (Int.le_refl _) (by rw [List.drop_zero];omega) ⟨Nat.le_refl _,Nat.le_refl _,Nat.le_refl _,Nat.le_refl _⟩
  rw [show ((0:Nat):Int)=(0:Int) from rfl,List.drop_zero] at hlp
  simp only [Option.bind_some,decide_true,Bool.not_true,cond_false,jdp,Lx.jiu n s (show s.length<=1000000 by omega),List.nil_append,Nat.zero_add,jzc]
  cases hr:q5o (Lx.q0l s) 0 0 ms0 with
  | inl e =>
   rw [hr] at hlp
   obtain ⟨y,hy⟩:=hlp
   rw [show ms0.sd = [] from rfl,show ms0.mo = [] from rfl,show ms0.go = [] from rfl,show ms0.bk = [] from rfl,show ms0.rq = [] from rfl,show ms0.sw = [] from rfl,show ms0.ex = [] from rfl,show ms0.rt = [] from rfl] at hy
   rw [hy]
   exact ⟨rfl,rfl⟩
  | inr σ =>
   rw [hr] at hlp
   obtain ⟨st',hy⟩:=hlp
   rw [show ms0.sd = [] from rfl,show ms0.mo = [] from rfl,show ms0.go = [] from rfl,show ms0.bk = [] from rfl,show ms0.rq = [] from rfl,show ms0.sw = [] from rfl,show ms0.ex = [] from rfl,show ms0.rt = [] from rfl] at hy
   rw [hy]
   simp only [Option.bind_some,Sum.elim_inr]
   by_cases hb:σ.bk = []
   ·by_cases hm:σ.mo = []
    ·simp only [hb,hm,decide_true,Bool.not_true,cond_false,cond_true,ne_eq,not_true_eq_false,if_false,if_true]
     exact ⟨trivial,rfl⟩
    ·simp only [hb,hm,decide_true,decide_false,Bool.not_true,cond_false,ne_eq,not_true_eq_false,if_false]
     exact ⟨st',by rw [<-hb];rfl⟩
   ·simp only [hb,decide_false,Bool.not_false,cond_true,ne_eq,not_false_eq_true,if_true]
    exact ⟨trivial,rfl⟩
 ·rw [if_pos h9]
  simp only [Option.bind_some,decide_eq_false h9,Bool.not_false,cond_true]
  exact ⟨trivial,rfl⟩
theorem jd9 (n:Nat) (s:Yy) (hs:s.length<=100000) (hn:200000<n):qf5 n s=some (q9i s):=by
 have h:=j1d n s hs hn
 unfold qf5 q9i
 cases hr:qcv s with
 | inl e =>
  rw [hr] at h
  obtain ⟨h1,h2⟩:=h
  rw [h1,h2]
  simp only [qsf,Option.bind_some,jw4,Bool.not_false,cond_true,k03]
 | inr x =>
  obtain ⟨σ,k⟩:=x
  rw [hr] at h
  obtain ⟨st',h1⟩:=h
  rw [h1]
  simp only [qsf,qec,Option.bind_some,Bool.not_true,cond_false]
  rfl
theorem qwx (n:Nat) (s p:Yy) (hs:s.length<=100000) (hn:200000<n):qf0 n s p=some (q5y s p):=by
 have h:=j1d n s hs hn
 unfold qf0 q5y
 cases hr:qcv s with
 | inl e =>
  rw [hr] at h
  obtain ⟨h1,h2⟩:=h
  rw [h1,h2]
  simp only [qsf,Option.bind_some,jw4,Bool.not_false,cond_true]
 | inr x =>
  obtain ⟨σ,k⟩:=x
  rw [hr] at h
  obtain ⟨st',h1⟩:=h
  rw [h1]
  simp only [qsf,qec,Option.bind_some,Bool.not_true,cond_false,pk,jp1]
  show some _=some (match q0c clT (q43,(p,v0)) σ.sd with|some x=>_|none=>_)
  cases q0c clT (q43,(p,v0)) σ.sd<;>rfl
end Go.Proofs.YtapfankgdkdkgaaGreatDoor.AM
