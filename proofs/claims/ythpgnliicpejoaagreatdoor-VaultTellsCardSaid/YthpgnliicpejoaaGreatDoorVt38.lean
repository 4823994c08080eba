
import Derived.Test.YthpgnliicpejoaaGreatDoorVt37
import Derived.Test.YthpgnliicpejoaaGreatDoorVt16
import Derived.Test.YthpgnliicpejoaaGreatDoorRows
import Derived.LaidLaws
import Derived.LaidHandle
import Derived.Stop.LaidErr
import Derived.Lib.LaidTab
import Derived.Lay
namespace Go.Proofs
open Go.RowKit
set_option linter.unusedVariables false
set_option linter.unusedSimpArgs false
namespace YthpgnliicpejoaaGreatDoor.AM
theorem qmd (N:Nat) (x:List UInt8) : ∀ (m k:Nat),32 - x.length - k<m→x.length+k≤32→q6n N m (x++List.replicate k 0)=some (((x++List.replicate (32 - x.length) 0),()),((),()))
 | 0,k,h,_=>by omega
 | m+1,k,h,hk=>by
  rw [qg7]
  unfold ql0
  by_cases c:x.length+k<32
  ·rw [decide_eq_true (by rw [List.length_append,List.length_replicate];omega),cond_true]
   have ec:q4s (x++List.replicate k 0) [0]=some (x++List.replicate (k+1) 0):=by
    unfold q4s
    rw [if_pos (by rw [List.length_append,List.length_replicate];simp;omega),List.append_assoc,List.replicate_succ']
   rw [ec,Option.bind_some]
   exact qmd N x m (k+1) (by omega) (by omega)
  ·have:k=32 - x.length:=by omega
   rw [decide_eq_false (by rw [List.length_append,List.length_replicate];omega),cond_false,this]
theorem jsy (N:Nat) (hN:100≤N) (x:List UInt8) (hx:x.length≤32):qiq N x=some (unB (RM.str (RM.q6v x))):=by
 have:=qmd N x N 0 (by omega) (by omega)
 rw [List.replicate_zero,List.append_nil] at this
 unfold qiq
 rw [this,Option.bind_some]
 congr 1
theorem jo5 (p:List UInt8) (i:Nat):unB (RM.sec (ba p) i)=unB (RM.str (RM.q6v (68::(p.drop (31*i)).take 31))):=by
 unfold RM.sec;rw [qgv]
theorem qp7 (N:Nat) (hN:200≤N) (p:List UInt8) (hp:p.length≤4096) (k:Nat) (hk:RM.q2l (ba p)=k) : ∀ (m i:Nat),k - i<m→i≤k →
  q89 N m p ((31*i:Nat):Int) (((RM.q59 (ba p)).take i).map unB)=some (((),()),((),((RM.q59 (ba p)).map unB,())))
 | 0,i,h,_=>by omega
 | m+1,i,h,hi=>by
  have hk2:k=(p.length+30) / 31:=by rw [← hk,jt3 (by rw [q29];exact hp),q29]
  rw [qij]
  unfold qsz
  by_cases c:31*i<p.length
  ·have hik:i<k:=by omega
   have w1:IntKind.wrap .i64 (((31*i:Nat):Int)+31)=((31*(i+1):Nat):Int):=by rw [wrap64 (by omega) (by omega)];omega
   have e1:min ((31*(i+1):Nat):Int) ((p.length:Nat):Int)=((min (31*(i+1)) p.length:Nat):Int):=by omega
   have es:q3g p ((31*i:Nat):Int) ((min (31*(i+1)) p.length:Nat):Int)=some ((p.drop (31*i)).take 31):=by
    rw [sub_le (by omega) (by omega)]
    congr 1
    rw [List.take_eq_take_iff]
    rw [List.length_drop]
    omega
   have hlt:((p.drop (31*i)).take 31).length≤31:=by rw [List.length_take];omega
   have ec:q4s [68] ((p.drop (31*i)).take 31)=some (68::(p.drop (31*i)).take 31):=by
    unfold q4s;rw [if_pos (by simp;omega)];rfl
   rw [decide_eq_true (by omega),cond_true,decide_eq_true (by omega),cond_true,w1,q0j,e1,q0j,es,Option.bind_some,ec,Option.bind_some,jsy N (by omega) _ (by simp;omega),Option.bind_some,q4i (by rw [List.length_map,List.length_take,RM.q1k];simp;omega),Option.bind_some,q0j]
   have e2:((RM.q59 (ba p)).take i).map unB ++ [unB (RM.str (RM.q6v (68::(p.drop (31*i)).take 31)))]=((RM.q59 (ba p)).take (i+1)).map unB:=by
    have hl:i<(RM.q59 (ba p)).length:=by rw [RM.q1k,hk];exact hik
    have eg:(RM.q59 (ba p))[i]=RM.sec (ba p) i:=by simp [RM.q59]
    have et:(RM.q59 (ba p)).take (i+1)=(RM.q59 (ba p)).take i ++ [RM.sec (ba p) i]:=by rw [List.take_add_one,List.getElem?_eq_getElem hl,eg];rfl
    rw [et,List.map_append,List.map_cons,List.map_nil,jo5]
   rw [e2]
   exact qp7 N hN p hp k hk m (i+1) (by omega) (by omega)
  ·have:k≤i:=by omega
   rw [decide_eq_false (by omega),cond_false,List.take_of_length_le (by rw [RM.q1k,hk];exact this)]
theorem jty (N:Nat) (hN:200≤N) (p:List UInt8) (hp:p.length≤4096):qnc N p=some ((RM.q59 (ba p)).map unB):=by
 have hc:=RM.q4q (ba p)
 have:=qp7 N hN p hp _ rfl N 0 (by omega) (Nat.zero_le _)
 rw [Nat.mul_zero,Int.natCast_zero,List.take_zero,List.map_nil] at this
 unfold qnc
 rw [this,Option.bind_some]
theorem qfh (N:Nat) (t:List UInt8) (p:ByteArray) (nx:Nat) (hx:nx≤10000) (k:Nat) (hk:RM.q2l p=k) (hk2:k≤133) (g:Int) (its:List (List UInt8)) : ∀ (m i:Nat),k - i<m→i≤k →
  q5f N m t ((RM.q59 p).map unB) (i:Int) g its (nx:Int) (qcg (qs4 nx p i))=some ((t,((),((),()))),(((g,(its,(nx:Int))),()),(qcg (qs4 nx p k),())))
 | 0,i,h,_=>by omega
 | m+1,i,hm,hi=>by
  have hll:((RM.q59 p).map unB).length=k:=by rw [List.length_map,RM.q1k,hk]
  rw [qik]
  unfold qu5
  rw [hll]
  by_cases c:i<k
  ·have ih:=qfh N t p nx hx k hk hk2 g its m (i+1) (by omega) (by omega)
   have hl:i<((RM.q59 p).map unB).length:=by rw [hll];exact c
   have w1:IntKind.wrap .i64 ((nx:Int)+1)=((nx+1:Nat):Int):=q0w (by omega)
   have w2:IntKind.wrap .i64 (((nx+1:Nat):Int)+(i:Int))=((nx+1+i:Nat):Int):=wrap_add (by omega) (by omega)
   have w3:IntKind.wrap .i64 ((i:Int)+1)=((i+1:Nat):Int):=q0w (by omega)
   rw [decide_eq_true (by omega),cond_true,w1,q0j,w2,q0j,q26 hl,Option.bind_some,q4i (by rw [q3t,q7k];simp;omega),Option.bind_some,w3,q0j]
   have e:qcg (qs4 nx p i) ++ [(false,(((nx+1+i:Nat):Int),((RM.q59 p).map unB)[i]))]=qcg (qs4 nx p (i+1)):=by
    unfold qcg qs4
    rw [List.range_succ,List.map_append,List.map_append]
    simp [RM.q59]
   rw [e]
   exact ih
  ·obtain rfl:i=k:=by omega
   rw [decide_eq_false (by omega),cond_false]
theorem jt0 {g:Int} {q:Nat} {p:List UInt8} (hg:0≤g∧g≤1073741824) (hq:q≤65535) (hp:p.length≤4096) : ∃ h b,q4o 2 g (q:Int) p=some (h,b)∧q6u h=some (unB (txB g q (ba p)),true):=by
 have hM:=max_eq
 have hsz:(ba p).size=p.length:=q29 p
 have hdat:(ba p).data.toList=p:=qgv p
 have hm:RM.may 2 g (q:Int) (p.length:Int) (SM.q1d 1 p):=⟨Or.inr rfl,hg,⟨by omega,by omega⟩,⟨by omega,by omega⟩,SM.qan _ _⟩
 unfold q4o
 rw [if_pos (by omega)]
 refine ⟨_,_,rfl,?_⟩
 unfold qg0
 rw [if_pos hm]
 unfold q6u
 have hs:=hm.2.2.2.2
 rw [if_pos (show qot (SM.q1d 1 p) by
  unfold qot
  have:=SM.qtd 1 p
  omega)]
 simp only
 rw [decide_eq_true hm]
 unfold txB
 rw [hdat,hsz]
theorem j38:qhn=q5f:=rfl
theorem add_d (N:Nat) (hN:600≤N) (f z nx:Nat) (g:Int) (its:List (List UInt8)) (p:List UInt8) (h1:f+z≤512) (h2:2≤z) (h3:f<nx) (h4:nx≤f+z) (hg:0≤g∧g≤1073741824) (hq:its.length≤65535) (hp:p.length≤4096) :
  qrb N ((f:Int),(z:Int)) (g,(its,(nx:Int))) p=some (if f+z<nx+1+RM.q2l (ba p) then ([],3) else (qcg (jah nx (ba p) (txB g its.length (ba p))),0)):=by
 have hcl:=RM.q4q (ba p)
 have w1:IntKind.wrap .i64 ((f:Int)+(z:Int))=((f+z:Nat):Int):=wrap_add (by omega) (by omega)
 have w2:IntKind.wrap .i64 (1+(RM.q2l (ba p):Int))=((1+RM.q2l (ba p):Nat):Int):=by rw [wrap64 (by omega) (by omega)];omega
 have w3:IntKind.wrap .i64 (((f+z:Nat):Int) - (nx:Int))=((f+z - nx:Nat):Int):=by rw [wrap64 (by omega) (by omega)];omega
 have hll:((RM.q59 (ba p)).map unB).length=RM.q2l (ba p):=by rw [List.length_map,RM.q1k]
 obtain ⟨hd,b,k1,k2⟩:=jt0 (g:=g) (q:=its.length) (p:=p) hg hq hp
 have hloop:=qfh N p (ba p) nx (by omega) (RM.q2l (ba p)) rfl hcl g its N 0 (by omega) (Nat.zero_le _)
 rw [Int.natCast_zero,show qcg (qs4 nx (ba p) 0) = [] from rfl] at hloop
 unfold qrb
 rw [qds N _ _ (by omega) (by omega),decide_eq_true (show chk (f:Int) (z:Int) from ⟨by omega,by omega,by omega⟩),Option.bind_some,Bool.not_true,cond_false,decide_eq_false (by omega),cond_false,decide_eq_false (by omega),cond_false]
 simp only [w1,q0j]
 rw [decide_eq_false (by omega),cond_false,decide_eq_false (by omega),cond_false,decide_eq_false (by omega),cond_false,decide_eq_false (by omega),cond_false,jty N (by omega) p hp,Option.bind_some,hll,w2,w3]
 by_cases c:f+z<nx+1+RM.q2l (ba p)
 ·rw [decide_eq_true (by omega),cond_true,if_pos c]
 rw [decide_eq_false (by omega),cond_false,if_neg c,hloop,Option.bind_some]
 simp only [k1,k2,Option.bind_some]
 have hA:(qcg (qs4 nx (ba p) (RM.q2l (ba p)))).length=RM.q2l (ba p):=by rw [q3t,q7k]
 rw [q4i (by simp;omega),Option.bind_some,q4i (by simp;omega),Option.bind_some,q4i (by simp;omega),Option.bind_some]
 unfold jah qcg
 rw [List.map_append]
 simp [flA,unB]
theorem jto (N:Nat) (hN:600≤N) (f z nx:Nat) (g:Int) (its:List (List UInt8)) (p:List UInt8) (h1:f+z≤512) (h2:2≤z) (h3:f<nx) (h4:nx≤f+z) (hg:0≤g∧g≤1073741824) (hq:its.length≤65535) (hp:p.length≤4096) :
  qj0 N ((f:Int),(z:Int)) (g,(its,(nx:Int))) p=some (if f+z<nx+1+RM.q2l (ba p) then (((),3),((),([],()))) else (((),0),((),(qcg (jah nx (ba p) (txB g its.length (ba p))),())))):=by
 have hcl:=RM.q4q (ba p)
 have w1:IntKind.wrap .i64 ((f:Int)+(z:Int))=((f+z:Nat):Int):=wrap_add (by omega) (by omega)
 have w2:IntKind.wrap .i64 (1+(RM.q2l (ba p):Int))=((1+RM.q2l (ba p):Nat):Int):=by rw [wrap64 (by omega) (by omega)];omega
 have w3:IntKind.wrap .i64 (((f+z:Nat):Int) - (nx:Int))=((f+z - nx:Nat):Int):=by rw [wrap64 (by omega) (by omega)];omega
 have hll:((RM.q59 (ba p)).map unB).length=RM.q2l (ba p):=by rw [List.length_map,RM.q1k]
 obtain ⟨hd,b,k1,k2⟩:=jt0 (g:=g) (q:=its.length) (p:=p) hg hq hp
 have hloop:=qfh N p (ba p) nx (by omega) (RM.q2l (ba p)) rfl hcl g its N 0 (by omega) (Nat.zero_le _)
 rw [Int.natCast_zero,show qcg (qs4 nx (ba p) 0) = [] from rfl] at hloop
 unfold qj0
 rw [qds N _ _ (by omega) (by omega),decide_eq_true (show chk (f:Int) (z:Int) from ⟨by omega,by omega,by omega⟩),Option.bind_some,Bool.not_true,cond_false,decide_eq_false (by omega),cond_false,decide_eq_false (by omega),cond_false]
 simp only [w1,q0j]
 rw [decide_eq_false (by omega),cond_false,decide_eq_false (by omega),cond_false,decide_eq_false (by omega),cond_false,decide_eq_false (by omega),cond_false,jty N (by omega) p hp,Option.bind_some,hll,w2,w3]
 by_cases c:f+z<nx+1+RM.q2l (ba p)
 ·rw [decide_eq_true (by omega),cond_true,if_pos c]
 rw [decide_eq_false (by omega),cond_false,if_neg c,j38,hloop,Option.bind_some]
 simp only [k1,k2,Option.bind_some]
 have hA:(qcg (qs4 nx (ba p) (RM.q2l (ba p)))).length=RM.q2l (ba p):=by rw [q3t,q7k]
 rw [q4i (by simp;omega),Option.bind_some,q4i (by simp;omega),Option.bind_some,q4i (by simp;omega),Option.bind_some]
 unfold jah qcg
 rw [List.map_append]
 simp [flA,unB]
end YthpgnliicpejoaaGreatDoor.AM
end Go.Proofs
namespace Go.Proofs
open Go.RowKit
set_option linter.unusedVariables false
set_option linter.unusedSimpArgs false
namespace YthpgnliicpejoaaGreatDoor.AM
theorem qqy (N n h:Nat) (hn:n≤100000) (hh:h≤1):q55 N (n:Int) (h:Int)=some ((fA n h:Int),(zA n h:Int)):=by
 unfold q55
 match h,hh with
 | 0,_ =>
  rw [decide_eq_true (show ((0:Nat):Int)=0 from rfl),cond_true,quo2 n hn,Option.bind_some]
  rfl
 | 1,_ =>
  rw [decide_eq_false (show ¬ ((1:Nat):Int)=0 by decide),cond_false]
  simp only [quo2 n hn,Option.bind_some]
  rw [qn6 (by omega) (by omega),q0j]
  rfl
theorem jko (N:Nat) (n:Int) (h1 : -9223372036854775808≤n) (h2:n≤9223372036854775807):qba N n=some (if 8≤n∧n≤512 then (j5j 0 1,0) else ([],1)):=by
 unfold qba
 by_cases c1:n<8
 ·rw [decide_eq_true c1,cond_true,if_neg (by omega)]
 ·rw [decide_eq_false c1,cond_false]
  by_cases c2:512<n
  ·rw [decide_eq_true c2,cond_true,if_neg (by omega)]
  ·rw [decide_eq_false c2,cond_false,if_pos ⟨by omega,by omega⟩]
   obtain ⟨m,rfl⟩ : ∃ m:Nat,n=(m:Int):=⟨n.toNat,by omega⟩
   show Option.bind (q55 N (m:Int) ((0:Nat):Int)) _=_
   rw [qqy N m 0 (by omega) (by omega),Option.bind_some]
   show Option.bind (q9v N ((0:Int),((m / 2:Nat):Int)) 1) _=_
   rw [jbb N 0 _ 1 (by omega) (by omega),if_pos ⟨⟨by omega,by omega,by omega⟩,by decide⟩,Option.bind_some]
   rfl
theorem j64 (N:Nat) (hN:1000≤N) (d:DkT) (hd:smD d) (hm:DM.q2y (q0x d)) (h8:8≤d.1.length) :
  ∃ l,q79 N d=some (match ji9 (flat (q0x d)) d.1.length with|some h=>((h:Int),j65 (flat (q0x d)) (fA d.1.length h) (zA d.1.length h))|none=>(-1,l)):=by
 have hdl:=(q9c d).1
 have h512:=hm.2.1
 rw [hdl] at h512
 have o0:=jm9 N hN d hd hm (fA d.1.length 0) (zA d.1.length 0) (by show 2≤d.1.length / 2;omega) (by show 0+d.1.length / 2≤512;omega) (by show 0+d.1.length / 2≤_;omega)
 have o1:=jm9 N hN d hd hm (fA d.1.length 1) (zA d.1.length 1) (by show 2≤d.1.length - d.1.length / 2;omega) (by show d.1.length / 2+(d.1.length - d.1.length / 2)≤512;omega) (by show d.1.length / 2+(d.1.length - d.1.length / 2)≤_;omega)
 refine ⟨(0,([],0)),?_⟩
 unfold q79
 show Option.bind (q55 N ((d.1.length:Nat):Int) ((0:Nat):Int)) _=_
 rw [qqy N _ 0 (by omega) (by omega),Option.bind_some,o0,Option.bind_some]
 show Option.bind (q55 N ((d.1.length:Nat):Int) ((1:Nat):Int)) _=_
 rw [qqy N _ 1 (by omega) (by omega),Option.bind_some,o1,Option.bind_some]
 generalize flat (q0x d)=B
 unfold ji9 gA
 have t5:decide ((5:Int)=0)=false:=by decide
 by_cases b0:qut B (fA d.1.length 0)
 ·rw [if_pos b0,if_pos b0]
  by_cases b1:qut B (fA d.1.length 1)
  ·rw [if_pos b1]
   simp only [decide_true,Bool.not_true,cond_false,cond_true]
   by_cases c:qk4 B (fA d.1.length 0)<qk4 B (fA d.1.length 1)
   ·rw [decide_eq_true (show (j65 B (fA d.1.length 0) (zA d.1.length 0)).1<(j65 B (fA d.1.length 1) (zA d.1.length 1)).1 from c),cond_true,if_pos ⟨b1,c⟩];rfl
   ·rw [decide_eq_false (show ¬ (j65 B (fA d.1.length 0) (zA d.1.length 0)).1<(j65 B (fA d.1.length 1) (zA d.1.length 1)).1 from c),cond_false,if_neg (fun h=>c h.2)];rfl
  ·rw [if_neg b1,if_neg (fun h=>b1 h.1)]
   simp only [decide_true,Bool.not_true,cond_false,cond_true,t5]
   rfl
 ·rw [if_neg b0,if_neg b0]
  by_cases b1:qut B (fA d.1.length 1)
  ·rw [if_pos b1,if_pos b1]
   simp only [decide_true,Bool.not_true,cond_false,cond_true,t5,Bool.not_false]
   rfl
  ·rw [if_neg b1,if_neg b1]
   simp only [decide_true,Bool.not_true,cond_false,cond_true,t5,Bool.not_false]
theorem jgl {x:List UInt8} (hx:x.length≤5000) : ∀ o∈(q8t x).1,o.2.1.length≤1000000:=fun o ho=>by
 unfold q8t at ho
 cases hp:q2t (x.length+1) x with
 | none=>rw [hp] at ho;cases ho
 | some out =>
  rw [hp] at ho
  have:=(qda _ _ _ hp).2
  simp only at ho
  split at ho
  ·have:=this o ho
   omega
  ·cases ho
theorem jq6 {l:List FD} (hl:q7s l=true) {x:List UInt8} (hx:x.length≤5000):q5k q1j l (q8t x).1=some (q5c l (q8t x).1):=by
 have h1:=j5k x
 have h3:=qd1 hl
 refine qi8 q1j l _ (by omega) (by omega) (fun f hf=>?_) (jgl hx) (by unfold q1j;omega) (by unfold q1j;omega)
 have:=qj3 (qnq (((qbr l).1 hl).2.1 f hf)).1
 omega
theorem qi6 (its:List (List UInt8)) (hits : ∀ x∈its,x.length≤5000) (hlen:its.length≤1000) (b1 b2 b3 b4 g nx h many:Int) (gg nx':Int) : ∀ (m i:Nat) (l:List FD),its.length - i<m→i≤its.length→q7s l=true →
  ∃ o,q3j q1j m (i:Int) b1 b2 b3 b4 g its nx h gg many nx' l=some o ∧
   match j7q l (its.drop i) with
   | some k=>∃ u v w,o=Sum.inr (u,((v,((h,(gg,(many,(nx',k)))),())),w))
   | none=>∃ st,o=Sum.inl (((),((4,()))),((((0:Int),((0:Int),((0:Int),((0:Int),())))),()),st))
 | 0,i,l,hm,_,_=>by omega
 | m+1,i,l,hm,hi,hl=>by
  rw [qey]
  unfold qh6
  by_cases c:i<its.length
  ·have hd:its.drop i=its[i]::its.drop (i+1):=List.drop_eq_getElem_cons c
   have hx:=hits _ (List.getElem_mem c)
   have e1:=qt9 q1j its[i] (by omega) (by unfold q1j;omega) (by unfold q1j;omega)
   have e2:=jq6 hl hx
   rw [decide_eq_true (by omega),cond_true,q26 c,Option.bind_some,e1,Option.bind_some,e2,Option.bind_some,hd]
   unfold j7q
   by_cases c1:(q8t its[i]).2=0
   case neg =>
    rw [decide_eq_false c1,Bool.not_false,cond_true,if_neg (fun h=>c1 h.1)]
    exact ⟨_,rfl,_,rfl⟩
   rw [decide_eq_true c1,Bool.not_true,cond_false]
   by_cases c2:(q5c l (q8t its[i]).1).2=0
   case neg =>
    rw [decide_eq_false c2,Bool.not_false,cond_true,if_neg (fun h=>c2 h.2)]
    exact ⟨_,rfl,_,rfl⟩
   have w1:IntKind.wrap .i64 ((i:Int)+1)=((i+1:Nat):Int):=q0w (by omega)
   rw [decide_eq_true c2,Bool.not_true,cond_false,w1,q0j,if_pos ⟨c1,c2⟩]
   exact qi6 its hits hlen b1 b2 b3 b4 g nx h many gg nx' m (i+1) _ (by omega) (by omega) (qdu (ops:=(q8t its[i]).1) (l:=l) (by rw [← c2]))
  ·rw [decide_eq_false (by omega),cond_false]
   have hd:its.drop i = []:=List.drop_eq_nil_of_le (by omega)
   rw [hd]
   exact ⟨_,rfl,_,_,_,rfl⟩
theorem j1f (d:DkT) (hd:smD d):q7j q1j d=some (qez (q0x d)):=by
 have hdl:=(q9c d).1
 unfold q7j qzi qez qus
 rw [if_pos hd,Option.bind_some]
 by_cases hm:DM.q2y (q0x d)
 case neg =>
  rw [decide_eq_false hm,Bool.not_false,cond_true,if_neg (fun h=>hm h.1)]
 rw [decide_eq_true hm,Bool.not_true,cond_false]
 have h512:d.1.length≤512:=by have:=hm.2.1;omega
 by_cases h8:8≤d.1.length
 case neg =>
  rw [decide_eq_true (by omega),cond_true,if_neg (fun h=>h8 (by omega))]
 obtain ⟨l0,hcd⟩:=j64 q1j (by unfold q1j;omega) d hd hm h8
 rw [decide_eq_false (by omega),cond_false,if_pos ⟨hm,by omega⟩,hcd,Option.bind_some,hdl]
 generalize flat (q0x d)=B
 generalize d.1.length=n at *
 cases hc:ji9 B n with
 | none=>rfl
 | some h =>
  have hh:=j06 hc
  obtain ⟨z1,z2,_⟩:=qnm h8 hh
  have hin:=(j2s (B:=B) (f:=fA n h) (z:=zA n h) (by omega) (by omega)).2.2
  have hll:((lA B n h).1.map unB).length≤1000:=by rw [List.length_map];unfold lA;omega
  obtain ⟨o,ho,hcase⟩:=qi6 ((lA B n h).1.map unB) (j3l B n h) hll 0 0 0 0 (gA B n h) ((lA B n h).2:Int) (h:Int) (((lA B n h).1.map unB).length:Int) (gA B n h) ((lA B n h).2:Int) q1j 0 [] (by unfold q1j;omega) (Nat.zero_le _) qbz
  rw [Int.natCast_zero] at ho
  rw [List.drop_zero] at hcase
  simp only
  rw [decide_eq_false (show ¬ (h:Int)<0 by omega),cond_false]
  show Option.bind (q3j q1j q1j 0 0 0 0 0 (gA B n h) ((lA B n h).1.map unB) ((lA B n h).2:Int) (h:Int) (gA B n h) (((lA B n h).1.map unB).length:Int) ((lA B n h).2:Int) []) _=_
  rw [ho,Option.bind_some]
  cases hr:j7q [] ((lA B n h).1.map unB) with
  | none =>
   rw [hr] at hcase
   obtain ⟨st,rfl⟩:=hcase
   rfl
  | some k =>
   rw [hr] at hcase
   obtain ⟨u,v,w,rfl⟩:=hcase
   simp only [Sum.elim_inr,List.length_map]
theorem jsl (d:DkT) (hd:smD d):qjk q1j d=some (jkl (q0x d)):=by
 have hdl:=(q9c d).1
 unfold qjk jkl
 rw [j1f d hd,Option.bind_some]
 unfold qez
 cases hc:qus (q0x d) with
 | inl e =>
  have he:e≠0:=by
   unfold qus at hc
   split at hc
   ·split at hc
    ·rw [← Sum.inl.inj hc];decide
    ·split at hc
     ·rw [← Sum.inl.inj hc];decide
     ·cases hc
   ·rw [← Sum.inl.inj hc];decide
  simp only [he,decide_false,Bool.not_false,cond_true]
 | inr p =>
  obtain ⟨h,fs⟩:=p
  obtain ⟨a1,a2,a3,a4,a5⟩:=qtk hc
  obtain ⟨_,h8,h512,hh,_⟩:=qqs hc
  simp only [decide_true,Bool.not_true,cond_false]
  rw [← hdl,qqy q1j _ h (by omega) hh,Option.bind_some]
  simp only
  rw [wrap_add (by omega) (by omega),q0j,qn6 (by omega) (by omega),q0j]
theorem jjj (d:DkT) (hd:smD d) {ops:List OD} (hf:jn2 ops=true):qa9 q1j d ops=some (qhf (q0x d) ops):=by
 have hdl:=(q9c d).1
 obtain ⟨f1,f2⟩:=j0o hf
 unfold qa9 qhf
 rw [j1f d hd,Option.bind_some]
 unfold qez
 cases hc:qus (q0x d) with
 | inl e =>
  have he:e≠0:=by
   unfold qus at hc
   split at hc
   ·split at hc
    ·rw [← Sum.inl.inj hc];decide
    ·split at hc
     ·rw [← Sum.inl.inj hc];decide
     ·cases hc
   ·rw [← Sum.inl.inj hc];decide
  simp only [he,decide_false,Bool.not_false,cond_true]
 | inr p =>
  obtain ⟨h,fs⟩:=p
  obtain ⟨a1,a2,a3,a4,a5⟩:=qtk hc
  obtain ⟨hm,h8,h512,hh,hcnt,hrep⟩:=qqs hc
  have hmf:=qjj _ qbz hrep
  have hel:=qsu ops
  simp only [decide_true,Bool.not_true,cond_false]
  rw [jrx hmf hf,Option.bind_some]
  by_cases c1:(q5c fs ops).2=0
  case neg=>rw [decide_eq_false c1,Bool.not_false,cond_true,if_pos c1]
  rw [decide_eq_true c1,Bool.not_true,cond_false,if_neg (show ¬ (q5c fs ops).2≠0 from fun hn=>hn c1),enc5 (by omega) f2,Option.bind_some]
  by_cases c2:(q6q ops).2=0
  case neg=>rw [decide_eq_false c2,Bool.not_false,cond_true,if_pos c2]
  rw [decide_eq_true c2,Bool.not_true,cond_false,if_neg (show ¬ (q6q ops).2≠0 from fun hn=>hn c2)]
  have haf:q7s (q5c fs ops).1=true:=qdu (ops:=ops) (l:=fs) (by rw [← c1])
  have hgen:0≤gA (flat (q0x d)) (q0x d).secs.length h∧gA (flat (q0x d)) (q0x d).secs.length h≤1073741824:=qt3 _ _
  obtain ⟨l0,hcd⟩:=j64 q1j (by unfold q1j;omega) d hd hm (by omega)
  rw [← hdl,hcnt] at hcd
  have hadd:=add_d q1j (by unfold q1j;omega) (fA (q0x d).secs.length h) (zA (q0x d).secs.length h) (lA (flat (q0x d)) (q0x d).secs.length h).2 (gA (flat (q0x d)) (q0x d).secs.length h) ((lA (flat (q0x d)) (q0x d).secs.length h).1.map unB) (q6q ops).1 (by omega) (by omega) (by omega) a2 hgen (by rw [List.length_map];omega) hel
  rw [List.length_map] at hadd
  have e1:j65 (flat (q0x d)) (fA (q0x d).secs.length h) (zA (q0x d).secs.length h)=(gA (flat (q0x d)) (q0x d).secs.length h,((lA (flat (q0x d)) (q0x d).secs.length h).1.map unB,((lA (flat (q0x d)) (q0x d).secs.length h).2:Int))):=rfl
  have hhf:=qqy q1j (q0x d).secs.length h (by omega) hh
  have hho:=qqy q1j (q0x d).secs.length (1 - h) (by omega) (by omega)
  obtain ⟨z1,z2,_⟩:=qnm (n:=(q0x d).secs.length) (h:=1 - h) h8 (by omega)
  have hml:=qd1 haf
  have hdf:qek q1j [] (q5c fs ops).1=some (q7b [] (q5c fs ops).1):=by
   refine j0v q1j [] _ (by simp) (by omega) (fun f hf=>by cases hf) (fun f hf=>?_) (by unfold q1j;simp;omega) (by unfold q1j;omega)
   have:=qj3 (qnq (((qbr _).1 haf).2.1 f hf)).1
   omega
  have hdl2:=jfi [] (q5c fs ops).1
  simp only [List.length_nil] at hdl2
  have hed:=enc5 (ops:=q7b [] (q5c fs ops).1) (by omega) (j3o haf)
  have hel2:=qsu (q7b [] (q5c fs ops).1)
  rw [hcd,Option.bind_some,← hdl,hhf,Option.bind_some]
  simp only [e1]
  rw [hadd,Option.bind_some]
  by_cases c3:fA (q0x d).secs.length h+zA (q0x d).secs.length h<(lA (flat (q0x d)) (q0x d).secs.length h).2+1+RM.q2l (ba (q6q ops).1)
  case neg =>
   rw [if_neg c3,if_neg c3]
   rfl
  rw [if_pos c3,if_pos c3]
  have t3:decide ((3:Int)=0)=false:=by decide
  simp only [t3,cond_false,hdf,Option.bind_some,hed]
  unfold jba
  have hadx:=jto q1j (by unfold q1j;omega) (fA (q0x d).secs.length (1 - h)) (zA (q0x d).secs.length (1 - h)) (fA (q0x d).secs.length (1 - h)+1) (gA (flat (q0x d)) (q0x d).secs.length h+1) [] (q6q (q7b [] (q5c fs ops).1)).1 (by omega) (by omega) (by omega) (by omega)
  generalize q6q (q7b [] (q5c fs ops).1)=q at *
  by_cases d1:q.2=0
  case neg=>rw [decide_eq_false d1,Bool.not_false,cond_true,if_pos d1]
  rw [decide_eq_true d1,Bool.not_true,cond_false,if_neg (show ¬ q.2≠0 from fun hn=>hn d1)]
  by_cases d2:gA (flat (q0x d)) (q0x d).secs.length h=1073741824
  ·rw [decide_eq_true d2,cond_true,if_pos (by omega)]
  have hadx:=hadx ⟨by omega,by omega⟩ (Nat.zero_le _) hel2
  have w0:IntKind.wrap .i64 ((1:Int) - (h:Int))=((1 - h:Nat):Int):=by rw [wrap64 (by omega) (by omega)];omega
  have w1:IntKind.wrap .i64 (gA (flat (q0x d)) (q0x d).secs.length h+1)=gA (flat (q0x d)) (q0x d).secs.length h+1:=wrap64 (by omega) (by omega)
  have w2:IntKind.wrap .i64 ((fA (q0x d).secs.length (1 - h):Int)+1)=((fA (q0x d).secs.length (1 - h)+1:Nat):Int):=q0w (by omega)
  rw [decide_eq_false d2,cond_false,if_neg (by omega),w0,q0j,hho,Option.bind_some]
  simp only [w1,w2,q0j]
  rw [hadx,Option.bind_some]
  have hcut:=RM.q4q (ba q.1)
  by_cases d3:fA (q0x d).secs.length (1 - h)+zA (q0x d).secs.length (1 - h)<fA (q0x d).secs.length (1 - h)+1+1+RM.q2l (ba q.1)
  ·rw [if_pos d3,if_pos d3]
   rfl
  ·rw [if_neg d3,if_neg d3,jbb q1j _ _ _ (by omega) (by omega),if_pos ⟨⟨by omega,by omega,by omega⟩,by omega,by omega⟩]
   simp only [decide_true,Bool.not_true,cond_false,Option.bind_some,List.length_nil]
   rw [q4i (by rw [q3t,qff];simp;omega),Option.bind_some]
   unfold j7w qcg
   rw [List.map_append]
   rfl
theorem j2j {D:DM.Dk} {ops:List OD} : (qhf D ops).1.length≤100000:=by
 unfold qhf
 cases hc:qus D with
 | inl e=>exact Nat.zero_le _
 | inr p =>
  obtain ⟨h,fs⟩:=p
  have hc1:=RM.q4q (ba (q6q ops).1)
  have hc2:=RM.q4q (ba (q6q (q7b [] (q5c fs ops).1)).1)
  simp only
  split
  ·exact Nat.zero_le _
  ·split
   ·exact Nat.zero_le _
   ·split
    ·unfold jba
     split
     ·exact Nat.zero_le _
     ·split
      ·exact Nat.zero_le _
      ·split
       ·exact Nat.zero_le _
       ·simp only [q3t,jez];omega
    ·simp only [q3t,qff];omega
theorem qzh (d:DkT) (ops:List OD) (n:Int) (hops:ops.length≤9223372036854775807) (h1 : -9223372036854775808≤n) (h2:n≤9223372036854775807):qf3 q1j d ops n=some true:=by
 unfold qf3 j09
 rw [j29]
 simp only [Option.bind_some]
 by_cases c0:DM.qhq (q0x d)
 case neg=>rw [decide_eq_false c0,Bool.not_false,cond_true]
 have hlen:=jhw c0
 have hd:smD d:=jn5 (by omega) (by omega)
 rw [decide_eq_true c0,Bool.not_true,cond_false,j9g q1j ops (by omega) (by unfold q1j;omega),Option.bind_some]
 cases hf:jn2 ops with
 | false=>rw [Bool.not_false,cond_true]
 | true =>
  obtain ⟨f1,f2⟩:=j0o hf
  rw [Bool.not_true,cond_false,ja1 q1j (by unfold q1j;omega) d hd,Option.bind_some,j1f d hd,Option.bind_some,j2y q1j (by unfold q1j;omega) d hd ops (by omega) f2,Option.bind_some,jjj d hd hf,Option.bind_some,j24 q1j n h1 h2,Option.bind_some,jko q1j n h1 h2,Option.bind_some]
  have hsame:qf9 q1j (qez (q0x d)).1 (qez (q0x d)).1=some true:=by
   unfold qez
   cases hc:qus (q0x d) with
   | inl e=>exact jtn qbz
   | inr p =>
    obtain ⟨h,fs⟩:=p
    obtain ⟨_,_,_,_,_,hrep⟩:=qqs hc
    exact jtn (qjj _ qbz hrep)
  have hal:((if 8≤n∧n≤512 then (j5j 0 1,(0:Int)) else ([],1)):AcT×Int).1.length≤100000:=by
   split
   ·show (j5j 0 1).length≤100000;decide
   ·exact Nat.zero_le _
  rw [hsame,Option.bind_some,cond_true]
  simp only [decide_true,cond_true,jn9 _ j2j,jn9 _ hal,Option.bind_some,free_spec q1j (by unfold q1j;omega) d hd,jsl d hd]
theorem qw2 (d:DkT) (ops:List OD) (n:Int) (_:qor (.prod (.lst .str) (.lst (.prod (.int .i64) .str))) d) (ho:qor (.lst (.prod .bool (.prod .str .str))) ops) (hn:(Lit.int .i64 n).wf=true):qf3 q1j d ops n=some true :=
 qzh d ops n (Nat.le_trans ho.1 qvo) (jmu hn).1 (jmu hn).2
end YthpgnliicpejoaaGreatDoor.AM
end Go.Proofs
namespace Go.Proofs
open Go.RowKit Go.Shelf Go.Lib
set_option linter.unusedVariables false
set_option linter.unusedSimpArgs false
namespace YthpgnliicpejoaaGreatDoor.AM
theorem hEt:Tryz.prog.globalNamed "errors.errorType" = some 0:=by kernel_rfl
theorem hRt:(Tryz.prog.cutTypes.find? (·.1 == "internal/reflectlite.rtype")).map (·.2)=some 197:=by kernel_rfl
theorem hOne:((List.range 277).filter fun t=>Tryz.prog.rowNamed t [101,114,114,111,114]) = [81]:=by kernel_rfl
theorem hSize:Tryz.prog.types.size=277:=by kernel_rfl
theorem jsv {w:World} (hsh:w.ShapedOpen Tryz.prog) (h:laidMetH Tryz.prog [("unicode/utf8.acceptRanges",Rows.laid_unicode_utf8_acceptRanges),("errors.errorType",Rows.laid_errors_errorType),("unicode/utf8.first",Rows.laid_unicode_utf8_first)] w):Inv w:=by
 have h':laidMet Tryz.prog [("unicode/utf8.acceptRanges",Rows.laid_unicode_utf8_acceptRanges),("unicode/utf8.first",Rows.laid_unicode_utf8_first)] w∧handlesMet Tryz.prog [("errors.errorType",Rows.laid_errors_errorType)] w:=h
 obtain ⟨name,u,ty,e1,e2,e3,e4,e5⟩:=h'.2 _ (List.mem_singleton.2 rfl)
 have en:name = [101,114,114,111,114]:=(Option.some.inj e1).symm
 subst en
 obtain rfl:=Option.some.inj (hRt.symm.trans e2)
 have hm:ty∈(List.range 277).filter fun t=>Tryz.prog.rowNamed t [101,114,114,111,114]:=List.mem_filter.2 ⟨List.mem_range.2 (by rw [← hSize];exact e3),e4⟩
 rw [hOne] at hm
 obtain rfl:=List.mem_singleton.1 hm
 have hh:typeHandle Tryz.prog 81 = .pointer (some ⟨4,81,none⟩):=by kernel_rfl
 rw [hh] at e5
 exact ⟨by simpa using World.var?_cell hEt e5 0,Tryz.laysIndex.s1_3 w hsh⟩
noncomputable def wH (os:Os):World :=
 let w0:=World.holding Tryz.prog os ⟨#[],#[],[]⟩
 {w0 with heap:=w0.heap.modify 0 fun
   | .cells _ t frozen=>.cells #[.iface 197 (.agg #[.pointer (some ⟨4,81,none⟩)])] t frozen
   | o=>o }
noncomputable def laidW (os:Os) (laid:List (String×DataW Unit)):World:=(wH os).layVars Tryz.prog laid
theorem qui {os:Os} {laid:List (String×DataW Unit)} (args:Array Value) (hf:(wH os).layFits Tryz.prog laid []=true) (hi:(wH os).layIfaces Tryz.prog laid (laidW os laid)=true) :
  laidMet Tryz.prog laid ((laidW os laid).forCall (fun _ _=>0) ⟨#[],args,[]⟩).memory:=by
 have e1:(laid.filter fun x=>(laid.map (·.1)).contains x.1)=laid:=List.filter_eq_self.2 fun x hx=>List.contains_iff_mem.2 (List.mem_map.2 ⟨x,hx,rfl⟩)
 have e2:(laid.filter fun x=>!(laid.map (·.1)).contains x.1) = []:=List.filter_eq_nil_iff.2 fun x hx=>by rw [List.contains_iff_mem.2 (List.mem_map.2 ⟨x,hx,rfl⟩)];simp
 have h:laidMet Tryz.prog laid (laidW os laid):=laidMet_layVars (w0:=wH os) (laid.map (·.1)) [] (by rw [e1];rfl) (by rw [e1];exact hf) (by rw [e1];exact hi) (by rw [e2];exact LaidIn.none)
 exact h.of_heap (by simp [World.memory,World.forCall,Input.heap])
end YthpgnliicpejoaaGreatDoor.AM
end Go.Proofs
