
import Derived.Test.YtapfankgdkdkgaaGreatDoorEa13
import Derived.Test.YtapfankgdkdkgaaGreatDoorEa17
set_option linter.unusedVariables false
set_option linter.unusedSimpArgs false
namespace Go.Proofs.YtapfankgdkdkgaaGreatDoor.AM
open Go.RowKit
abbrev Zm:=Yy×(Yy×(Unit×(Unit×(Unit×(Unit×(Int×(Int×(Yy×(Unit×Unit)))))))))
def WB (ws:List Lx.Wd):Prop:=ws.length<=100001/\∀w∈ws,w.1.length<=100001/\0<=w.2/\w.2<=100001
theorem qh3 (n:Nat) (w:Lx.Wd):qfj n w=some (q4j w.1):=by
 unfold qfj q4j
 by_cases h1:w.1 = [61,62]
 ·simp [h1]
 by_cases h2:w.1 = [91]
 ·simp [h2]
 by_cases h3:w.1 = [44]
 ·simp [h3]
 by_cases h4:w.1 = [93]
 ·simp [h4]
 by_cases h5:w.1 = [40]
 ·simp [h5]
 by_cases h6:w.1 = [41]
 ·simp [h6]
 simp only [h1,h2,h3,h4,h5,h6,decide_false,cond_false,Bool.or_false,Bool.false_or]
theorem qap (c:UInt8) (B:Nat) : ∀r:List Yy,(∀x∈r,x.length<=B)->(Lib.joinTail [c] r).length<=r.length*(B+1)
 | [],_=>by simp [Lib.joinTail]
 | x::r,h=>by
  have h1:=qap c B r (fun y hy=>h y (List.mem_cons_of_mem _ hy))
  have h2:=h x (List.mem_cons_self ..)
  show ([c]++x++Lib.joinTail [c] r).length<=_
  simp only [List.length_append,List.length_cons,List.length_nil]
  rw [Nat.succ_mul]
  omega
theorem qze (c:UInt8) (B:Nat) (r:List Yy) (h : ∀x∈r,x.length<=B):(Lib.join r [c]).length<=r.length*(B+1):=by
 cases r with
 | nil=>simp [Lib.join_nil]
 | cons x r =>
  rw [Lib.join_cons]
  have h1:=qap c B r (fun y hy=>h y (List.mem_cons_of_mem _ hy))
  have h2:=h x (List.mem_cons_self ..)
  simp only [List.length_append,List.length_cons]
  rw [Nat.succ_mul]
  omega
theorem j71 (w:Lx.Wd) (h:w.1.length<=100001):(q7h w).length<=100001:=by
 unfold q7h;split
 ·exact h
 ·simp
theorem jbj {xs:List Yy} {c:UInt8} (hl:xs.length<=200000) (hx : ∀x∈xs,x.length<=200000):qdb xs [c]=some (Lib.join xs [c]):=by
 unfold qdb
 have:=qze c 200000 xs hx
 rw [if_pos ⟨by omega,by
  have:xs.length*(200000+1)<=200000*200001:=Nat.mul_le_mul_right _ hl
  omega⟩]
theorem q7k (n:Nat) (ws:List Lx.Wd) (hw:ws.length<=100001) : ∀(m j:Nat) (out:List Yy),j<=ws.length->ws.length - j<m->out.length=j ->
  q45 n m ws ((ws.length:Nat):Int) (j:Int) out=some (((),()),((),(out++(ws.drop j).map q7h,())))
 | 0,j,_,_,h,_=>absurd h (Nat.not_lt_zero _)
 | m+1,j,out,hj,h,ho=>by
  rw [q9t]
  unfold qfm
  by_cases c0:j<ws.length
  ·have c0':((j:Nat):Int)<((ws.length:Nat):Int):=by omega
   have e1:out++(ws.drop j).map q7h=(out ++ [q7h ws[j]])++(ws.drop (j+1)).map q7h:=by
    rw [List.drop_eq_getElem_cons c0];simp only [List.map_cons,List.append_assoc,List.cons_append,List.nil_append]
   simp only [c0',decide_true,cond_true,q26 c0,Option.bind_some,qh3,q0b,q0q (show j<4611686018427387904 by omega)]
   rw [e1]
   cases hk:q4j ws[j].1 with
   | true =>
    have a1:q5b 16 out [ws[j].1]=some (out ++ [ws[j].1]):=q78 (by simp;omega)
    simp only [cond_true,a1,Option.bind_some]
    rw [q7k n ws hw m (j+1) _ (by omega) (by omega) (by simp;omega)]
    simp only [q7h,hk,if_true]
   | false =>
    have a1:q5b 16 out [([120]:Yy)]=some (out ++ [[120]]):=q78 (by simp;omega)
    simp only [cond_false,a1,Option.bind_some]
    rw [q7k n ws hw m (j+1) _ (by omega) (by omega) (by simp;omega)]
    simp only [q7h,hk,Bool.false_eq_true,if_false]
  ·have c0' : ¬ ((j:Nat):Int)<((ws.length:Nat):Int):=by omega
   simp only [c0',decide_false,cond_false]
   rw [List.drop_eq_nil_of_le (by omega)]
   simp
theorem q7o (n:Nat) (ws:List Lx.Wd) (hw:WB ws) (hn:ws.length<n):q5d n ws=some (shp ws):=by
 unfold q5d
 have h:=q7k n ws hw.1 n 0 [] (Nat.zero_le _) (by omega) rfl
 rw [show ((0:Nat):Int)=(0:Int) from rfl] at h
 rw [h]
 have hj:qdb (ws.map q7h) [32]=some (shp ws):=jbj (by rw [List.length_map];have:=hw.1;omega) (fun x hx=>by
  obtain ⟨w,hw1,rfl⟩:=List.mem_map.1 hx
  have:=j71 w (hw.2 w hw1).1;omega)
 simp only [Option.bind_some,List.nil_append,List.drop_zero,hj]
theorem qdo (n:Nat) (l:List Yy) (x:Yy) (hl:l.length<=1000000) : ∀(m j:Nat),j<=l.length->l.length - j<m ->
  ∃ k:Int,(q41 n m l x ((l.length:Nat):Int) (j:Int)).bind (fun o3=>Sum.elim (fun q4=>some q4.1.1) (fun q5=>some (-1:Int)) o3)=some k/\(0<=k↔x∈l.drop j)
 | 0,j,_,h=>absurd h (Nat.not_lt_zero _)
 | m+1,j,hj,h=>by
  rw [q9x]
  unfold qci
  by_cases c0:j<l.length
  ·have c0':((j:Nat):Int)<((l.length:Nat):Int):=by omega
   simp only [c0',decide_true,cond_true,q26 c0,Option.bind_some]
   rw [List.drop_eq_getElem_cons c0]
   by_cases hx:x=l[j]
   ·exact ⟨(j:Int),by simp only [hx,decide_true,cond_true,Option.bind_some,Sum.elim_inl],⟨fun _=>by rw [hx];exact List.mem_cons_self ..,fun _=>by omega⟩⟩
   ·simp only [hx,decide_false,cond_false,q0b,q0q (show j<4611686018427387904 by omega)]
    obtain ⟨k,h1,h2⟩:=qdo n l x hl m (j+1) (by omega) (by omega)
    exact ⟨k,h1,by rw [h2,List.mem_cons];simp [hx]⟩
  ·have c0' : ¬ ((j:Nat):Int)<((l.length:Nat):Int):=by omega
   refine ⟨-1,by simp only [c0',decide_false,cond_false,Option.bind_some,Sum.elim_inr],?_⟩
   rw [List.drop_eq_nil_of_le (by omega)]
   simp
theorem q14 (n:Nat) (l:List Yy) (x:Yy) (hl:l.length<=1000000) (hn:l.length<n):q3n n l x=some (decide (x∈l)):=by
 unfold q3n qhs
 obtain ⟨k,h,h2⟩:=qdo n l x hl n 0 (Nat.zero_le _) (by omega)
 rw [show ((0:Nat):Int)=(0:Int) from rfl] at h
 rw [List.drop_zero] at h2
 rw [h]
 simp only [Option.bind_some]
 congr 1
 by_cases hm:x∈l
 ·rw [decide_eq_true hm,decide_eq_true (h2.2 hm)]
 ·rw [decide_eq_false hm,decide_eq_false (fun h=>hm (h2.1 h))]
theorem qfo (n:Nat) (ws:List Lx.Wd) (hw:ws.length<=100001) : ∀(m j:Nat) (out:List Lx.Wd),j<=ws.length->ws.length - j<m->out.length<=j ->
  q6n n m ws ((ws.length:Nat):Int) (j:Int) out=some (((),()),((),(out++unm (ws.drop j),())))
 | 0,j,_,_,h,_=>absurd h (Nat.not_lt_zero _)
 | m+1,j,out,hj,h,ho=>by
  rw [qcz]
  unfold qpi
  by_cases c0:j<ws.length
  ·have c0':((j:Nat):Int)<((ws.length:Nat):Int):=by omega
   simp only [c0',decide_true,cond_true,q26 c0,Option.bind_some,qh3,q0b,q0q (show j<4611686018427387904 by omega)]
   rw [List.drop_eq_getElem_cons c0,unm,List.filter_cons]
   cases hk:q4j ws[j].1 with
   | true =>
    simp only [Bool.not_true,cond_false,Bool.false_eq_true,if_false]
    rw [qfo n ws hw m (j+1) _ (by omega) (by omega) (by omega)];rfl
   | false =>
    have a1:q5b 24 out [ws[j]]=some (out ++ [ws[j]]):=q78 (by simp;omega)
    simp only [Bool.not_false,cond_true,a1,Option.bind_some,if_true]
    rw [qfo n ws hw m (j+1) _ (by omega) (by omega) (by simp;omega)]
    simp [unm]
  ·have c0' : ¬ ((j:Nat):Int)<((ws.length:Nat):Int):=by omega
   simp only [c0',decide_false,cond_false]
   rw [List.drop_eq_nil_of_le (by omega)]
   simp [unm]
theorem qzv (n:Nat) (ws:List Lx.Wd) (hw:ws.length<=100001) (hn:ws.length<n):qmp n ws=some (unm ws):=by
 unfold qmp
 have h:=qfo n ws hw n 0 [] (Nat.zero_le _) (by omega) (Nat.le_refl _)
 rw [show ((0:Nat):Int)=(0:Int) from rfl] at h
 rw [h];simp
theorem j82 (c:UInt8):q1i c=(!decide (((c.toNat:Nat):Int)<48) && !decide ((57:Int)<((c.toNat:Nat):Int))):=by
 unfold q1i
 by_cases h1:48<=c.toNat<;>by_cases h2:c.toNat<=57<;>simp [h1,h2]<;>omega
theorem qcs (n:Nat) (s:Yy) (hL:s.length<=1000000) : ∀m j:Nat,j<=s.length->s.length - j<m->q3w n m s ((s.length:Nat):Int) (j:Int)=some (if (s.drop j).all q1i=true then Sum.inr ((s,()),((),())) else Sum.inl ((false,()),((),())))
 | 0,j,_,h=>absurd h (Nat.not_lt_zero _)
 | m+1,j,hj,h=>by
  rw [q9p]
  unfold qdj
  by_cases c0:j<s.length
  ·have c0':((j:Nat):Int)<((s.length:Nat):Int):=by omega
   rw [List.drop_eq_getElem_cons c0,List.all_cons,j82 s[j]]
   simp only [c0',decide_true,cond_true,q89 c0,Option.bind_some,q0b,q0q (show j<4611686018427387904 by omega)]
   by_cases h1:((s[j].toNat:Nat):Int)<48
   ·simp [h1]
   ·by_cases h2:(57:Int)<((s[j].toNat:Nat):Int)
    ·simp [h1,h2]
    ·simp only [h1,h2,decide_false,cond_false,Bool.not_false,Bool.true_and]
     exact qcs n s hL m (j+1) (by omega) (by omega)
  ·have c0' : ¬ ((j:Nat):Int)<((s.length:Nat):Int):=by omega
   simp only [c0',decide_false,cond_false]
   rw [List.drop_eq_nil_of_le (by omega)]
   simp
theorem c48 (c:UInt8):decide (((c.toNat:Nat):Int)=48)=decide (c=48):=by
 by_cases h:c=48
 ·subst h;rfl
 ·have h2 : ¬ ((c.toNat:Nat):Int)=48:=fun h'=>by
   have h3:c.toNat=48:=by omega
   exact h (UInt8.toNat_inj.1 (h3.trans rfl))
  rw [decide_eq_false h,decide_eq_false h2]
theorem qeo (n:Nat) (s:Yy) (hL:s.length<=1000000) (hn:s.length<n):q84 n s=some (q8g s):=by
 unfold q84
 have h:=qcs n s hL n 0 (Nat.zero_le _) (by omega)
 rw [show ((0:Nat):Int)=(0:Int) from rfl,List.drop_zero] at h
 rw [h]
 unfold q8g
 cases s.all q1i with
 | false=>simp
 | true =>
  simp only [if_true,Option.bind_some,Sum.elim_inr,Bool.true_and]
  by_cases h1:1<=s.length
  ·have h1':(1:Int)<=((s.length:Nat):Int):=by omega
   by_cases h2:s.length<=9
   ·have h2':((s.length:Nat):Int)<=9:=by omega
    simp only [h1',h2',h1,h2,decide_true,cond_true,Bool.true_and]
    by_cases h3:s = [48]
    ·simp [h3]
    ·cases s with
     | nil=>simp at h1
     | cons c r =>
      have:=q89 (s:=c::r) (j:=0) (by simp)
      rw [show ((0:Nat):Int)=(0:Int) from rfl] at this
      simp only [h3,decide_false,cond_false,this,Option.bind_some,Bool.false_or,List.getElem_cons_zero,List.head?_cons,Option.some.injEq]
      rw [c48]
   ·have h2' : ¬ ((s.length:Nat):Int)<=9:=by omega
    simp only [h1',h2',h1,h2,decide_true,decide_false,cond_true,cond_false,Bool.true_and,Bool.false_and]
  ·have h1' : ¬ (1:Int)<=((s.length:Nat):Int):=by omega
   simp only [h1',h1,decide_false,cond_false,Bool.false_and]
theorem qko (n:Nat) (s:Yy) (hL:s.length<=1000000) (hn:s.length<n):q86 n s=some (qaz s):=by
 unfold q86 qaz
 obtain ⟨b,hb⟩:=q8l n 46 s hL
 have l1:=q7v 46 s
 have l2:=qba 46 s
 simp only [hb,Option.bind_some,qeo n (q1v 46 s) (by omega) (by omega),qeo n (q71 46 s) (by omega) (by omega)]
 cases q8g (q1v 46 s)<;>simp
def errT (e:Int):IV:=qbb 126 (.agg ⟨[.int .i64 e]⟩)
def q0:Rq:=([],v0)
theorem ql2 (n:Nat) (w x:Lx.Wd) (r:List Lx.Wd) (hw:w.1.length<=1000000) (hx:x.1.length<=1000000) (hn:w.1.length<n) (h4:4<=n):qlg n (w::x::r)=some (match qfr w.1 x.1 with | .inl e=>(q0,errT e) | .inr q=>(q,q6a)):=by
 unfold qlg qfr
 have i0:q1t (w::x::r) (0:Int)=some w:=q26 (l:=w::x::r) (j:=0) (by simp)
 have i1:q1t (w::x::r) (1:Int)=some x:=q26 (l:=w::x::r) (j:=1) (by simp)
 simp only [i0,i1,Option.bind_some,q7q n x.1 hx h4,q55 n w.1 hw hn]
 cases h1:okS w.1 with
 | false=>rfl
 | true =>
  cases h2:(q0k x.1).2 with
  | false=>simp [q0,v0,errT]
  | true =>
   simp only [Bool.not_true,cond_false,qgt n w.1 (q0k x.1).1 hw hn h4,Option.bind_some,Bool.true_eq_false,if_false]
   cases h3:q2t w.1 (q0k x.1).1 with
   | false=>simp [q0,v0,errT]
   | true=>simp
abbrev VB:=List (Yy×(List Yy×(Bool×IV)))
def pk (σ:MS) (ln st:Int) (vb:VB):(Zm×(VB×(j4w×Unit)))×(List Rq×(List Sw×(List Rq×(List Sp×Unit)))) :=
 (((σ.mo,(σ.go,((),((),((),((),(ln,(st,(σ.bk,((),())))))))))),(vb,(σ.sd,()))),(σ.rq,(σ.sw,(σ.ex,(σ.rt,())))))
abbrev PK:=(Zm×(VB×(j4w×Unit)))×(List Rq×(List Sw×(List Rq×(List Sp×Unit))))
def Tl (x:Option (IV×PK)) (r:Int⊕MS) (ln st:Int) (vb:VB):Prop:=match r with
 | .inr σ'=>x=some (q6a,pk σ' ln st vb)
 | .inl e=>∃ y,x=some (errT e,y)
theorem Tl.bind {x:Option (IV×PK)} {r:Int⊕MS} {ln st:Int} {vb:VB} (h:Tl x r ln st vb) {f:IV×PK->Option (IV×PK)} (h1 : ∀σ',f (q6a,pk σ' ln st vb)=some (q6a,pk σ' ln st vb)) (h2 : ∀e y,∃ y',f (errT e,y)=some (errT e,y')):Tl (x.bind f) r ln st vb:=by
 cases r with
 | inr σ' =>
  have h':x=some (q6a,pk σ' ln st vb):=h
  show x.bind f=_
  rw [h'];exact h1 σ'
 | inl e =>
  obtain ⟨y,hy⟩ : ∃ y,x=some (errT e,y):=h
  obtain ⟨y',hy'⟩:=h2 e y
  exact ⟨y',by rw [hy];exact hy'⟩
theorem q2w (n:Nat) (σ:MS) (c:Cl) (w:Lx.Wd) (ln st:Int) (vb:VB) (hs:0<=st/\st<=1000000) (hw:w.1.length<=100001/\0<=w.2/\w.2<=100001) :
  Tl (q2r n () c w σ.mo σ.go ln st σ.bk vb σ.sd σ.rq σ.sw σ.ex σ.rt) (q0p σ c st w) ln st vb:=by
 unfold q2r q0p
 have e1:IntKind.wrap .i64 (st+w.2)=st+w.2:=wrap64 (by omega) (by omega)
 have e2:IntKind.wrap .i64 (st+w.2+((w.1.length:Nat):Int))=st+w.2+((w.1.length:Nat):Int):=wrap64 (by omega) (by omega)
 cases hm:q01 clT c σ.sd with
 | some v =>
  simp only [Option.isSome_some,if_true]
  exact ⟨_,by simp only [qt7,hm,Option.isSome_some,cond_true];rfl⟩
 | none =>
  simp only [Option.isSome_none,Bool.false_eq_true,if_false]
  show _=some (q6a,pk _ ln st vb)
  simp only [qt7,hm,Option.isSome_none,cond_false,q0b,e1,e2]
  rfl
def SB (k:Nat) (σ:MS):Prop:=σ.rq.length<=k/\σ.sw.length<=k/\σ.ex.length<=k/\σ.rt.length<=k
def StB (st:Int):Prop:=0<=st/\st<=1000000
theorem WB.head {w:Lx.Wd} {r:List Lx.Wd} (h:WB (w::r)):w.1.length<=100001/\0<=w.2/\w.2<=100001:=h.2 w (List.mem_cons_self ..)
theorem WB.tail {w:Lx.Wd} {r:List Lx.Wd} (h:WB (w::r)):WB r:=⟨by have:=h.1;simp at this;omega,fun x hx=>h.2 x (List.mem_cons_of_mem _ hx)⟩
theorem jbn {β:Type} (x:β) (r:List β):q1t (x::r) (0:Int)=some x:=q26 (l:=x::r) (j:=0) (by simp)
theorem idx1 {β:Type} (x y:β) (r:List β):q1t (x::y::r) (1:Int)=some y:=q26 (l:=x::y::r) (j:=1) (by simp)
theorem qi2 (n:Nat) (σ:MS) (w:Lx.Wd) (r:List Lx.Wd) (ln st:Int) (vb:VB) (hs:StB st) (hw:WB (w::r)) (hn:200000<n) :
  Tl (q6f n () (w::r) σ.mo σ.go ln st σ.bk vb σ.sd σ.rq σ.sw σ.ex σ.rt) (qan σ st qd9 (w::r)) ln st vb:=by
 have hw0:=hw.head
 unfold q6f
 rw [show qan σ st qd9 (w::r)=(if okS w.1=false then .inl 6 else q0p { σ with mo:=w.1 } (qd9,([],v0)) st w) from rfl]
 simp only [jbn,Option.bind_some,q55 n w.1 (by omega) (by omega)]
 cases okS w.1 with
 | false=>exact ⟨_,rfl⟩
 | true =>
  simp only [Bool.not_true,cond_false,Bool.true_eq_false,if_false]
  exact (q2w n { σ with mo:=w.1 } (qd9,([],v0)) w ln st vb hs hw0).bind (fun σ'=>rfl) (fun e y=>⟨_,rfl⟩)
theorem qes (n:Nat) (σ:MS) (w:Lx.Wd) (r:List Lx.Wd) (ln st:Int) (vb:VB) (hs:StB st) (hw:WB (w::r)) (hn:200000<n) :
  Tl (q49 n () (w::r) σ.mo σ.go ln st σ.bk vb σ.sd σ.rq σ.sw σ.ex σ.rt) (qan σ st kGo (w::r)) ln st vb:=by
 have hw0:=hw.head
 unfold q49
 rw [show qan σ st kGo (w::r)=(if qaz w.1=false then .inl 7 else q0p { σ with go:=w.1 } (kGo,([],v0)) st w) from rfl]
 simp only [jbn,Option.bind_some,qko n w.1 (by omega) (by omega)]
 cases qaz w.1 with
 | false=>exact ⟨_,rfl⟩
 | true =>
  simp only [Bool.not_true,cond_false,Bool.true_eq_false,if_false]
  exact (q2w n { σ with go:=w.1 } (kGo,([],v0)) w ln st vb hs hw0).bind (fun σ'=>rfl) (fun e y=>⟨_,rfl⟩)
theorem qsg (e:Int):q2i (Subtype.val (errT e))=some false:=rfl
theorem q6e:q2i (Subtype.val q6a)=some true:=rfl
theorem qgc (n:Nat) (σ:MS) (w x:Lx.Wd) (r:List Lx.Wd) (ln st:Int) (vb:VB) (hs:StB st) (hw:WB (w::x::r)) (hb:SB 200000 σ) (hn:200000<n) :
  Tl (q4z n () (w::x::r) σ.mo σ.go ln st σ.bk vb σ.sd σ.rq σ.sw σ.ex σ.rt) (qan σ st q0r (w::x::r)) ln st vb:=by
 have hw0:=hw.head
 have hx0:=hw.tail.head
 unfold q4z
 rw [show qan σ st q0r (w::x::r)=(match qfr w.1 x.1 with
   | .inl e=>.inl e
   | .inr q=>q0p { σ with rq:=σ.rq ++ [q] } (q0r,(q.1,v0)) st x) from rfl]
 simp only [ql2 n w x r (by omega) (by omega) (by omega) (by omega),Option.bind_some]
 cases qfr w.1 x.1 with
 | inl e=>exact ⟨_,by simp only [qsg,Option.bind_some,Bool.not_false,cond_true];rfl⟩
 | inr q =>
  have a1:q5b 72 σ.rq [q]=some (σ.rq ++ [q]):=q78 (by have:=hb.1;simp;omega)
  simp only [q6e,Option.bind_some,Bool.not_true,cond_false,a1,idx1]
  exact (q2w n { σ with rq:=σ.rq ++ [q] } (q0r,(q.1,v0)) x ln st vb hs hx0).bind (fun σ'=>rfl) (fun e y=>⟨_,rfl⟩)
theorem qg6 (n:Nat) (σ:MS) (w x:Lx.Wd) (r:List Lx.Wd) (ln st:Int) (vb:VB) (hs:StB st) (hw:WB (w::x::r)) (hb:SB 200000 σ) (hn:200000<n) :
  Tl (q57 n () (w::x::r) σ.mo σ.go ln st σ.bk vb σ.sd σ.rq σ.sw σ.ex σ.rt) (qan σ st qb4 (w::x::r)) ln st vb:=by
 have hw0:=hw.head
 have hx0:=hw.tail.head
 unfold q57
 rw [show qan σ st qb4 (w::x::r)=(match qfr w.1 x.1 with
   | .inl e=>.inl e
   | .inr q=>q0p { σ with ex:=σ.ex ++ [q] } (qb4,(q.1,q.2)) st x) from rfl]
 simp only [ql2 n w x r (by omega) (by omega) (by omega) (by omega),Option.bind_some]
 cases qfr w.1 x.1 with
 | inl e=>exact ⟨_,by simp only [qsg,Option.bind_some,Bool.not_false,cond_true];rfl⟩
 | inr q =>
  have a1:q5b 72 σ.ex [q]=some (σ.ex ++ [q]):=q78 (by have:=hb.2.2.1;simp;omega)
  simp only [q6e,Option.bind_some,Bool.not_true,cond_false,a1,idx1]
  exact (q2w n { σ with ex:=σ.ex ++ [q] } (qb4,(q.1,q.2)) x ln st vb hs hx0).bind (fun σ'=>rfl) (fun e y=>⟨_,rfl⟩)
theorem qfv (n:Nat) (σ:MS) (w x:Lx.Wd) (r:List Lx.Wd) (ln st:Int) (vb:VB) (hs:StB st) (hw:WB (w::x::r)) (hb:SB 200000 σ) (hn:200000<n) :
  Tl (q56 n () (w::x::r) σ.mo σ.go ln st σ.bk vb σ.sd σ.rq σ.sw σ.ex σ.rt) (qan σ st qb3 (w::x::r)) ln st vb:=by
 have hw0:=hw.head
 have hx0:=hw.tail.head
 unfold q56
 rw [show qan σ st qb3 (w::x::r)=(if okS w.1=false then .inl 6 else if q3r x.1=false then .inl 6 else q0p { σ with sw:=σ.sw ++ [(w.1,x.1)] } (qb3,(w.1,v0)) st x) from rfl]
 simp only [jbn,idx1,Option.bind_some,q55 n w.1 (by omega) (by omega),qcv]
 cases okS w.1 with
 | false=>exact ⟨_,rfl⟩
 | true =>
  simp only [Bool.not_true,cond_false,Bool.true_eq_false,if_false]
  cases q3r x.1 with
  | false=>exact ⟨_,rfl⟩
  | true =>
   have a1:q5b 32 σ.sw [(w.1,x.1)]=some (σ.sw ++ [(w.1,x.1)]):=q78 (by have:=hb.2.1;simp;omega)
   simp only [Bool.not_true,cond_false,Bool.true_eq_false,if_false,a1,Option.bind_some]
   exact (q2w n { σ with sw:=σ.sw ++ [(w.1,x.1)] } (qb3,(w.1,v0)) x ln st vb hs hx0).bind (fun σ'=>rfl) (fun e y=>⟨_,rfl⟩)
theorem qg0 (n:Nat) (σ:MS) (w:Lx.Wd) (r:List Lx.Wd) (ln st:Int) (vb:VB) (hs:StB st) (hw:WB (w::r)) (hb:SB 200000 σ) (hn:200000<n) :
  Tl (q51 n () (w::r) σ.mo σ.go ln st σ.bk vb σ.sd σ.rq σ.sw σ.ex σ.rt) (qan σ st qx7 (w::r)) ln st vb:=by
 have hw0:=hw.head
 have hw1:=hw.1
 obtain ⟨y,hy,hyi⟩ : ∃ y,r.getLast?.getD w=y/\q1t (w::r) (((w::r).length:Int) - 1)=some y:=by
  refine ⟨_,rfl,?_⟩
  have e0:(((w::r).length:Int) - 1)=((r.length:Nat):Int):=by simp
  rw [e0,q26 (l:=w::r) (j:=r.length) (by simp)]
  congr 1
  cases r with
  | nil=>rfl
  | cons a r=>rw [List.getLast?_eq_some_getLast (List.cons_ne_nil _ _),Option.getD_some,List.getLast_eq_getElem];simp
 have hyB:y.1.length<=100001:=by
  have hm:y∈w::r:=by
   rw [<-hy]
   cases r with
   | nil=>exact List.mem_cons_self ..
   | cons a r=>rw [List.getLast?_eq_some_getLast (List.cons_ne_nil _ _),Option.getD_some];exact List.mem_cons_of_mem _ (List.getLast_mem _)
  exact (hw.2 y hm).1
 unfold q51
 rw [show qan σ st qx7 (w::r)=(if (q0k w.1).2=false then .inl 7 else if (q0k ((r.getLast?.getD w).1)).2=false then .inl 7
  else if 0<j4u (q0k w.1).1 (q0k ((r.getLast?.getD w).1)).1 then .inl 7 else .inr { σ with rt:=σ.rt ++ [j5e (q0k w.1).1 (q0k ((r.getLast?.getD w).1)).1] }) from rfl,hy]
 have e1:IntKind.wrap .i64 (((w::r).length:Int) - 1)=((w::r).length:Int) - 1:=wrap64 (by simp only [List.length_cons] at hw1 ⊢;omega) (by simp only [List.length_cons] at hw1 ⊢;omega)
 simp only [jbn,Option.bind_some,q7q n w.1 (by omega) (by omega),q0b,e1,hyi,q7q n y.1 (by omega) (by omega),qik n _ _ (show 100<=n by omega)]
 cases (q0k w.1).2 with
 | false=>exact ⟨_,rfl⟩
 | true =>
  simp only [Bool.not_true,cond_false,Bool.true_eq_false,if_false]
  cases (q0k y.1).2 with
  | false=>exact ⟨_,rfl⟩
  | true =>
   simp only [Bool.not_true,cond_false,Bool.true_eq_false,if_false]
   by_cases hc:0<j4u (q0k w.1).1 (q0k y.1).1
   ·simp only [hc,decide_true,cond_true,if_true]
    exact ⟨_,rfl⟩
   ·have a1:q5b 112 σ.rt [j5e (q0k w.1).1 (q0k y.1).1]=some (σ.rt ++ [j5e (q0k w.1).1 (q0k y.1).1]):=q78 (by have:=hb.2.2.2;simp;omega)
    unfold j5e at a1
    simp only [hc,decide_false,cond_false,if_false,a1,Option.bind_some]
    rfl
theorem qgz (c:UInt8) : ∀(r:List Yy) (x:Yy),c ∉ x->(∀y∈r,c ∉ y)->spl c [] (x++Lib.joinTail [c] r)=x::r
 | [],x,hx,_=>by
  show spl c [] (x ++ [])=_
  rw [q96 c x [] [] hx];simp [spl]
 | y::r,x,hx,h=>by
  have e:Lib.joinTail [c] (y::r)=c::(y++Lib.joinTail [c] r):=by simp [Lib.joinTail]
  rw [e,q96 c x [] _ hx,List.nil_append,spl,if_pos rfl,qgz c r y (h y (List.mem_cons_self ..)) (fun z hz=>h z (List.mem_cons_of_mem _ hz))]
theorem q6i {t:Yy} (h:q4j t=true):t = [61,62]\/t = [91]\/t = [44]\/t = [93]\/t = [40]\/t = [41]:=by
 simpa [q4j] using h
theorem jbp (w:Lx.Wd):(32:UInt8) ∉ q7h w:=by
 unfold q7h
 split
 ·rename_i h
  rcases q6i h with h|h|h|h|h|h<;>rw [h]<;>decide
 ·decide
theorem qwl {ws:List Lx.Wd} {S:Yy} (h:shp ws=S) (hS:S ≠ []):ws.map q7h=spl 32 [] S:=by
 cases ws with
 | nil=>exact absurd h.symm hS
 | cons w ws =>
  rw [<-h]
  show _=spl 32 [] (Lib.join (q7h w::ws.map q7h) [32])
  rw [Lib.join_cons,qgz 32 _ _ (jbp w) (fun y hy=>by
   obtain ⟨z,_,rfl⟩:=List.mem_map.1 hy
   exact jbp z)]
  rfl
theorem qmh : ∀ws:List Lx.Wd,(unm ws).length=(ws.map q7h).count [120]
 | []=>rfl
 | w::ws=>by
  rw [List.map_cons,List.count_cons,unm,List.filter_cons]
  have ih:=qmh ws
  unfold unm at ih
  cases hk:q4j w.1 with
  | true =>
   have:q7h w ≠ [120]:=by
    unfold q7h
    rw [if_pos hk]
    rcases q6i hk with h|h|h|h|h|h<;>rw [h]<;>decide
   simp [ih,this]
  | false=>simp [q7h,hk,ih]
theorem q4c {ws:List Lx.Wd} {S:Yy} {k:Nat} (h:shp ws=S) (hS:S ≠ []) (hk:(spl 32 [] S).count [120]=k):(unm ws).length=k:=by
 rw [qmh,qwl h hS,hk]
theorem len1 {β:Type} {l:List β} (h:l.length=1) : ∃ a,l = [a]:=List.length_eq_one_iff.1 h
theorem ja9 {β:Type} {l:List β} (h:l.length=2) : ∃ a b,l = [a,b]:=by
 match l,h with
 | [a,b],_=>exact ⟨a,b,rfl⟩
theorem jaw (ws:List Lx.Wd):(unm ws).length<=ws.length:=List.length_filter_le ..
theorem WB.unm {ws:List Lx.Wd} (h:WB ws):WB (unm ws):=⟨Nat.le_trans (jaw ws) h.1,fun w hw=>h.2 w (List.mem_filter.1 hw).1⟩
def vbs:VB:=[(qd9,([[120]],(false,qje 87))),(kGo,([[120]],(false,qje 88))),(q0r,([[120,32,120]],(true,qje 89))),(qb4,([[120,32,120]],(true,qje 90))),
 (qb3,([[120,32,61,62,32,120]],(true,qje 91))),(qx7,([[120],[91,32,120,32,44,32,120,32,93]],(true,qje 92)))]
theorem qpw (n:Nat):qbt n=some ((),((vbs,()),())):=rfl
theorem q1m {x:Option (IV×PK)} {r:Int⊕MS} {ln st:Int} {vb:VB} {f:IV×PK->Option (IV×PK)} (h:Tl x r ln st vb) (hf : ∀e y,f (e,y)=some (e,y)):Tl (x.bind f) r ln st vb :=
 h.bind (fun σ'=>hf _ _) (fun e y=>⟨y,hf _ _⟩)
theorem qk4 {v:Yy} (h1:v≠qd9) (h2:v≠kGo) (h3:v≠q0r) (h4:v≠qb4) (h5:v≠qb3) (h6:v≠qx7):q73 v vbs=none:=by
 unfold vbs
 simp only [q73,if_neg h1,if_neg h2,if_neg h3,if_neg h4,if_neg h5,if_neg h6]
theorem qd6 (n:Nat) (σ:MS) (v:Yy) (ws:List Lx.Wd) (ln st:Int) (hs:StB st) (hw:WB ws) (hb:SB 200000 σ) (hn:200000<n) :
  Tl (q4q n () v ws σ.mo σ.go ln st σ.bk vbs σ.sd σ.rq σ.sw σ.ex σ.rt) (q3t σ st v ws) ln st vbs:=by
 have hu:=hw.unm
 have hwl:=hw.1
 unfold q4q q3t
 simp only [q7o n ws hw (by omega),qzv n ws hw.1 (by omega),Option.bind_some]
 by_cases h1:v=qd9
 ·subst h1
  rw [show q73 qd9 vbs=some ([[120]],(false,qje 87)) from rfl,show q20 qd9 = [[120]] from rfl]
  simp only [qfl,q14 n [[120]] (shp ws) (by simp) (by simp;omega),Option.bind_some]
  by_cases hm:shp ws ∈ [[(120:UInt8)]]
  ·obtain ⟨w,hw'⟩:=len1 (q4c (k:=1) (List.mem_singleton.1 hm) (by decide) (by decide))
   rw [hw'] at hu ⊢
   rw [decide_eq_true hm,if_pos hm]
   exact q1m (qi2 n σ w [] ln st vbs hs hu hn) (fun e y=>rfl)
  ·rw [decide_eq_false hm,if_neg hm];exact ⟨_,rfl⟩
 by_cases h2:v=kGo
 ·subst h2
  rw [show q73 kGo vbs=some ([[120]],(false,qje 88)) from rfl,show q20 kGo = [[120]] from rfl]
  simp only [qfl,q14 n [[120]] (shp ws) (by simp) (by simp;omega),Option.bind_some]
  by_cases hm:shp ws ∈ [[(120:UInt8)]]
  ·obtain ⟨w,hw'⟩:=len1 (q4c (k:=1) (List.mem_singleton.1 hm) (by decide) (by decide))
   rw [hw'] at hu ⊢
   rw [decide_eq_true hm,if_pos hm]
   exact q1m (qes n σ w [] ln st vbs hs hu hn) (fun e y=>rfl)
  ·rw [decide_eq_false hm,if_neg hm];exact ⟨_,rfl⟩
 by_cases h3:v=q0r
 ·subst h3
  rw [show q73 q0r vbs=some ([[120,32,120]],(true,qje 89)) from rfl,show q20 q0r = [[120,32,120]] from rfl]
  simp only [qfl,q14 n [[120,32,120]] (shp ws) (by simp) (by simp;omega),Option.bind_some]
  by_cases hm:shp ws ∈ [[(120:UInt8),32,120]]
  ·obtain ⟨w,x,hw'⟩:=ja9 (q4c (k:=2) (List.mem_singleton.1 hm) (by decide) (by decide))
   rw [hw'] at hu ⊢
   rw [decide_eq_true hm,if_pos hm]
   exact q1m (qgc n σ w x [] ln st vbs hs hu hb hn) (fun e y=>rfl)
  ·rw [decide_eq_false hm,if_neg hm];exact ⟨_,rfl⟩
 by_cases h4:v=qb4
 ·subst h4
  rw [show q73 qb4 vbs=some ([[120,32,120]],(true,qje 90)) from rfl,show q20 qb4 = [[120,32,120]] from rfl]
  simp only [qfl,q14 n [[120,32,120]] (shp ws) (by simp) (by simp;omega),Option.bind_some]
  by_cases hm:shp ws ∈ [[(120:UInt8),32,120]]
  ·obtain ⟨w,x,hw'⟩:=ja9 (q4c (k:=2) (List.mem_singleton.1 hm) (by decide) (by decide))
   rw [hw'] at hu ⊢
   rw [decide_eq_true hm,if_pos hm]
   exact q1m (qg6 n σ w x [] ln st vbs hs hu hb hn) (fun e y=>rfl)
  ·rw [decide_eq_false hm,if_neg hm];exact ⟨_,rfl⟩
 by_cases h5:v=qb3
 ·subst h5
  rw [show q73 qb3 vbs=some ([[120,32,61,62,32,120]],(true,qje 91)) from rfl,show q20 qb3 = [[120,32,61,62,32,120]] from rfl]
  simp only [qfl,q14 n [[120,32,61,62,32,120]] (shp ws) (by simp) (by simp;omega),Option.bind_some]
  by_cases hm:shp ws ∈ [[(120:UInt8),32,61,62,32,120]]
  ·obtain ⟨w,x,hw'⟩:=ja9 (q4c (k:=2) (List.mem_singleton.1 hm) (by decide) (by decide))
   rw [hw'] at hu ⊢
   rw [decide_eq_true hm,if_pos hm]
   exact q1m (qfv n σ w x [] ln st vbs hs hu hb hn) (fun e y=>rfl)
  ·rw [decide_eq_false hm,if_neg hm];exact ⟨_,rfl⟩
 by_cases h6:v=qx7
 ·subst h6
  rw [show q73 qx7 vbs=some ([[120],[91,32,120,32,44,32,120,32,93]],(true,qje 92)) from rfl,show q20 qx7 = [[120],[91,32,120,32,44,32,120,32,93]] from rfl]
  simp only [qfl,q14 n [[120],[91,32,120,32,44,32,120,32,93]] (shp ws) (by simp) (by simp;omega),Option.bind_some]
  by_cases hm:shp ws ∈ [[(120:UInt8)],[91,32,120,32,44,32,120,32,93]]
  ·obtain ⟨w,r,hw'⟩ : ∃ w r,unm ws=w::r:=by
    rcases List.mem_cons.1 hm with h|h
    ·obtain ⟨w,hw'⟩:=len1 (q4c (k:=1) h (by decide) (by decide))
     exact ⟨w,[],hw'⟩
    ·obtain ⟨w,x,hw'⟩:=ja9 (q4c (k:=2) (List.mem_singleton.1 h) (by decide) (by decide))
     exact ⟨w,[x],hw'⟩
   rw [hw'] at hu ⊢
   rw [decide_eq_true hm,if_pos hm]
   exact q1m (qg0 n σ w r ln st vbs hs hu hb hn) (fun e y=>rfl)
  ·rw [decide_eq_false hm,if_neg hm];exact ⟨_,rfl⟩
 ·rw [qk4 h1 h2 h3 h4 h5 h6,show q20 v = [] by simp only [q20,if_neg h1,if_neg h2,if_neg h3,if_neg h4,if_neg h5,if_neg h6]]
  simp only [qfl,q14 n [] (shp ws) (by simp) (by simp;omega),Option.bind_some]
  exact ⟨_,rfl⟩
theorem j27 (v:Yy):(∃ y,q73 v vbs=some y/\y.2.1=q6z v)\/(q73 v vbs=none/\q6z v=false):=by
 by_cases h1:v=qd9
 ·subst h1;exact .inl ⟨_,rfl,by decide⟩
 by_cases h2:v=kGo
 ·subst h2;exact .inl ⟨_,rfl,by decide⟩
 by_cases h3:v=q0r
 ·subst h3;exact .inl ⟨_,rfl,by decide⟩
 by_cases h4:v=qb4
 ·subst h4;exact .inl ⟨_,rfl,by decide⟩
 by_cases h5:v=qb3
 ·subst h5;exact .inl ⟨_,rfl,by decide⟩
 by_cases h6:v=qx7
 ·subst h6;exact .inl ⟨_,rfl,by decide⟩
 ·exact .inr ⟨qk4 h1 h2 h3 h4 h5 h6,by simp only [q6z,decide_eq_false h3,decide_eq_false h4,decide_eq_false h5,decide_eq_false h6,Bool.or_self]⟩
theorem qtw (n:Nat) (σ:MS) (v:Yy) (ws:List Lx.Wd) (ln st:Int) (hs:StB st) (hw:WB ws) (hb:SB 200000 σ) (hn:200000<n) :
  Tl (qjp n () v ws σ.mo σ.go ln st σ.bk vbs σ.sd σ.rq σ.sw σ.ex σ.rt) (if q6z v=true/\shp ws = [40] then .inr { σ with bk:=v } else q3t σ st v ws) ln st vbs:=by
 have hwl:=hw.1
 have hS:=qd6 n σ v ws ln st hs hw hb hn
 unfold qjp
 rcases j27 v with ⟨y,h1,h2⟩|⟨h1,h2⟩
 ·rw [h1]
  simp only [qfl,h2,q7o n ws hw (by omega),Option.bind_some]
  cases q6z v with
  | false =>
   simp only [cond_false,Bool.false_eq_true,false_and,if_false]
   exact q1m hS (fun e y=>rfl)
  | true =>
   simp only [cond_true,true_and]
   by_cases hp:shp ws = [40]
   ·rw [decide_eq_true hp,if_pos hp];rfl
   ·rw [decide_eq_false hp,if_neg hp]
    exact q1m hS (fun e y=>rfl)
 ·rw [h1]
  simp only [qfl,h2,Bool.false_eq_true,false_and,if_false]
  exact q1m hS (fun e y=>rfl)
theorem qo9 (n:Nat) (σ:MS) (ws:List Lx.Wd) (ln st:Int) (hs:StB st) (hw:WB ws) (hb:SB 200000 σ) (hn:200000<n) :
  Tl (q8x n () ws σ.mo σ.go ln st σ.bk vbs σ.sd σ.rq σ.sw σ.ex σ.rt) (q2j σ st ws) ln st vbs:=by
 have hwl:=hw.1
 unfold q8x
 cases ws with
 | nil=>rfl
 | cons w r =>
  have c0 : ¬ ((((w::r).length:Nat):Int)=0):=by simp only [List.length_cons];omega
  have hsub:q1c (w::r) (1:Int) (((w::r).length:Nat):Int)=some r:=by
   have:=sub_le (l:=w::r) (a:=1) (b:=(w::r).length) (by simp) (Nat.le_refl _)
   rw [show ((1:Nat):Int)=(1:Int) from rfl] at this
   rw [this];simp
  unfold q2j
  simp only [c0,decide_false,cond_false,jbn,hsub,Option.bind_some,q7o n (w::r) hw (by omega)]
  by_cases hb0:σ.bk = []
  ·rw [decide_eq_true hb0,if_pos hb0]
   exact q1m (qtw n σ w.1 r ln st hs hw.tail hb hn) (fun e y=>rfl)
  ·rw [decide_eq_false hb0,if_neg hb0]
   by_cases hp:shp (w::r) = [41]
   ·rw [cond_false,decide_eq_true hp,if_pos hp];rfl
   ·rw [cond_false,decide_eq_false hp,if_neg hp]
    exact q1m (qd6 n σ σ.bk (w::r) ln st hs hw hb hn) (fun e y=>rfl)
end Go.Proofs.YtapfankgdkdkgaaGreatDoor.AM
