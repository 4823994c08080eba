
import Derived.Test.YtapfankgdkdkgaaGreatDoorEc24
import Derived.Test.YtapfankgdkdkgaaGreatDoorEc25
import Derived.Test.YtapfankgdkdkgaaGreatDoorEc20
import Derived.Test.YtapfankgdkdkgaaGreatDoorEc12
set_option linter.unusedVariables false
set_option linter.unusedSimpArgs false
namespace Go.Proofs.YtapfankgdkdkgaaGreatDoor.AM
open Go.RowKit
set_option synthInstance.maxSize 100000
set_option synthInstance.maxHeartbeats 0
abbrev Z18:=((Yy×(Int×(Int×Unit)))×Unit×Unit)⊕((Yy×(Int×Unit))×Unit×Unit)
theorem jcu : ∀L:List Yy,(nlT L).length=tot L
 | []=>rfl
 | t::L=>by rw [j1k,tot,List.length_append,List.length_cons,jcu L];omega
set_option synthInstance.maxSize 100000
set_option synthInstance.maxHeartbeats 0
theorem qk6 : ∀(L:List Yy),L ≠ []->(∀t∈L,(10:UInt8) ∉ t)->spl 10 [] (qas 10 L)=L
 | [],h,_=>absurd rfl h
 | [x],_,h=>q70 10 x (h x (List.mem_cons_self ..))
 | x::y::r,_,h=>by
  show spl 10 [] (x++10::qas 10 (y::r))=_
  rw [qdz 10 x _ (h x (List.mem_cons_self ..)),qk6 (y::r) (by simp) (fun t ht=>h t (List.mem_cons_of_mem _ ht))]
def tlQ (L2:List Yy):Yy:=if L2 = [] then [] else 10::qas 10 L2
theorem qny (t:Yy) (L2:List Yy):qas 10 (t::L2)=t++tlQ L2:=by
 cases L2 with
 | nil=>simp [qas,tlQ]
 | cons y r=>simp [qas,tlQ]
theorem q9k (t:Yy) (L2:List Yy) : ∀L1:List Yy,qas 10 (L1++t::L2)=nlT L1++(t++tlQ L2)
 | []=>by rw [List.nil_append,qny];rfl
 | x::L1=>by
  have ih:=q9k t L2 L1
  rw [List.cons_append,qny,j1k,tlQ,if_neg (by simp),ih]
  simp
theorem qq2 (a:Yy) {b:Yy} (h:b ≠ []):Lx.q6j (a++b)=Lx.q6j b:=by
 unfold Lx.q6j
 rw [List.getLast?_append,List.getLast?_eq_some_getLast h]
 rfl
theorem jkr {t:Yy} (h:(10:UInt8) ∉ t):Lx.q6j t=false:=by
 unfold Lx.q6j
 cases ht:t.getLast? with
 | none=>rfl
 | some c =>
  have hm:=List.mem_of_getLast? ht
  have:c≠10:=fun e=>h (by rw [<-e];exact hm)
  simp [this]
theorem j4l {s:Yy} (hs:s ≠ []) : ∃ tail,s=qas 10 (Lx.q0a s)++tail/\Lx.q0a s ≠ []/\(tail = [10]\/(tail = []/\Lx.q6j s=false)):=by
 unfold Lx.q0a
 rw [if_neg hs]
 cases he:Lx.q6j s with
 | false =>
  simp only [Bool.false_eq_true,if_false]
  exact ⟨[],by rw [q6s];simp,qtw _ _ _,.inr ⟨rfl,trivial⟩⟩
 | true =>
  simp only [if_true]
  refine ⟨[10],?_,qtw _ _ _,.inl rfl⟩
  rw [q6s,List.nil_append]
  rcases List.eq_nil_or_concat s with rfl|⟨m,c,rfl⟩
  ·exact absurd rfl hs
  ·rw [List.concat_eq_append] at he ⊢
   rw [ql7] at he
   rw [of_decide_eq_true he,List.dropLast_concat]
theorem j5p {L:List Yy} {tail:Yy} (hL:L ≠ []) (h10 : ∀t∈L,(10:UInt8) ∉ t) (h:tail = [10]\/(tail = []/\qas 10 L ≠ []/\Lx.q6j (qas 10 L)=false)):Lx.q0a (qas 10 L++tail)=L:=by
 rcases h with rfl|⟨rfl,h1,h2⟩
 ·rw [j6z,qk6 L hL h10]
 ·rw [List.append_nil]
  unfold Lx.q0a
  rw [if_neg h1,h2]
  simp only [Bool.false_eq_true,if_false]
  exact qk6 L hL h10
theorem jg8 {s:Yy} {L1 L2:List Yy} {t:Yy} (hs:Lx.q0a s=L1++t::L2) (h10 : ∀x∈Lx.q0a s,(10:UInt8) ∉ x) (ht:t ≠ []) : ∃ Q,s=nlT L1++(t++Q)/\∀t',t' ≠ []->(10:UInt8) ∉ t'->Lx.q0a (nlT L1++(t'++Q))=L1++t'::L2:=by
 have hne:s ≠ []:=fun h=>by rw [h] at hs;cases L1<;>cases hs
 obtain ⟨tail,e1,e2,e3⟩:=j4l hne
 rw [hs] at e1 h10
 rw [q9k] at e1
 refine ⟨tlQ L2++tail,by rw [e1];simp,fun t' h1 h2=>?_⟩
 have e4:nlT L1++(t'++(tlQ L2++tail))=qas 10 (L1++t'::L2)++tail:=by rw [q9k];simp
 rw [e4]
 refine j5p (by simp) (fun x hx=>?_) ?_
 ·rcases List.mem_append.1 hx with hx|hx
  ·exact h10 x (List.mem_append_left _ hx)
  ·rcases List.mem_cons.1 hx with rfl|hx
   ·exact h2
   ·exact h10 x (List.mem_append_right _ (List.mem_cons_of_mem _ hx))
 ·rcases e3 with h|⟨h,he⟩
  ·exact .inl h
  ·refine .inr ⟨h,?_,?_⟩
   ·rw [q9k]
    intro hh
    have:=(List.append_eq_nil_iff.1 (List.append_eq_nil_iff.1 hh).2).1
    exact h1 this
   ·rw [q9k]
    rw [h,List.append_nil] at e1
    by_cases hq:tlQ L2 = []
    ·rw [hq,List.append_nil,qq2 _ h1];exact jkr h2
    ·rw [<-List.append_assoc,qq2 _ hq]
     rw [e1,<-List.append_assoc,qq2 _ hq] at he
     exact he
theorem je0 {s:Yy} {σ:MS} (h:IsM s σ) {p:Yy} (hp:p∈σ.rq.map Prod.fst) : ∃ (u r:Yy) (v:VD),s=u++(q08 v++r)/\(p,v)∈σ.rq/\q3h s p=((u.length:Int),(((u.length+(q08 v).length:Nat):Int),true)) /\
  ∀v',q3c p v'=true->∃ τ,IsM (u++(q08 v'++r)) τ/\Sv p v' (u.length:Int) (((q08 v).length:Nat):Int) ((((q08 v').length:Nat):Int) - (((q08 v).length:Nat):Int)) σ τ/\(Lx.q0a (u++(q08 v'++r))).length=(Lx.q0a s).length:=by
 have g:=h.good
 have hc:q04 σ (q0s,(p,v0))=true:=(g.rk p).2 hp
 obtain ⟨L1,u,v,r,L2,e1,e2,e3,e4⟩:=qvt p (Lx.q0a s) 0 0 ms0 σ h.rd jix (fun c y hy=>by cases hy) rfl hc
 have hokc:=h.okc
 have hfit:=g.rq _ e2
 have hx:=q5f (q4k hfit).2
 have htok : ∀c∈u++(q08 v++r),Lx.okc c=true:=hokc _ (by rw [e1];exact List.mem_append_right _ (List.mem_cons_self ..))
 have htne:u++(q08 v++r) ≠ []:=fun hh=>hx.1.1 (List.append_eq_nil_iff.1 (List.append_eq_nil_iff.1 hh).2).1
 obtain ⟨Q,f1,f2⟩:=jg8 e1 (fun x hx=>jc9 (hokc x hx)) htne
 have hlen:(nlT L1++u).length=tot L1+u.length:=by rw [List.length_append,jcu]
 refine ⟨nlT L1++u,r++Q,v,by rw [f1];simp,e2,?_,fun v' hv=>?_⟩
 ·unfold q3h
  rw [qqp h,hlen]
  show (match q02 clT (q0s,(p,v0)) σ.sd with|some x=>(x.1,(x.2,true))|none=>((0:Int),((0:Int),false)))=_
  rw [e3]
  simp
 ·obtain ⟨τ,k1,k2⟩:=e4 v' hv 0
  have hx':=q5f (q4k hv).2
  have hnew : ∀c∈u++(q08 v'++r),Lx.okc c=true:=fun c hc=>by
   rcases List.mem_append.1 hc with hc|hc
   ·exact htok c (List.mem_append_left _ hc)
   ·rcases List.mem_append.1 hc with hc|hc
    ·exact jaf hx'.1 c hc
    ·exact htok c (List.mem_append_right _ (List.mem_append_right _ hc))
  have hlines:=f2 (u++(q08 v'++r)) (fun hh=>hx'.1.1 (List.append_eq_nil_iff.1 (List.append_eq_nil_iff.1 hh).2).1) (jc9 hnew)
  have eT:nlT L1++u++(q08 v'++(r++Q))=nlT L1++((u++(q08 v'++r))++Q):=by simp
  rw [eT,hlen]
  rw [Int.zero_add] at k2
  refine ⟨τ,⟨?_,by rw [hlines];exact k1,by rw [k2.bk];exact h.bk,by rw [k2.mo];exact h.mo⟩,k2,by rw [hlines,e1];simp⟩
  rw [hlines]
  intro x hx2
  rcases List.mem_append.1 hx2 with hx2|hx2
  ·exact hokc x (by rw [e1];exact List.mem_append_left _ hx2)
  ·rcases List.mem_cons.1 hx2 with rfl|hx2
   ·exact hnew
   ·exact hokc x (by rw [e1];exact List.mem_append_right _ (List.mem_cons_of_mem _ hx2))
set_option maxRecDepth 20000
def q3g (n:Nat) (a1:Yy) (a2:Yy):Option Bool :=
 (bif decide ((a2.length:Int)<=(a1.length:Int)) then q00 (IntKind.wrap .i64 ((a1.length:Int) - (a2.length:Int))) fun (n1:Int)=>(q1a a1 n1 (a1.length:Int)).bind fun s2=>some (decide (s2=a2)) else some false)
def q7m (n:Nat):FC:={ f:=79,args:=[.one (.c (.d .str)),.one (.c (.d .str))],res:=.one (.c (.d .bool)),F:=fun p=>q3g n p.1 p.2 }
theorem q88 (n:Nat):q05 Inv Tryz.prog (q7m n):=mkF Tryz.func79 [] [] (cn) (by kernel_rfl) trivial (by intro a;kernel_rfl)
def qlt (n:Nat) (a1:Yy) (a2:Yy):Option Bool :=
 (q3g n a1 a2).bind fun r1=>some r1
def qt6 (n:Nat):FC:={ f:=52,args:=[.one (.c (.d .str)),.one (.c (.d .str))],res:=.one (.c (.d .bool)),F:=fun p=>qlt n p.1 p.2 }
theorem qvz (n:Nat):q05 Inv Tryz.prog (qt6 n):=mkF Tryz.func52 [] [] (cc (q88 n) <| cn) (by kernel_rfl) trivial (by intro a;kernel_rfl)
def jbn (n:Nat) (a1:Yy) (a2:Yy):Option Bool :=
 (qa9 n a1 a2).bind fun r1=>some r1.2.2
def jke (n:Nat):FC:={ f:=51,args:=[.one (.c (.d .str)),.one (.c (.d .str))],res:=.one (.c (.d .bool)),F:=fun p=>jbn n p.1 p.2 }
theorem jd2 (n:Nat):q05 Inv Tryz.prog (jke n):=mkF Tryz.func51 [] [] (cc (qi2 n) <| cn) (by kernel_rfl) trivial (by intro a;kernel_rfl)
def qbv (n:Nat) (a1:Yy) (a2:Qq):Option Int :=
 (qal n a1).bind fun r1=>(bif !decide (r1.2.2=0) then some r1.2.2 else (q7u n a2.1).bind fun r2=>(bif !r2 then some (6:Int) else (q53 n a2.2).bind fun r3=>(bif !r3 then some (7:Int) else (qi6 n a2.1 a2.2).bind fun r4=>(bif !r4 then some (8:Int) else some (0:Int)))))
def j7d (n:Nat):FC:={ f:=46,args:=[.one (.c (.d .str)),.one (.agg [.d .str,.d (.int .i64),.d (.int .i64),.d (.int .i64),.d .str,.d .str])],res:=.one (.c (.d (.int .i64))),F:=fun p=>qbv n p.1 p.2 }
theorem qso (n:Nat):q05 Inv Tryz.prog (j7d n):=mkF Tryz.func46 [] [] (cc (qjd n) <| cc (qdn n) <| cc (q9t n) <| cc (qzs n) <| cn) (by kernel_rfl) trivial (by intro a;kernel_rfl)
def qse (n:Nat) (a1:Yy) (a2:Yy):Option Int :=
 (bif decide ((a2.length:Int)=0) then some (a1.length:Int) else (bif decide ((a2.length:Int)=1) then (sAt a2 (0:Int)).bind fun c1=>(qiy n a1 c1).bind fun r2=>some r2 else (bif decide ((a2.length:Int)=(a1.length:Int)) then (bif decide (a2=a1) then some (0:Int) else some (-1:Int)) else (bif decide ((a1.length:Int)<(a2.length:Int)) then some (-1:Int) else none))))
def j43 (n:Nat):FC:={ f:=54,args:=[.one (.c (.d .str)),.one (.c (.d .str))],res:=.one (.c (.d (.int .i64))),F:=fun p=>qse n p.1 p.2 }
theorem j4j (n:Nat):q05 Inv Tryz.prog (j43 n):=mkF Tryz.func54 [] [] (cc (j2a n) <| cn) (by kernel_rfl) trivial (by intro a;kernel_rfl)
def qzl (n:Nat) (a1:Int) (a2:Int) (a3:Unit) (a4:Unit) (b1:Yy) (b2:Yy):Option (Yy×(Yy×(Yy×Unit))×Unit) :=
 (q1a b1 (0:Int) a1).bind fun s1=>(q5q s1 b2).bind fun s2=>(q1a b1 a2 (b1.length:Int)).bind fun s3=>(q5q s2 s3).bind fun s4=>some (s4,((b1,(b2,())),()))
def j2e (n:Nat):FX:={ f:=49,args:=[.one (.c (.d (.int .i64))),.one (.c (.d (.int .i64))),.one (.c (.box 1000000 0)),.one (.c (.box 1000001 0))],boxes:=[(1000000,(9,[.d .str])),(1000001,(9,[.d .str]))],rows:=[],res:=.one (.c (.d .str)),oboxes:=[(1000000,(9,[.d .str])),(1000001,(9,[.d .str]))],orows:=[],F:=fun p=>qzl n p.1.1 p.1.2.1 p.1.2.2.1 p.1.2.2.2 p.2.1.1 p.2.1.2.1 }
def jek:q1j:=[(1,[⟨16905424996341287883274873117328531408603114433155888708094742688853564881815195503181352188405030012629580639784228117724235121904085937192017247310814066461068373887968162693399408565645646113696775453062758028932736905368049975642828700760545167247665234588727628529728,2^21,0⟩,⟨100663297,2^24,0⟩,⟨393*2^21,2^27,3⟩,⟨135243399970730303066198984938628251268824915465247109664757941510828519054521564025450817507240240101036645118273824941793880975232687497536137978486512531688546991103745301547195268525165168909574203624502064231461895242944399805142629606084361337981321876709827370025472,2^30,0⟩,⟨393*2^27,2^33,15⟩,⟨16905424996341287883274873117328531408603114433155888708094742688853564881815195503181352188405030012629580639784228117724235121904085937192017247310814066461068373887968162693399408565645646113696775453062758028932736905368049975642828700760545167247665234589139932807232,2^36,0⟩,⟨3298534883336,2^39,0⟩,⟨393*2^36,2^42,96⟩,⟨25089*2^33,2^45,255⟩,⟨67108867*2^19,2^18,511⟩])]
theorem j70 (n:Nat):q9m Inv Tryz.prog (j2e n):=mkX Tryz.func49 jek [] (cn) (by kernel_rfl) trivial (by intro a;kernel_rfl)
def qyo (n:Nat) (a1:Yy) (a2:Yy) (a3:Unit) (b1:Yy) (b2:Yy):Option ((Yy×Int)×(Yy×(Yy×Unit))×Unit) :=
 (qa9 n a1 a2).bind fun r1=>(bif !r1.2.2 then some ((([]:Yy),(5:Int)),((b1,(b2,())),())) else (qzl n r1.1 r1.2.1 () () b1 b2).bind fun r2=>some ((r2.1,(0:Int)),((r2.2.1.1,(r2.2.1.2.1,())),())))
def j2j (n:Nat):FX:={ f:=48,args:=[.one (.c (.d .str)),.one (.c (.d .str)),.one (.c (.fn 49 [1000000,1000001]))],boxes:=[(1000000,(9,[.d .str])),(1000001,(9,[.d .str]))],rows:=[],res:=.tup [.c (.d .str),.c (.d (.int .i64))],oboxes:=[(1000000,(9,[.d .str])),(1000001,(9,[.d .str]))],orows:=[],F:=fun p=>qyo n p.1.1 p.1.2.1 p.1.2.2 p.2.1.1 p.2.1.2.1 }
theorem j7s (n:Nat):q9m Inv Tryz.prog (j2j n):=mkX Tryz.func48 [] [] (cc (c:=q5s (j2e n) [(1000000,1000000),(1000001,1000001)] []) (fun G hG=>q1w (j70 n G hG)) <| cc (qi2 n) <| cn) (by kernel_rfl) trivial (by intro a;kernel_rfl)
def qb4 (n:Nat) (a1:Yy) (a2:Qq):Option (Yy×Int) :=
 (qbv n a1 a2).bind fun r1=>(bif !decide (r1=0) then some (([]:Yy),r1) else (qba n a2.2).bind fun r2=>(qyo n a1 a2.1 () a1 r2).bind fun r3=>some r3.1)
def jk2 (n:Nat):FC:={ f:=27,args:=[.one (.c (.d .str)),.one (.agg [.d .str,.d (.int .i64),.d (.int .i64),.d (.int .i64),.d .str,.d .str])],res:=.tup [.c (.d .str),.c (.d (.int .i64))],F:=fun p=>qb4 n p.1 p.2 }
theorem qz1 (n:Nat):q05 Inv Tryz.prog (jk2 n):=mkF Tryz.func27 [] [] (cc (c:=q5s (j2j n) [(1000000,2),(1000001,7)] []) (fun G hG=>q1w (j7s n G hG)) <| cc (qso n) <| cc (qox n) <| cn) (by kernel_rfl) trivial (by intro a;kernel_rfl)
def jcy (n:Nat) (a1:Yy) (a2:Qq):Option (Yy×Int) :=
 (qbv n a1 a2).bind fun r1=>(bif !decide (r1=0) then some (([]:Yy),r1) else (jbn n a1 a2.1).bind fun r2=>(bif r2 then some (([]:Yy),(11:Int)) else (qlt n a1 ([10]:Yy)).bind fun r3=>(bif !r3 then (q5q a1 ([10]:Yy)).bind fun s4=>(q5q s4 ([114,101,113,117,105,114,101]:Yy)).bind fun s5=>(q5q s5 ([32]:Yy)).bind fun s6=>(q5q s6 a2.1).bind fun s7=>(q5q s7 ([32]:Yy)).bind fun s8=>(qba n a2.2).bind fun r9=>(q5q s8 r9).bind fun s10=>(q5q s10 ([10]:Yy)).bind fun s11=>some (s11,(0:Int)) else (q5q a1 ([114,101,113,117,105,114,101]:Yy)).bind fun s12=>(q5q s12 ([32]:Yy)).bind fun s13=>(q5q s13 a2.1).bind fun s14=>(q5q s14 ([32]:Yy)).bind fun s15=>(qba n a2.2).bind fun r16=>(q5q s15 r16).bind fun s17=>(q5q s17 ([10]:Yy)).bind fun s18=>some (s18,(0:Int)))))
def jm6 (n:Nat):FC:={ f:=30,args:=[.one (.c (.d .str)),.one (.agg [.d .str,.d (.int .i64),.d (.int .i64),.d (.int .i64),.d .str,.d .str])],res:=.tup [.c (.d .str),.c (.d (.int .i64))],F:=fun p=>jcy n p.1 p.2 }
def jlt:q1j:=[(8,[⟨442721857769029238785,2^66,0⟩,⟨49*2^66,2^69,1⟩,⟨49*2^69,2^72,3⟩,⟨226673591177742970258944,2^75,0⟩,⟨1851167661284900923769856,2^78,8⟩,⟨3137*2^72,2^81,31⟩,⟨49*2^81,2^84,63⟩,⟨928455029464035206174344704,2^87,0⟩,⟨7582382740622954183757136896,2^90,128⟩,⟨49*2^90,2^93,384⟩,⟨25089*2^84,2^96,1023⟩,⟨49*2^96,2^99,2047⟩,⟨633825300114114700748351627264,4096,4095⟩,⟨196608,32768,8191⟩]),(1000008,[])]
theorem jlk (n:Nat):q05 Inv Tryz.prog (jm6 n):=mkF Tryz.func30 jlt [] (cc (qso n) <| cc (jd2 n) <| cc (qvz n) <| cc (qox n) <| cn) (by kernel_rfl) trivial (by intro a;kernel_rfl)
def qzy (n:Nat) (a1:Int) (a2:Int) (a3:Unit) (b1:Yy):Option (Yy×(Yy×Unit)×Unit) :=
 (q1a b1 (0:Int) a1).bind fun s1=>(qse n s1 ([10]:Yy)).bind fun r2=>q00 (IntKind.wrap .i64 (r2+(1:Int))) fun n3=>(q1a b1 a2 (b1.length:Int)).bind fun s4=>(qrp n s4 ([10]:Yy)).bind fun r5=>(q1a b1 (0:Int) n3).bind fun s6=>(q5q s6 r5.2.1).bind fun s7=>some (s7,((b1,()),()))
def qu8 (n:Nat):FX:={ f:=53,args:=[.one (.c (.d (.int .i64))),.one (.c (.d (.int .i64))),.one (.c (.box 1000000 0))],boxes:=[(1000000,(9,[.d .str]))],rows:=[],res:=.one (.c (.d .str)),oboxes:=[(1000000,(9,[.d .str]))],orows:=[],F:=fun p=>qzy n p.1.1 p.1.2.1 p.1.2.2 p.2.1.1 }
theorem j5v (n:Nat):q9m Inv Tryz.prog (qu8 n):=mkX Tryz.func53 [] [] (cc (j4j n) <| cc (jaa n) <| cn) (by kernel_rfl) trivial (by intro a;kernel_rfl)
def j9n (n:Nat) (a1:Yy) (a2:Yy) (a3:Unit) (b1:Yy):Option ((Yy×Int)×(Yy×Unit)×Unit) :=
 (qa9 n a1 a2).bind fun r1=>(bif !r1.2.2 then some ((([]:Yy),(5:Int)),((b1,()),())) else (qzy n r1.1 r1.2.1 () b1).bind fun r2=>some ((r2.1,(0:Int)),((r2.2.1.1,()),())))
def j08 (n:Nat):FX:={ f:=48,args:=[.one (.c (.d .str)),.one (.c (.d .str)),.one (.c (.fn 53 [1000000]))],boxes:=[(1000000,(9,[.d .str]))],rows:=[],res:=.tup [.c (.d .str),.c (.d (.int .i64))],oboxes:=[(1000000,(9,[.d .str]))],orows:=[],F:=fun p=>j9n n p.1.1 p.1.2.1 p.1.2.2 p.2.1.1 }
theorem jb9 (n:Nat):q9m Inv Tryz.prog (j08 n):=mkX Tryz.func48 [] [] (cc (c:=q5s (qu8 n) [(1000000,1000000)] []) (fun G hG=>q1w (j5v n G hG)) <| cc (qi2 n) <| cn) (by kernel_rfl) trivial (by intro a;kernel_rfl)
def jch (n:Nat) (a1:Yy) (a2:Yy):Option (Yy×Int) :=
 (qal n a1).bind fun r1=>(bif !decide (r1.2.2=0) then some (([]:Yy),r1.2.2) else (j9n n a1 a2 () a1).bind fun r2=>some r2.1)
def jg1 (n:Nat):FC:={ f:=31,args:=[.one (.c (.d .str)),.one (.c (.d .str))],res:=.tup [.c (.d .str),.c (.d (.int .i64))],F:=fun p=>jch n p.1 p.2 }
theorem jge (n:Nat):q05 Inv Tryz.prog (jg1 n):=mkF Tryz.func31 [] [] (cc (c:=q5s (j08 n) [(1000000,2)] []) (fun G hG=>q1w (jb9 n G hG)) <| cc (qjd n) <| cn) (by kernel_rfl) trivial (by intro a;kernel_rfl)
@[reducible] def jfu:SSt:=⟨[(0,.one (.c (.d .str))),(10,.one (.c (.d (.int .i64)))),(24,.one (.c (.d (.lst (.prod .str Tv))))),(25,.one (.c (.d (.int .i64)))),(26,.one (.c (.d (.int .i64))))],[],[]⟩
@[reducible] def j61:List (Exit×SSt):=[(.ret,⟨[(4,.one (.c (.d .str))),(5,.one (.c (.d (.int .i64)))),(6,.one (.c (.d (.int .i64))))],[],[]⟩),(.exit 0,⟨[(0,.one (.c (.d .str))),(10,.one (.c (.d (.int .i64))))],[],[]⟩)]
def jiv (n:Nat) (rec:(Yy)->Int->LQ->Int->Int->Option Z18) (a1:Yy) (a2:Int) (a3:List Qq) (a4:Int) (a5:Int):Option Z18 :=
 (bif decide (a5<a4) then (q0d a3 a5).bind fun x2=>(jbn n a1 x2.1).bind fun r3=>(bif !r3 then q00 (IntKind.wrap .i64 (a5+1)) fun n4=>rec a1 a2 a3 a4 n4 else (qb4 n a1 x2).bind fun r5=>(bif !decide (r5.2=0) then some (Sum.inl ((([]:Yy),((0:Int),(r5.2,()))),((),()))) else q00 (IntKind.wrap .i64 (a2+1)) fun n6=>q00 (IntKind.wrap .i64 (a5+1)) fun n7=>rec r5.1 n6 a3 a4 n7)) else some (Sum.inr (((a1,(a2,())),((),())))))
def jbm (n:Nat):Stp jfu j61:=fun rec p=>jiv n (fun a1 a2 a3 a4 a5=>rec ((a1,(a2,(a3,(a4,(a5,()))))),((),()))) p.1.1 p.1.2.1 p.1.2.2.1 p.1.2.2.2.1 p.1.2.2.2.2.1
def j56 (n m:Nat) (a1:Yy) (a2:Int) (a3:List Qq) (a4:Int) (a5:Int):Option Z18:=q0v (jbm n) m ((a1,(a2,(a3,(a4,(a5,()))))),((),()))
def jin (n:Nat) (a1:Yy) (a2:List Qq):Option (Yy×(Int×Int)) :=
 (qal n a1).bind fun r1=>(bif !decide (r1.2.2=0) then some (([]:Yy),((0:Int),r1.2.2)) else (j56 n n a1 (0:Int) a2 (a2.length:Int) (0:Int)).bind fun o8=>Sum.elim (fun (q9:(Yy×(Int×(Int×Unit)))×Unit×Unit)=>some (q9.1.1,(q9.1.2.1,q9.1.2.2.1))) (fun (q10:(Yy×(Int×Unit))×Unit×Unit)=>some (q10.1.1,(q10.1.2.1,(0:Int)))) o8)
def jit (n:Nat):FC:={ f:=32,args:=[.one (.c (.d .str)),.one (.c (.d (.lst (.prod .str Tv))))],res:=.tup [.c (.d .str),.c (.d (.int .i64)),.c (.d (.int .i64))],F:=fun p=>jin n p.1 p.2 }
theorem jkz (n:Nat):q05 Inv Tryz.prog (jit n):=mkF Tryz.func32 [] [q4o jbm n] (cc (qjd n) <| cc (jd2 n) <| cc (qz1 n) <| cn) (by kernel_rfl) ⟨ls (by intro rec p;kernel_rfl),trivial⟩ (by intro a;kernel_rfl)
end Go.Proofs.YtapfankgdkdkgaaGreatDoor.AM
