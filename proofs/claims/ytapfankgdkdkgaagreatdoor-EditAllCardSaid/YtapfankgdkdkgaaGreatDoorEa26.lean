
import Derived.Test.YtapfankgdkdkgaaGreatDoorEa24
import Derived.Test.YtapfankgdkdkgaaGreatDoorEa25
import Derived.Test.YtapfankgdkdkgaaGreatDoorEa20
import Derived.Test.YtapfankgdkdkgaaGreatDoorEa12
set_option linter.unusedVariables false
set_option linter.unusedSimpArgs false
namespace Go.Proofs.YtapfankgdkdkgaaGreatDoor.AM
open Go.RowKit
set_option synthInstance.maxSize 100000
set_option synthInstance.maxHeartbeats 0
abbrev Zp:=((Yy×(Int×(Int×Unit)))×Unit×Unit)⊕((Yy×(Int×Unit))×Unit×Unit)
theorem j06 : ∀L:List Yy,(nlT L).length=tot L
 | []=>rfl
 | t::L=>by rw [qt0,tot,List.length_append,List.length_cons,j06 L];omega
set_option synthInstance.maxSize 100000
set_option synthInstance.maxHeartbeats 0
theorem qcf : ∀(L:List Yy),L ≠ []->(∀t∈L,(10:UInt8) ∉ t)->spl 10 [] (q70 10 L)=L
 | [],h,_=>absurd rfl h
 | [x],_,h=>j0m 10 x (h x (List.mem_cons_self ..))
 | x::y::r,_,h=>by
  show spl 10 [] (x++10::q70 10 (y::r))=_
  rw [j2e 10 x _ (h x (List.mem_cons_self ..)),qcf (y::r) (by simp) (fun t ht=>h t (List.mem_cons_of_mem _ ht))]
def tlQ (L2:List Yy):Yy:=if L2 = [] then [] else 10::q70 10 L2
theorem qha (t:Yy) (L2:List Yy):q70 10 (t::L2)=t++tlQ L2:=by
 cases L2 with
 | nil=>simp [q70,tlQ]
 | cons y r=>simp [q70,tlQ]
theorem q66 (t:Yy) (L2:List Yy) : ∀L1:List Yy,q70 10 (L1++t::L2)=nlT L1++(t++tlQ L2)
 | []=>by rw [List.nil_append,qha];rfl
 | x::L1=>by
  have ih:=q66 t L2 L1
  rw [List.cons_append,qha,qt0,tlQ,if_neg (by simp),ih]
  simp
theorem qif (a:Yy) {b:Yy} (h:b ≠ []):Lx.q72 (a++b)=Lx.q72 b:=by
 unfold Lx.q72
 rw [List.getLast?_append,List.getLast?_eq_some_getLast h]
 rfl
theorem j8h {t:Yy} (h:(10:UInt8) ∉ t):Lx.q72 t=false:=by
 unfold Lx.q72
 cases ht:t.getLast? with
 | none=>rfl
 | some c =>
  have hm:=List.mem_of_getLast? ht
  have:c≠10:=fun e=>h (by rw [<-e];exact hm)
  simp [this]
theorem qu4 {s:Yy} (hs:s ≠ []) : ∃ tail,s=q70 10 (Lx.q07 s)++tail/\Lx.q07 s ≠ []/\(tail = [10]\/(tail = []/\Lx.q72 s=false)):=by
 unfold Lx.q07
 rw [if_neg hs]
 cases he:Lx.q72 s with
 | false =>
  simp only [Bool.false_eq_true,if_false]
  exact ⟨[],by rw [q4n];simp,qww _ _ _,.inr ⟨rfl,trivial⟩⟩
 | true =>
  simp only [if_true]
  refine ⟨[10],?_,qww _ _ _,.inl rfl⟩
  rw [q4n,List.nil_append]
  rcases List.eq_nil_or_concat s with rfl|⟨m,c,rfl⟩
  ·exact absurd rfl hs
  ·rw [List.concat_eq_append] at he ⊢
   rw [qej] at he
   rw [of_decide_eq_true he,List.dropLast_concat]
theorem qu0 {L:List Yy} {tail:Yy} (hL:L ≠ []) (h10 : ∀t∈L,(10:UInt8) ∉ t) (h:tail = [10]\/(tail = []/\q70 10 L ≠ []/\Lx.q72 (q70 10 L)=false)):Lx.q07 (q70 10 L++tail)=L:=by
 rcases h with rfl|⟨rfl,h1,h2⟩
 ·rw [qz2,qcf L hL h10]
 ·rw [List.append_nil]
  unfold Lx.q07
  rw [if_neg h1,h2]
  simp only [Bool.false_eq_true,if_false]
  exact qcf L hL h10
theorem j2s {s:Yy} {L1 L2:List Yy} {t:Yy} (hs:Lx.q07 s=L1++t::L2) (h10 : ∀x∈Lx.q07 s,(10:UInt8) ∉ x) (ht:t ≠ []) : ∃ Q,s=nlT L1++(t++Q)/\∀t',t' ≠ []->(10:UInt8) ∉ t'->Lx.q07 (nlT L1++(t'++Q))=L1++t'::L2:=by
 have hne:s ≠ []:=fun h=>by rw [h] at hs;cases L1<;>cases hs
 obtain ⟨tail,e1,e2,e3⟩:=qu4 hne
 rw [hs] at e1 h10
 rw [q66] at e1
 refine ⟨tlQ L2++tail,by rw [e1];simp,fun t' h1 h2=>?_⟩
 have e4:nlT L1++(t'++(tlQ L2++tail))=q70 10 (L1++t'::L2)++tail:=by rw [q66];simp
 rw [e4]
 refine qu0 (by simp) (fun x hx=>?_) ?_
 ·rcases List.mem_append.1 hx with hx|hx
  ·exact h10 x (List.mem_append_left _ hx)
  ·rcases List.mem_cons.1 hx with rfl|hx
   ·exact h2
   ·exact h10 x (List.mem_append_right _ (List.mem_cons_of_mem _ hx))
 ·rcases e3 with h|⟨h,he⟩
  ·exact .inl h
  ·refine .inr ⟨h,?_,?_⟩
   ·rw [q66]
    intro hh
    have:=(List.append_eq_nil_iff.1 (List.append_eq_nil_iff.1 hh).2).1
    exact h1 this
   ·rw [q66]
    rw [h,List.append_nil] at e1
    by_cases hq:tlQ L2 = []
    ·rw [hq,List.append_nil,qif _ h1];exact j8h h2
    ·rw [<-List.append_assoc,qif _ hq]
     rw [e1,<-List.append_assoc,qif _ hq] at he
     exact he
theorem j3s {s:Yy} {σ:MS} (h:IsM s σ) {p:Yy} (hp:p∈σ.rq.map Prod.fst) : ∃ (u r:Yy) (v:VD),s=u++(q06 v++r)/\(p,v)∈σ.rq/\q1s s p=((u.length:Int),(((u.length+(q06 v).length:Nat):Int),true)) /\
  ∀v',q2t p v'=true->∃ τ,IsM (u++(q06 v'++r)) τ/\Sv p v' (u.length:Int) (((q06 v).length:Nat):Int) ((((q06 v').length:Nat):Int) - (((q06 v).length:Nat):Int)) σ τ/\(Lx.q07 (u++(q06 v'++r))).length=(Lx.q07 s).length:=by
 have g:=h.good
 have hc:q05 σ (q0r,(p,v0))=true:=(g.rk p).2 hp
 obtain ⟨L1,u,v,r,L2,e1,e2,e3,e4⟩:=qkd p (Lx.q07 s) 0 0 ms0 σ h.rd jar (fun c y hy=>by cases hy) rfl hc
 have hokc:=h.okc
 have hfit:=g.rq _ e2
 have hx:=q3q (q3i hfit).2
 have htok : ∀c∈u++(q06 v++r),Lx.okc c=true:=hokc _ (by rw [e1];exact List.mem_append_right _ (List.mem_cons_self ..))
 have htne:u++(q06 v++r) ≠ []:=fun hh=>hx.1.1 (List.append_eq_nil_iff.1 (List.append_eq_nil_iff.1 hh).2).1
 obtain ⟨Q,f1,f2⟩:=j2s e1 (fun x hx=>qwx (hokc x hx)) htne
 have hlen:(nlT L1++u).length=tot L1+u.length:=by rw [List.length_append,j06]
 refine ⟨nlT L1++u,r++Q,v,by rw [f1];simp,e2,?_,fun v' hv=>?_⟩
 ·unfold q1s
  rw [qhu h,hlen]
  show (match q01 clT (q0r,(p,v0)) σ.sd with|some x=>(x.1,(x.2,true))|none=>((0:Int),((0:Int),false)))=_
  rw [e3]
  simp
 ·obtain ⟨τ,k1,k2⟩:=e4 v' hv 0
  have hx':=q3q (q3i hv).2
  have hnew : ∀c∈u++(q06 v'++r),Lx.okc c=true:=fun c hc=>by
   rcases List.mem_append.1 hc with hc|hc
   ·exact htok c (List.mem_append_left _ hc)
   ·rcases List.mem_append.1 hc with hc|hc
    ·exact qyl hx'.1 c hc
    ·exact htok c (List.mem_append_right _ (List.mem_append_right _ hc))
  have hlines:=f2 (u++(q06 v'++r)) (fun hh=>hx'.1.1 (List.append_eq_nil_iff.1 (List.append_eq_nil_iff.1 hh).2).1) (qwx hnew)
  have eT:nlT L1++u++(q06 v'++(r++Q))=nlT L1++((u++(q06 v'++r))++Q):=by simp
  rw [eT,hlen]
  rw [Int.zero_add] at k2
  refine ⟨τ,⟨?_,by rw [hlines];exact k1,by rw [k2.bk];exact h.bk,by rw [k2.mo];exact h.mo⟩,k2,by rw [hlines,e1];simp⟩
  rw [hlines]
  intro x hx2
  rcases List.mem_append.1 hx2 with hx2|hx2
  ·exact hokc x (by rw [e1];exact List.mem_append_left _ hx2)
  ·rcases List.mem_cons.1 hx2 with rfl|hx2
   ·exact hnew
   ·exact hokc x (by rw [e1];exact List.mem_append_right _ (List.mem_cons_of_mem _ hx2))
set_option maxRecDepth 20000
def q25 (n:Nat) (a1:Yy) (a2:Yy):Option Bool :=
 (bif decide ((a2.length:Int)<=(a1.length:Int)) then q0b (IntKind.wrap .i64 ((a1.length:Int) - (a2.length:Int))) fun (n1:Int)=>(q1c a1 n1 (a1.length:Int)).bind fun s2=>some (decide (s2=a2)) else some false)
def q4r (n:Nat):FC:={ f:=79,args:=[.one (.c (.d .str)),.one (.c (.d .str))],res:=.one (.c (.d .bool)),F:=fun p=>q25 n p.1 p.2 }
theorem q5j (n:Nat):q08 Inv Tryz.prog (q4r n):=mkF Tryz.func79 [] [] (cn) (by kernel_rfl) trivial (by intro a;kernel_rfl)
def qfd (n:Nat) (a1:Yy) (a2:Yy):Option Bool :=
 (q25 n a1 a2).bind fun r1=>some r1
def qln (n:Nat):FC:={ f:=52,args:=[.one (.c (.d .str)),.one (.c (.d .str))],res:=.one (.c (.d .bool)),F:=fun p=>qfd n p.1 p.2 }
theorem qmn (n:Nat):q08 Inv Tryz.prog (qln n):=mkF Tryz.func52 [] [] (cc (q5j n) <| cn) (by kernel_rfl) trivial (by intro a;kernel_rfl)
def qrh (n:Nat) (a1:Yy) (a2:Yy):Option Bool :=
 (q6k n a1 a2).bind fun r1=>some r1.2.2
def j6s (n:Nat):FC:={ f:=51,args:=[.one (.c (.d .str)),.one (.c (.d .str))],res:=.one (.c (.d .bool)),F:=fun p=>qrh n p.1 p.2 }
theorem qvo (n:Nat):q08 Inv Tryz.prog (j6s n):=mkF Tryz.func51 [] [] (cc (qf7 n) <| cn) (by kernel_rfl) trivial (by intro a;kernel_rfl)
def q8s (n:Nat) (a1:Yy) (a2:Qq):Option Int :=
 (q6x n a1).bind fun r1=>(bif !decide (r1.2.2=0) then some r1.2.2 else (q4s n a2.1).bind fun r2=>(bif !r2 then some (6:Int) else (q37 n a2.2).bind fun r3=>(bif !r3 then some (7:Int) else (qcw n a2.1 a2.2).bind fun r4=>(bif !r4 then some (8:Int) else some (0:Int)))))
def qzl (n:Nat):FC:={ f:=46,args:=[.one (.c (.d .str)),.one (.agg [.d .str,.d (.int .i64),.d (.int .i64),.d (.int .i64),.d .str,.d .str])],res:=.one (.c (.d (.int .i64))),F:=fun p=>q8s n p.1 p.2 }
theorem qk5 (n:Nat):q08 Inv Tryz.prog (qzl n):=mkF Tryz.func46 [] [] (cc (qeg n) <| cc (q98 n) <| cc (q60 n) <| cc (qro n) <| cn) (by kernel_rfl) trivial (by intro a;kernel_rfl)
def qm9 (n:Nat) (a1:Yy) (a2:Yy):Option Int :=
 (bif decide ((a2.length:Int)=0) then some (a1.length:Int) else (bif decide ((a2.length:Int)=1) then (sAt a2 (0:Int)).bind fun c1=>(qcm n a1 c1).bind fun r2=>some r2 else (bif decide ((a2.length:Int)=(a1.length:Int)) then (bif decide (a2=a1) then some (0:Int) else some (-1:Int)) else (bif decide ((a1.length:Int)<(a2.length:Int)) then some (-1:Int) else none))))
def qv1 (n:Nat):FC:={ f:=54,args:=[.one (.c (.d .str)),.one (.c (.d .str))],res:=.one (.c (.d (.int .i64))),F:=fun p=>qm9 n p.1 p.2 }
theorem quz (n:Nat):q08 Inv Tryz.prog (qv1 n):=mkF Tryz.func54 [] [] (cc (qrk n) <| cn) (by kernel_rfl) trivial (by intro a;kernel_rfl)
def qpf (n:Nat) (a1:Int) (a2:Int) (a3:Unit) (a4:Unit) (b1:Yy) (b2:Yy):Option (Yy×(Yy×(Yy×Unit))×Unit) :=
 (q1c b1 (0:Int) a1).bind fun s1=>(q6j s1 b2).bind fun s2=>(q1c b1 a2 (b1.length:Int)).bind fun s3=>(q6j s2 s3).bind fun s4=>some (s4,((b1,(b2,())),()))
def qr4 (n:Nat):FX:={ f:=49,args:=[.one (.c (.d (.int .i64))),.one (.c (.d (.int .i64))),.one (.c (.box 1000000 0)),.one (.c (.box 1000001 0))],boxes:=[(1000000,(9,[.d .str])),(1000001,(9,[.d .str]))],rows:=[],res:=.one (.c (.d .str)),oboxes:=[(1000000,(9,[.d .str])),(1000001,(9,[.d .str]))],orows:=[],F:=fun p=>qpf n p.1.1 p.1.2.1 p.1.2.2.1 p.1.2.2.2 p.2.1.1 p.2.1.2.1 }
def j2q:q1l:=[(1,[⟨16905424996341287883274873117328531408603114433155888708094742688853564881815195503181352188405030012629580639784228117724235121904085937192017247310814066461068373887968162693399408565645646113696775453062758028932736905368049975642828700760545167247665234588727628529728,2^21,0⟩,⟨100663297,2^24,0⟩,⟨393*2^21,2^27,3⟩,⟨135243399970730303066198984938628251268824915465247109664757941510828519054521564025450817507240240101036645118273824941793880975232687497536137978486512531688546991103745301547195268525165168909574203624502064231461895242944399805142629606084361337981321876709827370025472,2^30,0⟩,⟨393*2^27,2^33,15⟩,⟨16905424996341287883274873117328531408603114433155888708094742688853564881815195503181352188405030012629580639784228117724235121904085937192017247310814066461068373887968162693399408565645646113696775453062758028932736905368049975642828700760545167247665234589139932807232,2^36,0⟩,⟨3298534883336,2^39,0⟩,⟨393*2^36,2^42,96⟩,⟨25089*2^33,2^45,255⟩,⟨67108867*2^19,2^18,511⟩])]
theorem qxi (n:Nat):q62 Inv Tryz.prog (qr4 n):=mkX Tryz.func49 j2q [] (cn) (by kernel_rfl) trivial (by intro a;kernel_rfl)
def qoi (n:Nat) (a1:Yy) (a2:Yy) (a3:Unit) (b1:Yy) (b2:Yy):Option ((Yy×Int)×(Yy×(Yy×Unit))×Unit) :=
 (q6k n a1 a2).bind fun r1=>(bif !r1.2.2 then some ((([]:Yy),(5:Int)),((b1,(b2,())),())) else (qpf n r1.1 r1.2.1 () () b1 b2).bind fun r2=>some ((r2.1,(0:Int)),((r2.2.1.1,(r2.2.1.2.1,())),())))
def qqg (n:Nat):FX:={ f:=48,args:=[.one (.c (.d .str)),.one (.c (.d .str)),.one (.c (.fn 49 [1000000,1000001]))],boxes:=[(1000000,(9,[.d .str])),(1000001,(9,[.d .str]))],rows:=[],res:=.tup [.c (.d .str),.c (.d (.int .i64))],oboxes:=[(1000000,(9,[.d .str])),(1000001,(9,[.d .str]))],orows:=[],F:=fun p=>qoi n p.1.1 p.1.2.1 p.1.2.2 p.2.1.1 p.2.1.2.1 }
theorem qxy (n:Nat):q62 Inv Tryz.prog (qqg n):=mkX Tryz.func48 [] [] (cc (c:=q3s (qr4 n) [(1000000,1000000),(1000001,1000001)] []) (fun G hG=>q15 (qxi n G hG)) <| cc (qf7 n) <| cn) (by kernel_rfl) trivial (by intro a;kernel_rfl)
def qcr (n:Nat) (a1:Yy) (a2:Qq):Option (Yy×Int) :=
 (q8s n a1 a2).bind fun r1=>(bif !decide (r1=0) then some (([]:Yy),r1) else (q7c n a2.2).bind fun r2=>(qoi n a1 a2.1 () a1 r2).bind fun r3=>some r3.1)
def j95 (n:Nat):FC:={ f:=27,args:=[.one (.c (.d .str)),.one (.agg [.d .str,.d (.int .i64),.d (.int .i64),.d (.int .i64),.d .str,.d .str])],res:=.tup [.c (.d .str),.c (.d (.int .i64))],F:=fun p=>qcr n p.1 p.2 }
theorem qvz (n:Nat):q08 Inv Tryz.prog (j95 n):=mkF Tryz.func27 [] [] (cc (c:=q3s (qqg n) [(1000000,2),(1000001,7)] []) (fun G hG=>q15 (qxy n G hG)) <| cc (qk5 n) <| cc (qj3 n) <| cn) (by kernel_rfl) trivial (by intro a;kernel_rfl)
def qys (n:Nat) (a1:Yy) (a2:Qq):Option (Yy×Int) :=
 (q8s n a1 a2).bind fun r1=>(bif !decide (r1=0) then some (([]:Yy),r1) else (qrh n a1 a2.1).bind fun r2=>(bif r2 then some (([]:Yy),(11:Int)) else (qfd n a1 ([10]:Yy)).bind fun r3=>(bif !r3 then (q6j a1 ([10]:Yy)).bind fun s4=>(q6j s4 ([114,101,113,117,105,114,101]:Yy)).bind fun s5=>(q6j s5 ([32]:Yy)).bind fun s6=>(q6j s6 a2.1).bind fun s7=>(q6j s7 ([32]:Yy)).bind fun s8=>(q7c n a2.2).bind fun r9=>(q6j s8 r9).bind fun s10=>(q6j s10 ([10]:Yy)).bind fun s11=>some (s11,(0:Int)) else (q6j a1 ([114,101,113,117,105,114,101]:Yy)).bind fun s12=>(q6j s12 ([32]:Yy)).bind fun s13=>(q6j s13 a2.1).bind fun s14=>(q6j s14 ([32]:Yy)).bind fun s15=>(q7c n a2.2).bind fun r16=>(q6j s15 r16).bind fun s17=>(q6j s17 ([10]:Yy)).bind fun s18=>some (s18,(0:Int)))))
def j60 (n:Nat):FC:={ f:=30,args:=[.one (.c (.d .str)),.one (.agg [.d .str,.d (.int .i64),.d (.int .i64),.d (.int .i64),.d .str,.d .str])],res:=.tup [.c (.d .str),.c (.d (.int .i64))],F:=fun p=>qys n p.1 p.2 }
def j7c:q1l:=[(8,[⟨442721857769029238785,2^66,0⟩,⟨49*2^66,2^69,1⟩,⟨49*2^69,2^72,3⟩,⟨226673591177742970258944,2^75,0⟩,⟨1851167661284900923769856,2^78,8⟩,⟨3137*2^72,2^81,31⟩,⟨49*2^81,2^84,63⟩,⟨928455029464035206174344704,2^87,0⟩,⟨7582382740622954183757136896,2^90,128⟩,⟨49*2^90,2^93,384⟩,⟨25089*2^84,2^96,1023⟩,⟨49*2^96,2^99,2047⟩,⟨633825300114114700748351627264,4096,4095⟩,⟨196608,32768,8191⟩]),(1000008,[])]
theorem j93 (n:Nat):q08 Inv Tryz.prog (j60 n):=mkF Tryz.func30 j7c [] (cc (qk5 n) <| cc (qvo n) <| cc (qmn n) <| cc (qj3 n) <| cn) (by kernel_rfl) trivial (by intro a;kernel_rfl)
def qqf (n:Nat) (a1:Int) (a2:Int) (a3:Unit) (b1:Yy):Option (Yy×(Yy×Unit)×Unit) :=
 (q1c b1 (0:Int) a1).bind fun s1=>(qm9 n s1 ([10]:Yy)).bind fun r2=>q0b (IntKind.wrap .i64 (r2+(1:Int))) fun n3=>(q1c b1 a2 (b1.length:Int)).bind fun s4=>(qhw n s4 ([10]:Yy)).bind fun r5=>(q1c b1 (0:Int) n3).bind fun s6=>(q6j s6 r5.2.1).bind fun s7=>some (s7,((b1,()),()))
def qlu (n:Nat):FX:={ f:=53,args:=[.one (.c (.d (.int .i64))),.one (.c (.d (.int .i64))),.one (.c (.box 1000000 0))],boxes:=[(1000000,(9,[.d .str]))],rows:=[],res:=.one (.c (.d .str)),oboxes:=[(1000000,(9,[.d .str]))],orows:=[],F:=fun p=>qqf n p.1.1 p.1.2.1 p.1.2.2 p.2.1.1 }
theorem qtl (n:Nat):q62 Inv Tryz.prog (qlu n):=mkX Tryz.func53 [] [] (cc (quz n) <| cc (qz5 n) <| cn) (by kernel_rfl) trivial (by intro a;kernel_rfl)
def qz6 (n:Nat) (a1:Yy) (a2:Yy) (a3:Unit) (b1:Yy):Option ((Yy×Int)×(Yy×Unit)×Unit) :=
 (q6k n a1 a2).bind fun r1=>(bif !r1.2.2 then some ((([]:Yy),(5:Int)),((b1,()),())) else (qqf n r1.1 r1.2.1 () b1).bind fun r2=>some ((r2.1,(0:Int)),((r2.2.1.1,()),())))
def qrj (n:Nat):FX:={ f:=48,args:=[.one (.c (.d .str)),.one (.c (.d .str)),.one (.c (.fn 53 [1000000]))],boxes:=[(1000000,(9,[.d .str]))],rows:=[],res:=.tup [.c (.d .str),.c (.d (.int .i64))],oboxes:=[(1000000,(9,[.d .str]))],orows:=[],F:=fun p=>qz6 n p.1.1 p.1.2.1 p.1.2.2 p.2.1.1 }
theorem qxq (n:Nat):q62 Inv Tryz.prog (qrj n):=mkX Tryz.func48 [] [] (cc (c:=q3s (qlu n) [(1000000,1000000)] []) (fun G hG=>q15 (qtl n G hG)) <| cc (qf7 n) <| cn) (by kernel_rfl) trivial (by intro a;kernel_rfl)
def j0c (n:Nat) (a1:Yy) (a2:Yy):Option (Yy×Int) :=
 (q6x n a1).bind fun r1=>(bif !decide (r1.2.2=0) then some (([]:Yy),r1.2.2) else (qz6 n a1 a2 () a1).bind fun r2=>some r2.1)
def j2j (n:Nat):FC:={ f:=31,args:=[.one (.c (.d .str)),.one (.c (.d .str))],res:=.tup [.c (.d .str),.c (.d (.int .i64))],F:=fun p=>j0c n p.1 p.2 }
theorem j2y (n:Nat):q08 Inv Tryz.prog (j2j n):=mkF Tryz.func31 [] [] (cc (c:=q3s (qrj n) [(1000000,2)] []) (fun G hG=>q15 (qxq n G hG)) <| cc (qeg n) <| cn) (by kernel_rfl) trivial (by intro a;kernel_rfl)
@[reducible] def j1s:SSt:=⟨[(0,.one (.c (.d .str))),(10,.one (.c (.d (.int .i64)))),(24,.one (.c (.d (.lst (.prod .str Tv))))),(25,.one (.c (.d (.int .i64)))),(26,.one (.c (.d (.int .i64))))],[],[]⟩
@[reducible] def qud:List (Exit×SSt):=[(.ret,⟨[(4,.one (.c (.d .str))),(5,.one (.c (.d (.int .i64)))),(6,.one (.c (.d (.int .i64))))],[],[]⟩),(.exit 0,⟨[(0,.one (.c (.d .str))),(10,.one (.c (.d (.int .i64))))],[],[]⟩)]
def qoh (n:Nat) (rec:(Yy)->Int->LQ->Int->Int->Option Zp) (a1:Yy) (a2:Int) (a3:List Qq) (a4:Int) (a5:Int):Option Zp :=
 (bif decide (a5<a4) then (q1t a3 a5).bind fun x2=>(qrh n a1 x2.1).bind fun r3=>(bif !r3 then q0b (IntKind.wrap .i64 (a5+1)) fun n4=>rec a1 a2 a3 a4 n4 else (qcr n a1 x2).bind fun r5=>(bif !decide (r5.2=0) then some (Sum.inl ((([]:Yy),((0:Int),(r5.2,()))),((),()))) else q0b (IntKind.wrap .i64 (a2+1)) fun n6=>q0b (IntKind.wrap .i64 (a5+1)) fun n7=>rec r5.1 n6 a3 a4 n7)) else some (Sum.inr (((a1,(a2,())),((),())))))
def qyj (n:Nat):Stp j1s qud:=fun rec p=>qoh n (fun a1 a2 a3 a4 a5=>rec ((a1,(a2,(a3,(a4,(a5,()))))),((),()))) p.1.1 p.1.2.1 p.1.2.2.1 p.1.2.2.2.1 p.1.2.2.2.2.1
def q6r (n m:Nat) (a1:Yy) (a2:Int) (a3:List Qq) (a4:Int) (a5:Int):Option Zp:=q2y (qyj n) m ((a1,(a2,(a3,(a4,(a5,()))))),((),()))
theorem qf5 (n m:Nat) (a1 a2 a3 a4 a5):q6r n (m+1) a1 a2 a3 a4 a5=qoh n (fun a1 a2 a3 a4 a5=>q6r n m a1 a2 a3 a4 a5) a1 a2 a3 a4 a5:=rfl
def q97 (n:Nat) (a1:Yy) (a2:List Qq):Option (Yy×(Int×Int)) :=
 (q6x n a1).bind fun r1=>(bif !decide (r1.2.2=0) then some (([]:Yy),((0:Int),r1.2.2)) else (q6r n n a1 (0:Int) a2 (a2.length:Int) (0:Int)).bind fun o8=>Sum.elim (fun (q9:(Yy×(Int×(Int×Unit)))×Unit×Unit)=>some (q9.1.1,(q9.1.2.1,q9.1.2.2.1))) (fun (q10:(Yy×(Int×Unit))×Unit×Unit)=>some (q10.1.1,(q10.1.2.1,(0:Int)))) o8)
def j8u (n:Nat):FC:={ f:=32,args:=[.one (.c (.d .str)),.one (.c (.d (.lst (.prod .str Tv))))],res:=.tup [.c (.d .str),.c (.d (.int .i64)),.c (.d (.int .i64))],F:=fun p=>q97 n p.1 p.2 }
theorem qza (n:Nat):q08 Inv Tryz.prog (j8u n):=mkF Tryz.func32 [] [qi5 qyj n] (cc (qeg n) <| cc (qvo n) <| cc (qvz n) <| cn) (by kernel_rfl) ⟨ls (by intro rec p;kernel_rfl),trivial⟩ (by intro a;kernel_rfl)
end Go.Proofs.YtapfankgdkdkgaaGreatDoor.AM
