
import Derived.Test.YtapfankgdkdkgaaGreatDoorEb24
import Derived.Test.YtapfankgdkdkgaaGreatDoorEb25
import Derived.Test.YtapfankgdkdkgaaGreatDoorEb20
import Derived.Test.YtapfankgdkdkgaaGreatDoorEb12
set_option linter.unusedVariables false
set_option linter.unusedSimpArgs false
namespace Go.Proofs.YtapfankgdkdkgaaGreatDoor.AM
open Go.RowKit
set_option synthInstance.maxSize 100000
set_option synthInstance.maxHeartbeats 0
abbrev Z18:=((Yy×(Int×(Int×Unit)))×Unit×Unit)⊕((Yy×(Int×Unit))×Unit×Unit)
theorem j84 : ∀L:List Yy,(nlT L).length=tot L
 | []=>rfl
 | t::L=>by rw [qrh,tot,List.length_append,List.length_cons,j84 L];omega
set_option synthInstance.maxSize 100000
set_option synthInstance.maxHeartbeats 0
theorem qkg : ∀(L:List Yy),L ≠ []->(∀t∈L,(10:UInt8) ∉ t)->spl 10 [] (q4x 10 L)=L
 | [],h,_=>absurd rfl h
 | [x],_,h=>q6x 10 x (h x (List.mem_cons_self ..))
 | x::y::r,_,h=>by
  show spl 10 [] (x++10::q4x 10 (y::r))=_
  rw [qdy 10 x _ (h x (List.mem_cons_self ..)),qkg (y::r) (by simp) (fun t ht=>h t (List.mem_cons_of_mem _ ht))]
def tlQ (L2:List Yy):Yy:=if L2 = [] then [] else 10::q4x 10 L2
theorem q6v (t:Yy) (L2:List Yy):q4x 10 (t::L2)=t++tlQ L2:=by
 cases L2 with
 | nil=>simp [q4x,tlQ]
 | cons y r=>simp [q4x,tlQ]
theorem q9u (t:Yy) (L2:List Yy) : ∀L1:List Yy,q4x 10 (L1++t::L2)=nlT L1++(t++tlQ L2)
 | []=>by rw [List.nil_append,q6v];rfl
 | x::L1=>by
  have ih:=q9u t L2 L1
  rw [List.cons_append,q6v,qrh,tlQ,if_neg (by simp),ih]
  simp
theorem j39 (a:Yy) {b:Yy} (h:b ≠ []):Lx.q4n (a++b)=Lx.q4n b:=by
 unfold Lx.q4n
 rw [List.getLast?_append,List.getLast?_eq_some_getLast h]
 rfl
theorem qnx {s:Yy} (hs:s ≠ []) : ∃ tail,s=q4x 10 (Lx.q03 s)++tail/\Lx.q03 s ≠ []/\(tail = [10]\/(tail = []/\Lx.q4n s=false)):=by
 unfold Lx.q03
 rw [if_neg hs]
 cases he:Lx.q4n s with
 | false =>
  simp only [Bool.false_eq_true,if_false]
  exact ⟨[],by rw [q73];simp,qtt _ _ _,.inr ⟨rfl,trivial⟩⟩
 | true =>
  simp only [if_true]
  refine ⟨[10],?_,qtt _ _ _,.inl rfl⟩
  rw [q73,List.nil_append]
  rcases List.eq_nil_or_concat s with rfl|⟨m,c,rfl⟩
  ·exact absurd rfl hs
  ·rw [List.concat_eq_append] at he ⊢
   rw [q6t] at he
   rw [of_decide_eq_true he,List.dropLast_concat]
theorem j49 {L:List Yy} {tail:Yy} (hL:L ≠ []) (h10 : ∀t∈L,(10:UInt8) ∉ t) (h:tail = [10]\/(tail = []/\q4x 10 L ≠ []/\Lx.q4n (q4x 10 L)=false)):Lx.q03 (q4x 10 L++tail)=L:=by
 rcases h with rfl|⟨rfl,h1,h2⟩
 ·rw [j8s,qkg L hL h10]
 ·rw [List.append_nil]
  unfold Lx.q03
  rw [if_neg h1,h2]
  simp only [Bool.false_eq_true,if_false]
  exact qkg L hL h10
set_option maxRecDepth 20000
def q2l (n:Nat) (a1:Yy) (a2:Yy):Option Bool :=
 (bif decide ((a2.length:Int)<=(a1.length:Int)) then q00 (IntKind.wrap .i64 ((a1.length:Int) - (a2.length:Int))) fun (n1:Int)=>(q0w a1 n1 (a1.length:Int)).bind fun s2=>some (decide (s2=a2)) else some false)
def q8c (n:Nat):FC:={ f:=79,args:=[.one (.c (.d .str)),.one (.c (.d .str))],res:=.one (.c (.d .bool)),F:=fun p=>q2l n p.1 p.2 }
theorem q8n (n:Nat):q06 Inv Tryz.prog (q8c n):=mkF Tryz.func79 [] [] (cn) (by kernel_rfl) trivial (by intro a;kernel_rfl)
def q7f (n:Nat) (a1:Yy) (a2:Yy):Option Bool :=
 (q2l n a1 a2).bind fun r1=>some r1
def quu (n:Nat):FC:={ f:=52,args:=[.one (.c (.d .str)),.one (.c (.d .str))],res:=.one (.c (.d .bool)),F:=fun p=>q7f n p.1 p.2 }
theorem qtd (n:Nat):q06 Inv Tryz.prog (quu n):=mkF Tryz.func52 [] [] (cc (q8n n) <| cn) (by kernel_rfl) trivial (by intro a;kernel_rfl)
def j0j (n:Nat) (a1:Yy) (a2:Yy):Option Bool :=
 (qam n a1 a2).bind fun r1=>some r1.2.2
def jkx (n:Nat):FC:={ f:=51,args:=[.one (.c (.d .str)),.one (.c (.d .str))],res:=.one (.c (.d .bool)),F:=fun p=>j0j n p.1 p.2 }
theorem jcs (n:Nat):q06 Inv Tryz.prog (jkx n):=mkF Tryz.func51 [] [] (cc (qj3 n) <| cn) (by kernel_rfl) trivial (by intro a;kernel_rfl)
def qdu (n:Nat) (a1:Yy) (a2:Qq):Option Int :=
 (qab n a1).bind fun r1=>(bif !decide (r1.2.2=0) then some r1.2.2 else (q7y n a2.1).bind fun r2=>(bif !r2 then some (6:Int) else (q55 n a2.2).bind fun r3=>(bif !r3 then some (7:Int) else (qk5 n a2.1 a2.2).bind fun r4=>(bif !r4 then some (8:Int) else some (0:Int)))))
def j94 (n:Nat):FC:={ f:=46,args:=[.one (.c (.d .str)),.one (.agg [.d .str,.d (.int .i64),.d (.int .i64),.d (.int .i64),.d .str,.d .str])],res:=.one (.c (.d (.int .i64))),F:=fun p=>qdu n p.1 p.2 }
theorem qs8 (n:Nat):q06 Inv Tryz.prog (j94 n):=mkF Tryz.func46 [] [] (cc (qjz n) <| cc (qc9 n) <| cc (q9o n) <| cc (j1x n) <| cn) (by kernel_rfl) trivial (by intro a;kernel_rfl)
def qd0 (n:Nat) (a1:Yy) (a2:Yy):Option Int :=
 (bif decide ((a2.length:Int)=0) then some (a1.length:Int) else (bif decide ((a2.length:Int)=1) then (sAt a2 (0:Int)).bind fun c1=>(qj7 n a1 c1).bind fun r2=>some r2 else (bif decide ((a2.length:Int)=(a1.length:Int)) then (bif decide (a2=a1) then some (0:Int) else some (-1:Int)) else (bif decide ((a1.length:Int)<(a2.length:Int)) then some (-1:Int) else none))))
def j6a (n:Nat):FC:={ f:=54,args:=[.one (.c (.d .str)),.one (.c (.d .str))],res:=.one (.c (.d (.int .i64))),F:=fun p=>qd0 n p.1 p.2 }
theorem j54 (n:Nat):q06 Inv Tryz.prog (j6a n):=mkF Tryz.func54 [] [] (cc (j18 n) <| cn) (by kernel_rfl) trivial (by intro a;kernel_rfl)
def j8h (n:Nat) (a1:Int) (a2:Int) (a3:Unit) (a4:Unit) (b1:Yy) (b2:Yy):Option (Yy×(Yy×(Yy×Unit))×Unit) :=
 (q0w b1 (0:Int) a1).bind fun s1=>(q5u s1 b2).bind fun s2=>(q0w b1 a2 (b1.length:Int)).bind fun s3=>(q5u s2 s3).bind fun s4=>some (s4,((b1,(b2,())),()))
def j1i (n:Nat):FX:={ f:=49,args:=[.one (.c (.d (.int .i64))),.one (.c (.d (.int .i64))),.one (.c (.box 1000000 0)),.one (.c (.box 1000001 0))],boxes:=[(1000000,(9,[.d .str])),(1000001,(9,[.d .str]))],rows:=[],res:=.one (.c (.d .str)),oboxes:=[(1000000,(9,[.d .str])),(1000001,(9,[.d .str]))],orows:=[],F:=fun p=>j8h n p.1.1 p.1.2.1 p.1.2.2.1 p.1.2.2.2 p.2.1.1 p.2.1.2.1 }
def jen:q1j:=[(1,[⟨16905424996341287883274873117328531408603114433155888708094742688853564881815195503181352188405030012629580639784228117724235121904085937192017247310814066461068373887968162693399408565645646113696775453062758028932736905368049975642828700760545167247665234588727628529728,2^21,0⟩,⟨100663297,2^24,0⟩,⟨393*2^21,2^27,3⟩,⟨135243399970730303066198984938628251268824915465247109664757941510828519054521564025450817507240240101036645118273824941793880975232687497536137978486512531688546991103745301547195268525165168909574203624502064231461895242944399805142629606084361337981321876709827370025472,2^30,0⟩,⟨393*2^27,2^33,15⟩,⟨16905424996341287883274873117328531408603114433155888708094742688853564881815195503181352188405030012629580639784228117724235121904085937192017247310814066461068373887968162693399408565645646113696775453062758028932736905368049975642828700760545167247665234589139932807232,2^36,0⟩,⟨3298534883336,2^39,0⟩,⟨393*2^36,2^42,96⟩,⟨25089*2^33,2^45,255⟩,⟨67108867*2^19,2^18,511⟩])]
theorem jcg (n:Nat):q9w Inv Tryz.prog (j1i n):=mkX Tryz.func49 jen [] (cn) (by kernel_rfl) trivial (by intro a;kernel_rfl)
def j7v (n:Nat) (a1:Yy) (a2:Yy) (a3:Unit) (b1:Yy) (b2:Yy):Option ((Yy×Int)×(Yy×(Yy×Unit))×Unit) :=
 (qam n a1 a2).bind fun r1=>(bif !r1.2.2 then some ((([]:Yy),(5:Int)),((b1,(b2,())),())) else (j8h n r1.1 r1.2.1 () () b1 b2).bind fun r2=>some ((r2.1,(0:Int)),((r2.2.1.1,(r2.2.1.2.1,())),())))
def j0w (n:Nat):FX:={ f:=48,args:=[.one (.c (.d .str)),.one (.c (.d .str)),.one (.c (.fn 49 [1000000,1000001]))],boxes:=[(1000000,(9,[.d .str])),(1000001,(9,[.d .str]))],rows:=[],res:=.tup [.c (.d .str),.c (.d (.int .i64))],oboxes:=[(1000000,(9,[.d .str])),(1000001,(9,[.d .str]))],orows:=[],F:=fun p=>j7v n p.1.1 p.1.2.1 p.1.2.2 p.2.1.1 p.2.1.2.1 }
theorem jbq (n:Nat):q9w Inv Tryz.prog (j0w n):=mkX Tryz.func48 [] [] (cc (c:=q5v (j1i n) [(1000000,1000000),(1000001,1000001)] []) (fun G hG=>q1v (jcg n G hG)) <| cc (qj3 n) <| cn) (by kernel_rfl) trivial (by intro a;kernel_rfl)
def qsb (n:Nat) (a1:Yy) (a2:Qq):Option (Yy×Int) :=
 (qdu n a1 a2).bind fun r1=>(bif !decide (r1=0) then some (([]:Yy),r1) else (qbi n a2.2).bind fun r2=>(j7v n a1 a2.1 () a1 r2).bind fun r3=>some r3.1)
def jlt (n:Nat):FC:={ f:=27,args:=[.one (.c (.d .str)),.one (.agg [.d .str,.d (.int .i64),.d (.int .i64),.d (.int .i64),.d .str,.d .str])],res:=.tup [.c (.d .str),.c (.d (.int .i64))],F:=fun p=>qsb n p.1 p.2 }
theorem j85 (n:Nat):q06 Inv Tryz.prog (jlt n):=mkF Tryz.func27 [] [] (cc (c:=q5v (j0w n) [(1000000,2),(1000001,7)] []) (fun G hG=>q1v (jbq n G hG)) <| cc (qs8 n) <| cc (qqb n) <| cn) (by kernel_rfl) trivial (by intro a;kernel_rfl)
def qoo (n:Nat) (a1:Yy) (a2:Qq):Option (Yy×Int) :=
 (qdu n a1 a2).bind fun r1=>(bif !decide (r1=0) then some (([]:Yy),r1) else (j0j n a1 a2.1).bind fun r2=>(bif r2 then some (([]:Yy),(11:Int)) else (q7f n a1 ([10]:Yy)).bind fun r3=>(bif !r3 then (q5u a1 ([10]:Yy)).bind fun s4=>(q5u s4 ([114,101,113,117,105,114,101]:Yy)).bind fun s5=>(q5u s5 ([32]:Yy)).bind fun s6=>(q5u s6 a2.1).bind fun s7=>(q5u s7 ([32]:Yy)).bind fun s8=>(qbi n a2.2).bind fun r9=>(q5u s8 r9).bind fun s10=>(q5u s10 ([10]:Yy)).bind fun s11=>some (s11,(0:Int)) else (q5u a1 ([114,101,113,117,105,114,101]:Yy)).bind fun s12=>(q5u s12 ([32]:Yy)).bind fun s13=>(q5u s13 a2.1).bind fun s14=>(q5u s14 ([32]:Yy)).bind fun s15=>(qbi n a2.2).bind fun r16=>(q5u s15 r16).bind fun s17=>(q5u s17 ([10]:Yy)).bind fun s18=>some (s18,(0:Int)))))
def jkz (n:Nat):FC:={ f:=30,args:=[.one (.c (.d .str)),.one (.agg [.d .str,.d (.int .i64),.d (.int .i64),.d (.int .i64),.d .str,.d .str])],res:=.tup [.c (.d .str),.c (.d (.int .i64))],F:=fun p=>qoo n p.1 p.2 }
def jmu:q1j:=[(8,[⟨442721857769029238785,2^66,0⟩,⟨49*2^66,2^69,1⟩,⟨49*2^69,2^72,3⟩,⟨226673591177742970258944,2^75,0⟩,⟨1851167661284900923769856,2^78,8⟩,⟨3137*2^72,2^81,31⟩,⟨49*2^81,2^84,63⟩,⟨928455029464035206174344704,2^87,0⟩,⟨7582382740622954183757136896,2^90,128⟩,⟨49*2^90,2^93,384⟩,⟨25089*2^84,2^96,1023⟩,⟨49*2^96,2^99,2047⟩,⟨633825300114114700748351627264,4096,4095⟩,⟨196608,32768,8191⟩]),(1000008,[])]
theorem jdu (n:Nat):q06 Inv Tryz.prog (jkz n):=mkF Tryz.func30 jmu [] (cc (qs8 n) <| cc (jcs n) <| cc (qtd n) <| cc (qqb n) <| cn) (by kernel_rfl) trivial (by intro a;kernel_rfl)
def qrx (n:Nat) (a1:Int) (a2:Int) (a3:Unit) (b1:Yy):Option (Yy×(Yy×Unit)×Unit) :=
 (q0w b1 (0:Int) a1).bind fun s1=>(qd0 n s1 ([10]:Yy)).bind fun r2=>q00 (IntKind.wrap .i64 (r2+(1:Int))) fun n3=>(q0w b1 a2 (b1.length:Int)).bind fun s4=>(qr9 n s4 ([10]:Yy)).bind fun r5=>(q0w b1 (0:Int) n3).bind fun s6=>(q5u s6 r5.2.1).bind fun s7=>some (s7,((b1,()),()))
def qtr (n:Nat):FX:={ f:=53,args:=[.one (.c (.d (.int .i64))),.one (.c (.d (.int .i64))),.one (.c (.box 1000000 0))],boxes:=[(1000000,(9,[.d .str]))],rows:=[],res:=.one (.c (.d .str)),oboxes:=[(1000000,(9,[.d .str]))],orows:=[],F:=fun p=>qrx n p.1.1 p.1.2.1 p.1.2.2 p.2.1.1 }
theorem j45 (n:Nat):q9w Inv Tryz.prog (qtr n):=mkX Tryz.func53 [] [] (cc (j54 n) <| cc (jdp n) <| cn) (by kernel_rfl) trivial (by intro a;kernel_rfl)
def qwx (n:Nat) (a1:Yy) (a2:Yy) (a3:Unit) (b1:Yy):Option ((Yy×Int)×(Yy×Unit)×Unit) :=
 (qam n a1 a2).bind fun r1=>(bif !r1.2.2 then some ((([]:Yy),(5:Int)),((b1,()),())) else (qrx n r1.1 r1.2.1 () b1).bind fun r2=>some ((r2.1,(0:Int)),((r2.2.1.1,()),())))
def j06 (n:Nat):FX:={ f:=48,args:=[.one (.c (.d .str)),.one (.c (.d .str)),.one (.c (.fn 53 [1000000]))],boxes:=[(1000000,(9,[.d .str]))],rows:=[],res:=.tup [.c (.d .str),.c (.d (.int .i64))],oboxes:=[(1000000,(9,[.d .str]))],orows:=[],F:=fun p=>qwx n p.1.1 p.1.2.1 p.1.2.2 p.2.1.1 }
theorem j7n (n:Nat):q9w Inv Tryz.prog (j06 n):=mkX Tryz.func48 [] [] (cc (c:=q5v (qtr n) [(1000000,1000000)] []) (fun G hG=>q1v (j45 n G hG)) <| cc (qj3 n) <| cn) (by kernel_rfl) trivial (by intro a;kernel_rfl)
def q9p (n:Nat) (a1:Yy) (a2:Yy):Option (Yy×Int) :=
 (qab n a1).bind fun r1=>(bif !decide (r1.2.2=0) then some (([]:Yy),r1.2.2) else (qwx n a1 a2 () a1).bind fun r2=>some r2.1)
def jek (n:Nat):FC:={ f:=31,args:=[.one (.c (.d .str)),.one (.c (.d .str))],res:=.tup [.c (.d .str),.c (.d (.int .i64))],F:=fun p=>q9p n p.1 p.2 }
theorem j2x (n:Nat):q06 Inv Tryz.prog (jek n):=mkF Tryz.func31 [] [] (cc (c:=q5v (j06 n) [(1000000,2)] []) (fun G hG=>q1v (j7n n G hG)) <| cc (qjz n) <| cn) (by kernel_rfl) trivial (by intro a;kernel_rfl)
@[reducible] def jfm:SSt:=⟨[(0,.one (.c (.d .str))),(10,.one (.c (.d (.int .i64)))),(24,.one (.c (.d (.lst (.prod .str Tv))))),(25,.one (.c (.d (.int .i64)))),(26,.one (.c (.d (.int .i64))))],[],[]⟩
@[reducible] def j6j:List (Exit×SSt):=[(.ret,⟨[(4,.one (.c (.d .str))),(5,.one (.c (.d (.int .i64)))),(6,.one (.c (.d (.int .i64))))],[],[]⟩),(.exit 0,⟨[(0,.one (.c (.d .str))),(10,.one (.c (.d (.int .i64))))],[],[]⟩)]
def jmv (n:Nat) (rec:(Yy)->Int->LQ->Int->Int->Option Z18) (a1:Yy) (a2:Int) (a3:List Qq) (a4:Int) (a5:Int):Option Z18 :=
 (bif decide (a5<a4) then (q0f a3 a5).bind fun x2=>(j0j n a1 x2.1).bind fun r3=>(bif !r3 then q00 (IntKind.wrap .i64 (a5+1)) fun n4=>rec a1 a2 a3 a4 n4 else (qsb n a1 x2).bind fun r5=>(bif !decide (r5.2=0) then some (Sum.inl ((([]:Yy),((0:Int),(r5.2,()))),((),()))) else q00 (IntKind.wrap .i64 (a2+1)) fun n6=>q00 (IntKind.wrap .i64 (a5+1)) fun n7=>rec r5.1 n6 a3 a4 n7)) else some (Sum.inr (((a1,(a2,())),((),())))))
def j9n (n:Nat):Stp jfm j6j:=fun rec p=>jmv n (fun a1 a2 a3 a4 a5=>rec ((a1,(a2,(a3,(a4,(a5,()))))),((),()))) p.1.1 p.1.2.1 p.1.2.2.1 p.1.2.2.2.1 p.1.2.2.2.2.1
def j4d (n m:Nat) (a1:Yy) (a2:Int) (a3:List Qq) (a4:Int) (a5:Int):Option Z18:=q0u (j9n n) m ((a1,(a2,(a3,(a4,(a5,()))))),((),()))
def jik (n:Nat) (a1:Yy) (a2:List Qq):Option (Yy×(Int×Int)) :=
 (qab n a1).bind fun r1=>(bif !decide (r1.2.2=0) then some (([]:Yy),((0:Int),r1.2.2)) else (j4d n n a1 (0:Int) a2 (a2.length:Int) (0:Int)).bind fun o8=>Sum.elim (fun (q9:(Yy×(Int×(Int×Unit)))×Unit×Unit)=>some (q9.1.1,(q9.1.2.1,q9.1.2.2.1))) (fun (q10:(Yy×(Int×Unit))×Unit×Unit)=>some (q10.1.1,(q10.1.2.1,(0:Int)))) o8)
def jlj (n:Nat):FC:={ f:=32,args:=[.one (.c (.d .str)),.one (.c (.d (.lst (.prod .str Tv))))],res:=.tup [.c (.d .str),.c (.d (.int .i64)),.c (.d (.int .i64))],F:=fun p=>jik n p.1 p.2 }
theorem jmx (n:Nat):q06 Inv Tryz.prog (jlj n):=mkF Tryz.func32 [] [q5g j9n n] (cc (qjz n) <| cc (jcs n) <| cc (j85 n) <| cn) (by kernel_rfl) ⟨ls (by intro rec p;kernel_rfl),trivial⟩ (by intro a;kernel_rfl)
end Go.Proofs.YtapfankgdkdkgaaGreatDoor.AM
