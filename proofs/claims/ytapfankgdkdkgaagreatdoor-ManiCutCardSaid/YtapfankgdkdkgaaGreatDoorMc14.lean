
import Derived.Test.YtapfankgdkdkgaaGreatDoorMc13
import Derived.Test.YtapfankgdkdkgaaGreatDoorMc12
import Derived.Test.YtapfankgdkdkgaaGreatDoorMc8
import Derived.Lib.Join
import Derived.WalkKit
import Derived.LaidEql
import Derived.Stop.Asserts
import Derived.RowKitTokens
import Derived.Test.YtapfankgdkdkgaaGreatDoorProg
namespace Go.Proofs.YtapfankgdkdkgaaGreatDoor.AM
open Go.RowKit
set_option linter.unusedVariables false
set_option maxRecDepth 20000
def qta (n:Nat):List LC:=[]
def qqs (n:Nat) (a1:List UInt8):Option (List UInt8) :=
 (qrh n a1 (47:Int)).bind fun (r1:Int)=>q0e (IntKind.wrap .i64 (r1+(1:Int))) fun (n2:Int)=>(q1x a1 n2 ((List.length a1:Nat):Int)).bind fun (s3:List UInt8)=>some s3
def qar (n:Nat):FC:={ f:=132,args:=[.one (.c (.d .str))],res:=.one (.c (.d .str)),F:=fun p=>qqs n p }
def j0b (n:Nat):List FC:=[qak n]
theorem j4o (n:Nat) {G:World→Prop} (hG:Know Inv G) : ∀ c∈j0b n,q18 Tryz.prog G c∧q09 c.args=true:=List.forall_mem_cons.2 ⟨j1u n G hG,(fun _ h=>by cases h)⟩
def j14:q08:=[]
theorem je1:drB j14 (q00 Tryz.f132)=true:=by kernel_rfl
theorem jdv (n:Nat) : ∀ a,(qar n).F a=main Tryz.prog 8 (j0b n) (qta n) j14 (q00 Tryz.f132) [.tmp 2] (qar n).args (qar n).res a:=by intro a;kernel_rfl
theorem jf4 (n:Nat):q0d Inv Tryz.prog (qar n):=fun G hG=>⟨⟨by kernel_rfl,fun a r h=>q04 (c:=q00 Tryz.f132) Tryz.func132 (by kernel_rfl) (by kernel_rfl) (Nat.le_of_ble_eq_true (by kernel_rfl)) hG.st (by kernel_rfl) (rs:=[.tmp 2]) (by kernel_rfl) (j4o n hG) (lts:=qta n) (fun F hF hFG=>have hK:Know Inv F.G:=hFG ▸ hG;(q03 fun j L h1 h2 h3=>absurd h2 (Nat.not_lt.2 (Nat.le_trans (by decide +kernel) h1)))) je1 ((jdv n a).symm.trans h)⟩,rfl⟩
def qoe (n:Nat):List LC:=[]
def qc1 (n:Nat) (a1:List UInt8):Option ((List UInt8)×(Int×(Bool))) :=
 (qgw a1).bind fun (r1:List UInt8)=>(qqs n a1).bind fun (r2:List UInt8)=>(qkp a1).bind fun (r3:Bool)=>(bif !r3 then (bif !r3 then some (([]:List UInt8),((0:Int),false)) else (qbu n r2).bind fun (r4:Bool)=>(bif !r4 then some (a1,((0:Int),true)) else (qnm r2).bind fun (r5:Int×(Bool))=>(bif !r5.2 then some (([]:List UInt8),((0:Int),false)) else (bif decide (r1=([]:List UInt8)) then some (([]:List UInt8),((0:Int),false)) else some (r1,(r5.1,true)))))) else (qv4 r1).bind fun (r6:Bool)=>(bif r6 then some (([]:List UInt8),((0:Int),false)) else (qbu n r2).bind fun (r7:Bool)=>(bif !r7 then some (a1,((0:Int),true)) else (qnm r2).bind fun (r8:Int×(Bool))=>(bif !r8.2 then some (([]:List UInt8),((0:Int),false)) else (bif decide (r1=([]:List UInt8)) then some (([]:List UInt8),((0:Int),false)) else some (r1,(r8.1,true)))))))
def q5i (n:Nat):FC:={ f:=104,args:=[.one (.c (.d .str))],res:=.tup [.c (.d .str),.c (.d (.int .i64)),.c (.d .bool)],F:=fun p=>qc1 n p }
def qwi (n:Nat):List FC:=[j1i,qar n,qpx,q87 n,j95,j9y]
theorem qzp (n:Nat) {G:World→Prop} (hG:Know Inv G) : ∀ c∈qwi n,q18 Tryz.prog G c∧q09 c.args=true:=List.forall_mem_cons.2 ⟨jdm G hG,List.forall_mem_cons.2 ⟨jf4 n G hG,List.forall_mem_cons.2 ⟨j0v G hG,List.forall_mem_cons.2 ⟨qwm n G hG,List.forall_mem_cons.2 ⟨jib G hG,List.forall_mem_cons.2 ⟨jjc G hG,(fun _ h=>by cases h)⟩⟩⟩⟩⟩⟩
def qt1:q08:=[]
theorem j7a:drB qt1 (q00 Tryz.f104)=true:=by kernel_rfl
theorem j9c (n:Nat) : ∀ a,(q5i n).F a=main Tryz.prog 37 (qwi n) (qoe n) qt1 (q00 Tryz.f104) [.tmp 2,.tmp 3,.tmp 4] (q5i n).args (q5i n).res a:=by intro a;kernel_rfl
theorem qwk (n:Nat):q0d Inv Tryz.prog (q5i n):=fun G hG=>⟨⟨by kernel_rfl,fun a r h=>q04 (c:=q00 Tryz.f104) Tryz.func104 (by kernel_rfl) (by kernel_rfl) (Nat.le_of_ble_eq_true (by kernel_rfl)) hG.st (by kernel_rfl) (rs:=[.tmp 2,.tmp 3,.tmp 4]) (by kernel_rfl) (qzp n hG) (lts:=qoe n) (fun F hF hFG=>have hK:Know Inv F.G:=hFG ▸ hG;(q03 fun j L h1 h2 h3=>absurd h2 (Nat.not_lt.2 (Nat.le_trans (by decide +kernel) h1)))) j7a ((j9c n a).symm.trans h)⟩,rfl⟩
def qny (n:Nat):List LC:=[]
def q8u (n:Nat) (a1:List UInt8):Option (Bool) :=
 (qc1 n a1).bind fun (r1:(List UInt8)×(Int×(Bool)))=>some r1.2.2
def q40 (n:Nat):FC:={ f:=73,args:=[.one (.c (.d .str))],res:=.one (.c (.d .bool)),F:=fun p=>q8u n p }
def qsg (n:Nat):List FC:=[q5i n]
theorem qyw (n:Nat) {G:World→Prop} (hG:Know Inv G) : ∀ c∈qsg n,q18 Tryz.prog G c∧q09 c.args=true:=List.forall_mem_cons.2 ⟨qwk n G hG,(fun _ h=>by cases h)⟩
def qsx:q08:=[]
theorem j9h:drB qsx (q00 Tryz.f73)=true:=by kernel_rfl
theorem j7c (n:Nat) : ∀ a,(q40 n).F a=main Tryz.prog 13 (qsg n) (qny n) qsx (q00 Tryz.f73) [.tmp 2] (q40 n).args (q40 n).res a:=by intro a;kernel_rfl
theorem qhn (n:Nat):q0d Inv Tryz.prog (q40 n):=fun G hG=>⟨⟨by kernel_rfl,fun a r h=>q04 (c:=q00 Tryz.f73) Tryz.func73 (by kernel_rfl) (by kernel_rfl) (Nat.le_of_ble_eq_true (by kernel_rfl)) hG.st (by kernel_rfl) (rs:=[.tmp 2]) (by kernel_rfl) (qyw n hG) (lts:=qny n) (fun F hF hFG=>have hK:Know Inv F.G:=hFG ▸ hG;(q03 fun j L h1 h2 h3=>absurd h2 (Nat.not_lt.2 (Nat.le_trans (by decide +kernel) h1)))) j9h ((j7c n a).symm.trans h)⟩,rfl⟩
def qvg (n:Nat):List LC:=[]
def qp1 (n:Nat) (a1:List UInt8) (a2:Int×(Int×(Int×((List UInt8)×(List UInt8))))):Option (Bool) :=
 (qc1 n a1).bind fun (r1:(List UInt8)×(Int×(Bool)))=>(bif !r1.2.2 then (bif !r1.2.2 then some false else (bif decide (r1.2.1=(0:Int)) then some (decide (a2.1<(2:Int))) else some (decide (a2.1=r1.2.1)))) else (q50 n a2).bind fun (r2:Bool)=>(bif !r2 then some false else (bif decide (r1.2.1=(0:Int)) then some (decide (a2.1<(2:Int))) else some (decide (a2.1=r1.2.1)))))
def qcc (n:Nat):FC:={ f:=75,args:=[.one (.c (.d .str)),.one (.agg [.d (.int .i64),.d (.int .i64),.d (.int .i64),.d .str,.d .str])],res:=.one (.c (.d .bool)),F:=fun p=>qp1 n p.1 p.2 }
def j0k (n:Nat):List FC:=[q5i n,q3a n]
theorem j4k (n:Nat) {G:World→Prop} (hG:Know Inv G) : ∀ c∈j0k n,q18 Tryz.prog G c∧q09 c.args=true:=List.forall_mem_cons.2 ⟨qwk n G hG,List.forall_mem_cons.2 ⟨qb1 n G hG,(fun _ h=>by cases h)⟩⟩
def j1r:q08:=[]
theorem jdr:drB j1r (q00 Tryz.f75)=true:=by kernel_rfl
theorem jf7 (n:Nat) : ∀ a,(qcc n).F a=main Tryz.prog 30 (j0k n) (qvg n) j1r (q00 Tryz.f75) [.tmp 4] (qcc n).args (qcc n).res a:=by intro a;kernel_rfl
theorem jfl (n:Nat):q0d Inv Tryz.prog (qcc n):=fun G hG=>⟨⟨by kernel_rfl,fun a r h=>q04 (c:=q00 Tryz.f75) Tryz.func75 (by kernel_rfl) (by kernel_rfl) (Nat.le_of_ble_eq_true (by kernel_rfl)) hG.st (by kernel_rfl) (rs:=[.tmp 4]) (by kernel_rfl) (j4k n hG) (lts:=qvg n) (fun F hF hFG=>have hK:Know Inv F.G:=hFG ▸ hG;(q03 fun j L h1 h2 h3=>absurd h2 (Nat.not_lt.2 (Nat.le_trans (by decide +kernel) h1)))) jdr ((jf7 n a).symm.trans h)⟩,rfl⟩
end Go.Proofs.YtapfankgdkdkgaaGreatDoor.AM
namespace Go.Proofs.YtapfankgdkdkgaaGreatDoor.AM
open Go.RowKit
set_option linter.unusedVariables false
set_option linter.unusedSimpArgs false
end Go.Proofs.YtapfankgdkdkgaaGreatDoor.AM
namespace Go.Proofs.YtapfankgdkdkgaaGreatDoor.AM
open Go.RowKit
set_option linter.unusedVariables false
set_option linter.unusedSimpArgs false
theorem j43 (n:Nat) (s:List UInt8) (hL:s.length≤1000000) (hn:s.length<n):qqs n s=some (q7d s):=by
 unfold qqs q7d
 have hg:=j36 47 s
 obtain ⟨k,hk⟩ : ∃ k:Nat,q9b 47 s+1=(k:Int):=⟨(q9b 47 s+1).toNat,by omega⟩
 rw [qn9 n s hL hn]
 simp only [Option.bind_some,q0e]
 rw [hk,wrap64 (by omega) (by omega),sub_le (by omega) (Nat.le_refl _)]
 simp only [Option.bind_some,Int.toNat_natCast]
 rw [List.take_of_length_le (by rw [List.length_drop];exact Nat.le_refl _)]
theorem jf6 (s:List UInt8):(q75 s).length≤s.length:=by unfold q75;rw [List.length_take];omega
theorem jd5 (s:List UInt8):(q7d s).length≤s.length:=by unfold q7d;rw [List.length_drop];omega
theorem qxk {s:List UInt8} (h:q35 s=true):q19 s=s.drop 1:=by
 unfold q35 at h
 simp only [Bool.and_eq_true,decide_eq_true_eq] at h
 unfold q19;rw [if_pos h.1]
theorem qi1 (n:Nat) (s:List UInt8) (hL:s.length≤1000000) (hn:s.length<n):qc1 n s=some (qh7 s):=by
 have hb:=jf6 s
 have hl:=jd5 s
 have e1:qgw s=some (q75 s):=if_pos hL
 have e2:qv4 (q75 s)=some (anyS (q75 s)):=if_pos (by omega)
 have e3:qnm (q7d s)=some (numOf (q19 (q7d s)),j0h (q19 (q7d s))):=if_pos (by omega)
 have e4:qkp s=some (q6h s):=rfl
 unfold qc1 qh7 okS
 simp only [e1,e2,e3,e4,j43 n s hL hn,qla n (q7d s) (by omega),Option.bind_some]
 cases q6h s with
 | false=>rfl
 | true=>cases anyS (q75 s) with
  | true=>rfl
  | false=>cases ht:q35 (q7d s) with
   | false=>rfl
   | true =>
    rw [qxk ht]
    cases j0h ((q7d s).drop 1) with
    | false=>rfl
    | true =>
     by_cases h0:q75 s = []
     ·simp [h0]
     ·simp [h0]
theorem j34 (s:List UInt8):(qh7 s).2.2=okS s:=by
 unfold qh7
 cases okS s with
 | false=>rfl
 | true=>cases q35 (q7d s)<;>rfl
theorem qa3 (n:Nat) (s:List UInt8) (hL:s.length≤1000000) (hn:s.length<n):q8u n s=some (okS s):=by
 unfold q8u
 rw [qi1 n s hL hn,← j34];rfl
def qpl (p:List UInt8) (v:VD):Bool:=okS p&&(q2t v&&(if (qh7 p).2.1=0 then decide (v.1<2) else decide (v.1=(qh7 p).2.1)))
theorem j3m (n:Nat) (s:List UInt8) (v:VD) (hL:s.length≤1000000) (hn:s.length<n) (h4:4≤n):qp1 n s v=some (qpl s v):=by
 unfold qp1 qpl
 rw [qi1 n s hL hn]
 simp only [Option.bind_some,j34,q4b n v h4]
 cases okS s with
 | false=>rfl
 | true=>cases q2t v with
  | false=>rfl
  | true =>
   by_cases h:(qh7 s).2.1=0
   ·simp [h]
   ·simp [h]
end Go.Proofs.YtapfankgdkdkgaaGreatDoor.AM
namespace Go.Proofs.YtapfankgdkdkgaaGreatDoor.AM
open Go.RowKit
set_option linter.unusedVariables false
set_option linter.unusedSimpArgs false
abbrev Rq:=List UInt8×VD
abbrev Sw:=List UInt8×List UInt8
abbrev Sp:=Int×(Int×(Int×(List UInt8×(List UInt8×VD))))
def jhl (a b:VD):Sp:=(a.1,(a.2.1,(a.2.2.1,(a.2.2.2.1,(a.2.2.2.2,b)))))
def jg0 (x:Sp):VD:=(x.1,(x.2.1,(x.2.2.1,(x.2.2.2.1,x.2.2.2.2.1))))
def qyd (x:Sp):VD:=x.2.2.2.2.2
theorem jg8 (a b:VD):jg0 (jhl a b)=a:=rfl
theorem j6a (a b:VD):qyd (jhl a b)=b:=rfl
abbrev MD:=List UInt8×(List UInt8×(List Rq×(List Sw×(List Rq×List Sp))))
abbrev Cl:=List UInt8×(List UInt8×VD)
abbrev jkm:=List (Cl×(Int×Int))
abbrev clT:Ty:=.prod .str (.prod .str (.prod (.int .i64) (.prod (.int .i64) (.prod (.int .i64) (.prod .str .str)))))
abbrev qns:List UInt8:=[109,111,100,117,108,101]
abbrev kGo:List UInt8:=[103,111]
abbrev qll:List UInt8:=[114,101,113,117,105,114,101]
abbrev qlj:List UInt8:=[101,120,99,108,117,100,101]
abbrev qlk:List UInt8:=[114,101,112,108,97,99,101]
abbrev jce:List UInt8:=[114,101,116,114,97,99,116]
def jew (t:List UInt8):Bool:=decide (t = [61,62])||(decide (t = [91])||(decide (t = [44])||(decide (t = [93])||(decide (t = [40])||decide (t = [41])))))
def qoo (w:Lx.Wd):List UInt8:=if jew w.1 then w.1 else [120]
def shp (ws:List Lx.Wd):List UInt8:=Lib.join (ws.map qoo) [32]
def unm (ws:List Lx.Wd):List Lx.Wd:=ws.filter fun w=>!jew w.1
def q3n (v:List UInt8):List (List UInt8) :=
 if v=qns then [[120]] else if v=kGo then [[120]] else if v=qll then [[120,32,120]] else if v=qlj then [[120,32,120]] else if v=qlk then [[120,32,61,62,32,120]]
 else if v=jce then [[120],[91,32,120,32,44,32,120,32,93]] else []
def q8m (v:List UInt8):Bool:=decide (v=qll)||(decide (v=qlj)||(decide (v=qlk)||decide (v=jce)))
def qbj (s:List UInt8):Bool:=s.all q38&&(decide (1≤s.length)&&(decide (s.length≤9)&&(decide (s = [48]) || !decide (s.head? = some 48))))
def qhe (x:List UInt8):Bool:=qbj (q2i 46 x)&&qbj (qb8 46 x)
def j60 (p v:List UInt8):Int⊕Rq:=if okS p=false then .inl 6 else if (q0y v).2=false then .inl 7 else if qpl p (q0y v).1=false then .inl 8 else .inr (p,(q0y v).1)
structure MS where
 mo:List UInt8
 go:List UInt8
 bk:List UInt8
 sd:jkm
 rq:List Rq
 sw:List Sw
 ex:List Rq
 rt:List Sp
def ms0:MS:=⟨[],[],[],[],[],[],[],[]⟩
def MS.md (σ:MS):MD:=(σ.mo,(σ.go,(σ.rq,(σ.sw,(σ.ex,σ.rt)))))
def q2w (σ:MS) (c:Cl) (st:Int) (w:Lx.Wd):Int⊕MS:=if (q0a clT c σ.sd).isSome then .inl 11 else .inr { σ with sd:=q3h clT c (st+w.2,st+w.2+(w.1.length:Nat)) σ.sd }
def qqn (σ:MS) (st:Int) (v:List UInt8) (ws:List Lx.Wd):Int⊕MS :=
 match ws with
 | []=>.inl 10
 | w::ws' =>
  if v=qns then (if okS w.1=false then .inl 6 else q2w { σ with mo:=w.1 } (qns,([],v0)) st w)
  else if v=kGo then (if qhe w.1=false then .inl 7 else q2w { σ with go:=w.1 } (kGo,([],v0)) st w)
  else if v=qll then (match j60 w.1 ((ws'.headD ([],0)).1) with
   | .inl e=>.inl e
   | .inr q=>q2w { σ with rq:=σ.rq ++ [q] } (qll,(q.1,v0)) st (ws'.headD ([],0)))
  else if v=qlj then (match j60 w.1 ((ws'.headD ([],0)).1) with
   | .inl e=>.inl e
   | .inr q=>q2w { σ with ex:=σ.ex ++ [q] } (qlj,(q.1,q.2)) st (ws'.headD ([],0)))
  else if v=qlk then (if okS w.1=false then .inl 6 else if q6h ((ws'.headD ([],0)).1)=false then .inl 6 else q2w { σ with sw:=σ.sw ++ [(w.1,(ws'.headD ([],0)).1)] } (qlk,(w.1,v0)) st (ws'.headD ([],0)))
  else if (q0y w.1).2=false then .inl 7 else if (q0y ((ws'.getLast?.getD w).1)).2=false then .inl 7
  else if 0<jix (q0y w.1).1 (q0y ((ws'.getLast?.getD w).1)).1 then .inl 7 else .inr { σ with rt:=σ.rt ++ [jhl (q0y w.1).1 (q0y ((ws'.getLast?.getD w).1)).1] }
def qjp (σ:MS) (st:Int) (v:List UInt8) (ws:List Lx.Wd):Int⊕MS:=if shp ws∈q3n v then qqn σ st v (unm ws) else .inl 10
def qd8 (σ:MS) (st:Int) (ws:List Lx.Wd):Int⊕MS :=
 match ws with
 | []=>.inr σ
 | w::ws' =>
  if σ.bk = [] then (if q8m w.1=true∧shp ws' = [40] then .inr { σ with bk:=w.1 } else qjp σ st w.1 ws')
  else if shp (w::ws') = [41] then .inr { σ with bk:=[] } else qjp σ st σ.bk (w::ws')
def q66 (t:List UInt8):List Lx.Wd:=(Lx.j0i t).1
def q4g:List (List UInt8)→Int→Int→MS→(Int×Int)⊕MS
 | [],_,_,σ=>.inr σ
 | t::ts,i,st,σ=>match qd8 σ st (q66 t) with
  | .inl e=>.inl (i,e)
  | .inr σ'=>q4g ts (i+1) (st+((t.length:Nat):Int)+1) σ'
def qji (s:List UInt8):(Int×Int)⊕(MS×Int) :=
 if (Lx.q3e (Lx.q0o s) 0 []).2.2≠0 then .inl ((Lx.q3e (Lx.q0o s) 0 []).2.1,(Lx.q3e (Lx.q0o s) 0 []).2.2)
 else match q4g (Lx.q0o s) 0 0 ms0 with
  | .inl e=>.inl e
  | .inr σ=>if σ.bk ≠ [] then .inl (((Lx.q0o s).length:Nat),10) else if σ.mo = [] then .inl (((Lx.q0o s).length:Nat),5) else .inr (σ,((Lx.q0o s).length:Nat))
abbrev md0:MD:=([],([],([],([],([],[])))))
def q9p (s:List UInt8):MD×(Int×Int):=match qji s with
 | .inl e=>(md0,e)
 | .inr (σ,n)=>(σ.md,(n,0))
theorem qmj (a b:Cl):eqT clT a b=true↔a=b:=by
 obtain ⟨a1,a2,a3,a4,a5,a6,a7⟩:=a
 obtain ⟨b1,b2,b3,b4,b5,b6,b7⟩:=b
 show (decide (a1=b1)&&(decide (a2=b2)&&(decide (a3=b3)&&(decide (a4=b4)&&(decide (a5=b5)&&(decide (a6=b6)&&decide (a7=b7)))))))=true↔_
 simp only [Bool.and_eq_true,decide_eq_true_eq,Prod.mk.injEq]
theorem jgc {a b:Cl} (h:a≠b):eqT clT a b=false:=by
 cases hb:eqT clT a b with
 | true=>exact absurd ((qmj a b).1 hb) h
 | false=>rfl
theorem qov (c c':Cl) (v:Int×Int) : ∀ l:jkm,q0a clT c (q3h clT c' v l)=bif eqT clT c c' then some v else q0a clT c l
 | []=>rfl
 | (k,y)::l=>by
  show q0a clT c (bif eqT clT c' k then (c',v)::l else (k,y)::q3h clT c' v l)=bif eqT clT c c' then some v else (bif eqT clT c k then some y else q0a clT c l)
  cases hk:eqT clT c' k with
  | true =>
   have hk':=(qmj c' k).1 hk
   subst hk'
   show (bif eqT clT c c' then some v else q0a clT c l)=_
   cases eqT clT c c'<;>rfl
  | false =>
   show (bif eqT clT c k then some y else q0a clT c (q3h clT c' v l))=_
   rw [qov c c' v l]
   cases hb:eqT clT c k with
   | true =>
    have:=(qmj c k).1 hb
    subst this
    have:eqT clT c c'=false:=by
     refine jgc fun h=>?_
     subst h;rw [(qmj c c).2 rfl] at hk;cases hk
    rw [this];rfl
   | false=>rfl
theorem jig {c c':Cl} (h:c≠c') (v:Int×Int) (l:jkm):q0a clT c (q3h clT c' v l)=q0a clT c l:=by rw [qov,jgc h];rfl
end Go.Proofs.YtapfankgdkdkgaaGreatDoor.AM
namespace Go.Proofs
open Go.RowKit Go.Extern.Stop Go.Stop Go.Extern
set_option linter.unusedVariables false
set_option linter.unusedSimpArgs false
namespace YtapfankgdkdkgaaGreatDoor.AM
abbrev gC:Nat:=9
theorem jec (z:Sem Value) (f:TypeId→Addr→Nat→Nat→Sem Value) (v:Value) :
  ReflectliteValue.method z f #[v]=(do match ← ReflectliteValue.parts v with|none=>z|some (t,a,fl)=>f t a fl (fl % 32)):=rfl
theorem jn0 (v x:Value):ReflectliteValue.set #[v,x]=(do
  let (some (dst,a,fl),some (src,b,_)):=(← ReflectliteValue.parts v,← ReflectliteValue.parts x)
   | unsupported (.noEntry "extern/(internal/reflectlite.Value).Set.zeroValue")
  if fl / ReflectliteValue.flagAddr % 2==0 then unsupported (.noEntry "extern/(internal/reflectlite.Value).Set.unaddressable")
  let val ← loadVar src b
  if ← Rtype.directlyAssignable dst src then storeVar dst a val
  else if ← Rtype.implements dst src then
   if (← Rtype.kind src)==20 then
    match val with
    | .nilIface=>unsupported (.noEntry "extern/reflectlite: a nil value of one interface type handed on as a value of another")
    | _=>storeVar dst a val
   else storeVar dst a (.iface src val)
  else panicString ("reflectlite.Set: value of type " ++ (← Rtype.spelt src) ++ " is not assignable to type " ++ (← Rtype.spelt dst))
  pure (.tuple #[])):=rfl
theorem asMK (h:Value) (w:World):(Go.method 406 196 (.agg #[h]) "Kind").run Tryz.prog w = .ok (250,h) w:=by kernel_rfl
theorem asME (h:Value) (w:World):(Go.method 406 196 (.agg #[h]) "Elem").run Tryz.prog w = .ok (263,.agg #[h]) w:=by kernel_rfl
theorem asMI (h:Value) (w:World):(Go.method 406 196 (.agg #[h]) "Implements").run Tryz.prog w = .ok (264,.agg #[h]) w:=by kernel_rfl
theorem asMA (h:Value) (w:World):(Go.method 406 196 (.agg #[h]) "AssignableTo").run Tryz.prog w = .ok (261,.agg #[h]) w:=by kernel_rfl
theorem jh7 (t:Addr) (w:World):(ReflectliteValue.unpack (.iface 136 (.pointer (some t)))).run Tryz.prog w
  = .ok (.agg #[.pointer (some ⟨gC,136,none⟩),.pointer (some ⟨w.heap.size,0,none⟩),.int .u64 150]) (w.alloc (.cells #[.pointer (some t)] 136)):=by kernel_rfl
theorem jha (a:Addr) (w:World):(ReflectliteValue.methodAny (ReflectliteValue.valueError "reflectlite.Value.Type" 0) (fun t _ _ _=>ReflectliteType.toType t) #[.agg #[.pointer (some ⟨gC,136,none⟩),.pointer (some a),.int .u64 150]]).run Tryz.prog w
  = .ok (.iface 196 (.agg #[.pointer (some ⟨gC,136,none⟩)])) w:=by kernel_rfl
theorem jhw (w:World):((ReflectliteType.abiMethod fun t=>(fun a:Nat=>Value.int IntKind.u8 (a:Int)) <$> Rtype.kind t) #[.pointer (some ⟨gC,136,none⟩)]).run Tryz.prog w = .ok (.int .u8 22) w:=by kernel_rfl
theorem jlu (w:World):((ReflectliteType.abiMethod fun t=>(fun a:Nat=>Value.int IntKind.u8 (a:Int)) <$> Rtype.kind t) #[.pointer (some ⟨gC,126,none⟩)]).run Tryz.prog w = .ok (.int .u8 25) w:=by kernel_rfl
theorem j6d (a:Addr) (w:World):(ReflectliteValue.parts (.agg #[.pointer (some ⟨gC,136,none⟩),.pointer (some a),.int .u64 150])).run Tryz.prog w = .ok (some (136,a,150)) w:=by kernel_rfl
theorem jaf:Tryz.prog.underlying 136=some (.pointer 126):=by kernel_rfl
theorem jhz (a p:Addr) (W:World) (ha:W.cell? a=some (.pointer (some p))) :
  (ReflectliteValue.method (ReflectliteValue.valueError "reflectlite.Value.IsNil" 0) ReflectliteValue.isNil #[.agg #[.pointer (some ⟨gC,136,none⟩),.pointer (some a),.int .u64 150]]).run Tryz.prog W = .ok (.bool false) W:=by
 rw [jec]
 simp only [Sem.run_bind,j6d,Result.andThen]
 simp [ReflectliteValue.isNil,loadVar,isAgg,underlying,jaf,ha,Result.andThen]
theorem jh1 (w:World):(ReflectliteType.method ReflectliteType.elem #[.agg #[.pointer (some ⟨gC,136,none⟩)]]).run Tryz.prog w = .ok (.iface 196 (.agg #[.pointer (some ⟨gC,126,none⟩)])) w:=by kernel_rfl
theorem jmm (w:World):(ReflectliteType.relation "Implements" ReflectliteType.implements_ #[.agg #[.pointer (some ⟨gC,126,none⟩)],.iface 196 (.agg #[.pointer (some ⟨gC,82,none⟩)])]).run Tryz.prog w = .ok (.bool true) w:=by kernel_rfl
theorem jl9 (v:Value) (w:World):(ReflectliteType.typeOf #[.iface 126 v]).run Tryz.prog w = .ok (.iface 196 (.agg #[.pointer (some ⟨gC,126,none⟩)])) w:=by kernel_rfl
theorem jmu (w:World):(ReflectliteType.relation "AssignableTo" ReflectliteType.assignableTo #[.agg #[.pointer (some ⟨gC,126,none⟩)],.iface 196 (.agg #[.pointer (some ⟨gC,126,none⟩)])]).run Tryz.prog w = .ok (.bool true) w:=by kernel_rfl
theorem jhp (w:World):(Rtype.elem? 136).run Tryz.prog w = .ok (some 126) w:=by kernel_rfl
theorem asMkT (p:Addr) (w:World):(ReflectliteValue.mk 126 p ReflectliteValue.flagAddr).run Tryz.prog w = .ok (.agg #[.pointer (some ⟨gC,126,none⟩),.pointer (some p),.int .u64 409]) w:=by kernel_rfl
theorem jfn (a p:Addr) (W:World) (ha:W.cell? a=some (.pointer (some p))) :
  (ReflectliteValue.method (ReflectliteValue.valueError "reflectlite.Value.Elem" 0) ReflectliteValue.elem #[.agg #[.pointer (some ⟨gC,136,none⟩),.pointer (some a),.int .u64 150]]).run Tryz.prog W
   = .ok (.agg #[.pointer (some ⟨gC,126,none⟩),.pointer (some p),.int .u64 409]) W:=by
 rw [jec]
 simp only [Sem.run_bind,j6d,Result.andThen]
 simp [ReflectliteValue.elem,loadVar,isAgg,underlying,jaf,ha,Result.andThen,jhp,asMkT]
theorem jlr (n:Int) (w:World):(ReflectliteValue.unpack (.iface 126 (.agg #[.int .i64 n]))).run Tryz.prog w
  = .ok (.agg #[.pointer (some ⟨gC,126,none⟩),.pointer (some ⟨w.heap.size,0,none⟩),.int .u64 153]) (w.alloc (.cells #[.int .i64 n] 126)):=by kernel_rfl
theorem jjm (a:Addr) (w:World):(ReflectliteValue.parts (.agg #[.pointer (some ⟨gC,126,none⟩),.pointer (some a),.int .u64 409])).run Tryz.prog w = .ok (some (126,a,409)) w:=by kernel_rfl
theorem jm0 (a:Addr) (w:World):(ReflectliteValue.parts (.agg #[.pointer (some ⟨gC,126,none⟩),.pointer (some a),.int .u64 153])).run Tryz.prog w = .ok (some (126,a,153)) w:=by kernel_rfl
theorem jlt (w:World):(Rtype.directlyAssignable 126 126).run Tryz.prog w = .ok true w:=by kernel_rfl
theorem jn9 (w:World):(sizeOf 126).run Tryz.prog w = .ok 1 w:=by kernel_rfl
theorem jjb (t:Addr) (w:World):(ReflectliteValue.unpack (.iface 135 (.pointer (some t)))).run Tryz.prog w
  = .ok (.agg #[.pointer (some ⟨gC,135,none⟩),.pointer (some ⟨w.heap.size,0,none⟩),.int .u64 150]) (w.alloc (.cells #[.pointer (some t)] 135)):=by kernel_rfl
theorem jhj (a:Addr) (w:World):(ReflectliteValue.methodAny (ReflectliteValue.valueError "reflectlite.Value.Type" 0) (fun t _ _ _=>ReflectliteType.toType t) #[.agg #[.pointer (some ⟨gC,135,none⟩),.pointer (some a),.int .u64 150]]).run Tryz.prog w
  = .ok (.iface 196 (.agg #[.pointer (some ⟨gC,135,none⟩)])) w:=by kernel_rfl
theorem jik (w:World):((ReflectliteType.abiMethod fun t=>(fun a:Nat=>Value.int IntKind.u8 (a:Int)) <$> Rtype.kind t) #[.pointer (some ⟨gC,135,none⟩)]).run Tryz.prog w = .ok (.int .u8 22) w:=by kernel_rfl
theorem jn2 (w:World):((ReflectliteType.abiMethod fun t=>(fun a:Nat=>Value.int IntKind.u8 (a:Int)) <$> Rtype.kind t) #[.pointer (some ⟨gC,128,none⟩)]).run Tryz.prog w = .ok (.int .u8 25) w:=by kernel_rfl
theorem ja4 (a:Addr) (w:World):(ReflectliteValue.parts (.agg #[.pointer (some ⟨gC,135,none⟩),.pointer (some a),.int .u64 150])).run Tryz.prog w = .ok (some (135,a,150)) w:=by kernel_rfl
theorem j6q:Tryz.prog.underlying 135=some (.pointer 128):=by kernel_rfl
theorem jj1 (a p:Addr) (W:World) (ha:W.cell? a=some (.pointer (some p))) :
  (ReflectliteValue.method (ReflectliteValue.valueError "reflectlite.Value.IsNil" 0) ReflectliteValue.isNil #[.agg #[.pointer (some ⟨gC,135,none⟩),.pointer (some a),.int .u64 150]]).run Tryz.prog W = .ok (.bool false) W:=by
 rw [jec]
 simp only [Sem.run_bind,ja4,Result.andThen]
 simp [ReflectliteValue.isNil,loadVar,isAgg,underlying,j6q,ha,Result.andThen]
theorem jjf (w:World):(ReflectliteType.method ReflectliteType.elem #[.agg #[.pointer (some ⟨gC,135,none⟩)]]).run Tryz.prog w = .ok (.iface 196 (.agg #[.pointer (some ⟨gC,128,none⟩)])) w:=by kernel_rfl
theorem jls (w:World):(ReflectliteType.relation "Implements" ReflectliteType.implements_ #[.agg #[.pointer (some ⟨gC,128,none⟩)],.iface 196 (.agg #[.pointer (some ⟨gC,82,none⟩)])]).run Tryz.prog w = .ok (.bool true) w:=by kernel_rfl
theorem jgq (v:Value) (w:World):(ReflectliteType.typeOf #[.iface 128 v]).run Tryz.prog w = .ok (.iface 196 (.agg #[.pointer (some ⟨gC,128,none⟩)])) w:=by kernel_rfl
theorem jmf (w:World):(ReflectliteType.relation "AssignableTo" ReflectliteType.assignableTo #[.agg #[.pointer (some ⟨gC,128,none⟩)],.iface 196 (.agg #[.pointer (some ⟨gC,128,none⟩)])]).run Tryz.prog w = .ok (.bool true) w:=by kernel_rfl
theorem jjx (w:World):(Rtype.elem? 135).run Tryz.prog w = .ok (some 128) w:=by kernel_rfl
theorem asMkB (p:Addr) (w:World):(ReflectliteValue.mk 128 p ReflectliteValue.flagAddr).run Tryz.prog w = .ok (.agg #[.pointer (some ⟨gC,128,none⟩),.pointer (some p),.int .u64 409]) w:=by kernel_rfl
theorem jck (a p:Addr) (W:World) (ha:W.cell? a=some (.pointer (some p))) :
  (ReflectliteValue.method (ReflectliteValue.valueError "reflectlite.Value.Elem" 0) ReflectliteValue.elem #[.agg #[.pointer (some ⟨gC,135,none⟩),.pointer (some a),.int .u64 150]]).run Tryz.prog W
   = .ok (.agg #[.pointer (some ⟨gC,128,none⟩),.pointer (some p),.int .u64 409]) W:=by
 rw [jec]
 simp only [Sem.run_bind,ja4,Result.andThen]
 simp [ReflectliteValue.elem,loadVar,isAgg,underlying,j6q,ha,Result.andThen,jjx,asMkB]
theorem jm5 (n:Int) (c:Value) (w:World):(ReflectliteValue.unpack (.iface 128 (.agg #[.int .i64 n,c]))).run Tryz.prog w
  = .ok (.agg #[.pointer (some ⟨gC,128,none⟩),.pointer (some ⟨w.heap.size,0,none⟩),.int .u64 153]) (w.alloc (.cells #[.int .i64 n,c] 128)):=by kernel_rfl
theorem jk7 (a:Addr) (w:World):(ReflectliteValue.parts (.agg #[.pointer (some ⟨gC,128,none⟩),.pointer (some a),.int .u64 409])).run Tryz.prog w = .ok (some (128,a,409)) w:=by kernel_rfl
theorem jmg (a:Addr) (w:World):(ReflectliteValue.parts (.agg #[.pointer (some ⟨gC,128,none⟩),.pointer (some a),.int .u64 153])).run Tryz.prog w = .ok (some (128,a,153)) w:=by kernel_rfl
theorem jl1 (w:World):(Rtype.directlyAssignable 128 128).run Tryz.prog w = .ok true w:=by kernel_rfl
theorem jlg (w:World):(sizeOf 128).run Tryz.prog w = .ok 2 w:=by kernel_rfl
theorem jih (w:World):(ReflectliteType.relation "AssignableTo" ReflectliteType.assignableTo #[.agg #[.pointer (some ⟨gC,128,none⟩)],.iface 196 (.agg #[.pointer (some ⟨gC,126,none⟩)])]).run Tryz.prog w = .ok (.bool false) w:=by kernel_rfl
theorem asMU (v:Value) (w:World):(Go.method 406 128 v "Unwrap").run Tryz.prog w = .ok (255,v) w:=by kernel_rfl
end YtapfankgdkdkgaaGreatDoor.AM
end Go.Proofs
