
import Derived.Test.YtapfankgdkdkgaaGreatDoorEo13
import Derived.Test.YtapfankgdkdkgaaGreatDoorEo12
import Derived.Test.YtapfankgdkdkgaaGreatDoorEo8
import Derived.Lib.Join
import Derived.WalkKit
import Derived.LaidEql
import Derived.Stop.Asserts
import Derived.RowKitTokens
import Derived.Test.YtapfankgdkdkgaaGreatDoorProg
set_option linter.unusedVariables false
set_option linter.unusedSimpArgs false
namespace Go.Proofs.YtapfankgdkdkgaaGreatDoor.AM
abbrev Tv:Ty:=.prod (.int .i64) (.prod (.int .i64) (.prod (.int .i64) (.prod .str .str)))
open Go.RowKit
set_option maxRecDepth 20000
def qv0 (n:Nat):List LC:=[]
def qqv (n:Nat) (a1:Yy):Option (Yy) :=
 (qpv n a1 (47:Int)).bind fun r1=>q0h (IntKind.wrap .i64 (r1+1)) fun n2=>(q20 a1 n2 (a1.length:Int)).bind fun s3=>some s3
def qbt (n:Nat):FC:={ f:=132,args:=[.one (.c (.d .str))],res:=.one (.c (.d .str)),F:=fun p=>qqv n p }
def j3d (n:Nat):List FC:=[qca n]
theorem j6t (n:Nat) {G:World→Prop} (hG:Know Inv G) : ∀ c∈j3d n,q14 Tryz.prog G c∧q0c c.args=true:=List.forall_mem_cons.2 ⟨j2z n G hG,(fun _ h=>by cases h)⟩
def j2m:q0b:=[]
theorem jig:drB j2m (q00 Tryz.f132)=true:=by kernel_rfl
theorem jfs (n:Nat) : ∀ a,(qbt n).F a=main Tryz.prog 8 (j3d n) (qv0 n) j2m (q00 Tryz.f132) [.tmp 2] (qbt n).args (qbt n).res a:=by intro a;kernel_rfl
theorem ji0 (n:Nat):q0g Inv Tryz.prog (qbt n):=fun G hG=>⟨⟨by kernel_rfl,fun a r h=>q04 (c:=q00 Tryz.f132) Tryz.func132 (by kernel_rfl) (by kernel_rfl) (Nat.le_of_ble_eq_true (by kernel_rfl)) hG.st (by kernel_rfl) (rs:=[.tmp 2]) (by kernel_rfl) (j6t n hG) (lts:=qv0 n) (fun F hF hFG=>have hK:Know Inv F.G:=hFG ▸ hG;(q03 fun j L h1 h2 h3=>absurd h2 (Nat.not_lt.2 (Nat.le_trans (by decide +kernel) h1)))) jig ((jfs n a).symm.trans h)⟩,rfl⟩
def qpa (n:Nat):List LC:=[]
def qd3 (n:Nat) (a1:Yy):Option (Yy×(Int×(Bool))) :=
 (qix a1).bind fun (r1:Yy)=>(qqv n a1).bind fun r2=>(qi0 a1).bind fun (r3:Bool)=>(bif !r3 then (bif !r3 then some (([]:Yy),((0:Int),false)) else (qbx n r2).bind fun r4=>(bif !r4 then some (a1,((0:Int),true)) else (qp2 r2).bind fun (r5:Int×(Bool))=>(bif !r5.2 then some (([]:Yy),((0:Int),false)) else (bif decide (r1=([]:Yy)) then some (([]:Yy),((0:Int),false)) else some (r1,(r5.1,true)))))) else (qwv r1).bind fun (r6:Bool)=>(bif r6 then some (([]:Yy),((0:Int),false)) else (qbx n r2).bind fun r7=>(bif !r7 then some (a1,((0:Int),true)) else (qp2 r2).bind fun (r8:Int×(Bool))=>(bif !r8.2 then some (([]:Yy),((0:Int),false)) else (bif decide (r1=([]:Yy)) then some (([]:Yy),((0:Int),false)) else some (r1,(r8.1,true)))))))
def q6b (n:Nat):FC:={ f:=104,args:=[.one (.c (.d .str))],res:=.tup [.c (.d .str),.c (.d (.int .i64)),.c (.d .bool)],F:=fun p=>qd3 n p }
def qtu (n:Nat):List FC:=[j57,qbt n,qqm,q8x n,jen,jad]
theorem qzs (n:Nat) {G:World→Prop} (hG:Know Inv G) : ∀ c∈qtu n,q14 Tryz.prog G c∧q0c c.args=true:=List.forall_mem_cons.2 ⟨jg6 G hG,List.forall_mem_cons.2 ⟨ji0 n G hG,List.forall_mem_cons.2 ⟨j2c G hG,List.forall_mem_cons.2 ⟨qwg n G hG,List.forall_mem_cons.2 ⟨jn8 G hG,List.forall_mem_cons.2 ⟨jk7 G hG,(fun _ h=>by cases h)⟩⟩⟩⟩⟩⟩
def qx5:q0b:=[]
theorem jao:drB qx5 (q00 Tryz.f104)=true:=by kernel_rfl
theorem je1 (n:Nat) : ∀ a,(q6b n).F a=main Tryz.prog 37 (qtu n) (qpa n) qx5 (q00 Tryz.f104) [.tmp 2,.tmp 3,.tmp 4] (q6b n).args (q6b n).res a:=by intro a;kernel_rfl
theorem qtb (n:Nat):q0g Inv Tryz.prog (q6b n):=fun G hG=>⟨⟨by kernel_rfl,fun a r h=>q04 (c:=q00 Tryz.f104) Tryz.func104 (by kernel_rfl) (by kernel_rfl) (Nat.le_of_ble_eq_true (by kernel_rfl)) hG.st (by kernel_rfl) (rs:=[.tmp 2,.tmp 3,.tmp 4]) (by kernel_rfl) (qzs n hG) (lts:=qpa n) (fun F hF hFG=>have hK:Know Inv F.G:=hFG ▸ hG;(q03 fun j L h1 h2 h3=>absurd h2 (Nat.not_lt.2 (Nat.le_trans (by decide +kernel) h1)))) jao ((je1 n a).symm.trans h)⟩,rfl⟩
def qp5 (n:Nat):List LC:=[]
def q7d (n:Nat) (a1:Yy):Option (Bool) :=
 (qd3 n a1).bind fun r1=>some r1.2.2
def q3y (n:Nat):FC:={ f:=73,args:=[.one (.c (.d .str))],res:=.one (.c (.d .bool)),F:=fun p=>q7d n p }
def qx1 (n:Nat):List FC:=[q6b n]
theorem qze (n:Nat) {G:World→Prop} (hG:Know Inv G) : ∀ c∈qx1 n,q14 Tryz.prog G c∧q0c c.args=true:=List.forall_mem_cons.2 ⟨qtb n G hG,(fun _ h=>by cases h)⟩
def qvx:q0b:=[]
theorem jb5:drB qvx (q00 Tryz.f73)=true:=by kernel_rfl
theorem j9h (n:Nat) : ∀ a,(q3y n).F a=main Tryz.prog 13 (qx1 n) (qp5 n) qvx (q00 Tryz.f73) [.tmp 2] (q3y n).args (q3y n).res a:=by intro a;kernel_rfl
theorem qby (n:Nat):q0g Inv Tryz.prog (q3y n):=fun G hG=>⟨⟨by kernel_rfl,fun a r h=>q04 (c:=q00 Tryz.f73) Tryz.func73 (by kernel_rfl) (by kernel_rfl) (Nat.le_of_ble_eq_true (by kernel_rfl)) hG.st (by kernel_rfl) (rs:=[.tmp 2]) (by kernel_rfl) (qze n hG) (lts:=qp5 n) (fun F hF hFG=>have hK:Know Inv F.G:=hFG ▸ hG;(q03 fun j L h1 h2 h3=>absurd h2 (Nat.not_lt.2 (Nat.le_trans (by decide +kernel) h1)))) jb5 ((j9h n a).symm.trans h)⟩,rfl⟩
def qxi (n:Nat):List LC:=[]
def qjx (n:Nat) (a1:Yy) (a2:Vv):Option (Bool) :=
 (qd3 n a1).bind fun r1=>(bif !r1.2.2 then (bif !r1.2.2 then some false else (bif decide (r1.2.1=0) then some (decide (a2.1<2)) else some (decide (a2.1=r1.2.1)))) else (q4i n a2).bind fun r2=>(bif !r2 then some false else (bif decide (r1.2.1=0) then some (decide (a2.1<2)) else some (decide (a2.1=r1.2.1)))))
def q9v (n:Nat):FC:={ f:=75,args:=[.one (.c (.d .str)),.one (.agg [.d (.int .i64),.d (.int .i64),.d (.int .i64),.d .str,.d .str])],res:=.one (.c (.d .bool)),F:=fun p=>qjx n p.1 p.2 }
def j50 (n:Nat):List FC:=[q6b n,q34 n]
theorem j7g (n:Nat) {G:World→Prop} (hG:Know Inv G) : ∀ c∈j50 n,q14 Tryz.prog G c∧q0c c.args=true:=List.forall_mem_cons.2 ⟨qtb n G hG,List.forall_mem_cons.2 ⟨q94 n G hG,(fun _ h=>by cases h)⟩⟩
def j46:q0b:=[]
theorem jgs:drB j46 (q00 Tryz.f75)=true:=by kernel_rfl
theorem jg5 (n:Nat) : ∀ a,(q9v n).F a=main Tryz.prog 30 (j50 n) (qxi n) j46 (q00 Tryz.f75) [.tmp 4] (q9v n).args (q9v n).res a:=by intro a;kernel_rfl
theorem j3j (n:Nat):q0g Inv Tryz.prog (q9v n):=fun G hG=>⟨⟨by kernel_rfl,fun a r h=>q04 (c:=q00 Tryz.f75) Tryz.func75 (by kernel_rfl) (by kernel_rfl) (Nat.le_of_ble_eq_true (by kernel_rfl)) hG.st (by kernel_rfl) (rs:=[.tmp 4]) (by kernel_rfl) (j7g n hG) (lts:=qxi n) (fun F hF hFG=>have hK:Know Inv F.G:=hFG ▸ hG;(q03 fun j L h1 h2 h3=>absurd h2 (Nat.not_lt.2 (Nat.le_trans (by decide +kernel) h1)))) jgs ((jg5 n a).symm.trans h)⟩,rfl⟩
end Go.Proofs.YtapfankgdkdkgaaGreatDoor.AM
namespace Go.Proofs.YtapfankgdkdkgaaGreatDoor.AM
open Go.RowKit
end Go.Proofs.YtapfankgdkdkgaaGreatDoor.AM
namespace Go.Proofs.YtapfankgdkdkgaaGreatDoor.AM
open Go.RowKit
theorem j7d (n:Nat) (s:Yy) (hL:s.length≤1000000) (hn:s.length<n):qqv n s=some (q90 s):=by
 unfold qqv q90
 have hg:=j1r 47 s
 obtain ⟨k,hk⟩ : ∃ k:Nat,qad 47 s+1=(k:Int):=⟨(qad 47 s+1).toNat,by omega⟩
 rw [qny n s hL hn]
 simp only [Option.bind_some,q0h]
 rw [hk,wrap64 (by omega) (by omega),sub_le (by omega) (Nat.le_refl _)]
 simp only [Option.bind_some,Int.toNat_natCast]
 rw [List.take_of_length_le (by rw [List.length_drop];exact Nat.le_refl _)]
theorem jf4 (s:Yy):(q84 s).length≤s.length:=by unfold q84;rw [List.length_take];omega
theorem jft (s:Yy):(q90 s).length≤s.length:=by unfold q90;rw [List.length_drop];omega
theorem qyp {s:Yy} (h:q3z s=true):q1c s=s.drop 1:=by
 unfold q3z at h
 simp only [Bool.and_eq_true,decide_eq_true_eq] at h
 unfold q1c;rw [if_pos h.1]
theorem qkb (n:Nat) (s:Yy) (hL:s.length≤1000000) (hn:s.length<n):qd3 n s=some (qhk s):=by
 have hb:=jf4 s
 have hl:=jft s
 have e1:qix s=some (q84 s):=if_pos hL
 have e2:qwv (q84 s)=some (anyS (q84 s)):=if_pos (by omega)
 have e3:qp2 (q90 s)=some (numOf (q1c (q90 s)),j1y (q1c (q90 s))):=if_pos (by omega)
 have e4:qi0 s=some (q5b s):=rfl
 unfold qd3 qhk okS
 simp only [e1,e2,e3,e4,j7d n s hL hn,qlv n (q90 s) (by omega),Option.bind_some]
 cases q5b s with
 | false=>rfl
 | true=>cases anyS (q84 s) with
  | true=>rfl
  | false=>cases ht:q3z (q90 s) with
   | false=>rfl
   | true =>
    rw [qyp ht]
    cases j1y ((q90 s).drop 1) with
    | false=>rfl
    | true =>
     by_cases h0:q84 s = []
     ·simp [h0]
     ·simp [h0]
theorem j1l (s:Yy):(qhk s).2.2=okS s:=by
 unfold qhk
 cases okS s with
 | false=>rfl
 | true=>cases q3z (q90 s)<;>rfl
theorem q7q (n:Nat) (s:Yy) (hL:s.length≤1000000) (hn:s.length<n):q7d n s=some (okS s):=by
 unfold q7d
 rw [qkb n s hL hn,← j1l];rfl
def q3m (p:Yy) (v:VD):Bool:=okS p&&(q1g v&&(if (qhk p).2.1=0 then decide (v.1<2) else decide (v.1=(qhk p).2.1)))
theorem qpn (n:Nat) (s:Yy) (v:VD) (hL:s.length≤1000000) (hn:s.length<n) (h4:4≤n):qjx n s v=some (q3m s v):=by
 unfold qjx q3m
 rw [qkb n s hL hn]
 simp only [Option.bind_some,j1l,q3l n v h4]
 cases okS s with
 | false=>rfl
 | true=>cases q1g v with
  | false=>rfl
  | true =>
   by_cases h:(qhk s).2.1=0
   ·simp [h]
   ·simp [h]
end Go.Proofs.YtapfankgdkdkgaaGreatDoor.AM
namespace Go.Proofs.YtapfankgdkdkgaaGreatDoor.AM
open Go.RowKit
abbrev Rq:=Yy×VD
abbrev Sw:=Yy×Yy
abbrev Sp:=Int×(Int×(Int×(Yy×(Yy×VD))))
def jj8 (a b:VD):Sp:=(a.1,(a.2.1,(a.2.2.1,(a.2.2.2.1,(a.2.2.2.2,b)))))
def jjb (x:Sp):VD:=(x.1,(x.2.1,(x.2.2.1,(x.2.2.2.1,x.2.2.2.2.1))))
def qzy (x:Sp):VD:=x.2.2.2.2.2
theorem jiu (a b:VD):jjb (jj8 a b)=a:=rfl
theorem ja4 (a b:VD):qzy (jj8 a b)=b:=rfl
abbrev MD:=Yy×(Yy×(List Rq×(List Sw×(List Rq×List Sp))))
abbrev Cl:=Yy×(Yy×VD)
abbrev jip:=List (Cl×(Int×Int))
abbrev clT:Ty:=.prod .str (.prod .str Tv)
abbrev qih:Yy:=[109,111,100,117,108,101]
abbrev kGo:Yy:=[103,111]
abbrev q0z:Yy:=[114,101,113,117,105,114,101]
abbrev qga:Yy:=[101,120,99,108,117,100,101]
abbrev qg2:Yy:=[114,101,112,108,97,99,101]
abbrev jeb:Yy:=[114,101,116,114,97,99,116]
def q6o (t:Yy):Bool:=decide (t = [61,62])||(decide (t = [91])||(decide (t = [44])||(decide (t = [93])||(decide (t = [40])||decide (t = [41])))))
def qba (w:Lx.Wd):Yy:=if q6o w.1 then w.1 else [120]
def shp (ws:List Lx.Wd):Yy:=Lib.join (ws.map qba) [32]
def unm (ws:List Lx.Wd):List Lx.Wd:=ws.filter fun w=>!q6o w.1
def q2r (v:Yy):List (Yy) :=
 if v=qih then [[120]] else if v=kGo then [[120]] else if v=q0z then [[120,32,120]] else if v=qga then [[120,32,120]] else if v=qg2 then [[120,32,61,62,32,120]]
 else if v=jeb then [[120],[91,32,120,32,44,32,120,32,93]] else []
def qa4 (v:Yy):Bool:=decide (v=q0z)||(decide (v=qga)||(decide (v=qg2)||decide (v=jeb)))
def qdb (s:Yy):Bool:=s.all q29&&(decide (1≤s.length)&&(decide (s.length≤9)&&(decide (s = [48]) || !decide (s.head? = some 48))))
def qg6 (x:Yy):Bool:=qdb (q2j 46 x)&&qdb (qaa 46 x)
def qmo (p v:Yy):Int⊕Rq:=if okS p=false then .inl 6 else if (q0r v).2=false then .inl 7 else if q3m p (q0r v).1=false then .inl 8 else .inr (p,(q0r v).1)
structure MS where
 mo:Yy
 go:Yy
 bk:Yy
 sd:jip
 rq:List Rq
 sw:List Sw
 ex:List Rq
 rt:List Sp
def ms0:MS:=⟨[],[],[],[],[],[],[],[]⟩
def MS.md (σ:MS):MD:=(σ.mo,(σ.go,(σ.rq,(σ.sw,(σ.ex,σ.rt)))))
def q11 (σ:MS) (c:Cl) (st:Int) (w:Lx.Wd):Int⊕MS:=if (q02 clT c σ.sd).isSome then .inl 11 else .inr { σ with sd:=q0w clT c (st+w.2,st+w.2+(w.1.length:Nat)) σ.sd }
def qft (σ:MS) (st:Int) (v:Yy) (ws:List Lx.Wd):Int⊕MS :=
 match ws with
 | []=>.inl 10
 | w::ws' =>
  if v=qih then (if okS w.1=false then .inl 6 else q11 { σ with mo:=w.1 } (qih,([],v0)) st w)
  else if v=kGo then (if qg6 w.1=false then .inl 7 else q11 { σ with go:=w.1 } (kGo,([],v0)) st w)
  else if v=q0z then (match qmo w.1 ((ws'.headD ([],0)).1) with
   | .inl e=>.inl e
   | .inr q=>q11 { σ with rq:=σ.rq ++ [q] } (q0z,(q.1,v0)) st (ws'.headD ([],0)))
  else if v=qga then (match qmo w.1 ((ws'.headD ([],0)).1) with
   | .inl e=>.inl e
   | .inr q=>q11 { σ with ex:=σ.ex ++ [q] } (qga,(q.1,q.2)) st (ws'.headD ([],0)))
  else if v=qg2 then (if okS w.1=false then .inl 6 else if q5b ((ws'.headD ([],0)).1)=false then .inl 6 else q11 { σ with sw:=σ.sw ++ [(w.1,(ws'.headD ([],0)).1)] } (qg2,(w.1,v0)) st (ws'.headD ([],0)))
  else if (q0r w.1).2=false then .inl 7 else if (q0r ((ws'.getLast?.getD w).1)).2=false then .inl 7
  else if 0<jjl (q0r w.1).1 (q0r ((ws'.getLast?.getD w).1)).1 then .inl 7 else .inr { σ with rt:=σ.rt ++ [jj8 (q0r w.1).1 (q0r ((ws'.getLast?.getD w).1)).1] }
def q5c (σ:MS) (st:Int) (v:Yy) (ws:List Lx.Wd):Int⊕MS:=if shp ws∈q2r v then qft σ st v (unm ws) else .inl 10
def q3n (σ:MS) (st:Int) (ws:List Lx.Wd):Int⊕MS :=
 match ws with
 | []=>.inr σ
 | w::ws' =>
  if σ.bk = [] then (if qa4 w.1=true∧shp ws' = [40] then .inr { σ with bk:=w.1 } else q5c σ st w.1 ws')
  else if shp (w::ws') = [41] then .inr { σ with bk:=[] } else q5c σ st σ.bk (w::ws')
def q1d (t:Yy):List Lx.Wd:=(Lx.qy3 t).1
def q27:List (Yy)→Int→Int→MS→(Int×Int)⊕MS
 | [],_,_,σ=>.inr σ
 | t::ts,i,st,σ=>match q3n σ st (q1d t) with
  | .inl e=>.inl (i,e)
  | .inr σ'=>q27 ts (i+1) (st+((t.length:Nat):Int)+1) σ'
def qe0 (s:Yy):(Int×Int)⊕(MS×Int) :=
 if (Lx.q47 (Lx.q0d s) 0 []).2.2≠0 then .inl ((Lx.q47 (Lx.q0d s) 0 []).2.1,(Lx.q47 (Lx.q0d s) 0 []).2.2)
 else match q27 (Lx.q0d s) 0 0 ms0 with
  | .inl e=>.inl e
  | .inr σ=>if σ.bk ≠ [] then .inl (((Lx.q0d s).length:Nat),10) else if σ.mo = [] then .inl (((Lx.q0d s).length:Nat),5) else .inr (σ,((Lx.q0d s).length:Nat))
abbrev md0:MD:=([],([],([],([],([],[])))))
def qcp (s:Yy):MD×(Int×Int):=match qe0 s with
 | .inl e=>(md0,e)
 | .inr (σ,n)=>(σ.md,(n,0))
def q24 (s p:Yy):Int×(Int×Bool):=match qe0 s with
 | .inl _=>(0,(0,false))
 | .inr (σ,_)=>match q02 clT (q0z,(p,v0)) σ.sd with
  | some x=>(x.1,(x.2,true))
  | none=>(0,(0,false))
theorem qfk (a b:Cl):eqT clT a b=true↔a=b:=by
 obtain ⟨a1,a2,a3,a4,a5,a6,a7⟩:=a
 obtain ⟨b1,b2,b3,b4,b5,b6,b7⟩:=b
 show (decide (a1=b1)&&(decide (a2=b2)&&(decide (a3=b3)&&(decide (a4=b4)&&(decide (a5=b5)&&(decide (a6=b6)&&decide (a7=b7)))))))=true↔_
 simp only [Bool.and_eq_true,decide_eq_true_eq,Prod.mk.injEq]
theorem jjm {a b:Cl} (h:a≠b):eqT clT a b=false:=by
 cases hb:eqT clT a b with
 | true=>exact absurd ((qfk a b).1 hb) h
 | false=>rfl
theorem q1s (c c':Cl) (v:Int×Int) : ∀ l:jip,q02 clT c (q0w clT c' v l)=bif eqT clT c c' then some v else q02 clT c l
 | []=>rfl
 | (k,y)::l=>by
  show q02 clT c (bif eqT clT c' k then (c',v)::l else (k,y)::q0w clT c' v l)=bif eqT clT c c' then some v else (bif eqT clT c k then some y else q02 clT c l)
  cases hk:eqT clT c' k with
  | true =>
   have hk':=(qfk c' k).1 hk
   subst hk'
   show (bif eqT clT c c' then some v else q02 clT c l)=_
   cases eqT clT c c'<;>rfl
  | false =>
   show (bif eqT clT c k then some y else q02 clT c (q0w clT c' v l))=_
   rw [q1s c c' v l]
   cases hb:eqT clT c k with
   | true =>
    have:=(qfk c k).1 hb
    subst this
    have:eqT clT c c'=false:=by
     refine jjm fun h=>?_
     subst h;rw [(qfk c c).2 rfl] at hk;cases hk
    rw [this];rfl
   | false=>rfl
theorem qhy (c:Cl) (v:Int×Int) (l:jip):q02 clT c (q0w clT c v l)=some v:=by rw [q1s,(qfk c c).2 rfl];rfl
theorem q4b {c c':Cl} (h:c≠c') (v:Int×Int) (l:jip):q02 clT c (q0w clT c' v l)=q02 clT c l:=by rw [q1s,jjm h];rfl
end Go.Proofs.YtapfankgdkdkgaaGreatDoor.AM
namespace Go.Proofs
open Go.RowKit Go.Extern.Stop Go.Stop Go.Extern
namespace YtapfankgdkdkgaaGreatDoor.AM
abbrev gC:Nat:=9
theorem jg3 (z:Sem Value) (f:TypeId→Addr→Nat→Nat→Sem Value) (v:Value) :
  ReflectliteValue.method z f #[v]=(do match ← ReflectliteValue.parts v with|none=>z|some (t,a,fl)=>f t a fl (fl % 32)):=rfl
theorem jov (v x:Value):ReflectliteValue.set #[v,x]=(do
  let (some (dst,a,fl),some (src,b,_)):=(← ReflectliteValue.parts v,← ReflectliteValue.parts x)
   | unsupported (.noEntry "extern/(internal/reflectlite.Value).Set.zeroValue")
  if fl / ReflectliteValue.flagAddr % 2==0 then unsupported (.noEntry "extern/(internal/reflectlite.Value).Set.unaddressable")
  let val ← loadVar src b
  if ← Rtype.directlyAssignable dst src then storeVar dst a val
  else if ← Rtype.implements dst src then
   if (← Rtype.kind src)==20 then
    match val with
    | .nilIface=>unsupported (.noEntry "extern/reflectlite: a nil value of one interface type handed on as a value of another")
    | _=>storeVar dst a val
   else storeVar dst a (.iface src val)
  else panicString ("reflectlite.Set: value of type " ++ (← Rtype.spelt src) ++ " is not assignable to type " ++ (← Rtype.spelt dst))
  pure (.tuple #[])):=rfl
theorem asMK (h:Value) (w:World):(Go.method 406 196 (.agg #[h]) "Kind").run Tryz.prog w = .ok (250,h) w:=by kernel_rfl
theorem asME (h:Value) (w:World):(Go.method 406 196 (.agg #[h]) "Elem").run Tryz.prog w = .ok (263,.agg #[h]) w:=by kernel_rfl
theorem asMI (h:Value) (w:World):(Go.method 406 196 (.agg #[h]) "Implements").run Tryz.prog w = .ok (264,.agg #[h]) w:=by kernel_rfl
theorem asMA (h:Value) (w:World):(Go.method 406 196 (.agg #[h]) "AssignableTo").run Tryz.prog w = .ok (261,.agg #[h]) w:=by kernel_rfl
theorem jla (t:Addr) (w:World):(ReflectliteValue.unpack (.iface 136 (.pointer (some t)))).run Tryz.prog w
  = .ok (.agg #[.pointer (some ⟨gC,136,none⟩),.pointer (some ⟨w.heap.size,0,none⟩),.int .u64 150]) (w.alloc (.cells #[.pointer (some t)] 136)):=by kernel_rfl
theorem jka (a:Addr) (w:World):(ReflectliteValue.methodAny (ReflectliteValue.valueError "reflectlite.Value.Type" 0) (fun t _ _ _=>ReflectliteType.toType t) #[.agg #[.pointer (some ⟨gC,136,none⟩),.pointer (some a),.int .u64 150]]).run Tryz.prog w
  = .ok (.iface 196 (.agg #[.pointer (some ⟨gC,136,none⟩)])) w:=by kernel_rfl
theorem jkq (w:World):((ReflectliteType.abiMethod fun t=>(fun a:Nat=>Value.int IntKind.u8 (a:Int)) <$> Rtype.kind t) #[.pointer (some ⟨gC,136,none⟩)]).run Tryz.prog w = .ok (.int .u8 22) w:=by kernel_rfl
theorem jpy (w:World):((ReflectliteType.abiMethod fun t=>(fun a:Nat=>Value.int IntKind.u8 (a:Int)) <$> Rtype.kind t) #[.pointer (some ⟨gC,126,none⟩)]).run Tryz.prog w = .ok (.int .u8 25) w:=by kernel_rfl
theorem jdk (a:Addr) (w:World):(ReflectliteValue.parts (.agg #[.pointer (some ⟨gC,136,none⟩),.pointer (some a),.int .u64 150])).run Tryz.prog w = .ok (some (136,a,150)) w:=by kernel_rfl
theorem jc6:Tryz.prog.underlying 136=some (.pointer 126):=by kernel_rfl
theorem jlq (a p:Addr) (W:World) (ha:W.cell? a=some (.pointer (some p))) :
  (ReflectliteValue.method (ReflectliteValue.valueError "reflectlite.Value.IsNil" 0) ReflectliteValue.isNil #[.agg #[.pointer (some ⟨gC,136,none⟩),.pointer (some a),.int .u64 150]]).run Tryz.prog W = .ok (.bool false) W:=by
 rw [jg3]
 simp only [Sem.run_bind,jdk,Result.andThen]
 simp [ReflectliteValue.isNil,loadVar,isAgg,underlying,jc6,ha,Result.andThen]
theorem jk8 (w:World):(ReflectliteType.method ReflectliteType.elem #[.agg #[.pointer (some ⟨gC,136,none⟩)]]).run Tryz.prog w = .ok (.iface 196 (.agg #[.pointer (some ⟨gC,126,none⟩)])) w:=by kernel_rfl
theorem joe (w:World):(ReflectliteType.relation "Implements" ReflectliteType.implements_ #[.agg #[.pointer (some ⟨gC,126,none⟩)],.iface 196 (.agg #[.pointer (some ⟨gC,82,none⟩)])]).run Tryz.prog w = .ok (.bool true) w:=by kernel_rfl
theorem jo8 (v:Value) (w:World):(ReflectliteType.typeOf #[.iface 126 v]).run Tryz.prog w = .ok (.iface 196 (.agg #[.pointer (some ⟨gC,126,none⟩)])) w:=by kernel_rfl
theorem jof (w:World):(ReflectliteType.relation "AssignableTo" ReflectliteType.assignableTo #[.agg #[.pointer (some ⟨gC,126,none⟩)],.iface 196 (.agg #[.pointer (some ⟨gC,126,none⟩)])]).run Tryz.prog w = .ok (.bool true) w:=by kernel_rfl
theorem jkk (w:World):(Rtype.elem? 136).run Tryz.prog w = .ok (some 126) w:=by kernel_rfl
theorem asMkT (p:Addr) (w:World):(ReflectliteValue.mk 126 p ReflectliteValue.flagAddr).run Tryz.prog w = .ok (.agg #[.pointer (some ⟨gC,126,none⟩),.pointer (some p),.int .u64 409]) w:=by kernel_rfl
theorem jfx (a p:Addr) (W:World) (ha:W.cell? a=some (.pointer (some p))) :
  (ReflectliteValue.method (ReflectliteValue.valueError "reflectlite.Value.Elem" 0) ReflectliteValue.elem #[.agg #[.pointer (some ⟨gC,136,none⟩),.pointer (some a),.int .u64 150]]).run Tryz.prog W
   = .ok (.agg #[.pointer (some ⟨gC,126,none⟩),.pointer (some p),.int .u64 409]) W:=by
 rw [jg3]
 simp only [Sem.run_bind,jdk,Result.andThen]
 simp [ReflectliteValue.elem,loadVar,isAgg,underlying,jc6,ha,Result.andThen,jkk,asMkT]
theorem jqm (n:Int) (w:World):(ReflectliteValue.unpack (.iface 126 (.agg #[.int .i64 n]))).run Tryz.prog w
  = .ok (.agg #[.pointer (some ⟨gC,126,none⟩),.pointer (some ⟨w.heap.size,0,none⟩),.int .u64 153]) (w.alloc (.cells #[.int .i64 n] 126)):=by kernel_rfl
theorem jm4 (a:Addr) (w:World):(ReflectliteValue.parts (.agg #[.pointer (some ⟨gC,126,none⟩),.pointer (some a),.int .u64 409])).run Tryz.prog w = .ok (some (126,a,409)) w:=by kernel_rfl
theorem jq1 (a:Addr) (w:World):(ReflectliteValue.parts (.agg #[.pointer (some ⟨gC,126,none⟩),.pointer (some a),.int .u64 153])).run Tryz.prog w = .ok (some (126,a,153)) w:=by kernel_rfl
theorem jpd (w:World):(Rtype.directlyAssignable 126 126).run Tryz.prog w = .ok true w:=by kernel_rfl
theorem joi (w:World):(sizeOf 126).run Tryz.prog w = .ok 1 w:=by kernel_rfl
theorem jlw (t:Addr) (w:World):(ReflectliteValue.unpack (.iface 135 (.pointer (some t)))).run Tryz.prog w
  = .ok (.agg #[.pointer (some ⟨gC,135,none⟩),.pointer (some ⟨w.heap.size,0,none⟩),.int .u64 150]) (w.alloc (.cells #[.pointer (some t)] 135)):=by kernel_rfl
theorem jmr (a:Addr) (w:World):(ReflectliteValue.methodAny (ReflectliteValue.valueError "reflectlite.Value.Type" 0) (fun t _ _ _=>ReflectliteType.toType t) #[.agg #[.pointer (some ⟨gC,135,none⟩),.pointer (some a),.int .u64 150]]).run Tryz.prog w
  = .ok (.iface 196 (.agg #[.pointer (some ⟨gC,135,none⟩)])) w:=by kernel_rfl
theorem jlt (w:World):((ReflectliteType.abiMethod fun t=>(fun a:Nat=>Value.int IntKind.u8 (a:Int)) <$> Rtype.kind t) #[.pointer (some ⟨gC,135,none⟩)]).run Tryz.prog w = .ok (.int .u8 22) w:=by kernel_rfl
theorem jp3 (w:World):((ReflectliteType.abiMethod fun t=>(fun a:Nat=>Value.int IntKind.u8 (a:Int)) <$> Rtype.kind t) #[.pointer (some ⟨gC,128,none⟩)]).run Tryz.prog w = .ok (.int .u8 25) w:=by kernel_rfl
theorem j88 (a:Addr) (w:World):(ReflectliteValue.parts (.agg #[.pointer (some ⟨gC,135,none⟩),.pointer (some a),.int .u64 150])).run Tryz.prog w = .ok (some (135,a,150)) w:=by kernel_rfl
theorem jec:Tryz.prog.underlying 135=some (.pointer 128):=by kernel_rfl
theorem jms (a p:Addr) (W:World) (ha:W.cell? a=some (.pointer (some p))) :
  (ReflectliteValue.method (ReflectliteValue.valueError "reflectlite.Value.IsNil" 0) ReflectliteValue.isNil #[.agg #[.pointer (some ⟨gC,135,none⟩),.pointer (some a),.int .u64 150]]).run Tryz.prog W = .ok (.bool false) W:=by
 rw [jg3]
 simp only [Sem.run_bind,j88,Result.andThen]
 simp [ReflectliteValue.isNil,loadVar,isAgg,underlying,jec,ha,Result.andThen]
theorem jke (w:World):(ReflectliteType.method ReflectliteType.elem #[.agg #[.pointer (some ⟨gC,135,none⟩)]]).run Tryz.prog w = .ok (.iface 196 (.agg #[.pointer (some ⟨gC,128,none⟩)])) w:=by kernel_rfl
theorem jpk (w:World):(ReflectliteType.relation "Implements" ReflectliteType.implements_ #[.agg #[.pointer (some ⟨gC,128,none⟩)],.iface 196 (.agg #[.pointer (some ⟨gC,82,none⟩)])]).run Tryz.prog w = .ok (.bool true) w:=by kernel_rfl
theorem jj5 (v:Value) (w:World):(ReflectliteType.typeOf #[.iface 128 v]).run Tryz.prog w = .ok (.iface 196 (.agg #[.pointer (some ⟨gC,128,none⟩)])) w:=by kernel_rfl
theorem jpt (w:World):(ReflectliteType.relation "AssignableTo" ReflectliteType.assignableTo #[.agg #[.pointer (some ⟨gC,128,none⟩)],.iface 196 (.agg #[.pointer (some ⟨gC,128,none⟩)])]).run Tryz.prog w = .ok (.bool true) w:=by kernel_rfl
theorem jl2 (w:World):(Rtype.elem? 135).run Tryz.prog w = .ok (some 128) w:=by kernel_rfl
theorem asMkB (p:Addr) (w:World):(ReflectliteValue.mk 128 p ReflectliteValue.flagAddr).run Tryz.prog w = .ok (.agg #[.pointer (some ⟨gC,128,none⟩),.pointer (some p),.int .u64 409]) w:=by kernel_rfl
theorem jg2 (a p:Addr) (W:World) (ha:W.cell? a=some (.pointer (some p))) :
  (ReflectliteValue.method (ReflectliteValue.valueError "reflectlite.Value.Elem" 0) ReflectliteValue.elem #[.agg #[.pointer (some ⟨gC,135,none⟩),.pointer (some a),.int .u64 150]]).run Tryz.prog W
   = .ok (.agg #[.pointer (some ⟨gC,128,none⟩),.pointer (some p),.int .u64 409]) W:=by
 rw [jg3]
 simp only [Sem.run_bind,j88,Result.andThen]
 simp [ReflectliteValue.elem,loadVar,isAgg,underlying,jec,ha,Result.andThen,jl2,asMkB]
theorem jq8 (n:Int) (c:Value) (w:World):(ReflectliteValue.unpack (.iface 128 (.agg #[.int .i64 n,c]))).run Tryz.prog w
  = .ok (.agg #[.pointer (some ⟨gC,128,none⟩),.pointer (some ⟨w.heap.size,0,none⟩),.int .u64 153]) (w.alloc (.cells #[.int .i64 n,c] 128)):=by kernel_rfl
theorem jk3 (a:Addr) (w:World):(ReflectliteValue.parts (.agg #[.pointer (some ⟨gC,128,none⟩),.pointer (some a),.int .u64 409])).run Tryz.prog w = .ok (some (128,a,409)) w:=by kernel_rfl
theorem jo1 (a:Addr) (w:World):(ReflectliteValue.parts (.agg #[.pointer (some ⟨gC,128,none⟩),.pointer (some a),.int .u64 153])).run Tryz.prog w = .ok (some (128,a,153)) w:=by kernel_rfl
theorem jpz (w:World):(Rtype.directlyAssignable 128 128).run Tryz.prog w = .ok true w:=by kernel_rfl
theorem jpi (w:World):(sizeOf 128).run Tryz.prog w = .ok 2 w:=by kernel_rfl
theorem jkg (w:World):(ReflectliteType.relation "AssignableTo" ReflectliteType.assignableTo #[.agg #[.pointer (some ⟨gC,128,none⟩)],.iface 196 (.agg #[.pointer (some ⟨gC,126,none⟩)])]).run Tryz.prog w = .ok (.bool false) w:=by kernel_rfl
theorem asMU (v:Value) (w:World):(Go.method 406 128 v "Unwrap").run Tryz.prog w = .ok (255,v) w:=by kernel_rfl
end YtapfankgdkdkgaaGreatDoor.AM
end Go.Proofs
