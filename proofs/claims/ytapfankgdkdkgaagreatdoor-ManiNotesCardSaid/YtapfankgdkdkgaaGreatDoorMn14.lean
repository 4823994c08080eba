
import Derived.Test.YtapfankgdkdkgaaGreatDoorMn13
import Derived.Test.YtapfankgdkdkgaaGreatDoorMn12
import Derived.Test.YtapfankgdkdkgaaGreatDoorMn8
import Derived.Lib.Join
import Derived.WalkKit
import Derived.LaidEql
import Derived.Stop.Asserts
import Derived.RowKitTokens
import Derived.Test.YtapfankgdkdkgaaGreatDoorProg
namespace Go.Proofs.YtapfankgdkdkgaaGreatDoor.AM
open Go.RowKit
set_option linter.unusedVariables false
set_option maxRecDepth 20000
def qwm (n:Nat):List LC:=[]
def qu5 (n:Nat) (a1:List UInt8):Option (List UInt8) :=
 (qtf n a1 (47:Int)).bind fun (r1:Int)=>q0b (IntKind.wrap .i64 (r1+(1:Int))) fun (n2:Int)=>(q1s a1 n2 ((List.length a1:Nat):Int)).bind fun (s3:List UInt8)=>some s3
def qe9 (n:Nat):FC:={ f:=132,args:=[.one (.c (.d .str))],res:=.one (.c (.d .str)),F:=fun p=>qu5 n p }
def j7k (n:Nat):List FC:=[qdl n]
theorem jak (n:Nat) {G:World→Prop} (hG:Know Inv G) : ∀ c∈j7k n,q0y Tryz.prog G c∧q09 c.args=true:=List.forall_mem_cons.2 ⟨j4s n G hG,(fun _ h=>by cases h)⟩
def j6a:q08:=[]
theorem ji7:drB j6a (q00 Tryz.f132)=true:=by kernel_rfl
theorem jit (n:Nat) : ∀ a,(qe9 n).F a=main Tryz.prog 8 (j7k n) (qwm n) j6a (q00 Tryz.f132) [.tmp 2] (qe9 n).args (qe9 n).res a:=by intro a;kernel_rfl
theorem jix (n:Nat):q0d Inv Tryz.prog (qe9 n):=fun G hG=>⟨⟨by kernel_rfl,fun a r h=>q04 (c:=q00 Tryz.f132) Tryz.func132 (by kernel_rfl) (by kernel_rfl) (Nat.le_of_ble_eq_true (by kernel_rfl)) hG.st (by kernel_rfl) (rs:=[.tmp 2]) (by kernel_rfl) (jak n hG) (lts:=qwm n) (fun F hF hFG=>have hK:Know Inv F.G:=hFG ▸ hG;(q02 fun j L h1 h2 h3=>absurd h2 (Nat.not_lt.2 (Nat.le_trans (by decide +kernel) h1)))) ji7 ((jit n a).symm.trans h)⟩,rfl⟩
def qry (n:Nat):List LC:=[]
def qej (n:Nat) (a1:List UInt8):Option ((List UInt8)×(Int×(Bool))) :=
 (qmy a1).bind fun (r1:List UInt8)=>(qu5 n a1).bind fun (r2:List UInt8)=>(qnj a1).bind fun (r3:Bool)=>(bif !r3 then (bif !r3 then some (([]:List UInt8),((0:Int),false)) else (qe4 n r2).bind fun (r4:Bool)=>(bif !r4 then some (a1,((0:Int),true)) else (qra r2).bind fun (r5:Int×(Bool))=>(bif !r5.2 then some (([]:List UInt8),((0:Int),false)) else (bif decide (r1=([]:List UInt8)) then some (([]:List UInt8),((0:Int),false)) else some (r1,(r5.1,true)))))) else (j0j r1).bind fun (r6:Bool)=>(bif r6 then some (([]:List UInt8),((0:Int),false)) else (qe4 n r2).bind fun (r7:Bool)=>(bif !r7 then some (a1,((0:Int),true)) else (qra r2).bind fun (r8:Int×(Bool))=>(bif !r8.2 then some (([]:List UInt8),((0:Int),false)) else (bif decide (r1=([]:List UInt8)) then some (([]:List UInt8),((0:Int),false)) else some (r1,(r8.1,true)))))))
def q74 (n:Nat):FC:={ f:=104,args:=[.one (.c (.d .str))],res:=.tup [.c (.d .str),.c (.d (.int .i64)),.c (.d .bool)],F:=fun p=>qej n p }
def qz2 (n:Nat):List FC:=[j80,qe9 n,qui,q96 n,jgb,jfm]
theorem j2h (n:Nat) {G:World→Prop} (hG:Know Inv G) : ∀ c∈qz2 n,q0y Tryz.prog G c∧q09 c.args=true:=List.forall_mem_cons.2 ⟨jk0 G hG,List.forall_mem_cons.2 ⟨jix n G hG,List.forall_mem_cons.2 ⟨j76 G hG,List.forall_mem_cons.2 ⟨qw3 n G hG,List.forall_mem_cons.2 ⟨joj G hG,List.forall_mem_cons.2 ⟨jn4 G hG,(fun _ h=>by cases h)⟩⟩⟩⟩⟩⟩
def qx9:q08:=[]
theorem jez:drB qx9 (q00 Tryz.f104)=true:=by kernel_rfl
theorem jhd (n:Nat) : ∀ a,(q74 n).F a=main Tryz.prog 37 (qz2 n) (qry n) qx9 (q00 Tryz.f104) [.tmp 2,.tmp 3,.tmp 4] (q74 n).args (q74 n).res a:=by intro a;kernel_rfl
theorem qwz (n:Nat):q0d Inv Tryz.prog (q74 n):=fun G hG=>⟨⟨by kernel_rfl,fun a r h=>q04 (c:=q00 Tryz.f104) Tryz.func104 (by kernel_rfl) (by kernel_rfl) (Nat.le_of_ble_eq_true (by kernel_rfl)) hG.st (by kernel_rfl) (rs:=[.tmp 2,.tmp 3,.tmp 4]) (by kernel_rfl) (j2h n hG) (lts:=qry n) (fun F hF hFG=>have hK:Know Inv F.G:=hFG ▸ hG;(q02 fun j L h1 h2 h3=>absurd h2 (Nat.not_lt.2 (Nat.le_trans (by decide +kernel) h1)))) jez ((jhd n a).symm.trans h)⟩,rfl⟩
def qqo (n:Nat):List LC:=[]
def qap (n:Nat) (a1:List UInt8):Option (Bool) :=
 (qej n a1).bind fun (r1:(List UInt8)×(Int×(Bool)))=>some r1.2.2
def q5e (n:Nat):FC:={ f:=73,args:=[.one (.c (.d .str))],res:=.one (.c (.d .bool)),F:=fun p=>qap n p }
def qvy (n:Nat):List FC:=[q74 n]
theorem j3x (n:Nat) {G:World→Prop} (hG:Know Inv G) : ∀ c∈qvy n,q0y Tryz.prog G c∧q09 c.args=true:=List.forall_mem_cons.2 ⟨qwz n G hG,(fun _ h=>by cases h)⟩
def qwx:q08:=[]
theorem jcx:drB qwx (q00 Tryz.f73)=true:=by kernel_rfl
theorem jh3 (n:Nat) : ∀ a,(q5e n).F a=main Tryz.prog 13 (qvy n) (qqo n) qwx (q00 Tryz.f73) [.tmp 2] (q5e n).args (q5e n).res a:=by intro a;kernel_rfl
theorem qko (n:Nat):q0d Inv Tryz.prog (q5e n):=fun G hG=>⟨⟨by kernel_rfl,fun a r h=>q04 (c:=q00 Tryz.f73) Tryz.func73 (by kernel_rfl) (by kernel_rfl) (Nat.le_of_ble_eq_true (by kernel_rfl)) hG.st (by kernel_rfl) (rs:=[.tmp 2]) (by kernel_rfl) (j3x n hG) (lts:=qqo n) (fun F hF hFG=>have hK:Know Inv F.G:=hFG ▸ hG;(q02 fun j L h1 h2 h3=>absurd h2 (Nat.not_lt.2 (Nat.le_trans (by decide +kernel) h1)))) jcx ((jh3 n a).symm.trans h)⟩,rfl⟩
def qyq (n:Nat):List LC:=[]
def quj (n:Nat) (a1:List UInt8) (a2:Int×(Int×(Int×((List UInt8)×(List UInt8))))):Option (Bool) :=
 (qej n a1).bind fun (r1:(List UInt8)×(Int×(Bool)))=>(bif !r1.2.2 then (bif !r1.2.2 then some false else (bif decide (r1.2.1=(0:Int)) then some (decide (a2.1<(2:Int))) else some (decide (a2.1=r1.2.1)))) else (q5o n a2).bind fun (r2:Bool)=>(bif !r2 then some false else (bif decide (r1.2.1=(0:Int)) then some (decide (a2.1<(2:Int))) else some (decide (a2.1=r1.2.1)))))
def qf1 (n:Nat):FC:={ f:=75,args:=[.one (.c (.d .str)),.one (.agg [.d (.int .i64),.d (.int .i64),.d (.int .i64),.d .str,.d .str])],res:=.one (.c (.d .bool)),F:=fun p=>quj n p.1 p.2 }
def j4t (n:Nat):List FC:=[q74 n,q48 n]
theorem j9x (n:Nat) {G:World→Prop} (hG:Know Inv G) : ∀ c∈j4t n,q0y Tryz.prog G c∧q09 c.args=true:=List.forall_mem_cons.2 ⟨qwz n G hG,List.forall_mem_cons.2 ⟨qf5 n G hG,(fun _ h=>by cases h)⟩⟩
def j7r:q08:=[]
theorem jjn:drB j7r (q00 Tryz.f75)=true:=by kernel_rfl
theorem ji1 (n:Nat) : ∀ a,(qf1 n).F a=main Tryz.prog 30 (j4t n) (qyq n) j7r (q00 Tryz.f75) [.tmp 4] (qf1 n).args (qf1 n).res a:=by intro a;kernel_rfl
theorem jiq (n:Nat):q0d Inv Tryz.prog (qf1 n):=fun G hG=>⟨⟨by kernel_rfl,fun a r h=>q04 (c:=q00 Tryz.f75) Tryz.func75 (by kernel_rfl) (by kernel_rfl) (Nat.le_of_ble_eq_true (by kernel_rfl)) hG.st (by kernel_rfl) (rs:=[.tmp 4]) (by kernel_rfl) (j9x n hG) (lts:=qyq n) (fun F hF hFG=>have hK:Know Inv F.G:=hFG ▸ hG;(q02 fun j L h1 h2 h3=>absurd h2 (Nat.not_lt.2 (Nat.le_trans (by decide +kernel) h1)))) jjn ((ji1 n a).symm.trans h)⟩,rfl⟩
end Go.Proofs.YtapfankgdkdkgaaGreatDoor.AM
namespace Go.Proofs.YtapfankgdkdkgaaGreatDoor.AM
open Go.RowKit
set_option linter.unusedVariables false
set_option linter.unusedSimpArgs false
theorem q2c (n:Nat) (s:List UInt8) (c:UInt8) (hs:s.length≤1000000) : ∀ (m i fr:Nat) (out:List (List UInt8)),i≤s.length→s.length - i+1<m→fr≤i→out.length≤i →
  q10 n m s ((c.toNat:Nat):Int) (fr:Int) (i:Int) out=some (((),()),((),(out++spl c ((s.drop fr).take (i - fr)) (s.drop i),())))
 | 0,i,fr,_,_,h,_,_=>absurd h (Nat.not_lt_zero _)
 | m+1,i,fr,out,hi,h,hf,ho=>by
  rw [q1i]
  unfold q2g
  have c0:((i:Nat):Int)≤((s.length:Nat):Int):=by omega
  have w1:=q0g (show i<4611686018427387904 by omega)
  have s1:q1s s ((fr:Nat):Int) ((i:Nat):Int)=some ((s.drop fr).take (i - fr)):=sub_le hf hi
  have a1:q35 16 out [(s.drop fr).take (i - fr)]=some (out ++ [(s.drop fr).take (i - fr)]):=q5b (by simp;omega)
  by_cases c1:i=s.length
  ·have c1':((i:Nat):Int)=((s.length:Nat):Int):=by omega
   have hd:s.drop i = []:=List.drop_eq_nil_of_le (by omega)
   simp only [c0,c1',decide_true,cond_true]
   rw [← c1',s1,Option.bind_some,a1,Option.bind_some,hd]
   simp only [q0b,w1]
   cases m with
   | zero=>omega
   | succ m =>
    rw [q1i]
    unfold q2g
    have c2 : ¬ ((i+1:Nat):Int)≤((s.length:Nat):Int):=by omega
    simp only [c2,Int.le_refl,decide_true,decide_false,cond_true,cond_false]
    rfl
  ·have c1' : ¬ ((i:Nat):Int)=((s.length:Nat):Int):=by omega
   have hi':i<s.length:=by omega
   have hd:s.drop i=s[i]::s.drop (i+1):=List.drop_eq_getElem_cons hi'
   simp only [c0,c1',decide_true,decide_false,cond_true,cond_false,q3l hi',Option.bind_some,q0b,w1,s1,a1]
   have hc:decide (((s[i].toNat:Nat):Int)=((c.toNat:Nat):Int))=decide (s[i]=c):=by
    apply decide_eq_decide.2
    constructor
    ·intro hh;exact UInt8.toNat_inj.1 (by omega)
    ·intro hh;rw [hh]
   rw [hc,hd,spl]
   by_cases c2:s[i]=c
   ·simp only [c2,decide_true,cond_true,if_true]
    rw [q2c n s c hs m (i+1) (i+1) (out ++ [(s.drop fr).take (i - fr)]) (by omega) (by omega) (Nat.le_refl _) (by simp;omega)]
    simp
   ·simp only [c2,decide_false,cond_false,if_false]
    rw [q2c n s c hs m (i+1) fr out (by omega) (by omega) (by omega) (by omega)]
    have e1:(s.drop fr).take (i+1 - fr)=(s.drop fr).take (i - fr) ++ [s[i]]:=by
     rw [show i+1 - fr=(i - fr)+1 from by omega,List.take_add_one,List.getElem?_drop,show fr+(i - fr)=i from by omega,List.getElem?_eq_getElem hi']
     rfl
    rw [e1]
theorem qxb (n:Nat) (s:List UInt8) (c:UInt8) (hs:s.length≤1000000) (hn:s.length+1<n):q4a n s ((c.toNat:Nat):Int)=some (spl c [] s):=by
 unfold q4a
 have h:=q2c n s c hs n 0 0 [] (Nat.zero_le _) (by omega) (Nat.le_refl _) (Nat.zero_le _)
 rw [show ((0:Nat):Int)=(0:Int) from rfl] at h
 rw [h]
 simp
end Go.Proofs.YtapfankgdkdkgaaGreatDoor.AM
namespace Go.Proofs.YtapfankgdkdkgaaGreatDoor.AM
open Go.RowKit
set_option linter.unusedVariables false
set_option linter.unusedSimpArgs false
theorem j8k (n:Nat) (s:List UInt8) (hL:s.length≤1000000) (hn:s.length<n):qu5 n s=some (q99 s):=by
 unfold qu5 q99
 have hg:=j73 47 s
 obtain ⟨k,hk⟩ : ∃ k:Nat,qbk 47 s+1=(k:Int):=⟨(qbk 47 s+1).toNat,by omega⟩
 rw [qs0 n s hL hn]
 simp only [Option.bind_some,q0b]
 rw [hk,wrap64 (by omega) (by omega),sub_le (by omega) (Nat.le_refl _)]
 simp only [Option.bind_some,Int.toNat_natCast]
 rw [List.take_of_length_le (by rw [List.length_drop];exact Nat.le_refl _)]
theorem jkc (s:List UInt8):(q8r s).length≤s.length:=by unfold q8r;rw [List.length_take];omega
theorem jiw (s:List UInt8):(q99 s).length≤s.length:=by unfold q99;rw [List.length_drop];omega
theorem j3c {s:List UInt8} (h:q3w s=true):q1f s=s.drop 1:=by
 unfold q3w at h
 simp only [Bool.and_eq_true,decide_eq_true_eq] at h
 unfold q1f;rw [if_pos h.1]
theorem qlv (n:Nat) (s:List UInt8) (hL:s.length≤1000000) (hn:s.length<n):qej n s=some (qly s):=by
 have hb:=jkc s
 have hl:=jiw s
 have e1:qmy s=some (q8r s):=if_pos hL
 have e2:j0j (q8r s)=some (anyS (q8r s)):=if_pos (by omega)
 have e3:qra (q99 s)=some (numOf (q1f (q99 s)),j7f (q1f (q99 s))):=if_pos (by omega)
 have e4:qnj s=some (q8g s):=rfl
 unfold qej qly okS
 simp only [e1,e2,e3,e4,j8k n s hL hn,qp7 n (q99 s) (by omega),Option.bind_some]
 cases q8g s with
 | false=>rfl
 | true=>cases anyS (q8r s) with
  | true=>rfl
  | false=>cases ht:q3w (q99 s) with
   | false=>rfl
   | true =>
    rw [j3c ht]
    cases j7f ((q99 s).drop 1) with
    | false=>rfl
    | true =>
     by_cases h0:q8r s = []
     ·simp [h0]
     ·simp [h0]
theorem j58 (s:List UInt8):(qly s).2.2=okS s:=by
 unfold qly
 cases okS s with
 | false=>rfl
 | true=>cases q3w (q99 s)<;>rfl
theorem qc7 (n:Nat) (s:List UInt8) (hL:s.length≤1000000) (hn:s.length<n):qap n s=some (okS s):=by
 unfold qap
 rw [qlv n s hL hn,← j58];rfl
def qtq (p:List UInt8) (v:VD):Bool:=okS p&&(q3h v&&(if (qly p).2.1=0 then decide (v.1<2) else decide (v.1=(qly p).2.1)))
theorem jaq (n:Nat) (s:List UInt8) (v:VD) (hL:s.length≤1000000) (hn:s.length<n) (h4:4≤n):quj n s v=some (qtq s v):=by
 unfold quj qtq
 rw [qlv n s hL hn]
 simp only [Option.bind_some,j58,q5c n v h4]
 cases okS s with
 | false=>rfl
 | true=>cases q3h v with
  | false=>rfl
  | true =>
   by_cases h:(qly s).2.1=0
   ·simp [h]
   ·simp [h]
end Go.Proofs.YtapfankgdkdkgaaGreatDoor.AM
namespace Go.Proofs.YtapfankgdkdkgaaGreatDoor.AM
open Go.RowKit
set_option linter.unusedVariables false
set_option linter.unusedSimpArgs false
abbrev Rq:=List UInt8×VD
abbrev Sw:=List UInt8×List UInt8
abbrev Sp:=Int×(Int×(Int×(List UInt8×(List UInt8×VD))))
def jq3 (a b:VD):Sp:=(a.1,(a.2.1,(a.2.2.1,(a.2.2.2.1,(a.2.2.2.2,b)))))
def jm8 (x:Sp):VD:=(x.1,(x.2.1,(x.2.2.1,(x.2.2.2.1,x.2.2.2.2.1))))
def j38 (x:Sp):VD:=x.2.2.2.2.2
theorem jmb (a b:VD):jm8 (jq3 a b)=a:=rfl
theorem jdd (a b:VD):j38 (jq3 a b)=b:=rfl
abbrev MD:=List UInt8×(List UInt8×(List Rq×(List Sw×(List Rq×List Sp))))
abbrev Cl:=List UInt8×(List UInt8×VD)
abbrev jqe:=List (Cl×(Int×Int))
abbrev clT:Ty:=.prod .str (.prod .str (.prod (.int .i64) (.prod (.int .i64) (.prod (.int .i64) (.prod .str .str)))))
abbrev qr2:List UInt8:=[109,111,100,117,108,101]
abbrev kGo:List UInt8:=[103,111]
abbrev qpd:List UInt8:=[114,101,113,117,105,114,101]
abbrev qpc:List UInt8:=[101,120,99,108,117,100,101]
abbrev qpf:List UInt8:=[114,101,112,108,97,99,101]
abbrev jhv:List UInt8:=[114,101,116,114,97,99,116]
def jfz (t:List UInt8):Bool:=decide (t = [61,62])||(decide (t = [91])||(decide (t = [44])||(decide (t = [93])||(decide (t = [40])||decide (t = [41])))))
def qq3 (w:Lx.Wd):List UInt8:=if jfz w.1 then w.1 else [120]
def shp (ws:List Lx.Wd):List UInt8:=Lib.join (ws.map qq3) [32]
def unm (ws:List Lx.Wd):List Lx.Wd:=ws.filter fun w=>!jfz w.1
def q4p (v:List UInt8):List (List UInt8) :=
 if v=qr2 then [[120]] else if v=kGo then [[120]] else if v=qpd then [[120,32,120]] else if v=qpc then [[120,32,120]] else if v=qpf then [[120,32,61,62,32,120]]
 else if v=jhv then [[120],[91,32,120,32,44,32,120,32,93]] else []
def qbc (v:List UInt8):Bool:=decide (v=qpd)||(decide (v=qpc)||(decide (v=qpf)||decide (v=jhv)))
def qdv (s:List UInt8):Bool:=s.all q47&&(decide (1≤s.length)&&(decide (s.length≤9)&&(decide (s = [48]) || !decide (s.head? = some 48))))
def qn5 (x:List UInt8):Bool:=qdv (q34 46 x)&&qdv (qdm 46 x)
def jb3 (p v:List UInt8):Int⊕Rq:=if okS p=false then .inl 6 else if (q19 v).2=false then .inl 7 else if qtq p (q19 v).1=false then .inl 8 else .inr (p,(q19 v).1)
structure MS where
 mo:List UInt8
 go:List UInt8
 bk:List UInt8
 sd:jqe
 rq:List Rq
 sw:List Sw
 ex:List Rq
 rt:List Sp
def ms0:MS:=⟨[],[],[],[],[],[],[],[]⟩
def MS.md (σ:MS):MD:=(σ.mo,(σ.go,(σ.rq,(σ.sw,(σ.ex,σ.rt)))))
def q2s (σ:MS) (c:Cl) (st:Int) (w:Lx.Wd):Int⊕MS:=if (q0c clT c σ.sd).isSome then .inl 11 else .inr { σ with sd:=q3p clT c (st+w.2,st+w.2+(w.1.length:Nat)) σ.sd }
def qpe (σ:MS) (st:Int) (v:List UInt8) (ws:List Lx.Wd):Int⊕MS :=
 match ws with
 | []=>.inl 10
 | w::ws' =>
  if v=qr2 then (if okS w.1=false then .inl 6 else q2s { σ with mo:=w.1 } (qr2,([],v0)) st w)
  else if v=kGo then (if qn5 w.1=false then .inl 7 else q2s { σ with go:=w.1 } (kGo,([],v0)) st w)
  else if v=qpd then (match jb3 w.1 ((ws'.headD ([],0)).1) with
   | .inl e=>.inl e
   | .inr q=>q2s { σ with rq:=σ.rq ++ [q] } (qpd,(q.1,v0)) st (ws'.headD ([],0)))
  else if v=qpc then (match jb3 w.1 ((ws'.headD ([],0)).1) with
   | .inl e=>.inl e
   | .inr q=>q2s { σ with ex:=σ.ex ++ [q] } (qpc,(q.1,q.2)) st (ws'.headD ([],0)))
  else if v=qpf then (if okS w.1=false then .inl 6 else if q8g ((ws'.headD ([],0)).1)=false then .inl 6 else q2s { σ with sw:=σ.sw ++ [(w.1,(ws'.headD ([],0)).1)] } (qpf,(w.1,v0)) st (ws'.headD ([],0)))
  else if (q19 w.1).2=false then .inl 7 else if (q19 ((ws'.getLast?.getD w).1)).2=false then .inl 7
  else if 0<jn1 (q19 w.1).1 (q19 ((ws'.getLast?.getD w).1)).1 then .inl 7 else .inr { σ with rt:=σ.rt ++ [jq3 (q19 w.1).1 (q19 ((ws'.getLast?.getD w).1)).1] }
def qeq (σ:MS) (st:Int) (v:List UInt8) (ws:List Lx.Wd):Int⊕MS:=if shp ws∈q4p v then qpe σ st v (unm ws) else .inl 10
def qf3 (σ:MS) (st:Int) (ws:List Lx.Wd):Int⊕MS :=
 match ws with
 | []=>.inr σ
 | w::ws' =>
  if σ.bk = [] then (if qbc w.1=true∧shp ws' = [40] then .inr { σ with bk:=w.1 } else qeq σ st w.1 ws')
  else if shp (w::ws') = [41] then .inr { σ with bk:=[] } else qeq σ st σ.bk (w::ws')
def q2k (t:List UInt8):List Lx.Wd:=(Lx.qqu t).1
def q9n:List (List UInt8)→Int→Int→MS→(Int×Int)⊕MS
 | [],_,_,σ=>.inr σ
 | t::ts,i,st,σ=>match qf3 σ st (q2k t) with
  | .inl e=>.inl (i,e)
  | .inr σ'=>q9n ts (i+1) (st+((t.length:Nat):Int)+1) σ'
def qn2 (s:List UInt8):(Int×Int)⊕(MS×Int) :=
 if (Lx.q42 (Lx.q0a s) 0 []).2.2≠0 then .inl ((Lx.q42 (Lx.q0a s) 0 []).2.1,(Lx.q42 (Lx.q0a s) 0 []).2.2)
 else match q9n (Lx.q0a s) 0 0 ms0 with
  | .inl e=>.inl e
  | .inr σ=>if σ.bk ≠ [] then .inl (((Lx.q0a s).length:Nat),10) else if σ.mo = [] then .inl (((Lx.q0a s).length:Nat),5) else .inr (σ,((Lx.q0a s).length:Nat))
abbrev md0:MD:=([],([],([],([],([],[])))))
def qa6 (s:List UInt8):MD×(Int×Int):=match qn2 s with
 | .inl e=>(md0,e)
 | .inr (σ,n)=>(σ.md,(n,0))
theorem qqr (a b:Cl):eqT clT a b=true↔a=b:=by
 obtain ⟨a1,a2,a3,a4,a5,a6,a7⟩:=a
 obtain ⟨b1,b2,b3,b4,b5,b6,b7⟩:=b
 show (decide (a1=b1)&&(decide (a2=b2)&&(decide (a3=b3)&&(decide (a4=b4)&&(decide (a5=b5)&&(decide (a6=b6)&&decide (a7=b7)))))))=true↔_
 simp only [Bool.and_eq_true,decide_eq_true_eq,Prod.mk.injEq]
theorem jml {a b:Cl} (h:a≠b):eqT clT a b=false:=by
 cases hb:eqT clT a b with
 | true=>exact absurd ((qqr a b).1 hb) h
 | false=>rfl
theorem qd1 (c c':Cl) (v:Int×Int) : ∀ l:jqe,q0c clT c (q3p clT c' v l)=bif eqT clT c c' then some v else q0c clT c l
 | []=>rfl
 | (k,y)::l=>by
  show q0c clT c (bif eqT clT c' k then (c',v)::l else (k,y)::q3p clT c' v l)=bif eqT clT c c' then some v else (bif eqT clT c k then some y else q0c clT c l)
  cases hk:eqT clT c' k with
  | true =>
   have hk':=(qqr c' k).1 hk
   subst hk'
   show (bif eqT clT c c' then some v else q0c clT c l)=_
   cases eqT clT c c'<;>rfl
  | false =>
   show (bif eqT clT c k then some y else q0c clT c (q3p clT c' v l))=_
   rw [qd1 c c' v l]
   cases hb:eqT clT c k with
   | true =>
    have:=(qqr c k).1 hb
    subst this
    have:eqT clT c c'=false:=by
     refine jml fun h=>?_
     subst h;rw [(qqr c c).2 rfl] at hk;cases hk
    rw [this];rfl
   | false=>rfl
theorem jnp {c c':Cl} (h:c≠c') (v:Int×Int) (l:jqe):q0c clT c (q3p clT c' v l)=q0c clT c l:=by rw [qd1,jml h];rfl
end Go.Proofs.YtapfankgdkdkgaaGreatDoor.AM
namespace Go.Proofs
open Go.RowKit Go.Extern.Stop Go.Stop Go.Extern
set_option linter.unusedVariables false
set_option linter.unusedSimpArgs false
namespace YtapfankgdkdkgaaGreatDoor.AM
abbrev gC:Nat:=9
theorem jk8 (z:Sem Value) (f:TypeId→Addr→Nat→Nat→Sem Value) (v:Value) :
  ReflectliteValue.method z f #[v]=(do match ← ReflectliteValue.parts v with|none=>z|some (t,a,fl)=>f t a fl (fl % 32)):=rfl
theorem jry (v x:Value):ReflectliteValue.set #[v,x]=(do
  let (some (dst,a,fl),some (src,b,_)):=(← ReflectliteValue.parts v,← ReflectliteValue.parts x)
   | unsupported (.noEntry "extern/(internal/reflectlite.Value).Set.zeroValue")
  if fl / ReflectliteValue.flagAddr % 2==0 then unsupported (.noEntry "extern/(internal/reflectlite.Value).Set.unaddressable")
  let val ← loadVar src b
  if ← Rtype.directlyAssignable dst src then storeVar dst a val
  else if ← Rtype.implements dst src then
   if (← Rtype.kind src)==20 then
    match val with
    | .nilIface=>unsupported (.noEntry "extern/reflectlite: a nil value of one interface type handed on as a value of another")
    | _=>storeVar dst a val
   else storeVar dst a (.iface src val)
  else panicString ("reflectlite.Set: value of type " ++ (← Rtype.spelt src) ++ " is not assignable to type " ++ (← Rtype.spelt dst))
  pure (.tuple #[])):=rfl
theorem asMK (h:Value) (w:World):(Go.method 406 196 (.agg #[h]) "Kind").run Tryz.prog w = .ok (250,h) w:=by kernel_rfl
theorem asME (h:Value) (w:World):(Go.method 406 196 (.agg #[h]) "Elem").run Tryz.prog w = .ok (263,.agg #[h]) w:=by kernel_rfl
theorem asMI (h:Value) (w:World):(Go.method 406 196 (.agg #[h]) "Implements").run Tryz.prog w = .ok (264,.agg #[h]) w:=by kernel_rfl
theorem asMA (h:Value) (w:World):(Go.method 406 196 (.agg #[h]) "AssignableTo").run Tryz.prog w = .ok (261,.agg #[h]) w:=by kernel_rfl
theorem jol (t:Addr) (w:World):(ReflectliteValue.unpack (.iface 136 (.pointer (some t)))).run Tryz.prog w
  = .ok (.agg #[.pointer (some ⟨gC,136,none⟩),.pointer (some ⟨w.heap.size,0,none⟩),.int .u64 150]) (w.alloc (.cells #[.pointer (some t)] 136)):=by kernel_rfl
theorem jns (a:Addr) (w:World):(ReflectliteValue.methodAny (ReflectliteValue.valueError "reflectlite.Value.Type" 0) (fun t _ _ _=>ReflectliteType.toType t) #[.agg #[.pointer (some ⟨gC,136,none⟩),.pointer (some a),.int .u64 150]]).run Tryz.prog w
  = .ok (.iface 196 (.agg #[.pointer (some ⟨gC,136,none⟩)])) w:=by kernel_rfl
theorem jpg (w:World):((ReflectliteType.abiMethod fun t=>(fun a:Nat=>Value.int IntKind.u8 (a:Int)) <$> Rtype.kind t) #[.pointer (some ⟨gC,136,none⟩)]).run Tryz.prog w = .ok (.int .u8 22) w:=by kernel_rfl
theorem js4 (w:World):((ReflectliteType.abiMethod fun t=>(fun a:Nat=>Value.int IntKind.u8 (a:Int)) <$> Rtype.kind t) #[.pointer (some ⟨gC,126,none⟩)]).run Tryz.prog w = .ok (.int .u8 25) w:=by kernel_rfl
theorem jd9 (a:Addr) (w:World):(ReflectliteValue.parts (.agg #[.pointer (some ⟨gC,136,none⟩),.pointer (some a),.int .u64 150])).run Tryz.prog w = .ok (some (136,a,150)) w:=by kernel_rfl
theorem jdb:Tryz.prog.underlying 136=some (.pointer 126):=by kernel_rfl
theorem jmq (a p:Addr) (W:World) (ha:W.cell? a=some (.pointer (some p))) :
  (ReflectliteValue.method (ReflectliteValue.valueError "reflectlite.Value.IsNil" 0) ReflectliteValue.isNil #[.agg #[.pointer (some ⟨gC,136,none⟩),.pointer (some a),.int .u64 150]]).run Tryz.prog W = .ok (.bool false) W:=by
 rw [jk8]
 simp only [Sem.run_bind,jd9,Result.andThen]
 simp [ReflectliteValue.isNil,loadVar,isAgg,underlying,jdb,ha,Result.andThen]
theorem jn8 (w:World):(ReflectliteType.method ReflectliteType.elem #[.agg #[.pointer (some ⟨gC,136,none⟩)]]).run Tryz.prog w = .ok (.iface 196 (.agg #[.pointer (some ⟨gC,126,none⟩)])) w:=by kernel_rfl
theorem jsl (w:World):(ReflectliteType.relation "Implements" ReflectliteType.implements_ #[.agg #[.pointer (some ⟨gC,126,none⟩)],.iface 196 (.agg #[.pointer (some ⟨gC,82,none⟩)])]).run Tryz.prog w = .ok (.bool true) w:=by kernel_rfl
theorem jqp (v:Value) (w:World):(ReflectliteType.typeOf #[.iface 126 v]).run Tryz.prog w = .ok (.iface 196 (.agg #[.pointer (some ⟨gC,126,none⟩)])) w:=by kernel_rfl
theorem jr2 (w:World):(ReflectliteType.relation "AssignableTo" ReflectliteType.assignableTo #[.agg #[.pointer (some ⟨gC,126,none⟩)],.iface 196 (.agg #[.pointer (some ⟨gC,126,none⟩)])]).run Tryz.prog w = .ok (.bool true) w:=by kernel_rfl
theorem jnz (w:World):(Rtype.elem? 136).run Tryz.prog w = .ok (some 126) w:=by kernel_rfl
theorem asMkT (p:Addr) (w:World):(ReflectliteValue.mk 126 p ReflectliteValue.flagAddr).run Tryz.prog w = .ok (.agg #[.pointer (some ⟨gC,126,none⟩),.pointer (some p),.int .u64 409]) w:=by kernel_rfl
theorem jib (a p:Addr) (W:World) (ha:W.cell? a=some (.pointer (some p))) :
  (ReflectliteValue.method (ReflectliteValue.valueError "reflectlite.Value.Elem" 0) ReflectliteValue.elem #[.agg #[.pointer (some ⟨gC,136,none⟩),.pointer (some a),.int .u64 150]]).run Tryz.prog W
   = .ok (.agg #[.pointer (some ⟨gC,126,none⟩),.pointer (some p),.int .u64 409]) W:=by
 rw [jk8]
 simp only [Sem.run_bind,jd9,Result.andThen]
 simp [ReflectliteValue.elem,loadVar,isAgg,underlying,jdb,ha,Result.andThen,jnz,asMkT]
theorem jqr (n:Int) (w:World):(ReflectliteValue.unpack (.iface 126 (.agg #[.int .i64 n]))).run Tryz.prog w
  = .ok (.agg #[.pointer (some ⟨gC,126,none⟩),.pointer (some ⟨w.heap.size,0,none⟩),.int .u64 153]) (w.alloc (.cells #[.int .i64 n] 126)):=by kernel_rfl
theorem jp7 (a:Addr) (w:World):(ReflectliteValue.parts (.agg #[.pointer (some ⟨gC,126,none⟩),.pointer (some a),.int .u64 409])).run Tryz.prog w = .ok (some (126,a,409)) w:=by kernel_rfl
theorem jso (a:Addr) (w:World):(ReflectliteValue.parts (.agg #[.pointer (some ⟨gC,126,none⟩),.pointer (some a),.int .u64 153])).run Tryz.prog w = .ok (some (126,a,153)) w:=by kernel_rfl
theorem jta (w:World):(Rtype.directlyAssignable 126 126).run Tryz.prog w = .ok true w:=by kernel_rfl
theorem js8 (w:World):(sizeOf 126).run Tryz.prog w = .ok 1 w:=by kernel_rfl
theorem jmw (t:Addr) (w:World):(ReflectliteValue.unpack (.iface 135 (.pointer (some t)))).run Tryz.prog w
  = .ok (.agg #[.pointer (some ⟨gC,135,none⟩),.pointer (some ⟨w.heap.size,0,none⟩),.int .u64 150]) (w.alloc (.cells #[.pointer (some t)] 135)):=by kernel_rfl
theorem jmy (a:Addr) (w:World):(ReflectliteValue.methodAny (ReflectliteValue.valueError "reflectlite.Value.Type" 0) (fun t _ _ _=>ReflectliteType.toType t) #[.agg #[.pointer (some ⟨gC,135,none⟩),.pointer (some a),.int .u64 150]]).run Tryz.prog w
  = .ok (.iface 196 (.agg #[.pointer (some ⟨gC,135,none⟩)])) w:=by kernel_rfl
theorem jno (w:World):((ReflectliteType.abiMethod fun t=>(fun a:Nat=>Value.int IntKind.u8 (a:Int)) <$> Rtype.kind t) #[.pointer (some ⟨gC,135,none⟩)]).run Tryz.prog w = .ok (.int .u8 22) w:=by kernel_rfl
theorem jrx (w:World):((ReflectliteType.abiMethod fun t=>(fun a:Nat=>Value.int IntKind.u8 (a:Int)) <$> Rtype.kind t) #[.pointer (some ⟨gC,128,none⟩)]).run Tryz.prog w = .ok (.int .u8 25) w:=by kernel_rfl
theorem jfu (a:Addr) (w:World):(ReflectliteValue.parts (.agg #[.pointer (some ⟨gC,135,none⟩),.pointer (some a),.int .u64 150])).run Tryz.prog w = .ok (some (135,a,150)) w:=by kernel_rfl
theorem jbv:Tryz.prog.underlying 135=some (.pointer 128):=by kernel_rfl
theorem jon (a p:Addr) (W:World) (ha:W.cell? a=some (.pointer (some p))) :
  (ReflectliteValue.method (ReflectliteValue.valueError "reflectlite.Value.IsNil" 0) ReflectliteValue.isNil #[.agg #[.pointer (some ⟨gC,135,none⟩),.pointer (some a),.int .u64 150]]).run Tryz.prog W = .ok (.bool false) W:=by
 rw [jk8]
 simp only [Sem.run_bind,jfu,Result.andThen]
 simp [ReflectliteValue.isNil,loadVar,isAgg,underlying,jbv,ha,Result.andThen]
theorem jpx (w:World):(ReflectliteType.method ReflectliteType.elem #[.agg #[.pointer (some ⟨gC,135,none⟩)]]).run Tryz.prog w = .ok (.iface 196 (.agg #[.pointer (some ⟨gC,128,none⟩)])) w:=by kernel_rfl
theorem jsb (w:World):(ReflectliteType.relation "Implements" ReflectliteType.implements_ #[.agg #[.pointer (some ⟨gC,128,none⟩)],.iface 196 (.agg #[.pointer (some ⟨gC,82,none⟩)])]).run Tryz.prog w = .ok (.bool true) w:=by kernel_rfl
theorem jmi (v:Value) (w:World):(ReflectliteType.typeOf #[.iface 128 v]).run Tryz.prog w = .ok (.iface 196 (.agg #[.pointer (some ⟨gC,128,none⟩)])) w:=by kernel_rfl
theorem jrv (w:World):(ReflectliteType.relation "AssignableTo" ReflectliteType.assignableTo #[.agg #[.pointer (some ⟨gC,128,none⟩)],.iface 196 (.agg #[.pointer (some ⟨gC,128,none⟩)])]).run Tryz.prog w = .ok (.bool true) w:=by kernel_rfl
theorem jog (w:World):(Rtype.elem? 135).run Tryz.prog w = .ok (some 128) w:=by kernel_rfl
theorem asMkB (p:Addr) (w:World):(ReflectliteValue.mk 128 p ReflectliteValue.flagAddr).run Tryz.prog w = .ok (.agg #[.pointer (some ⟨gC,128,none⟩),.pointer (some p),.int .u64 409]) w:=by kernel_rfl
theorem jig (a p:Addr) (W:World) (ha:W.cell? a=some (.pointer (some p))) :
  (ReflectliteValue.method (ReflectliteValue.valueError "reflectlite.Value.Elem" 0) ReflectliteValue.elem #[.agg #[.pointer (some ⟨gC,135,none⟩),.pointer (some a),.int .u64 150]]).run Tryz.prog W
   = .ok (.agg #[.pointer (some ⟨gC,128,none⟩),.pointer (some p),.int .u64 409]) W:=by
 rw [jk8]
 simp only [Sem.run_bind,jfu,Result.andThen]
 simp [ReflectliteValue.elem,loadVar,isAgg,underlying,jbv,ha,Result.andThen,jog,asMkB]
theorem jsr (n:Int) (c:Value) (w:World):(ReflectliteValue.unpack (.iface 128 (.agg #[.int .i64 n,c]))).run Tryz.prog w
  = .ok (.agg #[.pointer (some ⟨gC,128,none⟩),.pointer (some ⟨w.heap.size,0,none⟩),.int .u64 153]) (w.alloc (.cells #[.int .i64 n,c] 128)):=by kernel_rfl
theorem jnk (a:Addr) (w:World):(ReflectliteValue.parts (.agg #[.pointer (some ⟨gC,128,none⟩),.pointer (some a),.int .u64 409])).run Tryz.prog w = .ok (some (128,a,409)) w:=by kernel_rfl
theorem jsc (a:Addr) (w:World):(ReflectliteValue.parts (.agg #[.pointer (some ⟨gC,128,none⟩),.pointer (some a),.int .u64 153])).run Tryz.prog w = .ok (some (128,a,153)) w:=by kernel_rfl
theorem jt4 (w:World):(Rtype.directlyAssignable 128 128).run Tryz.prog w = .ok true w:=by kernel_rfl
theorem jt3 (w:World):(sizeOf 128).run Tryz.prog w = .ok 2 w:=by kernel_rfl
theorem jo8 (w:World):(ReflectliteType.relation "AssignableTo" ReflectliteType.assignableTo #[.agg #[.pointer (some ⟨gC,128,none⟩)],.iface 196 (.agg #[.pointer (some ⟨gC,126,none⟩)])]).run Tryz.prog w = .ok (.bool false) w:=by kernel_rfl
theorem asMU (v:Value) (w:World):(Go.method 406 128 v "Unwrap").run Tryz.prog w = .ok (255,v) w:=by kernel_rfl
end YtapfankgdkdkgaaGreatDoor.AM
end Go.Proofs
