
import Derived.Test.YtapfankgdkdkgaaGreatDoorMk13
import Derived.Test.YtapfankgdkdkgaaGreatDoorMk12
import Derived.Test.YtapfankgdkdkgaaGreatDoorMk8
import Derived.Lib.Join
import Derived.WalkKit
import Derived.LaidEql
import Derived.Stop.Asserts
import Derived.RowKitTokens
import Derived.Test.YtapfankgdkdkgaaGreatDoorProg
namespace Go.Proofs.YtapfankgdkdkgaaGreatDoor.AM
open Go.RowKit
set_option linter.unusedVariables false
set_option maxRecDepth 20000
def j2b (n:Nat):List LC:=[]
def qyz (n:Nat) (a1:List UInt8):Option (List UInt8) :=
 (qzf n a1 (47:Int)).bind fun r1=>q08 (IntKind.wrap .i64 (r1+1)) fun n2=>(q2i a1 n2 (a1.length:Int)).bind fun s3=>some s3
def qgr (n:Nat):FC:={ f:=132,args:=[.one (.c (.d .str))],res:=.one (.c (.d .str)),F:=fun p=>qyz n p }
def je8 (n:Nat):List FC:=[qgw n]
theorem jg2 (n:Nat) {G:World→Prop} (hG:Know Inv G) : ∀ c∈je8 n,q17 Tryz.prog G c∧q0b c.args=true:=List.forall_mem_cons.2 ⟨jbt n G hG,(fun _ h=>by cases h)⟩
def jcu:q0a:=[]
theorem jrr:drB jcu (q00 Tryz.f132)=true:=by kernel_rfl
theorem jpe (n:Nat) : ∀ a,(qgr n).F a=main Tryz.prog 8 (je8 n) (j2b n) jcu (q00 Tryz.f132) [.tmp 2] (qgr n).args (qgr n).res a:=by intro a;kernel_rfl
theorem js6 (n:Nat):q0d Inv Tryz.prog (qgr n):=fun G hG=>⟨⟨by kernel_rfl,fun a r h=>q04 (c:=q00 Tryz.f132) Tryz.func132 (by kernel_rfl) (by kernel_rfl) (Nat.le_of_ble_eq_true (by kernel_rfl)) hG.st (by kernel_rfl) (rs:=[.tmp 2]) (by kernel_rfl) (jg2 n hG) (lts:=j2b n) (fun F hF hFG=>have hK:Know Inv F.G:=hFG ▸ hG;(q02 fun j L h1 h2 h3=>absurd h2 (Nat.not_lt.2 (Nat.le_trans (by decide +kernel) h1)))) jrr ((jpe n a).symm.trans h)⟩,rfl⟩
def qw7 (n:Nat):List LC:=[]
def qhi (n:Nat) (a1:List UInt8):Option ((List UInt8)×(Int×(Bool))) :=
 (qo5 a1).bind fun (r1:List UInt8)=>(qyz n a1).bind fun r2=>(qqu a1).bind fun (r3:Bool)=>(bif !r3 then (bif !r3 then some (([]:List UInt8),((0:Int),false)) else (qg0 n r2).bind fun r4=>(bif !r4 then some (a1,((0:Int),true)) else (qvm r2).bind fun (r5:Int×(Bool))=>(bif !r5.2 then some (([]:List UInt8),((0:Int),false)) else (bif decide (r1=([]:List UInt8)) then some (([]:List UInt8),((0:Int),false)) else some (r1,(r5.1,true)))))) else (j1z r1).bind fun (r6:Bool)=>(bif r6 then some (([]:List UInt8),((0:Int),false)) else (qg0 n r2).bind fun r7=>(bif !r7 then some (a1,((0:Int),true)) else (qvm r2).bind fun (r8:Int×(Bool))=>(bif !r8.2 then some (([]:List UInt8),((0:Int),false)) else (bif decide (r1=([]:List UInt8)) then some (([]:List UInt8),((0:Int),false)) else some (r1,(r8.1,true)))))))
def q8i (n:Nat):FC:={ f:=104,args:=[.one (.c (.d .str))],res:=.tup [.c (.d .str),.c (.d (.int .i64)),.c (.d .bool)],F:=fun p=>qhi n p }
def j56 (n:Nat):List FC:=[jan,qgr n,qyd,qc1 n,jlf,jix]
theorem j79 (n:Nat) {G:World→Prop} (hG:Know Inv G) : ∀ c∈j56 n,q17 Tryz.prog G c∧q0b c.args=true:=List.forall_mem_cons.2 ⟨jp7 G hG,List.forall_mem_cons.2 ⟨js6 n G hG,List.forall_mem_cons.2 ⟨jdp G hG,List.forall_mem_cons.2 ⟨j5x n G hG,List.forall_mem_cons.2 ⟨jvx G hG,List.forall_mem_cons.2 ⟨jvj G hG,(fun _ h=>by cases h)⟩⟩⟩⟩⟩⟩
def j2y:q0a:=[]
theorem jnu:drB j2y (q00 Tryz.f104)=true:=by kernel_rfl
theorem jmg (n:Nat) : ∀ a,(q8i n).F a=main Tryz.prog 37 (j56 n) (qw7 n) j2y (q00 Tryz.f104) [.tmp 2,.tmp 3,.tmp 4] (q8i n).args (q8i n).res a:=by intro a;kernel_rfl
theorem j34 (n:Nat):q0d Inv Tryz.prog (q8i n):=fun G hG=>⟨⟨by kernel_rfl,fun a r h=>q04 (c:=q00 Tryz.f104) Tryz.func104 (by kernel_rfl) (by kernel_rfl) (Nat.le_of_ble_eq_true (by kernel_rfl)) hG.st (by kernel_rfl) (rs:=[.tmp 2,.tmp 3,.tmp 4]) (by kernel_rfl) (j79 n hG) (lts:=qw7 n) (fun F hF hFG=>have hK:Know Inv F.G:=hFG ▸ hG;(q02 fun j L h1 h2 h3=>absurd h2 (Nat.not_lt.2 (Nat.le_trans (by decide +kernel) h1)))) jnu ((jmg n a).symm.trans h)⟩,rfl⟩
def qvv (n:Nat):List LC:=[]
def qdf (n:Nat) (a1:List UInt8):Option (Bool) :=
 (qhi n a1).bind fun r1=>some r1.2.2
def q6a (n:Nat):FC:={ f:=73,args:=[.one (.c (.d .str))],res:=.one (.c (.d .bool)),F:=fun p=>qdf n p }
def j1n (n:Nat):List FC:=[q8i n]
theorem j7w (n:Nat) {G:World→Prop} (hG:Know Inv G) : ∀ c∈j1n n,q17 Tryz.prog G c∧q0b c.args=true:=List.forall_mem_cons.2 ⟨j34 n G hG,(fun _ h=>by cases h)⟩
def j2i:q0a:=[]
theorem jll:drB j2i (q00 Tryz.f73)=true:=by kernel_rfl
theorem jmn (n:Nat) : ∀ a,(q6a n).F a=main Tryz.prog 13 (j1n n) (qvv n) j2i (q00 Tryz.f73) [.tmp 2] (q6a n).args (q6a n).res a:=by intro a;kernel_rfl
theorem qnz (n:Nat):q0d Inv Tryz.prog (q6a n):=fun G hG=>⟨⟨by kernel_rfl,fun a r h=>q04 (c:=q00 Tryz.f73) Tryz.func73 (by kernel_rfl) (by kernel_rfl) (Nat.le_of_ble_eq_true (by kernel_rfl)) hG.st (by kernel_rfl) (rs:=[.tmp 2]) (by kernel_rfl) (j7w n hG) (lts:=qvv n) (fun F hF hFG=>have hK:Know Inv F.G:=hFG ▸ hG;(q02 fun j L h1 h2 h3=>absurd h2 (Nat.not_lt.2 (Nat.le_trans (by decide +kernel) h1)))) jll ((jmn n a).symm.trans h)⟩,rfl⟩
def j41 (n:Nat):List LC:=[]
def qyv (n:Nat) (a1:List UInt8) (a2:Int×(Int×(Int×((List UInt8)×List UInt8)))):Option (Bool) :=
 (qhi n a1).bind fun r1=>(bif !r1.2.2 then (bif !r1.2.2 then some false else (bif decide (r1.2.1=0) then some (decide (a2.1<2)) else some (decide (a2.1=r1.2.1)))) else (q7q n a2).bind fun r2=>(bif !r2 then some false else (bif decide (r1.2.1=0) then some (decide (a2.1<2)) else some (decide (a2.1=r1.2.1)))))
def qgy (n:Nat):FC:={ f:=75,args:=[.one (.c (.d .str)),.one (.agg [.d (.int .i64),.d (.int .i64),.d (.int .i64),.d .str,.d .str])],res:=.one (.c (.d .bool)),F:=fun p=>qyv n p.1 p.2 }
def jbv (n:Nat):List FC:=[q8i n,q4q n]
theorem jf9 (n:Nat) {G:World→Prop} (hG:Know Inv G) : ∀ c∈jbv n,q17 Tryz.prog G c∧q0b c.args=true:=List.forall_mem_cons.2 ⟨j34 n G hG,List.forall_mem_cons.2 ⟨qi3 n G hG,(fun _ h=>by cases h)⟩⟩
def jbk:q0a:=[]
theorem jqo:drB jbk (q00 Tryz.f75)=true:=by kernel_rfl
theorem jp1 (n:Nat) : ∀ a,(qgy n).F a=main Tryz.prog 30 (jbv n) (j41 n) jbk (q00 Tryz.f75) [.tmp 4] (qgy n).args (qgy n).res a:=by intro a;kernel_rfl
theorem jqt (n:Nat):q0d Inv Tryz.prog (qgy n):=fun G hG=>⟨⟨by kernel_rfl,fun a r h=>q04 (c:=q00 Tryz.f75) Tryz.func75 (by kernel_rfl) (by kernel_rfl) (Nat.le_of_ble_eq_true (by kernel_rfl)) hG.st (by kernel_rfl) (rs:=[.tmp 4]) (by kernel_rfl) (jf9 n hG) (lts:=j41 n) (fun F hF hFG=>have hK:Know Inv F.G:=hFG ▸ hG;(q02 fun j L h1 h2 h3=>absurd h2 (Nat.not_lt.2 (Nat.le_trans (by decide +kernel) h1)))) jqo ((jp1 n a).symm.trans h)⟩,rfl⟩
end Go.Proofs.YtapfankgdkdkgaaGreatDoor.AM
namespace Go.Proofs.YtapfankgdkdkgaaGreatDoor.AM
open Go.RowKit
set_option linter.unusedVariables false
set_option linter.unusedSimpArgs false
theorem q2k (n:Nat) (s:List UInt8) (c:UInt8) (hs:s.length≤1000000) : ∀ (m i fr:Nat) (out:List (List UInt8)),i≤s.length→s.length - i+1<m→fr≤i→out.length≤i →
  q1d n m s ((c.toNat:Nat):Int) (fr:Int) (i:Int) out=some (((),()),((),(out++spl c ((s.drop fr).take (i - fr)) (s.drop i),())))
 | 0,i,fr,_,_,h,_,_=>absurd h (Nat.not_lt_zero _)
 | m+1,i,fr,out,hi,h,hf,ho=>by
  rw [q1p]
  unfold q2s
  have c0:((i:Nat):Int)≤((s.length:Nat):Int):=by omega
  have w1:=q07 (show i<4611686018427387904 by omega)
  have s1:q2i s ((fr:Nat):Int) ((i:Nat):Int)=some ((s.drop fr).take (i - fr)):=sub_le hf hi
  have a1:q3e 16 out [(s.drop fr).take (i - fr)]=some (out ++ [(s.drop fr).take (i - fr)]):=q37 (by simp;omega)
  by_cases c1:i=s.length
  ·have c1':((i:Nat):Int)=((s.length:Nat):Int):=by omega
   have hd:s.drop i = []:=List.drop_eq_nil_of_le (by omega)
   simp only [c0,c1',decide_true,cond_true]
   rw [← c1',s1,Option.bind_some,a1,Option.bind_some,hd]
   simp only [q08,w1]
   cases m with
   | zero=>omega
   | succ m =>
    rw [q1p]
    unfold q2s
    have c2 : ¬ ((i+1:Nat):Int)≤((s.length:Nat):Int):=by omega
    simp only [c2,Int.le_refl,decide_true,decide_false,cond_true,cond_false]
    rfl
  ·have c1' : ¬ ((i:Nat):Int)=((s.length:Nat):Int):=by omega
   have hi':i<s.length:=by omega
   have hd:s.drop i=s[i]::s.drop (i+1):=List.drop_eq_getElem_cons hi'
   simp only [c0,c1',decide_true,decide_false,cond_true,cond_false,q7j hi',Option.bind_some,q08,w1,s1,a1]
   have hc:decide (((s[i].toNat:Nat):Int)=((c.toNat:Nat):Int))=decide (s[i]=c):=by
    apply decide_eq_decide.2
    constructor
    ·intro hh;exact UInt8.toNat_inj.1 (by omega)
    ·intro hh;rw [hh]
   rw [hc,hd,spl]
   by_cases c2:s[i]=c
   ·simp only [c2,decide_true,cond_true,if_true]
    rw [q2k n s c hs m (i+1) (i+1) (out ++ [(s.drop fr).take (i - fr)]) (by omega) (by omega) (Nat.le_refl _) (by simp;omega)]
    simp
   ·simp only [c2,decide_false,cond_false,if_false]
    rw [q2k n s c hs m (i+1) fr out (by omega) (by omega) (by omega) (by omega)]
    have e1:(s.drop fr).take (i+1 - fr)=(s.drop fr).take (i - fr) ++ [s[i]]:=by
     rw [show i+1 - fr=(i - fr)+1 from by omega,List.take_add_one,List.getElem?_drop,show fr+(i - fr)=i from by omega,List.getElem?_eq_getElem hi']
     rfl
    rw [e1]
theorem j4x (n:Nat) (s:List UInt8) (c:UInt8) (hs:s.length≤1000000) (hn:s.length+1<n):q3s n s ((c.toNat:Nat):Int)=some (spl c [] s):=by
 unfold q3s
 have h:=q2k n s c hs n 0 0 [] (Nat.zero_le _) (by omega) (Nat.le_refl _) (Nat.zero_le _)
 rw [show ((0:Nat):Int)=(0:Int) from rfl] at h
 rw [h]
 simp
theorem ql6 (n:Nat) (s:List UInt8) (hL:s.length≤1000000) : ∀ m j:Nat,j≤s.length→s.length - j<m→q5g n m s (j:Int)=some (if (s.drop j).all q26=true then Sum.inr ((s,()),((),())) else Sum.inl ((false,()),((),())))
 | 0,j,_,h=>absurd h (Nat.not_lt_zero _)
 | m+1,j,hj,h=>by
  rw [qgl]
  unfold qje
  by_cases c0:j<s.length
  ·have c0':((j:Nat):Int)<((s.length:Nat):Int):=by omega
   have ih:=ql6 n s hL m (j+1) (by omega) (by omega)
   have hd:s.drop j=s[j]::s.drop (j+1):=(List.drop_eq_getElem_cons c0)
   simp only [c0',decide_true,cond_true,q7j c0,Option.bind_some,q08,q07 (show j<4611686018427387904 by omega),ih,hd,List.all_cons]
   unfold q26
   by_cases h1:s[j].toNat<48
   ·have e1:((s[j].toNat:Nat):Int)<48:=by omega
    have e2 : ¬ 48≤s[j].toNat:=by omega
    simp [e1,e2]
   ·have e1 : ¬ ((s[j].toNat:Nat):Int)<48:=by omega
    have e2:48≤s[j].toNat:=by omega
    by_cases h2:57<s[j].toNat
    ·have e3:(57:Int)<((s[j].toNat:Nat):Int):=by omega
     have e4 : ¬ s[j].toNat≤57:=by omega
     simp [e1,e2,e3,e4]
    ·have e3 : ¬ (57:Int)<((s[j].toNat:Nat):Int):=by omega
     have e4:s[j].toNat≤57:=by omega
     simp [e1,e2,e3,e4]
  ·have c0' : ¬ ((j:Nat):Int)<((s.length:Nat):Int):=by omega
   have:s.drop j = []:=List.drop_eq_nil_of_le (by omega)
   simp [c0',this]
theorem j61 (n:Nat) (s:List UInt8) (hL:s.length≤1000000) (hn:s.length<n):qid n s=some (q6v s):=by
 unfold qid q6v
 have:=ql6 n s hL n 0 (Nat.zero_le _) (by omega)
 rw [show ((0:Nat):Int)=(0:Int) from rfl] at this
 rw [this,List.drop_zero]
 cases s.all q26<;>rfl
theorem jp2 (c:UInt8):qmu c=((decide ((97:Int)≤((c.toNat:Nat):Int))&&decide (((c.toNat:Nat):Int)≤(122:Int)))||(decide ((65:Int)≤((c.toNat:Nat):Int))&&decide (((c.toNat:Nat):Int)≤(90:Int)))||(decide ((48:Int)≤((c.toNat:Nat):Int))&&decide (((c.toNat:Nat):Int)≤(57:Int)))||decide (((c.toNat:Nat):Int)=(45:Int))):=by
 unfold qmu q26
 have h1:decide ((97:Int)≤((c.toNat:Nat):Int))=decide (97≤c.toNat):=decide_eq_decide.2 (by omega)
 have h2:decide (((c.toNat:Nat):Int)≤(122:Int))=decide (c.toNat≤122):=decide_eq_decide.2 (by omega)
 have h3:decide ((65:Int)≤((c.toNat:Nat):Int))=decide (65≤c.toNat):=decide_eq_decide.2 (by omega)
 have h4:decide (((c.toNat:Nat):Int)≤(90:Int))=decide (c.toNat≤90):=decide_eq_decide.2 (by omega)
 have h5:decide (((c.toNat:Nat):Int)=(45:Int))=decide (c.toNat=45):=decide_eq_decide.2 (by omega)
 have h6:decide ((48:Int)≤((c.toNat:Nat):Int))=decide (48≤c.toNat):=decide_eq_decide.2 (by omega)
 have h7:decide (((c.toNat:Nat):Int)≤(57:Int))=decide (c.toNat≤57):=decide_eq_decide.2 (by omega)
 rw [h1,h2,h3,h4,h5,h6,h7]
theorem qe6 (n:Nat) (z:Bool) (l:List (List UInt8)) (i:Nat) (hi:i<l.length) (w:List UInt8) (hw:l[i]=w) (hL:w.length≤1000000) : ∀ m j:Nat,j≤w.length→w.length - j<m→q5v n m z l (i:Int) (j:Int)=some (if (w.drop j).all qmu=true then Sum.inr ((z,(l,((i:Int),()))),((),())) else Sum.inl ((false,()),((),())))
 | 0,j,_,h=>absurd h (Nat.not_lt_zero _)
 | m+1,j,hj,h=>by
  rw [qhq]
  unfold qj9
  have e0:q1b l ((i:Nat):Int)=some w:=by rw [q0o hi,hw]
  by_cases c0:j<w.length
  ·have c0':((j:Nat):Int)<((w.length:Nat):Int):=by omega
   have ih:=qe6 n z l i hi w hw hL m (j+1) (by omega) (by omega)
   have hd:w.drop j=w[j]::w.drop (j+1):=(List.drop_eq_getElem_cons c0)
   simp only [e0,Option.bind_some,c0',decide_true,cond_true,q7j c0,q08,q07 (show j<4611686018427387904 by omega),ih,hd,List.all_cons,jp2]
   cases decide ((97:Int)≤((w[j].toNat:Nat):Int))<;>cases decide (((w[j].toNat:Nat):Int)≤(122:Int))<;>cases decide ((65:Int)≤((w[j].toNat:Nat):Int))<;>cases decide (((w[j].toNat:Nat):Int)≤(90:Int))<;>cases decide ((48:Int)≤((w[j].toNat:Nat):Int))<;>cases decide (((w[j].toNat:Nat):Int)≤(57:Int))<;>cases decide (((w[j].toNat:Nat):Int)=(45:Int))<;>rfl
  ·have c0' : ¬ ((j:Nat):Int)<((w.length:Nat):Int):=by omega
   have:w.drop j = []:=List.drop_eq_nil_of_le (by omega)
   simp only [e0,Option.bind_some,c0',decide_false,cond_false,this,List.all_nil,if_true]
def q87 (z:Bool) (w:List UInt8):Bool:=q29 w&&(z || !(q6v w&&(decide (1<w.length)&&decide (w.head? = some 48))))
theorem j2a (w:List UInt8):q87 true w=q29 w:=by unfold q87;simp
theorem qyn (w:List UInt8):q87 false w=q41 w:=by
 unfold q87 q41
 cases w with
 | nil=>simp [q29]
 | cons c r =>
  cases hn:q6v (c::r) with
  | false=>simp
  | true =>
   by_cases hc:c=48
   ·subst hc
    cases r with
    | nil=>simp
    | cons d r=>simp
   ·simp [hc]
theorem qh5 (n:Nat) (z:Bool) (l:List (List UInt8)) (hl:l.length≤1000000) (hw : ∀ w∈l,w.length≤1000000∧w.length<n) : ∀ m i:Nat,i≤l.length→l.length - i<m→q5f n m z l (i:Int)=some (if (l.drop i).all (q87 z)=true then Sum.inr ((),((),())) else Sum.inl ((false,()),((),())))
 | 0,j,_,h=>absurd h (Nat.not_lt_zero _)
 | m+1,i,hi,h=>by
  rw [qhn]
  unfold qj2
  by_cases c0:i<l.length
  ·have c0':((i:Nat):Int)<((l.length:Nat):Int):=by omega
   have ih:=qh5 n z l hl hw m (i+1) (by omega) (by omega)
   have hd:l.drop i=l[i]::l.drop (i+1):=(List.drop_eq_getElem_cons c0)
   have hww:=hw l[i] (List.getElem_mem c0)
   have h1:=qe6 n z l i c0 l[i] rfl hww.1 n 0 (Nat.zero_le _) (by omega)
   rw [show ((0:Nat):Int)=(0:Int) from rfl,List.drop_zero] at h1
   rw [hd,List.all_cons]
   simp only [c0',decide_true,cond_true,h1,Option.bind_some]
   rw [show q87 z l[i]=((l[i].all qmu && !decide (l[i] = []))&&(z || !(q6v l[i]&&(decide (1<l[i].length)&&decide (l[i].head? = some 48))))) from rfl]
   cases hs:l[i].all qmu with
   | false=>simp
   | true =>
    simp only [if_true,Sum.elim_inr,q0o c0,Option.bind_some,j61 n _ hww.1 hww.2,q08,q07 (show i<4611686018427387904 by omega),ih]
    generalize hx:l[i]=x at hs hww
    cases x with
    | nil=>simp
    | cons c r =>
     have h0:sAt (c::r) (0:Int)=some ((c.toNat:Nat):Int):=q7j (s:=c::r) (j:=0) (by simp)
     have h2:decide (((c.toNat:Nat):Int)=(48:Int))=decide ((c::r).head? = some 48):=decide_eq_decide.2 (by
      simp only [List.head?_cons,Option.some.injEq]
      constructor
      ·intro h;exact UInt8.toNat_inj.1 (by have e48:(48:UInt8).toNat=48:=rfl;rw [e48];omega)
      ·rintro rfl;rfl)
     have h3:decide ((1:Int)<(((c::r).length:Nat):Int))=decide (1<(c::r).length):=decide_eq_decide.2 (by omega)
     have e0:decide (c::r=([]:List UInt8))=false:=by simp
     simp only [h0,h2,h3,e0,Option.bind_some,cond_false]
     cases z<;>cases q6v (c::r)<;>cases decide (1<(c::r).length)<;>cases decide ((c::r).head? = some 48)<;>simp
  ·have c0' : ¬ ((i:Nat):Int)<((l.length:Nat):Int):=by omega
   have:l.drop i = []:=List.drop_eq_nil_of_le (by omega)
   simp only [c0',decide_false,cond_false,this,List.all_nil,if_true]
theorem qlk (n:Nat) (s:List UInt8) (z:Bool) (hs:s.length≤100000) (hn:s.length+2<n):q8t n s z=some ((spl 46 [] s).all (q87 z)):=by
 unfold q8t
 have e1:q3s n s (46:Int)=some (spl 46 [] s):=j4x n s 46 (by omega) (by omega)
 rw [e1]
 have k:=qf5 46 s []
 have h:=qh5 n z (spl 46 [] s) (by omega) (fun w hw=>by have:=qkv 46 s [] w hw;simp at this;omega) n 0 (Nat.zero_le _) (by omega)
 rw [show ((0:Nat):Int)=(0:Int) from rfl,List.drop_zero] at h
 simp only [Option.bind_some,h]
 cases (spl 46 [] s).all (q87 z)<;>rfl
theorem jko (n:Nat) (a:Int):qw1 n a=some (je1 a):=by
 unfold qw1 je1
 cases decide ((0:Int)≤a)<;>rfl
theorem j7f (n:Nat) (v:VD) (hn:100≤n):qnr n v=some (q10 v):=by
 unfold qnr q10
 simp only [jko,Option.bind_some]
 cases je1 v.1 with
 | false=>rfl
 | true=>cases je1 v.2.1 with
  | false=>rfl
  | true=>cases je1 v.2.2.1 with
   | false=>rfl
   | true =>
    simp only [Bool.not_true,cond_false,Bool.true_and]
    unfold q5w
    have f1:(q87 true)=q29:=funext j2a
    have f2:(q87 false)=q41:=funext qyn
    by_cases c1:(30:Int)<((v.2.2.2.1.length:Nat):Int)
    ·have e1:v.2.2.2.1 ≠ []:=fun e=>by rw [e] at c1;simp at c1
     have e2 : ¬ v.2.2.2.1.length≤30:=by omega
     simp [c1,e1,e2]
    ·by_cases c2:(30:Int)<((v.2.2.2.2.length:Nat):Int)
     ·have e1:v.2.2.2.2 ≠ []:=fun e=>by rw [e] at c2;simp at c2
      have e2 : ¬ v.2.2.2.2.length≤30:=by omega
      simp [c1,c2,e1,e2]
     ·have l1:v.2.2.2.1.length≤30:=by omega
      have l2:v.2.2.2.2.length≤30:=by omega
      have r1:=qlk n v.2.2.2.1 false (by omega) (by omega)
      have r2:=qlk n v.2.2.2.2 true (by omega) (by omega)
      rw [f2] at r1
      rw [f1] at r2
      simp only [c1,c2,decide_false,cond_false,r1,r2,l1,l2,decide_true,Bool.true_and,Option.bind_some]
      by_cases p:v.2.2.2.1 = []
      ·by_cases q:v.2.2.2.2 = []<;>simp [p,q]
      ·by_cases q:v.2.2.2.2 = []
       ·simp only [p,q,decide_false,decide_true,cond_false,cond_true,Bool.false_or,Bool.true_or,Bool.and_true]
        cases (spl 46 [] v.2.2.2.1).all q41<;>rfl
       ·simp only [p,q,decide_false,decide_true,cond_false,cond_true,Bool.false_or]
        cases (spl 46 [] v.2.2.2.1).all q41<;>rfl
end Go.Proofs.YtapfankgdkdkgaaGreatDoor.AM
namespace Go.Proofs.YtapfankgdkdkgaaGreatDoor.AM
open Go.RowKit
set_option linter.unusedVariables false
set_option linter.unusedSimpArgs false
theorem jfh (n:Nat) (s:List UInt8) (hL:s.length≤1000000) (hn:s.length<n):qyz n s=some (qc3 s):=by
 unfold qyz qc3
 have hg:=jbm 47 s
 obtain ⟨k,hk⟩ : ∃ k:Nat,qdt 47 s+1=(k:Int):=⟨(qdt 47 s+1).toNat,by omega⟩
 rw [qwv n s hL hn]
 simp only [Option.bind_some,q08]
 rw [hk,wrap64 (by omega) (by omega),sub_le (by omega) (Nat.le_refl _)]
 simp only [Option.bind_some,Int.toNat_natCast]
 rw [List.take_of_length_le (by rw [List.length_drop];exact Nat.le_refl _)]
theorem jp8 (s:List UInt8):(qau s).length≤s.length:=by unfold qau;rw [List.length_take];omega
theorem jph (s:List UInt8):(qc3 s).length≤s.length:=by unfold qc3;rw [List.length_drop];omega
theorem j7m {s:List UInt8} (h:q4r s=true):q1m s=s.drop 1:=by
 unfold q4r at h
 simp only [Bool.and_eq_true,decide_eq_true_eq] at h
 unfold q1m;rw [if_pos h.1]
theorem qpg (n:Nat) (s:List UInt8) (hL:s.length≤1000000) (hn:s.length<n):qhi n s=some (qri s):=by
 have hb:=jp8 s
 have hl:=jph s
 have e1:qo5 s=some (qau s):=if_pos hL
 have e2:j1z (qau s)=some (anyS (qau s)):=if_pos (by omega)
 have e3:qvm (qc3 s)=some (numOf (q1m (qc3 s)),jaq (q1m (qc3 s))):=if_pos (by omega)
 have e4:qqu s=some (q4w s):=rfl
 unfold qhi qri okS
 simp only [e1,e2,e3,e4,jfh n s hL hn,qta n (qc3 s) (by omega),Option.bind_some]
 cases q4w s with
 | false=>rfl
 | true=>cases anyS (qau s) with
  | true=>rfl
  | false=>cases ht:q4r (qc3 s) with
   | false=>rfl
   | true =>
    rw [j7m ht]
    cases jaq ((qc3 s).drop 1) with
    | false=>rfl
    | true =>
     by_cases h0:qau s = []
     ·simp [h0]
     ·simp [h0]
theorem jci (s:List UInt8):(qri s).2.2=okS s:=by
 unfold qri
 cases okS s with
 | false=>rfl
 | true=>cases q4r (qc3 s)<;>rfl
theorem qfg (n:Nat) (s:List UInt8) (hL:s.length≤1000000) (hn:s.length<n):qdf n s=some (okS s):=by
 unfold qdf
 rw [qpg n s hL hn,← jci];rfl
def q8l (p:List UInt8) (v:VD):Bool:=okS p&&(q10 v&&(if (qri p).2.1=0 then decide (v.1<2) else decide (v.1=(qri p).2.1)))
theorem jhb (n:Nat) (s:List UInt8) (v:VD) (hL:s.length≤1000000) (hn:s.length<n) (h4:4≤n):qyv n s v=some (q8l s v):=by
 unfold qyv q8l
 rw [qpg n s hL hn]
 simp only [Option.bind_some,jci,q6c n v h4]
 cases okS s with
 | false=>rfl
 | true=>cases q10 v with
  | false=>rfl
  | true =>
   by_cases h:(qri s).2.1=0
   ·simp [h]
   ·simp [h]
end Go.Proofs.YtapfankgdkdkgaaGreatDoor.AM
namespace Go.Proofs.YtapfankgdkdkgaaGreatDoor.AM
open Go.RowKit
set_option linter.unusedVariables false
set_option linter.unusedSimpArgs false
abbrev Rq:=List UInt8×VD
abbrev Sw:=List UInt8×List UInt8
abbrev Sp:=Int×(Int×(Int×(List UInt8×(List UInt8×VD))))
def jo8 (a b:VD):Sp:=(a.1,(a.2.1,(a.2.2.1,(a.2.2.2.1,(a.2.2.2.2,b)))))
def qfz (x:Sp):VD:=(x.1,(x.2.1,(x.2.2.1,(x.2.2.2.1,x.2.2.2.2.1))))
def q4v (x:Sp):VD:=x.2.2.2.2.2
theorem jsx (a b:VD):qfz (jo8 a b)=a:=rfl
theorem jl8 (a b:VD):q4v (jo8 a b)=b:=rfl
theorem jxb (x:Sp):jo8 (qfz x) (q4v x)=x:=rfl
abbrev MD:=List UInt8×(List UInt8×(List Rq×(List Sw×(List Rq×List Sp))))
abbrev Cl:=List UInt8×(List UInt8×VD)
abbrev jx1:=List (Cl×(Int×Int))
abbrev clT:Ty:=.prod .str (.prod .str (.prod (.int .i64) (.prod (.int .i64) (.prod (.int .i64) (.prod .str .str)))))
abbrev qaw:List UInt8:=[109,111,100,117,108,101]
abbrev kGo:List UInt8:=[103,111]
abbrev q8y:List UInt8:=[114,101,113,117,105,114,101]
abbrev qgb:List UInt8:=[101,120,99,108,117,100,101]
abbrev qfn:List UInt8:=[114,101,112,108,97,99,101]
abbrev qvt:List UInt8:=[114,101,116,114,97,99,116]
def qfa (t:List UInt8):Bool:=decide (t = [61,62])||(decide (t = [91])||(decide (t = [44])||(decide (t = [93])||(decide (t = [40])||decide (t = [41])))))
def qts (w:Lx.Wd):List UInt8:=if qfa w.1 then w.1 else [120]
def shp (ws:List Lx.Wd):List UInt8:=Lib.join (ws.map qts) [32]
def unm (ws:List Lx.Wd):List Lx.Wd:=ws.filter fun w=>!qfa w.1
def q1q (v:List UInt8):List (List UInt8) :=
 if v=qaw then [[120]] else if v=kGo then [[120]] else if v=q8y then [[120,32,120]] else if v=qgb then [[120,32,120]] else if v=qfn then [[120,32,61,62,32,120]]
 else if v=qvt then [[120],[91,32,120,32,44,32,120,32,93]] else []
def qcw (v:List UInt8):Bool:=decide (v=q8y)||(decide (v=qgb)||(decide (v=qfn)||decide (v=qvt)))
def qhx (s:List UInt8):Bool:=s.all q26&&(decide (1≤s.length)&&(decide (s.length≤9)&&(decide (s = [48]) || !decide (s.head? = some 48))))
def qdu (x:List UInt8):Bool:=qhx (q38 46 x)&&qhx (qdv 46 x)
def j6f (p v:List UInt8):Int⊕Rq:=if okS p=false then .inl 6 else if (q0v v).2=false then .inl 7 else if q8l p (q0v v).1=false then .inl 8 else .inr (p,(q0v v).1)
structure MS where
 mo:List UInt8
 go:List UInt8
 bk:List UInt8
 sd:jx1
 rq:List Rq
 sw:List Sw
 ex:List Rq
 rt:List Sp
def ms0:MS:=⟨[],[],[],[],[],[],[],[]⟩
def MS.md (σ:MS):MD:=(σ.mo,(σ.go,(σ.rq,(σ.sw,(σ.ex,σ.rt)))))
def q1c (σ:MS) (c:Cl) (st:Int) (w:Lx.Wd):Int⊕MS:=if (q0c clT c σ.sd).isSome then .inl 11 else .inr { σ with sd:=q3v clT c (st+w.2,st+w.2+(w.1.length:Nat)) σ.sd }
def qtr (σ:MS) (st:Int) (v:List UInt8) (ws:List Lx.Wd):Int⊕MS :=
 match ws with
 | []=>.inl 10
 | w::ws' =>
  if v=qaw then (if okS w.1=false then .inl 6 else q1c { σ with mo:=w.1 } (qaw,([],v0)) st w)
  else if v=kGo then (if qdu w.1=false then .inl 7 else q1c { σ with go:=w.1 } (kGo,([],v0)) st w)
  else if v=q8y then (match j6f w.1 ((ws'.headD ([],0)).1) with
   | .inl e=>.inl e
   | .inr q=>q1c { σ with rq:=σ.rq ++ [q] } (q8y,(q.1,v0)) st (ws'.headD ([],0)))
  else if v=qgb then (match j6f w.1 ((ws'.headD ([],0)).1) with
   | .inl e=>.inl e
   | .inr q=>q1c { σ with ex:=σ.ex ++ [q] } (qgb,(q.1,q.2)) st (ws'.headD ([],0)))
  else if v=qfn then (if okS w.1=false then .inl 6 else if q4w ((ws'.headD ([],0)).1)=false then .inl 6 else q1c { σ with sw:=σ.sw ++ [(w.1,(ws'.headD ([],0)).1)] } (qfn,(w.1,v0)) st (ws'.headD ([],0)))
  else if (q0v w.1).2=false then .inl 7 else if (q0v ((ws'.getLast?.getD w).1)).2=false then .inl 7
  else if 0<jo7 (q0v w.1).1 (q0v ((ws'.getLast?.getD w).1)).1 then .inl 7 else .inr { σ with rt:=σ.rt ++ [jo8 (q0v w.1).1 (q0v ((ws'.getLast?.getD w).1)).1] }
def q47 (σ:MS) (st:Int) (v:List UInt8) (ws:List Lx.Wd):Int⊕MS:=if shp ws∈q1q v then qtr σ st v (unm ws) else .inl 10
def qav (σ:MS) (st:Int) (ws:List Lx.Wd):Int⊕MS :=
 match ws with
 | []=>.inr σ
 | w::ws' =>
  if σ.bk = [] then (if qcw w.1=true∧shp ws' = [40] then .inr { σ with bk:=w.1 } else q47 σ st w.1 ws')
  else if shp (w::ws') = [41] then .inr { σ with bk:=[] } else q47 σ st σ.bk (w::ws')
def q11 (t:List UInt8):List Lx.Wd:=(Lx.j0e t).1
def q5t:List (List UInt8)→Int→Int→MS→(Int×Int)⊕MS
 | [],_,_,σ=>.inr σ
 | t::ts,i,st,σ=>match qav σ st (q11 t) with
  | .inl e=>.inl (i,e)
  | .inr σ'=>q5t ts (i+1) (st+((t.length:Nat):Int)+1) σ'
def qjp (s:List UInt8):(Int×Int)⊕(MS×Int) :=
 if (Lx.q4z (Lx.q0p s) 0 []).2.2≠0 then .inl ((Lx.q4z (Lx.q0p s) 0 []).2.1,(Lx.q4z (Lx.q0p s) 0 []).2.2)
 else match q5t (Lx.q0p s) 0 0 ms0 with
  | .inl e=>.inl e
  | .inr σ=>if σ.bk ≠ [] then .inl (((Lx.q0p s).length:Nat),10) else if σ.mo = [] then .inl (((Lx.q0p s).length:Nat),5) else .inr (σ,((Lx.q0p s).length:Nat))
abbrev md0:MD:=([],([],([],([],([],[])))))
def q1r (s:List UInt8):MD×(Int×Int):=match qjp s with
 | .inl e=>(md0,e)
 | .inr (σ,n)=>(σ.md,(n,0))
def j1c (s p:List UInt8):Int×(Int×Bool):=match qjp s with
 | .inl _=>(0,(0,false))
 | .inr (σ,_)=>match q0c clT (q8y,(p,v0)) σ.sd with
  | some x=>(x.1,(x.2,true))
  | none=>(0,(0,false))
theorem qqm (a b:Cl):eqT clT a b=true↔a=b:=by
 obtain ⟨a1,a2,a3,a4,a5,a6,a7⟩:=a
 obtain ⟨b1,b2,b3,b4,b5,b6,b7⟩:=b
 show (decide (a1=b1)&&(decide (a2=b2)&&(decide (a3=b3)&&(decide (a4=b4)&&(decide (a5=b5)&&(decide (a6=b6)&&decide (a7=b7)))))))=true↔_
 simp only [Bool.and_eq_true,decide_eq_true_eq,Prod.mk.injEq]
theorem jss {a b:Cl} (h:a≠b):eqT clT a b=false:=by
 cases hb:eqT clT a b with
 | true=>exact absurd ((qqm a b).1 hb) h
 | false=>rfl
theorem qd0 (c c':Cl) (v:Int×Int) : ∀ l:jx1,q0c clT c (q3v clT c' v l)=bif eqT clT c c' then some v else q0c clT c l
 | []=>rfl
 | (k,y)::l=>by
  show q0c clT c (bif eqT clT c' k then (c',v)::l else (k,y)::q3v clT c' v l)=bif eqT clT c c' then some v else (bif eqT clT c k then some y else q0c clT c l)
  cases hk:eqT clT c' k with
  | true =>
   have hk':=(qqm c' k).1 hk
   subst hk'
   show (bif eqT clT c c' then some v else q0c clT c l)=_
   cases eqT clT c c'<;>rfl
  | false =>
   show (bif eqT clT c k then some y else q0c clT c (q3v clT c' v l))=_
   rw [qd0 c c' v l]
   cases hb:eqT clT c k with
   | true =>
    have:=(qqm c k).1 hb
    subst this
    have:eqT clT c c'=false:=by
     refine jss fun h=>?_
     subst h;rw [(qqm c c).2 rfl] at hk;cases hk
    rw [this];rfl
   | false=>rfl
theorem qqo {c c':Cl} (h:c≠c') (v:Int×Int) (l:jx1):q0c clT c (q3v clT c' v l)=q0c clT c l:=by rw [qd0,jss h];rfl
end Go.Proofs.YtapfankgdkdkgaaGreatDoor.AM
namespace Go.Proofs
open Go.RowKit Go.Extern.Stop Go.Stop Go.Extern
set_option linter.unusedVariables false
set_option linter.unusedSimpArgs false
namespace YtapfankgdkdkgaaGreatDoor.AM
abbrev gC:Nat:=9
theorem jox (z:Sem Value) (f:TypeId→Addr→Nat→Nat→Sem Value) (v:Value) :
  ReflectliteValue.method z f #[v]=(do match ← ReflectliteValue.parts v with|none=>z|some (t,a,fl)=>f t a fl (fl % 32)):=rfl
theorem jzt (v x:Value):ReflectliteValue.set #[v,x]=(do
  let (some (dst,a,fl),some (src,b,_)):=(← ReflectliteValue.parts v,← ReflectliteValue.parts x)
   | unsupported (.noEntry "extern/(internal/reflectlite.Value).Set.zeroValue")
  if fl / ReflectliteValue.flagAddr % 2==0 then unsupported (.noEntry "extern/(internal/reflectlite.Value).Set.unaddressable")
  let val ← loadVar src b
  if ← Rtype.directlyAssignable dst src then storeVar dst a val
  else if ← Rtype.implements dst src then
   if (← Rtype.kind src)==20 then
    match val with
    | .nilIface=>unsupported (.noEntry "extern/reflectlite: a nil value of one interface type handed on as a value of another")
    | _=>storeVar dst a val
   else storeVar dst a (.iface src val)
  else panicString ("reflectlite.Set: value of type " ++ (← Rtype.spelt src) ++ " is not assignable to type " ++ (← Rtype.spelt dst))
  pure (.tuple #[])):=rfl
theorem asMK (h:Value) (w:World):(Go.method 406 196 (.agg #[h]) "Kind").run Tryz.prog w = .ok (250,h) w:=by kernel_rfl
theorem asME (h:Value) (w:World):(Go.method 406 196 (.agg #[h]) "Elem").run Tryz.prog w = .ok (263,.agg #[h]) w:=by kernel_rfl
theorem asMI (h:Value) (w:World):(Go.method 406 196 (.agg #[h]) "Implements").run Tryz.prog w = .ok (264,.agg #[h]) w:=by kernel_rfl
theorem asMA (h:Value) (w:World):(Go.method 406 196 (.agg #[h]) "AssignableTo").run Tryz.prog w = .ok (261,.agg #[h]) w:=by kernel_rfl
theorem jwb (t:Addr) (w:World):(ReflectliteValue.unpack (.iface 136 (.pointer (some t)))).run Tryz.prog w
  = .ok (.agg #[.pointer (some ⟨gC,136,none⟩),.pointer (some ⟨w.heap.size,0,none⟩),.int .u64 150]) (w.alloc (.cells #[.pointer (some t)] 136)):=by kernel_rfl
theorem jw1 (a:Addr) (w:World):(ReflectliteValue.methodAny (ReflectliteValue.valueError "reflectlite.Value.Type" 0) (fun t _ _ _=>ReflectliteType.toType t) #[.agg #[.pointer (some ⟨gC,136,none⟩),.pointer (some a),.int .u64 150]]).run Tryz.prog w
  = .ok (.iface 196 (.agg #[.pointer (some ⟨gC,136,none⟩)])) w:=by kernel_rfl
theorem jwj (w:World):((ReflectliteType.abiMethod fun t=>(fun a:Nat=>Value.int IntKind.u8 (a:Int)) <$> Rtype.kind t) #[.pointer (some ⟨gC,136,none⟩)]).run Tryz.prog w = .ok (.int .u8 22) w:=by kernel_rfl
theorem jzd (w:World):((ReflectliteType.abiMethod fun t=>(fun a:Nat=>Value.int IntKind.u8 (a:Int)) <$> Rtype.kind t) #[.pointer (some ⟨gC,126,none⟩)]).run Tryz.prog w = .ok (.int .u8 25) w:=by kernel_rfl
theorem jir (a:Addr) (w:World):(ReflectliteValue.parts (.agg #[.pointer (some ⟨gC,136,none⟩),.pointer (some a),.int .u64 150])).run Tryz.prog w = .ok (some (136,a,150)) w:=by kernel_rfl
theorem jm8:Tryz.prog.underlying 136=some (.pointer 126):=by kernel_rfl
theorem jui (a p:Addr) (W:World) (ha:W.cell? a=some (.pointer (some p))) :
  (ReflectliteValue.method (ReflectliteValue.valueError "reflectlite.Value.IsNil" 0) ReflectliteValue.isNil #[.agg #[.pointer (some ⟨gC,136,none⟩),.pointer (some a),.int .u64 150]]).run Tryz.prog W = .ok (.bool false) W:=by
 rw [jox]
 simp only [Sem.run_bind,jir,Result.andThen]
 simp [ReflectliteValue.isNil,loadVar,isAgg,underlying,jm8,ha,Result.andThen]
theorem jum (w:World):(ReflectliteType.method ReflectliteType.elem #[.agg #[.pointer (some ⟨gC,136,none⟩)]]).run Tryz.prog w = .ok (.iface 196 (.agg #[.pointer (some ⟨gC,126,none⟩)])) w:=by kernel_rfl
theorem jzw (w:World):(ReflectliteType.relation "Implements" ReflectliteType.implements_ #[.agg #[.pointer (some ⟨gC,126,none⟩)],.iface 196 (.agg #[.pointer (some ⟨gC,82,none⟩)])]).run Tryz.prog w = .ok (.bool true) w:=by kernel_rfl
theorem jy0 (v:Value) (w:World):(ReflectliteType.typeOf #[.iface 126 v]).run Tryz.prog w = .ok (.iface 196 (.agg #[.pointer (some ⟨gC,126,none⟩)])) w:=by kernel_rfl
theorem jyo (w:World):(ReflectliteType.relation "AssignableTo" ReflectliteType.assignableTo #[.agg #[.pointer (some ⟨gC,126,none⟩)],.iface 196 (.agg #[.pointer (some ⟨gC,126,none⟩)])]).run Tryz.prog w = .ok (.bool true) w:=by kernel_rfl
theorem ju3 (w:World):(Rtype.elem? 136).run Tryz.prog w = .ok (some 126) w:=by kernel_rfl
theorem asMkT (p:Addr) (w:World):(ReflectliteValue.mk 126 p ReflectliteValue.flagAddr).run Tryz.prog w = .ok (.agg #[.pointer (some ⟨gC,126,none⟩),.pointer (some p),.int .u64 409]) w:=by kernel_rfl
theorem jp9 (a p:Addr) (W:World) (ha:W.cell? a=some (.pointer (some p))) :
  (ReflectliteValue.method (ReflectliteValue.valueError "reflectlite.Value.Elem" 0) ReflectliteValue.elem #[.agg #[.pointer (some ⟨gC,136,none⟩),.pointer (some a),.int .u64 150]]).run Tryz.prog W
   = .ok (.agg #[.pointer (some ⟨gC,126,none⟩),.pointer (some p),.int .u64 409]) W:=by
 rw [jox]
 simp only [Sem.run_bind,jir,Result.andThen]
 simp [ReflectliteValue.elem,loadVar,isAgg,underlying,jm8,ha,Result.andThen,ju3,asMkT]
theorem jxw (n:Int) (w:World):(ReflectliteValue.unpack (.iface 126 (.agg #[.int .i64 n]))).run Tryz.prog w
  = .ok (.agg #[.pointer (some ⟨gC,126,none⟩),.pointer (some ⟨w.heap.size,0,none⟩),.int .u64 153]) (w.alloc (.cells #[.int .i64 n] 126)):=by kernel_rfl
theorem jvk (a:Addr) (w:World):(ReflectliteValue.parts (.agg #[.pointer (some ⟨gC,126,none⟩),.pointer (some a),.int .u64 409])).run Tryz.prog w = .ok (some (126,a,409)) w:=by kernel_rfl
theorem jzs (a:Addr) (w:World):(ReflectliteValue.parts (.agg #[.pointer (some ⟨gC,126,none⟩),.pointer (some a),.int .u64 153])).run Tryz.prog w = .ok (some (126,a,153)) w:=by kernel_rfl
theorem jzl (w:World):(Rtype.directlyAssignable 126 126).run Tryz.prog w = .ok true w:=by kernel_rfl
theorem jzf (w:World):(sizeOf 126).run Tryz.prog w = .ok 1 w:=by kernel_rfl
theorem jtn (t:Addr) (w:World):(ReflectliteValue.unpack (.iface 135 (.pointer (some t)))).run Tryz.prog w
  = .ok (.agg #[.pointer (some ⟨gC,135,none⟩),.pointer (some ⟨w.heap.size,0,none⟩),.int .u64 150]) (w.alloc (.cells #[.pointer (some t)] 135)):=by kernel_rfl
theorem ju0 (a:Addr) (w:World):(ReflectliteValue.methodAny (ReflectliteValue.valueError "reflectlite.Value.Type" 0) (fun t _ _ _=>ReflectliteType.toType t) #[.agg #[.pointer (some ⟨gC,135,none⟩),.pointer (some a),.int .u64 150]]).run Tryz.prog w
  = .ok (.iface 196 (.agg #[.pointer (some ⟨gC,135,none⟩)])) w:=by kernel_rfl
theorem juf (w:World):((ReflectliteType.abiMethod fun t=>(fun a:Nat=>Value.int IntKind.u8 (a:Int)) <$> Rtype.kind t) #[.pointer (some ⟨gC,135,none⟩)]).run Tryz.prog w = .ok (.int .u8 22) w:=by kernel_rfl
theorem jyf (w:World):((ReflectliteType.abiMethod fun t=>(fun a:Nat=>Value.int IntKind.u8 (a:Int)) <$> Rtype.kind t) #[.pointer (some ⟨gC,128,none⟩)]).run Tryz.prog w = .ok (.int .u8 25) w:=by kernel_rfl
theorem jhp (a:Addr) (w:World):(ReflectliteValue.parts (.agg #[.pointer (some ⟨gC,135,none⟩),.pointer (some a),.int .u64 150])).run Tryz.prog w = .ok (some (135,a,150)) w:=by kernel_rfl
theorem jjb:Tryz.prog.underlying 135=some (.pointer 128):=by kernel_rfl
theorem jwi (a p:Addr) (W:World) (ha:W.cell? a=some (.pointer (some p))) :
  (ReflectliteValue.method (ReflectliteValue.valueError "reflectlite.Value.IsNil" 0) ReflectliteValue.isNil #[.agg #[.pointer (some ⟨gC,135,none⟩),.pointer (some a),.int .u64 150]]).run Tryz.prog W = .ok (.bool false) W:=by
 rw [jox]
 simp only [Sem.run_bind,jhp,Result.andThen]
 simp [ReflectliteValue.isNil,loadVar,isAgg,underlying,jjb,ha,Result.andThen]
theorem juy (w:World):(ReflectliteType.method ReflectliteType.elem #[.agg #[.pointer (some ⟨gC,135,none⟩)]]).run Tryz.prog w = .ok (.iface 196 (.agg #[.pointer (some ⟨gC,128,none⟩)])) w:=by kernel_rfl
theorem jy8 (w:World):(ReflectliteType.relation "Implements" ReflectliteType.implements_ #[.agg #[.pointer (some ⟨gC,128,none⟩)],.iface 196 (.agg #[.pointer (some ⟨gC,82,none⟩)])]).run Tryz.prog w = .ok (.bool true) w:=by kernel_rfl
theorem jt3 (v:Value) (w:World):(ReflectliteType.typeOf #[.iface 128 v]).run Tryz.prog w = .ok (.iface 196 (.agg #[.pointer (some ⟨gC,128,none⟩)])) w:=by kernel_rfl
theorem jxf (w:World):(ReflectliteType.relation "AssignableTo" ReflectliteType.assignableTo #[.agg #[.pointer (some ⟨gC,128,none⟩)],.iface 196 (.agg #[.pointer (some ⟨gC,128,none⟩)])]).run Tryz.prog w = .ok (.bool true) w:=by kernel_rfl
theorem jvb (w:World):(Rtype.elem? 135).run Tryz.prog w = .ok (some 128) w:=by kernel_rfl
theorem asMkB (p:Addr) (w:World):(ReflectliteValue.mk 128 p ReflectliteValue.flagAddr).run Tryz.prog w = .ok (.agg #[.pointer (some ⟨gC,128,none⟩),.pointer (some p),.int .u64 409]) w:=by kernel_rfl
theorem jrl (a p:Addr) (W:World) (ha:W.cell? a=some (.pointer (some p))) :
  (ReflectliteValue.method (ReflectliteValue.valueError "reflectlite.Value.Elem" 0) ReflectliteValue.elem #[.agg #[.pointer (some ⟨gC,135,none⟩),.pointer (some a),.int .u64 150]]).run Tryz.prog W
   = .ok (.agg #[.pointer (some ⟨gC,128,none⟩),.pointer (some p),.int .u64 409]) W:=by
 rw [jox]
 simp only [Sem.run_bind,jhp,Result.andThen]
 simp [ReflectliteValue.elem,loadVar,isAgg,underlying,jjb,ha,Result.andThen,jvb,asMkB]
theorem jz0 (n:Int) (c:Value) (w:World):(ReflectliteValue.unpack (.iface 128 (.agg #[.int .i64 n,c]))).run Tryz.prog w
  = .ok (.agg #[.pointer (some ⟨gC,128,none⟩),.pointer (some ⟨w.heap.size,0,none⟩),.int .u64 153]) (w.alloc (.cells #[.int .i64 n,c] 128)):=by kernel_rfl
theorem jwo (a:Addr) (w:World):(ReflectliteValue.parts (.agg #[.pointer (some ⟨gC,128,none⟩),.pointer (some a),.int .u64 409])).run Tryz.prog w = .ok (some (128,a,409)) w:=by kernel_rfl
theorem jxm (a:Addr) (w:World):(ReflectliteValue.parts (.agg #[.pointer (some ⟨gC,128,none⟩),.pointer (some a),.int .u64 153])).run Tryz.prog w = .ok (some (128,a,153)) w:=by kernel_rfl
theorem jxe (w:World):(Rtype.directlyAssignable 128 128).run Tryz.prog w = .ok true w:=by kernel_rfl
theorem jxk (w:World):(sizeOf 128).run Tryz.prog w = .ok 2 w:=by kernel_rfl
theorem jup (w:World):(ReflectliteType.relation "AssignableTo" ReflectliteType.assignableTo #[.agg #[.pointer (some ⟨gC,128,none⟩)],.iface 196 (.agg #[.pointer (some ⟨gC,126,none⟩)])]).run Tryz.prog w = .ok (.bool false) w:=by kernel_rfl
theorem asMU (v:Value) (w:World):(Go.method 406 128 v "Unwrap").run Tryz.prog w = .ok (255,v) w:=by kernel_rfl
end YtapfankgdkdkgaaGreatDoor.AM
end Go.Proofs
