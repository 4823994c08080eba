
import Derived.Test.YthpgnliicpejoaaGreatDoorVt23
import Derived.Shelf.Small.Strs
import Derived.Shelf.Lay
import Derived.Test.YthpgnliicpejoaaGreatDoorVt26
namespace Go.Proofs
open Go.RowKit Go.Shelf Go.Lib
shelf_lay Lays.n106 Nm 106 at Tryz as Tryz.laysCompare
set_option linter.unusedVariables false
set_option linter.unusedSimpArgs false
namespace YthpgnliicpejoaaGreatDoor.AM
variable {P:Program}
def qpd:FC:={ f:=105,args:=[strA,strA],res:=intA,F:=fun p=>some (Lib.compareBytes p.1 p.2) }
def jf8 (a b:List UInt8):Option Int:=some (Lib.compareBytes a b)
theorem j94:q0v Inv Tryz.prog qpd:=fun G hG=>⟨⟨by kernel_rfl,fun a r h=>by
 obtain ⟨s,t⟩:=a
 have hr:Lib.compareBytes s t=r:=Option.some.inj h
 intro Pc w vs hg hlt hv
 obtain ⟨l⟩:=vs
 match l,hv with
 | [x,y],⟨h1,h2,_⟩ =>
  obtain rfl:x = .string (ba s):=q0r h1
  obtain rfl:y = .string (ba t):=q0r h2
  have e1:(ba s).data.toList=s:=by simp [ba]
  have e2:(ba t).data.toList=t:=by simp [ba]
  have hh:=Any.strings_Compare Tryz.laysCompare (ba s) (ba t) w
  rw [e1,e2,hr] at hh
  refine hh.mono ?_
  rintro e w' ⟨rfl,rfl⟩
  exact qa3 rfl (Below.refl _ _) (q0o _)⟩,rfl⟩
end YthpgnliicpejoaaGreatDoor.AM
end Go.Proofs
namespace Go.Proofs.YthpgnliicpejoaaGreatDoor.AM
open Go.RowKit
set_option linter.unusedVariables false
set_option maxRecDepth 20000
def j5d (n:Nat):List LC:=[]
def j62 (n:Nat) (a1:(List UInt8)×List UInt8) (a2:List UInt8):Option (Int) :=
 (jf8 a1.1 a2).bind fun (r1:Int)=>some r1
def qm8 (n:Nat):FC:={ f:=104,args:=[.one (.agg [.d .str,.d .str]),.one (.c (.d .str))],res:=.one (.c (.d (.int .i64))),F:=fun p=>j62 n p.1 p.2 }
def jas (n:Nat):List FC:=[qpd]
theorem je5 (n:Nat) {G:World->Prop} (hG:Know Inv G) : ∀c∈jas n,q27 Tryz.prog G c/\q0z c.args=true:=List.forall_mem_cons.2 ⟨j94 G hG,(fun _ h=>by cases h)⟩
def jav:q0y:=[]
theorem jqx:drB jav (q05 Tryz.f104)=true:=by kernel_rfl
theorem jr2 (n:Nat) : ∀a,(qm8 n).F a=main Tryz.prog 9 (jas n) (j5d n) jav (q05 Tryz.f104) [.tmp 4] (qm8 n).args (qm8 n).res a:=by intro a;kernel_rfl
theorem jnl (n:Nat):q0v Inv Tryz.prog (qm8 n):=fun G hG=>⟨⟨by kernel_rfl,fun a r h=>q0p (c:=q05 Tryz.f104) Tryz.func104 (by kernel_rfl) (by kernel_rfl) (Nat.le_of_ble_eq_true (by kernel_rfl)) hG.st (by kernel_rfl) (rs:=[.tmp 4]) (by kernel_rfl) (je5 n hG) (lts:=j5d n) (fun F hF hFG=>have hK:Know Inv F.G:=hFG ▸ hG;(q0k fun j L h1 h2 h3=>absurd h2 (Nat.not_lt.2 (Nat.le_trans (by decide +kernel) h1)))) jqx ((jr2 n a).symm.trans h)⟩,rfl⟩
@[reducible] def qu2:SSt:=⟨[(0,.one (.c (.d (.lst (.prod .str .str))))),(1,.one (.c (.d .str))),(2,.one (.c (.fn 104 []))),(8,.one (.c (.d (.int .i64)))),(9,.one (.c (.d (.int .i64)))),(10,.one (.c (.d (.int .i64))))],[],[]⟩
@[reducible] def qev:List (Exit×SSt):=[(.exit 0,⟨[(0,.one (.c (.d (.lst (.prod .str .str))))),(1,.one (.c (.d .str))),(2,.one (.c (.fn 104 []))),(8,.one (.c (.d (.int .i64)))),(9,.one (.c (.d (.int .i64))))],[],[]⟩)]
def jgo (n:Nat) (rec:(List (List UInt8×List UInt8))->(List UInt8)->Int->Int->Int->Option (((List (List UInt8×List UInt8))×((List UInt8)×(Unit×(Int×(Int×Unit)))))×Unit×Unit)) (a1:List (List UInt8×List UInt8)) (a2:List UInt8) (a3:Int) (a4:Int) (a5:Int):Option (((List (List UInt8×List UInt8))×((List UInt8)×(Unit×(Int×(Int×Unit)))))×Unit×Unit) :=
 (bif decide (a4<a5) then q0n (IntKind.wrap .i64 (a4+a5)) fun n1=>q0n (IntKind.wrap .u64 n1) fun n2=>(jmf .u64 n2 (1:Int)).bind fun (n3:Int)=>q0n (IntKind.wrap .i64 n3) fun n4=>(q1f a1 n4).bind fun x5=>(j62 n x5 a2).bind fun r6=>(bif decide (r6<0) then q0n (IntKind.wrap .i64 (n4+1)) fun n7=>rec a1 a2 a3 n7 a5 else rec a1 a2 a3 a4 n4) else some (((a1,(a2,((),(a3,(a4,()))))),((),()))))
def jh5 (n:Nat) (rec:pSt qu2->Option (q17 qev)) (p:pSt qu2):Option (q17 qev):=jgo n (fun a1 a2 a3 a4 a5=>rec ((a1,(a2,((),(a3,(a4,(a5,())))))),((),()))) p.1.1 p.1.2.1 p.1.2.2.2.1 p.1.2.2.2.2.1 p.1.2.2.2.2.2.1
def qdf (n m:Nat) (a1:List (List UInt8×List UInt8)) (a2:List UInt8) (a3:Int) (a4:Int) (a5:Int):Option (((List (List UInt8×List UInt8))×((List UInt8)×(Unit×(Int×(Int×Unit)))))×Unit×Unit):=q1b (jh5 n) m ((a1,(a2,((),(a3,(a4,(a5,())))))),((),()))
theorem qoj (n m:Nat) (a1 a2 a3 a4 a5):qdf n (m+1) a1 a2 a3 a4 a5=jgo n (fun a1 a2 a3 a4 a5=>qdf n m a1 a2 a3 a4 a5) a1 a2 a3 a4 a5:=rfl
def jmk (n:Nat):LC:={ sh:=qu2,outs:=qev,F:=q1b (jh5 n) n }
def j14 (n:Nat):List LC:=[jmk n]
def jpz (n:Nat) (a1:List (List UInt8×List UInt8)) (a2:List UInt8) (a3:Unit):Option (Int×(Bool)) :=
 (qdf n n a1 a2 (a1.length:Int) (0:Int) (a1.length:Int)).bind fun o8=>(bif decide (o8.1.2.2.2.2.1<o8.1.2.2.2.1) then (q1f o8.1.1 o8.1.2.2.2.2.1).bind fun x9=>(j62 n x9 o8.1.2.1).bind fun r10=>some (o8.1.2.2.2.2.1,decide (r10=0)) else some (o8.1.2.2.2.2.1,false))
def j4n (n:Nat):FC:={ f:=103,args:=[.one (.c (.d (.lst (.prod .str .str)))),.one (.c (.d .str)),.one (.c (.fn 104 []))],res:=.tup [.c (.d (.int .i64)),.c (.d .bool)],F:=fun p=>jpz n p.1 p.2.1 p.2.2 }
def jeu (n:Nat):List FC:=[qm8 n]
theorem j47 (n:Nat) {G:World->Prop} (hG:Know Inv G) : ∀c∈jeu n,q27 Tryz.prog G c/\q0z c.args=true:=List.forall_mem_cons.2 ⟨jnl n G hG,(fun _ h=>by cases h)⟩
def je6:q0y:=[]
theorem jmj:drB je6 (q05 Tryz.f103)=true:=by kernel_rfl
theorem jop (n:Nat) : ∀rec p,jh5 n rec p=round Tryz.prog 49 (jeu n) (j14 n) je6 1 qu2 qev (q0h 0 0 (q05 Tryz.f103)) rec p:=by intro rec p;kernel_rfl
theorem jli (n:Nat) {F:Fr} (hF:F.n=49) (hK:Know Inv F.G):qae Tryz.prog F (jmk n) (q0h 0 0 (q05 Tryz.f103)) :=
 q1h hF (by kernel_rfl) (j47 n hK) (jop n) (fuel:=n) (fun _=>rfl) (q0k fun j L h1 h2 h3=>absurd h2 (Nat.not_lt.2 (Nat.le_trans (by decide +kernel) h1))) (q20 jmj)
theorem jte (n:Nat) : ∀a,(j4n n).F a=main Tryz.prog 49 (jeu n) (j14 n) je6 (q05 Tryz.f103) [.tmp 6,.tmp 7] (j4n n).args (j4n n).res a:=by intro a;kernel_rfl
theorem jsp (n:Nat):q0v Inv Tryz.prog (j4n n):=fun G hG=>⟨⟨by kernel_rfl,fun a r h=>q0p (c:=q05 Tryz.f103) Tryz.func103 (by kernel_rfl) (by kernel_rfl) (Nat.le_of_ble_eq_true (by kernel_rfl)) hG.st (by kernel_rfl) (rs:=[.tmp 6,.tmp 7]) (by kernel_rfl) (j47 n hG) (lts:=j14 n) (fun F hF hFG=>have hK:Know Inv F.G:=hFG ▸ hG;(q0k (c:=(q05 Tryz.f103)) (fun j L h1 h2 h3=>by
  have h2':j<1:=Nat.lt_of_lt_of_le h2 (by decide +kernel)
  match j,h1,h2',h3 with
  | 0,_,_,h3=>obtain rfl:=Option.some.inj h3;exact (show q0h 0 0 (q05 Tryz.f103)=q0h 0 0 (q05 Tryz.f103) by kernel_rfl) ▸ jli n hF hK
  | j+1,_,h2',_=>exact absurd h2' (by omega)))) jmj ((jte n a).symm.trans h)⟩,rfl⟩
end Go.Proofs.YthpgnliicpejoaaGreatDoor.AM
namespace Go.Proofs.YthpgnliicpejoaaGreatDoor.AM
open Go.RowKit
set_option linter.unusedVariables false
set_option linter.unusedSimpArgs false
theorem jpn (a b:List UInt8):decide (Lib.compareBytes a b<0)=ltS a b:=by
 rw [q5u];unfold ltS;rw [q3p]
theorem jjk (a b:List UInt8):decide (Lib.compareBytes a b=0)=decide (a=b):=by
 rw [q5u,Bool.eq_iff_iff,decide_eq_true_iff,decide_eq_true_iff,(q3v q3o).zero]
theorem qxu (n:Nat) (f:FD) (p:List UInt8):j62 n f p=some (Lib.compareBytes f.1 p):=rfl
structure Spl (l L R:List FD) (p:List UInt8):Prop where
 eq:l=L++R
 lo : ∀x∈L,ltS x.1 p=true
 hi : ∀x∈R,ltS x.1 p=false
theorem joe {l L R:List FD} {p:List UInt8} (h:Spl l L R p) {k:Nat} (hk:k<l.length):ltS (l[k]).1 p=decide (k<L.length):=by
 obtain ⟨rfl,h1,h2⟩:=h
 by_cases hkl:k<L.length
 ·rw [List.getElem_append_left hkl,h1 _ (List.getElem_mem hkl),decide_eq_true hkl]
 ·rw [List.getElem_append_right (by omega),h2 _ (List.getElem_mem _),decide_eq_false hkl]
theorem qtw (n:Nat) {l L R:List FD} {p:List UInt8} (h:Spl l L R p) (hl:l.length<=1000000) : ∀(m i j:Nat),i<=L.length->L.length<=j->j<=l.length->j - i<m ->
  qdf n m l p (l.length:Int) (i:Int) (j:Int)=some ((l,(p,((),(((l.length:Nat):Int),(((L.length:Nat):Int),()))))),((),()))
 | 0,i,j,_,_,_,hm=>absurd hm (Nat.not_lt_zero _)
 | m+1,i,j,hi,hj,hjl,hm=>by
  rw [qoj]
  unfold jgo
  by_cases c:i<j
  ·have c':((i:Nat):Int)<((j:Nat):Int):=by omega
   have e1:IntKind.wrap .u64 ((i+j:Nat):Int)=((i+j:Nat):Int):=by rw [IntKind.wrap_u64];omega
   have e2:jmf .u64 ((i+j:Nat):Int) (1:Int)=some (((i+j) / 2:Nat):Int):=by
    unfold jmf
    rw [if_pos (by omega)]
    congr 1
    show ((i+j:Nat):Int).fdiv (2 ^ (min 1 64))=_
    rw [Int.fdiv_eq_ediv_of_nonneg _ (by decide)]
    rfl
   have hk:(i+j) / 2<l.length:=by omega
   have hg:=joe h hk
   have i1:=qtw n h hl m ((i+j) / 2+1) j
   have i2:=qtw n h hl m i ((i+j) / 2)
   simp only [c',decide_true,cond_true,q0n,wrap_add (show i<1000000000000 by omega) (show j<1000000000000 by omega),e1,e2,Option.bind_some,jlg (show (i+j) / 2<4611686018427387904 by omega),q26 hk,qxu,jpn,hg,q0w (show (i+j) / 2<4611686018427387904 by omega)]
   by_cases d:(i+j) / 2<L.length
   ·rw [decide_eq_true d]
    exact i1 (by omega) hj hjl (by omega)
   ·rw [decide_eq_false d]
    exact i2 hi (by omega) (by omega) (by omega)
  ·have c' : ¬ ((i:Nat):Int)<((j:Nat):Int):=by omega
   have:i=L.length:=by omega
   subst this
   simp [c']
def jp2:List FD->List UInt8->Bool
 | [],_=>false
 | x::_,p=>decide (x.1=p)
theorem jie (n:Nat) {l L R:List FD} {p:List UInt8} (h:Spl l L R p) (hl:l.length<=1000000) (hn:l.length<n) (u:Unit):jpz n l p u=some (((L.length:Nat):Int),jp2 R p):=by
 have hLl:L.length<=l.length:=by rw [h.eq];simp
 unfold jpz
 have:=qtw n h hl n 0 l.length (Nat.zero_le _) hLl (Nat.le_refl _) (by omega)
 rw [show ((0:Nat):Int)=(0:Int) from rfl] at this
 rw [this]
 simp only [Option.bind_some]
 cases R with
 | nil =>
  have:L.length=l.length:=by rw [h.eq];simp
  simp [this,jp2]
 | cons x R =>
  have hlt:L.length<l.length:=by rw [h.eq];simp
  have e:l[L.length]=x:=by simp [h.eq]
  have c:((L.length:Nat):Int)<((l.length:Nat):Int):=by omega
  simp only [c,decide_true,cond_true,q26 hlt,Option.bind_some,qxu,jjk,e,jp2]
theorem jt4 {l:List FD} (p:List UInt8) (h:qwr l) : ∃ L R,Spl l L R p:=by
 induction l with
 | nil=>exact ⟨[],[],rfl,(fun x hx=>by cases hx),(fun x hx=>by cases hx)⟩
 | cons x t ih =>
  obtain ⟨h1,h2⟩:=List.pairwise_cons.1 h
  cases hx:ltS x.1 p with
  | true =>
   obtain ⟨L,R,e,a,b⟩:=ih h2
   exact ⟨x::L,R,by rw [e];rfl,(fun y hy=>by rcases List.mem_cons.1 hy with rfl|hy;exact hx;exact a y hy),b⟩
  | false =>
   refine ⟨[],x::t,rfl,(fun y hy=>by cases hy),fun y hy=>?_⟩
   rcases List.mem_cons.1 hy with rfl|hy
   ·exact hx
   ·cases hy':ltS y.1 p with
    | false=>rfl
    | true=>rw [q9w (h1 y hy) hy'] at hx;cases hx
theorem jjf {l L R:List FD} {x:FD} {o:OD} (h:Spl l L (x::R) o.2.1) (hr:qwr l) (hx:x.1=o.2.1):(qa4 l o.2.1).2=true/\q14 l o.2.1=L++R/\qy6 o.2 (L++R)=L++o.2::R:=by
 obtain ⟨rfl,h1,h2⟩:=h
 have ha:=(j5w.1 hr).2
 have hR : ∀y∈R,ltS x.1 y.1=true:=(List.pairwise_cons.1 ha.1).1
 refine ⟨by rw [<-hx];exact jbp x L R,j3g hx (fun y hy=>jlt (h1 y hy)) (fun y hy e=>jlt (hR y hy) (by rw [hx];exact e.symm)),j30 o.2 L R (fun y hy=>jgf (h1 y hy)) (fun y hy=>by have:=hR y hy;rwa [hx] at this)⟩
theorem jin {l L R:List FD} {o:OD} (h:Spl l L R o.2.1) (hr:qwr l) (hx:jp2 R o.2.1=false):(qa4 l o.2.1).2=false/\q14 l o.2.1=l/\qy6 o.2 l=L++o.2::R:=by
 obtain ⟨rfl,h1,h2⟩:=h
 have hR : ∀y∈R,ltS o.2.1 y.1=true:=by
  cases R with
  | nil=>intro y hy;cases hy
  | cons x R =>
   have hx':x.1≠o.2.1:=of_decide_eq_false hx
   have hlt:ltS o.2.1 x.1=true:=jn1 (h2 x (List.mem_cons_self ..)) hx'
   have ha:=(List.pairwise_cons.1 (j5w.1 hr).2.1).1
   intro y hy
   rcases List.mem_cons.1 hy with rfl|hy
   ·exact hlt
   ·exact q9w hlt (ha y hy)
 have hno:NoP o.2.1 (L++R):=fun y hy=>by
  rcases List.mem_append.1 hy with hy|hy
  ·exact jlt (h1 y hy)
  ·exact fun e=>jlt (hR y hy) e.symm
 exact ⟨by rw [jfu hno],qbw hno,j30 o.2 L R (fun y hy=>jgf (h1 y hy)) hR⟩
def q18 (l:List FD):List Value:=l.flatMap fun f=>[.string (ba f.1),.string (ba f.2)]
theorem q2k : ∀l:List FD,(q18 l).length=l.length*2
 | []=>rfl
 | f::l=>by
  have:=q2k l
  unfold q18 at this ⊢
  rw [List.flatMap_cons,List.length_append,this]
  simp;omega
theorem q58 (a b:List FD):q18 (a++b)=q18 a++q18 b:=List.flatMap_append
theorem q7d : ∀(l:List FD),∀u∈q18 l,u.oneCell'=true:=fun l u hu=>by
 obtain ⟨f,_,hu⟩:=List.mem_flatMap.1 hu
 simp at hu
 rcases hu with rfl|rfl<;>rfl
theorem qnw (L R:List FD):(q18 (L++R)).take (L.length*2)=q18 L:=by rw [q58,<-q2k,List.take_left]
theorem qnn (L R:List FD):(q18 (L++R)).drop (L.length*2)=q18 R:=by rw [q58,<-q2k,List.drop_left]
theorem qai : ∀(l:List FD) (k:Nat) (hk:k<l.length),(q18 l)[k*2]? = some (.string (ba l[k].1))/\(q18 l)[k*2+1]? = some (.string (ba l[k].2))
 | f::l,0,_=>⟨rfl,rfl⟩
 | f::l,k+1,hk=>by
  have:=qai l k (by simpa using hk)
  have e:q18 (f::l) = [.string (ba f.1),.string (ba f.2)]++q18 l:=rfl
  rw [e]
  rw [List.getElem?_append_right (by simp;omega),List.getElem?_append_right (by simp;omega)]
  simp only [List.length_cons,List.length_nil,List.getElem_cons_succ]
  rw [show (k+1)*2 - (0+1+1)=k*2 from by omega,show (k+1)*2+1 - (0+1+1)=k*2+1 from by omega]
  exact this
theorem jou {w:World} {B:Nat} {v:Value} {l:List FD} (h:w.ownsRow B 71 2 v l.length (q18 l)):DatRep (Old w) w v (.lst 2 (l.map (q0l (.prod .str .str)))):=by
 rcases h.2 with ⟨rfl,h0⟩|⟨g,cap,cur,rfl,hb,hg,hn,hc,hs,ht⟩
 ·have:l = []:=List.eq_nil_of_length_eq_zero h0
  subst this
  exact DatRep.lst none 0 0 2 [] 0 0 (fun _ _=>undef) rfl (Nat.le_refl _) (by unfold maxLen;omega) (fun x hx=>by cases hx) (fun h=>by cases h) (fun k j hk=>by cases hk) (fun k j hk=>by cases hk)
 ·refine DatRep.lst (some ⟨g,0,none⟩) l.length cap 2 _ g 0 (fun k j=>(q18 l)[k*2+j]?.getD undef) (by simp) hn hc (fun x hx=>by obtain ⟨f,_,rfl⟩:=List.mem_map.1 hx;rfl) (fun _=>rfl) (fun k j hk hj=>?_) (fun k j hk hj=>?_)
  ·have hk':k<l.length:=by simpa using hk
   have hlt:k*2+j<(q18 l).length:=by rw [q2k];omega
   refine ⟨(Array.getElem?_eq_some_iff.1 hg).1,?_,?_⟩
   ·rw [cell_of_row w g _ cur _ _ hg,List.getElem?_eq_getElem hlt]
    have:cur.toList[k*2+j]? = some (q18 l)[k*2+j]:=by
     have e:(cur.toList.take (l.length*2))[k*2+j]? = some (q18 l)[k*2+j]:=by rw [ht,List.getElem?_eq_getElem hlt]
     rw [List.getElem?_take] at e
     split at e
     ·exact e
     ·cases e
    rw [Nat.zero_add]
    simpa using this
   ·rw [List.getElem?_eq_getElem hlt];exact q7d l _ (List.getElem_mem hlt)
  ·have hk':k<l.length:=by simpa using hk
   have hg2:=qai l k hk'
   simp only [List.getElem_map] at hj ⊢
   have hj2:j<2:=hj
   match j,hj2 with
   | 0,_=>rw [Nat.add_zero,hg2.1];exact .v _
   | 1,_=>rw [hg2.2];exact .v _
end Go.Proofs.YthpgnliicpejoaaGreatDoor.AM
