
import Derived.Test.YtcdjkibiggjdoaaGreatDoorLp9
import Derived.Test.YtcdjkibiggjdoaaGreatDoorLp11
namespace Go.Proofs.YtcdjkibiggjdoaaGreatDoor.AM
open Go.RowKit
set_option linter.unusedVariables false
set_option maxRecDepth 20000
def j3w (n:Nat):List LC:=[]
def j0i (n:Nat) (a1:Int):Option (Bool) :=
 (bif decide ((97:Int)<=a1) then (bif decide (a1<=(122:Int)) then (bif decide (a1<=(122:Int)) then some true else (bif decide (a1=(45:Int)) then some true else (bif decide (a1=(95:Int)) then some true else some (decide (a1=(46:Int)))))) else (bif decide ((65:Int)<=a1) then (bif decide (a1<=(90:Int)) then (bif decide (a1<=(90:Int)) then some true else (bif decide (a1=(45:Int)) then some true else (bif decide (a1=(95:Int)) then some true else some (decide (a1=(46:Int)))))) else (bif decide ((48:Int)<=a1) then (bif decide (a1<=(57:Int)) then some true else (bif decide (a1=(45:Int)) then some true else (bif decide (a1=(95:Int)) then some true else some (decide (a1=(46:Int)))))) else (bif decide (a1=(45:Int)) then some true else (bif decide (a1=(95:Int)) then some true else some (decide (a1=(46:Int))))))) else (bif decide ((48:Int)<=a1) then (bif decide (a1<=(57:Int)) then some true else (bif decide (a1=(45:Int)) then some true else (bif decide (a1=(95:Int)) then some true else some (decide (a1=(46:Int)))))) else (bif decide (a1=(45:Int)) then some true else (bif decide (a1=(95:Int)) then some true else some (decide (a1=(46:Int)))))))) else (bif decide ((65:Int)<=a1) then (bif decide (a1<=(90:Int)) then (bif decide (a1<=(90:Int)) then some true else (bif decide (a1=(45:Int)) then some true else (bif decide (a1=(95:Int)) then some true else some (decide (a1=(46:Int)))))) else (bif decide ((48:Int)<=a1) then (bif decide (a1<=(57:Int)) then some true else (bif decide (a1=(45:Int)) then some true else (bif decide (a1=(95:Int)) then some true else some (decide (a1=(46:Int)))))) else (bif decide (a1=(45:Int)) then some true else (bif decide (a1=(95:Int)) then some true else some (decide (a1=(46:Int))))))) else (bif decide ((48:Int)<=a1) then (bif decide (a1<=(57:Int)) then some true else (bif decide (a1=(45:Int)) then some true else (bif decide (a1=(95:Int)) then some true else some (decide (a1=(46:Int)))))) else (bif decide (a1=(45:Int)) then some true else (bif decide (a1=(95:Int)) then some true else some (decide (a1=(46:Int))))))))
def qj5 (n:Nat):FC:={ f:=142,args:=[.one (.c (.d (.int .u8)))],res:=.one (.c (.d .bool)),F:=fun p=>j0i n p }
def jd0 (n:Nat):List FC:=[]
theorem jhn (n:Nat) {G:World->Prop} (hG:Know Inv G) : ∀c∈jd0 n,q1b Tryz.prog G c/\q0e c.args=true:=(fun _ h=>by cases h)
def je0:q0c:=[]
theorem jqt:drB je0 (q00 Tryz.f142)=true:=by kernel_rfl
theorem jr6 (n:Nat) : ∀a,(qj5 n).F a=main Tryz.prog 32 (jd0 n) (j3w n) je0 (q00 Tryz.f142) [.tmp 2] (qj5 n).args (qj5 n).res a:=by intro a;kernel_rfl
theorem jqm (n:Nat):q0a Inv Tryz.prog (qj5 n):=fun G hG=>⟨⟨by kernel_rfl,fun a r h=>q03 (c:=q00 Tryz.f142) Tryz.func142 (by kernel_rfl) (by kernel_rfl) (Nat.le_of_ble_eq_true (by kernel_rfl)) hG.st (by kernel_rfl) (rs:=[.tmp 2]) (by kernel_rfl) (jhn n hG) (lts:=j3w n) (fun F hF hFG=>have hK:Know Inv F.G:=hFG ▸ hG;(q02 fun j L h1 h2 h3=>absurd h2 (Nat.not_lt.2 (Nat.le_trans (by decide +kernel) h1)))) jqt ((jr6 n a).symm.trans h)⟩,rfl⟩
@[reducible] def qi3:SSt:=⟨[(0,.one (.c (.d .str))),(15,.one (.c (.d (.int .i64)))),(16,.one (.c (.d (.int .i64))))],[],[]⟩
@[reducible] def qao:List (Exit×SSt):=[(.ret,⟨[(2,.one (.c (.d .bool)))],[],[]⟩),(.exit 0,⟨[],[],[]⟩)]
def j19 (n:Nat) (rec:(List UInt8)->Int->Int->Option (((Bool×(Unit))×(Unit)×(Unit))⊕((Unit)×(Unit)×(Unit)))) (a1:List UInt8) (a2:Int) (a3:Int):Option (((Bool×(Unit))×(Unit)×(Unit))⊕((Unit)×(Unit)×(Unit))) :=
 (bif decide (a3<a2) then (sAt a1 a3).bind fun (c1:Int)=>(j0i n c1).bind fun (r2:Bool)=>(bif !r2 then some (Sum.inl ((false,()),((),()))) else q0b (IntKind.wrap .i64 (a3+(1:Int))) fun (n3:Int)=>rec a1 a2 n3) else some (Sum.inr (((),((),())))))
def j0c (n:Nat) (rec:pSt qi3->Option (q0f qao)) (p:pSt qi3):Option (q0f qao):=j19 n (fun a1 a2 a3=>rec ((a1,(a2,(a3,()))),((),()))) p.1.1 p.1.2.1 p.1.2.2.1
def q9u (n m:Nat) (a1:List UInt8) (a2:Int) (a3:Int):Option (((Bool×(Unit))×(Unit)×(Unit))⊕((Unit)×(Unit)×(Unit))):=q0g (j0c n) m ((a1,(a2,(a3,()))),((),()))
theorem qny (n m:Nat) (a1:List UInt8) (a2:Int) (a3:Int):q9u n (m+1) a1 a2 a3=j19 n (fun a1 a2 a3=>q9u n m a1 a2 a3) a1 a2 a3:=rfl
def jcp (n:Nat):LC:={ sh:=qi3,outs:=qao,F:=q0g (j0c n) n }
def qs7 (n:Nat):List LC:=[jcp n]
def jan (n:Nat) (a1:List UInt8):Option (Bool) :=
 (bif decide (a1=([]:List UInt8)) then some false else (bif decide (a1=([46]:List UInt8)) then some false else (bif decide (a1=([46,46]:List UInt8)) then some false else (q9u n n a1 ((List.length a1:Nat):Int) (0:Int)).bind fun (o4:((Bool×(Unit))×(Unit)×(Unit))⊕((Unit)×(Unit)×(Unit)))=>Sum.elim (fun (q5:(Bool×(Unit))×(Unit)×(Unit))=>some q5.1.1) (fun (q6:(Unit)×(Unit)×(Unit))=>some true) o4)))
def qou (n:Nat):FC:={ f:=121,args:=[.one (.c (.d .str))],res:=.one (.c (.d .bool)),F:=fun p=>jan n p }
def qzl (n:Nat):List FC:=[qj5 n]
theorem qxf (n:Nat) {G:World->Prop} (hG:Know Inv G) : ∀c∈qzl n,q1b Tryz.prog G c/\q0e c.args=true:=List.forall_mem_cons.2 ⟨jqm n G hG,(fun _ h=>by cases h)⟩
def j0x:q0c:=[]
theorem jcy:drB j0x (q00 Tryz.f121)=true:=by kernel_rfl
theorem jnu (n:Nat) : ∀rec p,j0c n rec p=round Tryz.prog 25 (qzl n) (qs7 n) j0x 1 qi3 qao (q01 0 0 (q00 Tryz.f121)) rec p:=by intro rec p;kernel_rfl
theorem jfw (n:Nat) {F:Fr} (hF:F.n=25) (hK:Know Inv F.G):q71 Tryz.prog F (jcp n) (q01 0 0 (q00 Tryz.f121)) :=
 q0h hF (by kernel_rfl) (qxf n hK) (jnu n) (fuel:=n) (fun _=>rfl) (q02 fun j L h1 h2 h3=>absurd h2 (Nat.not_lt.2 (Nat.le_trans (by decide +kernel) h1))) (q0r jcy)
theorem jqp (n:Nat) : ∀a,(qou n).F a=main Tryz.prog 25 (qzl n) (qs7 n) j0x (q00 Tryz.f121) [.tmp 2] (qou n).args (qou n).res a:=by intro a;kernel_rfl
theorem jq8 (n:Nat):q0a Inv Tryz.prog (qou n):=fun G hG=>⟨⟨by kernel_rfl,fun a r h=>q03 (c:=q00 Tryz.f121) Tryz.func121 (by kernel_rfl) (by kernel_rfl) (Nat.le_of_ble_eq_true (by kernel_rfl)) hG.st (by kernel_rfl) (rs:=[.tmp 2]) (by kernel_rfl) (qxf n hG) (lts:=qs7 n) (fun F hF hFG=>have hK:Know Inv F.G:=hFG ▸ hG;(q02 (c:=(q00 Tryz.f121)) (fun j L h1 h2 h3=>by
  have h2':j<1:=Nat.lt_of_lt_of_le h2 (by decide +kernel)
  match j,h1,h2',h3 with
  | 0,_,_,h3=>obtain rfl:=Option.some.inj h3;exact (show q01 0 0 (q00 Tryz.f121)=q01 0 0 (q00 Tryz.f121) by kernel_rfl) ▸ jfw n hF hK
  | j+1,_,h2',_=>exact absurd h2' (by omega)))) jcy ((jqp n a).symm.trans h)⟩,rfl⟩
end Go.Proofs.YtcdjkibiggjdoaaGreatDoor.AM
namespace Go.Proofs.YtcdjkibiggjdoaaGreatDoor.AM
open Go.RowKit
set_option linter.unusedVariables false
set_option linter.unusedSimpArgs false
theorem jg2 (n:Nat) (c:UInt8):j0i n ((c.toNat:Nat):Int)=some (qh6 c):=by
 have h : ∀k:Fin 256,j0i 0 ((k.val:Nat):Int)=some (qh6 (UInt8.ofNat k.val)):=by decide +kernel
 have h1:=h ⟨c.toNat,c.toNat_lt⟩
 have e:UInt8.ofNat c.toNat=c:=by simp
 rw [e] at h1
 exact h1
theorem qxm (n:Nat) (s:List UInt8) (hL:s.length<=1000000) : ∀m j:Nat,j<=s.length->s.length - j<m->q9u n m s ((s.length:Nat):Int) (j:Int)=some (if (s.drop j).all qh6=true then Sum.inr ((),((),())) else Sum.inl ((false,()),((),())))
 | 0,j,_,h=>absurd h (Nat.not_lt_zero _)
 | m+1,j,hj,h=>by
  rw [qny]
  unfold j19
  by_cases c0:j<s.length
  ·have c0':((j:Nat):Int)<((s.length:Nat):Int):=by omega
   have ih:=qxm n s hL m (j+1) (by omega) (by omega)
   have hd:s.drop j=s[j]::s.drop (j+1):=(List.drop_eq_getElem_cons c0)
   simp only [c0',decide_true,cond_true,q2z c0,Option.bind_some,jg2,q0b,q06 (show j<4611686018427387904 by omega),ih,hd,List.all_cons]
   cases qh6 s[j]<;>simp
  ·have c0' : ¬ ((j:Nat):Int)<((s.length:Nat):Int):=by omega
   have:s.drop j = []:=List.drop_eq_nil_of_le (by omega)
   simp [c0',this]
theorem jgj (n:Nat) (s:List UInt8) (hL:s.length<=1000000) (hn:s.length<n):jan n s=some (qcs s):=by
 unfold jan qcs
 have:=qxm n s hL n 0 (Nat.zero_le _) (by omega)
 rw [show ((0:Nat):Int)=(0:Int) from rfl] at this
 rw [this,List.drop_zero]
 cases decide (s = [])<;>cases decide (s = [46])<;>cases decide (s = [46,46])<;>cases s.all qh6<;>rfl
end Go.Proofs.YtcdjkibiggjdoaaGreatDoor.AM
namespace Go.Proofs.YtcdjkibiggjdoaaGreatDoor.AM
open Go.RowKit
set_option linter.unusedVariables false
set_option linter.unusedSimpArgs false
theorem qj1 (s:List UInt8) (j:Nat) (h:j<s.length):(s.take (j+1)).reverse=s[j]::(s.take j).reverse:=by
 rw [List.take_succ_eq_append_getElem h];simp
theorem qyr (n:Nat) (c:UInt8) (s:List UInt8) (hL:s.length<=1000000) : ∀m j:Nat,j<=s.length->j<m->q9y n m s ((c.toNat:Nat):Int) ((j:Int) - 1)=some (if q8t c (s.take j).reverse = -1 then Sum.inr ((),((),())) else Sum.inl ((q8t c (s.take j).reverse,()),((),())))
 | 0,j,_,h=>absurd h (Nat.not_lt_zero _)
 | m+1,0,_,_=>by
  rw [qbk]
  unfold qol
  simp [q8t]
 | m+1,j+1,hj,h=>by
  rw [qbk]
  unfold qol
  have e1:((j+1:Nat):Int) - 1=((j:Nat):Int):=by omega
  have ih:=qyr n c s hL m j (by omega) (by omega)
  have w1:IntKind.wrap .i64 (((j:Nat):Int) - 1)=((j:Nat):Int) - 1:=wrap64 (by omega) (by omega)
  have c0:(0:Int)<=((j:Nat):Int):=by omega
  have d1:decide (((s[j].toNat:Nat):Int)=((c.toNat:Nat):Int))=decide (s[j]=c):=decide_eq_decide.2 ⟨fun h=>UInt8.toNat_inj.1 (by omega),fun h=>by rw [h]⟩
  rw [e1]
  simp only [c0,decide_true,cond_true,q2z (show j<s.length by omega),Option.bind_some,d1,q0b,w1,ih,qj1 s j (by omega),q8t]
  by_cases h0:s[j]=c
  ·have : ¬ (((s.take j).reverse.length:Nat):Int) = -1:=by omega
   have l1:(s.take j).reverse.length=j:=by simp;omega
   simp only [h0,decide_true,cond_true,if_true,this,if_false,l1]
   rw [if_neg (by omega)]
  ·simp [h0]
theorem jfq (n:Nat) (c:UInt8) (s:List UInt8) (hL:s.length<=1000000) (hn:s.length<n):qz5 n s ((c.toNat:Nat):Int)=some (q9m c s):=by
 unfold qz5
 have:=qyr n c s hL n s.length (Nat.le_refl _) hn
 have w1:IntKind.wrap .i64 (((s.length:Nat):Int) - 1)=((s.length:Nat):Int) - 1:=wrap64 (by omega) (by omega)
 simp only [q0b,w1,this,List.take_length]
 unfold q9m
 by_cases h:q8t c s.reverse = -1
 ·simp [h]
 ·simp [h]
theorem qwb (n:Nat) (s:List UInt8) (hL:s.length<=1000000) (hn:s.length<n):j21 n s (47:Int)=some (q9m 47 s):=by
 unfold j21
 rw [show (47:Int)=(((47:UInt8).toNat:Nat):Int) from rfl,jfq n 47 s hL hn];rfl
theorem j8a (n:Nat) (s:List UInt8) (hs:s.length<=1000000):q3g n s [118]=some (if s.head? = some 118 then (s.drop 1,true) else (s,false)):=by
 unfold q3g q8r q2m
 cases s with
 | nil=>rfl
 | cons b r =>
  have h1:((List.length ([118]:List UInt8):Nat):Int)<=((List.length (b::r):Nat):Int):=by simp;omega
  have h2:q7n (b::r) (0:Int) ((List.length ([118]:List UInt8):Nat):Int)=some [b]:=sub_zero (b:=1) (by simp)
  have h3:q7n (b::r) ((List.length ([118]:List UInt8):Nat):Int) ((List.length (b::r):Nat):Int)=some r:=by
   have:=sub_le (l:=b::r) (a:=1) (b:=(b::r).length) (by simp) (Nat.le_refl _)
   rw [show ((List.length ([118]:List UInt8):Nat):Int)=((1:Nat):Int) from rfl,this]
   simp
  simp only [h1,decide_true,cond_true,h2,Option.bind_some,List.head?_cons,Option.some.injEq,List.drop_succ_cons,List.drop_zero]
  by_cases hb:b=118
  ·simp only [hb,decide_true,cond_true,if_true,Bool.not_true,cond_false] at h3 ⊢
   rw [h3];rfl
  ·have : ¬ [b]=([118]:List UInt8):=fun h=>hb (by simpa using h)
   simp [this,hb]
theorem qtw (n:Nat) (s:List UInt8) (hs:s.length<=1000000):qhu n s=some (q1n s):=by
 unfold qhu q1n q2a
 rw [j8a n s hs]
 by_cases h:s.head? = some 118
 ·have hl:(s.drop 1).length<=1000000:=by rw [List.length_drop];omega
  have ht:qrs (s.drop 1) jgz=some (Lib.trimS (s.drop 1) jgz):=if_pos ⟨rfl,hl⟩
  simp only [h,if_true,Option.bind_some,cond_true,ht,jpy,decide_true,Bool.true_and]
  cases decide (s.drop 1 = [])<;>cases (s.drop 1).all q1i<;>rfl
 ·simp [h]
end Go.Proofs.YtcdjkibiggjdoaaGreatDoor.AM
namespace Go.Proofs
open Go.RowKit Go.Shelf Go.Lib
attribute [local go_sem] Oper.semAt_some
set_option linter.unusedVariables false
set_option linter.unusedSimpArgs false
namespace YtcdjkibiggjdoaaGreatDoor.AM
theorem jpr (x:List UInt8) (w:World) (hI:Inv w) (hx:x.length<=1000000):Calls Tryz.prog 121 #[.string (ba x)] w fun e w'=>e = .returned (.bool (qcs x))/\Below w.heap.size w w':=by
 have h:=(jq8 1000001 Inv q2r).1.2 x (qcs x) (jgj 1000001 x (by omega) (by omega))
 refine (h (fun _ _=>False) w #[.string (ba x)] hI (fun b o h=>h.elim) ⟨q05 _,trivial⟩).mono ?_
 rintro e w' ⟨v,Pc,rfl,hb,_,_,hv⟩
 have hv':v = .bool (qcs x):=q07 hv
 rw [hv']
 exact ⟨rfl,hb⟩
set_option maxHeartbeats 2000000 in
theorem jcd (s:List UInt8) (w:World) (hI:Inv w):Calls Tryz.prog 99 #[.string (ba s)] w fun e w'=>e = .returned (.bool (qbl s))/\Below w.heap.size w w':=by
 refine (callsIn_wide (n:=9)).1 ?_
 refine callsIn_of_wp_marks Tryz.func99 rfl trivial ?_ rfl
 simp only [Tryz.ntmps99,List.size_toArray,List.length_cons,List.length_nil,Nat.reduceAdd,Nat.reduceSub,Array.replicate_succ,Array.replicate_zero,List.push_toArray,List.append_toArray,List.nil_append,List.cons_append]
 have hsz:(ba s).size=s.length:=q1o s
 by_cases h2:s.length<=60
 ·skip
  gi_wp2_with (refine ⟨trivial,?_⟩;gi_at_call 103;refine (callsIn_wide.2 (q50 _ _ _)).mono ?_;rintro e w' ⟨rfl,rfl⟩)
  obtain ⟨W0,hW0,hs0,hb0,g0,g1,g2,g3⟩:=four w (Obj.cells #[Value.bool false] 4) (Obj.cells #[Value.string (ba s)] 9) (Obj.cells #[Value.string { data:=#[47] }] 9) (Obj.cells #[Value.int IntKind.i64 0] 3)
  rw [hW0]
  clear hW0
  obtain ⟨c1,f1⟩:=q0t g0
  obtain ⟨c2,f2⟩:=q0t g1
  obtain ⟨c3,f3⟩:=q0t g2
  obtain ⟨c4,f4⟩:=q0t g3
  refine range_split (n:=9) (by omega) 47 (w.heap.size+1) (w.heap.size+1+1) (w.heap.size+1+2) s (by omega) rfl ⟨c2,f2⟩
   (Rng (.string (ba [47])) (w.heap.size+1+1) w.heap.size (w.heap.size+1+1) (w.heap.size+1+2) 47 w qcs) (RngX w.heap.size w qcs) (qzw (by omega)) (j0d (by omega))
   (fun pre W h=>⟨h.cP,h.cC,(hI.below h.below).maxLen⟩) (fun pre W v h=>qza v h (by omega) (by omega) (by omega) (by omega) (by omega)) ⟨c3,c1,f1,c3,c4,hb0,rfl⟩
   (fun x=>{ tmps:=#[.string (ba s),undef,.pointer (some ⟨w.heap.size,0,none⟩),.string (ba x),.string (ba s),.int .i64 s.length,.bool (decide ((60:Int)<s.length)),.string (ba s),.func (.func 150) #[] #[.pointer (some ⟨w.heap.size+1+1,0,none⟩),.pointer (some ⟨w.heap.size+1,0,none⟩),.pointer (some ⟨w.heap.size+1+2,0,none⟩)],.string (ba x),undef,undef,undef],defers:=[] }) ?assign ?body ?done ?stop
  case assign =>
   intro l x W K hK
   gi_wp2
   exact hK
  case body =>
   intro l pre x r W hi hL hx
   have k1:=hi.res
   have k2:=hi.frz
   have hc:=jpr x W (hI.below hi.below) (by omega)
   cases hpx:qcs x with
   | true =>
    rw [hpx] at hc
    gi_wp2_with (refine ⟨trivial,?_⟩;gi_at_call 121;refine (CallsIn.inRound l (callsIn_wide.2 hc)).mono ?_;rintro e w' ⟨rfl,hb'⟩)
    exact ⟨q2n hb',qhq hi hb' (by simp [hpx]),qen hL hb'⟩
   | false =>
    rw [hpx] at hc
    gi_wp2_with (refine ⟨trivial,?_⟩;gi_at_call 121;refine (CallsIn.inRound l (callsIn_wide.2 hc)).mono ?_;rintro e w' ⟨rfl,hb'⟩;have k3:=q2q hb' hi.res;have k4:=(q3h hb' hi.res).trans hi.frz)
    exact ⟨(q2n hb').trans (KeepsOthers.setCell _ _ _),World.cell?_setCell_same' _ _ _ (by rw [k3];rfl),(hi.below.trans (hb'.mono hi.below.size)).setCell (by simp) _,by simp [hpx]⟩
  case done =>
   intro D W hD hi hK
   have k1:=hi.res
   have k2:=hi.frz
   gi_wp2
   have hK':=(KeepsOthers.setCell W ⟨w.heap.size,0,none⟩ (.bool true)).same D _ hK rfl
   have hW':Below w.heap.size w (W.setCell ⟨w.heap.size,0,none⟩ (.bool true)):=hi.below.setCell (by simp) _
   have k5:(W.setCell ⟨w.heap.size,0,none⟩ (.bool true)).cell? ⟨w.heap.size,0,none⟩=some (.bool true):=World.cell?_setCell_same' _ _ _ (by rw [k1];rfl)
   generalize W.setCell ⟨w.heap.size,0,none⟩ (.bool true)=W2 at hK' hW' k5
   refine ⟨by simp,.inl ⟨_,_,rfl,run_takeDeferred hK',?_⟩⟩
   have hg:=grownBy_putObj' W2 D (.deferred none)
   refine ⟨_,q2v (b:=w.heap.size) (v:=.bool true) rfl rfl hag (cell_kept k5 hg (fun r e=>by cases e;exact ⟨_,hK',rfl⟩)),?_,?_⟩
   ·have ha:=hi.all
    unfold qbl;simp [h2,ha]
   ·exact hW'.grown hg hW'.size (fun k e=>by cases e;omega)
  case stop =>
   intro D pre x t W hD hsp hi hK
   refine ⟨by simp,.inl ⟨_,_,rfl,run_takeDeferred hK,?_⟩⟩
   have hg:=grownBy_putObj' W D (.deferred none)
   refine ⟨_,q2v (b:=w.heap.size) (v:=.bool false) rfl rfl hag (cell_kept hi.res hg (fun r e=>by cases e;exact ⟨_,hK,rfl⟩)),?_,?_⟩
   ·have ha:=jcq hsp hi.no
    unfold qbl;simp [ha]
   ·exact hi.below.grown hg hi.below.size (fun k e=>by cases e;omega)
 ·gi_wp2
  refine ⟨_,q2v (b:=w.heap.size) (v:=.bool false) rfl rfl hag (by simp),?_,?_⟩
  ·unfold qbl;simp [h2]
  ·exact (Below.refl _ w).alloc (Nat.le_refl _) _
def j8k (s:List UInt8):Option Bool:=some (qbl s)
def jdz:FC:={ f:=99,args:=[quw],res:=jqf,F:=fun p=>j8k p }
theorem jq7:q0a Inv Tryz.prog jdz:=fun G hG=>⟨⟨by kernel_rfl,fun (s:List UInt8) r h=>by
 have hr:qbl s=r:=Option.some.inj h
 intro Pc w vs hg hlt hv
 obtain ⟨l⟩:=vs
 match l,hv with
 | [x],⟨h1,_⟩ =>
  obtain rfl:x = .string (ba s):=q07 h1
  refine (jcd s w (hG.im w hg)).mono ?_
  rintro e w' ⟨rfl,hb⟩
  subst hr
  exact q5r rfl hb (q05 _)⟩,rfl⟩
end YtcdjkibiggjdoaaGreatDoor.AM
end Go.Proofs
namespace Go.Proofs
open Go.RowKit Go.Shelf Go.Lib
attribute [local go_sem] Oper.semAt_some
set_option linter.unusedVariables false
set_option linter.unusedSimpArgs false
namespace YtcdjkibiggjdoaaGreatDoor.AM
theorem jof (x:List UInt8) (w:World) (hI:Inv w) (hx:x.length<=1000000):Calls Tryz.prog 101 #[.string (ba x)] w fun e w'=>e = .returned (.bool (q1n x))/\Below w.heap.size w w':=by
 have h:=(j5b 1000001 Inv q2r).1.2 x (q1n x) (qtw 1000001 x (by omega))
 refine (h (fun _ _=>False) w #[.string (ba x)] hI (fun b o h=>h.elim) ⟨q05 _,trivial⟩).mono ?_
 rintro e w' ⟨v,Pc,rfl,hb,_,_,hv⟩
 have hv':v = .bool (q1n x):=q07 hv
 rw [hv']
 exact ⟨rfl,hb⟩
set_option maxHeartbeats 2000000 in
theorem ji3 (s:List UInt8) (w:World) (hI:Inv w) (h2:s.length<=1000000):Calls Tryz.prog 100 #[.string (ba s)] w fun e w'=>e = .returned (.bool (anyS s))/\Below w.heap.size w w':=by
 refine (callsIn_wide (n:=9)).1 ?_
 refine callsIn_of_wp_marks Tryz.func100 rfl trivial ?_ rfl
 simp only [Tryz.ntmps100,List.size_toArray,List.length_cons,List.length_nil,Nat.reduceAdd,Nat.reduceSub,Array.replicate_succ,Array.replicate_zero,List.push_toArray,List.append_toArray,List.nil_append,List.cons_append]
 have hsz:(ba s).size=s.length:=q1o s
 have key:anyS s = !((spl 47 [] s).all fun x=>!q1n x):=by unfold anyS;rw [List.any_eq_not_all_not]
 ·skip
  gi_wp2_with (refine ⟨trivial,?_⟩;gi_at_call 103;refine (callsIn_wide.2 (q50 _ _ _)).mono ?_;rintro e w' ⟨rfl,rfl⟩)
  obtain ⟨W0,hW0,hs0,hb0,g0,g1,g2,g3⟩:=four w (Obj.cells #[Value.bool false] 4) (Obj.cells #[Value.string (ba s)] 9) (Obj.cells #[Value.string { data:=#[47] }] 9) (Obj.cells #[Value.int IntKind.i64 0] 3)
  rw [hW0]
  clear hW0
  obtain ⟨c1,f1⟩:=q0t g0
  obtain ⟨c2,f2⟩:=q0t g1
  obtain ⟨c3,f3⟩:=q0t g2
  obtain ⟨c4,f4⟩:=q0t g3
  refine range_split (n:=9) (by omega) 47 (w.heap.size+1) (w.heap.size+1+1) (w.heap.size+1+2) s (by omega) rfl ⟨c2,f2⟩
   (Rng (.string (ba [47])) (w.heap.size+1+1) w.heap.size (w.heap.size+1+1) (w.heap.size+1+2) 47 w (fun x=>!q1n x)) (RngY w.heap.size w (fun x=>!q1n x)) (qzw (by omega)) (jsh (by omega))
   (fun pre W h=>⟨h.cP,h.cC,(hI.below h.below).maxLen⟩) (fun pre W v h=>qza v h (by omega) (by omega) (by omega) (by omega) (by omega)) ⟨c3,c1,f1,c3,c4,hb0,rfl⟩
   (fun x=>{ tmps:=#[.string (ba s),undef,.pointer (some ⟨w.heap.size,0,none⟩),.string (ba x),.string (ba s),.func (.func 150) #[] #[.pointer (some ⟨w.heap.size+1+1,0,none⟩),.pointer (some ⟨w.heap.size+1,0,none⟩),.pointer (some ⟨w.heap.size+1+2,0,none⟩)],.string (ba x),undef,undef],defers:=[] }) ?assign ?body ?done ?stop
  case assign =>
   intro l x W K hK
   gi_wp2
   exact hK
  case body =>
   intro l pre x r W hi hL hx
   have k1:=hi.res
   have k2:=hi.frz
   have hc:=jof x W (hI.below hi.below) (by omega)
   cases hpx:q1n x with
   | false =>
    rw [hpx] at hc
    gi_wp2_with (refine ⟨trivial,?_⟩;gi_at_call 101;refine (CallsIn.inRound l (callsIn_wide.2 hc)).mono ?_;rintro e w' ⟨rfl,hb'⟩)
    exact ⟨q2n hb',qhq hi hb' (by simp [hpx]),qen hL hb'⟩
   | true =>
    rw [hpx] at hc
    gi_wp2_with (refine ⟨trivial,?_⟩;gi_at_call 101;refine (CallsIn.inRound l (callsIn_wide.2 hc)).mono ?_;rintro e w' ⟨rfl,hb'⟩;have k3:=q2q hb' hi.res;have k4:=(q3h hb' hi.res).trans hi.frz)
    exact ⟨(q2n hb').trans (KeepsOthers.setCell _ _ _),World.cell?_setCell_same' _ _ _ (by rw [k3];rfl),(hi.below.trans (hb'.mono hi.below.size)).setCell (by simp) _,by simp [hpx]⟩
  case done =>
   intro D W hD hi hK
   have k1:=hi.res
   have k2:=hi.frz
   gi_wp2
   have hK':=(KeepsOthers.setCell W ⟨w.heap.size,0,none⟩ (.bool false)).same D _ hK rfl
   have hW':Below w.heap.size w (W.setCell ⟨w.heap.size,0,none⟩ (.bool false)):=hi.below.setCell (by simp) _
   have k5:(W.setCell ⟨w.heap.size,0,none⟩ (.bool false)).cell? ⟨w.heap.size,0,none⟩=some (.bool false):=World.cell?_setCell_same' _ _ _ (by rw [k1];rfl)
   generalize W.setCell ⟨w.heap.size,0,none⟩ (.bool false)=W2 at hK' hW' k5
   refine ⟨by simp,.inl ⟨_,_,rfl,run_takeDeferred hK',?_⟩⟩
   have hg:=grownBy_putObj' W2 D (.deferred none)
   refine ⟨_,q2v (b:=w.heap.size) (v:=.bool false) rfl rfl hag (cell_kept k5 hg (fun r e=>by cases e;exact ⟨_,hK',rfl⟩)),?_,?_⟩
   ·have ha:=hi.all
    rw [key,ha];rfl
   ·exact hW'.grown hg hW'.size (fun k e=>by cases e;omega)
  case stop =>
   intro D pre x t W hD hsp hi hK
   refine ⟨by simp,.inl ⟨_,_,rfl,run_takeDeferred hK,?_⟩⟩
   have hg:=grownBy_putObj' W D (.deferred none)
   refine ⟨_,q2v (b:=w.heap.size) (v:=.bool true) rfl rfl hag (cell_kept hi.res hg (fun r e=>by cases e;exact ⟨_,hK,rfl⟩)),?_,?_⟩
   ·have ha:=jcq hsp hi.no
    rw [key,ha];rfl
   ·exact hi.below.grown hg hi.below.size (fun k e=>by cases e;omega)
theorem jm6 (s:List UInt8) (b:Nat):(ba s).extract 0 b=ba (s.take b):=by
 rw [<-jdc ((ba s).extract 0 b)]
 congr 1
 unfold unB ba
 rw [ByteArray.data_extract]
 simp
theorem jme (x:List UInt8) (w:World) (hI:Inv w) (hx:x.length<=1000000):Calls Tryz.prog 120 #[.string (ba x),.int .u8 47] w fun e w'=>e = .returned (.int .i64 (q9m 47 x))/\Below w.heap.size w w':=by
 have h:=(jf1 1000001 Inv q2r).1.2 (x,(47:Int)) (q9m 47 x) (qwb 1000001 x (by omega) (by omega))
 refine (h (fun _ _=>False) w #[.string (ba x),.int .u8 47] hI (fun b o h=>h.elim) ⟨q05 _,q05 _,trivial⟩).mono ?_
 rintro e w' ⟨v,Pc,rfl,hb,_,_,hv⟩
 have hv':v = .int .i64 (q9m 47 x):=q07 hv
 rw [hv']
 exact ⟨rfl,hb⟩
theorem jal (s:List UInt8) (w:World) (hI:Inv w) (hs:s.length<=1000000):Calls Tryz.prog 97 #[.string (ba s)] w fun e w'=>e = .returned (.string (ba (q2i s)))/\Below w.heap.size w w':=by
 have hl:=jdh 47 s
 have hsz:(ba s).size=s.length:=q1o s
 have hc:=jme s w hI hs
 go_enter Tryz.func97,Tryz.ntmps97
 by_cases h0:q9m 47 s = -1
 ·rw [h0] at hc
  go_wp2_with (go_at_call 120;refine hc.mono ?_)
  rintro e w' ⟨rfl,hb⟩
  go_wp2
  go_ret
  refine ⟨?_,hb⟩
  show Ending.returned (.string ((ba s).extract 0 (max 0 (-1:Int)).toNat))=_
  rw [jm6];unfold q2i;rw [h0];rfl
 ·obtain ⟨k,hk⟩ : ∃ k:Nat,q9m 47 s=(k:Int):=⟨(q9m 47 s).toNat,by omega⟩
  rw [hk] at hc
  go_wp2_with (go_at_call 120;refine hc.mono ?_)
  rintro e w' ⟨rfl,hb⟩
  go_wp2
  go_ret
  refine ⟨?_,hb⟩
  show Ending.returned (.string ((ba s).extract 0 (max 0 (k:Int)).toNat))=_
  rw [jm6];unfold q2i;rw [hk,Int.max_eq_right (by omega)]
theorem jr2 (x:List UInt8) (w:World) (hI:Inv w) (hx:x.length<=1000000):Calls Tryz.prog 72 #[.string (ba x),.string (ba [118])] w fun e w'=>e = .returned (.string (ba (q1m x)))/\Below w.heap.size w w':=by
 have h:=(qi1 100 Inv q2r).1.2 (x,([118]:List UInt8)) (q1m x) (j4c 100 x (by omega))
 refine (h (fun _ _=>False) w #[.string (ba x),.string (ba [118])] hI (fun b o h=>h.elim) ⟨q05 _,q05 _,trivial⟩).mono ?_
 rintro e w' ⟨v,Pc,rfl,hb,_,_,hv⟩
 have hv':v = .string (ba (q1m x)):=q07 hv
 rw [hv']
 exact ⟨rfl,hb⟩
theorem jng (n:Int) (w:World) (hI:Inv w) (h0:2<=n) (h1:n<=999999999):Calls Tryz.prog 94 #[.int .i64 n] w fun e w'=>e = .returned (.string (ba (Lib.itoa n)))/\Below w.heap.size w w':=by
 refine (Any.strconv_Itoa Tryz.laysItoa n (by omega) (by omega) w hI.tab).mono ?_
 rintro e w' ⟨rfl,k,os,rfl⟩
 exact ⟨rfl,Lib.below_grow _ w (Nat.le_refl _) k os⟩
set_option maxHeartbeats 2000000 in
theorem jgv (s:List UInt8) (w:World) (hI:Inv w) (hs:s.length<=1000000):Calls Tryz.prog 102 #[.string (ba s)] w fun e w'=>e = .returned (.tuple #[.int .i64 (numOf (q1m s)),.bool (qvy (q1m s))])/\Below w.heap.size w w':=by
 have hc:=jr2 s w hI hs
 have hl:=j7n s
 go_enter Tryz.func102,Tryz.ntmps102
 go_wp2_with (go_at_call 72;refine hc.mono ?_)
 rintro e w1 ⟨rfl,hb1⟩
 clear hc
 have hI1:=hI.below hb1
 have e1:(ba (q1m s)).data.toList=q1m s:=by simp [ba]
 have hl':(ba (q1m s)).size<=281474976710656:=by rw [q1o];omega
 obtain ⟨ts,ps,hsy⟩:=hI1.syn
 obtain ⟨tr,pr,hrg⟩:=hI1.rng
 cases h:Lib.atoiAll (q1m s) with
 | ok v =>
  go_wp2_with (go_at_call 93;refine (Any.strconv_Atoi_ok Tryz.laysAtoi (ba (q1m s)) (by omega) v (by rw [e1];exact h) w1).mono ?_)
  rintro e w2 ⟨rfl,hw⟩
  have hb2:Below w1.heap.size w1 w2:=by
   rcases hw with rfl|⟨t,rfl⟩
   ·exact Below.refl _ _
   ·exact Lib.bytesWorld_below _ _ _
  clear hw
  have hb:Below w.heap.size w w2:=hb1.trans (hb2.mono hb1.size)
  by_cases h2:2<=v
  ·by_cases h3:v<=999999999
   ·have hi:=jng v w2 (hI.below hb) h2 h3
    go_wp2_with (go_at_call 94;refine hi.mono ?_)
    rintro e w3 ⟨rfl,hb3⟩
    go_wp2
    go_ret2
    refine ⟨?_,hb.trans (hb3.mono hb.size)⟩
    unfold numOf qvy;rw [h]
    simp [h2,h3,q9a]
    rw [Bool.eq_iff_iff];simp
   ·go_wp2
    go_ret2
    refine ⟨?_,hb⟩
    unfold numOf qvy;rw [h]
    simp [h2,show ¬ v<=999999999 from by omega]
  ·go_wp2
   go_ret2
   refine ⟨?_,hb⟩
   unfold numOf qvy;rw [h]
   simp [show ¬ 2<=v from by omega]
 | «syntax» =>
  go_wp2_with (go_at_call 93;refine (Any.strconv_Atoi_syntax Tryz.laysAtoi (ba (q1m s)) hl' (by rw [e1];exact h) _ w1 hsy (Or.inr ⟨_,_,rfl⟩)).mono ?_)
  rintro e w2 ⟨N,rfl,hN,hc,hb2⟩
  go_wp2
  go_ret2
  refine ⟨?_,hb1.trans (hb2.mono hb1.size)⟩
  unfold numOf qvy;rw [h];rfl
 | range =>
  go_wp2_with (go_at_call 93;refine (Any.strconv_Atoi_range Tryz.laysAtoi (ba (q1m s)) hl' (by rw [e1];exact h) _ w1 hrg (Or.inr ⟨_,_,rfl⟩)).mono ?_)
  rintro e w2 ⟨N,rfl,hN,hc,hb2⟩
  rw [e1]
  go_wp2
  go_ret2
  refine ⟨?_,hb1.trans (hb2.mono hb1.size)⟩
  unfold numOf qvy;rw [h];rfl
def j30 (s:List UInt8):Option Bool:=if s.length<=1000000 then some (anyS s) else none
def jp9:FC:={ f:=100,args:=[quw],res:=jqf,F:=fun p=>j30 p }
theorem ju8:q0a Inv Tryz.prog jp9:=fun G hG=>⟨⟨by kernel_rfl,fun (s:List UInt8) r h=>by
 have h':j30 s=some r:=h
 unfold j30 at h'
 split at h'
 case isFalse=>cases h'
 rename_i hc
 have hr:anyS s=r:=Option.some.inj h'
 intro Pc w vs hg hlt hv
 obtain ⟨l⟩:=vs
 match l,hv with
 | [x],⟨h1,_⟩ =>
  obtain rfl:x = .string (ba s):=q07 h1
  refine (ji3 s w (hG.im w hg) hc).mono ?_
  rintro e w' ⟨rfl,hb⟩
  subst hr
  exact q5r rfl hb (q05 _)⟩,rfl⟩
def qtj (s:List UInt8):Option (List UInt8):=if s.length<=1000000 then some (q2i s) else none
def jdq:FC:={ f:=97,args:=[quw],res:=quw,F:=fun p=>qtj p }
theorem jq4:q0a Inv Tryz.prog jdq:=fun G hG=>⟨⟨by kernel_rfl,fun (s:List UInt8) r h=>by
 have h':qtj s=some r:=h
 unfold qtj at h'
 split at h'
 case isFalse=>cases h'
 rename_i hc
 have hr:q2i s=r:=Option.some.inj h'
 intro Pc w vs hg hlt hv
 obtain ⟨l⟩:=vs
 match l,hv with
 | [x],⟨h1,_⟩ =>
  obtain rfl:x = .string (ba s):=q07 h1
  refine (jal s w (hG.im w hg) hc).mono ?_
  rintro e w' ⟨rfl,hb⟩
  subst hr
  exact q5r rfl hb (q05 (.string (ba (q2i s))))⟩,rfl⟩
def qw9 (s:List UInt8):Option (Int×Bool):=if s.length<=1000000 then some (numOf (q1m s),qvy (q1m s)) else none
def jp3:FC:={ f:=102,args:=[quw],res:=.tup [.c (.d (.int .i64)),.c (.d .bool)],F:=fun p=>qw9 p }
theorem jv2:q0a Inv Tryz.prog jp3:=fun G hG=>⟨⟨by kernel_rfl,fun (s:List UInt8) (r:Int×Bool) h=>by
 have h':qw9 s=some r:=h
 unfold qw9 at h'
 split at h'
 case isFalse=>cases h'
 rename_i hc
 have hr:(numOf (q1m s),qvy (q1m s))=r:=Option.some.inj h'
 intro Pc w vs hg hlt hv
 obtain ⟨l⟩:=vs
 match l,hv with
 | [x],⟨h1,_⟩ =>
  obtain rfl:x = .string (ba s):=q07 h1
  refine (jgv s w (hG.im w hg) hc).mono ?_
  rintro e w' ⟨rfl,hb⟩
  subst hr
  refine ⟨_,Pc,rfl,hb,fun _ _ h=>h,fun _ _ h=>Or.inl h,?_⟩
  exact ⟨#[.int .i64 (numOf (q1m s)),.bool (qvy (q1m s))],rfl,q05 (σ:=qbm) (.int .i64 (numOf (q1m s))),q05 (σ:=qbm) (.bool (qvy (q1m s))),trivial⟩⟩,rfl⟩
end YtcdjkibiggjdoaaGreatDoor.AM
end Go.Proofs
namespace Go.Proofs.YtcdjkibiggjdoaaGreatDoor.AM
open Go.RowKit
set_option linter.unusedVariables false
set_option maxRecDepth 20000
def j52 (n:Nat):List LC:=[]
def qzj (n:Nat) (a1:List UInt8):Option (List UInt8) :=
 (j21 n a1 (47:Int)).bind fun (r1:Int)=>q0b (IntKind.wrap .i64 (r1+(1:Int))) fun (n2:Int)=>(q7n a1 n2 ((List.length a1:Nat):Int)).bind fun (s3:List UInt8)=>some s3
def qig (n:Nat):FC:={ f:=98,args:=[.one (.c (.d .str))],res:=.one (.c (.d .str)),F:=fun p=>qzj n p }
def jdf (n:Nat):List FC:=[qjn n]
theorem jfg (n:Nat) {G:World->Prop} (hG:Know Inv G) : ∀c∈jdf n,q1b Tryz.prog G c/\q0e c.args=true:=List.forall_mem_cons.2 ⟨jf1 n G hG,(fun _ h=>by cases h)⟩
def jcw:q0c:=[]
theorem jqu:drB jcw (q00 Tryz.f98)=true:=by kernel_rfl
theorem jpp (n:Nat) : ∀a,(qig n).F a=main Tryz.prog 8 (jdf n) (j52 n) jcw (q00 Tryz.f98) [.tmp 2] (qig n).args (qig n).res a:=by intro a;kernel_rfl
theorem js5 (n:Nat):q0a Inv Tryz.prog (qig n):=fun G hG=>⟨⟨by kernel_rfl,fun a r h=>q03 (c:=q00 Tryz.f98) Tryz.func98 (by kernel_rfl) (by kernel_rfl) (Nat.le_of_ble_eq_true (by kernel_rfl)) hG.st (by kernel_rfl) (rs:=[.tmp 2]) (by kernel_rfl) (jfg n hG) (lts:=j52 n) (fun F hF hFG=>have hK:Know Inv F.G:=hFG ▸ hG;(q02 fun j L h1 h2 h3=>absurd h2 (Nat.not_lt.2 (Nat.le_trans (by decide +kernel) h1)))) jqu ((jpp n a).symm.trans h)⟩,rfl⟩
def qw4 (n:Nat):List LC:=[]
def qhg (n:Nat) (a1:List UInt8):Option ((List UInt8)×(Int×(Bool))) :=
 (qtj a1).bind fun (r1:List UInt8)=>(qzj n a1).bind fun (r2:List UInt8)=>(j8k a1).bind fun (r3:Bool)=>(bif !r3 then (bif !r3 then some (([]:List UInt8),((0:Int),false)) else (qhu n r2).bind fun (r4:Bool)=>(bif !r4 then some (a1,((0:Int),true)) else (qw9 r2).bind fun (r5:Int×(Bool))=>(bif !r5.2 then some (([]:List UInt8),((0:Int),false)) else (bif decide (r1=([]:List UInt8)) then some (([]:List UInt8),((0:Int),false)) else some (r1,(r5.1,true)))))) else (j30 r1).bind fun (r6:Bool)=>(bif r6 then some (([]:List UInt8),((0:Int),false)) else (qhu n r2).bind fun (r7:Bool)=>(bif !r7 then some (a1,((0:Int),true)) else (qw9 r2).bind fun (r8:Int×(Bool))=>(bif !r8.2 then some (([]:List UInt8),((0:Int),false)) else (bif decide (r1=([]:List UInt8)) then some (([]:List UInt8),((0:Int),false)) else some (r1,(r8.1,true)))))))
def q9i (n:Nat):FC:={ f:=78,args:=[.one (.c (.d .str))],res:=.tup [.c (.d .str),.c (.d (.int .i64)),.c (.d .bool)],F:=fun p=>qhg n p }
def j37 (n:Nat):List FC:=[jdq,qig n,jdz,qch n,jp3,jp9]
theorem j95 (n:Nat) {G:World->Prop} (hG:Know Inv G) : ∀c∈j37 n,q1b Tryz.prog G c/\q0e c.args=true:=List.forall_mem_cons.2 ⟨jq4 G hG,List.forall_mem_cons.2 ⟨js5 n G hG,List.forall_mem_cons.2 ⟨jq7 G hG,List.forall_mem_cons.2 ⟨j5b n G hG,List.forall_mem_cons.2 ⟨jv2 G hG,List.forall_mem_cons.2 ⟨ju8 G hG,(fun _ h=>by cases h)⟩⟩⟩⟩⟩⟩
def j4b:q0c:=[]
theorem jm3:drB j4b (q00 Tryz.f78)=true:=by kernel_rfl
theorem jm4 (n:Nat) : ∀a,(q9i n).F a=main Tryz.prog 37 (j37 n) (qw4 n) j4b (q00 Tryz.f78) [.tmp 2,.tmp 3,.tmp 4] (q9i n).args (q9i n).res a:=by intro a;kernel_rfl
theorem j5y (n:Nat):q0a Inv Tryz.prog (q9i n):=fun G hG=>⟨⟨by kernel_rfl,fun a r h=>q03 (c:=q00 Tryz.f78) Tryz.func78 (by kernel_rfl) (by kernel_rfl) (Nat.le_of_ble_eq_true (by kernel_rfl)) hG.st (by kernel_rfl) (rs:=[.tmp 2,.tmp 3,.tmp 4]) (by kernel_rfl) (j95 n hG) (lts:=qw4 n) (fun F hF hFG=>have hK:Know Inv F.G:=hFG ▸ hG;(q02 fun j L h1 h2 h3=>absurd h2 (Nat.not_lt.2 (Nat.le_trans (by decide +kernel) h1)))) jm3 ((jm4 n a).symm.trans h)⟩,rfl⟩
def qw3 (n:Nat):List LC:=[]
def qp1 (n:Nat) (a1:List UInt8):Option (Bool) :=
 (qhg n a1).bind fun (r1:(List UInt8)×(Int×(Bool)))=>some r1.2.2
def qcv (n:Nat):FC:={ f:=51,args:=[.one (.c (.d .str))],res:=.one (.c (.d .bool)),F:=fun p=>qp1 n p }
def j5q (n:Nat):List FC:=[q9i n]
theorem jau (n:Nat) {G:World->Prop} (hG:Know Inv G) : ∀c∈j5q n,q1b Tryz.prog G c/\q0e c.args=true:=List.forall_mem_cons.2 ⟨j5y n G hG,(fun _ h=>by cases h)⟩
def j4q:q0c:=[]
theorem jn1:drB j4q (q00 Tryz.f51)=true:=by kernel_rfl
theorem jou (n:Nat) : ∀a,(qcv n).F a=main Tryz.prog 13 (j5q n) (qw3 n) j4q (q00 Tryz.f51) [.tmp 2] (qcv n).args (qcv n).res a:=by intro a;kernel_rfl
theorem jlf (n:Nat):q0a Inv Tryz.prog (qcv n):=fun G hG=>⟨⟨by kernel_rfl,fun a r h=>q03 (c:=q00 Tryz.f51) Tryz.func51 (by kernel_rfl) (by kernel_rfl) (Nat.le_of_ble_eq_true (by kernel_rfl)) hG.st (by kernel_rfl) (rs:=[.tmp 2]) (by kernel_rfl) (jau n hG) (lts:=qw3 n) (fun F hF hFG=>have hK:Know Inv F.G:=hFG ▸ hG;(q02 fun j L h1 h2 h3=>absurd h2 (Nat.not_lt.2 (Nat.le_trans (by decide +kernel) h1)))) jn1 ((jou n a).symm.trans h)⟩,rfl⟩
def j85 (n:Nat):List LC:=[]
def qtd (n:Nat) (a1:List UInt8) (a2:Int×(Int×(Int×((List UInt8)×(List UInt8))))):Option (Bool) :=
 (qhg n a1).bind fun (r1:(List UInt8)×(Int×(Bool)))=>(bif !r1.2.2 then (bif !r1.2.2 then some false else (bif decide (r1.2.1=(0:Int)) then some (decide (a2.1<(2:Int))) else some (decide (a2.1=r1.2.1)))) else (q4u n a2).bind fun (r2:Bool)=>(bif !r2 then some false else (bif decide (r1.2.1=(0:Int)) then some (decide (a2.1<(2:Int))) else some (decide (a2.1=r1.2.1)))))
def qit (n:Nat):FC:={ f:=53,args:=[.one (.c (.d .str)),.one (.agg [.d (.int .i64),.d (.int .i64),.d (.int .i64),.d .str,.d .str])],res:=.one (.c (.d .bool)),F:=fun p=>qtd n p.1 p.2 }
def jci (n:Nat):List FC:=[q9i n,q42 n]
theorem jg1 (n:Nat) {G:World->Prop} (hG:Know Inv G) : ∀c∈jci n,q1b Tryz.prog G c/\q0e c.args=true:=List.forall_mem_cons.2 ⟨j5y n G hG,List.forall_mem_cons.2 ⟨qbr n G hG,(fun _ h=>by cases h)⟩⟩
def jff:q0c:=[]
theorem js6:drB jff (q00 Tryz.f53)=true:=by kernel_rfl
theorem js2 (n:Nat) : ∀a,(qit n).F a=main Tryz.prog 30 (jci n) (j85 n) jff (q00 Tryz.f53) [.tmp 4] (qit n).args (qit n).res a:=by intro a;kernel_rfl
theorem jqr (n:Nat):q0a Inv Tryz.prog (qit n):=fun G hG=>⟨⟨by kernel_rfl,fun a r h=>q03 (c:=q00 Tryz.f53) Tryz.func53 (by kernel_rfl) (by kernel_rfl) (Nat.le_of_ble_eq_true (by kernel_rfl)) hG.st (by kernel_rfl) (rs:=[.tmp 4]) (by kernel_rfl) (jg1 n hG) (lts:=j85 n) (fun F hF hFG=>have hK:Know Inv F.G:=hFG ▸ hG;(q02 fun j L h1 h2 h3=>absurd h2 (Nat.not_lt.2 (Nat.le_trans (by decide +kernel) h1)))) js6 ((js2 n a).symm.trans h)⟩,rfl⟩
@[reducible] def qeo:SSt:=⟨[(0,.one (.c (.d .str))),(3,.one (.c (.d (.int .i64))))],[],[]⟩
@[reducible] def q8h:List (Exit×SSt):=[(.ret,⟨[(2,.one (.c (.d .bool)))],[],[]⟩),(.exit 0,⟨[(0,.one (.c (.d .str)))],[],[]⟩)]
def qqy (n:Nat) (rec:(List UInt8)->Int->Option (((Bool×(Unit))×(Unit)×(Unit))⊕(((List UInt8)×(Unit))×(Unit)×(Unit)))) (a1:List UInt8) (a2:Int):Option (((Bool×(Unit))×(Unit)×(Unit))⊕(((List UInt8)×(Unit))×(Unit)×(Unit))) :=
 (bif decide (a2<((List.length a1:Nat):Int)) then (sAt a1 a2).bind fun (c1:Int)=>(bif decide ((97:Int)<=c1) then (bif decide (c1<=(122:Int)) then q0b (IntKind.wrap .i64 (a2+(1:Int))) fun (n2:Int)=>rec a1 n2 else (bif decide ((65:Int)<=c1) then (bif decide (c1<=(90:Int)) then q0b (IntKind.wrap .i64 (a2+(1:Int))) fun (n3:Int)=>rec a1 n3 else (bif decide ((48:Int)<=c1) then (bif !(decide (c1<=(57:Int))) then (bif !decide (c1=(45:Int)) then (bif !decide (c1=(95:Int)) then (bif !decide (c1=(46:Int)) then some (Sum.inl ((false,()),((),()))) else q0b (IntKind.wrap .i64 (a2+(1:Int))) fun (n4:Int)=>rec a1 n4) else q0b (IntKind.wrap .i64 (a2+(1:Int))) fun (n5:Int)=>rec a1 n5) else q0b (IntKind.wrap .i64 (a2+(1:Int))) fun (n6:Int)=>rec a1 n6) else q0b (IntKind.wrap .i64 (a2+(1:Int))) fun (n7:Int)=>rec a1 n7) else (bif !decide (c1=(45:Int)) then (bif !decide (c1=(95:Int)) then (bif !decide (c1=(46:Int)) then some (Sum.inl ((false,()),((),()))) else q0b (IntKind.wrap .i64 (a2+(1:Int))) fun (n8:Int)=>rec a1 n8) else q0b (IntKind.wrap .i64 (a2+(1:Int))) fun (n9:Int)=>rec a1 n9) else q0b (IntKind.wrap .i64 (a2+(1:Int))) fun (n10:Int)=>rec a1 n10))) else (bif decide ((48:Int)<=c1) then (bif !(decide (c1<=(57:Int))) then (bif !decide (c1=(45:Int)) then (bif !decide (c1=(95:Int)) then (bif !decide (c1=(46:Int)) then some (Sum.inl ((false,()),((),()))) else q0b (IntKind.wrap .i64 (a2+(1:Int))) fun (n11:Int)=>rec a1 n11) else q0b (IntKind.wrap .i64 (a2+(1:Int))) fun (n12:Int)=>rec a1 n12) else q0b (IntKind.wrap .i64 (a2+(1:Int))) fun (n13:Int)=>rec a1 n13) else q0b (IntKind.wrap .i64 (a2+(1:Int))) fun (n14:Int)=>rec a1 n14) else (bif !decide (c1=(45:Int)) then (bif !decide (c1=(95:Int)) then (bif !decide (c1=(46:Int)) then some (Sum.inl ((false,()),((),()))) else q0b (IntKind.wrap .i64 (a2+(1:Int))) fun (n15:Int)=>rec a1 n15) else q0b (IntKind.wrap .i64 (a2+(1:Int))) fun (n16:Int)=>rec a1 n16) else q0b (IntKind.wrap .i64 (a2+(1:Int))) fun (n17:Int)=>rec a1 n17)))) else (bif decide ((65:Int)<=c1) then (bif decide (c1<=(90:Int)) then q0b (IntKind.wrap .i64 (a2+(1:Int))) fun (n18:Int)=>rec a1 n18 else (bif decide ((48:Int)<=c1) then (bif !(decide (c1<=(57:Int))) then (bif !decide (c1=(45:Int)) then (bif !decide (c1=(95:Int)) then (bif !decide (c1=(46:Int)) then some (Sum.inl ((false,()),((),()))) else q0b (IntKind.wrap .i64 (a2+(1:Int))) fun (n19:Int)=>rec a1 n19) else q0b (IntKind.wrap .i64 (a2+(1:Int))) fun (n20:Int)=>rec a1 n20) else q0b (IntKind.wrap .i64 (a2+(1:Int))) fun (n21:Int)=>rec a1 n21) else q0b (IntKind.wrap .i64 (a2+(1:Int))) fun (n22:Int)=>rec a1 n22) else (bif !decide (c1=(45:Int)) then (bif !decide (c1=(95:Int)) then (bif !decide (c1=(46:Int)) then some (Sum.inl ((false,()),((),()))) else q0b (IntKind.wrap .i64 (a2+(1:Int))) fun (n23:Int)=>rec a1 n23) else q0b (IntKind.wrap .i64 (a2+(1:Int))) fun (n24:Int)=>rec a1 n24) else q0b (IntKind.wrap .i64 (a2+(1:Int))) fun (n25:Int)=>rec a1 n25))) else (bif decide ((48:Int)<=c1) then (bif !(decide (c1<=(57:Int))) then (bif !decide (c1=(45:Int)) then (bif !decide (c1=(95:Int)) then (bif !decide (c1=(46:Int)) then some (Sum.inl ((false,()),((),()))) else q0b (IntKind.wrap .i64 (a2+(1:Int))) fun (n26:Int)=>rec a1 n26) else q0b (IntKind.wrap .i64 (a2+(1:Int))) fun (n27:Int)=>rec a1 n27) else q0b (IntKind.wrap .i64 (a2+(1:Int))) fun (n28:Int)=>rec a1 n28) else q0b (IntKind.wrap .i64 (a2+(1:Int))) fun (n29:Int)=>rec a1 n29) else (bif !decide (c1=(45:Int)) then (bif !decide (c1=(95:Int)) then (bif !decide (c1=(46:Int)) then some (Sum.inl ((false,()),((),()))) else q0b (IntKind.wrap .i64 (a2+(1:Int))) fun (n30:Int)=>rec a1 n30) else q0b (IntKind.wrap .i64 (a2+(1:Int))) fun (n31:Int)=>rec a1 n31) else q0b (IntKind.wrap .i64 (a2+(1:Int))) fun (n32:Int)=>rec a1 n32)))) else some (Sum.inr (((a1,()),((),())))))
def qu4 (n:Nat) (rec:pSt qeo->Option (q0f q8h)) (p:pSt qeo):Option (q0f q8h):=qqy n (fun a1 a2=>rec ((a1,(a2,())),((),()))) p.1.1 p.1.2.1
def q7x (n m:Nat) (a1:List UInt8) (a2:Int):Option (((Bool×(Unit))×(Unit)×(Unit))⊕(((List UInt8)×(Unit))×(Unit)×(Unit))):=q0g (qu4 n) m ((a1,(a2,())),((),()))
theorem qk0 (n m:Nat) (a1:List UInt8) (a2:Int):q7x n (m+1) a1 a2=qqy n (fun a1 a2=>q7x n m a1 a2) a1 a2:=rfl
def j7h (n:Nat):LC:={ sh:=qeo,outs:=q8h,F:=q0g (qu4 n) n }
def qkn (n:Nat):List LC:=[j7h n]
def qom (n:Nat) (a1:List UInt8):Option (Bool) :=
 (q7x n n a1 (0:Int)).bind fun (o33:((Bool×(Unit))×(Unit)×(Unit))⊕(((List UInt8)×(Unit))×(Unit)×(Unit)))=>Sum.elim (fun (q34:(Bool×(Unit))×(Unit)×(Unit))=>some q34.1.1) (fun (q35:((List UInt8)×(Unit))×(Unit)×(Unit))=>(bif !decide (q35.1.1=([]:List UInt8)) then (bif !decide (q35.1.1=([46]:List UInt8)) then some (!decide (q35.1.1=([46,46]:List UInt8))) else some false) else some false)) o33
def qco (n:Nat):FC:={ f:=96,args:=[.one (.c (.d .str))],res:=.one (.c (.d .bool)),F:=fun p=>qom n p }
def qtf (n:Nat):List FC:=[]
theorem qqm (n:Nat) {G:World->Prop} (hG:Know Inv G) : ∀c∈qtf n,q1b Tryz.prog G c/\q0e c.args=true:=(fun _ h=>by cases h)
def qt6:q0c:=[]
theorem j5t:drB qt6 (q00 Tryz.f96)=true:=by kernel_rfl
theorem jip (n:Nat) : ∀rec p,qu4 n rec p=round Tryz.prog 61 (qtf n) (qkn n) qt6 1 qeo q8h (q01 0 0 (q00 Tryz.f96)) rec p:=by intro rec p;kernel_rfl
theorem j91 (n:Nat) {F:Fr} (hF:F.n=61) (hK:Know Inv F.G):q71 Tryz.prog F (j7h n) (q01 0 0 (q00 Tryz.f96)) :=
 q0h hF (by kernel_rfl) (qqm n hK) (jip n) (fuel:=n) (fun _=>rfl) (q02 fun j L h1 h2 h3=>absurd h2 (Nat.not_lt.2 (Nat.le_trans (by decide +kernel) h1))) (q0r j5t)
theorem joo (n:Nat) : ∀a,(qco n).F a=main Tryz.prog 61 (qtf n) (qkn n) qt6 (q00 Tryz.f96) [.tmp 2] (qco n).args (qco n).res a:=by intro a;kernel_rfl
theorem jjp (n:Nat):q0a Inv Tryz.prog (qco n):=fun G hG=>⟨⟨by kernel_rfl,fun a r h=>q03 (c:=q00 Tryz.f96) Tryz.func96 (by kernel_rfl) (by kernel_rfl) (Nat.le_of_ble_eq_true (by kernel_rfl)) hG.st (by kernel_rfl) (rs:=[.tmp 2]) (by kernel_rfl) (qqm n hG) (lts:=qkn n) (fun F hF hFG=>have hK:Know Inv F.G:=hFG ▸ hG;(q02 (c:=(q00 Tryz.f96)) (fun j L h1 h2 h3=>by
  have h2':j<1:=Nat.lt_of_lt_of_le h2 (by decide +kernel)
  match j,h1,h2',h3 with
  | 0,_,_,h3=>obtain rfl:=Option.some.inj h3;exact (show q01 0 0 (q00 Tryz.f96)=q01 0 0 (q00 Tryz.f96) by kernel_rfl) ▸ j91 n hF hK
  | j+1,_,h2',_=>exact absurd h2' (by omega)))) j5t ((joo n a).symm.trans h)⟩,rfl⟩
@[reducible] def qe7:SSt:=⟨[(3,.one (.c (.d (.lst .str)))),(4,.one (.c (.d (.int .i64))))],[],[]⟩
@[reducible] def q8g:List (Exit×SSt):=[(.ret,⟨[(2,.one (.c (.d .bool)))],[],[]⟩),(.exit 0,⟨[],[],[]⟩)]
def qqn (n:Nat) (rec:(List (List UInt8))->Int->Option (((Bool×(Unit))×(Unit)×(Unit))⊕((Unit)×(Unit)×(Unit)))) (a1:List (List UInt8)) (a2:Int):Option (((Bool×(Unit))×(Unit)×(Unit))⊕((Unit)×(Unit)×(Unit))) :=
 (bif decide (a2<((List.length a1:Nat):Int)) then (q1a a1 a2).bind fun (x2:List UInt8)=>(qom n x2).bind fun (r3:Bool)=>(bif !r3 then some (Sum.inl ((false,()),((),()))) else q0b (IntKind.wrap .i64 (a2+(1:Int))) fun (n4:Int)=>rec a1 n4) else some (Sum.inr (((),((),())))))
def qrp (n:Nat) (rec:pSt qe7->Option (q0f q8g)) (p:pSt qe7):Option (q0f q8g):=qqn n (fun a1 a2=>rec ((a1,(a2,())),((),()))) p.1.1 p.1.2.1
def q8d (n m:Nat) (a1:List (List UInt8)) (a2:Int):Option (((Bool×(Unit))×(Unit)×(Unit))⊕((Unit)×(Unit)×(Unit))):=q0g (qrp n) m ((a1,(a2,())),((),()))
theorem qka (n m:Nat) (a1:List (List UInt8)) (a2:Int):q8d n (m+1) a1 a2=qqn n (fun a1 a2=>q8d n m a1 a2) a1 a2:=rfl
def j4w (n:Nat):LC:={ sh:=qe7,outs:=q8g,F:=q0g (qrp n) n }
def ql9 (n:Nat):List LC:=[j4w n]
def qpb (n:Nat) (a1:List UInt8):Option (Bool) :=
 (bif decide ((60:Int)<((List.length a1:Nat):Int)) then some false else (q0n n a1 (47:Int)).bind fun (r1:List (List UInt8))=>(q8d n n r1 (0:Int)).bind fun (o5:((Bool×(Unit))×(Unit)×(Unit))⊕((Unit)×(Unit)×(Unit)))=>Sum.elim (fun (q6:(Bool×(Unit))×(Unit)×(Unit))=>some q6.1.1) (fun (q7:(Unit)×(Unit)×(Unit))=>some true) o5)
def qcd (n:Nat):FC:={ f:=77,args:=[.one (.c (.d .str))],res:=.one (.c (.d .bool)),F:=fun p=>qpb n p }
def qpk (n:Nat):List FC:=[q1f n,qco n]
theorem qtv (n:Nat) {G:World->Prop} (hG:Know Inv G) : ∀c∈qpk n,q1b Tryz.prog G c/\q0e c.args=true:=List.forall_mem_cons.2 ⟨q3k n G hG,List.forall_mem_cons.2 ⟨jjp n G hG,(fun _ h=>by cases h)⟩⟩
def qq4:q0c:=[]
theorem j6i:drB qq4 (q00 Tryz.f77)=true:=by kernel_rfl
theorem jft (n:Nat) : ∀rec p,qrp n rec p=round Tryz.prog 22 (qpk n) (ql9 n) qq4 1 qe7 q8g (q01 0 0 (q00 Tryz.f77)) rec p:=by intro rec p;kernel_rfl
theorem j9v (n:Nat) {F:Fr} (hF:F.n=22) (hK:Know Inv F.G):q71 Tryz.prog F (j4w n) (q01 0 0 (q00 Tryz.f77)) :=
 q0h hF (by kernel_rfl) (qtv n hK) (jft n) (fuel:=n) (fun _=>rfl) (q02 fun j L h1 h2 h3=>absurd h2 (Nat.not_lt.2 (Nat.le_trans (by decide +kernel) h1))) (q0r j6i)
theorem jlp (n:Nat) : ∀a,(qcd n).F a=main Tryz.prog 22 (qpk n) (ql9 n) qq4 (q00 Tryz.f77) [.tmp 2] (qcd n).args (qcd n).res a:=by intro a;kernel_rfl
theorem jlu (n:Nat):q0a Inv Tryz.prog (qcd n):=fun G hG=>⟨⟨by kernel_rfl,fun a r h=>q03 (c:=q00 Tryz.f77) Tryz.func77 (by kernel_rfl) (by kernel_rfl) (Nat.le_of_ble_eq_true (by kernel_rfl)) hG.st (by kernel_rfl) (rs:=[.tmp 2]) (by kernel_rfl) (qtv n hG) (lts:=ql9 n) (fun F hF hFG=>have hK:Know Inv F.G:=hFG ▸ hG;(q02 (c:=(q00 Tryz.f77)) (fun j L h1 h2 h3=>by
  have h2':j<1:=Nat.lt_of_lt_of_le h2 (by decide +kernel)
  match j,h1,h2',h3 with
  | 0,_,_,h3=>obtain rfl:=Option.some.inj h3;exact (show q01 0 0 (q00 Tryz.f77)=q01 0 0 (q00 Tryz.f77) by kernel_rfl) ▸ j9v n hF hK
  | j+1,_,h2',_=>exact absurd h2' (by omega)))) j6i ((jlp n a).symm.trans h)⟩,rfl⟩
@[reducible] def q9x:SSt:=⟨[(0,.one (.c (.d .str))),(3,.one (.c (.d (.int .i64))))],[],[]⟩
@[reducible] def q6f:List (Exit×SSt):=[(.ret,⟨[(2,.one (.c (.d .bool)))],[],[]⟩),(.exit 0,⟨[(0,.one (.c (.d .str)))],[],[]⟩)]
def qkj (n:Nat) (rec:(List UInt8)->Int->Option (((Bool×(Unit))×(Unit)×(Unit))⊕(((List UInt8)×(Unit))×(Unit)×(Unit)))) (a1:List UInt8) (a2:Int):Option (((Bool×(Unit))×(Unit)×(Unit))⊕(((List UInt8)×(Unit))×(Unit)×(Unit))) :=
 (bif decide (a2<((List.length a1:Nat):Int)) then (sAt a1 a2).bind fun (c1:Int)=>(bif decide (c1<(48:Int)) then some (Sum.inl ((false,()),((),()))) else (sAt a1 a2).bind fun (c2:Int)=>(bif decide ((57:Int)<c2) then some (Sum.inl ((false,()),((),()))) else q0b (IntKind.wrap .i64 (a2+(1:Int))) fun (n3:Int)=>rec a1 n3)) else some (Sum.inr (((a1,()),((),())))))
def qm1 (n:Nat) (rec:pSt q9x->Option (q0f q6f)) (p:pSt q9x):Option (q0f q6f):=qkj n (fun a1 a2=>rec ((a1,(a2,())),((),()))) p.1.1 p.1.2.1
def q69 (n m:Nat) (a1:List UInt8) (a2:Int):Option (((Bool×(Unit))×(Unit)×(Unit))⊕(((List UInt8)×(Unit))×(Unit)×(Unit))):=q0g (qm1 n) m ((a1,(a2,())),((),()))
theorem qhj (n m:Nat) (a1:List UInt8) (a2:Int):q69 n (m+1) a1 a2=qkj n (fun a1 a2=>q69 n m a1 a2) a1 a2:=rfl
def qw1 (n:Nat):LC:={ sh:=q9x,outs:=q6f,F:=q0g (qm1 n) n }
def qg0 (n:Nat):List LC:=[qw1 n]
def qcp (n:Nat) (a1:List UInt8):Option (Bool) :=
 (q69 n n a1 (1:Int)).bind fun (o4:((Bool×(Unit))×(Unit)×(Unit))⊕(((List UInt8)×(Unit))×(Unit)×(Unit)))=>Sum.elim (fun (q5:(Bool×(Unit))×(Unit)×(Unit))=>some q5.1.1) (fun (q6:((List UInt8)×(Unit))×(Unit)×(Unit))=>(bif decide ((1:Int)<((List.length q6.1.1:Nat):Int)) then (sAt q6.1.1 (0:Int)).bind fun (c7:Int)=>some (decide (c7=(118:Int))) else some false)) o4
def q6w (n:Nat):FC:={ f:=59,args:=[.one (.c (.d .str))],res:=.one (.c (.d .bool)),F:=fun p=>qcp n p }
def qlc (n:Nat):List FC:=[]
theorem qms (n:Nat) {G:World->Prop} (hG:Know Inv G) : ∀c∈qlc n,q1b Tryz.prog G c/\q0e c.args=true:=(fun _ h=>by cases h)
def ql0:q0c:=[]
theorem qxd:drB ql0 (q00 Tryz.f59)=true:=by kernel_rfl
theorem j9x (n:Nat) : ∀rec p,qm1 n rec p=round Tryz.prog 28 (qlc n) (qg0 n) ql0 1 q9x q6f (q01 0 0 (q00 Tryz.f59)) rec p:=by intro rec p;kernel_rfl
theorem j2r (n:Nat) {F:Fr} (hF:F.n=28) (hK:Know Inv F.G):q71 Tryz.prog F (qw1 n) (q01 0 0 (q00 Tryz.f59)) :=
 q0h hF (by kernel_rfl) (qms n hK) (j9x n) (fuel:=n) (fun _=>rfl) (q02 fun j L h1 h2 h3=>absurd h2 (Nat.not_lt.2 (Nat.le_trans (by decide +kernel) h1))) (q0r qxd)
theorem jif (n:Nat) : ∀a,(q6w n).F a=main Tryz.prog 28 (qlc n) (qg0 n) ql0 (q00 Tryz.f59) [.tmp 2] (q6w n).args (q6w n).res a:=by intro a;kernel_rfl
theorem qxj (n:Nat):q0a Inv Tryz.prog (q6w n):=fun G hG=>⟨⟨by kernel_rfl,fun a r h=>q03 (c:=q00 Tryz.f59) Tryz.func59 (by kernel_rfl) (by kernel_rfl) (Nat.le_of_ble_eq_true (by kernel_rfl)) hG.st (by kernel_rfl) (rs:=[.tmp 2]) (by kernel_rfl) (qms n hG) (lts:=qg0 n) (fun F hF hFG=>have hK:Know Inv F.G:=hFG ▸ hG;(q02 (c:=(q00 Tryz.f59)) (fun j L h1 h2 h3=>by
  have h2':j<1:=Nat.lt_of_lt_of_le h2 (by decide +kernel)
  match j,h1,h2',h3 with
  | 0,_,_,h3=>obtain rfl:=Option.some.inj h3;exact (show q01 0 0 (q00 Tryz.f59)=q01 0 0 (q00 Tryz.f59) by kernel_rfl) ▸ j2r n hF hK
  | j+1,_,h2',_=>exact absurd h2' (by omega)))) qxd ((jif n a).symm.trans h)⟩,rfl⟩
@[reducible] def q8f:SSt:=⟨[(0,.one (.c (.d .str))),(3,.one (.c (.d (.int .i64)))),(4,.one (.c (.d (.int .i64))))],[],[]⟩
@[reducible] def q4y:List (Exit×SSt):=[(.exit 0,⟨[(3,.one (.c (.d (.int .i64))))],[],[]⟩)]
def qgx (n:Nat) (rec:(List UInt8)->Int->Int->Option ((Int×(Unit))×(Unit)×(Unit))) (a1:List UInt8) (a2:Int) (a3:Int):Option ((Int×(Unit))×(Unit)×(Unit)) :=
 (bif decide (a3<((List.length a1:Nat):Int)) then q0b (IntKind.wrap .i64 ((10:Int)*a2)) fun (n2:Int)=>(sAt a1 a3).bind fun (c3:Int)=>q0b (IntKind.wrap .i64 c3) fun (n4:Int)=>q0b (IntKind.wrap .i64 (n2+n4)) fun (n5:Int)=>q0b (IntKind.wrap .i64 (n5 - (48:Int))) fun (n6:Int)=>q0b (IntKind.wrap .i64 (a3+(1:Int))) fun (n7:Int)=>rec a1 n6 n7 else some (((a2,()),((),()))))
def qfr (n:Nat) (rec:pSt q8f->Option (q0f q4y)) (p:pSt q8f):Option (q0f q4y):=qgx n (fun a1 a2 a3=>rec ((a1,(a2,(a3,()))),((),()))) p.1.1 p.1.2.1 p.1.2.2.1
def q4w (n m:Nat) (a1:List UInt8) (a2:Int) (a3:Int):Option ((Int×(Unit))×(Unit)×(Unit)):=q0g (qfr n) m ((a1,(a2,(a3,()))),((),()))
theorem qg3 (n m:Nat) (a1:List UInt8) (a2:Int) (a3:Int):q4w n (m+1) a1 a2 a3=qgx n (fun a1 a2 a3=>q4w n m a1 a2 a3) a1 a2 a3:=rfl
def qua (n:Nat):LC:={ sh:=q8f,outs:=q4y,F:=q0g (qfr n) n }
def qc8 (n:Nat):List LC:=[qua n]
def q9r (n:Nat) (a1:List UInt8):Option (Int) :=
 (bif decide ((10:Int)<((List.length a1:Nat):Int)) then some (0:Int) else (sAt a1 (1:Int)).bind fun (c1:Int)=>(bif decide (c1=(48:Int)) then some (0:Int) else (q4w n n a1 (0:Int) (1:Int)).bind fun (o8:(Int×(Unit))×(Unit)×(Unit))=>(bif decide (o8.1.1<(2:Int)) then some (0:Int) else some o8.1.1)))
def q4q (n:Nat):FC:={ f:=61,args:=[.one (.c (.d .str))],res:=.one (.c (.d (.int .i64))),F:=fun p=>q9r n p }
def qgb (n:Nat):List FC:=[]
theorem qiv (n:Nat) {G:World->Prop} (hG:Know Inv G) : ∀c∈qgb n,q1b Tryz.prog G c/\q0e c.args=true:=(fun _ h=>by cases h)
def qgr:q0c:=[]
theorem quv:drB qgr (q00 Tryz.f61)=true:=by kernel_rfl
theorem j7i (n:Nat) : ∀rec p,qfr n rec p=round Tryz.prog 30 (qgb n) (qc8 n) qgr 1 q8f q4y (q01 0 0 (q00 Tryz.f61)) rec p:=by intro rec p;kernel_rfl
theorem j05 (n:Nat) {F:Fr} (hF:F.n=30) (hK:Know Inv F.G):q71 Tryz.prog F (qua n) (q01 0 0 (q00 Tryz.f61)) :=
 q0h hF (by kernel_rfl) (qiv n hK) (j7i n) (fuel:=n) (fun _=>rfl) (q02 fun j L h1 h2 h3=>absurd h2 (Nat.not_lt.2 (Nat.le_trans (by decide +kernel) h1))) (q0r quv)
theorem jab (n:Nat) : ∀a,(q4q n).F a=main Tryz.prog 30 (qgb n) (qc8 n) qgr (q00 Tryz.f61) [.tmp 2] (q4q n).args (q4q n).res a:=by intro a;kernel_rfl
theorem qum (n:Nat):q0a Inv Tryz.prog (q4q n):=fun G hG=>⟨⟨by kernel_rfl,fun a r h=>q03 (c:=q00 Tryz.f61) Tryz.func61 (by kernel_rfl) (by kernel_rfl) (Nat.le_of_ble_eq_true (by kernel_rfl)) hG.st (by kernel_rfl) (rs:=[.tmp 2]) (by kernel_rfl) (qiv n hG) (lts:=qc8 n) (fun F hF hFG=>have hK:Know Inv F.G:=hFG ▸ hG;(q02 (c:=(q00 Tryz.f61)) (fun j L h1 h2 h3=>by
  have h2':j<1:=Nat.lt_of_lt_of_le h2 (by decide +kernel)
  match j,h1,h2',h3 with
  | 0,_,_,h3=>obtain rfl:=Option.some.inj h3;exact (show q01 0 0 (q00 Tryz.f61)=q01 0 0 (q00 Tryz.f61) by kernel_rfl) ▸ j05 n hF hK
  | j+1,_,h2',_=>exact absurd h2' (by omega)))) quv ((jab n a).symm.trans h)⟩,rfl⟩
@[reducible] def qai:SSt:=⟨[(3,.one (.c (.d (.lst .str)))),(4,.one (.c (.d (.int .i64))))],[],[]⟩
@[reducible] def q65:List (Exit×SSt):=[(.ret,⟨[(2,.one (.c (.d .bool)))],[],[]⟩),(.exit 0,⟨[],[],[]⟩)]
def qeg (n:Nat) (rec:(List (List UInt8))->Int->Option (((Bool×(Unit))×(Unit)×(Unit))⊕((Unit)×(Unit)×(Unit)))) (a1:List (List UInt8)) (a2:Int):Option (((Bool×(Unit))×(Unit)×(Unit))⊕((Unit)×(Unit)×(Unit))) :=
 (bif decide (a2<((List.length a1:Nat):Int)) then (q1a a1 a2).bind fun (x3:List UInt8)=>(qcp n x3).bind fun (r4:Bool)=>(bif r4 then q0b (IntKind.wrap .i64 (((List.length a1:Nat):Int) - (1:Int))) fun (n5:Int)=>(bif decide (a2<n5) then some (Sum.inl ((false,()),((),()))) else (bif decide (a2=(0:Int)) then some (Sum.inl ((false,()),((),()))) else (q1a a1 a2).bind fun (x6:List UInt8)=>(q9r n x6).bind fun (r7:Int)=>(bif decide (r7=(0:Int)) then some (Sum.inl ((false,()),((),()))) else q0b (IntKind.wrap .i64 (a2+(1:Int))) fun (n8:Int)=>rec a1 n8))) else q0b (IntKind.wrap .i64 (a2+(1:Int))) fun (n9:Int)=>rec a1 n9) else some (Sum.inr (((),((),())))))
def qlu (n:Nat) (rec:pSt qai->Option (q0f q65)) (p:pSt qai):Option (q0f q65):=qeg n (fun a1 a2=>rec ((a1,(a2,())),((),()))) p.1.1 p.1.2.1
def q3x (n m:Nat) (a1:List (List UInt8)) (a2:Int):Option (((Bool×(Unit))×(Unit)×(Unit))⊕((Unit)×(Unit)×(Unit))):=q0g (qlu n) m ((a1,(a2,())),((),()))
theorem q8e (n m:Nat) (a1:List (List UInt8)) (a2:Int):q3x n (m+1) a1 a2=qeg n (fun a1 a2=>q3x n m a1 a2) a1 a2:=rfl
def qx2 (n:Nat):LC:={ sh:=qai,outs:=q65,F:=q0g (qlu n) n }
def qfx (n:Nat):List LC:=[qx2 n]
def qbq (n:Nat) (a1:List UInt8):Option (Bool) :=
 (qpb n a1).bind fun (r1:Bool)=>(bif !r1 then some false else (q0n n a1 (47:Int)).bind fun (r2:List (List UInt8))=>(q3x n n r2 (0:Int)).bind fun (o10:((Bool×(Unit))×(Unit)×(Unit))⊕((Unit)×(Unit)×(Unit)))=>Sum.elim (fun (q11:(Bool×(Unit))×(Unit)×(Unit))=>some q11.1.1) (fun (q12:(Unit)×(Unit)×(Unit))=>some true) o10)
def q6x (n:Nat):FC:={ f:=49,args:=[.one (.c (.d .str))],res:=.one (.c (.d .bool)),F:=fun p=>qbq n p }
def qly (n:Nat):List FC:=[qcd n,q1f n,q6w n,q4q n]
theorem qmy (n:Nat) {G:World->Prop} (hG:Know Inv G) : ∀c∈qly n,q1b Tryz.prog G c/\q0e c.args=true:=List.forall_mem_cons.2 ⟨jlu n G hG,List.forall_mem_cons.2 ⟨q3k n G hG,List.forall_mem_cons.2 ⟨qxj n G hG,List.forall_mem_cons.2 ⟨qum n G hG,(fun _ h=>by cases h)⟩⟩⟩⟩
def qk5:q0c:=[]
theorem qwv:drB qk5 (q00 Tryz.f49)=true:=by kernel_rfl
theorem j89 (n:Nat) : ∀rec p,qlu n rec p=round Tryz.prog 40 (qly n) (qfx n) qk5 1 qai q65 (q01 0 0 (q00 Tryz.f49)) rec p:=by intro rec p;kernel_rfl
theorem j47 (n:Nat) {F:Fr} (hF:F.n=40) (hK:Know Inv F.G):q71 Tryz.prog F (qx2 n) (q01 0 0 (q00 Tryz.f49)) :=
 q0h hF (by kernel_rfl) (qmy n hK) (j89 n) (fuel:=n) (fun _=>rfl) (q02 fun j L h1 h2 h3=>absurd h2 (Nat.not_lt.2 (Nat.le_trans (by decide +kernel) h1))) (q0r qwv)
theorem jgr (n:Nat) : ∀a,(q6x n).F a=main Tryz.prog 40 (qly n) (qfx n) qk5 (q00 Tryz.f49) [.tmp 2] (q6x n).args (q6x n).res a:=by intro a;kernel_rfl
theorem qxh (n:Nat):q0a Inv Tryz.prog (q6x n):=fun G hG=>⟨⟨by kernel_rfl,fun a r h=>q03 (c:=q00 Tryz.f49) Tryz.func49 (by kernel_rfl) (by kernel_rfl) (Nat.le_of_ble_eq_true (by kernel_rfl)) hG.st (by kernel_rfl) (rs:=[.tmp 2]) (by kernel_rfl) (qmy n hG) (lts:=qfx n) (fun F hF hFG=>have hK:Know Inv F.G:=hFG ▸ hG;(q02 (c:=(q00 Tryz.f49)) (fun j L h1 h2 h3=>by
  have h2':j<1:=Nat.lt_of_lt_of_le h2 (by decide +kernel)
  match j,h1,h2',h3 with
  | 0,_,_,h3=>obtain rfl:=Option.some.inj h3;exact (show q01 0 0 (q00 Tryz.f49)=q01 0 0 (q00 Tryz.f49) by kernel_rfl) ▸ j47 n hF hK
  | j+1,_,h2',_=>exact absurd h2' (by omega)))) qwv ((jgr n a).symm.trans h)⟩,rfl⟩
@[reducible] def qdx:SSt:=⟨[(0,.one (.c (.d .str))),(3,.one (.c (.d (.int .i64))))],[],[]⟩
@[reducible] def q7r:List (Exit×SSt):=[(.ret,⟨[(2,.one (.c (.d .str)))],[],[]⟩),(.exit 0,⟨[],[],[]⟩)]
def qj9 (n:Nat) (rec:(List UInt8)->Int->Option ((((List UInt8)×(Unit))×(Unit)×(Unit))⊕((Unit)×(Unit)×(Unit)))) (a1:List UInt8) (a2:Int):Option ((((List UInt8)×(Unit))×(Unit)×(Unit))⊕((Unit)×(Unit)×(Unit))) :=
 (bif decide ((0:Int)<=a2) then (sAt a1 a2).bind fun (c2:Int)=>(bif decide (c2=(47:Int)) then (q7n a1 (0:Int) a2).bind fun (s3:List UInt8)=>some (Sum.inl ((s3,()),((),()))) else q0b (IntKind.wrap .i64 (a2 - (1:Int))) fun (n4:Int)=>rec a1 n4) else some (Sum.inr (((),((),())))))
def qu2 (n:Nat) (rec:pSt qdx->Option (q0f q7r)) (p:pSt qdx):Option (q0f q7r):=qj9 n (fun a1 a2=>rec ((a1,(a2,())),((),()))) p.1.1 p.1.2.1
def q8o (n m:Nat) (a1:List UInt8) (a2:Int):Option ((((List UInt8)×(Unit))×(Unit)×(Unit))⊕((Unit)×(Unit)×(Unit))):=q0g (qu2 n) m ((a1,(a2,())),((),()))
theorem q9j (n m:Nat) (a1:List UInt8) (a2:Int):q8o n (m+1) a1 a2=qj9 n (fun a1 a2=>q8o n m a1 a2) a1 a2:=rfl
def j5o (n:Nat):LC:={ sh:=qdx,outs:=q7r,F:=q0g (qu2 n) n }
def qju (n:Nat):List LC:=[j5o n]
def qp2 (n:Nat) (a1:List UInt8):Option (List UInt8) :=
 q0b (IntKind.wrap .i64 (((List.length a1:Nat):Int) - (1:Int))) fun (n1:Int)=>(q8o n n a1 n1).bind fun (o5:(((List UInt8)×(Unit))×(Unit)×(Unit))⊕((Unit)×(Unit)×(Unit)))=>Sum.elim (fun (q6:((List UInt8)×(Unit))×(Unit)×(Unit))=>some q6.1.1) (fun (q7:(Unit)×(Unit)×(Unit))=>some ([]:List UInt8)) o5
def qby (n:Nat):FC:={ f:=60,args:=[.one (.c (.d .str))],res:=.one (.c (.d .str)),F:=fun p=>qp2 n p }
def qu0 (n:Nat):List FC:=[]
theorem qqr (n:Nat) {G:World->Prop} (hG:Know Inv G) : ∀c∈qu0 n,q1b Tryz.prog G c/\q0e c.args=true:=(fun _ h=>by cases h)
def qq0:q0c:=[]
theorem j3d:drB qq0 (q00 Tryz.f60)=true:=by kernel_rfl
theorem jfu (n:Nat) : ∀rec p,qu2 n rec p=round Tryz.prog 18 (qu0 n) (qju n) qq0 1 qdx q7r (q01 0 0 (q00 Tryz.f60)) rec p:=by intro rec p;kernel_rfl
theorem jbu (n:Nat) {F:Fr} (hF:F.n=18) (hK:Know Inv F.G):q71 Tryz.prog F (j5o n) (q01 0 0 (q00 Tryz.f60)) :=
 q0h hF (by kernel_rfl) (qqr n hK) (jfu n) (fuel:=n) (fun _=>rfl) (q02 fun j L h1 h2 h3=>absurd h2 (Nat.not_lt.2 (Nat.le_trans (by decide +kernel) h1))) (q0r j3d)
theorem jon (n:Nat) : ∀a,(qby n).F a=main Tryz.prog 18 (qu0 n) (qju n) qq0 (q00 Tryz.f60) [.tmp 2] (qby n).args (qby n).res a:=by intro a;kernel_rfl
theorem jiv (n:Nat):q0a Inv Tryz.prog (qby n):=fun G hG=>⟨⟨by kernel_rfl,fun a r h=>q03 (c:=q00 Tryz.f60) Tryz.func60 (by kernel_rfl) (by kernel_rfl) (Nat.le_of_ble_eq_true (by kernel_rfl)) hG.st (by kernel_rfl) (rs:=[.tmp 2]) (by kernel_rfl) (qqr n hG) (lts:=qju n) (fun F hF hFG=>have hK:Know Inv F.G:=hFG ▸ hG;(q02 (c:=(q00 Tryz.f60)) (fun j L h1 h2 h3=>by
  have h2':j<1:=Nat.lt_of_lt_of_le h2 (by decide +kernel)
  match j,h1,h2',h3 with
  | 0,_,_,h3=>obtain rfl:=Option.some.inj h3;exact (show q01 0 0 (q00 Tryz.f60)=q01 0 0 (q00 Tryz.f60) by kernel_rfl) ▸ jbu n hF hK
  | j+1,_,h2',_=>exact absurd h2' (by omega)))) j3d ((jon n a).symm.trans h)⟩,rfl⟩
def qt5 (n:Nat):List LC:=[]
def qh3 (n:Nat) (a1:List UInt8):Option ((List UInt8)×(Int×(Bool))) :=
 (qbq n a1).bind fun (r1:Bool)=>(bif !r1 then some (([]:List UInt8),((0:Int),false)) else (q0n n a1 (47:Int)).bind fun (r2:List (List UInt8))=>q0b (IntKind.wrap .i64 (((List.length r2:Nat):Int) - (1:Int))) fun (n3:Int)=>(q1a r2 n3).bind fun (x4:List UInt8)=>(qcp n x4).bind fun (r5:Bool)=>(bif !r5 then some (a1,((0:Int),true)) else (qp2 n a1).bind fun (r6:List UInt8)=>(q9r n x4).bind fun (r7:Int)=>some (r6,(r7,true))))
def q9p (n:Nat):FC:={ f:=36,args:=[.one (.c (.d .str))],res:=.tup [.c (.d .str),.c (.d (.int .i64)),.c (.d .bool)],F:=fun p=>qh3 n p }
def qyg (n:Nat):List FC:=[q6x n,q1f n,q6w n,qby n,q4q n]
theorem j3m (n:Nat) {G:World->Prop} (hG:Know Inv G) : ∀c∈qyg n,q1b Tryz.prog G c/\q0e c.args=true:=List.forall_mem_cons.2 ⟨qxh n G hG,List.forall_mem_cons.2 ⟨q3k n G hG,List.forall_mem_cons.2 ⟨qxj n G hG,List.forall_mem_cons.2 ⟨jiv n G hG,List.forall_mem_cons.2 ⟨qum n G hG,(fun _ h=>by cases h)⟩⟩⟩⟩⟩
def qxy:q0c:=[]
theorem jhf:drB qxy (q00 Tryz.f36)=true:=by kernel_rfl
theorem jig (n:Nat) : ∀a,(q9p n).F a=main Tryz.prog 26 (qyg n) (qt5 n) qxy (q00 Tryz.f36) [.tmp 2,.tmp 3,.tmp 4] (q9p n).args (q9p n).res a:=by intro a;kernel_rfl
theorem jgb (n:Nat):q0a Inv Tryz.prog (q9p n):=fun G hG=>⟨⟨by kernel_rfl,fun a r h=>q03 (c:=q00 Tryz.f36) Tryz.func36 (by kernel_rfl) (by kernel_rfl) (Nat.le_of_ble_eq_true (by kernel_rfl)) hG.st (by kernel_rfl) (rs:=[.tmp 2,.tmp 3,.tmp 4]) (by kernel_rfl) (j3m n hG) (lts:=qt5 n) (fun F hF hFG=>have hK:Know Inv F.G:=hFG ▸ hG;(q02 fun j L h1 h2 h3=>absurd h2 (Nat.not_lt.2 (Nat.le_trans (by decide +kernel) h1)))) jhf ((jig n a).symm.trans h)⟩,rfl⟩
def qxp (n:Nat):List LC:=[]
def qb9 (n:Nat) (a1:List UInt8) (a2:Int×(Int×(Int×((List UInt8)×(List UInt8))))):Option (Bool) :=
 (qh3 n a1).bind fun (r1:(List UInt8)×(Int×(Bool)))=>(bif !r1.2.2 then some false else (q66 n a2).bind fun (r2:Bool)=>(bif !r2 then some false else (bif decide (a2.1=r1.2.1) then some true else (bif decide (r1.2.1=(0:Int)) then some (decide (a2.1=(1:Int))) else some false))))
def q8z (n:Nat):FC:={ f:=20,args:=[.one (.c (.d .str)),.one (.agg [.d (.int .i64),.d (.int .i64),.d (.int .i64),.d .str,.d .str])],res:=.one (.c (.d .bool)),F:=fun p=>qb9 n p.1 p.2 }
def j7z (n:Nat):List FC:=[q9p n,q5e n]
theorem j9q (n:Nat) {G:World->Prop} (hG:Know Inv G) : ∀c∈j7z n,q1b Tryz.prog G c/\q0e c.args=true:=List.forall_mem_cons.2 ⟨jgb n G hG,List.forall_mem_cons.2 ⟨qh5 n G hG,(fun _ h=>by cases h)⟩⟩
def j6f:q0c:=[]
theorem jp7:drB j6f (q00 Tryz.f20)=true:=by kernel_rfl
theorem jlj (n:Nat) : ∀a,(q8z n).F a=main Tryz.prog 34 (j7z n) (qxp n) j6f (q00 Tryz.f20) [.tmp 4] (q8z n).args (q8z n).res a:=by intro a;kernel_rfl
theorem j57 (n:Nat):q0a Inv Tryz.prog (q8z n):=fun G hG=>⟨⟨by kernel_rfl,fun a r h=>q03 (c:=q00 Tryz.f20) Tryz.func20 (by kernel_rfl) (by kernel_rfl) (Nat.le_of_ble_eq_true (by kernel_rfl)) hG.st (by kernel_rfl) (rs:=[.tmp 4]) (by kernel_rfl) (j9q n hG) (lts:=qxp n) (fun F hF hFG=>have hK:Know Inv F.G:=hFG ▸ hG;(q02 fun j L h1 h2 h3=>absurd h2 (Nat.not_lt.2 (Nat.le_trans (by decide +kernel) h1)))) jp7 ((jlj n a).symm.trans h)⟩,rfl⟩
end Go.Proofs.YtcdjkibiggjdoaaGreatDoor.AM
namespace Go.Proofs.YtcdjkibiggjdoaaGreatDoor.AM
open Go.RowKit
set_option linter.unusedVariables false
set_option linter.unusedSimpArgs false
theorem jg9 (n:Nat) (s:List UInt8) (hL:s.length<=1000000) (hn:s.length<n):qzj n s=some (q2f s):=by
 unfold qzj q2f
 have hg:=jdh 47 s
 obtain ⟨k,hk⟩ : ∃ k:Nat,q9m 47 s+1=(k:Int):=⟨(q9m 47 s+1).toNat,by omega⟩
 rw [qwb n s hL hn]
 simp only [Option.bind_some,q0b]
 rw [hk,wrap64 (by omega) (by omega),sub_le (by omega) (Nat.le_refl _)]
 simp only [Option.bind_some,Int.toNat_natCast]
 rw [List.take_of_length_le (by rw [List.length_drop];exact Nat.le_refl _)]
theorem jr5 (s:List UInt8):(q2i s).length<=s.length:=by unfold q2i;rw [List.length_take];omega
theorem jdu (s:List UInt8):(q2f s).length<=s.length:=by unfold q2f;rw [List.length_drop];omega
theorem jaw {s:List UInt8} (h:q1n s=true):q1m s=s.drop 1:=by
 unfold q1n at h
 simp only [Bool.and_eq_true,decide_eq_true_eq] at h
 unfold q1m;rw [if_pos h.1]
theorem qpv (n:Nat) (s:List UInt8) (hL:s.length<=1000000) (hn:s.length<n):qhg n s=some (qcr s):=by
 have hb:=jr5 s
 have hl:=jdu s
 have e1:qtj s=some (q2i s):=if_pos hL
 have e2:j30 (q2i s)=some (anyS (q2i s)):=if_pos (by omega)
 have e3:qw9 (q2f s)=some (numOf (q1m (q2f s)),qvy (q1m (q2f s))):=if_pos (by omega)
 have e4:j8k s=some (qbl s):=rfl
 unfold qhg qcr okS
 simp only [e1,e2,e3,e4,jg9 n s hL hn,qtw n (q2f s) (by omega),Option.bind_some]
 cases qbl s with
 | false=>rfl
 | true=>cases anyS (q2i s) with
  | true=>rfl
  | false=>cases ht:q1n (q2f s) with
   | false=>rfl
   | true =>
    rw [jaw ht]
    cases qvy ((q2f s).drop 1) with
    | false=>rfl
    | true =>
     by_cases h0:q2i s = []
     ·simp [h0]
     ·simp [h0]
theorem j0g (s:List UInt8):(qcr s).2.2=okS s:=by
 unfold qcr
 cases okS s with
 | false=>rfl
 | true=>cases q1n (q2f s)<;>rfl
theorem jbk (n:Nat) (s:List UInt8) (hL:s.length<=1000000) (hn:s.length<n):qp1 n s=some (okS s):=by
 unfold qp1
 rw [qpv n s hL hn,<-j0g];rfl
def qzf (p:List UInt8) (v:VD):Bool:=okS p&&(q0u v&&(if (qcr p).2.1=0 then decide (v.1<2) else decide (v.1=(qcr p).2.1)))
theorem jh3 (n:Nat) (s:List UInt8) (v:VD) (hL:s.length<=1000000) (hn:s.length<n) (h4:4<=n):qtd n s v=some (qzf s v):=by
 unfold qtd qzf
 rw [qpv n s hL hn]
 simp only [Option.bind_some,j0g,q4l n v h4]
 cases okS s with
 | false=>rfl
 | true=>cases q0u v with
  | false=>rfl
  | true =>
   by_cases h:(qcr s).2.1=0
   ·simp [h]
   ·simp [h]
theorem j9g (c:UInt8):qh6 c=((decide ((97:Int)<=((c.toNat:Nat):Int))&&decide (((c.toNat:Nat):Int)<=(122:Int)))||(decide ((65:Int)<=((c.toNat:Nat):Int))&&decide (((c.toNat:Nat):Int)<=(90:Int)))||(decide ((48:Int)<=((c.toNat:Nat):Int))&&decide (((c.toNat:Nat):Int)<=(57:Int)))||decide (((c.toNat:Nat):Int)=(45:Int))||decide (((c.toNat:Nat):Int)=(95:Int))||decide (((c.toNat:Nat):Int)=(46:Int))):=by
 unfold qh6
 have h6:decide (((c.toNat:Nat):Int)=(95:Int))=decide (c.toNat=95):=decide_eq_decide.2 (by omega)
 have h7:decide (((c.toNat:Nat):Int)=(46:Int))=decide (c.toNat=46):=decide_eq_decide.2 (by omega)
 rw [h6,h7,<-je7]
theorem qqw (n:Nat) (s:List UInt8) (hL:s.length<=1000000) : ∀m j:Nat,j<=s.length->s.length - j<m->q7x n m s (j:Int)=some (if (s.drop j).all qh6=true then Sum.inr ((s,()),((),())) else Sum.inl ((false,()),((),())))
 | 0,j,_,h=>absurd h (Nat.not_lt_zero _)
 | m+1,j,hj,h=>by
  rw [qk0]
  unfold qqy
  by_cases c0:j<s.length
  ·have c0':((j:Nat):Int)<((s.length:Nat):Int):=by omega
   have ih:=qqw n s hL m (j+1) (by omega) (by omega)
   have hd:s.drop j=s[j]::s.drop (j+1):=(List.drop_eq_getElem_cons c0)
   simp only [c0',decide_true,cond_true,q2z c0,Option.bind_some,q0b,q06 (show j<4611686018427387904 by omega),ih,hd,List.all_cons]
   rw [j9g]
   generalize (List.drop (j+1) s).all qh6=B
   generalize decide ((97:Int)<=((s[j].toNat:Nat):Int))=b1
   generalize decide (((s[j].toNat:Nat):Int)<=(122:Int))=b2
   generalize decide ((65:Int)<=((s[j].toNat:Nat):Int))=b3
   generalize decide (((s[j].toNat:Nat):Int)<=(90:Int))=b4
   generalize decide ((48:Int)<=((s[j].toNat:Nat):Int))=b5
   generalize decide (((s[j].toNat:Nat):Int)<=(57:Int))=b6
   generalize decide (((s[j].toNat:Nat):Int)=(45:Int))=b7
   generalize decide (((s[j].toNat:Nat):Int)=(95:Int))=b8
   generalize decide (((s[j].toNat:Nat):Int)=(46:Int))=b9
   cases b1<;>cases b2<;>cases b3<;>cases b4<;>cases b5<;>cases b6<;>cases b7<;>cases b8<;>cases b9<;>rfl
  ·have c0' : ¬ ((j:Nat):Int)<((s.length:Nat):Int):=by omega
   have:s.drop j = []:=List.drop_eq_nil_of_le (by omega)
   simp [c0',this]
theorem jc4 (n:Nat) (s:List UInt8) (hL:s.length<=1000000) (hn:s.length<n):qom n s=some (qcs s):=by
 unfold qom qcs
 have:=qqw n s hL n 0 (Nat.zero_le _) (by omega)
 rw [show ((0:Nat):Int)=(0:Int) from rfl] at this
 rw [this,List.drop_zero]
 cases s.all qh6 with
 | true =>
  simp only [if_true,Option.bind_some,Sum.elim_inr]
  cases decide (s = [])<;>cases decide (s = [46])<;>cases decide (s = [46,46])<;>rfl
 | false =>
  simp only [Bool.false_eq_true,if_false,Option.bind_some,Sum.elim_inl]
  cases decide (s = [])<;>cases decide (s = [46])<;>cases decide (s = [46,46])<;>rfl
theorem qqd (n:Nat) (l:List (List UInt8)) (hl:l.length<=1000000) (hw : ∀w∈l,w.length<=1000000/\w.length<n) : ∀m j:Nat,j<=l.length->l.length - j<m->q8d n m l (j:Int)=some (if (l.drop j).all qcs=true then Sum.inr ((),((),())) else Sum.inl ((false,()),((),())))
 | 0,j,_,h=>absurd h (Nat.not_lt_zero _)
 | m+1,j,hj,h=>by
  rw [qka]
  unfold qqn
  by_cases c0:j<l.length
  ·have c0':((j:Nat):Int)<((l.length:Nat):Int):=by omega
   have ih:=qqd n l hl hw m (j+1) (by omega) (by omega)
   have hd:l.drop j=l[j]::l.drop (j+1):=(List.drop_eq_getElem_cons c0)
   have hm:=hw l[j] (List.getElem_mem c0)
   simp only [c0',decide_true,cond_true,q1k c0,Option.bind_some,jc4 n l[j] hm.1 hm.2,q0b,q06 (show j<4611686018427387904 by omega),ih,hd,List.all_cons]
   cases qcs l[j]<;>simp
  ·have c0' : ¬ ((j:Nat):Int)<((l.length:Nat):Int):=by omega
   have:l.drop j = []:=List.drop_eq_nil_of_le (by omega)
   simp [c0',this]
theorem jaa (n:Nat) (s:List UInt8) (hL:s.length<=1000000) (hn:100<=n):qpb n s=some (qbl s):=by
 unfold qpb qbl
 by_cases h:s.length<=60
 ·have h' : ¬ (60:Int)<((s.length:Nat):Int):=by omega
  have hlen:=q4s 47 s []
  have hw : ∀w∈spl 47 [] s,w.length<=s.length:=fun w hm=>by have:=q4c 47 s [] w hm;simpa using this
  have:=qqd n (spl 47 [] s) (by omega) (fun w hm=>⟨by have:=hw w hm;omega,by have:=hw w hm;omega⟩) n 0 (Nat.zero_le _) (by omega)
  rw [show ((0:Nat):Int)=(0:Int) from rfl] at this
  simp only [h',decide_false,cond_false]
  rw [show (47:Int)=(((47:UInt8).toNat:Nat):Int) from rfl,q43 n s 47 hL (by omega)]
  simp only [Option.bind_some]
  rw [this,List.drop_zero]
  cases (spl 47 [] s).all qcs<;>simp [h]
 ·have h':(60:Int)<((s.length:Nat):Int):=by omega
  simp [h,h']
end Go.Proofs.YtcdjkibiggjdoaaGreatDoor.AM
