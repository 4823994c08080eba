
import Derived.Test.YtlmjgghohipipaaGreatDoorLc9
import Derived.Test.YtlmjgghohipipaaGreatDoorLc11
namespace Go.Proofs.YtlmjgghohipipaaGreatDoor.AM
open Go.RowKit
set_option linter.unusedVariables false
set_option maxRecDepth 20000
def qpa (n:Nat):List LC:=[]
def qlk (n:Nat) (a1:Int):Option (Bool) :=
 (bif decide ((97:Int)<=a1) then (bif decide (a1<=(122:Int)) then (bif decide (a1<=(122:Int)) then some true else (bif decide (a1=(45:Int)) then some true else (bif decide (a1=(95:Int)) then some true else some (decide (a1=(46:Int)))))) else (bif decide ((65:Int)<=a1) then (bif decide (a1<=(90:Int)) then (bif decide (a1<=(90:Int)) then some true else (bif decide (a1=(45:Int)) then some true else (bif decide (a1=(95:Int)) then some true else some (decide (a1=(46:Int)))))) else (bif decide ((48:Int)<=a1) then (bif decide (a1<=(57:Int)) then some true else (bif decide (a1=(45:Int)) then some true else (bif decide (a1=(95:Int)) then some true else some (decide (a1=(46:Int)))))) else (bif decide (a1=(45:Int)) then some true else (bif decide (a1=(95:Int)) then some true else some (decide (a1=(46:Int))))))) else (bif decide ((48:Int)<=a1) then (bif decide (a1<=(57:Int)) then some true else (bif decide (a1=(45:Int)) then some true else (bif decide (a1=(95:Int)) then some true else some (decide (a1=(46:Int)))))) else (bif decide (a1=(45:Int)) then some true else (bif decide (a1=(95:Int)) then some true else some (decide (a1=(46:Int)))))))) else (bif decide ((65:Int)<=a1) then (bif decide (a1<=(90:Int)) then (bif decide (a1<=(90:Int)) then some true else (bif decide (a1=(45:Int)) then some true else (bif decide (a1=(95:Int)) then some true else some (decide (a1=(46:Int)))))) else (bif decide ((48:Int)<=a1) then (bif decide (a1<=(57:Int)) then some true else (bif decide (a1=(45:Int)) then some true else (bif decide (a1=(95:Int)) then some true else some (decide (a1=(46:Int)))))) else (bif decide (a1=(45:Int)) then some true else (bif decide (a1=(95:Int)) then some true else some (decide (a1=(46:Int))))))) else (bif decide ((48:Int)<=a1) then (bif decide (a1<=(57:Int)) then some true else (bif decide (a1=(45:Int)) then some true else (bif decide (a1=(95:Int)) then some true else some (decide (a1=(46:Int)))))) else (bif decide (a1=(45:Int)) then some true else (bif decide (a1=(95:Int)) then some true else some (decide (a1=(46:Int))))))))
def q8s (n:Nat):FC:={ f:=142,args:=[.one (.c (.d (.int .u8)))],res:=.one (.c (.d .bool)),F:=fun p=>qlk n p }
def qws (n:Nat):List FC:=[]
theorem qy7 (n:Nat) {G:World->Prop} (hG:Know Inv G) : ∀c∈qws n,q1b Tryz.prog G c/\q0i c.args=true:=(fun _ h=>by cases h)
def qwr:q0f:=[]
theorem j70:drB qwr (q00 Tryz.f142)=true:=by kernel_rfl
theorem j5i (n:Nat) : ∀a,(q8s n).F a=main Tryz.prog 32 (qws n) (qpa n) qwr (q00 Tryz.f142) [.tmp 2] (q8s n).args (q8s n).res a:=by intro a;kernel_rfl
theorem j7l (n:Nat):q0d Inv Tryz.prog (q8s n):=fun G hG=>⟨⟨by kernel_rfl,fun a r h=>q06 (c:=q00 Tryz.f142) Tryz.func142 (by kernel_rfl) (by kernel_rfl) (Nat.le_of_ble_eq_true (by kernel_rfl)) hG.st (by kernel_rfl) (rs:=[.tmp 2]) (by kernel_rfl) (qy7 n hG) (lts:=qpa n) (fun F hF hFG=>have hK:Know Inv F.G:=hFG ▸ hG;(q07 fun j L h1 h2 h3=>absurd h2 (Nat.not_lt.2 (Nat.le_trans (by decide +kernel) h1)))) j70 ((j5i n a).symm.trans h)⟩,rfl⟩
@[reducible] def qag:SSt:=⟨[(0,.one (.c (.d .str))),(15,.one (.c (.d (.int .i64)))),(16,.one (.c (.d (.int .i64))))],[],[]⟩
@[reducible] def q4z:List (Exit×SSt):=[(.ret,⟨[(2,.one (.c (.d .bool)))],[],[]⟩),(.exit 0,⟨[],[],[]⟩)]
def qmi (n:Nat) (rec:(List UInt8)->Int->Int->Option (((Bool×(Unit))×(Unit)×(Unit))⊕((Unit)×(Unit)×(Unit)))) (a1:List UInt8) (a2:Int) (a3:Int):Option (((Bool×(Unit))×(Unit)×(Unit))⊕((Unit)×(Unit)×(Unit))) :=
 (bif decide (a3<a2) then (sAt a1 a3).bind fun (c1:Int)=>(qlk n c1).bind fun (r2:Bool)=>(bif !r2 then some (Sum.inl ((false,()),((),()))) else q2f (IntKind.wrap .i64 (a3+(1:Int))) fun (n3:Int)=>rec a1 a2 n3) else some (Sum.inr (((),((),())))))
def qlz (n:Nat) (rec:pSt qag->Option (q0t q4z)) (p:pSt qag):Option (q0t q4z):=qmi n (fun a1 a2 a3=>rec ((a1,(a2,(a3,()))),((),()))) p.1.1 p.1.2.1 p.1.2.2.1
def q56 (n m:Nat) (a1:List UInt8) (a2:Int) (a3:Int):Option (((Bool×(Unit))×(Unit)×(Unit))⊕((Unit)×(Unit)×(Unit))):=q10 (qlz n) m ((a1,(a2,(a3,()))),((),()))
theorem qcn (n m:Nat) (a1:List UInt8) (a2:Int) (a3:Int):q56 n (m+1) a1 a2 a3=qmi n (fun a1 a2 a3=>q56 n m a1 a2 a3) a1 a2 a3:=rfl
def qwf (n:Nat):LC:={ sh:=qag,outs:=q4z,F:=q10 (qlz n) n }
def qg6 (n:Nat):List LC:=[qwf n]
def qrq (n:Nat) (a1:List UInt8):Option (Bool) :=
 (bif decide (a1=([]:List UInt8)) then some false else (bif decide (a1=([46]:List UInt8)) then some false else (bif decide (a1=([46,46]:List UInt8)) then some false else (q56 n n a1 ((List.length a1:Nat):Int) (0:Int)).bind fun (o4:((Bool×(Unit))×(Unit)×(Unit))⊕((Unit)×(Unit)×(Unit)))=>Sum.elim (fun (q5:(Bool×(Unit))×(Unit)×(Unit))=>some q5.1.1) (fun (q6:(Unit)×(Unit)×(Unit))=>some true) o4)))
def qd1 (n:Nat):FC:={ f:=121,args:=[.one (.c (.d .str))],res:=.one (.c (.d .bool)),F:=fun p=>qrq n p }
def qml (n:Nat):List FC:=[q8s n]
theorem qj1 (n:Nat) {G:World->Prop} (hG:Know Inv G) : ∀c∈qml n,q1b Tryz.prog G c/\q0i c.args=true:=List.forall_mem_cons.2 ⟨j7l n G hG,(fun _ h=>by cases h)⟩
def qmh:q0f:=[]
theorem qw7:drB qmh (q00 Tryz.f121)=true:=by kernel_rfl
theorem j1f (n:Nat) : ∀rec p,qlz n rec p=round Tryz.prog 25 (qml n) (qg6 n) qmh 1 qag q4z (q03 0 0 (q00 Tryz.f121)) rec p:=by intro rec p;kernel_rfl
theorem qz9 (n:Nat) {F:Fr} (hF:F.n=25) (hK:Know Inv F.G):qk3 Tryz.prog F (qwf n) (q03 0 0 (q00 Tryz.f121)) :=
 q1a hF (by kernel_rfl) (qj1 n hK) (j1f n) (fuel:=n) (fun _=>rfl) (q07 fun j L h1 h2 h3=>absurd h2 (Nat.not_lt.2 (Nat.le_trans (by decide +kernel) h1))) (q2t qw7)
theorem j6g (n:Nat) : ∀a,(qd1 n).F a=main Tryz.prog 25 (qml n) (qg6 n) qmh (q00 Tryz.f121) [.tmp 2] (qd1 n).args (qd1 n).res a:=by intro a;kernel_rfl
theorem j72 (n:Nat):q0d Inv Tryz.prog (qd1 n):=fun G hG=>⟨⟨by kernel_rfl,fun a r h=>q06 (c:=q00 Tryz.f121) Tryz.func121 (by kernel_rfl) (by kernel_rfl) (Nat.le_of_ble_eq_true (by kernel_rfl)) hG.st (by kernel_rfl) (rs:=[.tmp 2]) (by kernel_rfl) (qj1 n hG) (lts:=qg6 n) (fun F hF hFG=>have hK:Know Inv F.G:=hFG ▸ hG;(q07 (c:=(q00 Tryz.f121)) (fun j L h1 h2 h3=>by
  have h2':j<1:=Nat.lt_of_lt_of_le h2 (by decide +kernel)
  match j,h1,h2',h3 with
  | 0,_,_,h3=>obtain rfl:=Option.some.inj h3;exact (show q03 0 0 (q00 Tryz.f121)=q03 0 0 (q00 Tryz.f121) by kernel_rfl) ▸ qz9 n hF hK
  | j+1,_,h2',_=>exact absurd h2' (by omega)))) qw7 ((j6g n a).symm.trans h)⟩,rfl⟩
end Go.Proofs.YtlmjgghohipipaaGreatDoor.AM
namespace Go.Proofs.YtlmjgghohipipaaGreatDoor.AM
open Go.RowKit
set_option linter.unusedVariables false
set_option linter.unusedSimpArgs false
theorem qyg (n:Nat) (c:UInt8):qlk n ((c.toNat:Nat):Int)=some (qmf c):=by
 have h : ∀k:Fin 256,qlk 0 ((k.val:Nat):Int)=some (qmf (UInt8.ofNat k.val)):=by decide +kernel
 have h1:=h ⟨c.toNat,c.toNat_lt⟩
 have e:UInt8.ofNat c.toNat=c:=by simp
 rw [e] at h1
 exact h1
theorem qj9 (n:Nat) (s:List UInt8) (hL:s.length<=2000000) : ∀m j:Nat,j<=s.length->s.length - j<m->q56 n m s ((s.length:Nat):Int) (j:Int)=some (if (s.drop j).all qmf=true then Sum.inr ((),((),())) else Sum.inl ((false,()),((),())))
 | 0,j,_,h=>absurd h (Nat.not_lt_zero _)
 | m+1,j,hj,h=>by
  rw [qcn]
  unfold qmi
  by_cases c0:j<s.length
  ·have c0':((j:Nat):Int)<((s.length:Nat):Int):=by omega
   have ih:=qj9 n s hL m (j+1) (by omega) (by omega)
   have hd:s.drop j=s[j]::s.drop (j+1):=(List.drop_eq_getElem_cons c0)
   simp only [c0',decide_true,cond_true,qe0 c0,Option.bind_some,qyg,q2f,q12 (show j<4611686018427387904 by omega),ih,hd,List.all_cons]
   cases qmf s[j]<;>simp
  ·have c0' : ¬ ((j:Nat):Int)<((s.length:Nat):Int):=by omega
   have:s.drop j = []:=List.drop_eq_nil_of_le (by omega)
   simp [c0',this]
theorem qyf (n:Nat) (s:List UInt8) (hL:s.length<=2000000) (hn:s.length<n):qrq n s=some (qe9 s):=by
 unfold qrq qe9
 have:=qj9 n s hL n 0 (Nat.zero_le _) (by omega)
 rw [show ((0:Nat):Int)=(0:Int) from rfl] at this
 rw [this,List.drop_zero]
 cases decide (s = [])<;>cases decide (s = [46])<;>cases decide (s = [46,46])<;>cases s.all qmf<;>rfl
end Go.Proofs.YtlmjgghohipipaaGreatDoor.AM
namespace Go.Proofs.YtlmjgghohipipaaGreatDoor.AM
open Go.RowKit
set_option linter.unusedVariables false
set_option linter.unusedSimpArgs false
theorem ql6 (s:List UInt8) (j:Nat) (h:j<s.length):(s.take (j+1)).reverse=s[j]::(s.take j).reverse:=by
 rw [List.take_succ_eq_append_getElem h];simp
theorem qjo (n:Nat) (c:UInt8) (s:List UInt8) (hL:s.length<=2000000) : ∀m j:Nat,j<=s.length->j<m->q5d n m s ((c.toNat:Nat):Int) ((j:Int) - 1)=some (if qfk c (s.take j).reverse = -1 then Sum.inr ((),((),())) else Sum.inl ((qfk c (s.take j).reverse,()),((),())))
 | 0,j,_,h=>absurd h (Nat.not_lt_zero _)
 | m+1,0,_,_=>by
  rw [q5v]
  unfold qd5
  simp [qfk]
 | m+1,j+1,hj,h=>by
  rw [q5v]
  unfold qd5
  have e1:((j+1:Nat):Int) - 1=((j:Nat):Int):=by omega
  have ih:=qjo n c s hL m j (by omega) (by omega)
  have w1:IntKind.wrap .i64 (((j:Nat):Int) - 1)=((j:Nat):Int) - 1:=wrap64 (by omega) (by omega)
  have c0:(0:Int)<=((j:Nat):Int):=by omega
  have d1:decide (((s[j].toNat:Nat):Int)=((c.toNat:Nat):Int))=decide (s[j]=c):=decide_eq_decide.2 ⟨fun h=>UInt8.toNat_inj.1 (by omega),fun h=>by rw [h]⟩
  rw [e1]
  simp only [c0,decide_true,cond_true,qe0 (show j<s.length by omega),Option.bind_some,d1,q2f,w1,ih,ql6 s j (by omega),qfk]
  by_cases h0:s[j]=c
  ·have : ¬ (((s.take j).reverse.length:Nat):Int) = -1:=by omega
   have l1:(s.take j).reverse.length=j:=by simp;omega
   simp only [h0,decide_true,cond_true,if_true,this,if_false,l1]
   rw [if_neg (by omega)]
  ·simp [h0]
theorem qxv (n:Nat) (c:UInt8) (s:List UInt8) (hL:s.length<=2000000) (hn:s.length<n):qk9 n s ((c.toNat:Nat):Int)=some (q7q c s):=by
 unfold qk9
 have:=qjo n c s hL n s.length (Nat.le_refl _) hn
 have w1:IntKind.wrap .i64 (((s.length:Nat):Int) - 1)=((s.length:Nat):Int) - 1:=wrap64 (by omega) (by omega)
 simp only [q2f,w1,this,List.take_length]
 unfold q7q
 by_cases h:qfk c s.reverse = -1
 ·simp [h]
 ·simp [h]
theorem qip (n:Nat) (s:List UInt8) (hL:s.length<=2000000) (hn:s.length<n):qkp n s (47:Int)=some (q7q 47 s):=by
 unfold qkp
 rw [show (47:Int)=(((47:UInt8).toNat:Nat):Int) from rfl,qxv n 47 s hL hn];rfl
theorem qsy (n:Nat) (s:List UInt8) (hs:s.length<=2000000):q11 n s [118]=some (if s.head? = some 118 then (s.drop 1,true) else (s,false)):=by
 unfold q11 q2u q0x
 cases s with
 | nil=>rfl
 | cons b r =>
  have h1:((List.length ([118]:List UInt8):Nat):Int)<=((List.length (b::r):Nat):Int):=by simp;omega
  have h2:q5y (b::r) (0:Int) ((List.length ([118]:List UInt8):Nat):Int)=some [b]:=sub_zero (b:=1) (by simp)
  have h3:q5y (b::r) ((List.length ([118]:List UInt8):Nat):Int) ((List.length (b::r):Nat):Int)=some r:=by
   have:=sub_le (l:=b::r) (a:=1) (b:=(b::r).length) (by simp) (Nat.le_refl _)
   rw [show ((List.length ([118]:List UInt8):Nat):Int)=((1:Nat):Int) from rfl,this]
   simp
  simp only [h1,decide_true,cond_true,h2,Option.bind_some,List.head?_cons,Option.some.injEq,List.drop_succ_cons,List.drop_zero]
  by_cases hb:b=118
  ·simp only [hb,decide_true,cond_true,if_true,Bool.not_true,cond_false] at h3 ⊢
   rw [h3];rfl
  ·have : ¬ [b]=([118]:List UInt8):=fun h=>hb (by simpa using h)
   simp [this,hb]
theorem qhe (n:Nat) (s:List UInt8) (hs:s.length<=2000000):q9u n s=some (q31 s):=by
 unfold q9u q31 qa5
 rw [qsy n s hs]
 by_cases h:s.head? = some 118
 ·have hl:(s.drop 1).length<=2000000:=by rw [List.length_drop];omega
  have ht:qf3 (s.drop 1) qx7=some (Lib.trimS (s.drop 1) qx7):=if_pos ⟨rfl,hl⟩
  simp only [h,if_true,Option.bind_some,cond_true,ht,j4z,decide_true,Bool.true_and]
  cases decide (s.drop 1 = [])<;>cases (s.drop 1).all q23<;>rfl
 ·simp [h]
end Go.Proofs.YtlmjgghohipipaaGreatDoor.AM
namespace Go.Proofs
open Go.RowKit Go.Shelf Go.Lib
attribute [local go_sem] Oper.semAt_some
set_option linter.unusedVariables false
set_option linter.unusedSimpArgs false
namespace YtlmjgghohipipaaGreatDoor.AM
theorem j74 (x:List UInt8) (w:World) (hI:Inv w) (hx:x.length<=2000000):Calls Tryz.prog 121 #[.string (ba x)] w fun e w'=>e = .returned (.bool (qe9 x))/\Below w.heap.size w w':=by
 have h:=(j72 2000001 Inv q34).1.2 x (qe9 x) (qyf 2000001 x (by omega) (by omega))
 refine (h (fun _ _=>False) w #[.string (ba x)] hI (fun b o h=>h.elim) ⟨q02 _,trivial⟩).mono ?_
 rintro e w' ⟨v,Pc,rfl,hb,_,_,hv⟩
 have hv':v = .bool (qe9 x):=q05 hv
 rw [hv']
 exact ⟨rfl,hb⟩
set_option maxHeartbeats 2000000 in
theorem qsg (s:List UInt8) (w:World) (hI:Inv w):Calls Tryz.prog 99 #[.string (ba s)] w fun e w'=>e = .returned (.bool (q9w s))/\Below w.heap.size w w':=by
 refine (callsIn_wide (n:=9)).1 ?_
 refine callsIn_of_wp_marks Tryz.func99 rfl trivial ?_ rfl
 simp only [Tryz.ntmps99,List.size_toArray,List.length_cons,List.length_nil,Nat.reduceAdd,Nat.reduceSub,Array.replicate_succ,Array.replicate_zero,List.push_toArray,List.append_toArray,List.nil_append,List.cons_append]
 have hsz:(ba s).size=s.length:=q0p s
 by_cases h2:s.length<=60
 ·skip
  gi_wp2_with (refine ⟨trivial,?_⟩;gi_at_call 103;refine (callsIn_wide.2 (q2j _ _ _)).mono ?_;rintro e w' ⟨rfl,rfl⟩)
  obtain ⟨W0,hW0,hs0,hb0,g0,g1,g2,g3⟩:=four w (Obj.cells #[Value.bool false] 4) (Obj.cells #[Value.string (ba s)] 9) (Obj.cells #[Value.string { data:=#[47] }] 9) (Obj.cells #[Value.int IntKind.i64 0] 3)
  rw [hW0]
  clear hW0
  obtain ⟨c1,f1⟩:=q0h g0
  obtain ⟨c2,f2⟩:=q0h g1
  obtain ⟨c3,f3⟩:=q0h g2
  obtain ⟨c4,f4⟩:=q0h g3
  refine range_split (n:=9) (by omega) 47 (w.heap.size+1) (w.heap.size+1+1) (w.heap.size+1+2) s (by omega) rfl ⟨c2,f2⟩
   (Rng (.string (ba [47])) (w.heap.size+1+1) w.heap.size (w.heap.size+1+1) (w.heap.size+1+2) 47 w qe9) (RngX w.heap.size w qe9) (qlc (by omega)) (qmq (by omega))
   (fun pre W h=>⟨h.cP,h.cC,(hI.below h.below).maxLen⟩) (fun pre W v h=>qms v h (by omega) (by omega) (by omega) (by omega) (by omega)) ⟨c3,c1,f1,c3,c4,hb0,rfl⟩
   (fun x=>{ tmps:=#[.string (ba s),undef,.pointer (some ⟨w.heap.size,0,none⟩),.string (ba x),.string (ba s),.int .i64 s.length,.bool (decide ((60:Int)<s.length)),.string (ba s),.func (.func 150) #[] #[.pointer (some ⟨w.heap.size+1+1,0,none⟩),.pointer (some ⟨w.heap.size+1,0,none⟩),.pointer (some ⟨w.heap.size+1+2,0,none⟩)],.string (ba x),undef,undef,undef],defers:=[] }) ?assign ?body ?done ?stop
  case assign =>
   intro l x W K hK
   gi_wp2
   exact hK
  case body =>
   intro l pre x r W hi hL hx
   have k1:=hi.res
   have k2:=hi.frz
   have hc:=j74 x W (hI.below hi.below) (by omega)
   cases hpx:qe9 x with
   | true =>
    rw [hpx] at hc
    gi_wp2_with (refine ⟨trivial,?_⟩;gi_at_call 121;refine (CallsIn.inRound l (callsIn_wide.2 hc)).mono ?_;rintro e w' ⟨rfl,hb'⟩)
    exact ⟨q18 hb',q8y hi hb' (by simp [hpx]),q71 hL hb'⟩
   | false =>
    rw [hpx] at hc
    gi_wp2_with (refine ⟨trivial,?_⟩;gi_at_call 121;refine (CallsIn.inRound l (callsIn_wide.2 hc)).mono ?_;rintro e w' ⟨rfl,hb'⟩;have k3:=q1d hb' hi.res;have k4:=(q1w hb' hi.res).trans hi.frz)
    exact ⟨(q18 hb').trans (KeepsOthers.setCell _ _ _),World.cell?_setCell_same' _ _ _ (by rw [k3];rfl),(hi.below.trans (hb'.mono hi.below.size)).setCell (by simp) _,by simp [hpx]⟩
  case done =>
   intro D W hD hi hK
   have k1:=hi.res
   have k2:=hi.frz
   gi_wp2
   have hK':=(KeepsOthers.setCell W ⟨w.heap.size,0,none⟩ (.bool true)).same D _ hK rfl
   have hW':Below w.heap.size w (W.setCell ⟨w.heap.size,0,none⟩ (.bool true)):=hi.below.setCell (by simp) _
   have k5:(W.setCell ⟨w.heap.size,0,none⟩ (.bool true)).cell? ⟨w.heap.size,0,none⟩=some (.bool true):=World.cell?_setCell_same' _ _ _ (by rw [k1];rfl)
   generalize W.setCell ⟨w.heap.size,0,none⟩ (.bool true)=W2 at hK' hW' k5
   refine ⟨by simp,.inl ⟨_,_,rfl,run_takeDeferred hK',?_⟩⟩
   have hg:=grownBy_putObj' W2 D (.deferred none)
   refine ⟨_,q1f (b:=w.heap.size) (v:=.bool true) rfl rfl hag (cell_kept k5 hg (fun r e=>by cases e;exact ⟨_,hK',rfl⟩)),?_,?_⟩
   ·have ha:=hi.all
    unfold q9w;simp [h2,ha]
   ·exact hW'.grown hg hW'.size (fun k e=>by cases e;omega)
  case stop =>
   intro D pre x t W hD hsp hi hK
   refine ⟨by simp,.inl ⟨_,_,rfl,run_takeDeferred hK,?_⟩⟩
   have hg:=grownBy_putObj' W D (.deferred none)
   refine ⟨_,q1f (b:=w.heap.size) (v:=.bool false) rfl rfl hag (cell_kept hi.res hg (fun r e=>by cases e;exact ⟨_,hK,rfl⟩)),?_,?_⟩
   ·have ha:=qwq hsp hi.no
    unfold q9w;simp [ha]
   ·exact hi.below.grown hg hi.below.size (fun k e=>by cases e;omega)
 ·gi_wp2
  refine ⟨_,q1f (b:=w.heap.size) (v:=.bool false) rfl rfl hag (by simp),?_,?_⟩
  ·unfold q9w;simp [h2]
  ·exact (Below.refl _ w).alloc (Nat.le_refl _) _
def qkg (s:List UInt8):Option Bool:=some (q9w s)
def quv:FC:={ f:=99,args:=[qhk],res:=j5q,F:=fun p=>qkg p }
theorem j5f:q0d Inv Tryz.prog quv:=fun G hG=>⟨⟨by kernel_rfl,fun (s:List UInt8) r h=>by
 have hr:q9w s=r:=Option.some.inj h
 intro Pc w vs hg hlt hv
 obtain ⟨l⟩:=vs
 match l,hv with
 | [x],⟨h1,_⟩ =>
  obtain rfl:x = .string (ba s):=q05 h1
  refine (qsg s w (hG.im w hg)).mono ?_
  rintro e w' ⟨rfl,hb⟩
  subst hr
  exact q2x rfl hb (q02 _)⟩,rfl⟩
end YtlmjgghohipipaaGreatDoor.AM
end Go.Proofs
namespace Go.Proofs
open Go.RowKit Go.Shelf Go.Lib
attribute [local go_sem] Oper.semAt_some
set_option linter.unusedVariables false
set_option linter.unusedSimpArgs false
namespace YtlmjgghohipipaaGreatDoor.AM
theorem j2f (x:List UInt8) (w:World) (hI:Inv w) (hx:x.length<=1000000):Calls Tryz.prog 101 #[.string (ba x)] w fun e w'=>e = .returned (.bool (q31 x))/\Below w.heap.size w w':=by
 have h:=(qn3 1000001 Inv q34).1.2 x (q31 x) (qhe 1000001 x (by omega))
 refine (h (fun _ _=>False) w #[.string (ba x)] hI (fun b o h=>h.elim) ⟨q02 _,trivial⟩).mono ?_
 rintro e w' ⟨v,Pc,rfl,hb,_,_,hv⟩
 have hv':v = .bool (q31 x):=q05 hv
 rw [hv']
 exact ⟨rfl,hb⟩
set_option maxHeartbeats 2000000 in
theorem qyr (s:List UInt8) (w:World) (hI:Inv w) (h2:s.length<=1000000):Calls Tryz.prog 100 #[.string (ba s)] w fun e w'=>e = .returned (.bool (anyS s))/\Below w.heap.size w w':=by
 refine (callsIn_wide (n:=9)).1 ?_
 refine callsIn_of_wp_marks Tryz.func100 rfl trivial ?_ rfl
 simp only [Tryz.ntmps100,List.size_toArray,List.length_cons,List.length_nil,Nat.reduceAdd,Nat.reduceSub,Array.replicate_succ,Array.replicate_zero,List.push_toArray,List.append_toArray,List.nil_append,List.cons_append]
 have hsz:(ba s).size=s.length:=q0p s
 have key:anyS s = !((spl 47 [] s).all fun x=>!q31 x):=by unfold anyS;rw [List.any_eq_not_all_not]
 ·skip
  gi_wp2_with (refine ⟨trivial,?_⟩;gi_at_call 103;refine (callsIn_wide.2 (q2j _ _ _)).mono ?_;rintro e w' ⟨rfl,rfl⟩)
  obtain ⟨W0,hW0,hs0,hb0,g0,g1,g2,g3⟩:=four w (Obj.cells #[Value.bool false] 4) (Obj.cells #[Value.string (ba s)] 9) (Obj.cells #[Value.string { data:=#[47] }] 9) (Obj.cells #[Value.int IntKind.i64 0] 3)
  rw [hW0]
  clear hW0
  obtain ⟨c1,f1⟩:=q0h g0
  obtain ⟨c2,f2⟩:=q0h g1
  obtain ⟨c3,f3⟩:=q0h g2
  obtain ⟨c4,f4⟩:=q0h g3
  refine range_split (n:=9) (by omega) 47 (w.heap.size+1) (w.heap.size+1+1) (w.heap.size+1+2) s (by omega) rfl ⟨c2,f2⟩
   (Rng (.string (ba [47])) (w.heap.size+1+1) w.heap.size (w.heap.size+1+1) (w.heap.size+1+2) 47 w (fun x=>!q31 x)) (RngY w.heap.size w (fun x=>!q31 x)) (qlc (by omega)) (j5k (by omega))
   (fun pre W h=>⟨h.cP,h.cC,(hI.below h.below).maxLen⟩) (fun pre W v h=>qms v h (by omega) (by omega) (by omega) (by omega) (by omega)) ⟨c3,c1,f1,c3,c4,hb0,rfl⟩
   (fun x=>{ tmps:=#[.string (ba s),undef,.pointer (some ⟨w.heap.size,0,none⟩),.string (ba x),.string (ba s),.func (.func 150) #[] #[.pointer (some ⟨w.heap.size+1+1,0,none⟩),.pointer (some ⟨w.heap.size+1,0,none⟩),.pointer (some ⟨w.heap.size+1+2,0,none⟩)],.string (ba x),undef,undef],defers:=[] }) ?assign ?body ?done ?stop
  case assign =>
   intro l x W K hK
   gi_wp2
   exact hK
  case body =>
   intro l pre x r W hi hL hx
   have k1:=hi.res
   have k2:=hi.frz
   have hc:=j2f x W (hI.below hi.below) (by omega)
   cases hpx:q31 x with
   | false =>
    rw [hpx] at hc
    gi_wp2_with (refine ⟨trivial,?_⟩;gi_at_call 101;refine (CallsIn.inRound l (callsIn_wide.2 hc)).mono ?_;rintro e w' ⟨rfl,hb'⟩)
    exact ⟨q18 hb',q8y hi hb' (by simp [hpx]),q71 hL hb'⟩
   | true =>
    rw [hpx] at hc
    gi_wp2_with (refine ⟨trivial,?_⟩;gi_at_call 101;refine (CallsIn.inRound l (callsIn_wide.2 hc)).mono ?_;rintro e w' ⟨rfl,hb'⟩;have k3:=q1d hb' hi.res;have k4:=(q1w hb' hi.res).trans hi.frz)
    exact ⟨(q18 hb').trans (KeepsOthers.setCell _ _ _),World.cell?_setCell_same' _ _ _ (by rw [k3];rfl),(hi.below.trans (hb'.mono hi.below.size)).setCell (by simp) _,by simp [hpx]⟩
  case done =>
   intro D W hD hi hK
   have k1:=hi.res
   have k2:=hi.frz
   gi_wp2
   have hK':=(KeepsOthers.setCell W ⟨w.heap.size,0,none⟩ (.bool false)).same D _ hK rfl
   have hW':Below w.heap.size w (W.setCell ⟨w.heap.size,0,none⟩ (.bool false)):=hi.below.setCell (by simp) _
   have k5:(W.setCell ⟨w.heap.size,0,none⟩ (.bool false)).cell? ⟨w.heap.size,0,none⟩=some (.bool false):=World.cell?_setCell_same' _ _ _ (by rw [k1];rfl)
   generalize W.setCell ⟨w.heap.size,0,none⟩ (.bool false)=W2 at hK' hW' k5
   refine ⟨by simp,.inl ⟨_,_,rfl,run_takeDeferred hK',?_⟩⟩
   have hg:=grownBy_putObj' W2 D (.deferred none)
   refine ⟨_,q1f (b:=w.heap.size) (v:=.bool false) rfl rfl hag (cell_kept k5 hg (fun r e=>by cases e;exact ⟨_,hK',rfl⟩)),?_,?_⟩
   ·have ha:=hi.all
    rw [key,ha];rfl
   ·exact hW'.grown hg hW'.size (fun k e=>by cases e;omega)
  case stop =>
   intro D pre x t W hD hsp hi hK
   refine ⟨by simp,.inl ⟨_,_,rfl,run_takeDeferred hK,?_⟩⟩
   have hg:=grownBy_putObj' W D (.deferred none)
   refine ⟨_,q1f (b:=w.heap.size) (v:=.bool true) rfl rfl hag (cell_kept hi.res hg (fun r e=>by cases e;exact ⟨_,hK,rfl⟩)),?_,?_⟩
   ·have ha:=qwq hsp hi.no
    rw [key,ha];rfl
   ·exact hi.below.grown hg hi.below.size (fun k e=>by cases e;omega)
theorem j1c (s:List UInt8) (b:Nat):(ba s).extract 0 b=ba (s.take b):=by
 rw [<-j0y ((ba s).extract 0 b)]
 congr 1
 unfold unB ba
 rw [ByteArray.data_extract]
 simp
theorem j3f (x:List UInt8) (w:World) (hI:Inv w) (hx:x.length<=2000000):Calls Tryz.prog 120 #[.string (ba x),.int .u8 47] w fun e w'=>e = .returned (.int .i64 (q7q 47 x))/\Below w.heap.size w w':=by
 have h:=(qwg 2000001 Inv q34).1.2 (x,(47:Int)) (q7q 47 x) (qip 2000001 x (by omega) (by omega))
 refine (h (fun _ _=>False) w #[.string (ba x),.int .u8 47] hI (fun b o h=>h.elim) ⟨q02 _,q02 _,trivial⟩).mono ?_
 rintro e w' ⟨v,Pc,rfl,hb,_,_,hv⟩
 have hv':v = .int .i64 (q7q 47 x):=q05 hv
 rw [hv']
 exact ⟨rfl,hb⟩
theorem qsr (s:List UInt8) (w:World) (hI:Inv w) (hs:s.length<=2000000):Calls Tryz.prog 97 #[.string (ba s)] w fun e w'=>e = .returned (.string (ba (q6m s)))/\Below w.heap.size w w':=by
 have hl:=qw6 47 s
 have hsz:(ba s).size=s.length:=q0p s
 have hc:=j3f s w hI hs
 go_enter Tryz.func97,Tryz.ntmps97
 by_cases h0:q7q 47 s = -1
 ·rw [h0] at hc
  go_wp2_with (go_at_call 120;refine hc.mono ?_)
  rintro e w' ⟨rfl,hb⟩
  go_wp2
  go_ret
  refine ⟨?_,hb⟩
  show Ending.returned (.string ((ba s).extract 0 (max 0 (-1:Int)).toNat))=_
  rw [j1c];unfold q6m;rw [h0];rfl
 ·obtain ⟨k,hk⟩ : ∃ k:Nat,q7q 47 s=(k:Int):=⟨(q7q 47 s).toNat,by omega⟩
  rw [hk] at hc
  go_wp2_with (go_at_call 120;refine hc.mono ?_)
  rintro e w' ⟨rfl,hb⟩
  go_wp2
  go_ret
  refine ⟨?_,hb⟩
  show Ending.returned (.string ((ba s).extract 0 (max 0 (k:Int)).toNat))=_
  rw [j1c];unfold q6m;rw [hk,Int.max_eq_right (by omega)]
theorem j7m (x:List UInt8) (w:World) (hI:Inv w) (hx:x.length<=1000000):Calls Tryz.prog 72 #[.string (ba x),.string (ba [118])] w fun e w'=>e = .returned (.string (ba (q0o x)))/\Below w.heap.size w w':=by
 have h:=(q9q 100 Inv q34).1.2 (x,([118]:List UInt8)) (q0o x) (qqw 100 x (by omega))
 refine (h (fun _ _=>False) w #[.string (ba x),.string (ba [118])] hI (fun b o h=>h.elim) ⟨q02 _,q02 _,trivial⟩).mono ?_
 rintro e w' ⟨v,Pc,rfl,hb,_,_,hv⟩
 have hv':v = .string (ba (q0o x)):=q05 hv
 rw [hv']
 exact ⟨rfl,hb⟩
theorem j30 (n:Int) (w:World) (hI:Inv w) (h0:2<=n) (h1:n<=999999999):Calls Tryz.prog 94 #[.int .i64 n] w fun e w'=>e = .returned (.string (ba (Lib.itoa n)))/\Below w.heap.size w w':=by
 refine (Any.strconv_Itoa Tryz.laysItoa n (by omega) (by omega) w hI.tab).mono ?_
 rintro e w' ⟨rfl,k,os,rfl⟩
 exact ⟨rfl,Lib.below_grow _ w (Nat.le_refl _) k os⟩
set_option maxHeartbeats 2000000 in
theorem qxn (s:List UInt8) (w:World) (hI:Inv w) (hs:s.length<=1000000):Calls Tryz.prog 102 #[.string (ba s)] w fun e w'=>e = .returned (.tuple #[.int .i64 (numOf (q0o s)),.bool (qz7 (q0o s))])/\Below w.heap.size w w':=by
 have hc:=j7m s w hI hs
 have hl:=qoe s
 go_enter Tryz.func102,Tryz.ntmps102
 go_wp2_with (go_at_call 72;refine hc.mono ?_)
 rintro e w1 ⟨rfl,hb1⟩
 clear hc
 have hI1:=hI.below hb1
 have e1:(ba (q0o s)).data.toList=q0o s:=by simp [ba]
 have hl':(ba (q0o s)).size<=281474976710656:=by rw [q0p];omega
 obtain ⟨ts,ps,hsy⟩:=hI1.syn
 obtain ⟨tr,pr,hrg⟩:=hI1.rng
 cases h:Lib.atoiAll (q0o s) with
 | ok v =>
  go_wp2_with (go_at_call 93;refine (Any.strconv_Atoi_ok Tryz.laysAtoi (ba (q0o s)) (by omega) v (by rw [e1];exact h) w1).mono ?_)
  rintro e w2 ⟨rfl,hw⟩
  have hb2:Below w1.heap.size w1 w2:=by
   rcases hw with rfl|⟨t,rfl⟩
   ·exact Below.refl _ _
   ·exact Lib.bytesWorld_below _ _ _
  clear hw
  have hb:Below w.heap.size w w2:=hb1.trans (hb2.mono hb1.size)
  by_cases h2:2<=v
  ·by_cases h3:v<=999999999
   ·have hi:=j30 v w2 (hI.below hb) h2 h3
    go_wp2_with (go_at_call 94;refine hi.mono ?_)
    rintro e w3 ⟨rfl,hb3⟩
    go_wp2
    go_ret2
    refine ⟨?_,hb.trans (hb3.mono hb.size)⟩
    unfold numOf qz7;rw [h]
    simp [h2,h3,q4p]
    rw [Bool.eq_iff_iff];simp
   ·go_wp2
    go_ret2
    refine ⟨?_,hb⟩
    unfold numOf qz7;rw [h]
    simp [h2,show ¬ v<=999999999 from by omega]
  ·go_wp2
   go_ret2
   refine ⟨?_,hb⟩
   unfold numOf qz7;rw [h]
   simp [show ¬ 2<=v from by omega]
 | «syntax» =>
  go_wp2_with (go_at_call 93;refine (Any.strconv_Atoi_syntax Tryz.laysAtoi (ba (q0o s)) hl' (by rw [e1];exact h) _ w1 hsy (Or.inr ⟨_,_,rfl⟩)).mono ?_)
  rintro e w2 ⟨N,rfl,hN,hc,hb2⟩
  go_wp2
  go_ret2
  refine ⟨?_,hb1.trans (hb2.mono hb1.size)⟩
  unfold numOf qz7;rw [h];rfl
 | range =>
  go_wp2_with (go_at_call 93;refine (Any.strconv_Atoi_range Tryz.laysAtoi (ba (q0o s)) hl' (by rw [e1];exact h) _ w1 hrg (Or.inr ⟨_,_,rfl⟩)).mono ?_)
  rintro e w2 ⟨N,rfl,hN,hc,hb2⟩
  rw [e1]
  go_wp2
  go_ret2
  refine ⟨?_,hb1.trans (hb2.mono hb1.size)⟩
  unfold numOf qz7;rw [h];rfl
def qpj (s:List UInt8):Option Bool:=if s.length<=1000000 then some (anyS s) else none
def j4a:FC:={ f:=100,args:=[qhk],res:=j5q,F:=fun p=>qpj p }
theorem jan:q0d Inv Tryz.prog j4a:=fun G hG=>⟨⟨by kernel_rfl,fun (s:List UInt8) r h=>by
 have h':qpj s=some r:=h
 unfold qpj at h'
 split at h'
 case isFalse=>cases h'
 rename_i hc
 have hr:anyS s=r:=Option.some.inj h'
 intro Pc w vs hg hlt hv
 obtain ⟨l⟩:=vs
 match l,hv with
 | [x],⟨h1,_⟩ =>
  obtain rfl:x = .string (ba s):=q05 h1
  refine (qyr s w (hG.im w hg) hc).mono ?_
  rintro e w' ⟨rfl,hb⟩
  subst hr
  exact q2x rfl hb (q02 _)⟩,rfl⟩
def qay (s:List UInt8):Option (List UInt8):=if s.length<=2000000 then some (q6m s) else none
def qw8:FC:={ f:=97,args:=[qhk],res:=qhk,F:=fun p=>qay p }
theorem j6p:q0d Inv Tryz.prog qw8:=fun G hG=>⟨⟨by kernel_rfl,fun (s:List UInt8) r h=>by
 have h':qay s=some r:=h
 unfold qay at h'
 split at h'
 case isFalse=>cases h'
 rename_i hc
 have hr:q6m s=r:=Option.some.inj h'
 intro Pc w vs hg hlt hv
 obtain ⟨l⟩:=vs
 match l,hv with
 | [x],⟨h1,_⟩ =>
  obtain rfl:x = .string (ba s):=q05 h1
  refine (qsr s w (hG.im w hg) hc).mono ?_
  rintro e w' ⟨rfl,hb⟩
  subst hr
  exact q2x rfl hb (q02 (.string (ba (q6m s))))⟩,rfl⟩
def qjg (s:List UInt8):Option (Int×Bool):=if s.length<=1000000 then some (numOf (q0o s),qz7 (q0o s)) else none
def j1t:FC:={ f:=102,args:=[qhk],res:=.tup [.c (.d (.int .i64)),.c (.d .bool)],F:=fun p=>qjg p }
theorem jaj:q0d Inv Tryz.prog j1t:=fun G hG=>⟨⟨by kernel_rfl,fun (s:List UInt8) (r:Int×Bool) h=>by
 have h':qjg s=some r:=h
 unfold qjg at h'
 split at h'
 case isFalse=>cases h'
 rename_i hc
 have hr:(numOf (q0o s),qz7 (q0o s))=r:=Option.some.inj h'
 intro Pc w vs hg hlt hv
 obtain ⟨l⟩:=vs
 match l,hv with
 | [x],⟨h1,_⟩ =>
  obtain rfl:x = .string (ba s):=q05 h1
  refine (qxn s w (hG.im w hg) hc).mono ?_
  rintro e w' ⟨rfl,hb⟩
  subst hr
  refine ⟨_,Pc,rfl,hb,fun _ _ h=>h,fun _ _ h=>Or.inl h,?_⟩
  exact ⟨#[.int .i64 (numOf (q0o s)),.bool (qz7 (q0o s))],rfl,q02 (σ:=q6b) (.int .i64 (numOf (q0o s))),q02 (σ:=q6b) (.bool (qz7 (q0o s))),trivial⟩⟩,rfl⟩
end YtlmjgghohipipaaGreatDoor.AM
end Go.Proofs
namespace Go.Proofs.YtlmjgghohipipaaGreatDoor.AM
open Go.RowKit
set_option linter.unusedVariables false
set_option maxRecDepth 20000
def qpx (n:Nat):List LC:=[]
def qm5 (n:Nat) (a1:List UInt8):Option (List UInt8) :=
 (qkp n a1 (47:Int)).bind fun (r1:Int)=>q2f (IntKind.wrap .i64 (r1+(1:Int))) fun (n2:Int)=>(q5y a1 n2 ((List.length a1:Nat):Int)).bind fun (s3:List UInt8)=>some s3
def q9k (n:Nat):FC:={ f:=98,args:=[.one (.c (.d .str))],res:=.one (.c (.d .str)),F:=fun p=>qm5 n p }
def qug (n:Nat):List FC:=[q8r n]
theorem qyy (n:Nat) {G:World->Prop} (hG:Know Inv G) : ∀c∈qug n,q1b Tryz.prog G c/\q0i c.args=true:=List.forall_mem_cons.2 ⟨qwg n G hG,(fun _ h=>by cases h)⟩
def qx4:q0f:=[]
theorem j7h:drB qx4 (q00 Tryz.f98)=true:=by kernel_rfl
theorem j5a (n:Nat) : ∀a,(q9k n).F a=main Tryz.prog 8 (qug n) (qpx n) qx4 (q00 Tryz.f98) [.tmp 2] (q9k n).args (q9k n).res a:=by intro a;kernel_rfl
theorem j6h (n:Nat):q0d Inv Tryz.prog (q9k n):=fun G hG=>⟨⟨by kernel_rfl,fun a r h=>q06 (c:=q00 Tryz.f98) Tryz.func98 (by kernel_rfl) (by kernel_rfl) (Nat.le_of_ble_eq_true (by kernel_rfl)) hG.st (by kernel_rfl) (rs:=[.tmp 2]) (by kernel_rfl) (qyy n hG) (lts:=qpx n) (fun F hF hFG=>have hK:Know Inv F.G:=hFG ▸ hG;(q07 fun j L h1 h2 h3=>absurd h2 (Nat.not_lt.2 (Nat.le_trans (by decide +kernel) h1)))) j7h ((j5a n a).symm.trans h)⟩,rfl⟩
def qir (n:Nat):List LC:=[]
def q4y (n:Nat) (a1:List UInt8):Option ((List UInt8)×(Int×(Bool))) :=
 (qay a1).bind fun (r1:List UInt8)=>(qm5 n a1).bind fun (r2:List UInt8)=>(qkg a1).bind fun (r3:Bool)=>(bif !r3 then (bif !r3 then some (([]:List UInt8),((0:Int),false)) else (q9u n r2).bind fun (r4:Bool)=>(bif !r4 then some (a1,((0:Int),true)) else (qjg r2).bind fun (r5:Int×(Bool))=>(bif !r5.2 then some (([]:List UInt8),((0:Int),false)) else (bif decide (r1=([]:List UInt8)) then some (([]:List UInt8),((0:Int),false)) else some (r1,(r5.1,true)))))) else (qpj r1).bind fun (r6:Bool)=>(bif r6 then some (([]:List UInt8),((0:Int),false)) else (q9u n r2).bind fun (r7:Bool)=>(bif !r7 then some (a1,((0:Int),true)) else (qjg r2).bind fun (r8:Int×(Bool))=>(bif !r8.2 then some (([]:List UInt8),((0:Int),false)) else (bif decide (r1=([]:List UInt8)) then some (([]:List UInt8),((0:Int),false)) else some (r1,(r8.1,true)))))))
def q4s (n:Nat):FC:={ f:=78,args:=[.one (.c (.d .str))],res:=.tup [.c (.d .str),.c (.d (.int .i64)),.c (.d .bool)],F:=fun p=>q4y n p }
def qnv (n:Nat):List FC:=[qw8,q9k n,quv,q6u n,j1t,j4a]
theorem qri (n:Nat) {G:World->Prop} (hG:Know Inv G) : ∀c∈qnv n,q1b Tryz.prog G c/\q0i c.args=true:=List.forall_mem_cons.2 ⟨j6p G hG,List.forall_mem_cons.2 ⟨j6h n G hG,List.forall_mem_cons.2 ⟨j5f G hG,List.forall_mem_cons.2 ⟨qn3 n G hG,List.forall_mem_cons.2 ⟨jaj G hG,List.forall_mem_cons.2 ⟨jan G hG,(fun _ h=>by cases h)⟩⟩⟩⟩⟩⟩
def qnn:q0f:=[]
theorem j46:drB qnn (q00 Tryz.f78)=true:=by kernel_rfl
theorem j1a (n:Nat) : ∀a,(q4s n).F a=main Tryz.prog 37 (qnv n) (qir n) qnn (q00 Tryz.f78) [.tmp 2,.tmp 3,.tmp 4] (q4s n).args (q4s n).res a:=by intro a;kernel_rfl
theorem qpm (n:Nat):q0d Inv Tryz.prog (q4s n):=fun G hG=>⟨⟨by kernel_rfl,fun a r h=>q06 (c:=q00 Tryz.f78) Tryz.func78 (by kernel_rfl) (by kernel_rfl) (Nat.le_of_ble_eq_true (by kernel_rfl)) hG.st (by kernel_rfl) (rs:=[.tmp 2,.tmp 3,.tmp 4]) (by kernel_rfl) (qri n hG) (lts:=qir n) (fun F hF hFG=>have hK:Know Inv F.G:=hFG ▸ hG;(q07 fun j L h1 h2 h3=>absurd h2 (Nat.not_lt.2 (Nat.le_trans (by decide +kernel) h1)))) j46 ((j1a n a).symm.trans h)⟩,rfl⟩
def qjd (n:Nat):List LC:=[]
def q7l (n:Nat) (a1:List UInt8):Option (Bool) :=
 (q4y n a1).bind fun (r1:(List UInt8)×(Int×(Bool)))=>some r1.2.2
def q6e (n:Nat):FC:={ f:=51,args:=[.one (.c (.d .str))],res:=.one (.c (.d .bool)),F:=fun p=>q7l n p }
def qr1 (n:Nat):List FC:=[q4s n]
theorem qtu (n:Nat) {G:World->Prop} (hG:Know Inv G) : ∀c∈qr1 n,q1b Tryz.prog G c/\q0i c.args=true:=List.forall_mem_cons.2 ⟨qpm n G hG,(fun _ h=>by cases h)⟩
def qqp:q0f:=[]
theorem j36:drB qqp (q00 Tryz.f51)=true:=by kernel_rfl
theorem qzy (n:Nat) : ∀a,(q6e n).F a=main Tryz.prog 13 (qr1 n) (qjd n) qqp (q00 Tryz.f51) [.tmp 2] (q6e n).args (q6e n).res a:=by intro a;kernel_rfl
theorem j2d (n:Nat):q0d Inv Tryz.prog (q6e n):=fun G hG=>⟨⟨by kernel_rfl,fun a r h=>q06 (c:=q00 Tryz.f51) Tryz.func51 (by kernel_rfl) (by kernel_rfl) (Nat.le_of_ble_eq_true (by kernel_rfl)) hG.st (by kernel_rfl) (rs:=[.tmp 2]) (by kernel_rfl) (qtu n hG) (lts:=qjd n) (fun F hF hFG=>have hK:Know Inv F.G:=hFG ▸ hG;(q07 fun j L h1 h2 h3=>absurd h2 (Nat.not_lt.2 (Nat.le_trans (by decide +kernel) h1)))) j36 ((qzy n a).symm.trans h)⟩,rfl⟩
def qq7 (n:Nat):List LC:=[]
def qb2 (n:Nat) (a1:List UInt8) (a2:Int×(Int×(Int×((List UInt8)×(List UInt8))))):Option (Bool) :=
 (q4y n a1).bind fun (r1:(List UInt8)×(Int×(Bool)))=>(bif !r1.2.2 then (bif !r1.2.2 then some false else (bif decide (r1.2.1=(0:Int)) then some (decide (a2.1<(2:Int))) else some (decide (a2.1=r1.2.1)))) else (q2c n a2).bind fun (r2:Bool)=>(bif !r2 then some false else (bif decide (r1.2.1=(0:Int)) then some (decide (a2.1<(2:Int))) else some (decide (a2.1=r1.2.1)))))
def qa8 (n:Nat):FC:={ f:=53,args:=[.one (.c (.d .str)),.one (.agg [.d (.int .i64),.d (.int .i64),.d (.int .i64),.d .str,.d .str])],res:=.one (.c (.d .bool)),F:=fun p=>qb2 n p.1 p.2 }
def qv5 (n:Nat):List FC:=[q4s n,q2e n]
theorem qyb (n:Nat) {G:World->Prop} (hG:Know Inv G) : ∀c∈qv5 n,q1b Tryz.prog G c/\q0i c.args=true:=List.forall_mem_cons.2 ⟨qpm n G hG,List.forall_mem_cons.2 ⟨q68 n G hG,(fun _ h=>by cases h)⟩⟩
def qw0:q0f:=[]
theorem j51:drB qw0 (q00 Tryz.f53)=true:=by kernel_rfl
theorem j6a (n:Nat) : ∀a,(qa8 n).F a=main Tryz.prog 30 (qv5 n) (qq7 n) qw0 (q00 Tryz.f53) [.tmp 4] (qa8 n).args (qa8 n).res a:=by intro a;kernel_rfl
theorem j5e (n:Nat):q0d Inv Tryz.prog (qa8 n):=fun G hG=>⟨⟨by kernel_rfl,fun a r h=>q06 (c:=q00 Tryz.f53) Tryz.func53 (by kernel_rfl) (by kernel_rfl) (Nat.le_of_ble_eq_true (by kernel_rfl)) hG.st (by kernel_rfl) (rs:=[.tmp 4]) (by kernel_rfl) (qyb n hG) (lts:=qq7 n) (fun F hF hFG=>have hK:Know Inv F.G:=hFG ▸ hG;(q07 fun j L h1 h2 h3=>absurd h2 (Nat.not_lt.2 (Nat.le_trans (by decide +kernel) h1)))) j51 ((j6a n a).symm.trans h)⟩,rfl⟩
end Go.Proofs.YtlmjgghohipipaaGreatDoor.AM
namespace Go.Proofs.YtlmjgghohipipaaGreatDoor.AM
open Go.RowKit
set_option linter.unusedVariables false
set_option linter.unusedSimpArgs false
theorem qjl (n:Nat) (s:List UInt8) (hL:s.length<=2000000) (hn:s.length<n):qm5 n s=some (q8h s):=by
 unfold qm5 q8h
 have hg:=qw6 47 s
 obtain ⟨k,hk⟩ : ∃ k:Nat,q7q 47 s+1=(k:Int):=⟨(q7q 47 s+1).toNat,by omega⟩
 rw [qip n s hL hn]
 simp only [Option.bind_some,q2f]
 rw [hk,wrap64 (by omega) (by omega),sub_le (by omega) (Nat.le_refl _)]
 simp only [Option.bind_some,Int.toNat_natCast]
 rw [List.take_of_length_le (by rw [List.length_drop];exact Nat.le_refl _)]
theorem j66 (s:List UInt8):(q6m s).length<=s.length:=by unfold q6m;rw [List.length_take];omega
theorem j52 (s:List UInt8):(q8h s).length<=s.length:=by unfold q8h;rw [List.length_drop];omega
theorem qu9 {s:List UInt8} (h:q31 s=true):q0o s=s.drop 1:=by
 unfold q31 at h
 simp only [Bool.and_eq_true,decide_eq_true_eq] at h
 unfold q0o;rw [if_pos h.1]
theorem q8m (n:Nat) (s:List UInt8) (hL:s.length<=1000000) (hn:s.length<n):q4y n s=some (q9l s):=by
 have hb:=j66 s
 have hl:=j52 s
 have e1:qay s=some (q6m s):=if_pos (by omega)
 have e2:qpj (q6m s)=some (anyS (q6m s)):=if_pos (by omega)
 have e3:qjg (q8h s)=some (numOf (q0o (q8h s)),qz7 (q0o (q8h s))):=if_pos (by omega)
 have e4:qkg s=some (q9w s):=rfl
 unfold q4y q9l okS
 simp only [e1,e2,e3,e4,qjl n s (by omega) hn,qhe n (q8h s) (by omega),Option.bind_some]
 cases q9w s with
 | false=>rfl
 | true=>cases anyS (q6m s) with
  | true=>rfl
  | false=>cases ht:q31 (q8h s) with
   | false=>rfl
   | true =>
    rw [qu9 ht]
    cases qz7 ((q8h s).drop 1) with
    | false=>rfl
    | true =>
     by_cases h0:q6m s = []
     ·simp [h0]
     ·simp [h0]
theorem qls (s:List UInt8):(q9l s).2.2=okS s:=by
 unfold q9l
 cases okS s with
 | false=>rfl
 | true=>cases q31 (q8h s)<;>rfl
theorem qrz (n:Nat) (s:List UInt8) (hL:s.length<=1000000) (hn:s.length<n):q7l n s=some (okS s):=by
 unfold q7l
 rw [q8m n s hL hn,<-qls];rfl
def qsk (p:List UInt8) (v:VD):Bool:=okS p&&(q0n v&&(if (q9l p).2.1=0 then decide (v.1<2) else decide (v.1=(q9l p).2.1)))
theorem qj2 (n:Nat) (s:List UInt8) (v:VD) (hL:s.length<=1000000) (hn:s.length<n) (h4:4<=n):qb2 n s v=some (qsk s v):=by
 unfold qb2 qsk
 rw [q8m n s hL hn]
 simp only [Option.bind_some,qls,q1s n v h4]
 cases okS s with
 | false=>rfl
 | true=>cases q0n v with
  | false=>rfl
  | true =>
   by_cases h:(q9l s).2.1=0
   ·simp [h]
   ·simp [h]
end Go.Proofs.YtlmjgghohipipaaGreatDoor.AM
