
import Derived.Test.YtlkpgcifpnppeaaGreatDoorMv10
set_option linter.unusedVariables false
namespace Go.Proofs
open Go.RowKit Go.Shelf Go.Lib
attribute [local go_sem] Oper.semAt_some
set_option linter.unusedSimpArgs false
namespace YtlkpgcifpnppeaaGreatDoor.AM
theorem jgm (x:List UInt8) (w:World) (hI:Inv w) (hx:x.length<=1000000):Calls Tryz.prog 88 #[.string (ba x)] w fun e w'=>e = .returned (.bool (q1i x))/\Below w.heap.size w w':=by
 have h:=(qxs 1000001 Inv q24).1.2 x (q1i x) (qnr 1000001 x (by omega))
 refine (h (fun _ _=>False) w #[.string (ba x)] hI (fun b o h=>h.elim) ⟨q04 _,trivial⟩).mono ?_
 rintro e w' ⟨v,Pc,rfl,hb,_,_,hv⟩
 have hv':v = .bool (q1i x):=q07 hv
 rw [hv']
 exact ⟨rfl,hb⟩
set_option maxHeartbeats 2000000 in
theorem j7v (s:List UInt8) (w:World) (hI:Inv w) (h2:s.length<=1000000):Calls Tryz.prog 87 #[.string (ba s)] w fun e w'=>e = .returned (.bool (anyS s))/\Below w.heap.size w w':=by
 refine (callsIn_wide (n:=9)).1 ?_
 refine callsIn_of_wp_marks Tryz.func87 rfl trivial ?_ rfl
 simp only [Tryz.ntmps87,List.size_toArray,List.length_cons,List.length_nil,Nat.reduceAdd,Nat.reduceSub,Array.replicate_succ,Array.replicate_zero,List.push_toArray,List.append_toArray,List.nil_append,List.cons_append]
 have hsz:(ba s).size=s.length:=q44 s
 have key:anyS s = !((spl 47 [] s).all fun x=>!q1i x):=by unfold anyS;rw [List.any_eq_not_all_not]
 ·skip
  gi_wp2_with (refine ⟨trivial,?_⟩;gi_at_call 111;refine (callsIn_wide.2 (q4k _ _ _)).mono ?_;rintro e w' ⟨rfl,rfl⟩)
  obtain ⟨W0,hW0,hs0,hb0,g0,g1,g2,g3⟩:=four w (Obj.cells #[Value.bool false] 4) (Obj.cells #[Value.string (ba s)] 9) (Obj.cells #[Value.string { data:=#[47] }] 9) (Obj.cells #[Value.int IntKind.i64 0] 3)
  rw [hW0]
  clear hW0
  obtain ⟨c1,f1⟩:=q0m g0
  obtain ⟨c2,f2⟩:=q0m g1
  obtain ⟨c3,f3⟩:=q0m g2
  obtain ⟨c4,f4⟩:=q0m g3
  refine range_split (n:=9) (by omega) 47 (w.heap.size+1) (w.heap.size+1+1) (w.heap.size+1+2) s (by omega) rfl ⟨c2,f2⟩
   (Rng (.string (ba [47])) (w.heap.size+1+1) w.heap.size (w.heap.size+1+1) (w.heap.size+1+2) 47 w (fun x=>!q1i x)) (RngY w.heap.size w (fun x=>!q1i x)) (qsc (by omega)) (jj8 (by omega))
   (fun pre W h=>⟨h.cP,h.cC,(hI.below h.below).maxLen⟩) (fun pre W v h=>qrm v h (by omega) (by omega) (by omega) (by omega) (by omega)) ⟨c3,c1,f1,c3,c4,hb0,rfl⟩
   (fun x=>{ tmps:=#[.string (ba s),undef,.pointer (some ⟨w.heap.size,0,none⟩),.string (ba x),.string (ba s),.func (.func 151) #[] #[.pointer (some ⟨w.heap.size+1+1,0,none⟩),.pointer (some ⟨w.heap.size+1,0,none⟩),.pointer (some ⟨w.heap.size+1+2,0,none⟩)],.string (ba x),undef,undef],defers:=[] }) ?assign ?body ?done ?stop
  case assign =>
   intro l x W K hK
   gi_wp2
   exact hK
  case body =>
   intro l pre x r W hi hL hx
   have k1:=hi.res
   have k2:=hi.frz
   have hc:=jgm x W (hI.below hi.below) (by omega)
   cases hpx:q1i x with
   | false =>
    rw [hpx] at hc
    gi_wp2_with (refine ⟨trivial,?_⟩;gi_at_call 88;refine (CallsIn.inRound l (callsIn_wide.2 hc)).mono ?_;rintro e w' ⟨rfl,hb'⟩)
    exact ⟨q2r hb',qe3 hi hb' (by simp [hpx]),qb2 hL hb'⟩
   | true =>
    rw [hpx] at hc
    gi_wp2_with (refine ⟨trivial,?_⟩;gi_at_call 88;refine (CallsIn.inRound l (callsIn_wide.2 hc)).mono ?_;rintro e w' ⟨rfl,hb'⟩;have k3:=q2y hb' hi.res;have k4:=(q3z hb' hi.res).trans hi.frz)
    exact ⟨(q2r hb').trans (KeepsOthers.setCell _ _ _),World.cell?_setCell_same' _ _ _ (by rw [k3];rfl),(hi.below.trans (hb'.mono hi.below.size)).setCell (by simp) _,by simp [hpx]⟩
  case done =>
   intro D W hD hi hK
   have k1:=hi.res
   have k2:=hi.frz
   gi_wp2
   have hK':=(KeepsOthers.setCell W ⟨w.heap.size,0,none⟩ (.bool false)).same D _ hK rfl
   have hW':Below w.heap.size w (W.setCell ⟨w.heap.size,0,none⟩ (.bool false)):=hi.below.setCell (by simp) _
   have k5:(W.setCell ⟨w.heap.size,0,none⟩ (.bool false)).cell? ⟨w.heap.size,0,none⟩=some (.bool false):=World.cell?_setCell_same' _ _ _ (by rw [k1];rfl)
   generalize W.setCell ⟨w.heap.size,0,none⟩ (.bool false)=W2 at hK' hW' k5
   refine ⟨by simp,.inl ⟨_,_,rfl,run_takeDeferred hK',?_⟩⟩
   have hg:=grownBy_putObj' W2 D (.deferred none)
   refine ⟨_,q2w (b:=w.heap.size) (v:=.bool false) rfl rfl hag (cell_kept k5 hg (fun r e=>by cases e;exact ⟨_,hK',rfl⟩)),?_,?_⟩
   ·have ha:=hi.all
    rw [key,ha];rfl
   ·exact hW'.grown hg hW'.size (fun k e=>by cases e;omega)
  case stop =>
   intro D pre x t W hD hsp hi hK
   refine ⟨by simp,.inl ⟨_,_,rfl,run_takeDeferred hK,?_⟩⟩
   have hg:=grownBy_putObj' W D (.deferred none)
   refine ⟨_,q2w (b:=w.heap.size) (v:=.bool true) rfl rfl hag (cell_kept hi.res hg (fun r e=>by cases e;exact ⟨_,hK,rfl⟩)),?_,?_⟩
   ·have ha:=j69 hsp hi.no
    rw [key,ha];rfl
   ·exact hi.below.grown hg hi.below.size (fun k e=>by cases e;omega)
theorem jg8 (s:List UInt8) (b:Nat):(ba s).extract 0 b=ba (s.take b):=by
 rw [<-jla ((ba s).extract 0 b)]
 congr 1
 unfold unB ba
 rw [ByteArray.data_extract]
 simp
theorem jep (x:List UInt8) (w:World) (hI:Inv w) (hx:x.length<=1000000):Calls Tryz.prog 110 #[.string (ba x),.int .u8 47] w fun e w'=>e = .returned (.int .i64 (q82 47 x))/\Below w.heap.size w w':=by
 have h:=(j7j 1000001 Inv q24).1.2 (x,(47:Int)) (q82 47 x) (qr6 1000001 x (by omega) (by omega))
 refine (h (fun _ _=>False) w #[.string (ba x),.int .u8 47] hI (fun b o h=>h.elim) ⟨q04 _,q04 _,trivial⟩).mono ?_
 rintro e w' ⟨v,Pc,rfl,hb,_,_,hv⟩
 have hv':v = .int .i64 (q82 47 x):=q07 hv
 rw [hv']
 exact ⟨rfl,hb⟩
theorem j46 (s:List UInt8) (w:World) (hI:Inv w) (hs:s.length<=1000000):Calls Tryz.prog 84 #[.string (ba s)] w fun e w'=>e = .returned (.string (ba (q2q s)))/\Below w.heap.size w w':=by
 have hl:=j6o 47 s
 have hsz:(ba s).size=s.length:=q44 s
 have hc:=jep s w hI hs
 go_enter Tryz.func84,Tryz.ntmps84
 by_cases h0:q82 47 s = -1
 ·rw [h0] at hc
  go_wp2_with (go_at_call 110;refine hc.mono ?_)
  rintro e w' ⟨rfl,hb⟩
  go_wp2
  go_ret
  refine ⟨?_,hb⟩
  show Ending.returned (.string ((ba s).extract 0 (max 0 (-1:Int)).toNat))=_
  rw [jg8];unfold q2q;rw [h0];rfl
 ·obtain ⟨k,hk⟩ : ∃ k:Nat,q82 47 s=(k:Int):=⟨(q82 47 s).toNat,by omega⟩
  rw [hk] at hc
  go_wp2_with (go_at_call 110;refine hc.mono ?_)
  rintro e w' ⟨rfl,hb⟩
  go_wp2
  go_ret
  refine ⟨?_,hb⟩
  show Ending.returned (.string ((ba s).extract 0 (max 0 (k:Int)).toNat))=_
  rw [jg8];unfold q2q;rw [hk,Int.max_eq_right (by omega)]
theorem jjw (x:List UInt8) (w:World) (hI:Inv w) (hx:x.length<=1000000):Calls Tryz.prog 115 #[.string (ba x),.string (ba [118])] w fun e w'=>e = .returned (.string (ba (q4c x)))/\Below w.heap.size w w':=by
 have h:=(quj 100 Inv q24).1.2 (x,([118]:List UInt8)) (q4c x) (jg5 100 x (by omega))
 refine (h (fun _ _=>False) w #[.string (ba x),.string (ba [118])] hI (fun b o h=>h.elim) ⟨q04 _,q04 _,trivial⟩).mono ?_
 rintro e w' ⟨v,Pc,rfl,hb,_,_,hv⟩
 have hv':v = .string (ba (q4c x)):=q07 hv
 rw [hv']
 exact ⟨rfl,hb⟩
theorem jbt (n:Int) (w:World) (hI:Inv w) (h0:2<=n) (h1:n<=999999999):Calls Tryz.prog 117 #[.int .i64 n] w fun e w'=>e = .returned (.string (ba (Lib.itoa n)))/\Below w.heap.size w w':=by
 refine (Any.strconv_Itoa Tryz.laysItoa n (by omega) (by omega) w hI.tab).mono ?_
 rintro e w' ⟨rfl,k,os,rfl⟩
 exact ⟨rfl,Lib.below_grow _ w (Nat.le_refl _) k os⟩
set_option maxHeartbeats 2000000 in
theorem j9o (s:List UInt8) (w:World) (hI:Inv w) (hs:s.length<=1000000):Calls Tryz.prog 89 #[.string (ba s)] w fun e w'=>e = .returned (.tuple #[.int .i64 (numOf (q4c s)),.bool (qoc (q4c s))])/\Below w.heap.size w w':=by
 have hc:=jjw s w hI hs
 have hl:=jcw s
 go_enter Tryz.func89,Tryz.ntmps89
 go_wp2_with (go_at_call 115;refine hc.mono ?_)
 rintro e w1 ⟨rfl,hb1⟩
 clear hc
 have hI1:=hI.below hb1
 have e1:(ba (q4c s)).data.toList=q4c s:=by simp [ba]
 have hl':(ba (q4c s)).size<=281474976710656:=by rw [q44];omega
 obtain ⟨ts,ps,hsy⟩:=hI1.syn
 obtain ⟨tr,pr,hrg⟩:=hI1.rng
 cases h:Lib.atoiAll (q4c s) with
 | ok v =>
  go_wp2_with (go_at_call 116;refine (Any.strconv_Atoi_ok Tryz.laysAtoi (ba (q4c s)) (by omega) v (by rw [e1];exact h) w1).mono ?_)
  rintro e w2 ⟨rfl,hw⟩
  have hb2:Below w1.heap.size w1 w2:=by
   rcases hw with rfl|⟨t,rfl⟩
   ·exact Below.refl _ _
   ·exact Lib.bytesWorld_below _ _ _
  clear hw
  have hb:Below w.heap.size w w2:=hb1.trans (hb2.mono hb1.size)
  by_cases h2:2<=v
  ·by_cases h3:v<=999999999
   ·have hi:=jbt v w2 (hI.below hb) h2 h3
    go_wp2_with (go_at_call 117;refine hi.mono ?_)
    rintro e w3 ⟨rfl,hb3⟩
    go_wp2
    go_ret2
    refine ⟨?_,hb.trans (hb3.mono hb.size)⟩
    unfold numOf qoc;rw [h]
    simp [h2,h3,q7u]
    rw [Bool.eq_iff_iff];simp
   ·go_wp2
    go_ret2
    refine ⟨?_,hb⟩
    unfold numOf qoc;rw [h]
    simp [h2,show ¬ v<=999999999 from by omega]
  ·go_wp2
   go_ret2
   refine ⟨?_,hb⟩
   unfold numOf qoc;rw [h]
   simp [show ¬ 2<=v from by omega]
 | «syntax» =>
  go_wp2_with (go_at_call 116;refine (Any.strconv_Atoi_syntax Tryz.laysAtoi (ba (q4c s)) hl' (by rw [e1];exact h) _ w1 hsy (Or.inr ⟨_,_,rfl⟩)).mono ?_)
  rintro e w2 ⟨N,rfl,hN,hc,hb2⟩
  go_wp2
  go_ret2
  refine ⟨?_,hb1.trans (hb2.mono hb1.size)⟩
  unfold numOf qoc;rw [h];rfl
 | range =>
  go_wp2_with (go_at_call 116;refine (Any.strconv_Atoi_range Tryz.laysAtoi (ba (q4c s)) hl' (by rw [e1];exact h) _ w1 hrg (Or.inr ⟨_,_,rfl⟩)).mono ?_)
  rintro e w2 ⟨N,rfl,hN,hc,hb2⟩
  rw [e1]
  go_wp2
  go_ret2
  refine ⟨?_,hb1.trans (hb2.mono hb1.size)⟩
  unfold numOf qoc;rw [h];rfl
def qyz (s:List UInt8):Option Bool:=if s.length<=1000000 then some (anyS s) else none
def jn2:FC:={ f:=87,args:=[j53],res:=jin,F:=fun p=>qyz p }
theorem jo7:q09 Inv Tryz.prog jn2:=fun G hG=>⟨⟨by kernel_rfl,fun (s:List UInt8) r h=>by
 have h':qyz s=some r:=h
 unfold qyz at h'
 split at h'
 case isFalse=>cases h'
 rename_i hc
 have hr:anyS s=r:=Option.some.inj h'
 intro Pc w vs hg hlt hv
 obtain ⟨l⟩:=vs
 match l,hv with
 | [x],⟨h1,_⟩ =>
  obtain rfl:x = .string (ba s):=q07 h1
  refine (j7v s w (hG.im w hg) hc).mono ?_
  rintro e w' ⟨rfl,hb⟩
  subst hr
  exact qdz rfl hb (q04 _)⟩,rfl⟩
def qnl (s:List UInt8):Option (List UInt8):=if s.length<=1000000 then some (q2q s) else none
def ji1:FC:={ f:=84,args:=[j53],res:=j53,F:=fun p=>qnl p }
theorem jjv:q09 Inv Tryz.prog ji1:=fun G hG=>⟨⟨by kernel_rfl,fun (s:List UInt8) r h=>by
 have h':qnl s=some r:=h
 unfold qnl at h'
 split at h'
 case isFalse=>cases h'
 rename_i hc
 have hr:q2q s=r:=Option.some.inj h'
 intro Pc w vs hg hlt hv
 obtain ⟨l⟩:=vs
 match l,hv with
 | [x],⟨h1,_⟩ =>
  obtain rfl:x = .string (ba s):=q07 h1
  refine (j46 s w (hG.im w hg) hc).mono ?_
  rintro e w' ⟨rfl,hb⟩
  subst hr
  exact qdz rfl hb (q04 (.string (ba (q2q s))))⟩,rfl⟩
def qq5 (s:List UInt8):Option (Int×Bool):=if s.length<=1000000 then some (numOf (q4c s),qoc (q4c s)) else none
def jlu:FC:={ f:=89,args:=[j53],res:=.tup [.c (.d (.int .i64)),.c (.d .bool)],F:=fun p=>qq5 p }
theorem jmg:q09 Inv Tryz.prog jlu:=fun G hG=>⟨⟨by kernel_rfl,fun (s:List UInt8) (r:Int×Bool) h=>by
 have h':qq5 s=some r:=h
 unfold qq5 at h'
 split at h'
 case isFalse=>cases h'
 rename_i hc
 have hr:(numOf (q4c s),qoc (q4c s))=r:=Option.some.inj h'
 intro Pc w vs hg hlt hv
 obtain ⟨l⟩:=vs
 match l,hv with
 | [x],⟨h1,_⟩ =>
  obtain rfl:x = .string (ba s):=q07 h1
  refine (j9o s w (hG.im w hg) hc).mono ?_
  rintro e w' ⟨rfl,hb⟩
  subst hr
  refine ⟨_,Pc,rfl,hb,fun _ _ h=>h,fun _ _ h=>Or.inl h,?_⟩
  exact ⟨#[.int .i64 (numOf (q4c s)),.bool (qoc (q4c s))],rfl,q04 (σ:=q7p) (.int .i64 (numOf (q4c s))),q04 (σ:=q7p) (.bool (qoc (q4c s))),trivial⟩⟩,rfl⟩
end YtlkpgcifpnppeaaGreatDoor.AM
end Go.Proofs
namespace Go.Proofs.YtlkpgcifpnppeaaGreatDoor.AM
open Go.RowKit
set_option maxRecDepth 20000
abbrev Za:=((Bool×Unit)×Unit×Unit)⊕((Yy×Unit)×Unit×Unit)
abbrev Zb:=((Bool×Unit)×Unit×Unit)⊕(Unit×Unit×Unit)
abbrev Zc:=((Yy×Unit)×Unit×Unit)⊕(Unit×Unit×Unit)
def qta (n:Nat) (a1:Yy):Option Yy :=
 (qt5 n a1 (47:Int)).bind fun r1=>q08 (IntKind.wrap .i64 (r1+1)) fun n2=>(qoa a1 n2 (a1.length:Int)).bind fun s3=>some s3
def jj2 (n:Nat):FC:={ f:=85,args:=[.one (.c (.d .str))],res:=.one (.c (.d .str)),F:=fun p=>qta n p }
theorem jjl (n:Nat):q09 Inv Tryz.prog (jj2 n):=mkF Tryz.func85 [] [] (cc (j7j n) <| cn) (by kernel_rfl) trivial (by intro a;kernel_rfl)
def qjv (n:Nat) (a1:Yy):Option (Yy×(Int×Bool)) :=
 (qnl a1).bind fun (r1:Yy)=>(qta n a1).bind fun r2=>(j2q a1).bind fun (r3:Bool)=>(bif !r3 then (bif !r3 then some (([]:Yy),((0:Int),false)) else (qf5 n r2).bind fun r4=>(bif !r4 then some (a1,((0:Int),true)) else (qq5 r2).bind fun (r5:Int×Bool)=>(bif !r5.2 then some (([]:Yy),((0:Int),false)) else (bif decide (r1=([]:Yy)) then some (([]:Yy),((0:Int),false)) else some (r1,(r5.1,true)))))) else (qyz r1).bind fun (r6:Bool)=>(bif r6 then some (([]:Yy),((0:Int),false)) else (qf5 n r2).bind fun r7=>(bif !r7 then some (a1,((0:Int),true)) else (qq5 r2).bind fun (r8:Int×Bool)=>(bif !r8.2 then some (([]:Yy),((0:Int),false)) else (bif decide (r1=([]:Yy)) then some (([]:Yy),((0:Int),false)) else some (r1,(r8.1,true)))))))
def jfb (n:Nat):FC:={ f:=70,args:=[.one (.c (.d .str))],res:=.tup [.c (.d .str),.c (.d (.int .i64)),.c (.d .bool)],F:=fun p=>qjv n p }
theorem jg2 (n:Nat):q09 Inv Tryz.prog (jfb n):=mkF Tryz.func70 [] [] (cc (jjv) <| cc (jjl n) <| cc (jja) <| cc (qxs n) <| cc (jmg) <| cc (jo7) <| cn) (by kernel_rfl) trivial (by intro a;kernel_rfl)
def qu1 (n:Nat) (a1:Yy) (a2:Vv):Option Bool :=
 (qjv n a1).bind fun r1=>(bif !r1.2.2 then (bif !r1.2.2 then some false else (bif decide (r1.2.1=0) then some (decide (a2.1<2)) else some (decide (a2.1=r1.2.1)))) else (qbd n a2).bind fun r2=>(bif !r2 then some false else (bif decide (r1.2.1=0) then some (decide (a2.1<2)) else some (decide (a2.1=r1.2.1)))))
def jhj (n:Nat):FC:={ f:=54,args:=[.one (.c (.d .str)),.one (.agg [.d (.int .i64),.d (.int .i64),.d (.int .i64),.d .str,.d .str])],res:=.one (.c (.d .bool)),F:=fun p=>qu1 n p.1 p.2 }
theorem jhp (n:Nat):q09 Inv Tryz.prog (jhj n):=mkF Tryz.func54 [] [] (cc (jg2 n) <| cc (qvx n) <| cn) (by kernel_rfl) trivial (by intro a;kernel_rfl)
@[reducible] def j8x:SSt:=⟨[(0,.one (.c (.d .str))),(3,.one (.c (.d (.int .i64))))],[],[]⟩
@[reducible] def qy5:List (Exit×SSt):=[(.ret,⟨[(2,.one (.c (.d .bool)))],[],[]⟩),(.exit 0,⟨[(0,.one (.c (.d .str)))],[],[]⟩)]
def qlc (n:Nat) (rec:(Yy)->Int->Option Za) (a1:Yy) (a2:Int):Option Za :=
 (bif decide (a2<(a1.length:Int)) then (sAt a1 a2).bind fun c1=>(bif decide (97<=c1) then (bif decide (c1<=122) then q08 (IntKind.wrap .i64 (a2+1)) fun n2=>rec a1 n2 else (bif decide (65<=c1) then (bif decide (c1<=90) then q08 (IntKind.wrap .i64 (a2+1)) fun n3=>rec a1 n3 else (bif decide (48<=c1) then (bif !(decide (c1<=57)) then (bif !decide (c1=45) then (bif !decide (c1=95) then (bif !decide (c1=46) then some (Sum.inl ((false,()),((),()))) else q08 (IntKind.wrap .i64 (a2+1)) fun n4=>rec a1 n4) else q08 (IntKind.wrap .i64 (a2+1)) fun n5=>rec a1 n5) else q08 (IntKind.wrap .i64 (a2+1)) fun n6=>rec a1 n6) else q08 (IntKind.wrap .i64 (a2+1)) fun n7=>rec a1 n7) else (bif !decide (c1=45) then (bif !decide (c1=95) then (bif !decide (c1=46) then some (Sum.inl ((false,()),((),()))) else q08 (IntKind.wrap .i64 (a2+1)) fun n8=>rec a1 n8) else q08 (IntKind.wrap .i64 (a2+1)) fun n9=>rec a1 n9) else q08 (IntKind.wrap .i64 (a2+1)) fun n10=>rec a1 n10))) else (bif decide (48<=c1) then (bif !(decide (c1<=57)) then (bif !decide (c1=45) then (bif !decide (c1=95) then (bif !decide (c1=46) then some (Sum.inl ((false,()),((),()))) else q08 (IntKind.wrap .i64 (a2+1)) fun n11=>rec a1 n11) else q08 (IntKind.wrap .i64 (a2+1)) fun n12=>rec a1 n12) else q08 (IntKind.wrap .i64 (a2+1)) fun n13=>rec a1 n13) else q08 (IntKind.wrap .i64 (a2+1)) fun n14=>rec a1 n14) else (bif !decide (c1=45) then (bif !decide (c1=95) then (bif !decide (c1=46) then some (Sum.inl ((false,()),((),()))) else q08 (IntKind.wrap .i64 (a2+1)) fun n15=>rec a1 n15) else q08 (IntKind.wrap .i64 (a2+1)) fun n16=>rec a1 n16) else q08 (IntKind.wrap .i64 (a2+1)) fun n17=>rec a1 n17)))) else (bif decide (65<=c1) then (bif decide (c1<=90) then q08 (IntKind.wrap .i64 (a2+1)) fun n18=>rec a1 n18 else (bif decide (48<=c1) then (bif !(decide (c1<=57)) then (bif !decide (c1=45) then (bif !decide (c1=95) then (bif !decide (c1=46) then some (Sum.inl ((false,()),((),()))) else q08 (IntKind.wrap .i64 (a2+1)) fun n19=>rec a1 n19) else q08 (IntKind.wrap .i64 (a2+1)) fun n20=>rec a1 n20) else q08 (IntKind.wrap .i64 (a2+1)) fun n21=>rec a1 n21) else q08 (IntKind.wrap .i64 (a2+1)) fun n22=>rec a1 n22) else (bif !decide (c1=45) then (bif !decide (c1=95) then (bif !decide (c1=46) then some (Sum.inl ((false,()),((),()))) else q08 (IntKind.wrap .i64 (a2+1)) fun n23=>rec a1 n23) else q08 (IntKind.wrap .i64 (a2+1)) fun n24=>rec a1 n24) else q08 (IntKind.wrap .i64 (a2+1)) fun n25=>rec a1 n25))) else (bif decide (48<=c1) then (bif !(decide (c1<=57)) then (bif !decide (c1=45) then (bif !decide (c1=95) then (bif !decide (c1=46) then some (Sum.inl ((false,()),((),()))) else q08 (IntKind.wrap .i64 (a2+1)) fun n26=>rec a1 n26) else q08 (IntKind.wrap .i64 (a2+1)) fun n27=>rec a1 n27) else q08 (IntKind.wrap .i64 (a2+1)) fun n28=>rec a1 n28) else q08 (IntKind.wrap .i64 (a2+1)) fun n29=>rec a1 n29) else (bif !decide (c1=45) then (bif !decide (c1=95) then (bif !decide (c1=46) then some (Sum.inl ((false,()),((),()))) else q08 (IntKind.wrap .i64 (a2+1)) fun n30=>rec a1 n30) else q08 (IntKind.wrap .i64 (a2+1)) fun n31=>rec a1 n31) else q08 (IntKind.wrap .i64 (a2+1)) fun n32=>rec a1 n32)))) else some (Sum.inr (((a1,()),((),())))))
def qv2 (n:Nat):Stp j8x qy5:=fun rec p=>qlc n (fun a1 a2=>rec ((a1,(a2,())),((),()))) p.1.1 p.1.2.1
def q7h (n m:Nat) (a1:Yy) (a2:Int):Option Za:=q0i (qv2 n) m ((a1,(a2,())),((),()))
theorem qge (n m:Nat) (a1 a2):q7h n (m+1) a1 a2=qlc n (fun a1 a2=>q7h n m a1 a2) a1 a2:=rfl
def qjh (n:Nat) (a1:Yy):Option Bool :=
 (q7h n n a1 (0:Int)).bind fun o33=>Sum.elim (fun (q34:(Bool×Unit)×Unit×Unit)=>some q34.1.1) (fun (q35:(Yy×Unit)×Unit×Unit)=>(bif !decide (q35.1.1=([]:Yy)) then (bif !decide (q35.1.1=([46]:Yy)) then some (!decide (q35.1.1=([46,46]:Yy))) else some false) else some false)) o33
def jfd (n:Nat):FC:={ f:=129,args:=[.one (.c (.d .str))],res:=.one (.c (.d .bool)),F:=fun p=>qjh n p }
theorem jc0 (n:Nat):q09 Inv Tryz.prog (jfd n):=mkF Tryz.func129 [] [q3x qv2 n] (cn) (by kernel_rfl) ⟨ls (by intro rec p;kernel_rfl),trivial⟩ (by intro a;kernel_rfl)
@[reducible] def j86:SSt:=⟨[(3,.one (.c (.d (.lst .str)))),(4,.one (.c (.d (.int .i64))))],[],[]⟩
@[reducible] def qv7:List (Exit×SSt):=[(.ret,⟨[(2,.one (.c (.d .bool)))],[],[]⟩),(.exit 0,⟨[],[],[]⟩)]
def qkj (n:Nat) (rec:(List Yy)->Int->Option Zb) (a1:List Yy) (a2:Int):Option Zb :=
 (bif decide (a2<(a1.length:Int)) then (q0w a1 a2).bind fun x2=>(qjh n x2).bind fun r3=>(bif !r3 then some (Sum.inl ((false,()),((),()))) else q08 (IntKind.wrap .i64 (a2+1)) fun n4=>rec a1 n4) else some (Sum.inr (((),((),())))))
def qxn (n:Nat):Stp j86 qv7:=fun rec p=>qkj n (fun a1 a2=>rec ((a1,(a2,())),((),()))) p.1.1 p.1.2.1
def q71 (n m:Nat) (a1:List Yy) (a2:Int):Option Zb:=q0i (qxn n) m ((a1,(a2,())),((),()))
theorem qga (n m:Nat) (a1 a2):q71 n (m+1) a1 a2=qkj n (fun a1 a2=>q71 n m a1 a2) a1 a2:=rfl
def qk1 (n:Nat) (a1:Yy):Option Bool :=
 (bif decide (60<(a1.length:Int)) then some false else (q2b n a1 (47:Int)).bind fun r1=>(q71 n n r1 (0:Int)).bind fun o5=>Sum.elim (fun (q6:(Bool×Unit)×Unit×Unit)=>some q6.1.1) (fun (q7:(Unit)×Unit×Unit)=>some true) o5)
def jd5 (n:Nat):FC:={ f:=109,args:=[.one (.c (.d .str))],res:=.one (.c (.d .bool)),F:=fun p=>qk1 n p }
theorem jdy (n:Nat):q09 Inv Tryz.prog (jd5 n):=mkF Tryz.func109 [] [q3x qxn n] (cc (q7w n) <| cc (jc0 n) <| cn) (by kernel_rfl) ⟨ls (by intro rec p;kernel_rfl),trivial⟩ (by intro a;kernel_rfl)
@[reducible] def j28:SSt:=⟨[(0,.one (.c (.d .str))),(3,.one (.c (.d (.int .i64))))],[],[]⟩
@[reducible] def qsj:List (Exit×SSt):=[(.ret,⟨[(2,.one (.c (.d .bool)))],[],[]⟩),(.exit 0,⟨[(0,.one (.c (.d .str)))],[],[]⟩)]
def qhe (n:Nat) (rec:(Yy)->Int->Option Za) (a1:Yy) (a2:Int):Option Za :=
 (bif decide (a2<(a1.length:Int)) then (sAt a1 a2).bind fun c1=>(bif decide (c1<48) then some (Sum.inl ((false,()),((),()))) else (sAt a1 a2).bind fun c2=>(bif decide (57<c2) then some (Sum.inl ((false,()),((),()))) else q08 (IntKind.wrap .i64 (a2+1)) fun n3=>rec a1 n3)) else some (Sum.inr (((a1,()),((),())))))
def qpp (n:Nat):Stp j28 qsj:=fun rec p=>qhe n (fun a1 a2=>rec ((a1,(a2,())),((),()))) p.1.1 p.1.2.1
def q5o (n m:Nat) (a1:Yy) (a2:Int):Option Za:=q0i (qpp n) m ((a1,(a2,())),((),()))
theorem qfm (n m:Nat) (a1 a2):q5o n (m+1) a1 a2=qhe n (fun a1 a2=>q5o n m a1 a2) a1 a2:=rfl
def qae (n:Nat) (a1:Yy):Option Bool :=
 (q5o n n a1 (1:Int)).bind fun o4=>Sum.elim (fun (q5:(Bool×Unit)×Unit×Unit)=>some q5.1.1) (fun (q6:(Yy×Unit)×Unit×Unit)=>(bif decide (1<(q6.1.1.length:Int)) then (sAt q6.1.1 (0:Int)).bind fun c7=>some (decide (c7=118)) else some false)) o4
def j9f (n:Nat):FC:={ f:=80,args:=[.one (.c (.d .str))],res:=.one (.c (.d .bool)),F:=fun p=>qae n p }
theorem qq4 (n:Nat):q09 Inv Tryz.prog (j9f n):=mkF Tryz.func80 [] [q3x qpp n] (cn) (by kernel_rfl) ⟨ls (by intro rec p;kernel_rfl),trivial⟩ (by intro a;kernel_rfl)
@[reducible] def qyb:SSt:=⟨[(0,.one (.c (.d .str))),(3,.one (.c (.d (.int .i64)))),(4,.one (.c (.d (.int .i64))))],[],[]⟩
@[reducible] def qp8:List (Exit×SSt):=[(.exit 0,⟨[(3,.one (.c (.d (.int .i64))))],[],[]⟩)]
def qdt (n:Nat) (rec:(Yy)->Int->Int->Option ((Int×Unit)×Unit×Unit)) (a1:Yy) (a2:Int) (a3:Int):Option ((Int×Unit)×Unit×Unit) :=
 (bif decide (a3<(a1.length:Int)) then q08 (IntKind.wrap .i64 ((10:Int)*a2)) fun n2=>(sAt a1 a3).bind fun c3=>q08 (IntKind.wrap .i64 c3) fun n4=>q08 (IntKind.wrap .i64 (n2+n4)) fun n5=>q08 (IntKind.wrap .i64 (n5 - (48:Int))) fun n6=>q08 (IntKind.wrap .i64 (a3+1)) fun n7=>rec a1 n6 n7 else some (((a2,()),((),()))))
def qma (n:Nat):Stp qyb qp8:=fun rec p=>qdt n (fun a1 a2 a3=>rec ((a1,(a2,(a3,()))),((),()))) p.1.1 p.1.2.1 p.1.2.2.1
def q4m (n m:Nat) (a1:Yy) (a2:Int) (a3:Int):Option ((Int×Unit)×Unit×Unit):=q0i (qma n) m ((a1,(a2,(a3,()))),((),()))
theorem qd6 (n m:Nat) (a1 a2 a3):q4m n (m+1) a1 a2 a3=qdt n (fun a1 a2 a3=>q4m n m a1 a2 a3) a1 a2 a3:=rfl
def q8g (n:Nat) (a1:Yy):Option Int :=
 (bif decide (10<(a1.length:Int)) then some (0:Int) else (sAt a1 (1:Int)).bind fun c1=>(bif decide (c1=48) then some (0:Int) else (q4m n n a1 (0:Int) (1:Int)).bind fun o8=>(bif decide (o8.1.1<2) then some (0:Int) else some o8.1.1)))
def j48 (n:Nat):FC:={ f:=82,args:=[.one (.c (.d .str))],res:=.one (.c (.d (.int .i64))),F:=fun p=>q8g n p }
theorem ql4 (n:Nat):q09 Inv Tryz.prog (j48 n):=mkF Tryz.func82 [] [q3x qma n] (cn) (by kernel_rfl) ⟨ls (by intro rec p;kernel_rfl),trivial⟩ (by intro a;kernel_rfl)
@[reducible] def j17:SSt:=⟨[(3,.one (.c (.d (.lst .str)))),(4,.one (.c (.d (.int .i64))))],[],[]⟩
@[reducible] def qrs:List (Exit×SSt):=[(.ret,⟨[(2,.one (.c (.d .bool)))],[],[]⟩),(.exit 0,⟨[],[],[]⟩)]
def qb9 (n:Nat) (rec:(List Yy)->Int->Option Zb) (a1:List Yy) (a2:Int):Option Zb :=
 (bif decide (a2<(a1.length:Int)) then (q0w a1 a2).bind fun x3=>(qae n x3).bind fun r4=>(bif r4 then q08 (IntKind.wrap .i64 ((a1.length:Int) - (1:Int))) fun (n5:Int)=>(bif decide (a2<n5) then some (Sum.inl ((false,()),((),()))) else (bif decide (a2=0) then some (Sum.inl ((false,()),((),()))) else (q0w a1 a2).bind fun x6=>(q8g n x6).bind fun r7=>(bif decide (r7=0) then some (Sum.inl ((false,()),((),()))) else q08 (IntKind.wrap .i64 (a2+1)) fun n8=>rec a1 n8))) else q08 (IntKind.wrap .i64 (a2+1)) fun n9=>rec a1 n9) else some (Sum.inr (((),((),())))))
def qra (n:Nat):Stp j17 qrs:=fun rec p=>qb9 n (fun a1 a2=>rec ((a1,(a2,())),((),()))) p.1.1 p.1.2.1
def q45 (n m:Nat) (a1:List Yy) (a2:Int):Option Zb:=q0i (qra n) m ((a1,(a2,())),((),()))
theorem q7j (n m:Nat) (a1 a2):q45 n (m+1) a1 a2=qb9 n (fun a1 a2=>q45 n m a1 a2) a1 a2:=rfl
def qe2 (n:Nat) (a1:Yy):Option Bool :=
 (qk1 n a1).bind fun r1=>(bif !r1 then some false else (q2b n a1 (47:Int)).bind fun r2=>(q45 n n r2 (0:Int)).bind fun o10=>Sum.elim (fun (q11:(Bool×Unit)×Unit×Unit)=>some q11.1.1) (fun (q12:(Unit)×Unit×Unit)=>some true) o10)
def ja8 (n:Nat):FC:={ f:=79,args:=[.one (.c (.d .str))],res:=.one (.c (.d .bool)),F:=fun p=>qe2 n p }
theorem j7m (n:Nat):q09 Inv Tryz.prog (ja8 n):=mkF Tryz.func79 [] [q3x qra n] (cc (jdy n) <| cc (q7w n) <| cc (qq4 n) <| cc (ql4 n) <| cn) (by kernel_rfl) ⟨ls (by intro rec p;kernel_rfl),trivial⟩ (by intro a;kernel_rfl)
@[reducible] def jab:SSt:=⟨[(0,.one (.c (.d .str))),(3,.one (.c (.d (.int .i64))))],[],[]⟩
@[reducible] def qzp:List (Exit×SSt):=[(.ret,⟨[(2,.one (.c (.d .str)))],[],[]⟩),(.exit 0,⟨[],[],[]⟩)]
def qed (n:Nat) (rec:(Yy)->Int->Option Zc) (a1:Yy) (a2:Int):Option Zc :=
 (bif decide (0<=a2) then (sAt a1 a2).bind fun c2=>(bif decide (c2=47) then (qoa a1 (0:Int) a2).bind fun s3=>some (Sum.inl ((s3,()),((),()))) else q08 (IntKind.wrap .i64 (a2 - (1:Int))) fun n4=>rec a1 n4) else some (Sum.inr (((),((),())))))
def j03 (n:Nat):Stp jab qzp:=fun rec p=>qed n (fun a1 a2=>rec ((a1,(a2,())),((),()))) p.1.1 p.1.2.1
def q79 (n m:Nat) (a1:Yy) (a2:Int):Option Zc:=q0i (j03 n) m ((a1,(a2,())),((),()))
theorem q7z (n m:Nat) (a1 a2):q79 n (m+1) a1 a2=qed n (fun a1 a2=>q79 n m a1 a2) a1 a2:=rfl
def qjs (n:Nat) (a1:Yy):Option Yy :=
 q08 (IntKind.wrap .i64 ((a1.length:Int) - (1:Int))) fun (n1:Int)=>(q79 n n a1 n1).bind fun o5=>Sum.elim (fun (q6:(Yy×Unit)×Unit×Unit)=>some q6.1.1) (fun (q7:(Unit)×Unit×Unit)=>some ([]:Yy)) o5
def jg9 (n:Nat):FC:={ f:=81,args:=[.one (.c (.d .str))],res:=.one (.c (.d .str)),F:=fun p=>qjs n p }
theorem jb8 (n:Nat):q09 Inv Tryz.prog (jg9 n):=mkF Tryz.func81 [] [q3x j03 n] (cn) (by kernel_rfl) ⟨ls (by intro rec p;kernel_rfl),trivial⟩ (by intro a;kernel_rfl)
def qft (n:Nat) (a1:Yy):Option (Yy×(Int×Bool)) :=
 (qe2 n a1).bind fun r1=>(bif !r1 then some (([]:Yy),((0:Int),false)) else (q2b n a1 (47:Int)).bind fun r2=>q08 (IntKind.wrap .i64 ((r2.length:Int) - (1:Int))) fun (n3:Int)=>(q0w r2 n3).bind fun x4=>(qae n x4).bind fun r5=>(bif !r5 then some (a1,((0:Int),true)) else (qjs n a1).bind fun r6=>(q8g n x4).bind fun r7=>some (r6,(r7,true))))
def jad (n:Nat):FC:={ f:=64,args:=[.one (.c (.d .str))],res:=.tup [.c (.d .str),.c (.d (.int .i64)),.c (.d .bool)],F:=fun p=>qft n p }
theorem j8o (n:Nat):q09 Inv Tryz.prog (jad n):=mkF Tryz.func64 [] [] (cc (j7m n) <| cc (q7w n) <| cc (qq4 n) <| cc (jb8 n) <| cc (ql4 n) <| cn) (by kernel_rfl) trivial (by intro a;kernel_rfl)
def qjp (n:Nat) (a1:Yy) (a2:Vv):Option Bool :=
 (qft n a1).bind fun r1=>(bif !r1.2.2 then some false else (qbn n a2).bind fun r2=>(bif !r2 then some false else (bif decide (a2.1=r1.2.1) then some true else (bif decide (r1.2.1=0) then some (decide (a2.1=1)) else some false))))
def jgj (n:Nat):FC:={ f:=50,args:=[.one (.c (.d .str)),.one (.agg [.d (.int .i64),.d (.int .i64),.d (.int .i64),.d .str,.d .str])],res:=.one (.c (.d .bool)),F:=fun p=>qjp n p.1 p.2 }
theorem jaw (n:Nat):q09 Inv Tryz.prog (jgj n):=mkF Tryz.func50 [] [] (cc (j8o n) <| cc (qzd n) <| cn) (by kernel_rfl) trivial (by intro a;kernel_rfl)
end Go.Proofs.YtlkpgcifpnppeaaGreatDoor.AM
