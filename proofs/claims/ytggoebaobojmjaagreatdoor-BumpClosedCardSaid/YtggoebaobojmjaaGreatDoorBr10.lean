
import Derived.Test.YtggoebaobojmjaaGreatDoorBr9
namespace Go.Proofs
open Go.RowKit Go.Shelf Go.Lib
attribute [local go_sem] Oper.semAt_some
set_option linter.unusedVariables false
set_option linter.unusedSimpArgs false
namespace YtggoebaobojmjaaGreatDoor.AM
set_option maxHeartbeats 2000000 in
theorem qw0 (pred:List UInt8->Bool) (hp : ∀(x:List UInt8) (w:World),Inv w->x.length<=30->Calls Tryz.prog 103 #[.string (ba x)] w fun e w'=>e = .returned (.bool (pred x))/\Below w.heap.size w w')
  (s:List UInt8) (w:World) (hI:Inv w) :
  Calls Tryz.prog 101 #[.string (ba s),.func (.func 103) #[] #[]] w fun e w'=>e = .returned (.bool (q5p pred s))/\Below w.heap.size w w':=by
 refine (callsIn_wide (n:=9)).1 ?_
 refine callsIn_of_wp_marks Tryz.func101 rfl trivial ?_ rfl
 simp only [Tryz.ntmps101,List.size_toArray,List.length_cons,List.length_nil,Nat.reduceAdd,Nat.reduceSub,Array.replicate_succ,Array.replicate_zero,List.push_toArray,List.append_toArray,List.nil_append,List.cons_append]
 have hsz:(ba s).size=s.length:=q3j s
 by_cases h1:s = []
 ·subst h1
  have he:(ba []).toList.isEmpty=true:=by rw [q9t];rfl
  gi_wp2
  refine ⟨_,q2r (b:=w.heap.size+1) (v:=.bool true) rfl rfl hag (by simp),rfl,?_⟩
  exact ((Below.refl _ w).alloc (Nat.le_refl _) _).alloc (by simp) _
 have he:(ba s).toList.isEmpty=false:=by rw [q9t];simpa using h1
 by_cases h2:s.length<=30
 ·gi_wp2_with (refine ⟨trivial,?_⟩;gi_at_call 90;refine (callsIn_wide.2 (q4p _ _ _)).mono ?_;rintro e w' ⟨rfl,rfl⟩)
  obtain ⟨W0,hW0,hs0,hb0,g0,g1,g2,g3,g4⟩:=five w (Obj.cells #[Value.func (Fn.func 103) #[] #[]] 106) (Obj.cells #[Value.bool false] 4) (Obj.cells #[Value.string (ba s)] 9) (Obj.cells #[Value.string { data:=#[46] }] 9) (Obj.cells #[Value.int IntKind.i64 0] 3)
  rw [hW0]
  clear hW0
  obtain ⟨c0,f0⟩:=q0p g0
  obtain ⟨c1,f1⟩:=q0p g1
  obtain ⟨c2,f2⟩:=q0p g2
  obtain ⟨c3,f3⟩:=q0p g3
  obtain ⟨c4,f4⟩:=q0p g4
  refine range_split (n:=9) (by omega) 46 (w.heap.size+1+1) (w.heap.size+1+1+1) (w.heap.size+1+1+2) s (by omega) rfl ⟨c2,f2⟩
   (Rng (.func (.func 103) #[] #[]) w.heap.size (w.heap.size+1) (w.heap.size+1+1+1) (w.heap.size+1+1+2) 46 w pred) (RngX (w.heap.size+1) w pred) (j1l (by omega)) (j0y (by omega))
   (fun pre W h=>⟨h.cP,h.cC,(hI.below h.below).maxLen⟩) (fun pre W v h=>qzs v h (by omega) (by omega) (by omega) (by omega) (by omega)) ⟨c0,c1,f1,c3,c4,hb0,rfl⟩
   (fun x=>{ tmps:=#[.string (ba s),.func (.func 103) #[] #[],undef,.pointer (some ⟨w.heap.size,0,none⟩),.pointer (some ⟨w.heap.size+1,0,none⟩),.string (ba x),.string (ba s),.bool false,.string (ba s),.int .i64 s.length,.bool (decide ((30:Int)<s.length)),.string (ba s),
    .func (.func 139) #[] #[.pointer (some ⟨w.heap.size+1+1+1,0,none⟩),.pointer (some ⟨w.heap.size+1+1,0,none⟩),.pointer (some ⟨w.heap.size+1+1+2,0,none⟩)],.string (ba x),undef,undef,undef,undef],defers:=[] }) ?assign ?body ?done ?stop
  case assign =>
   intro l x W K hK
   gi_wp2
   exact hK
  case body =>
   intro l pre x r W hi hL hx
   have k0:=hi.fn
   have k1:=hi.res
   have k2:=hi.frz
   have hc:=hp x W (hI.below hi.below) (by omega)
   cases hpx:pred x with
   | true =>
    rw [hpx] at hc
    gi_wp2_with (refine ⟨trivial,?_⟩;gi_at_call 103;refine (CallsIn.inRound l (callsIn_wide.2 hc)).mono ?_;rintro e w' ⟨rfl,hb'⟩)
    exact ⟨q27 hb',qhf hi hb' hpx,qe2 hL hb'⟩
   | false =>
    rw [hpx] at hc
    gi_wp2_with (refine ⟨trivial,?_⟩;gi_at_call 103;refine (CallsIn.inRound l (callsIn_wide.2 hc)).mono ?_;rintro e w' ⟨rfl,hb'⟩;have k3:=q2e hb' hi.res;have k4:=(q3f hb' hi.res).trans hi.frz)
    exact ⟨(q27 hb').trans (KeepsOthers.setCell _ _ _),World.cell?_setCell_same' _ _ _ (by rw [k3];rfl),(hi.below.trans (hb'.mono hi.below.size)).setCell (by simp) _,by simp [hpx]⟩
  case done =>
   intro D W hD hi hK
   have k1:=hi.res
   have k2:=hi.frz
   gi_wp2
   have hK':=(KeepsOthers.setCell W ⟨w.heap.size+1,0,none⟩ (.bool true)).same D _ hK rfl
   have hW':Below w.heap.size w (W.setCell ⟨w.heap.size+1,0,none⟩ (.bool true)):=hi.below.setCell (by simp) _
   have k5:(W.setCell ⟨w.heap.size+1,0,none⟩ (.bool true)).cell? ⟨w.heap.size+1,0,none⟩=some (.bool true):=World.cell?_setCell_same' _ _ _ (by rw [k1];rfl)
   generalize W.setCell ⟨w.heap.size+1,0,none⟩ (.bool true)=W2 at hK' hW' k5
   refine ⟨by simp,.inl ⟨_,_,rfl,run_takeDeferred hK',?_⟩⟩
   have hg:=grownBy_putObj' W2 D (.deferred none)
   refine ⟨_,q2r (b:=w.heap.size+1) (v:=.bool true) rfl rfl hag (cell_kept k5 hg (fun r e=>by cases e;exact ⟨_,hK',rfl⟩)),?_,?_⟩
   ·unfold q5p;simp [h1,h2,hi.all]
   ·exact hW'.grown hg hW'.size (fun k e=>by cases e;omega)
  case stop =>
   intro D pre x t W hD hsp hi hK
   refine ⟨by simp,.inl ⟨_,_,rfl,run_takeDeferred hK,?_⟩⟩
   have hg:=grownBy_putObj' W D (.deferred none)
   refine ⟨_,q2r (b:=w.heap.size+1) (v:=.bool false) rfl rfl hag (cell_kept hi.res hg (fun r e=>by cases e;exact ⟨_,hK,rfl⟩)),?_,?_⟩
   ·have hn:=hi.no
    rw [List.all_append,Bool.and_eq_false_iff] at hn
    have ha:(spl 46 [] s).all pred=false:=by
     rw [hsp,List.all_append,Bool.and_eq_false_iff]
     rcases hn with hn|hn
     ·exact Or.inl hn
     ·refine Or.inr ?_
      simp only [List.all_cons,List.all_nil,Bool.and_true] at hn
      rw [List.all_cons,hn];rfl
    unfold q5p;simp [h1,ha]
   ·exact hi.below.grown hg hi.below.size (fun k e=>by cases e;omega)
 ·gi_wp2
  refine ⟨_,q2r (b:=w.heap.size+1) (v:=.bool false) rfl rfl hag (by simp),?_,?_⟩
  ·unfold q5p;simp [h1,h2]
  ·exact ((Below.refl _ w).alloc (Nat.le_refl _) _).alloc (by simp) _
set_option maxHeartbeats 2000000 in
theorem j0v (pred:List UInt8->Bool) (hp : ∀(x:List UInt8) (w:World),Inv w->x.length<=30->Calls Tryz.prog 102 #[.string (ba x)] w fun e w'=>e = .returned (.bool (pred x))/\Below w.heap.size w w')
  (s:List UInt8) (w:World) (hI:Inv w) :
  Calls Tryz.prog 101 #[.string (ba s),.func (.func 102) #[] #[]] w fun e w'=>e = .returned (.bool (q5p pred s))/\Below w.heap.size w w':=by
 refine (callsIn_wide (n:=9)).1 ?_
 refine callsIn_of_wp_marks Tryz.func101 rfl trivial ?_ rfl
 simp only [Tryz.ntmps101,List.size_toArray,List.length_cons,List.length_nil,Nat.reduceAdd,Nat.reduceSub,Array.replicate_succ,Array.replicate_zero,List.push_toArray,List.append_toArray,List.nil_append,List.cons_append]
 have hsz:(ba s).size=s.length:=q3j s
 by_cases h1:s = []
 ·subst h1
  have he:(ba []).toList.isEmpty=true:=by rw [q9t];rfl
  gi_wp2
  refine ⟨_,q2r (b:=w.heap.size+1) (v:=.bool true) rfl rfl hag (by simp),rfl,?_⟩
  exact ((Below.refl _ w).alloc (Nat.le_refl _) _).alloc (by simp) _
 have he:(ba s).toList.isEmpty=false:=by rw [q9t];simpa using h1
 by_cases h2:s.length<=30
 ·gi_wp2_with (refine ⟨trivial,?_⟩;gi_at_call 90;refine (callsIn_wide.2 (q4p _ _ _)).mono ?_;rintro e w' ⟨rfl,rfl⟩)
  obtain ⟨W0,hW0,hs0,hb0,g0,g1,g2,g3,g4⟩:=five w (Obj.cells #[Value.func (Fn.func 102) #[] #[]] 106) (Obj.cells #[Value.bool false] 4) (Obj.cells #[Value.string (ba s)] 9) (Obj.cells #[Value.string { data:=#[46] }] 9) (Obj.cells #[Value.int IntKind.i64 0] 3)
  rw [hW0]
  clear hW0
  obtain ⟨c0,f0⟩:=q0p g0
  obtain ⟨c1,f1⟩:=q0p g1
  obtain ⟨c2,f2⟩:=q0p g2
  obtain ⟨c3,f3⟩:=q0p g3
  obtain ⟨c4,f4⟩:=q0p g4
  refine range_split (n:=9) (by omega) 46 (w.heap.size+1+1) (w.heap.size+1+1+1) (w.heap.size+1+1+2) s (by omega) rfl ⟨c2,f2⟩
   (Rng (.func (.func 102) #[] #[]) w.heap.size (w.heap.size+1) (w.heap.size+1+1+1) (w.heap.size+1+1+2) 46 w pred) (RngX (w.heap.size+1) w pred) (j1l (by omega)) (j0y (by omega))
   (fun pre W h=>⟨h.cP,h.cC,(hI.below h.below).maxLen⟩) (fun pre W v h=>qzs v h (by omega) (by omega) (by omega) (by omega) (by omega)) ⟨c0,c1,f1,c3,c4,hb0,rfl⟩
   (fun x=>{ tmps:=#[.string (ba s),.func (.func 102) #[] #[],undef,.pointer (some ⟨w.heap.size,0,none⟩),.pointer (some ⟨w.heap.size+1,0,none⟩),.string (ba x),.string (ba s),.bool false,.string (ba s),.int .i64 s.length,.bool (decide ((30:Int)<s.length)),.string (ba s),
    .func (.func 139) #[] #[.pointer (some ⟨w.heap.size+1+1+1,0,none⟩),.pointer (some ⟨w.heap.size+1+1,0,none⟩),.pointer (some ⟨w.heap.size+1+1+2,0,none⟩)],.string (ba x),undef,undef,undef,undef],defers:=[] }) ?assign ?body ?done ?stop
  case assign =>
   intro l x W K hK
   gi_wp2
   exact hK
  case body =>
   intro l pre x r W hi hL hx
   have k0:=hi.fn
   have k1:=hi.res
   have k2:=hi.frz
   have hc:=hp x W (hI.below hi.below) (by omega)
   cases hpx:pred x with
   | true =>
    rw [hpx] at hc
    gi_wp2_with (refine ⟨trivial,?_⟩;gi_at_call 102;refine (CallsIn.inRound l (callsIn_wide.2 hc)).mono ?_;rintro e w' ⟨rfl,hb'⟩)
    exact ⟨q27 hb',qhf hi hb' hpx,qe2 hL hb'⟩
   | false =>
    rw [hpx] at hc
    gi_wp2_with (refine ⟨trivial,?_⟩;gi_at_call 102;refine (CallsIn.inRound l (callsIn_wide.2 hc)).mono ?_;rintro e w' ⟨rfl,hb'⟩;have k3:=q2e hb' hi.res;have k4:=(q3f hb' hi.res).trans hi.frz)
    exact ⟨(q27 hb').trans (KeepsOthers.setCell _ _ _),World.cell?_setCell_same' _ _ _ (by rw [k3];rfl),(hi.below.trans (hb'.mono hi.below.size)).setCell (by simp) _,by simp [hpx]⟩
  case done =>
   intro D W hD hi hK
   have k1:=hi.res
   have k2:=hi.frz
   gi_wp2
   have hK':=(KeepsOthers.setCell W ⟨w.heap.size+1,0,none⟩ (.bool true)).same D _ hK rfl
   have hW':Below w.heap.size w (W.setCell ⟨w.heap.size+1,0,none⟩ (.bool true)):=hi.below.setCell (by simp) _
   have k5:(W.setCell ⟨w.heap.size+1,0,none⟩ (.bool true)).cell? ⟨w.heap.size+1,0,none⟩=some (.bool true):=World.cell?_setCell_same' _ _ _ (by rw [k1];rfl)
   generalize W.setCell ⟨w.heap.size+1,0,none⟩ (.bool true)=W2 at hK' hW' k5
   refine ⟨by simp,.inl ⟨_,_,rfl,run_takeDeferred hK',?_⟩⟩
   have hg:=grownBy_putObj' W2 D (.deferred none)
   refine ⟨_,q2r (b:=w.heap.size+1) (v:=.bool true) rfl rfl hag (cell_kept k5 hg (fun r e=>by cases e;exact ⟨_,hK',rfl⟩)),?_,?_⟩
   ·unfold q5p;simp [h1,h2,hi.all]
   ·exact hW'.grown hg hW'.size (fun k e=>by cases e;omega)
  case stop =>
   intro D pre x t W hD hsp hi hK
   refine ⟨by simp,.inl ⟨_,_,rfl,run_takeDeferred hK,?_⟩⟩
   have hg:=grownBy_putObj' W D (.deferred none)
   refine ⟨_,q2r (b:=w.heap.size+1) (v:=.bool false) rfl rfl hag (cell_kept hi.res hg (fun r e=>by cases e;exact ⟨_,hK,rfl⟩)),?_,?_⟩
   ·have hn:=hi.no
    rw [List.all_append,Bool.and_eq_false_iff] at hn
    have ha:(spl 46 [] s).all pred=false:=by
     rw [hsp,List.all_append,Bool.and_eq_false_iff]
     rcases hn with hn|hn
     ·exact Or.inl hn
     ·refine Or.inr ?_
      simp only [List.all_cons,List.all_nil,Bool.and_true] at hn
      rw [List.all_cons,hn];rfl
    unfold q5p;simp [h1,ha]
   ·exact hi.below.grown hg hi.below.size (fun k e=>by cases e;omega)
 ·gi_wp2
  refine ⟨_,q2r (b:=w.heap.size+1) (v:=.bool false) rfl rfl hag (by simp),?_,?_⟩
  ·unfold q5p;simp [h1,h2]
  ·exact ((Below.refl _ w).alloc (Nat.le_refl _) _).alloc (by simp) _
theorem j4n (x:List UInt8) (w:World) (hI:Inv w) (hx:x.length<=30):Calls Tryz.prog 103 #[.string (ba x)] w fun e w'=>e = .returned (.bool (q2f x))/\Below w.heap.size w w':=by
 have h:=(j3t 100 Inv q1k).1.2 x (q2f x) (qr1 100 x (by omega) (by omega))
 refine (h (fun _ _=>False) w #[.string (ba x)] hI (fun b o h=>h.elim) ⟨q06 _,trivial⟩).mono ?_
 rintro e w' ⟨v,Pc,rfl,hb,_,_,hv⟩
 have hv':v = .bool (q2f x):=q07 hv
 rw [hv']
 exact ⟨rfl,hb⟩
def qkd (s:List UInt8) (u:Unit):Option Bool:=some (q5p q2f s)
def qqm:FC:={ f:=101,args:=[jem,.one (.c (.fn 103 []))],res:=jup,F:=fun p=>qkd p.1 p.2 }
theorem j80:q0g Inv Tryz.prog qqm:=fun G hG=>⟨⟨by kernel_rfl,fun a r h=>by
 obtain ⟨s,u⟩:=a
 have hr:q5p q2f s=r:=Option.some.inj h
 intro Pc w vs hg hlt hv
 obtain ⟨l⟩:=vs
 match l,hv with
 | [x,y],⟨h1,h2,_⟩ =>
  obtain rfl:x = .string (ba s):=q07 h1
  obtain rfl:y = .func (.func 103) #[] #[]:=q07 h2
  refine (qw0 q2f j4n s w (hG.im w hg)).mono ?_
  rintro e w' ⟨rfl,hb⟩
  subst hr
  exact qgz rfl hb (q06 _)⟩,rfl⟩
theorem j95 (x:List UInt8) (w:World) (hI:Inv w) (hx:x.length<=30):Calls Tryz.prog 102 #[.string (ba x)] w fun e w'=>e = .returned (.bool (q5e x))/\Below w.heap.size w w':=by
 have h:=(j7k 100 Inv q1k).1.2 x (q5e x) (jgm 100 x (by omega) (by omega))
 refine (h (fun _ _=>False) w #[.string (ba x)] hI (fun b o h=>h.elim) ⟨q06 _,trivial⟩).mono ?_
 rintro e w' ⟨v,Pc,rfl,hb,_,_,hv⟩
 have hv':v = .bool (q5e x):=q07 hv
 rw [hv']
 exact ⟨rfl,hb⟩
def qrf (s:List UInt8) (u:Unit):Option Bool:=some (q5p q5e s)
def qwk:FC:={ f:=101,args:=[jem,.one (.c (.fn 102 []))],res:=jup,F:=fun p=>qrf p.1 p.2 }
theorem jgu:q0g Inv Tryz.prog qwk:=fun G hG=>⟨⟨by kernel_rfl,fun a r h=>by
 obtain ⟨s,u⟩:=a
 have hr:q5p q5e s=r:=Option.some.inj h
 intro Pc w vs hg hlt hv
 obtain ⟨l⟩:=vs
 match l,hv with
 | [x,y],⟨h1,h2,_⟩ =>
  obtain rfl:x = .string (ba s):=q07 h1
  obtain rfl:y = .func (.func 102) #[] #[]:=q07 h2
  refine (j0v q5e j95 s w (hG.im w hg)).mono ?_
  rintro e w' ⟨rfl,hb⟩
  subst hr
  exact qgz rfl hb (q06 _)⟩,rfl⟩
end YtggoebaobojmjaaGreatDoor.AM
end Go.Proofs
