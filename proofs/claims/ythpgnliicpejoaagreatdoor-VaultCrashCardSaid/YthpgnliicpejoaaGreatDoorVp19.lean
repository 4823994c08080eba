
import Derived.Test.YthpgnliicpejoaaGreatDoorVp18
import Derived.Test.YthpgnliicpejoaaGreatDoorVp7
import Derived.Test.YthpgnliicpejoaaGreatDoorVp9
import Derived.Test.YthpgnliicpejoaaGreatDoorVp15
import Derived.Test.YthpgnliicpejoaaGreatDoorVp8
import Derived.Test.YthpgnliicpejoaaGreatDoorVp5
namespace Go.Proofs.YthpgnliicpejoaaGreatDoor
open Go.RowKit
attribute [local go_sem ↓] Go.wp_at_zero Go.wp_at_succ
namespace RecW
end RecW
end Go.Proofs.YthpgnliicpejoaaGreatDoor
namespace Go.Proofs.YthpgnliicpejoaaGreatDoor
open Go.RowKit
namespace RecW
def exA:ByteArray:=⟨#[68,48,49,50,51,52,53,54,55,56,57,48,49,50,51,52,53,54,55,56,57,48,49,50,51,52,53,54,55,56,57,48]⟩
def exB:ByteArray:=⟨#[68,120,0,0,0,0,0,0,0,0,0,0,0,0,0,0,0,0,0,0,0,0,0,0,0,0,0,0,0,0,0,0]⟩
def Hat (w:World) (b:Nat) (k g q z m:Int):Prop:=b<w.heap.size/\w.cell? ⟨b,0,none⟩=some (.int .i64 k)/\w.cell? ⟨b,1,none⟩=some (.int .i64 g)/\w.cell? ⟨b,2,none⟩=some (.int .i64 q)/\w.cell? ⟨b,3,none⟩=some (.int .i64 z)/\w.cell? ⟨b,4,none⟩=some (.int .i64 m)
theorem Hat.below {w w':World} {b:Nat} {k g q z m:Int} (h:Hat w b k g q z m) (hb:Below w.heap.size w w'):Hat w' b k g q z m :=
 ⟨Nat.lt_of_lt_of_le h.1 hb.size,(hb.cell h.1).trans h.2.1,(hb.cell h.1).trans h.2.2.1,(hb.cell h.1).trans h.2.2.2.1,(hb.cell h.1).trans h.2.2.2.2.1,(hb.cell h.1).trans h.2.2.2.2.2⟩
theorem Hat.set {w w':World} {b B:Nat} {k g q z m:Int} (h:Hat w b k g q z m) (hb:Below B w w') (hB:b<B):Hat w' b k g q z m :=
 ⟨Nat.lt_of_lt_of_le h.1 hb.size,(hb.cell (p:=⟨b,0,none⟩) hB).trans h.2.1,(hb.cell (p:=⟨b,1,none⟩) hB).trans h.2.2.1,(hb.cell (p:=⟨b,2,none⟩) hB).trans h.2.2.2.1,(hb.cell (p:=⟨b,3,none⟩) hB).trans h.2.2.2.2.1,(hb.cell (p:=⟨b,4,none⟩) hB).trans h.2.2.2.2.2⟩
end RecW
end Go.Proofs.YthpgnliicpejoaaGreatDoor
set_option linter.unusedVariables false
namespace Go.Proofs.YthpgnliicpejoaaGreatDoor
open Go.RowKit
namespace RecW
end RecW
end Go.Proofs.YthpgnliicpejoaaGreatDoor
namespace Go.Proofs
open Go.RowKit
set_option linter.unusedVariables false
set_option linter.unusedSimpArgs false
namespace YthpgnliicpejoaaGreatDoor.AM
abbrev AcT:=List (Bool×(Int×List UInt8))
def j2x (l:AcT):List DM.Ac:=l.map fun a=>(a.1,a.2.1,ba a.2.2)
abbrev acS:S1:=.c (.d (.lst (.prod .bool (.prod (.int .i64) .str))))
theorem jl9 (l:AcT):e1 (r1 acS l) = .c (.d (.lst 3 (qpf (j2x l)))):=by
 show D1.c (.d (.lst 3 (l.map (q0j (.prod .bool (.prod (.int .i64) .str))))))=_
 unfold qpf j2x
 rw [List.map_map]
 rfl
def smA (l:AcT):Prop:=l.length<=100000/\∀a∈l,a.2.2.length<=1000
instance (l:AcT):Decidable (smA l):=by unfold smA;infer_instance
def smR (d:DkT):Prop:=d.1.length<=100000/\d.2.length<=100000
instance (d:DkT):Decidable (smR d):=by unfold smR;infer_instance
def q5s (d:DkT) (l:AcT) (x:Int):Option (DkT×Int):=if smR d/\smA l then some (q6i (DM.qw9 (q2m d) ((j2x l).take (min (max x 0) (l.length:Int)).toNat)),DM.qma (q2m d) ((j2x l).take (min (max x 0) (l.length:Int)).toNat)) else none
theorem qfm (l:AcT):(j2x l).length=l.length:=by simp [j2x]
theorem mmN (x:Int) (l:Nat):min (max x 0) (l:Int)=(((min (max x 0) (l:Int)).toNat:Nat):Int):=by
 have h:(0:Int)<=min (max x 0) (l:Int):=by
  have h1:(0:Int)<=max x 0:=Int.le_max_right _ _
  have h2:(0:Int)<=(l:Int):=by omega
  exact Int.le_min.2 ⟨h1,h2⟩
 exact (Int.toNat_of_nonneg h).symm
def qwe:FC:={ f:=24,args:=[.one dkS,.one acS,.one qtb],res:=.tup [dkS,qtb],F:=fun p=>q5s p.1 p.2.1 p.2.2 }
theorem j3q:q19 Inv Tryz.prog qwe:=qa9 (by kernel_rfl) rfl fun G hG a r h=>by
 obtain ⟨h1,rfl⟩:=ifs h
 obtain ⟨d,l,x⟩:=a
 obtain ⟨⟨b1,b2⟩,b3,b4⟩:=h1
 show q13 _ _ _ [.one (e1 (r1 dkS d)),.one (e1 (r1 acS l)),_] (.tup [e1 (r1 dkS _),_])
 rw [qvv,qv0,jl9]
 refine jkr (q2m d) (j2x l) x (min (max x 0) (l.length:Int)).toNat (by simpa [q2m] using b1) (by simpa [q2m] using b2) (by rw [qfm];exact b3) (fun a ha=>?_) (by rw [qfm];exact mmN x l.length)
 unfold j2x at ha
 obtain ⟨b,hb,rfl⟩:=List.mem_map.1 ha
 show (ba b.2.2).size<=maxLen
 rw [q29];have:=b4 b hb;unfold maxLen;omega
def qyp:FC:={ f:=31,args:=[.one dkS,.one acS,.one qtb],res:=.tup [dkS,qtb],F:=fun p=>q5s p.1 p.2.1 p.2.2 }
theorem jd3:q19 Inv Tryz.prog qyp:=qa9 (by kernel_rfl) rfl fun G hG a r h=>by
 obtain ⟨h1,rfl⟩:=ifs h
 obtain ⟨d,l,x⟩:=a
 obtain ⟨⟨b1,b2⟩,b3,b4⟩:=h1
 show q13 _ _ _ [.one (e1 (r1 dkS d)),.one (e1 (r1 acS l)),_] (.tup [e1 (r1 dkS _),_])
 rw [qvv,qv0,jl9]
 refine jf0 hG (q2m d) (j2x l) x (min (max x 0) (l.length:Int)).toNat (by simpa [q2m] using b1) (by simpa [q2m] using b2) (by rw [qfm];exact b3) (fun a ha=>?_) (by rw [qfm];exact mmN x l.length)
 unfold j2x at ha
 obtain ⟨b,hb,rfl⟩:=List.mem_map.1 ha
 show (ba b.2.2).size<=1000
 rw [q29];exact b4 b hb
abbrev HdT:=Int×(Int×(Int×(Int×Int)))
abbrev hdS:S1:=.agg [.d (.int .i64),.d (.int .i64),.d (.int .i64),.d (.int .i64),.d (.int .i64)]
def qxp (n:Int):Prop:=-9223372036854775808<=n/\n<=9223372036854775807
instance (n:Int):Decidable (qxp n):=by unfold qxp;infer_instance
def q77 (n:Int):Option Int:=if qxp n then some (RM.q0v n) else none
def qcc:FC:={ f:=77,args:=[.one qtb],res:=.one qtb,F:=q77 }
theorem qgd:q19 Inv Tryz.prog qcc:=qa9 (by kernel_rfl) rfl fun G hG (a:Int) r h=>by
 obtain ⟨h1,rfl⟩:=ifs h
 intro Pc w vs _ hlt hv
 obtain ⟨vl⟩:=vs
 match vl,hv with
 | [x],⟨q1,_⟩ =>
  obtain rfl:x = .int .i64 a:=q0n q1
  refine (RecW.qcb a w h1).mono ?_
  rintro e w' ⟨rfl,rfl⟩
  exact qcx rfl (Below.refl _ _) (q0m (σ:=q2i) (.int .i64 _))
def qoq (s:List UInt8):Option Int:=if s.length<=maxLen then some (SM.q1g 1 s) else none
def qsd:FC:={ f:=136,args:=[.one jhk],res:=.one qtb,F:=qoq }
theorem j4p:q19 Inv Tryz.prog qsd:=qa9 (by kernel_rfl) rfl fun G hG (a:List UInt8) r h=>by
 obtain ⟨h1,rfl⟩:=ifs h
 intro Pc w vs _ hlt hv
 obtain ⟨vl⟩:=vs
 match vl,hv with
 | [x],⟨q1,_⟩ =>
  obtain rfl:x = .string (ba a):=q0n q1
  refine (SumW.j6j (ba a) w (by rw [q29];exact h1)).mono ?_
  rintro e w' ⟨rfl,rfl⟩
  have e:(ba a).data.toList=a:=by simp [ba]
  rw [e]
  exact qcx rfl (Below.refl _ _) (q0m (σ:=q2i) (.int .i64 _))
theorem qnl (s:List UInt8):(ba s).data.toList=s:=by simp [ba]
theorem qzg {Pc:Nat->Nat->Prop} {w:World} (k g q z m:Int):q1t (q1x Pc) q2i w (.agg #[.int .i64 k,.int .i64 g,.int .i64 q,.int .i64 z,.int .i64 m]) (.one (e1 (r1 hdS (k,(g,(q,(z,m))))))) :=
 ⟨_,rfl,q2f (σ:=q2i) (.int .i64 k),q2f (σ:=q2i) (.int .i64 g),q2f (σ:=q2i) (.int .i64 q),q2f (σ:=q2i) (.int .i64 z),q2f (σ:=q2i) (.int .i64 m),trivial⟩
theorem hd_of {Pc:Nat->Nat->Prop} {w:World} {v:Value} {h:HdT} (hv:q1t (q1x Pc) q2i w v (.one (e1 (r1 hdS h)))):v = .agg #[.int .i64 h.1,.int .i64 h.2.1,.int .i64 h.2.2.1,.int .i64 h.2.2.2.1,.int .i64 h.2.2.2.2]:=by
 obtain ⟨k,g,q,z,m⟩:=h
 obtain ⟨cs,rfl,hc⟩:=hv
 obtain ⟨cl⟩:=cs
 match cl,hc with
 | [a,b,c,d,e],⟨c1,c2,c3,c4,c5,_⟩ =>
  obtain rfl:a = .int .i64 k:=q5y c1
  obtain rfl:b = .int .i64 g:=q5y c2
  obtain rfl:c = .int .i64 q:=q5y c3
  obtain rfl:d = .int .i64 z:=q5y c4
  obtain rfl:e = .int .i64 m:=q5y c5
  rfl
theorem j7w {Pc:Nat->Nat->Prop} {w:World} (b:ByteArray):q1t (q1x Pc) q2i w (.string b) (.one (e1 (r1 jhk (unB b)))):=by
 show q1t (q1x Pc) q2i w (.string b) (q25 (.string (ba (unB b))))
 rw [qbe];exact q0m _
def qvu (h:HdT):Option (List UInt8×Bool):=if qxp h.2.2.2.2 then some (unB (RM.q1a h.1 h.2.1 h.2.2.1 h.2.2.2.1 h.2.2.2.2),decide (RM.may h.1 h.2.1 h.2.2.1 h.2.2.2.1 h.2.2.2.2)) else none
def qzy:FC:={ f:=110,args:=[.one hdS],res:=.tup [jhk,qwc],F:=qvu }
theorem jas:q19 Inv Tryz.prog qzy:=qa9 (by kernel_rfl) rfl fun G hG (a:HdT) r h=>by
 obtain ⟨h1,rfl⟩:=ifs h
 intro Pc w vs _ hlt hv
 obtain ⟨vl⟩:=vs
 match vl,hv with
 | [x],⟨q1,_⟩ =>
  obtain rfl:=hd_of q1
  refine (RecW.q90 a.1 a.2.1 a.2.2.1 a.2.2.2.1 a.2.2.2.2 w h1).mono ?_
  rintro e w' ⟨rfl,hb⟩
  exact ⟨_,Pc,rfl,hb,fun b o hp=>hp,fun b o hp=>Or.inl hp,_,rfl,j7w _,q0m (σ:=q2i) (.bool _),trivial⟩
def qi5 (s:ByteArray):HdT:=if RM.q1v s then (RM.q2w s,(RM.q0i s 2,(RM.q0i s 6,(RM.q0i s 10,RM.q0i s 14)))) else (0,(0,(0,(0,0))))
theorem jad {Pc:Nat->Nat->Prop} {w:World} (s:ByteArray):q1t (q1x Pc) q2i w (RM.qrt s) (.one (e1 (r1 hdS (qi5 s)))):=by
 unfold RM.qrt qi5
 by_cases c:RM.q1v s
 ·rw [if_pos c,if_pos c];exact qzg _ _ _ _ _
 ·rw [if_neg c,if_neg c];exact qzg _ _ _ _ _
def qjc (s:List UInt8):Option (HdT×Bool):=some (qi5 (ba s),decide (RM.q1v (ba s)))
def qp9:FC:={ f:=119,args:=[.one jhk],res:=.tup [hdS,qwc],F:=qjc }
theorem qwn:q19 Inv Tryz.prog qp9:=qa9 (by kernel_rfl) rfl fun G hG (a:List UInt8) r h=>by
 obtain rfl:=Option.some.inj h
 intro Pc w vs _ hlt hv
 obtain ⟨vl⟩:=vs
 match vl,hv with
 | [x],⟨q1,_⟩ =>
  obtain rfl:x = .string (ba a):=q0n q1
  refine (RecW.j9v (ba a) w).mono ?_
  rintro e w' ⟨rfl,hb⟩
  exact ⟨_,Pc,rfl,hb,fun b o hp=>hp,fun b o hp=>Or.inl hp,_,rfl,jad _,q0m (σ:=q2i) (.bool _),trivial⟩
def jhi (k g q:Int) (s:List UInt8):HdT:=if RM.may k g q (s.length:Int) (SM.q1g 1 s) then (k,(g,(q,((s.length:Int),SM.q1g 1 s)))) else (0,(0,(0,(0,0))))
def qtk (k g q:Int) (s:List UInt8):Option (HdT×Bool):=if s.length<=maxLen then some (jhi k g q s,decide (RM.may k g q (s.length:Int) (SM.q1g 1 s))) else none
def qx5:FC:={ f:=109,args:=[.one qtb,.one qtb,.one qtb,.one jhk],res:=.tup [hdS,qwc],F:=fun p=>qtk p.1 p.2.1 p.2.2.1 p.2.2.2 }
theorem jam:q19 Inv Tryz.prog qx5:=qa9 (by kernel_rfl) rfl fun G hG a r h=>by
 obtain ⟨h1,rfl⟩:=ifs h
 obtain ⟨k,g,q,s⟩:=a
 intro Pc w vs _ hlt hv
 obtain ⟨vl⟩:=vs
 match vl,hv with
 | [x,y,z,u],⟨q1,q2,q3,q4,_⟩ =>
  obtain rfl:x = .int .i64 k:=q0n q1
  obtain rfl:y = .int .i64 g:=q0n q2
  obtain rfl:z = .int .i64 q:=q0n q3
  obtain rfl:u = .string (ba s):=q0n q4
  refine (RecW.jbz k g q (ba s) w (by rw [q29];exact h1)).mono ?_
  rintro e w' ⟨rfl,hb⟩
  refine ⟨_,Pc,rfl,hb,fun b o hp=>hp,fun b o hp=>Or.inl hp,_,rfl,?_,?_,trivial⟩
  ·unfold RM.jah jhi
   rw [q29,qnl]
   by_cases c:RM.may k g q (s.length:Int) (SM.q1g 1 s)
   ·simp only [if_pos c];exact qzg _ _ _ _ _
   ·simp only [if_neg c];exact qzg _ _ _ _ _
  ·rw [q29,qnl];exact q0m (σ:=q2i) (.bool _)
def qv6 (l:List (List UInt8)) (n:Int):Option (List UInt8×Bool):=if l.length<=1000/\qxp n then some (unB (RM.qid (l.map ba) n),decide (RM.q4f (l.map ba) n)) else none
abbrev ssS:S1:=.c (.d (.lst .str))
theorem jjl (l:List (List UInt8)):e1 (r1 ssS l) = .c (.d (.lst 1 (qap (l.map ba)))):=by
 show D1.c (.d (.lst 1 (l.map (q0j .str))))=_
 unfold qap
 rw [List.map_map]
 rfl
def qy1:FC:={ f:=145,args:=[.one ssS,.one qtb],res:=.tup [jhk,qwc],F:=fun p=>qv6 p.1 p.2 }
theorem jc8:q19 Inv Tryz.prog qy1:=qa9 (by kernel_rfl) rfl fun G hG a r h=>by
 obtain ⟨h1,rfl⟩:=ifs h
 obtain ⟨l,n⟩:=a
 intro Pc w vs _ hlt hv
 obtain ⟨vl⟩:=vs
 match vl,hv with
 | [x,y],⟨q1,q2,_⟩ =>
  obtain rfl:y = .int .i64 n:=q0n q2
  have q1':q1t (q1x Pc) q2i w x (.one (e1 (r1 ssS l))):=q1
  rw [jjl] at q1'
  obtain ⟨a,cap,hx,b1,b2,hs⟩:=jko hlt q1'
  refine (RecW.j9q (l.map ba) x n w hs (by simpa using h1.1) h1.2).mono ?_
  rintro e w' ⟨rfl,hb⟩
  exact ⟨_,Pc,rfl,hb,fun b o hp=>hp,fun b o hp=>Or.inl hp,_,rfl,j7w _,q0m (σ:=q2i) (.bool _),trivial⟩
def qsh (s:List UInt8):Option (List (List UInt8)):=if s.length<=maxLen then some ((RM.qew (ba s)).map unB) else none
def qu4:FC:={ f:=79,args:=[.one jhk],res:=.one ssS,F:=qsh }
theorem j4k:q19 Inv Tryz.prog qu4:=qa9 (by kernel_rfl) rfl fun G hG (a:List UInt8) r h=>by
 obtain ⟨h1,rfl⟩:=ifs h
 intro Pc w vs _ hlt hv
 obtain ⟨vl⟩:=vs
 match vl,hv with
 | [x],⟨q1,_⟩ =>
  obtain rfl:x = .string (ba a):=q0n q1
  refine (RecW.j98 (ba a) w (by rw [q29];exact h1)).mono ?_
  rintro e w' ⟨v,rfl,hown,hb⟩
  refine ⟨v,fun b o=>Pc b o\/(w.heap.size<=b/\b<w'.heap.size),rfl,hb,fun b o h=>Or.inl h,fun b o h=>h,?_⟩
  have hl:(RM.qew (ba a)).length=RM.q1d (ba a):=by unfold RM.qew;simp
  have hsv:=RM.SV.of_owns hl.symm hown
  have ebu:((RM.qew (ba a)).map unB).map ba=RM.qew (ba a):=by
   rw [List.map_map]
   exact (List.map_congr_left fun x _=>qbe x).trans (List.map_id _)
  show q1t _ q2i w' v (.one (e1 (r1 ssS ((RM.qew (ba a)).map unB))))
  rw [jjl,ebu]
  obtain ⟨_,ho|⟨g,cap,vs',rfl,hbg,hg,hc1,hc2,_,_⟩⟩:=hown
  ·obtain ⟨rfl,hn⟩:=ho
   exact j91 hsv (by omega) (by unfold maxLen;omega) (fun g hg=>by cases hg)
  ·exact j91 hsv hc1 hc2 (fun g' hg' o hlt'=>by
    obtain rfl:g=g':=by simpa [Value.ownBlock] using hg'
    exact Or.inr ⟨hbg,hlt'⟩)
end YthpgnliicpejoaaGreatDoor.AM
end Go.Proofs
