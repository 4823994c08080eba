
import Derived.Test.YthpgnliicpejoaaGreatDoorVu18
import Derived.Test.YthpgnliicpejoaaGreatDoorVu7
import Derived.Test.YthpgnliicpejoaaGreatDoorVu9
import Derived.Test.YthpgnliicpejoaaGreatDoorVu15
import Derived.Test.YthpgnliicpejoaaGreatDoorVu8
import Derived.Test.YthpgnliicpejoaaGreatDoorVu5
namespace Go.Proofs.YthpgnliicpejoaaGreatDoor
open Go.RowKit
attribute [local go_sem ↓] Go.wp_at_zero Go.wp_at_succ
namespace RecW
end RecW
end Go.Proofs.YthpgnliicpejoaaGreatDoor
namespace Go.Proofs.YthpgnliicpejoaaGreatDoor
open Go.RowKit
namespace RecW
def exA:ByteArray:=⟨#[68,48,49,50,51,52,53,54,55,56,57,48,49,50,51,52,53,54,55,56,57,48,49,50,51,52,53,54,55,56,57,48]⟩
def exB:ByteArray:=⟨#[68,120,0,0,0,0,0,0,0,0,0,0,0,0,0,0,0,0,0,0,0,0,0,0,0,0,0,0,0,0,0,0]⟩
def Hat (w:World) (b:Nat) (k g q z m:Int):Prop:=b<w.heap.size/\w.cell? ⟨b,0,none⟩=some (.int .i64 k)/\w.cell? ⟨b,1,none⟩=some (.int .i64 g)/\w.cell? ⟨b,2,none⟩=some (.int .i64 q)/\w.cell? ⟨b,3,none⟩=some (.int .i64 z)/\w.cell? ⟨b,4,none⟩=some (.int .i64 m)
theorem Hat.below {w w':World} {b:Nat} {k g q z m:Int} (h:Hat w b k g q z m) (hb:Below w.heap.size w w'):Hat w' b k g q z m :=
 ⟨Nat.lt_of_lt_of_le h.1 hb.size,(hb.cell h.1).trans h.2.1,(hb.cell h.1).trans h.2.2.1,(hb.cell h.1).trans h.2.2.2.1,(hb.cell h.1).trans h.2.2.2.2.1,(hb.cell h.1).trans h.2.2.2.2.2⟩
theorem Hat.set {w w':World} {b B:Nat} {k g q z m:Int} (h:Hat w b k g q z m) (hb:Below B w w') (hB:b<B):Hat w' b k g q z m :=
 ⟨Nat.lt_of_lt_of_le h.1 hb.size,(hb.cell (p:=⟨b,0,none⟩) hB).trans h.2.1,(hb.cell (p:=⟨b,1,none⟩) hB).trans h.2.2.1,(hb.cell (p:=⟨b,2,none⟩) hB).trans h.2.2.2.1,(hb.cell (p:=⟨b,3,none⟩) hB).trans h.2.2.2.2.1,(hb.cell (p:=⟨b,4,none⟩) hB).trans h.2.2.2.2.2⟩
end RecW
end Go.Proofs.YthpgnliicpejoaaGreatDoor
set_option linter.unusedVariables false
namespace Go.Proofs.YthpgnliicpejoaaGreatDoor
open Go.RowKit
namespace RecW
end RecW
end Go.Proofs.YthpgnliicpejoaaGreatDoor
namespace Go.Proofs
open Go.RowKit
set_option linter.unusedVariables false
set_option linter.unusedSimpArgs false
namespace YthpgnliicpejoaaGreatDoor.AM
abbrev AcT:=List (Bool×(Int×List UInt8))
def j3n (l:AcT):List DM.Ac:=l.map fun a=>(a.1,a.2.1,ba a.2.2)
abbrev acS:S1:=.c (.d (.lst (.prod .bool (.prod (.int .i64) .str))))
theorem jkn (l:AcT):e1 (r1 acS l) = .c (.d (.lst 3 (qpz (j3n l)))):=by
 show D1.c (.d (.lst 3 (l.map (q0j (.prod .bool (.prod (.int .i64) .str))))))=_
 unfold qpz j3n
 rw [List.map_map]
 rfl
def smA (l:AcT):Prop:=l.length<=100000/\∀a∈l,a.2.2.length<=1000
instance (l:AcT):Decidable (smA l):=by unfold smA;infer_instance
def smR (d:DkT):Prop:=d.1.length<=100000/\d.2.length<=100000
instance (d:DkT):Decidable (smR d):=by unfold smR;infer_instance
def q6j (d:DkT) (l:AcT) (x:Int):Option (DkT×Int):=if smR d/\smA l then some (qd6 (DM.qui (q2v d) ((j3n l).take (min (max x 0) (l.length:Int)).toNat)),DM.qp4 (q2v d) ((j3n l).take (min (max x 0) (l.length:Int)).toNat)) else none
theorem qgb (l:AcT):(j3n l).length=l.length:=by simp [j3n]
theorem mmN (x:Int) (l:Nat):min (max x 0) (l:Int)=(((min (max x 0) (l:Int)).toNat:Nat):Int):=by
 have h:(0:Int)<=min (max x 0) (l:Int):=by
  have h1:(0:Int)<=max x 0:=Int.le_max_right _ _
  have h2:(0:Int)<=(l:Int):=by omega
  exact Int.le_min.2 ⟨h1,h2⟩
 exact (Int.toNat_of_nonneg h).symm
def qva:FC:={ f:=24,args:=[.one dkS,.one acS,.one qua],res:=.tup [dkS,qua],F:=fun p=>q6j p.1 p.2.1 p.2.2 }
theorem j6d:q18 Inv Tryz.prog qva:=qbx (by kernel_rfl) rfl fun G hG a r h=>by
 obtain ⟨h1,rfl⟩:=ifs h
 obtain ⟨d,l,x⟩:=a
 obtain ⟨⟨b1,b2⟩,b3,b4⟩:=h1
 show q13 _ _ _ [.one (e1 (r1 dkS d)),.one (e1 (r1 acS l)),_] (.tup [e1 (r1 dkS _),_])
 rw [j16,j2u,jkn]
 refine jjb (q2v d) (j3n l) x (min (max x 0) (l.length:Int)).toNat (by simpa [q2v] using b1) (by simpa [q2v] using b2) (by rw [qgb];exact b3) (fun a ha=>?_) (by rw [qgb];exact mmN x l.length)
 unfold j3n at ha
 obtain ⟨b,hb,rfl⟩:=List.mem_map.1 ha
 show (ba b.2.2).size<=maxLen
 rw [q21];have:=b4 b hb;unfold maxLen;omega
def qy7:FC:={ f:=31,args:=[.one dkS,.one acS,.one qua],res:=.tup [dkS,qua],F:=fun p=>q6j p.1 p.2.1 p.2.2 }
theorem jcb:q18 Inv Tryz.prog qy7:=qbx (by kernel_rfl) rfl fun G hG a r h=>by
 obtain ⟨h1,rfl⟩:=ifs h
 obtain ⟨d,l,x⟩:=a
 obtain ⟨⟨b1,b2⟩,b3,b4⟩:=h1
 show q13 _ _ _ [.one (e1 (r1 dkS d)),.one (e1 (r1 acS l)),_] (.tup [e1 (r1 dkS _),_])
 rw [j16,j2u,jkn]
 refine jf9 hG (q2v d) (j3n l) x (min (max x 0) (l.length:Int)).toNat (by simpa [q2v] using b1) (by simpa [q2v] using b2) (by rw [qgb];exact b3) (fun a ha=>?_) (by rw [qgb];exact mmN x l.length)
 unfold j3n at ha
 obtain ⟨b,hb,rfl⟩:=List.mem_map.1 ha
 show (ba b.2.2).size<=1000
 rw [q21];exact b4 b hb
abbrev HdT:=Int×(Int×(Int×(Int×Int)))
abbrev hdS:S1:=.agg [.d (.int .i64),.d (.int .i64),.d (.int .i64),.d (.int .i64),.d (.int .i64)]
def qxu (n:Int):Prop:=-9223372036854775808<=n/\n<=9223372036854775807
instance (n:Int):Decidable (qxu n):=by unfold qxu;infer_instance
def q7n (n:Int):Option Int:=if qxu n then some (RM.q0w n) else none
def qcz:FC:={ f:=77,args:=[.one qua],res:=.one qua,F:=q7n }
theorem qiv:q18 Inv Tryz.prog qcz:=qbx (by kernel_rfl) rfl fun G hG (a:Int) r h=>by
 obtain ⟨h1,rfl⟩:=ifs h
 intro Pc w vs _ hlt hv
 obtain ⟨vl⟩:=vs
 match vl,hv with
 | [x],⟨q1,_⟩ =>
  obtain rfl:x = .int .i64 a:=q0o q1
  refine (RecW.qcb a w h1).mono ?_
  rintro e w' ⟨rfl,rfl⟩
  exact qdc rfl (Below.refl _ _) (q0l (σ:=q2g) (.int .i64 _))
def qmz (s:List UInt8):Option Int:=if s.length<=maxLen then some (SM.q1k 1 s) else none
def qrl:FC:={ f:=136,args:=[.one jhq],res:=.one qua,F:=qmz }
theorem j45:q18 Inv Tryz.prog qrl:=qbx (by kernel_rfl) rfl fun G hG (a:List UInt8) r h=>by
 obtain ⟨h1,rfl⟩:=ifs h
 intro Pc w vs _ hlt hv
 obtain ⟨vl⟩:=vs
 match vl,hv with
 | [x],⟨q1,_⟩ =>
  obtain rfl:x = .string (ba a):=q0o q1
  refine (SumW.j8x (ba a) w (by rw [q21];exact h1)).mono ?_
  rintro e w' ⟨rfl,rfl⟩
  have e:(ba a).data.toList=a:=by simp [ba]
  rw [e]
  exact qdc rfl (Below.refl _ _) (q0l (σ:=q2g) (.int .i64 _))
theorem qpb (s:List UInt8):(ba s).data.toList=s:=by simp [ba]
theorem qzb {Pc:Nat->Nat->Prop} {w:World} (k g q z m:Int):q1u (q1x Pc) q2g w (.agg #[.int .i64 k,.int .i64 g,.int .i64 q,.int .i64 z,.int .i64 m]) (.one (e1 (r1 hdS (k,(g,(q,(z,m))))))) :=
 ⟨_,rfl,q2p (σ:=q2g) (.int .i64 k),q2p (σ:=q2g) (.int .i64 g),q2p (σ:=q2g) (.int .i64 q),q2p (σ:=q2g) (.int .i64 z),q2p (σ:=q2g) (.int .i64 m),trivial⟩
theorem hd_of {Pc:Nat->Nat->Prop} {w:World} {v:Value} {h:HdT} (hv:q1u (q1x Pc) q2g w v (.one (e1 (r1 hdS h)))):v = .agg #[.int .i64 h.1,.int .i64 h.2.1,.int .i64 h.2.2.1,.int .i64 h.2.2.2.1,.int .i64 h.2.2.2.2]:=by
 obtain ⟨k,g,q,z,m⟩:=h
 obtain ⟨cs,rfl,hc⟩:=hv
 obtain ⟨cl⟩:=cs
 match cl,hc with
 | [a,b,c,d,e],⟨c1,c2,c3,c4,c5,_⟩ =>
  obtain rfl:a = .int .i64 k:=q68 c1
  obtain rfl:b = .int .i64 g:=q68 c2
  obtain rfl:c = .int .i64 q:=q68 c3
  obtain rfl:d = .int .i64 z:=q68 c4
  obtain rfl:e = .int .i64 m:=q68 c5
  rfl
theorem j8l {Pc:Nat->Nat->Prop} {w:World} (b:ByteArray):q1u (q1x Pc) q2g w (.string b) (.one (e1 (r1 jhq (unB b)))):=by
 show q1u (q1x Pc) q2g w (.string b) (q26 (.string (ba (unB b))))
 rw [qct];exact q0l _
def qvs (h:HdT):Option (List UInt8×Bool):=if qxu h.2.2.2.2 then some (unB (RM.q1b h.1 h.2.1 h.2.2.1 h.2.2.2.1 h.2.2.2.2),decide (RM.may h.1 h.2.1 h.2.2.1 h.2.2.2.1 h.2.2.2.2)) else none
def qzc:FC:={ f:=110,args:=[.one hdS],res:=.tup [jhq,qwx],F:=qvs }
theorem jdk:q18 Inv Tryz.prog qzc:=qbx (by kernel_rfl) rfl fun G hG (a:HdT) r h=>by
 obtain ⟨h1,rfl⟩:=ifs h
 intro Pc w vs _ hlt hv
 obtain ⟨vl⟩:=vs
 match vl,hv with
 | [x],⟨q1,_⟩ =>
  obtain rfl:=hd_of q1
  refine (RecW.q9t a.1 a.2.1 a.2.2.1 a.2.2.2.1 a.2.2.2.2 w h1).mono ?_
  rintro e w' ⟨rfl,hb⟩
  exact ⟨_,Pc,rfl,hb,fun b o hp=>hp,fun b o hp=>Or.inl hp,_,rfl,j8l _,q0l (σ:=q2g) (.bool _),trivial⟩
def qj7 (s:ByteArray):HdT:=if RM.q1w s then (RM.q2x s,(RM.q0i s 2,(RM.q0i s 6,(RM.q0i s 10,RM.q0i s 14)))) else (0,(0,(0,(0,0))))
theorem jby {Pc:Nat->Nat->Prop} {w:World} (s:ByteArray):q1u (q1x Pc) q2g w (RM.qql s) (.one (e1 (r1 hdS (qj7 s)))):=by
 unfold RM.qql qj7
 by_cases c:RM.q1w s
 ·rw [if_pos c,if_pos c];exact qzb _ _ _ _ _
 ·rw [if_neg c,if_neg c];exact qzb _ _ _ _ _
def qit (s:List UInt8):Option (HdT×Bool):=some (qj7 (ba s),decide (RM.q1w (ba s)))
def qnh:FC:={ f:=119,args:=[.one jhq],res:=.tup [hdS,qwx],F:=qit }
theorem qyp:q18 Inv Tryz.prog qnh:=qbx (by kernel_rfl) rfl fun G hG (a:List UInt8) r h=>by
 obtain rfl:=Option.some.inj h
 intro Pc w vs _ hlt hv
 obtain ⟨vl⟩:=vs
 match vl,hv with
 | [x],⟨q1,_⟩ =>
  obtain rfl:x = .string (ba a):=q0o q1
  refine (RecW.jbg (ba a) w).mono ?_
  rintro e w' ⟨rfl,hb⟩
  exact ⟨_,Pc,rfl,hb,fun b o hp=>hp,fun b o hp=>Or.inl hp,_,rfl,jby _,q0l (σ:=q2g) (.bool _),trivial⟩
def jgf (k g q:Int) (s:List UInt8):HdT:=if RM.may k g q (s.length:Int) (SM.q1k 1 s) then (k,(g,(q,((s.length:Int),SM.q1k 1 s)))) else (0,(0,(0,(0,0))))
def qvt (k g q:Int) (s:List UInt8):Option (HdT×Bool):=if s.length<=maxLen then some (jgf k g q s,decide (RM.may k g q (s.length:Int) (SM.q1k 1 s))) else none
def qxf:FC:={ f:=109,args:=[.one qua,.one qua,.one qua,.one jhq],res:=.tup [hdS,qwx],F:=fun p=>qvt p.1 p.2.1 p.2.2.1 p.2.2.2 }
theorem jca:q18 Inv Tryz.prog qxf:=qbx (by kernel_rfl) rfl fun G hG a r h=>by
 obtain ⟨h1,rfl⟩:=ifs h
 obtain ⟨k,g,q,s⟩:=a
 intro Pc w vs _ hlt hv
 obtain ⟨vl⟩:=vs
 match vl,hv with
 | [x,y,z,u],⟨q1,q2,q3,q4,_⟩ =>
  obtain rfl:x = .int .i64 k:=q0o q1
  obtain rfl:y = .int .i64 g:=q0o q2
  obtain rfl:z = .int .i64 q:=q0o q3
  obtain rfl:u = .string (ba s):=q0o q4
  refine (RecW.jch k g q (ba s) w (by rw [q21];exact h1)).mono ?_
  rintro e w' ⟨rfl,hb⟩
  refine ⟨_,Pc,rfl,hb,fun b o hp=>hp,fun b o hp=>Or.inl hp,_,rfl,?_,?_,trivial⟩
  ·unfold RM.jd8 jgf
   rw [q21,qpb]
   by_cases c:RM.may k g q (s.length:Int) (SM.q1k 1 s)
   ·simp only [if_pos c];exact qzb _ _ _ _ _
   ·simp only [if_neg c];exact qzb _ _ _ _ _
  ·rw [q21,qpb];exact q0l (σ:=q2g) (.bool _)
def qvy (l:List (List UInt8)) (n:Int):Option (List UInt8×Bool):=if l.length<=1000/\qxu n then some (unB (RM.qjy (l.map ba) n),decide (RM.q4q (l.map ba) n)) else none
abbrev ssS:S1:=.c (.d (.lst .str))
theorem jl5 (l:List (List UInt8)):e1 (r1 ssS l) = .c (.d (.lst 1 (qb9 (l.map ba)))):=by
 show D1.c (.d (.lst 1 (l.map (q0j .str))))=_
 unfold qb9
 rw [List.map_map]
 rfl
def qzt:FC:={ f:=145,args:=[.one ssS,.one qua],res:=.tup [jhq,qwx],F:=fun p=>qvy p.1 p.2 }
theorem jd5:q18 Inv Tryz.prog qzt:=qbx (by kernel_rfl) rfl fun G hG a r h=>by
 obtain ⟨h1,rfl⟩:=ifs h
 obtain ⟨l,n⟩:=a
 intro Pc w vs _ hlt hv
 obtain ⟨vl⟩:=vs
 match vl,hv with
 | [x,y],⟨q1,q2,_⟩ =>
  obtain rfl:y = .int .i64 n:=q0o q2
  have q1':q1u (q1x Pc) q2g w x (.one (e1 (r1 ssS l))):=q1
  rw [jl5] at q1'
  obtain ⟨a,cap,hx,b1,b2,hs⟩:=jka hlt q1'
  refine (RecW.jb6 (l.map ba) x n w hs (by simpa using h1.1) h1.2).mono ?_
  rintro e w' ⟨rfl,hb⟩
  exact ⟨_,Pc,rfl,hb,fun b o hp=>hp,fun b o hp=>Or.inl hp,_,rfl,j8l _,q0l (σ:=q2g) (.bool _),trivial⟩
def qrq (s:List UInt8):Option (List (List UInt8)):=if s.length<=maxLen then some ((RM.qfj (ba s)).map unB) else none
def qv5:FC:={ f:=79,args:=[.one jhq],res:=.one ssS,F:=qrq }
theorem j4j:q18 Inv Tryz.prog qv5:=qbx (by kernel_rfl) rfl fun G hG (a:List UInt8) r h=>by
 obtain ⟨h1,rfl⟩:=ifs h
 intro Pc w vs _ hlt hv
 obtain ⟨vl⟩:=vs
 match vl,hv with
 | [x],⟨q1,_⟩ =>
  obtain rfl:x = .string (ba a):=q0o q1
  refine (RecW.j6h (ba a) w (by rw [q21];exact h1)).mono ?_
  rintro e w' ⟨v,rfl,hown,hb⟩
  refine ⟨v,fun b o=>Pc b o\/(w.heap.size<=b/\b<w'.heap.size),rfl,hb,fun b o h=>Or.inl h,fun b o h=>h,?_⟩
  have hl:(RM.qfj (ba a)).length=RM.q1e (ba a):=by unfold RM.qfj;simp
  have hsv:=RM.SV.of_owns hl.symm hown
  have ebu:((RM.qfj (ba a)).map unB).map ba=RM.qfj (ba a):=by
   rw [List.map_map]
   exact (List.map_congr_left fun x _=>qct x).trans (List.map_id _)
  show q1u _ q2g w' v (.one (e1 (r1 ssS ((RM.qfj (ba a)).map unB))))
  rw [jl5,ebu]
  obtain ⟨_,ho|⟨g,cap,vs',rfl,hbg,hg,hc1,hc2,_,_⟩⟩:=hown
  ·obtain ⟨rfl,hn⟩:=ho
   exact j48 hsv (by omega) (by unfold maxLen;omega) (fun g hg=>by cases hg)
  ·exact j48 hsv hc1 hc2 (fun g' hg' o hlt'=>by
    obtain rfl:g=g':=by simpa [Value.ownBlock] using hg'
    exact Or.inr ⟨hbg,hlt'⟩)
end YthpgnliicpejoaaGreatDoor.AM
end Go.Proofs
