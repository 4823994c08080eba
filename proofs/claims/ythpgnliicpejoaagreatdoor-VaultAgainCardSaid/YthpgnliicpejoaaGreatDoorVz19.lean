
import Derived.Test.YthpgnliicpejoaaGreatDoorVz18
import Derived.Test.YthpgnliicpejoaaGreatDoorVz7
import Derived.Test.YthpgnliicpejoaaGreatDoorVz9
import Derived.Test.YthpgnliicpejoaaGreatDoorVz15
import Derived.Test.YthpgnliicpejoaaGreatDoorVz8
import Derived.Test.YthpgnliicpejoaaGreatDoorVz5
namespace Go.Proofs.YthpgnliicpejoaaGreatDoor
open Go.RowKit
attribute [local go_sem ↓] Go.wp_at_zero Go.wp_at_succ
namespace RecW
end RecW
end Go.Proofs.YthpgnliicpejoaaGreatDoor
namespace Go.Proofs.YthpgnliicpejoaaGreatDoor
open Go.RowKit
namespace RecW
def exA:ByteArray:=⟨#[68,48,49,50,51,52,53,54,55,56,57,48,49,50,51,52,53,54,55,56,57,48,49,50,51,52,53,54,55,56,57,48]⟩
def exB:ByteArray:=⟨#[68,120,0,0,0,0,0,0,0,0,0,0,0,0,0,0,0,0,0,0,0,0,0,0,0,0,0,0,0,0,0,0]⟩
def Hat (w:World) (b:Nat) (k g q z m:Int):Prop:=b<w.heap.size/\w.cell? ⟨b,0,none⟩=some (.int .i64 k)/\w.cell? ⟨b,1,none⟩=some (.int .i64 g)/\w.cell? ⟨b,2,none⟩=some (.int .i64 q)/\w.cell? ⟨b,3,none⟩=some (.int .i64 z)/\w.cell? ⟨b,4,none⟩=some (.int .i64 m)
theorem Hat.below {w w':World} {b:Nat} {k g q z m:Int} (h:Hat w b k g q z m) (hb:Below w.heap.size w w'):Hat w' b k g q z m :=
 ⟨Nat.lt_of_lt_of_le h.1 hb.size,(hb.cell h.1).trans h.2.1,(hb.cell h.1).trans h.2.2.1,(hb.cell h.1).trans h.2.2.2.1,(hb.cell h.1).trans h.2.2.2.2.1,(hb.cell h.1).trans h.2.2.2.2.2⟩
theorem Hat.set {w w':World} {b B:Nat} {k g q z m:Int} (h:Hat w b k g q z m) (hb:Below B w w') (hB:b<B):Hat w' b k g q z m :=
 ⟨Nat.lt_of_lt_of_le h.1 hb.size,(hb.cell (p:=⟨b,0,none⟩) hB).trans h.2.1,(hb.cell (p:=⟨b,1,none⟩) hB).trans h.2.2.1,(hb.cell (p:=⟨b,2,none⟩) hB).trans h.2.2.2.1,(hb.cell (p:=⟨b,3,none⟩) hB).trans h.2.2.2.2.1,(hb.cell (p:=⟨b,4,none⟩) hB).trans h.2.2.2.2.2⟩
end RecW
end Go.Proofs.YthpgnliicpejoaaGreatDoor
set_option linter.unusedVariables false
namespace Go.Proofs.YthpgnliicpejoaaGreatDoor
open Go.RowKit
namespace RecW
end RecW
end Go.Proofs.YthpgnliicpejoaaGreatDoor
namespace Go.Proofs
open Go.RowKit
set_option linter.unusedVariables false
set_option linter.unusedSimpArgs false
namespace YthpgnliicpejoaaGreatDoor.AM
abbrev AcT:=List (Bool×(Int×List UInt8))
def qzp (l:AcT):List DM.Ac:=l.map fun a=>(a.1,a.2.1,ba a.2.2)
abbrev acS:S1:=.c (.d (.lst (.prod .bool (.prod (.int .i64) .str))))
theorem jgv (l:AcT):e1 (r1 acS l) = .c (.d (.lst 3 (qmz (qzp l)))):=by
 show D1.c (.d (.lst 3 (l.map (q0i (.prod .bool (.prod (.int .i64) .str))))))=_
 unfold qmz qzp
 rw [List.map_map]
 rfl
def smA (l:AcT):Prop:=l.length<=100000/\∀a∈l,a.2.2.length<=1000
instance (l:AcT):Decidable (smA l):=by unfold smA;infer_instance
def smR (d:DkT):Prop:=d.1.length<=100000/\d.2.length<=100000
instance (d:DkT):Decidable (smR d):=by unfold smR;infer_instance
def q3n (d:DkT) (l:AcT) (x:Int):Option (DkT×Int):=if smR d/\smA l then some (q3f (DM.qt1 (q29 d) ((qzp l).take (min (max x 0) (l.length:Int)).toNat)),DM.qkr (q29 d) ((qzp l).take (min (max x 0) (l.length:Int)).toNat)) else none
theorem qe5 (l:AcT):(qzp l).length=l.length:=by simp [qzp]
theorem mmN (x:Int) (l:Nat):min (max x 0) (l:Int)=(((min (max x 0) (l:Int)).toNat:Nat):Int):=by
 have h:(0:Int)<=min (max x 0) (l:Int):=by
  have h1:(0:Int)<=max x 0:=Int.le_max_right _ _
  have h2:(0:Int)<=(l:Int):=by omega
  exact Int.le_min.2 ⟨h1,h2⟩
 exact (Int.toNat_of_nonneg h).symm
def qmc:FC:={ f:=24,args:=[.one dkS,.one acS,.one qqj],res:=.tup [dkS,qqj],F:=fun p=>q3n p.1 p.2.1 p.2.2 }
theorem qqv:q1a Inv Tryz.prog qmc:=q8i (by kernel_rfl) rfl fun G hG a r h=>by
 obtain ⟨h1,rfl⟩:=ifs h
 obtain ⟨d,l,x⟩:=a
 obtain ⟨⟨b1,b2⟩,b3,b4⟩:=h1
 show q0z _ _ _ [.one (e1 (r1 dkS d)),.one (e1 (r1 acS l)),_] (.tup [e1 (r1 dkS _),_])
 rw [qki,qrc,jgv]
 refine jgh (q29 d) (qzp l) x (min (max x 0) (l.length:Int)).toNat (by simpa [q29] using b1) (by simpa [q29] using b2) (by rw [qe5];exact b3) (fun a ha=>?_) (by rw [qe5];exact mmN x l.length)
 unfold qzp at ha
 obtain ⟨b,hb,rfl⟩:=List.mem_map.1 ha
 show (ba b.2.2).size<=maxLen
 rw [q23];have:=b4 b hb;unfold maxLen;omega
def qus:FC:={ f:=31,args:=[.one dkS,.one acS,.one qqj],res:=.tup [dkS,qqj],F:=fun p=>q3n p.1 p.2.1 p.2.2 }
theorem j7n:q1a Inv Tryz.prog qus:=q8i (by kernel_rfl) rfl fun G hG a r h=>by
 obtain ⟨h1,rfl⟩:=ifs h
 obtain ⟨d,l,x⟩:=a
 obtain ⟨⟨b1,b2⟩,b3,b4⟩:=h1
 show q0z _ _ _ [.one (e1 (r1 dkS d)),.one (e1 (r1 acS l)),_] (.tup [e1 (r1 dkS _),_])
 rw [qki,qrc,jgv]
 refine jde hG (q29 d) (qzp l) x (min (max x 0) (l.length:Int)).toNat (by simpa [q29] using b1) (by simpa [q29] using b2) (by rw [qe5];exact b3) (fun a ha=>?_) (by rw [qe5];exact mmN x l.length)
 unfold qzp at ha
 obtain ⟨b,hb,rfl⟩:=List.mem_map.1 ha
 show (ba b.2.2).size<=1000
 rw [q23];exact b4 b hb
abbrev HdT:=Int×(Int×(Int×(Int×Int)))
abbrev hdS:S1:=.agg [.d (.int .i64),.d (.int .i64),.d (.int .i64),.d (.int .i64),.d (.int .i64)]
def qwg (n:Int):Prop:=-9223372036854775808<=n/\n<=9223372036854775807
instance (n:Int):Decidable (qwg n):=by unfold qwg;infer_instance
def q6t (n:Int):Option Int:=if qwg n then some (RM.q0u n) else none
def qa4:FC:={ f:=77,args:=[.one qqj],res:=.one qqj,F:=q6t }
theorem qg6:q1a Inv Tryz.prog qa4:=q8i (by kernel_rfl) rfl fun G hG (a:Int) r h=>by
 obtain ⟨h1,rfl⟩:=ifs h
 intro Pc w vs _ hlt hv
 obtain ⟨vl⟩:=vs
 match vl,hv with
 | [x],⟨q1,_⟩ =>
  obtain rfl:x = .int .i64 a:=q0n q1
  refine (RecW.qb2 a w h1).mono ?_
  rintro e w' ⟨rfl,rfl⟩
  exact qcd rfl (Below.refl _ _) (q0l (σ:=q2f) (.int .i64 _))
def qmq (s:List UInt8):Option Int:=if s.length<=maxLen then some (SM.q1f 1 s) else none
def qnj:FC:={ f:=136,args:=[.one jb9],res:=.one qqj,F:=qmq }
theorem j4v:q1a Inv Tryz.prog qnj:=q8i (by kernel_rfl) rfl fun G hG (a:List UInt8) r h=>by
 obtain ⟨h1,rfl⟩:=ifs h
 intro Pc w vs _ hlt hv
 obtain ⟨vl⟩:=vs
 match vl,hv with
 | [x],⟨q1,_⟩ =>
  obtain rfl:x = .string (ba a):=q0n q1
  refine (SumW.j4s (ba a) w (by rw [q23];exact h1)).mono ?_
  rintro e w' ⟨rfl,rfl⟩
  have e:(ba a).data.toList=a:=by simp [ba]
  rw [e]
  exact qcd rfl (Below.refl _ _) (q0l (σ:=q2f) (.int .i64 _))
theorem qjx (s:List UInt8):(ba s).data.toList=s:=by simp [ba]
theorem quk {Pc:Nat->Nat->Prop} {w:World} (k g q z m:Int):q1q (q1s Pc) q2f w (.agg #[.int .i64 k,.int .i64 g,.int .i64 q,.int .i64 z,.int .i64 m]) (.one (e1 (r1 hdS (k,(g,(q,(z,m))))))) :=
 ⟨_,rfl,q2e (σ:=q2f) (.int .i64 k),q2e (σ:=q2f) (.int .i64 g),q2e (σ:=q2f) (.int .i64 q),q2e (σ:=q2f) (.int .i64 z),q2e (σ:=q2f) (.int .i64 m),trivial⟩
theorem hd_of {Pc:Nat->Nat->Prop} {w:World} {v:Value} {h:HdT} (hv:q1q (q1s Pc) q2f w v (.one (e1 (r1 hdS h)))):v = .agg #[.int .i64 h.1,.int .i64 h.2.1,.int .i64 h.2.2.1,.int .i64 h.2.2.2.1,.int .i64 h.2.2.2.2]:=by
 obtain ⟨k,g,q,z,m⟩:=h
 obtain ⟨cs,rfl,hc⟩:=hv
 obtain ⟨cl⟩:=cs
 match cl,hc with
 | [a,b,c,d,e],⟨c1,c2,c3,c4,c5,_⟩ =>
  obtain rfl:a = .int .i64 k:=q5h c1
  obtain rfl:b = .int .i64 g:=q5h c2
  obtain rfl:c = .int .i64 q:=q5h c3
  obtain rfl:d = .int .i64 z:=q5h c4
  obtain rfl:e = .int .i64 m:=q5h c5
  rfl
theorem j2s {Pc:Nat->Nat->Prop} {w:World} (b:ByteArray):q1q (q1s Pc) q2f w (.string b) (.one (e1 (r1 jb9 (unB b)))):=by
 show q1q (q1s Pc) q2f w (.string b) (q1x (.string (ba (unB b))))
 rw [q9g];exact q0l _
def qr7 (h:HdT):Option (List UInt8×Bool):=if qwg h.2.2.2.2 then some (unB (RM.q18 h.1 h.2.1 h.2.2.1 h.2.2.2.1 h.2.2.2.2),decide (RM.may h.1 h.2.1 h.2.2.1 h.2.2.2.1 h.2.2.2.2)) else none
def qu1:FC:={ f:=110,args:=[.one hdS],res:=.tup [jb9,qpa],F:=qr7 }
theorem j8b:q1a Inv Tryz.prog qu1:=q8i (by kernel_rfl) rfl fun G hG (a:HdT) r h=>by
 obtain ⟨h1,rfl⟩:=ifs h
 intro Pc w vs _ hlt hv
 obtain ⟨vl⟩:=vs
 match vl,hv with
 | [x],⟨q1,_⟩ =>
  obtain rfl:=hd_of q1
  refine (RecW.q87 a.1 a.2.1 a.2.2.1 a.2.2.2.1 a.2.2.2.2 w h1).mono ?_
  rintro e w' ⟨rfl,hb⟩
  exact ⟨_,Pc,rfl,hb,fun b o hp=>hp,fun b o hp=>Or.inl hp,_,rfl,j2s _,q0l (σ:=q2f) (.bool _),trivial⟩
def qep (s:ByteArray):HdT:=if RM.q1r s then (RM.q2s s,(RM.q0h s 2,(RM.q0h s 6,(RM.q0h s 10,RM.q0h s 14)))) else (0,(0,(0,(0,0))))
theorem j70 {Pc:Nat->Nat->Prop} {w:World} (s:ByteArray):q1q (q1s Pc) q2f w (RM.qqg s) (.one (e1 (r1 hdS (qep s)))):=by
 unfold RM.qqg qep
 by_cases c:RM.q1r s
 ·rw [if_pos c,if_pos c];exact quk _ _ _ _ _
 ·rw [if_neg c,if_neg c];exact quk _ _ _ _ _
def qfl (s:List UInt8):Option (HdT×Bool):=some (qep (ba s),decide (RM.q1r (ba s)))
def qlq:FC:={ f:=119,args:=[.one jb9],res:=.tup [hdS,qpa],F:=qfl }
theorem qwa:q1a Inv Tryz.prog qlq:=q8i (by kernel_rfl) rfl fun G hG (a:List UInt8) r h=>by
 obtain rfl:=Option.some.inj h
 intro Pc w vs _ hlt hv
 obtain ⟨vl⟩:=vs
 match vl,hv with
 | [x],⟨q1,_⟩ =>
  obtain rfl:x = .string (ba a):=q0n q1
  refine (RecW.j82 (ba a) w).mono ?_
  rintro e w' ⟨rfl,hb⟩
  exact ⟨_,Pc,rfl,hb,fun b o hp=>hp,fun b o hp=>Or.inl hp,_,rfl,j70 _,q0l (σ:=q2f) (.bool _),trivial⟩
def jca (k g q:Int) (s:List UInt8):HdT:=if RM.may k g q (s.length:Int) (SM.q1f 1 s) then (k,(g,(q,((s.length:Int),SM.q1f 1 s)))) else (0,(0,(0,(0,0))))
def qsp (k g q:Int) (s:List UInt8):Option (HdT×Bool):=if s.length<=maxLen then some (jca k g q s,decide (RM.may k g q (s.length:Int) (SM.q1f 1 s))) else none
def qwl:FC:={ f:=109,args:=[.one qqj,.one qqj,.one qqj,.one jb9],res:=.tup [hdS,qpa],F:=fun p=>qsp p.1 p.2.1 p.2.2.1 p.2.2.2 }
theorem j7z:q1a Inv Tryz.prog qwl:=q8i (by kernel_rfl) rfl fun G hG a r h=>by
 obtain ⟨h1,rfl⟩:=ifs h
 obtain ⟨k,g,q,s⟩:=a
 intro Pc w vs _ hlt hv
 obtain ⟨vl⟩:=vs
 match vl,hv with
 | [x,y,z,u],⟨q1,q2,q3,q4,_⟩ =>
  obtain rfl:x = .int .i64 k:=q0n q1
  obtain rfl:y = .int .i64 g:=q0n q2
  obtain rfl:z = .int .i64 q:=q0n q3
  obtain rfl:u = .string (ba s):=q0n q4
  refine (RecW.j94 k g q (ba s) w (by rw [q23];exact h1)).mono ?_
  rintro e w' ⟨rfl,hb⟩
  refine ⟨_,Pc,rfl,hb,fun b o hp=>hp,fun b o hp=>Or.inl hp,_,rfl,?_,?_,trivial⟩
  ·unfold RM.j6q jca
   rw [q23,qjx]
   by_cases c:RM.may k g q (s.length:Int) (SM.q1f 1 s)
   ·simp only [if_pos c];exact quk _ _ _ _ _
   ·simp only [if_neg c];exact quk _ _ _ _ _
  ·rw [q23,qjx];exact q0l (σ:=q2f) (.bool _)
def qqo (l:List (List UInt8)) (n:Int):Option (List UInt8×Bool):=if l.length<=1000/\qwg n then some (unB (RM.qhc (l.map ba) n),decide (RM.q48 (l.map ba) n)) else none
abbrev ssS:S1:=.c (.d (.lst .str))
theorem jh8 (l:List (List UInt8)):e1 (r1 ssS l) = .c (.d (.lst 1 (q9a (l.map ba)))):=by
 show D1.c (.d (.lst 1 (l.map (q0i .str))))=_
 unfold q9a
 rw [List.map_map]
 rfl
def qvj:FC:={ f:=145,args:=[.one ssS,.one qqj],res:=.tup [jb9,qpa],F:=fun p=>qqo p.1 p.2 }
theorem j79:q1a Inv Tryz.prog qvj:=q8i (by kernel_rfl) rfl fun G hG a r h=>by
 obtain ⟨h1,rfl⟩:=ifs h
 obtain ⟨l,n⟩:=a
 intro Pc w vs _ hlt hv
 obtain ⟨vl⟩:=vs
 match vl,hv with
 | [x,y],⟨q1,q2,_⟩ =>
  obtain rfl:y = .int .i64 n:=q0n q2
  have q1':q1q (q1s Pc) q2f w x (.one (e1 (r1 ssS l))):=q1
  rw [jh8] at q1'
  obtain ⟨a,cap,hx,b1,b2,hs⟩:=jg6 hlt q1'
  refine (RecW.j8o (l.map ba) x n w hs (by simpa using h1.1) h1.2).mono ?_
  rintro e w' ⟨rfl,hb⟩
  exact ⟨_,Pc,rfl,hb,fun b o hp=>hp,fun b o hp=>Or.inl hp,_,rfl,j2s _,q0l (σ:=q2f) (.bool _),trivial⟩
def qov (s:List UInt8):Option (List (List UInt8)):=if s.length<=maxLen then some ((RM.qd0 (ba s)).map unB) else none
def qrr:FC:={ f:=79,args:=[.one jb9],res:=.one ssS,F:=qov }
theorem j5f:q1a Inv Tryz.prog qrr:=q8i (by kernel_rfl) rfl fun G hG (a:List UInt8) r h=>by
 obtain ⟨h1,rfl⟩:=ifs h
 intro Pc w vs _ hlt hv
 obtain ⟨vl⟩:=vs
 match vl,hv with
 | [x],⟨q1,_⟩ =>
  obtain rfl:x = .string (ba a):=q0n q1
  refine (RecW.j49 (ba a) w (by rw [q23];exact h1)).mono ?_
  rintro e w' ⟨v,rfl,hown,hb⟩
  refine ⟨v,fun b o=>Pc b o\/(w.heap.size<=b/\b<w'.heap.size),rfl,hb,fun b o h=>Or.inl h,fun b o h=>h,?_⟩
  have hl:(RM.qd0 (ba a)).length=RM.q1b (ba a):=by unfold RM.qd0;simp
  have hsv:=RM.SV.of_owns hl.symm hown
  have ebu:((RM.qd0 (ba a)).map unB).map ba=RM.qd0 (ba a):=by
   rw [List.map_map]
   exact (List.map_congr_left fun x _=>q9g x).trans (List.map_id _)
  show q1q _ q2f w' v (.one (e1 (r1 ssS ((RM.qd0 (ba a)).map unB))))
  rw [jh8,ebu]
  obtain ⟨_,ho|⟨g,cap,vs',rfl,hbg,hg,hc1,hc2,_,_⟩⟩:=hown
  ·obtain ⟨rfl,hn⟩:=ho
   exact j23 hsv (by omega) (by unfold maxLen;omega) (fun g hg=>by cases hg)
  ·exact j23 hsv hc1 hc2 (fun g' hg' o hlt'=>by
    obtain rfl:g=g':=by simpa [Value.ownBlock] using hg'
    exact Or.inr ⟨hbg,hlt'⟩)
end YthpgnliicpejoaaGreatDoor.AM
end Go.Proofs
