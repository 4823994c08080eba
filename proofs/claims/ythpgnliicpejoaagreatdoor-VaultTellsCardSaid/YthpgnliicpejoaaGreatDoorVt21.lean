
import Derived.Test.YthpgnliicpejoaaGreatDoorVt20
import Derived.Test.YthpgnliicpejoaaGreatDoorVt7
import Derived.Test.YthpgnliicpejoaaGreatDoorVt9
import Derived.Test.YthpgnliicpejoaaGreatDoorVt16
import Derived.Test.YthpgnliicpejoaaGreatDoorVt17
import Derived.Test.YthpgnliicpejoaaGreatDoorVt8
import Derived.Test.YthpgnliicpejoaaGreatDoorVt5
namespace Go.Proofs.YthpgnliicpejoaaGreatDoor
open Go.RowKit
attribute [local go_sem ↓] Go.wp_at_zero Go.wp_at_succ
namespace RecW
end RecW
end Go.Proofs.YthpgnliicpejoaaGreatDoor
namespace Go.Proofs.YthpgnliicpejoaaGreatDoor
open Go.RowKit
namespace RecW
def exA:ByteArray:=⟨#[68,48,49,50,51,52,53,54,55,56,57,48,49,50,51,52,53,54,55,56,57,48,49,50,51,52,53,54,55,56,57,48]⟩
def exB:ByteArray:=⟨#[68,120,0,0,0,0,0,0,0,0,0,0,0,0,0,0,0,0,0,0,0,0,0,0,0,0,0,0,0,0,0,0]⟩
def Hat (w:World) (b:Nat) (k g q z m:Int):Prop:=b<w.heap.size/\w.cell? ⟨b,0,none⟩=some (.int .i64 k)/\w.cell? ⟨b,1,none⟩=some (.int .i64 g)/\w.cell? ⟨b,2,none⟩=some (.int .i64 q)/\w.cell? ⟨b,3,none⟩=some (.int .i64 z)/\w.cell? ⟨b,4,none⟩=some (.int .i64 m)
theorem Hat.below {w w':World} {b:Nat} {k g q z m:Int} (h:Hat w b k g q z m) (hb:Below w.heap.size w w'):Hat w' b k g q z m :=
 ⟨Nat.lt_of_lt_of_le h.1 hb.size,(hb.cell h.1).trans h.2.1,(hb.cell h.1).trans h.2.2.1,(hb.cell h.1).trans h.2.2.2.1,(hb.cell h.1).trans h.2.2.2.2.1,(hb.cell h.1).trans h.2.2.2.2.2⟩
theorem Hat.set {w w':World} {b B:Nat} {k g q z m:Int} (h:Hat w b k g q z m) (hb:Below B w w') (hB:b<B):Hat w' b k g q z m :=
 ⟨Nat.lt_of_lt_of_le h.1 hb.size,(hb.cell (p:=⟨b,0,none⟩) hB).trans h.2.1,(hb.cell (p:=⟨b,1,none⟩) hB).trans h.2.2.1,(hb.cell (p:=⟨b,2,none⟩) hB).trans h.2.2.2.1,(hb.cell (p:=⟨b,3,none⟩) hB).trans h.2.2.2.2.1,(hb.cell (p:=⟨b,4,none⟩) hB).trans h.2.2.2.2.2⟩
end RecW
end Go.Proofs.YthpgnliicpejoaaGreatDoor
set_option linter.unusedVariables false
namespace Go.Proofs.YthpgnliicpejoaaGreatDoor
open Go.RowKit
namespace RecW
end RecW
end Go.Proofs.YthpgnliicpejoaaGreatDoor
namespace Go.Proofs
open Go.RowKit
set_option linter.unusedVariables false
set_option linter.unusedSimpArgs false
namespace YthpgnliicpejoaaGreatDoor.AM
abbrev AcT:=List (Bool×(Int×List UInt8))
def jmy (l:AcT):List DM.Ac:=l.map fun a=>(a.1,a.2.1,ba a.2.2)
abbrev acS:S1:=.c (.d (.lst (.prod .bool (.prod (.int .i64) .str))))
theorem e1_ac (l:AcT):e1 (r1 acS l) = .c (.d (.lst 3 (ji6 (jmy l)))):=by
 show D1.c (.d (.lst 3 (l.map (q0l (.prod .bool (.prod (.int .i64) .str))))))=_
 unfold ji6 jmy
 rw [List.map_map]
 rfl
def smA (l:AcT):Prop:=l.length<=100000/\∀a∈l,a.2.2.length<=1000
instance (l:AcT):Decidable (smA l):=by unfold smA;infer_instance
def smR (d:DkT):Prop:=d.1.length<=100000/\d.2.length<=100000
instance (d:DkT):Decidable (smR d):=by unfold smR;infer_instance
def j48 (d:DkT) (l:AcT) (x:Int):Option (DkT×Int):=if smR d/\smA l then some (ji8 (DM.jpm (q0x d) ((jmy l).take (min (max x 0) (l.length:Int)).toNat)),DM.jlc (q0x d) ((jmy l).take (min (max x 0) (l.length:Int)).toNat)) else none
theorem j5a (l:AcT):(jmy l).length=l.length:=by simp [jmy]
theorem mmN (x:Int) (l:Nat):min (max x 0) (l:Int)=(((min (max x 0) (l:Int)).toNat:Nat):Int):=by
 have h:(0:Int)<=min (max x 0) (l:Int):=by
  have h1:(0:Int)<=max x 0:=Int.le_max_right _ _
  have h2:(0:Int)<=(l:Int):=by omega
  exact Int.le_min.2 ⟨h1,h2⟩
 exact (Int.toNat_of_nonneg h).symm
def j4b:FC:={ f:=31,args:=[.one dkS,.one acS,.one qo8],res:=.tup [dkS,qo8],F:=fun p=>j48 p.1 p.2.1 p.2.2 }
theorem jjr:q0v Inv Tryz.prog j4b:=q8r (by kernel_rfl) rfl fun G hG a r h=>by
 obtain ⟨h1,rfl⟩:=ifs h
 obtain ⟨d,l,x⟩:=a
 obtain ⟨⟨b1,b2⟩,b3,b4⟩:=h1
 show q15 _ _ _ [.one (e1 (r1 dkS d)),.one (e1 (r1 acS l)),_] (.tup [e1 (r1 dkS _),_])
 rw [qyz,jls,e1_ac]
 refine jq9 hG (q0x d) (jmy l) x (min (max x 0) (l.length:Int)).toNat (by simpa [q0x] using b1) (by simpa [q0x] using b2) (by rw [j5a];exact b3) (fun a ha=>?_) (by rw [j5a];exact mmN x l.length)
 unfold jmy at ha
 obtain ⟨b,hb,rfl⟩:=List.mem_map.1 ha
 show (ba b.2.2).size<=1000
 rw [q29];exact b4 b hb
abbrev HdT:=Int×(Int×(Int×(Int×Int)))
abbrev hdS:S1:=.agg [.d (.int .i64),.d (.int .i64),.d (.int .i64),.d (.int .i64),.d (.int .i64)]
def qot (n:Int):Prop:=-9223372036854775808<=n/\n<=9223372036854775807
instance (n:Int):Decidable (qot n):=by unfold qot;infer_instance
def q4b (n:Int):Option Int:=if qot n then some (RM.q0u n) else none
def qfa:FC:={ f:=77,args:=[.one qo8],res:=.one qo8,F:=q4b }
theorem qlp:q0v Inv Tryz.prog qfa:=q8r (by kernel_rfl) rfl fun G hG (a:Int) r h=>by
 obtain ⟨h1,rfl⟩:=ifs h
 intro Pc w vs _ hlt hv
 obtain ⟨vl⟩:=vs
 match vl,hv with
 | [x],⟨q1,_⟩ =>
  obtain rfl:x = .int .i64 a:=q0r q1
  refine (RecW.qem a w h1).mono ?_
  rintro e w' ⟨rfl,rfl⟩
  exact qa3 rfl (Below.refl _ _) (q0o (σ:=q2d) (.int .i64 _))
def q6j (s:List UInt8):Option Int:=if s.length<=maxLen then some (SM.q1d 1 s) else none
def qza:FC:={ f:=136,args:=[.one j0j],res:=.one qo8,F:=q6j }
theorem jh4:q0v Inv Tryz.prog qza:=q8r (by kernel_rfl) rfl fun G hG (a:List UInt8) r h=>by
 obtain ⟨h1,rfl⟩:=ifs h
 intro Pc w vs _ hlt hv
 obtain ⟨vl⟩:=vs
 match vl,hv with
 | [x],⟨q1,_⟩ =>
  obtain rfl:x = .string (ba a):=q0r q1
  refine (SumW.jha (ba a) w (by rw [q29];exact h1)).mono ?_
  rintro e w' ⟨rfl,rfl⟩
  have e:(ba a).data.toList=a:=by simp [ba]
  rw [e]
  exact qa3 rfl (Below.refl _ _) (q0o (σ:=q2d) (.int .i64 _))
theorem qgv (s:List UInt8):(ba s).data.toList=s:=by simp [ba]
theorem j6h {Pc:Nat->Nat->Prop} {w:World} (k g q z m:Int):q1z (q1y Pc) q2d w (.agg #[.int .i64 k,.int .i64 g,.int .i64 q,.int .i64 z,.int .i64 m]) (.one (e1 (r1 hdS (k,(g,(q,(z,m))))))) :=
 ⟨_,rfl,q3s (σ:=q2d) (.int .i64 k),q3s (σ:=q2d) (.int .i64 g),q3s (σ:=q2d) (.int .i64 q),q3s (σ:=q2d) (.int .i64 z),q3s (σ:=q2d) (.int .i64 m),trivial⟩
theorem hd_of {Pc:Nat->Nat->Prop} {w:World} {v:Value} {h:HdT} (hv:q1z (q1y Pc) q2d w v (.one (e1 (r1 hdS h)))):v = .agg #[.int .i64 h.1,.int .i64 h.2.1,.int .i64 h.2.2.1,.int .i64 h.2.2.2.1,.int .i64 h.2.2.2.2]:=by
 obtain ⟨k,g,q,z,m⟩:=h
 obtain ⟨cs,rfl,hc⟩:=hv
 obtain ⟨cl⟩:=cs
 match cl,hc with
 | [a,b,c,d,e],⟨c1,c2,c3,c4,c5,_⟩ =>
  obtain rfl:a = .int .i64 k:=q6s c1
  obtain rfl:b = .int .i64 g:=q6s c2
  obtain rfl:c = .int .i64 q:=q6s c3
  obtain rfl:d = .int .i64 z:=q6s c4
  obtain rfl:e = .int .i64 m:=q6s c5
  rfl
theorem j1i {Pc:Nat->Nat->Prop} {w:World} (b:ByteArray):q1z (q1y Pc) q2d w (.string b) (.one (e1 (r1 j0j (unB b)))):=by
 show q1z (q1y Pc) q2d w (.string b) (q21 (.string (ba (unB b))))
 rw [qbq];exact q0o _
def q6u (h:HdT):Option (List UInt8×Bool):=if qot h.2.2.2.2 then some (unB (RM.q3i h.1 h.2.1 h.2.2.1 h.2.2.2.1 h.2.2.2.2),decide (RM.may h.1 h.2.1 h.2.2.1 h.2.2.2.1 h.2.2.2.2)) else none
def j5q:FC:={ f:=110,args:=[.one hdS],res:=.tup [j0j,qh2],F:=q6u }
theorem jkd:q0v Inv Tryz.prog j5q:=q8r (by kernel_rfl) rfl fun G hG (a:HdT) r h=>by
 obtain ⟨h1,rfl⟩:=ifs h
 intro Pc w vs _ hlt hv
 obtain ⟨vl⟩:=vs
 match vl,hv with
 | [x],⟨q1,_⟩ =>
  obtain rfl:=hd_of q1
  refine (RecW.qbc a.1 a.2.1 a.2.2.1 a.2.2.2.1 a.2.2.2.2 w h1).mono ?_
  rintro e w' ⟨rfl,hb⟩
  exact ⟨_,Pc,rfl,hb,fun b o hp=>hp,fun b o hp=>Or.inl hp,_,rfl,j1i _,q0o (σ:=q2d) (.bool _),trivial⟩
def q3w (s:ByteArray):HdT:=if RM.q1m s then (RM.q1u s,(RM.q0i s 2,(RM.q0i s 6,(RM.q0i s 10,RM.q0i s 14)))) else (0,(0,(0,(0,0))))
theorem jkx {Pc:Nat->Nat->Prop} {w:World} (s:ByteArray):q1z (q1y Pc) q2d w (RM.qx1 s) (.one (e1 (r1 hdS (q3w s)))):=by
 unfold RM.qx1 q3w
 by_cases c:RM.q1m s
 ·rw [if_pos c,if_pos c];exact j6h _ _ _ _ _
 ·rw [if_neg c,if_neg c];exact j6h _ _ _ _ _
def q8b (s:List UInt8):Option (HdT×Bool):=some (q3w (ba s),decide (RM.q1m (ba s)))
def qt6:FC:={ f:=119,args:=[.one j0j],res:=.tup [hdS,qh2],F:=q8b }
theorem j4r:q0v Inv Tryz.prog qt6:=q8r (by kernel_rfl) rfl fun G hG (a:List UInt8) r h=>by
 obtain rfl:=Option.some.inj h
 intro Pc w vs _ hlt hv
 obtain ⟨vl⟩:=vs
 match vl,hv with
 | [x],⟨q1,_⟩ =>
  obtain rfl:x = .string (ba a):=q0r q1
  refine (RecW.jj0 (ba a) w).mono ?_
  rintro e w' ⟨rfl,hb⟩
  exact ⟨_,Pc,rfl,hb,fun b o hp=>hp,fun b o hp=>Or.inl hp,_,rfl,jkx _,q0o (σ:=q2d) (.bool _),trivial⟩
def qlz:FC:={ f:=127,args:=[.one j0j],res:=.tup [hdS,qh2],F:=q8b }
theorem jhy:q0v Inv Tryz.prog qlz:=by
 have e:(q72 100).F=q8b:=funext fun s=>(jpy 100 (by decide) s)
 have h:=jep 100
 have e2:qlz=q72 100:=by
  show ({ f:=127,args:=[.one j0j],res:=.tup [hdS,qh2],F:=q8b } : FC)=_
  rw [<-e]
  rfl
 rw [e2]
 exact h
def qg0 (k g q:Int) (s:List UInt8):HdT:=if RM.may k g q (s.length:Int) (SM.q1d 1 s) then (k,(g,(q,((s.length:Int),SM.q1d 1 s)))) else (0,(0,(0,(0,0))))
def q4o (k g q:Int) (s:List UInt8):Option (HdT×Bool):=if s.length<=maxLen then some (qg0 k g q s,decide (RM.may k g q (s.length:Int) (SM.q1d 1 s))) else none
def j3j:FC:={ f:=109,args:=[.one qo8,.one qo8,.one qo8,.one j0j],res:=.tup [hdS,qh2],F:=fun p=>q4o p.1 p.2.1 p.2.2.1 p.2.2.2 }
theorem jlk:q0v Inv Tryz.prog j3j:=q8r (by kernel_rfl) rfl fun G hG a r h=>by
 obtain ⟨h1,rfl⟩:=ifs h
 obtain ⟨k,g,q,s⟩:=a
 intro Pc w vs _ hlt hv
 obtain ⟨vl⟩:=vs
 match vl,hv with
 | [x,y,z,u],⟨q1,q2,q3,q4,_⟩ =>
  obtain rfl:x = .int .i64 k:=q0r q1
  obtain rfl:y = .int .i64 g:=q0r q2
  obtain rfl:z = .int .i64 q:=q0r q3
  obtain rfl:u = .string (ba s):=q0r q4
  refine (RecW.jjs k g q (ba s) w (by rw [q29];exact h1)).mono ?_
  rintro e w' ⟨rfl,hb⟩
  refine ⟨_,Pc,rfl,hb,fun b o hp=>hp,fun b o hp=>Or.inl hp,_,rfl,?_,?_,trivial⟩
  ·unfold RM.jjz qg0
   rw [q29,qgv]
   by_cases c:RM.may k g q (s.length:Int) (SM.q1d 1 s)
   ·simp only [if_pos c];exact j6h _ _ _ _ _
   ·simp only [if_neg c];exact j6h _ _ _ _ _
  ·rw [q29,qgv];exact q0o (σ:=q2d) (.bool _)
def qfs (l:List (List UInt8)) (n:Int):Option (List UInt8×Bool):=if l.length<=1000/\qot n then some (unB (RM.qfj (l.map ba) n),decide (RM.q38 (l.map ba) n)) else none
abbrev ssS:S1:=.c (.d (.lst .str))
theorem jr6 (l:List (List UInt8)):e1 (r1 ssS l) = .c (.d (.lst 1 (qd9 (l.map ba)))):=by
 show D1.c (.d (.lst 1 (l.map (q0l .str))))=_
 unfold qd9
 rw [List.map_map]
 rfl
def j7b:FC:={ f:=145,args:=[.one ssS,.one qo8],res:=.tup [j0j,qh2],F:=fun p=>qfs p.1 p.2 }
theorem jm1:q0v Inv Tryz.prog j7b:=q8r (by kernel_rfl) rfl fun G hG a r h=>by
 obtain ⟨h1,rfl⟩:=ifs h
 obtain ⟨l,n⟩:=a
 intro Pc w vs _ hlt hv
 obtain ⟨vl⟩:=vs
 match vl,hv with
 | [x,y],⟨q1,q2,_⟩ =>
  obtain rfl:y = .int .i64 n:=q0r q2
  have q1':q1z (q1y Pc) q2d w x (.one (e1 (r1 ssS l))):=q1
  rw [jr6] at q1'
  obtain ⟨a,cap,hx,b1,b2,hs⟩:=jo0 hlt q1'
  refine (RecW.jir (l.map ba) x n w hs (by simpa using h1.1) h1.2).mono ?_
  rintro e w' ⟨rfl,hb⟩
  exact ⟨_,Pc,rfl,hb,fun b o hp=>hp,fun b o hp=>Or.inl hp,_,rfl,j1i _,q0o (σ:=q2d) (.bool _),trivial⟩
def qpr:FC:={ f:=128,args:=[.one qo8],res:=.one qo8,F:=q4b }
theorem j7m:q0v Inv Tryz.prog qpr:=q8r (by kernel_rfl) rfl fun G hG (a:Int) r h=>by
 obtain ⟨h1,rfl⟩:=ifs h
 intro Pc w vs _ hlt hv
 obtain ⟨vl⟩:=vs
 match vl,hv with
 | [x],⟨q1,_⟩ =>
  obtain rfl:x = .int .i64 a:=q0r q1
  refine (RecW.qg3 a w h1).mono ?_
  rintro e w' ⟨rfl,rfl⟩
  exact qa3 rfl (Below.refl _ _) (q0o (σ:=q2d) (.int .i64 _))
def qvd (s:List UInt8):Option (List (List UInt8)):=if s.length<=maxLen then some ((RM.q59 (ba s)).map unB) else none
def j19:FC:={ f:=79,args:=[.one j0j],res:=.one ssS,F:=qvd }
theorem jhb:q0v Inv Tryz.prog j19:=q8r (by kernel_rfl) rfl fun G hG (a:List UInt8) r h=>by
 obtain ⟨h1,rfl⟩:=ifs h
 intro Pc w vs _ hlt hv
 obtain ⟨vl⟩:=vs
 match vl,hv with
 | [x],⟨q1,_⟩ =>
  obtain rfl:x = .string (ba a):=q0r q1
  refine (RecW.jc2 (ba a) w (by rw [q29];exact h1)).mono ?_
  rintro e w' ⟨v,rfl,hown,hb⟩
  refine ⟨v,fun b o=>Pc b o\/(w.heap.size<=b/\b<w'.heap.size),rfl,hb,fun b o h=>Or.inl h,fun b o h=>h,?_⟩
  have hl:(RM.q59 (ba a)).length=RM.q2l (ba a):=by unfold RM.q59;simp
  have hsv:=RM.SV.of_owns hl.symm hown
  have ebu:((RM.q59 (ba a)).map unB).map ba=RM.q59 (ba a):=by
   rw [List.map_map]
   exact (List.map_congr_left fun x _=>qbq x).trans (List.map_id _)
  show q1z _ q2d w' v (.one (e1 (r1 ssS ((RM.q59 (ba a)).map unB))))
  rw [jr6,ebu]
  obtain ⟨_,ho|⟨g,cap,vs',rfl,hbg,hg,hc1,hc2,_,_⟩⟩:=hown
  ·obtain ⟨rfl,hn⟩:=ho
   exact jcs hsv (by omega) (by unfold maxLen;omega) (fun g hg=>by cases hg)
  ·exact jcs hsv hc1 hc2 (fun g' hg' o hlt'=>by
    obtain rfl:g=g':=by simpa [Value.ownBlock] using hg'
    exact Or.inr ⟨hbg,hlt'⟩)
end YthpgnliicpejoaaGreatDoor.AM
end Go.Proofs
