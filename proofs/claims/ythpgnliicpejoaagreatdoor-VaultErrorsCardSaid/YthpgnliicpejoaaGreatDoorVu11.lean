
import Derived.Test.YthpgnliicpejoaaGreatDoorVu10
import Derived.Test.YthpgnliicpejoaaGreatDoorVu9
namespace Go.Proofs.YthpgnliicpejoaaGreatDoor
open Go.RowKit
set_option linter.unusedVariables false
theorem DM.OD.caps {w:World} {base:Nat} {T1 T2:TypeId} {a1 a2:Option Addr} {n k1 m k2:Nat} {d:DM.Dk} (h:DM.OD w base T1 T2 (.slice a1 n k1) (.slice a2 m k2) d):n<=k1/\k1<=maxLen/\m<=k2/\k2<=maxLen:=by
 have f : ∀{e:TypeId} {size:Nat} {a:Option Addr} {n k j:Nat} {xs:List Value},w.ownsRow base e size (.slice a n k) j xs->n<=k/\k<=maxLen:=by
  intro e size a n k j xs hx
  rcases hx.2 with ⟨h1,h2⟩|⟨g,cap,cur,h1,h2,h3,h4,h5,h6⟩
  ·simp only [Value.slice.injEq] at h1
   exact ⟨by omega,by rw [h1.2.2];exact Nat.zero_le _⟩
  ·simp only [Value.slice.injEq] at h1
   exact ⟨by omega,by rw [h1.2.2];exact h5⟩
 exact ⟨(f h.secs).1,(f h.secs).2,(f h.cache).1,(f h.cache).2⟩
namespace DiskW
set_option maxHeartbeats 6400000 in
set_option maxRecDepth 100000 in
theorem jfp (a1 a2:Option Addr) (k1 k2 n m:Nat) (d:DM.Dk) (a3:Option Addr) (k3:Nat) (l:List DM.Ac) (x:Int) (N:Nat) (w:World) (h:DM.DV w (.slice a1 n k1) (.slice a2 m k2) d) (hn:d.secs.length=n) (hm:d.cache.length=m) (b1:n<=100000) (b2:m<=100000)
  (hl:DM.AV w (.slice a3 l.length k3) l) (b3:l.length<=100000) (hsz : ∀a∈l,a.2.2.size<=maxLen) (hN:min (max x 0) (l.length:Int)=(N:Int)) :
  Calls Tryz.prog 24 #[.agg #[.slice a1 n k1,.slice a2 m k2],.slice a3 l.length k3,.int .i64 x] w fun e w'=>∃ a3 n3 k3 a4 n4 k4,e = .returned (.tuple #[.agg #[.slice a3 n3 k3,.slice a4 n4 k4],.int .i64 (DM.qp4 d (l.take N))]) /\
   DM.DV w' (.slice a3 n3 k3) (.slice a4 n4 k4) (DM.qui d (l.take N))/\Below w.heap.size w w'/\(∀k,DM.q9c (.slice a3 n3 k3) (.slice a4 n4 k4) k->w.heap.size<=k)/\(n3<=k3/\k3<=maxLen/\n4<=k4/\k4<=maxLen):=by
 have hNl:N<=l.length:=by omega
 obtain ⟨L,hL⟩ : ∃ L,l.take N=L:=⟨_,rfl⟩
 have hLl:L.length=N:=by rw [<-hL];simp;omega
 have hLs : ∀a∈L,a.2.2.size<=maxLen:=fun a ha=>hsz a (by rw [<-hL] at ha;exact List.mem_of_mem_take ha)
 have hcap:l.length<=k3/\k3<=9223372036854775807/\(0<N->∃ b off,a3=some ⟨b,off,none⟩/\b<w.heap.size/\∀k (h:k<L.length),w.cell? ⟨b,off+k*3,none⟩=some (.bool L[k].1)/\w.cell? ⟨b,off+k*3+1,none⟩=some (.int .i64 L[k].2.1)/\w.cell? ⟨b,off+k*3+2,none⟩=some (.string L[k].2.2)):=by
  obtain ⟨a,c,e,g1,g2,g3⟩:=hl
  simp only [Value.slice.injEq] at e
  obtain ⟨e1,e2,e3⟩:=e
  refine ⟨by omega,by omega,fun h0=>?_⟩
  obtain ⟨b,off,g4,g5,g6⟩:=g3 (by omega)
  refine ⟨b,off,e1.trans g4,g5,fun k hk=>?_⟩
  have:=g6 k (by omega)
  have hlk:L[k]=l[k]'(by omega):=by simp only [<-hL];rw [List.getElem_take]
  rw [hlk]
  exact this
 obtain ⟨hcap1,hcap2,hacts⟩:=hcap
 rw [hL]
 clear hl hsz hL
 have C1:Hid (∀w',DM.DV w' (.slice a1 n k1) (.slice a2 m k2) d->Calls Tryz.prog 53 #[.agg #[.slice a1 n k1,.slice a2 m k2]] w' fun e w''=>∃ a1 k1 a2 k2,e = .returned (.agg #[.slice a1 n k1,.slice a2 m k2])/\DM.OD w'' w'.heap.size 9 67 (.slice a1 n k1) (.slice a2 m k2) d/\Below w'.heap.size w' w''):=Lib.hid (fun w' h=>by
  have:=qq9 _ _ d w' h (by omega) (by omega)
  rw [hn,hm] at this
  exact this)
 obtain ⟨z,hz⟩ : ∃ z,decide (DM.q2s d)=z:=⟨_,rfl⟩
 have C2:Hid (∀w',DM.DV w' (.slice a1 n k1) (.slice a2 m k2) d->Calls Tryz.prog 54 #[.agg #[.slice a1 n k1,.slice a2 m k2]] w' fun e w''=>e = .returned (.bool z)/\Below w'.heap.size w' w''):=Lib.hid (fun w' h=>by
  have:=q86 _ _ d w' h (by omega) (by omega)
  rw [hz] at this
  exact this)
 have C3:Hid (∀i s,s.size<=maxLen->DM.q20 n i s≠0->∀a1 k1 a2 m2 k2 w',Calls Tryz.prog 56 #[.agg #[.slice a1 n k1,.slice a2 m2 k2],.int .i64 i,.string s] w' fun e w''=>e = .returned (.tuple #[.agg #[.slice a1 n k1,.slice a2 m2 k2],.int .i64 (DM.q20 n i s)])/\Below w'.heap.size w' w''):=Lib.hid (fun i s hs he a1 k1 a2 m2 k2 w'=>jcm a1 a2 n k1 m2 k2 i s w' (by omega) hs he)
 have C4:Hid (∀D:DM.Dk,D.secs.length=n->∀i s,DM.q20 n i s=0->∀base a1 k1 a2 m2 k2 w',m2<=1000000->DM.OD w' base 9 67 (.slice a1 n k1) (.slice a2 m2 k2) D->base<=w'.heap.size->Calls Tryz.prog 56 #[.agg #[.slice a1 n k1,.slice a2 m2 k2],.int .i64 i,.string s] w' fun e w''=>∃ a3 k3,e = .returned (.tuple #[.agg #[.slice a1 n k1,.slice a3 (m2+1) k3],.int .i64 0]) /\
   DM.OD w'' base 9 67 (.slice a1 n k1) (.slice a3 (m2+1) k3) (DM.j3i D i s)/\DM.But (DM.q9c (.slice a1 n k1) (.slice a2 m2 k2)) w' w''/\(∀k,DM.q9c (.slice a1 n k1) (.slice a3 (m2+1) k3) k->DM.q9c (.slice a1 n k1) (.slice a2 m2 k2) k\/w'.heap.size<=k)):=Lib.hid (fun D hD i s he base a1 k1 a2 m2 k2 w' hm2 h hb=>by
  obtain ⟨hi,hs⟩:=DM.qqt he
  obtain rfl:D.secs.length=n:=hD
  have hm2':D.cache.length=m2:=(DM.DV.len h.dv).2
  subst hm2'
  exact j92 base a1 a2 k1 k2 D i s w' h hb (by omega) hm2 hi hs)
 have C5:Hid (∀D:DM.Dk,D.secs.length=n->DM.q2s D->∀base a1 k1 a2 m2 k2 w',m2<=1000000->DM.OD w' base 9 67 (.slice a1 n k1) (.slice a2 m2 k2) D->base<=w'.heap.size->Calls Tryz.prog 55 #[.agg #[.slice a1 n k1,.slice a2 m2 k2]] w' fun e w''=>e = .returned (.agg #[.slice a1 n k1,.slice none 0 0]) /\
   DM.OD w'' base 9 67 (.slice a1 n k1) (.slice none 0 0) (DM.q1n (fun _=>true) D)/\DM.But (DM.q9c (.slice a1 n k1) (.slice a2 m2 k2)) w' w''):=Lib.hid (fun D hD hmay base a1 k1 a2 m2 k2 w' hm2 h hb=>qs9 base a1 a2 k1 k2 n m2 D w' h hb hD (DM.DV.len h.dv).2 hmay hm2)
 have H:=Lib.hid h;clear h
 have HN:=Lib.hid hn;clear hn
 have HM:=Lib.hid hm;clear hm
 have HLS:=Lib.hid hLs;clear hLs
 have HLL:=Lib.hid hLl;clear hLl
 have HACT:=Lib.hid hacts;clear hacts
 have HZ:=Lib.hid hz;clear hz
 obtain ⟨E,hE⟩ : ∃ E,DM.qp4 d L=E:=⟨_,rfl⟩
 obtain ⟨R,hR⟩ : ∃ R,DM.qui d L=R:=⟨_,rfl⟩
 rw [hE,hR]
 have HE:=Lib.hid hE;clear hE
 have HR:=Lib.hid hR;clear hR
 cases z
 all_goals
  go_enter Tryz.func24,Tryz.ntmps24
  go_wp2_with fail
  have V:=Lib.hid (DM.Var.two w (.slice a1 n k1) (.slice a2 m k2) (.slice none 0 0) (.slice none 0 0) 25)
  have B0:=Lib.hid (DM.qjw w (.cells #[.slice a1 n k1,.slice a2 m k2] 25) (.cells #[.slice none 0 0,.slice none 0 0] 25))
  have hz0:w.heap.size+1<((w.alloc (.cells #[.slice a1 n k1,.slice a2 m k2] 25)).alloc (.cells #[.slice none 0 0,.slice none 0 0] 25)).heap.size:=by simp
  generalize hW0:(w.alloc (.cells #[.slice a1 n k1,.slice a2 m k2] 25)).alloc (.cells #[.slice none 0 0,.slice none 0 0] 25)=W0 at *
  clear hW0
  refine (C1.out _ (H.out.below B0.out)).mono ?_;rintro e w1 ⟨b1',q1,b2',q2,rfl,O1,B1⟩
  have hnot:Hid (¬ DM.q9c (.slice b1' n q1) (.slice b2' m q2) w1.heap.size):=Lib.hid (fun h=>by have:=(O1.ge _ h).2;omega)
  have O1:=Lib.hid O1
  have A1:=Lib.hid (V.out.1.below B1)
  have R1:=Lib.hid (V.out.2.below B1)
  have BW1:Below w.heap.size w w1:=B0.out.trans (B1.mono B0.out.size)
  have D1:=Lib.hid (H.out.below BW1)
  have c0:=A1.out.c0
  have c1:=A1.out.c1
  have l0:=A1.out.lt
  have z1:=B1.size
  have HB1:=Lib.hid B1;clear B1
  go_wp2_with fail
  have BA:Below w1.heap.size w1 (w1.alloc (.cells #[.slice b1' n q1,.slice b2' m q2] 25)):=(Below.refl _ _).alloc (Nat.le_refl _) _
  refine (C2.out _ (D1.out.below BA)).mono ?_;rintro e w2 ⟨rfl,B2⟩
  have O2:=Lib.hid ((O1.out.below BA).below B2)
  have A2:=Lib.hid ((A1.out.below BA).below B2)
  have R2:=Lib.hid ((R1.out.below BA).below B2)
  have S2:=Lib.hid ((DM.Var.made w1 (.slice b1' n q1) (.slice b2' m q2) 25).below B2)
  have BW2:Below w.heap.size w w2:=(BW1.trans (BA.mono BW1.size)).trans (B2.mono (by have:=BW1.size;simp;omega))
  have z2:W0.heap.size<=w2.heap.size:=by have:=B2.size;simp at this;omega
  have s0:=S2.out.c0
  have s1:=S2.out.c1
  have r0:=R2.out.c0
  have r1:=R2.out.c1
  have g0:=R2.out.f0
  have g1:=R2.out.f1
  have l2:=S2.out.lt
  have l3:=R2.out.lt
  clear B2 BA c0 c1 l0 D1 O1 A1 R1
 ·have eE:E=1:=by rw [<-HE.out];exact if_neg (of_decide_eq_false HZ.out)
  have eR:R=d:=by rw [<-HR.out];exact if_neg (fun h=>of_decide_eq_false HZ.out h.1)
  subst eE eR
  go_wp2_with fail
  refine bodyPost_ret (q2f rfl _ _ (w.heap.size+1) b1' b2' n q1 m q2 rfl (by go_simp) (by go_simp)) rfl ⟨b1',n,q1,b2',m,q2,rfl,?_,?_,?_,?_⟩
  ·exact DM.DV.but O2.out (DM.set2 (B:=w.heap.size+1) (u:=.slice b1' n q1) (v:=.slice b2' m q2)) (fun k hk=>by omega)
  ·exact (BW2.setCell (by simp) _).setCell (by simp) _
  ·exact fun j hj=>by have:=(O2.out.ge j hj).1;omega
  ·exact DM.OD.caps O2.out
 ·have HMAY:Hid (DM.q2s d):=Lib.hid (of_decide_eq_true HZ.out)
  have hNi:(N:Int)<=(l.length:Int):=by omega
  have hNk:(N:Int)<=(k3:Int):=by omega
  clear s0 s1 r0 r1 g0 g1
  go_wp2_with fail
  go_loopw [26] (fun i wr=>∃ k:Nat,k<=N/\i = .int .i64 k/\(∀j (h:j<L.length),j<k->DM.q3y n L[j])/\DM.Var wr w.heap.size (.slice a1 n k1) (.slice a2 m k2)/\DM.Var wr (w.heap.size+1) (.slice none 0 0) (.slice none 0 0) /\
   (∃ p1 t1 p2 m2 t2,DM.Var wr w1.heap.size (.slice p1 n t1) (.slice p2 m2 t2)/\DM.OD wr W0.heap.size 9 67 (.slice p1 n t1) (.slice p2 m2 t2) (DM.runK d (L.take k))/\¬ DM.q9c (.slice p1 n t1) (.slice p2 m2 t2) w1.heap.size)/\Below w.heap.size w wr) (fun i _=>N - (intOf i).toNat)
  case atStart=>exact ⟨0,Nat.zero_le _,rfl,fun j _ h=>by omega,A2.out,R2.out,⟨_,_,_,_,_,S2.out,O2.out,hnot.out⟩,BW2⟩
  case round =>
   clear A2 R2 S2 O2 hnot BW2 l2 l3 z2
   obtain ⟨k,hk,rfl,hall,VA,VR,⟨p1,t1,p2,m2,t2,VS,O,hno⟩,BU⟩:=hrel
   have HALL:=Lib.hid hall;clear hall
   have HVA:=Lib.hid VA
   have HVR:=Lib.hid VR
   have HVS:=Lib.hid VS
   have HO:=Lib.hid O
   have HNO:=Lib.hid hno;clear hno
   have hm2:m2<=200000:=by
    have h1:=(DM.DV.len O.dv).2
    have h2:=DM.ql0 d (L.take k)
    have h3:=HM.out
    have h4:(L.take k).length<=N:=by simp;omega
    omega
   have HD:Hid ((DM.runK d (L.take k)).secs.length=n):=Lib.hid (by rw [DM.qmx,HN.out])
   have s0:=VS.c0
   have s1:=VS.c1
   have sf0:=VS.f0
   have sf1:=VS.f1
   have ls:=VS.lt
   clear VA VR VS O
   by_cases hkN:k<N
   ·have hkL:k<L.length:=by rw [HLL.out];exact hkN
    obtain ⟨g,off,rfl,hg,hcs⟩:=HACT.out (by omega)
    have x0:wr.cell? ⟨g,off+k*3,none⟩=some (.bool L[k].1):=(BU.cell (p:=⟨g,off+k*3,none⟩) hg).trans (hcs k hkL).1
    have x1:wr.cell? ⟨g,off+k*3+1,none⟩=some (.int .i64 L[k].2.1):=(BU.cell (p:=⟨g,off+k*3+1,none⟩) hg).trans (hcs k hkL).2.1
    have x2:wr.cell? ⟨g,off+k*3+2,none⟩=some (.string L[k].2.2):=(BU.cell (p:=⟨g,off+k*3+2,none⟩) hg).trans (hcs k hkL).2.2
    have hsn:=DM.qr9 d L k hkL
    have hss:=HLS.out _ (List.getElem_mem hkL)
    have hbad : ¬ DM.q3y n L[k]->DM.qem n L=DM.q20 n L[k].2.1 L[k].2.2/\DM.qem n L≠0:=DM.qtg n L k hkL HALL.out
    have hpre : ∀a∈L.take k,DM.q3y n a:=fun a ha=>by
     obtain ⟨j,hj,rfl⟩:=List.getElem_of_mem ha
     have hj':j<k/\j<L.length:=by simp at hj;omega
     rw [List.getElem_take]
     exact HALL.out j hj'.2 hj'.1
    have HMK:Hid (DM.q2s (DM.runK d (L.take k))):=Lib.hid (DM.qdx HMAY.out (fun a ha=>by rw [HN.out];exact hpre a ha))
    have hki:(k:Int)<(N:Int):=by omega
    clear hcs hpre
    obtain ⟨P,hP⟩ : ∃ P,L[k]=P:=⟨_,rfl⟩
    rw [hP] at x0 x1 x2 hsn hss hbad
    have HP:=Lib.hid hP;clear hP
    obtain ⟨f,i,s⟩:=P
    simp only at x0 x1 x2 hss hbad
    have HSN:=Lib.hid hsn;clear hsn
    have HBAD:=Lib.hid hbad;clear hbad
    have HSS:=Lib.hid hss;clear hss
    have BA:Below wr.heap.size wr (wr.alloc (.cells #[.bool f,.int .i64 i,.string s] 99)):=(Below.refl _ _).alloc (Nat.le_refl _) _
    have HBA:=Lib.hid BA;clear BA
    have zW:W0.heap.size<=wr.heap.size:=by omega
    cases f
    ·by_cases he:DM.q20 n i s=0
     ·have HE0:=Lib.hid he;clear he
      go_wp2_with fail
      refine (C4.out _ HD.out i s HE0.out W0.heap.size p1 t1 p2 m2 t2 _ (by omega) (HO.out.below HBA.out) (by simp;omega)).mono ?_;rintro e w3 ⟨p3,t3,rfl,O3,BU3,hsub⟩
      have hb : ∀b,b<W0.heap.size->¬ DM.q9c (.slice p1 n t1) (.slice p2 m2 t2) b:=fun b hb h=>by have:=(HO.out.ge b h).1;omega
      have HVA3:=Lib.hid (BU3.var (HVA.out.below HBA.out) (hb _ (by omega)))
      have HVR3:=Lib.hid (BU3.var (HVR.out.below HBA.out) (hb _ (by omega)))
      have HVS3:=Lib.hid (BU3.var (HVS.out.below HBA.out) HNO.out)
      have hno3:Hid (¬ DM.q9c (.slice p1 n t1) (.slice p3 (m2+1) t3) w1.heap.size):=Lib.hid (fun h=>by
       rcases hsub _ h with h1|h1
       ·exact HNO.out h1
       ·simp at h1;omega)
      have HO3:=Lib.hid O3
      have BW3:Below w.heap.size w w3:=(BU.trans (HBA.out.mono BU.size)).trans (BU3.to_below (by have:=BU.size;simp;omega) (fun j hj=>by have:=(HO.out.ge j hj).1;omega))
      clear hsub BU3 O3 hb s0 s1 sf0 sf1 x0 x1 x2
      have s0:=HVS3.out.c0
      have s1:=HVS3.out.c1
      have sf0:=HVS3.out.f0
      have sf1:=HVS3.out.f1
      go_wp2_with fail
      have F:=Lib.hid (DM.set2 (w:=w3) (B:=w1.heap.size) (u:=.slice p1 n t1) (v:=.slice p3 (m2+1) t3))
      go_roundw
      case rel =>
       refine ⟨k+1,by omega,by go_num,fun j hj hjk=>?_,F.out.var HVA3.out (by omega),F.out.var HVR3.out (by omega),⟨p1,t1,p3,m2+1,t3,HVS3.out.set2,?_,hno3.out⟩,(BW3.setCell (by show w.heap.size<=w1.heap.size;omega) _).setCell (by show w.heap.size<=w1.heap.size;omega) _⟩
       ·by_cases e:j=k
        ·subst e;rw [HP.out];exact Or.inr HE0.out
        ·exact HALL.out j hj (by omega)
       ·rw [HSN.out]
        exact HO3.out.but F.out (fun b hb e=>by subst e;exact hno3.out hb)
      case measure=>simp [intOf];omega
     ·have HE0:=Lib.hid he;clear he
      go_wp2_with fail
      refine (C3.out i s HSS.out HE0.out p1 t1 p2 m2 t2 _).mono ?_;rintro e w3 ⟨rfl,B3⟩
      have eE:E=DM.q20 n i s/\DM.qem n L≠0:=by
       have hb:=HBAD.out (fun h=>by rcases h with h|h;cases h;exact HE0.out h)
       refine ⟨?_,hb.2⟩
       rw [<-HE.out];unfold DM.qp4;rw [if_pos HMAY.out,HN.out];exact hb.1
      have eR:R=d:=by rw [<-HR.out];exact if_neg (fun h=>eE.2 (by have:=h.2;rw [HN.out] at this;exact this))
      rw [<-eE.1]
      have e0:(E==0)=false:=by have:=HE0.out;rw [<-eE.1] at this;simpa using this
      have HER:=Lib.hid eR;clear eR eE
      have HVA3:=Lib.hid ((HVA.out.below HBA.out).below B3)
      have HVR3:=Lib.hid ((HVR.out.below HBA.out).below B3)
      have HVS3:=Lib.hid ((HVS.out.below HBA.out).below B3)
      have BW3:Below w.heap.size w w3:=(BU.trans (HBA.out.mono BU.size)).trans (B3.mono (by have:=BU.size;simp;omega))
      clear B3 s0 s1 sf0 sf1 x0 x1 x2
      have s0:=HVS3.out.c0
      have s1:=HVS3.out.c1
      have sf0:=HVS3.out.f0
      have sf1:=HVS3.out.f1
      have v0:=HVA3.out.c0
      have v1:=HVA3.out.c1
      have lv:=HVA3.out.lt
      have ls3:=HVS3.out.lt
      go_wp2_with fail
      have F:=Lib.hid (DM.set2 (w:=w3) (B:=w1.heap.size) (u:=.slice p1 n t1) (v:=.slice p2 m2 t2))
      have BW4:Below w.heap.size w ((w3.setCell ⟨w1.heap.size,0,none⟩ (.slice p1 n t1)).setCell ⟨w1.heap.size,1,none⟩ (.slice p2 m2 t2)):=(BW3.setCell (by show w.heap.size<=w1.heap.size;omega) _).setCell (by show w.heap.size<=w1.heap.size;omega) _
      have HVR4:=Lib.hid (F.out.var HVR3.out (by omega))
      refine (C1.out _ (H.out.below BW4)).mono ?_;rintro e w5 ⟨b5,q5,b6,q6,rfl,O5,B5⟩
      have O5:=Lib.hid O5
      have HVR5:=Lib.hid (HVR4.out.below B5)
      have BW5:Below w.heap.size w w5:=BW4.trans (B5.mono BW4.size)
      have zz:w.heap.size+1<((w3.setCell ⟨w1.heap.size,0,none⟩ (.slice p1 n t1)).setCell ⟨w1.heap.size,1,none⟩ (.slice p2 m2 t2)).heap.size:=HVR4.out.lt
      clear B5 s0 s1 sf0 sf1 v0 v1
      have r0:=HVR5.out.c0
      have r1:=HVR5.out.c1
      have rf0:=HVR5.out.f0
      have rf1:=HVR5.out.f1
      go_wp2_with fail
      refine bodyPost_ret (q2f rfl _ _ (w.heap.size+1) b5 b6 n q5 m q6 rfl (by go_simp) (by go_simp)) rfl ⟨b5,n,q5,b6,m,q6,rfl,?_,?_,?_,?_⟩
      ·rw [HER.out]
       exact DM.DV.but O5.out (DM.set2 (B:=w.heap.size+1) (u:=.slice b5 n q5) (v:=.slice b6 m q6)) (fun j hj=>by omega)
      ·exact (BW5.setCell (by simp) _).setCell (by simp) _
      ·exact fun j hj=>by have:=(O5.out.ge j hj).1;omega
      ·exact DM.OD.caps O5.out
    ·go_wp2_with fail
     refine (C5.out _ HD.out HMK.out W0.heap.size p1 t1 p2 m2 t2 _ (by omega) (HO.out.below HBA.out) (by simp;omega)).mono ?_;rintro e w3 ⟨rfl,O3,BU3⟩
     have hb : ∀b,b<W0.heap.size->¬ DM.q9c (.slice p1 n t1) (.slice p2 m2 t2) b:=fun b hb h=>by have:=(HO.out.ge b h).1;omega
     have HVA3:=Lib.hid (BU3.var (HVA.out.below HBA.out) (hb _ (by omega)))
     have HVR3:=Lib.hid (BU3.var (HVR.out.below HBA.out) (hb _ (by omega)))
     have HVS3:=Lib.hid (BU3.var (HVS.out.below HBA.out) HNO.out)
     have hno3:Hid (¬ DM.q9c (.slice p1 n t1) (.slice none 0 0) w1.heap.size):=Lib.hid (fun h=>by
      rcases h with h1|h1
      ·exact HNO.out (Or.inl h1)
      ·cases h1)
     have HO3:=Lib.hid O3
     have BW3:Below w.heap.size w w3:=(BU.trans (HBA.out.mono BU.size)).trans (BU3.to_below (by have:=BU.size;simp;omega) (fun j hj=>by have:=(HO.out.ge j hj).1;omega))
     clear BU3 O3 hb s0 s1 sf0 sf1 x0 x1 x2
     have s0:=HVS3.out.c0
     have s1:=HVS3.out.c1
     have sf0:=HVS3.out.f0
     have sf1:=HVS3.out.f1
     go_wp2_with fail
     have F:=Lib.hid (DM.set2 (w:=w3) (B:=w1.heap.size) (u:=.slice p1 n t1) (v:=.slice none 0 0))
     go_roundw
     case rel =>
      refine ⟨k+1,by omega,by go_num,fun j hj hjk=>?_,F.out.var HVA3.out (by omega),F.out.var HVR3.out (by omega),⟨p1,t1,none,0,0,HVS3.out.set2,?_,hno3.out⟩,(BW3.setCell (by show w.heap.size<=w1.heap.size;omega) _).setCell (by show w.heap.size<=w1.heap.size;omega) _⟩
      ·by_cases e:j=k
       ·subst e;rw [HP.out];exact Or.inl rfl
       ·exact HALL.out j hj (by omega)
      ·rw [HSN.out]
       exact HO3.out.but F.out (fun b hb e=>by subst e;exact hno3.out hb)
     case measure=>simp [intOf];omega
   ·have hkk:k=N:=by omega
    subst hkk
    have hall : ∀a∈L,DM.q3y n a:=fun a ha=>by
     obtain ⟨j,hj,rfl⟩:=List.getElem_of_mem ha
     exact HALL.out j hj (by rw [<-HLL.out];exact hj)
    have h0:=DM.qdo n L hall
    have eE:E=0:=by rw [<-HE.out];unfold DM.qp4;rw [if_pos HMAY.out,HN.out];exact h0
    have eR:R=DM.runK d (L.take k):=by
     rw [<-HR.out,List.take_of_length_le (by rw [HLL.out];exact Nat.le_refl _)]
     exact if_pos ⟨HMAY.out,by rw [HN.out];exact h0⟩
    have HER:=Lib.hid eR
    subst eE
    clear eR hall h0 sf0 sf1
    have r0:=HVR.out.c0
    have r1:=HVR.out.c1
    have rf0:=HVR.out.f0
    have rf1:=HVR.out.f1
    go_wp2_with fail
    refine bodyPost_ret (q2f rfl _ _ (w.heap.size+1) p1 p2 n t1 m2 t2 rfl (by go_simp) (by go_simp)) rfl ⟨p1,n,t1,p2,m2,t2,rfl,?_,?_,?_,?_⟩
    ·rw [HER.out]
     exact DM.DV.but HO.out (DM.set2 (B:=w.heap.size+1) (u:=.slice p1 n t1) (v:=.slice p2 m2 t2)) (fun j hj=>by omega)
    ·exact (BU.setCell (by simp) _).setCell (by simp) _
    ·exact fun j hj=>by have:=(HO.out.ge j hj).1;omega
    ·exact DM.OD.caps HO.out
end DiskW
end Go.Proofs.YthpgnliicpejoaaGreatDoor
namespace Go.Proofs.YthpgnliicpejoaaGreatDoor.AM
open Go.RowKit
set_option linter.unusedVariables false
variable {G:World->Prop}
theorem jfg {f:FuncId} {ds:List D} {x:Bool} (h : ∀(Pc:Nat->Nat->Prop) w vs,(∀b o,Pc b o->b<w.heap.size)->q14 (q1u (q1x Pc) q2g w) vs.toList ds->Calls Tryz.prog f vs w fun e w'=>e = .returned (.bool x)/\Below w.heap.size w w'):q13 Tryz.prog G f ds (q26 (.bool x)) :=
 fun Pc w vs _ hlt hv=>(h Pc w vs hlt hv).mono fun e w' ⟨he,hb⟩=>⟨_,Pc,he,hb,fun _ _ h=>h,fun _ _ h=>Or.inl h,q0l _⟩
theorem max_eq:maxLen=9223372036854775807:=by decide
theorem jlj (d:DM.Dk):q13 Tryz.prog G 54 [.one (dk1 d)] (q26 (.bool (decide (DM.q2s d)))):=jfg fun Pc w vs hlt hv=>by
 obtain ⟨v,rfl,h⟩:=jfx hv
 obtain ⟨a1,k1,a2,k2,rfl,hd,b1,b2⟩:=jh7 hlt h
 have:=max_eq
 exact DiskW.q86 _ _ d w hd (by omega) (by omega)
theorem jih {Pc:Nat->Nat->Prop} {w:World} {base n k1 m k2:Nat} {a1 a2:Option Addr} {d:DM.Dk} (h:DM.DV w (.slice a1 n k1) (.slice a2 m k2) d) (c1:n<=k1) (c2:k1<=maxLen) (c3:m<=k2) (c4:k2<=maxLen)
  (hP : ∀g o,base<=g->g<w.heap.size->Pc g o) (ho : ∀k,DM.q9c (.slice a1 n k1) (.slice a2 m k2) k->base<=k):q92 (q1x Pc) q2g w (.agg #[.slice a1 n k1,.slice a2 m k2]) (dk1 d) :=
 ⟨_,rfl,j48 h.1 c1 c2 (fun g hg o hlt=>hP g o (ho g (Or.inl hg)) hlt),jl0 h.2 c3 c4 (fun g hg o hlt=>hP g o (ho g (Or.inr hg)) hlt),trivial⟩
theorem jjb (d:DM.Dk) (l:List DM.Ac) (x:Int) (N:Nat) (b1:d.secs.length<=100000) (b2:d.cache.length<=100000) (b3:l.length<=100000) (hsz : ∀a∈l,a.2.2.size<=maxLen) (hN:min (max x 0) (l.length:Int)=(N:Int)) :
  q13 Tryz.prog G 24 [.one (dk1 d),j3k 3 (qpz l),q26 (.int .i64 x)] (qkc (DM.qui d (l.take N)) (DM.qp4 d (l.take N))):=by
 intro Pc w vs _ hlt hv
 obtain ⟨v,v',v'',rfl,h,h',h''⟩:=args3 hv
 obtain ⟨a1,k1,a2,k2,rfl,hd,_,_⟩:=jh7 hlt h
 obtain ⟨a3,k3,rfl,hl⟩:=av_of hlt h'
 obtain rfl:=q0o h''
 refine (DiskW.jfp a1 a2 k1 k2 _ _ d a3 k3 l x N w hd rfl rfl b1 b2 hl b3 hsz hN).mono ?_
 rintro e w' ⟨a5,n5,k5,a6,n6,k6,rfl,h1,h2,h3,c1,c2,c3,c4⟩
 refine ⟨_,fun b o=>Pc b o\/(w.heap.size<=b/\b<w'.heap.size),rfl,h2,fun _ _ h=>Or.inl h,fun _ _ h=>h,_,rfl,jih h1 c1 c2 c3 c4 (fun g o h1 h2=>Or.inr ⟨h1,h2⟩) h3,q2p (σ:=q2g) _,trivial⟩
end Go.Proofs.YthpgnliicpejoaaGreatDoor.AM
namespace Go.Proofs.YthpgnliicpejoaaGreatDoor.AM
open Go.RowKit
set_option linter.unusedVariables false
set_option linter.unusedSimpArgs false
theorem j4n (l:List DM.Wr) (i:Int) (s:ByteArray):qlf l ++ [[.v (.int .i64 i),.v (.string s)]]=qlf (l ++ [(i,s)]):=by simp [qlf]
set_option maxHeartbeats 1600000 in
theorem jgv {G:World->Prop} (hG:qq2 G) (d:DM.Dk) (i:Int) (s:ByteArray) (b1:d.secs.length<=1000000) (b2:d.cache.length<=1000000) (hs:s.size<=1000):q13 Tryz.prog G 61 [.one (dk1 d),q26 (.int .i64 i),q26 (.string s)] (qkc (DM.j3h d i s) (DM.j43 d i s)):=by
 unfold qkc
 unfold dk1
 refine q3d Tryz.func61 rfl (by simp [Tryz.ntmps61]) hG ?_;intro F hF hFG Q hQ;rw [Tryz.ntmps61] at hF;rw [Tryz.results61] at hQ
 repeat (first|((first|refine q00 (by rw [hF];kernel_rfl) ?_|refine q03 (by rw [hF];kernel_rfl) ?_);(repeat (refine q0a fun K1 hK1=>?_;simp only [push_cast,Nat.reduceEqDiff,reduceCtorEq,Nat.reduceAdd,Nat.reduceMul,Nat.reduceSub,Nat.reduceLeDiff,Nat.reduceLT,Nat.reduceBEq,Nat.reducePow,Int.reduceEq,Int.reduceLT,Int.reduceLE,Int.reduceNeg,Int.reduceAdd,Int.reduceToNat,reduceIte,decide_true,decide_false];(try simp (disch:=omega) only [wrap64,q0k]);(first|refine hK1 _ ?_|refine ⟨by omega,hK1 _ ?_⟩);clear hK1 K1));refine q0g ?_)|refine q0e ?_|refine q07 ?_|refine q0c ?_|refine q0d ?_|refine q0f ?_|refine q02 ?_|refine q06 ?_|refine q09 ?_|refine q01 ?_|refine q08 ?_|refine q05 ?_|refine q04 rfl ?_)
 (first|(refine q00 (by rw [hF];kernel_rfl) ?_)|(refine q03 (by rw [hF];kernel_rfl) ?_));(repeat (refine q0a fun K1 hK1=>?_;simp only [push_cast,Nat.reduceEqDiff,reduceCtorEq,Nat.reduceAdd,Nat.reduceMul,Nat.reduceSub,Nat.reduceLeDiff,Nat.reduceLT,Nat.reduceBEq,Nat.reducePow,Int.reduceEq,Int.reduceLT,Int.reduceLE,Int.reduceNeg,Int.reduceAdd,Int.reduceToNat,reduceIte,decide_true,decide_false];(try simp (disch:=omega) only [wrap64,q0k]);(first|refine hK1 _ ?_|refine ⟨by omega,hK1 _ ?_⟩);clear hK1 K1))
 refine q2z (by simp only [push_cast,Nat.reduceEqDiff,reduceCtorEq,Nat.reduceAdd,Nat.reduceMul,Nat.reduceSub,Nat.reduceLeDiff,Nat.reduceLT,Nat.reduceBEq,Nat.reducePow,Int.reduceEq,Int.reduceLT,Int.reduceLE,Int.reduceNeg,Int.reduceAdd,Int.reduceToNat,reduceIte,decide_true,decide_false,dk1]) rfl (by simp only [push_cast,Nat.reduceEqDiff,reduceCtorEq,Nat.reduceAdd,Nat.reduceMul,Nat.reduceSub,Nat.reduceLeDiff,Nat.reduceLT,Nat.reduceBEq,Nat.reducePow,Int.reduceEq,Int.reduceLT,Int.reduceLE,Int.reduceNeg,Int.reduceAdd,Int.reduceToNat,reduceIte,decide_true,decide_false,dk1]) (by kernel_rfl) (by simp only [push_cast,Nat.reduceEqDiff,reduceCtorEq,Nat.reduceAdd,Nat.reduceMul,Nat.reduceSub,Nat.reduceLeDiff,Nat.reduceLT,Nat.reduceBEq,Nat.reducePow,Int.reduceEq,Int.reduceLT,Int.reduceLE,Int.reduceNeg,Int.reduceAdd,Int.reduceToNat,reduceIte,decide_true,decide_false,dk1]) (qi8 F.gst d b1 b2) ?_
 by_cases c0:DM.q2s d
 ·have e0:decide (DM.q2s d)=true:=decide_eq_true c0
  by_cases c1:i<0
  ·(repeat (refine q0a fun K1 hK1=>?_;simp only [push_cast,Nat.reduceEqDiff,reduceCtorEq,Nat.reduceAdd,Nat.reduceMul,Nat.reduceSub,Nat.reduceLeDiff,Nat.reduceLT,Nat.reduceBEq,Nat.reducePow,Int.reduceEq,Int.reduceLT,Int.reduceLE,Int.reduceNeg,Int.reduceAdd,Int.reduceToNat,reduceIte,decide_true,decide_false,e0,c1];(try simp (disch:=omega) only [wrap64,q0k]);(first|refine hK1 _ ?_|refine ⟨by omega,hK1 _ ?_⟩);clear hK1 K1));refine q0g ?_
   repeat (first|((first|refine q00 (by rw [hF];kernel_rfl) ?_|refine q03 (by rw [hF];kernel_rfl) ?_);(repeat (refine q0a fun K1 hK1=>?_;simp only [push_cast,Nat.reduceEqDiff,reduceCtorEq,Nat.reduceAdd,Nat.reduceMul,Nat.reduceSub,Nat.reduceLeDiff,Nat.reduceLT,Nat.reduceBEq,Nat.reducePow,Int.reduceEq,Int.reduceLT,Int.reduceLE,Int.reduceNeg,Int.reduceAdd,Int.reduceToNat,reduceIte,decide_true,decide_false];(try simp (disch:=omega) only [wrap64,q0k]);(first|refine hK1 _ ?_|refine ⟨by omega,hK1 _ ?_⟩);clear hK1 K1));refine q0g ?_)|refine q0e ?_|refine q07 ?_|refine q0c ?_|refine q0d ?_|refine q0f ?_|refine q02 ?_|refine q06 ?_|refine q09 ?_|refine q01 ?_|refine q08 ?_|refine q05 ?_|refine q04 rfl ?_)
   refine q0s (by simp only [push_cast,Nat.reduceEqDiff,reduceCtorEq,Nat.reduceAdd,Nat.reduceMul,Nat.reduceSub,Nat.reduceLeDiff,Nat.reduceLT,Nat.reduceBEq,Nat.reducePow,Int.reduceEq,Int.reduceLT,Int.reduceLE,Int.reduceNeg,Int.reduceAdd,Int.reduceToNat,reduceIte,decide_true,decide_false,c1]) ?_
   repeat (first|((first|refine q00 (by rw [hF];kernel_rfl) ?_|refine q03 (by rw [hF];kernel_rfl) ?_);(repeat (refine q0a fun K1 hK1=>?_;simp only [push_cast,Nat.reduceEqDiff,reduceCtorEq,Nat.reduceAdd,Nat.reduceMul,Nat.reduceSub,Nat.reduceLeDiff,Nat.reduceLT,Nat.reduceBEq,Nat.reducePow,Int.reduceEq,Int.reduceLT,Int.reduceLE,Int.reduceNeg,Int.reduceAdd,Int.reduceToNat,reduceIte,decide_true,decide_false];(try simp (disch:=omega) only [wrap64,q0k]);(first|refine hK1 _ ?_|refine ⟨by omega,hK1 _ ?_⟩);clear hK1 K1));refine q0g ?_)|refine q0e ?_|refine q07 ?_|refine q0c ?_|refine q0d ?_|refine q0f ?_|refine q02 ?_|refine q06 ?_|refine q09 ?_|refine q01 ?_|refine q08 ?_|refine q05 ?_|refine q04 rfl ?_)
   refine (hQ _ ?_).2
   have h1 : ¬ DM.inD d.secs.length i:=fun h=>by have:=h.1;omega
   simp only [DM.j3h,DM.j43,DM.ql3,DM.q20,c0,h1,if_true,if_false]
   simp only [push_cast,Nat.reduceEqDiff,reduceCtorEq,Nat.reduceAdd,Nat.reduceMul,Nat.reduceSub,Nat.reduceLeDiff,Nat.reduceLT,Nat.reduceBEq,Nat.reducePow,Int.reduceEq,Int.reduceLT,Int.reduceLE,Int.reduceNeg,Int.reduceAdd,Int.reduceToNat,reduceIte,decide_true,decide_false,c1]
  ·by_cases c2:(d.secs.length:Int)<=i
   ·(repeat (refine q0a fun K1 hK1=>?_;simp only [push_cast,Nat.reduceEqDiff,reduceCtorEq,Nat.reduceAdd,Nat.reduceMul,Nat.reduceSub,Nat.reduceLeDiff,Nat.reduceLT,Nat.reduceBEq,Nat.reducePow,Int.reduceEq,Int.reduceLT,Int.reduceLE,Int.reduceNeg,Int.reduceAdd,Int.reduceToNat,reduceIte,decide_true,decide_false,e0,c1,c2];(try simp (disch:=omega) only [wrap64,q0k]);(first|refine hK1 _ ?_|refine ⟨by omega,hK1 _ ?_⟩);clear hK1 K1));refine q0g ?_
    repeat (first|((first|refine q00 (by rw [hF];kernel_rfl) ?_|refine q03 (by rw [hF];kernel_rfl) ?_);(repeat (refine q0a fun K1 hK1=>?_;simp only [push_cast,Nat.reduceEqDiff,reduceCtorEq,Nat.reduceAdd,Nat.reduceMul,Nat.reduceSub,Nat.reduceLeDiff,Nat.reduceLT,Nat.reduceBEq,Nat.reducePow,Int.reduceEq,Int.reduceLT,Int.reduceLE,Int.reduceNeg,Int.reduceAdd,Int.reduceToNat,reduceIte,decide_true,decide_false];(try simp (disch:=omega) only [wrap64,q0k]);(first|refine hK1 _ ?_|refine ⟨by omega,hK1 _ ?_⟩);clear hK1 K1));refine q0g ?_)|refine q0e ?_|refine q07 ?_|refine q0c ?_|refine q0d ?_|refine q0f ?_|refine q02 ?_|refine q06 ?_|refine q09 ?_|refine q01 ?_|refine q08 ?_|refine q05 ?_|refine q04 rfl ?_)
    refine q0s (by simp only [push_cast,Nat.reduceEqDiff,reduceCtorEq,Nat.reduceAdd,Nat.reduceMul,Nat.reduceSub,Nat.reduceLeDiff,Nat.reduceLT,Nat.reduceBEq,Nat.reducePow,Int.reduceEq,Int.reduceLT,Int.reduceLE,Int.reduceNeg,Int.reduceAdd,Int.reduceToNat,reduceIte,decide_true,decide_false,c1]) ?_
    repeat (first|((first|refine q00 (by rw [hF];kernel_rfl) ?_|refine q03 (by rw [hF];kernel_rfl) ?_);(repeat (refine q0a fun K1 hK1=>?_;simp only [push_cast,Nat.reduceEqDiff,reduceCtorEq,Nat.reduceAdd,Nat.reduceMul,Nat.reduceSub,Nat.reduceLeDiff,Nat.reduceLT,Nat.reduceBEq,Nat.reducePow,Int.reduceEq,Int.reduceLT,Int.reduceLE,Int.reduceNeg,Int.reduceAdd,Int.reduceToNat,reduceIte,decide_true,decide_false];(try simp (disch:=omega) only [wrap64,q0k]);(first|refine hK1 _ ?_|refine ⟨by omega,hK1 _ ?_⟩);clear hK1 K1));refine q0g ?_)|refine q0e ?_|refine q07 ?_|refine q0c ?_|refine q0d ?_|refine q0f ?_|refine q02 ?_|refine q06 ?_|refine q09 ?_|refine q01 ?_|refine q08 ?_|refine q05 ?_|refine q04 rfl ?_)
    refine (hQ _ ?_).2
    have h1 : ¬ DM.inD d.secs.length i:=fun h=>by have:=h.2;omega
    simp only [DM.j3h,DM.j43,DM.ql3,DM.q20,c0,h1,if_true,if_false]
    simp only [push_cast,Nat.reduceEqDiff,reduceCtorEq,Nat.reduceAdd,Nat.reduceMul,Nat.reduceSub,Nat.reduceLeDiff,Nat.reduceLT,Nat.reduceBEq,Nat.reducePow,Int.reduceEq,Int.reduceLT,Int.reduceLE,Int.reduceNeg,Int.reduceAdd,Int.reduceToNat,reduceIte,decide_true,decide_false,c1]
   ·(repeat (refine q0a fun K1 hK1=>?_;simp only [push_cast,Nat.reduceEqDiff,reduceCtorEq,Nat.reduceAdd,Nat.reduceMul,Nat.reduceSub,Nat.reduceLeDiff,Nat.reduceLT,Nat.reduceBEq,Nat.reducePow,Int.reduceEq,Int.reduceLT,Int.reduceLE,Int.reduceNeg,Int.reduceAdd,Int.reduceToNat,reduceIte,decide_true,decide_false,e0,c1,c2];(try simp (disch:=omega) only [wrap64,q0k]);(first|refine hK1 _ ?_|refine ⟨by omega,hK1 _ ?_⟩);clear hK1 K1));refine q0g ?_
    repeat (first|((first|refine q00 (by rw [hF];kernel_rfl) ?_|refine q03 (by rw [hF];kernel_rfl) ?_);(repeat (refine q0a fun K1 hK1=>?_;simp only [push_cast,Nat.reduceEqDiff,reduceCtorEq,Nat.reduceAdd,Nat.reduceMul,Nat.reduceSub,Nat.reduceLeDiff,Nat.reduceLT,Nat.reduceBEq,Nat.reducePow,Int.reduceEq,Int.reduceLT,Int.reduceLE,Int.reduceNeg,Int.reduceAdd,Int.reduceToNat,reduceIte,decide_true,decide_false];(try simp (disch:=omega) only [wrap64,q0k]);(first|refine hK1 _ ?_|refine ⟨by omega,hK1 _ ?_⟩);clear hK1 K1));refine q0g ?_)|refine q0e ?_|refine q07 ?_|refine q0c ?_|refine q0d ?_|refine q0f ?_|refine q02 ?_|refine q06 ?_|refine q09 ?_|refine q01 ?_|refine q08 ?_|refine q05 ?_|refine q04 rfl ?_)
    refine q0t (by simp only [push_cast,Nat.reduceEqDiff,reduceCtorEq,Nat.reduceAdd,Nat.reduceMul,Nat.reduceSub,Nat.reduceLeDiff,Nat.reduceLT,Nat.reduceBEq,Nat.reducePow,Int.reduceEq,Int.reduceLT,Int.reduceLE,Int.reduceNeg,Int.reduceAdd,Int.reduceToNat,reduceIte,decide_true,decide_false,c1]) ?_
    have h1:DM.inD d.secs.length i:=⟨by omega,by omega⟩
    by_cases c3:(32:Int)<(s.size:Int)
    ·repeat (first|((first|refine q00 (by rw [hF];kernel_rfl) ?_|refine q03 (by rw [hF];kernel_rfl) ?_);(repeat (refine q0a fun K1 hK1=>?_;simp only [push_cast,Nat.reduceEqDiff,reduceCtorEq,Nat.reduceAdd,Nat.reduceMul,Nat.reduceSub,Nat.reduceLeDiff,Nat.reduceLT,Nat.reduceBEq,Nat.reducePow,Int.reduceEq,Int.reduceLT,Int.reduceLE,Int.reduceNeg,Int.reduceAdd,Int.reduceToNat,reduceIte,decide_true,decide_false,c3];(try simp (disch:=omega) only [wrap64,q0k]);(first|refine hK1 _ ?_|refine ⟨by omega,hK1 _ ?_⟩);clear hK1 K1));refine q0g ?_)|refine q0e ?_|refine q07 ?_|refine q0c ?_|refine q0d ?_|refine q0f ?_|refine q02 ?_|refine q06 ?_|refine q09 ?_|refine q01 ?_|refine q08 ?_|refine q05 ?_|refine q04 rfl ?_)
     refine q0s (by simp only [push_cast,Nat.reduceEqDiff,reduceCtorEq,Nat.reduceAdd,Nat.reduceMul,Nat.reduceSub,Nat.reduceLeDiff,Nat.reduceLT,Nat.reduceBEq,Nat.reducePow,Int.reduceEq,Int.reduceLT,Int.reduceLE,Int.reduceNeg,Int.reduceAdd,Int.reduceToNat,reduceIte,decide_true,decide_false,c3]) ?_
     repeat (first|((first|refine q00 (by rw [hF];kernel_rfl) ?_|refine q03 (by rw [hF];kernel_rfl) ?_);(repeat (refine q0a fun K1 hK1=>?_;simp only [push_cast,Nat.reduceEqDiff,reduceCtorEq,Nat.reduceAdd,Nat.reduceMul,Nat.reduceSub,Nat.reduceLeDiff,Nat.reduceLT,Nat.reduceBEq,Nat.reducePow,Int.reduceEq,Int.reduceLT,Int.reduceLE,Int.reduceNeg,Int.reduceAdd,Int.reduceToNat,reduceIte,decide_true,decide_false];(try simp (disch:=omega) only [wrap64,q0k]);(first|refine hK1 _ ?_|refine ⟨by omega,hK1 _ ?_⟩);clear hK1 K1));refine q0g ?_)|refine q0e ?_|refine q07 ?_|refine q0c ?_|refine q0d ?_|refine q0f ?_|refine q02 ?_|refine q06 ?_|refine q09 ?_|refine q01 ?_|refine q08 ?_|refine q05 ?_|refine q04 rfl ?_)
     refine (hQ _ ?_).2
     have h2:32<s.size:=by omega
     simp only [DM.j3h,DM.j43,DM.ql3,DM.q20,c0,h1,h2,if_true]
     simp only [push_cast,Nat.reduceEqDiff,reduceCtorEq,Nat.reduceAdd,Nat.reduceMul,Nat.reduceSub,Nat.reduceLeDiff,Nat.reduceLT,Nat.reduceBEq,Nat.reducePow,Int.reduceEq,Int.reduceLT,Int.reduceLE,Int.reduceNeg,Int.reduceAdd,Int.reduceToNat,reduceIte,decide_true,decide_false,c1]
    ·repeat (first|((first|refine q00 (by rw [hF];kernel_rfl) ?_|refine q03 (by rw [hF];kernel_rfl) ?_);(repeat (refine q0a fun K1 hK1=>?_;simp only [push_cast,Nat.reduceEqDiff,reduceCtorEq,Nat.reduceAdd,Nat.reduceMul,Nat.reduceSub,Nat.reduceLeDiff,Nat.reduceLT,Nat.reduceBEq,Nat.reducePow,Int.reduceEq,Int.reduceLT,Int.reduceLE,Int.reduceNeg,Int.reduceAdd,Int.reduceToNat,reduceIte,decide_true,decide_false,c3];(try simp (disch:=omega) only [wrap64,q0k]);(first|refine hK1 _ ?_|refine ⟨by omega,hK1 _ ?_⟩);clear hK1 K1));refine q0g ?_)|refine q0e ?_|refine q07 ?_|refine q0c ?_|refine q0d ?_|refine q0f ?_|refine q02 ?_|refine q06 ?_|refine q09 ?_|refine q01 ?_|refine q08 ?_|refine q05 ?_|refine q04 rfl ?_)
     refine q0t (by simp only [push_cast,Nat.reduceEqDiff,reduceCtorEq,Nat.reduceAdd,Nat.reduceMul,Nat.reduceSub,Nat.reduceLeDiff,Nat.reduceLT,Nat.reduceBEq,Nat.reducePow,Int.reduceEq,Int.reduceLT,Int.reduceLE,Int.reduceNeg,Int.reduceAdd,Int.reduceToNat,reduceIte,decide_true,decide_false,c3]) ?_
     repeat (first|((first|refine q00 (by rw [hF];kernel_rfl) ?_|refine q03 (by rw [hF];kernel_rfl) ?_);(repeat (refine q0a fun K1 hK1=>?_;simp only [push_cast,Nat.reduceEqDiff,reduceCtorEq,Nat.reduceAdd,Nat.reduceMul,Nat.reduceSub,Nat.reduceLeDiff,Nat.reduceLT,Nat.reduceBEq,Nat.reducePow,Int.reduceEq,Int.reduceLT,Int.reduceLE,Int.reduceNeg,Int.reduceAdd,Int.reduceToNat,reduceIte,decide_true,decide_false];(try simp (disch:=omega) only [wrap64,q0k]);(first|refine hK1 _ ?_|refine ⟨by omega,hK1 _ ?_⟩);clear hK1 K1));refine q0g ?_)|refine q0e ?_|refine q07 ?_|refine q0c ?_|refine q0d ?_|refine q0f ?_|refine q02 ?_|refine q06 ?_|refine q09 ?_|refine q01 ?_|refine q08 ?_|refine q05 ?_|refine q04 rfl ?_)
     (first|(refine q00 (by rw [hF];kernel_rfl) ?_)|(refine q03 (by rw [hF];kernel_rfl) ?_));(repeat (refine q0a fun K1 hK1=>?_;simp only [push_cast,Nat.reduceEqDiff,reduceCtorEq,Nat.reduceAdd,Nat.reduceMul,Nat.reduceSub,Nat.reduceLeDiff,Nat.reduceLT,Nat.reduceBEq,Nat.reducePow,Int.reduceEq,Int.reduceLT,Int.reduceLE,Int.reduceNeg,Int.reduceAdd,Int.reduceToNat,reduceIte,decide_true,decide_false];(try simp (disch:=omega) only [wrap64,q0k]);(first|refine hK1 _ ?_|refine ⟨by omega,hK1 _ ?_⟩);clear hK1 K1))
     refine q2z (by simp only [push_cast,Nat.reduceEqDiff,reduceCtorEq,Nat.reduceAdd,Nat.reduceMul,Nat.reduceSub,Nat.reduceLeDiff,Nat.reduceLT,Nat.reduceBEq,Nat.reducePow,Int.reduceEq,Int.reduceLT,Int.reduceLE,Int.reduceNeg,Int.reduceAdd,Int.reduceToNat,reduceIte,decide_true,decide_false]) rfl (by simp only [push_cast,Nat.reduceEqDiff,reduceCtorEq,Nat.reduceAdd,Nat.reduceMul,Nat.reduceSub,Nat.reduceLeDiff,Nat.reduceLT,Nat.reduceBEq,Nat.reducePow,Int.reduceEq,Int.reduceLT,Int.reduceLE,Int.reduceNeg,Int.reduceAdd,Int.reduceToNat,reduceIte,decide_true,decide_false]) (by kernel_rfl) (by simp only [push_cast,Nat.reduceEqDiff,reduceCtorEq,Nat.reduceAdd,Nat.reduceMul,Nat.reduceSub,Nat.reduceLeDiff,Nat.reduceLT,Nat.reduceBEq,Nat.reducePow,Int.reduceEq,Int.reduceLT,Int.reduceLE,Int.reduceNeg,Int.reduceAdd,Int.reduceToNat,reduceIte,decide_true,decide_false]) (qyn F.gst s hs) ?_
     (repeat (refine q0a fun K1 hK1=>?_;simp only [push_cast,Nat.reduceEqDiff,reduceCtorEq,Nat.reduceAdd,Nat.reduceMul,Nat.reduceSub,Nat.reduceLeDiff,Nat.reduceLT,Nat.reduceBEq,Nat.reducePow,Int.reduceEq,Int.reduceLT,Int.reduceLE,Int.reduceNeg,Int.reduceAdd,Int.reduceToNat,reduceIte,decide_true,decide_false];(try simp (disch:=omega) only [wrap64,q0k]);(first|refine hK1 _ ?_|refine ⟨by omega,hK1 _ ?_⟩);clear hK1 K1));refine q0g ?_
     repeat (first|((first|refine q00 (by rw [hF];kernel_rfl) ?_|refine q03 (by rw [hF];kernel_rfl) ?_);(repeat (refine q0a fun K1 hK1=>?_;simp only [push_cast,Nat.reduceEqDiff,reduceCtorEq,Nat.reduceAdd,Nat.reduceMul,Nat.reduceSub,Nat.reduceLeDiff,Nat.reduceLT,Nat.reduceBEq,Nat.reducePow,Int.reduceEq,Int.reduceLT,Int.reduceLE,Int.reduceNeg,Int.reduceAdd,Int.reduceToNat,reduceIte,decide_true,decide_false];(try simp (disch:=omega) only [wrap64,q0k]);(first|refine hK1 _ ?_|refine ⟨by omega,hK1 _ ?_⟩);clear hK1 K1));refine q0g ?_)|refine q0e ?_|refine q07 ?_|refine q0c ?_|refine q0d ?_|refine q0f ?_|refine q02 ?_|refine q06 ?_|refine q09 ?_|refine q01 ?_|refine q08 ?_|refine q05 ?_|refine q04 rfl ?_)
     refine (hQ _ ?_).2
     have h2 : ¬ 32<s.size:=by omega
     simp only [DM.j3h,DM.j43,DM.ql3,DM.q20,c0,h1,h2,if_true,if_false,DM.j3i,<-j4n]
     simp only [push_cast,Nat.reduceEqDiff,reduceCtorEq,Nat.reduceAdd,Nat.reduceMul,Nat.reduceSub,Nat.reduceLeDiff,Nat.reduceLT,Nat.reduceBEq,Nat.reducePow,Int.reduceEq,Int.reduceLT,Int.reduceLE,Int.reduceNeg,Int.reduceAdd,Int.reduceToNat,reduceIte,decide_true,decide_false,c1]
 ·have e0:decide (DM.q2s d)=false:=decide_eq_false c0
  (repeat (refine q0a fun K1 hK1=>?_;simp only [push_cast,Nat.reduceEqDiff,reduceCtorEq,Nat.reduceAdd,Nat.reduceMul,Nat.reduceSub,Nat.reduceLeDiff,Nat.reduceLT,Nat.reduceBEq,Nat.reducePow,Int.reduceEq,Int.reduceLT,Int.reduceLE,Int.reduceNeg,Int.reduceAdd,Int.reduceToNat,reduceIte,decide_true,decide_false,e0];(try simp (disch:=omega) only [wrap64,q0k]);(first|refine hK1 _ ?_|refine ⟨by omega,hK1 _ ?_⟩);clear hK1 K1));refine q0g ?_
  repeat (first|((first|refine q00 (by rw [hF];kernel_rfl) ?_|refine q03 (by rw [hF];kernel_rfl) ?_);(repeat (refine q0a fun K1 hK1=>?_;simp only [push_cast,Nat.reduceEqDiff,reduceCtorEq,Nat.reduceAdd,Nat.reduceMul,Nat.reduceSub,Nat.reduceLeDiff,Nat.reduceLT,Nat.reduceBEq,Nat.reducePow,Int.reduceEq,Int.reduceLT,Int.reduceLE,Int.reduceNeg,Int.reduceAdd,Int.reduceToNat,reduceIte,decide_true,decide_false];(try simp (disch:=omega) only [wrap64,q0k]);(first|refine hK1 _ ?_|refine ⟨by omega,hK1 _ ?_⟩);clear hK1 K1));refine q0g ?_)|refine q0e ?_|refine q07 ?_|refine q0c ?_|refine q0d ?_|refine q0f ?_|refine q02 ?_|refine q06 ?_|refine q09 ?_|refine q01 ?_|refine q08 ?_|refine q05 ?_|refine q04 rfl ?_)
  refine q0s (by simp only [push_cast,Nat.reduceEqDiff,reduceCtorEq,Nat.reduceAdd,Nat.reduceMul,Nat.reduceSub,Nat.reduceLeDiff,Nat.reduceLT,Nat.reduceBEq,Nat.reducePow,Int.reduceEq,Int.reduceLT,Int.reduceLE,Int.reduceNeg,Int.reduceAdd,Int.reduceToNat,reduceIte,decide_true,decide_false,e0]) ?_
  repeat (first|((first|refine q00 (by rw [hF];kernel_rfl) ?_|refine q03 (by rw [hF];kernel_rfl) ?_);(repeat (refine q0a fun K1 hK1=>?_;simp only [push_cast,Nat.reduceEqDiff,reduceCtorEq,Nat.reduceAdd,Nat.reduceMul,Nat.reduceSub,Nat.reduceLeDiff,Nat.reduceLT,Nat.reduceBEq,Nat.reducePow,Int.reduceEq,Int.reduceLT,Int.reduceLE,Int.reduceNeg,Int.reduceAdd,Int.reduceToNat,reduceIte,decide_true,decide_false];(try simp (disch:=omega) only [wrap64,q0k]);(first|refine hK1 _ ?_|refine ⟨by omega,hK1 _ ?_⟩);clear hK1 K1));refine q0g ?_)|refine q0e ?_|refine q07 ?_|refine q0c ?_|refine q0d ?_|refine q0f ?_|refine q02 ?_|refine q06 ?_|refine q09 ?_|refine q01 ?_|refine q08 ?_|refine q05 ?_|refine q04 rfl ?_)
  refine (hQ _ ?_).2
  simp only [DM.j3h,DM.j43,c0,if_false]
  simp only [push_cast,Nat.reduceEqDiff,reduceCtorEq,Nat.reduceAdd,Nat.reduceMul,Nat.reduceSub,Nat.reduceLeDiff,Nat.reduceLT,Nat.reduceBEq,Nat.reducePow,Int.reduceEq,Int.reduceLT,Int.reduceLE,Int.reduceNeg,Int.reduceAdd,Int.reduceToNat,reduceIte,decide_true,decide_false,c0]
end Go.Proofs.YthpgnliicpejoaaGreatDoor.AM
namespace Go.Proofs.YthpgnliicpejoaaGreatDoor.AM
open Go.RowKit
set_option linter.unusedVariables false
set_option linter.unusedSimpArgs false
theorem jdq {L:List ByteArray} {p:Nat} {s:ByteArray} (h:p<L.length):(qb9 L).set p (Dat.v (Value.string s)::List.drop 1 ((qb9 L).getD p []))=qb9 (L.set p s):=by
 rw [qya h];simp [qb9,List.map_set]
theorem q42 {Pc:Nat->Nat->Prop} {w:World} {v:Value} (sz:Nat) (h:DatRep Pc w v (.v (.slice none 0 0))):DatRep Pc w v (.lst sz []):=by
 cases h
 exact .lst none 0 0 sz [] 0 0 (fun _ _=>undef) rfl (Nat.le_refl _) (Nat.zero_le _) (fun x hx=>by cases hx) (fun h=>by simp at h) (fun k j hk=>by simp at hk) (fun k j hk=>by simp at hk)
theorem q13.weak {P:Program} {G:World->Prop} {f:FuncId} {ds:List D} {d d':D} (h:q13 P G f ds d) (hd : ∀Pc w v,q1u (q1x Pc) q2g w v d->q1u (q1x Pc) q2g w v d'):q13 P G f ds d' :=
 fun Pc w vs hg hlt hv=>(h Pc w vs hg hlt hv).mono fun e w' ⟨v,Pc',h1,h2,h3,h4,h5⟩=>⟨v,Pc',h1,h2,h3,h4,hd _ _ _ h5⟩
abbrev rawD (l:List ByteArray):D:=.tup [.agg [.d (.lst 1 (qb9 l)),.d (.v (.slice none 0 0))],.c (qg4 (.int .i64 0))]
theorem jf5 {Pc:Nat->Nat->Prop} {w:World} {v:Value} {l:List ByteArray} (h:q1u (q1x Pc) q2g w v (rawD l)):q1u (q1x Pc) q2g w v (qkc ⟨l,[]⟩ 0):=by
 obtain ⟨vs,rfl,h⟩:=h
 obtain ⟨L⟩:=vs
 match L,h with
 | [x,y],⟨⟨us,e,h1⟩,h2,_⟩ =>
  obtain ⟨M⟩:=us
  match M,e,h1 with
  | [a,b],e,⟨g1,g2,_⟩=>exact ⟨_,rfl,⟨_,e,g1,q42 2 g2,trivial⟩,h2,trivial⟩
set_option maxHeartbeats 1600000 in
theorem j9q {G:World->Prop} (hG:qq2 G) (d:DM.Dk) (keep:List Bool) (b1:d.secs.length<=1000000) (b2:d.cache.length<=1000000) (hm : ¬ DM.q2s d):q13 Tryz.prog G 32 [.one (dk1 d),j3k 1 (qv7 keep)] (qkc d 1):=by
 have e0:decide (DM.q2s d)=false:=decide_eq_false hm
 unfold qkc
 unfold dk1
 refine q3d Tryz.func32 rfl (by simp [Tryz.ntmps32]) hG ?_;intro F hF hFG Q hQ;rw [Tryz.ntmps32] at hF;rw [Tryz.results32] at hQ
 repeat (first|((first|refine q00 (by rw [hF];kernel_rfl) ?_|refine q03 (by rw [hF];kernel_rfl) ?_);(repeat (refine q0a fun K1 hK1=>?_;simp only [push_cast,Nat.reduceEqDiff,reduceCtorEq,Nat.reduceAdd,Nat.reduceMul,Nat.reduceSub,Nat.reduceLeDiff,Nat.reduceLT,Nat.reduceBEq,Nat.reducePow,Int.reduceEq,Int.reduceLT,Int.reduceLE,Int.reduceNeg,Int.reduceAdd,Int.reduceToNat,reduceIte,decide_true,decide_false];(try simp (disch:=omega) only [wrap64,q0k]);(first|refine hK1 _ ?_|refine ⟨by omega,hK1 _ ?_⟩);clear hK1 K1));refine q0g ?_)|refine q0e ?_|refine q07 ?_|refine q0c ?_|refine q0d ?_|refine q0f ?_|refine q02 ?_|refine q06 ?_|refine q09 ?_|refine q01 ?_|refine q08 ?_|refine q05 ?_|refine q04 rfl ?_)
 (first|(refine q00 (by rw [hF];kernel_rfl) ?_)|(refine q03 (by rw [hF];kernel_rfl) ?_));(repeat (refine q0a fun K1 hK1=>?_;simp only [push_cast,Nat.reduceEqDiff,reduceCtorEq,Nat.reduceAdd,Nat.reduceMul,Nat.reduceSub,Nat.reduceLeDiff,Nat.reduceLT,Nat.reduceBEq,Nat.reducePow,Int.reduceEq,Int.reduceLT,Int.reduceLE,Int.reduceNeg,Int.reduceAdd,Int.reduceToNat,reduceIte,decide_true,decide_false];(try simp (disch:=omega) only [wrap64,q0k]);(first|refine hK1 _ ?_|refine ⟨by omega,hK1 _ ?_⟩);clear hK1 K1))
 refine q2z (by simp only [push_cast,Nat.reduceEqDiff,reduceCtorEq,Nat.reduceAdd,Nat.reduceMul,Nat.reduceSub,Nat.reduceLeDiff,Nat.reduceLT,Nat.reduceBEq,Nat.reducePow,Int.reduceEq,Int.reduceLT,Int.reduceLE,Int.reduceNeg,Int.reduceAdd,Int.reduceToNat,reduceIte,decide_true,decide_false,dk1]) rfl (by simp only [push_cast,Nat.reduceEqDiff,reduceCtorEq,Nat.reduceAdd,Nat.reduceMul,Nat.reduceSub,Nat.reduceLeDiff,Nat.reduceLT,Nat.reduceBEq,Nat.reducePow,Int.reduceEq,Int.reduceLT,Int.reduceLE,Int.reduceNeg,Int.reduceAdd,Int.reduceToNat,reduceIte,decide_true,decide_false,dk1]) (by kernel_rfl) (by simp only [push_cast,Nat.reduceEqDiff,reduceCtorEq,Nat.reduceAdd,Nat.reduceMul,Nat.reduceSub,Nat.reduceLeDiff,Nat.reduceLT,Nat.reduceBEq,Nat.reducePow,Int.reduceEq,Int.reduceLT,Int.reduceLE,Int.reduceNeg,Int.reduceAdd,Int.reduceToNat,reduceIte,decide_true,decide_false,dk1]) (qi8 F.gst d b1 b2) ?_
 (repeat (refine q0a fun K1 hK1=>?_;simp only [push_cast,Nat.reduceEqDiff,reduceCtorEq,Nat.reduceAdd,Nat.reduceMul,Nat.reduceSub,Nat.reduceLeDiff,Nat.reduceLT,Nat.reduceBEq,Nat.reducePow,Int.reduceEq,Int.reduceLT,Int.reduceLE,Int.reduceNeg,Int.reduceAdd,Int.reduceToNat,reduceIte,decide_true,decide_false,e0];(try simp (disch:=omega) only [wrap64,q0k]);(first|refine hK1 _ ?_|refine ⟨by omega,hK1 _ ?_⟩);clear hK1 K1));refine q0g ?_
 repeat (first|((first|refine q00 (by rw [hF];kernel_rfl) ?_|refine q03 (by rw [hF];kernel_rfl) ?_);(repeat (refine q0a fun K1 hK1=>?_;simp only [push_cast,Nat.reduceEqDiff,reduceCtorEq,Nat.reduceAdd,Nat.reduceMul,Nat.reduceSub,Nat.reduceLeDiff,Nat.reduceLT,Nat.reduceBEq,Nat.reducePow,Int.reduceEq,Int.reduceLT,Int.reduceLE,Int.reduceNeg,Int.reduceAdd,Int.reduceToNat,reduceIte,decide_true,decide_false];(try simp (disch:=omega) only [wrap64,q0k]);(first|refine hK1 _ ?_|refine ⟨by omega,hK1 _ ?_⟩);clear hK1 K1));refine q0g ?_)|refine q0e ?_|refine q07 ?_|refine q0c ?_|refine q0d ?_|refine q0f ?_|refine q02 ?_|refine q06 ?_|refine q09 ?_|refine q01 ?_|refine q08 ?_|refine q05 ?_|refine q04 rfl ?_)
 refine q0s (by simp only [push_cast,Nat.reduceEqDiff,reduceCtorEq,Nat.reduceAdd,Nat.reduceMul,Nat.reduceSub,Nat.reduceLeDiff,Nat.reduceLT,Nat.reduceBEq,Nat.reducePow,Int.reduceEq,Int.reduceLT,Int.reduceLE,Int.reduceNeg,Int.reduceAdd,Int.reduceToNat,reduceIte,decide_true,decide_false]) ?_
 repeat (first|((first|refine q00 (by rw [hF];kernel_rfl) ?_|refine q03 (by rw [hF];kernel_rfl) ?_);(repeat (refine q0a fun K1 hK1=>?_;simp only [push_cast,Nat.reduceEqDiff,reduceCtorEq,Nat.reduceAdd,Nat.reduceMul,Nat.reduceSub,Nat.reduceLeDiff,Nat.reduceLT,Nat.reduceBEq,Nat.reducePow,Int.reduceEq,Int.reduceLT,Int.reduceLE,Int.reduceNeg,Int.reduceAdd,Int.reduceToNat,reduceIte,decide_true,decide_false];(try simp (disch:=omega) only [wrap64,q0k]);(first|refine hK1 _ ?_|refine ⟨by omega,hK1 _ ?_⟩);clear hK1 K1));refine q0g ?_)|refine q0e ?_|refine q07 ?_|refine q0c ?_|refine q0d ?_|refine q0f ?_|refine q02 ?_|refine q06 ?_|refine q09 ?_|refine q01 ?_|refine q08 ?_|refine q05 ?_|refine q04 rfl ?_)
 refine (hQ _ ?_).2
 simp only [push_cast,Nat.reduceEqDiff,reduceCtorEq,Nat.reduceAdd,Nat.reduceMul,Nat.reduceSub,Nat.reduceLeDiff,Nat.reduceLT,Nat.reduceBEq,Nat.reducePow,Int.reduceEq,Int.reduceLT,Int.reduceLE,Int.reduceNeg,Int.reduceAdd,Int.reduceToNat,reduceIte,decide_true,decide_false]
set_option maxHeartbeats 3200000 in
theorem j1b {G:World->Prop} (hG:qq2 G) (d:DM.Dk) (keep:List Bool) (b1:d.secs.length<=1000000) (b2:d.cache.length<=1000000) (b3:keep.length<=1000000) (hm:DM.q2s d):q13 Tryz.prog G 32 [.one (dk1 d),j3k 1 (qv7 keep)] (rawD (DM.q0m (fun j=>keep.getD j false) d.secs d.cache d.cache.length)):=by
 have e0:decide (DM.q2s d)=true:=decide_eq_true hm
 unfold rawD
 unfold dk1
 refine q3d Tryz.func32 rfl (by simp [Tryz.ntmps32]) hG ?_;intro F hF hFG Q hQ;rw [Tryz.ntmps32] at hF;rw [Tryz.results32] at hQ
 repeat (first|((first|refine q00 (by rw [hF];kernel_rfl) ?_|refine q03 (by rw [hF];kernel_rfl) ?_);(repeat (refine q0a fun K1 hK1=>?_;simp only [push_cast,Nat.reduceEqDiff,reduceCtorEq,Nat.reduceAdd,Nat.reduceMul,Nat.reduceSub,Nat.reduceLeDiff,Nat.reduceLT,Nat.reduceBEq,Nat.reducePow,Int.reduceEq,Int.reduceLT,Int.reduceLE,Int.reduceNeg,Int.reduceAdd,Int.reduceToNat,reduceIte,decide_true,decide_false];(try simp (disch:=omega) only [wrap64,q0k]);(first|refine hK1 _ ?_|refine ⟨by omega,hK1 _ ?_⟩);clear hK1 K1));refine q0g ?_)|refine q0e ?_|refine q07 ?_|refine q0c ?_|refine q0d ?_|refine q0f ?_|refine q02 ?_|refine q06 ?_|refine q09 ?_|refine q01 ?_|refine q08 ?_|refine q05 ?_|refine q04 rfl ?_)
 (first|(refine q00 (by rw [hF];kernel_rfl) ?_)|(refine q03 (by rw [hF];kernel_rfl) ?_));(repeat (refine q0a fun K1 hK1=>?_;simp only [push_cast,Nat.reduceEqDiff,reduceCtorEq,Nat.reduceAdd,Nat.reduceMul,Nat.reduceSub,Nat.reduceLeDiff,Nat.reduceLT,Nat.reduceBEq,Nat.reducePow,Int.reduceEq,Int.reduceLT,Int.reduceLE,Int.reduceNeg,Int.reduceAdd,Int.reduceToNat,reduceIte,decide_true,decide_false];(try simp (disch:=omega) only [wrap64,q0k]);(first|refine hK1 _ ?_|refine ⟨by omega,hK1 _ ?_⟩);clear hK1 K1))
 refine q2z (by simp only [push_cast,Nat.reduceEqDiff,reduceCtorEq,Nat.reduceAdd,Nat.reduceMul,Nat.reduceSub,Nat.reduceLeDiff,Nat.reduceLT,Nat.reduceBEq,Nat.reducePow,Int.reduceEq,Int.reduceLT,Int.reduceLE,Int.reduceNeg,Int.reduceAdd,Int.reduceToNat,reduceIte,decide_true,decide_false,dk1]) rfl (by simp only [push_cast,Nat.reduceEqDiff,reduceCtorEq,Nat.reduceAdd,Nat.reduceMul,Nat.reduceSub,Nat.reduceLeDiff,Nat.reduceLT,Nat.reduceBEq,Nat.reducePow,Int.reduceEq,Int.reduceLT,Int.reduceLE,Int.reduceNeg,Int.reduceAdd,Int.reduceToNat,reduceIte,decide_true,decide_false,dk1]) (by kernel_rfl) (by simp only [push_cast,Nat.reduceEqDiff,reduceCtorEq,Nat.reduceAdd,Nat.reduceMul,Nat.reduceSub,Nat.reduceLeDiff,Nat.reduceLT,Nat.reduceBEq,Nat.reducePow,Int.reduceEq,Int.reduceLT,Int.reduceLE,Int.reduceNeg,Int.reduceAdd,Int.reduceToNat,reduceIte,decide_true,decide_false,dk1]) (qi8 F.gst d b1 b2) ?_
 (repeat (refine q0a fun K1 hK1=>?_;simp only [push_cast,Nat.reduceEqDiff,reduceCtorEq,Nat.reduceAdd,Nat.reduceMul,Nat.reduceSub,Nat.reduceLeDiff,Nat.reduceLT,Nat.reduceBEq,Nat.reducePow,Int.reduceEq,Int.reduceLT,Int.reduceLE,Int.reduceNeg,Int.reduceAdd,Int.reduceToNat,reduceIte,decide_true,decide_false,e0];(try simp (disch:=omega) only [wrap64,q0k]);(first|refine hK1 _ ?_|refine ⟨by omega,hK1 _ ?_⟩);clear hK1 K1));refine q0g ?_
 repeat (first|((first|refine q00 (by rw [hF];kernel_rfl) ?_|refine q03 (by rw [hF];kernel_rfl) ?_);(repeat (refine q0a fun K1 hK1=>?_;simp only [push_cast,Nat.reduceEqDiff,reduceCtorEq,Nat.reduceAdd,Nat.reduceMul,Nat.reduceSub,Nat.reduceLeDiff,Nat.reduceLT,Nat.reduceBEq,Nat.reducePow,Int.reduceEq,Int.reduceLT,Int.reduceLE,Int.reduceNeg,Int.reduceAdd,Int.reduceToNat,reduceIte,decide_true,decide_false];(try simp (disch:=omega) only [wrap64,q0k]);(first|refine hK1 _ ?_|refine ⟨by omega,hK1 _ ?_⟩);clear hK1 K1));refine q0g ?_)|refine q0e ?_|refine q07 ?_|refine q0c ?_|refine q0d ?_|refine q0f ?_|refine q02 ?_|refine q06 ?_|refine q09 ?_|refine q01 ?_|refine q08 ?_|refine q05 ?_|refine q04 rfl ?_)
 refine q0t (by simp only [push_cast,Nat.reduceEqDiff,reduceCtorEq,Nat.reduceAdd,Nat.reduceMul,Nat.reduceSub,Nat.reduceLeDiff,Nat.reduceLT,Nat.reduceBEq,Nat.reducePow,Int.reduceEq,Int.reduceLT,Int.reduceLE,Int.reduceNeg,Int.reduceAdd,Int.reduceToNat,reduceIte,decide_true,decide_false]) ?_
 repeat (first|((first|refine q00 (by rw [hF];kernel_rfl) ?_|refine q03 (by rw [hF];kernel_rfl) ?_);(repeat (refine q0a fun K1 hK1=>?_;simp only [push_cast,Nat.reduceEqDiff,reduceCtorEq,Nat.reduceAdd,Nat.reduceMul,Nat.reduceSub,Nat.reduceLeDiff,Nat.reduceLT,Nat.reduceBEq,Nat.reducePow,Int.reduceEq,Int.reduceLT,Int.reduceLE,Int.reduceNeg,Int.reduceAdd,Int.reduceToNat,reduceIte,decide_true,decide_false];(try simp (disch:=omega) only [wrap64,q0k]);(first|refine hK1 _ ?_|refine ⟨by omega,hK1 _ ?_⟩);clear hK1 K1));refine q0g ?_)|refine q0e ?_|refine q07 ?_|refine q0c ?_|refine q0d ?_|refine q0f ?_|refine q02 ?_|refine q06 ?_|refine q09 ?_|refine q01 ?_|refine q08 ?_|refine q05 ?_|refine q04 rfl ?_)
 refine q40 (fun n σ=>∃ k:Nat,k<=d.cache.length/\n=d.cache.length - k/\σ=St.of [(1,j3k 1 (qv7 keep)),(2,.one (.c (.box 2 0))),(4,.one (.c (.box 4 0))),(6,.one (.c (.row 12 1))),(7,q26 (.int .i64 k))] [(2,(25,dkC d)),(4,(25,[.d (.v (.slice none 0 0)),.d (.v (.slice none 0 0))]))] [(12,{ gen:=1,E:=9,sz:=1,wr:=true,xs:=qb9 (DM.q0m (fun j=>keep.getD j false) d.secs d.cache k) })])
  d.cache.length (St.of [(1,j3k 1 (qv7 keep)),(2,.one (.c (.box 2 0))),(4,.one (.c (.box 4 0))),(6,.one (.c (.row 12 1))),(7,q26 (.int .i64 0))] [(2,(25,dkC d)),(4,(25,[.d (.v (.slice none 0 0)),.d (.v (.slice none 0 0))]))] [(12,{ gen:=1,E:=9,sz:=1,wr:=true,xs:=qb9 d.secs })]) ⟨0,Nat.zero_le _,by simp,rfl⟩ (by (refine Le.of ?_ ?_ ?_<;>simp only [List.not_mem_nil,false_implies,implies_true,and_true,true_and,push_cast,Nat.reduceEqDiff,reduceCtorEq,Nat.reduceAdd,Nat.reduceMul,Nat.reduceSub,Nat.reduceLeDiff,Nat.reduceLT,Nat.reduceBEq,Nat.reducePow,Int.reduceEq,Int.reduceLT,Int.reduceLE,Int.reduceNeg,Int.reduceAdd,Int.reduceToNat,reduceIte,decide_true,decide_false,exists_eq_left',Nat.le_refl])) ?_
 rintro n σ ⟨k,hk,rfl,rfl⟩
 by_cases hkn:(k:Int)<(d.cache.length:Int)
 ·have hkd:k<d.cache.length:=by omega
  have hg:=j08 hkd
  have hw:=hm.2.2.2 _ (List.getElem_mem hkd)
  have hgd:d.cache.getD k (0,⟨#[]⟩)=d.cache[k]:=by simp [List.getD,hkd]
  obtain ⟨⟨at',s⟩,ha⟩ : ∃ a:DM.Wr,d.cache[k]=a:=⟨_,rfl⟩
  rw [ha] at hg hw hgd
  obtain ⟨hw0,hw1,hw2⟩:=hw
  obtain ⟨p,rfl⟩ : ∃ p:Nat,at'=(p:Int):=⟨at'.toNat,by omega⟩
  have hp:p<(DM.q0m (fun j=>keep.getD j false) d.secs d.cache k).length:=by rw [DM.q1f];omega
  obtain ⟨L,hL⟩ : ∃ L,DM.q0m (fun j=>keep.getD j false) d.secs d.cache k=L:=⟨_,rfl⟩
  have hpl:p<L.length:=by rw [<-hL];exact hp
  have hs1:keep.getD k false=true->DM.q0m (fun j=>keep.getD j false) d.secs d.cache (k+1)=L.set p s:=fun h=>by
   unfold DM.q0m;rw [if_pos h,hgd,hL];rfl
  have hs0:keep.getD k false=false->DM.q0m (fun j=>keep.getD j false) d.secs d.cache (k+1)=L:=fun h=>by
   unfold DM.q0m;rw [if_neg (by rw [h];decide),hL]
  rw [hL]
  repeat (first|((first|refine q00 (by rw [hF];kernel_rfl) ?_|refine q03 (by rw [hF];kernel_rfl) ?_);(repeat (refine q0a fun K1 hK1=>?_;simp only [push_cast,Nat.reduceEqDiff,reduceCtorEq,Nat.reduceAdd,Nat.reduceMul,Nat.reduceSub,Nat.reduceLeDiff,Nat.reduceLT,Nat.reduceBEq,Nat.reducePow,Int.reduceEq,Int.reduceLT,Int.reduceLE,Int.reduceNeg,Int.reduceAdd,Int.reduceToNat,reduceIte,decide_true,decide_false,hkn];(try simp (disch:=omega) only [wrap64,q0k]);(first|refine hK1 _ ?_|refine ⟨by omega,hK1 _ ?_⟩);clear hK1 K1));refine q0g ?_)|refine q0e ?_|refine q07 ?_|refine q0c ?_|refine q0d ?_|refine q0f ?_|refine q02 ?_|refine q06 ?_|refine q09 ?_|refine q01 ?_|refine q08 ?_|refine q05 ?_|refine q04 rfl ?_)
  refine q0s (by simp only [push_cast,Nat.reduceEqDiff,reduceCtorEq,Nat.reduceAdd,Nat.reduceMul,Nat.reduceSub,Nat.reduceLeDiff,Nat.reduceLT,Nat.reduceBEq,Nat.reducePow,Int.reduceEq,Int.reduceLT,Int.reduceLE,Int.reduceNeg,Int.reduceAdd,Int.reduceToNat,reduceIte,decide_true,decide_false]) ?_
  repeat (first|((first|refine q00 (by rw [hF];kernel_rfl) ?_|refine q03 (by rw [hF];kernel_rfl) ?_);(repeat (refine q0a fun K1 hK1=>?_;simp only [push_cast,Nat.reduceEqDiff,reduceCtorEq,Nat.reduceAdd,Nat.reduceMul,Nat.reduceSub,Nat.reduceLeDiff,Nat.reduceLT,Nat.reduceBEq,Nat.reducePow,Int.reduceEq,Int.reduceLT,Int.reduceLE,Int.reduceNeg,Int.reduceAdd,Int.reduceToNat,reduceIte,decide_true,decide_false];(try simp (disch:=omega) only [wrap64,q0k]);(first|refine hK1 _ ?_|refine ⟨by omega,hK1 _ ?_⟩);clear hK1 K1));refine q0g ?_)|refine q0e ?_|refine q07 ?_|refine q0c ?_|refine q0d ?_|refine q0f ?_|refine q02 ?_|refine q06 ?_|refine q09 ?_|refine q01 ?_|refine q08 ?_|refine q05 ?_|refine q04 rfl ?_)
  by_cases ck:(k:Int)<(keep.length:Int)
  ·have hkk:k<keep.length:=by omega
   have hb:=jde hkk
   have hkg:keep.getD k false=keep[k]:=by simp [List.getD,hkk]
   obtain ⟨b,hbk⟩ : ∃ b,keep[k]=b:=⟨_,rfl⟩
   rw [hbk] at hb hkg
   cases b
   ·repeat (first|((first|refine q00 (by rw [hF];kernel_rfl) ?_|refine q03 (by rw [hF];kernel_rfl) ?_);(repeat (refine q0a fun K1 hK1=>?_;simp only [push_cast,Nat.reduceEqDiff,reduceCtorEq,Nat.reduceAdd,Nat.reduceMul,Nat.reduceSub,Nat.reduceLeDiff,Nat.reduceLT,Nat.reduceBEq,Nat.reducePow,Int.reduceEq,Int.reduceLT,Int.reduceLE,Int.reduceNeg,Int.reduceAdd,Int.reduceToNat,reduceIte,decide_true,decide_false,ck,hb];(try simp (disch:=omega) only [wrap64,q0k]);(first|refine hK1 _ ?_|refine ⟨by omega,hK1 _ ?_⟩);clear hK1 K1));refine q0g ?_)|refine q0e ?_|refine q07 ?_|refine q0c ?_|refine q0d ?_|refine q0f ?_|refine q02 ?_|refine q06 ?_|refine q09 ?_|refine q01 ?_|refine q08 ?_|refine q05 ?_|refine q04 rfl ?_)
    refine q0t (by simp only [push_cast,Nat.reduceEqDiff,reduceCtorEq,Nat.reduceAdd,Nat.reduceMul,Nat.reduceSub,Nat.reduceLeDiff,Nat.reduceLT,Nat.reduceBEq,Nat.reducePow,Int.reduceEq,Int.reduceLT,Int.reduceLE,Int.reduceNeg,Int.reduceAdd,Int.reduceToNat,reduceIte,decide_true,decide_false]) ?_
    repeat (first|((first|refine q00 (by rw [hF];kernel_rfl) ?_|refine q03 (by rw [hF];kernel_rfl) ?_);(repeat (refine q0a fun K1 hK1=>?_;simp only [push_cast,Nat.reduceEqDiff,reduceCtorEq,Nat.reduceAdd,Nat.reduceMul,Nat.reduceSub,Nat.reduceLeDiff,Nat.reduceLT,Nat.reduceBEq,Nat.reducePow,Int.reduceEq,Int.reduceLT,Int.reduceLE,Int.reduceNeg,Int.reduceAdd,Int.reduceToNat,reduceIte,decide_true,decide_false];(try simp (disch:=omega) only [wrap64,q0k]);(first|refine hK1 _ ?_|refine ⟨by omega,hK1 _ ?_⟩);clear hK1 K1));refine q0g ?_)|refine q0e ?_|refine q07 ?_|refine q0c ?_|refine q0d ?_|refine q0f ?_|refine q02 ?_|refine q06 ?_|refine q09 ?_|refine q01 ?_|refine q08 ?_|refine q05 ?_|refine q04 rfl ?_)
    refine ⟨_,_,?_,⟨k+1,hkd,rfl,rfl⟩,by rw [hs0 hkg];(refine Le.of ?_ ?_ ?_<;>simp only [List.not_mem_nil,false_implies,implies_true,and_true,true_and,push_cast,Nat.reduceEqDiff,reduceCtorEq,Nat.reduceAdd,Nat.reduceMul,Nat.reduceSub,Nat.reduceLeDiff,Nat.reduceLT,Nat.reduceBEq,Nat.reducePow,Int.reduceEq,Int.reduceLT,Int.reduceLE,Int.reduceNeg,Int.reduceAdd,Int.reduceToNat,reduceIte,decide_true,decide_false,exists_eq_left',Nat.le_refl])⟩
    omega
   ·repeat (first|((first|refine q00 (by rw [hF];kernel_rfl) ?_|refine q03 (by rw [hF];kernel_rfl) ?_);(repeat (refine q0a fun K1 hK1=>?_;simp only [push_cast,Nat.reduceEqDiff,reduceCtorEq,Nat.reduceAdd,Nat.reduceMul,Nat.reduceSub,Nat.reduceLeDiff,Nat.reduceLT,Nat.reduceBEq,Nat.reducePow,Int.reduceEq,Int.reduceLT,Int.reduceLE,Int.reduceNeg,Int.reduceAdd,Int.reduceToNat,reduceIte,decide_true,decide_false,ck,hb];(try simp (disch:=omega) only [wrap64,q0k]);(first|refine hK1 _ ?_|refine ⟨by omega,hK1 _ ?_⟩);clear hK1 K1));refine q0g ?_)|refine q0e ?_|refine q07 ?_|refine q0c ?_|refine q0d ?_|refine q0f ?_|refine q02 ?_|refine q06 ?_|refine q09 ?_|refine q01 ?_|refine q08 ?_|refine q05 ?_|refine q04 rfl ?_)
    refine q0s (by simp only [push_cast,Nat.reduceEqDiff,reduceCtorEq,Nat.reduceAdd,Nat.reduceMul,Nat.reduceSub,Nat.reduceLeDiff,Nat.reduceLT,Nat.reduceBEq,Nat.reducePow,Int.reduceEq,Int.reduceLT,Int.reduceLE,Int.reduceNeg,Int.reduceAdd,Int.reduceToNat,reduceIte,decide_true,decide_false]) ?_
    (first|(refine q2l (by kernel_rfl) (by rw [hF];kernel_rfl) ?_)|(refine q2o (by kernel_rfl) (by rw [hF];kernel_rfl) ?_));(repeat (refine q44 fun K1 hK1=>?_;simp only [push_cast,Nat.reduceEqDiff,reduceCtorEq,Nat.reduceAdd,Nat.reduceMul,Nat.reduceSub,Nat.reduceLeDiff,Nat.reduceLT,Nat.reduceBEq,Nat.reducePow,Int.reduceEq,Int.reduceLT,Int.reduceLE,Int.reduceNeg,Int.reduceAdd,Int.reduceToNat,reduceIte,decide_true,decide_false,hg,hpl];(try simp (disch:=omega) only [wrap64,q0k]);(first|refine hK1 _ _ ?_|refine ⟨by omega,hK1 _ _ ?_⟩);clear hK1 K1));refine q6b (by kernel_rfl) ?_
    repeat (first|((first|refine q00 (by rw [hF];kernel_rfl) ?_|refine q03 (by rw [hF];kernel_rfl) ?_);(repeat (refine q0a fun K1 hK1=>?_;simp only [push_cast,Nat.reduceEqDiff,reduceCtorEq,Nat.reduceAdd,Nat.reduceMul,Nat.reduceSub,Nat.reduceLeDiff,Nat.reduceLT,Nat.reduceBEq,Nat.reducePow,Int.reduceEq,Int.reduceLT,Int.reduceLE,Int.reduceNeg,Int.reduceAdd,Int.reduceToNat,reduceIte,decide_true,decide_false];(try simp (disch:=omega) only [wrap64,q0k]);(first|refine hK1 _ ?_|refine ⟨by omega,hK1 _ ?_⟩);clear hK1 K1));refine q0g ?_)|refine q0e ?_|refine q07 ?_|refine q0c ?_|refine q0d ?_|refine q0f ?_|refine q02 ?_|refine q06 ?_|refine q09 ?_|refine q01 ?_|refine q08 ?_|refine q05 ?_|refine q04 rfl ?_)
    refine ⟨_,_,?_,⟨k+1,hkd,rfl,rfl⟩,?_⟩
    ·omega
    ·rw [hs1 hkg]
     (refine Le.of ?_ ?_ ?_<;>simp only [List.not_mem_nil,false_implies,implies_true,and_true,true_and,push_cast,Nat.reduceEqDiff,reduceCtorEq,Nat.reduceAdd,Nat.reduceMul,Nat.reduceSub,Nat.reduceLeDiff,Nat.reduceLT,Nat.reduceBEq,Nat.reducePow,Int.reduceEq,Int.reduceLT,Int.reduceLE,Int.reduceNeg,Int.reduceAdd,Int.reduceToNat,reduceIte,decide_true,decide_false,exists_eq_left',Nat.le_refl])
     rw [Row.mk.injEq]
     exact ⟨rfl,rfl,rfl,rfl,jdq hpl⟩
  ·have hkg:keep.getD k false=false:=by simp [List.getD,show keep.length<=k by omega]
   repeat (first|((first|refine q00 (by rw [hF];kernel_rfl) ?_|refine q03 (by rw [hF];kernel_rfl) ?_);(repeat (refine q0a fun K1 hK1=>?_;simp only [push_cast,Nat.reduceEqDiff,reduceCtorEq,Nat.reduceAdd,Nat.reduceMul,Nat.reduceSub,Nat.reduceLeDiff,Nat.reduceLT,Nat.reduceBEq,Nat.reducePow,Int.reduceEq,Int.reduceLT,Int.reduceLE,Int.reduceNeg,Int.reduceAdd,Int.reduceToNat,reduceIte,decide_true,decide_false,ck];(try simp (disch:=omega) only [wrap64,q0k]);(first|refine hK1 _ ?_|refine ⟨by omega,hK1 _ ?_⟩);clear hK1 K1));refine q0g ?_)|refine q0e ?_|refine q07 ?_|refine q0c ?_|refine q0d ?_|refine q0f ?_|refine q02 ?_|refine q06 ?_|refine q09 ?_|refine q01 ?_|refine q08 ?_|refine q05 ?_|refine q04 rfl ?_)
   refine q0t (by simp only [push_cast,Nat.reduceEqDiff,reduceCtorEq,Nat.reduceAdd,Nat.reduceMul,Nat.reduceSub,Nat.reduceLeDiff,Nat.reduceLT,Nat.reduceBEq,Nat.reducePow,Int.reduceEq,Int.reduceLT,Int.reduceLE,Int.reduceNeg,Int.reduceAdd,Int.reduceToNat,reduceIte,decide_true,decide_false]) ?_
   repeat (first|((first|refine q00 (by rw [hF];kernel_rfl) ?_|refine q03 (by rw [hF];kernel_rfl) ?_);(repeat (refine q0a fun K1 hK1=>?_;simp only [push_cast,Nat.reduceEqDiff,reduceCtorEq,Nat.reduceAdd,Nat.reduceMul,Nat.reduceSub,Nat.reduceLeDiff,Nat.reduceLT,Nat.reduceBEq,Nat.reducePow,Int.reduceEq,Int.reduceLT,Int.reduceLE,Int.reduceNeg,Int.reduceAdd,Int.reduceToNat,reduceIte,decide_true,decide_false];(try simp (disch:=omega) only [wrap64,q0k]);(first|refine hK1 _ ?_|refine ⟨by omega,hK1 _ ?_⟩);clear hK1 K1));refine q0g ?_)|refine q0e ?_|refine q07 ?_|refine q0c ?_|refine q0d ?_|refine q0f ?_|refine q02 ?_|refine q06 ?_|refine q09 ?_|refine q01 ?_|refine q08 ?_|refine q05 ?_|refine q04 rfl ?_)
   refine ⟨_,_,?_,⟨k+1,hkd,rfl,rfl⟩,by rw [hs0 hkg];(refine Le.of ?_ ?_ ?_<;>simp only [List.not_mem_nil,false_implies,implies_true,and_true,true_and,push_cast,Nat.reduceEqDiff,reduceCtorEq,Nat.reduceAdd,Nat.reduceMul,Nat.reduceSub,Nat.reduceLeDiff,Nat.reduceLT,Nat.reduceBEq,Nat.reducePow,Int.reduceEq,Int.reduceLT,Int.reduceLE,Int.reduceNeg,Int.reduceAdd,Int.reduceToNat,reduceIte,decide_true,decide_false,exists_eq_left',Nat.le_refl])⟩
   omega
 ·have hkl:k=d.cache.length:=by omega
  subst hkl
  repeat (first|((first|refine q00 (by rw [hF];kernel_rfl) ?_|refine q03 (by rw [hF];kernel_rfl) ?_);(repeat (refine q0a fun K1 hK1=>?_;simp only [push_cast,Nat.reduceEqDiff,reduceCtorEq,Nat.reduceAdd,Nat.reduceMul,Nat.reduceSub,Nat.reduceLeDiff,Nat.reduceLT,Nat.reduceBEq,Nat.reducePow,Int.reduceEq,Int.reduceLT,Int.reduceLE,Int.reduceNeg,Int.reduceAdd,Int.reduceToNat,reduceIte,decide_true,decide_false,hkn];(try simp (disch:=omega) only [wrap64,q0k]);(first|refine hK1 _ ?_|refine ⟨by omega,hK1 _ ?_⟩);clear hK1 K1));refine q0g ?_)|refine q0e ?_|refine q07 ?_|refine q0c ?_|refine q0d ?_|refine q0f ?_|refine q02 ?_|refine q06 ?_|refine q09 ?_|refine q01 ?_|refine q08 ?_|refine q05 ?_|refine q04 rfl ?_)
  refine q0t (by simp only [push_cast,Nat.reduceEqDiff,reduceCtorEq,Nat.reduceAdd,Nat.reduceMul,Nat.reduceSub,Nat.reduceLeDiff,Nat.reduceLT,Nat.reduceBEq,Nat.reducePow,Int.reduceEq,Int.reduceLT,Int.reduceLE,Int.reduceNeg,Int.reduceAdd,Int.reduceToNat,reduceIte,decide_true,decide_false]) ?_
  refine qd3 ?_
  repeat (first|((first|refine q00 (by rw [hF];kernel_rfl) ?_|refine q03 (by rw [hF];kernel_rfl) ?_);(repeat (refine q0a fun K1 hK1=>?_;simp only [push_cast,Nat.reduceEqDiff,reduceCtorEq,Nat.reduceAdd,Nat.reduceMul,Nat.reduceSub,Nat.reduceLeDiff,Nat.reduceLT,Nat.reduceBEq,Nat.reducePow,Int.reduceEq,Int.reduceLT,Int.reduceLE,Int.reduceNeg,Int.reduceAdd,Int.reduceToNat,reduceIte,decide_true,decide_false];(try simp (disch:=omega) only [wrap64,q0k]);(first|refine hK1 _ ?_|refine ⟨by omega,hK1 _ ?_⟩);clear hK1 K1));refine q0g ?_)|refine q0e ?_|refine q07 ?_|refine q0c ?_|refine q0d ?_|refine q0f ?_|refine q02 ?_|refine q06 ?_|refine q09 ?_|refine q01 ?_|refine q08 ?_|refine q05 ?_|refine q04 rfl ?_)
  refine (hQ _ ?_).2
  simp only [push_cast,Nat.reduceEqDiff,reduceCtorEq,Nat.reduceAdd,Nat.reduceMul,Nat.reduceSub,Nat.reduceLeDiff,Nat.reduceLT,Nat.reduceBEq,Nat.reducePow,Int.reduceEq,Int.reduceLT,Int.reduceLE,Int.reduceNeg,Int.reduceAdd,Int.reduceToNat,reduceIte,decide_true,decide_false,frz]
theorem qsg {G:World->Prop} (hG:qq2 G) (d:DM.Dk) (keep:List Bool) (b1:d.secs.length<=1000000) (b2:d.cache.length<=1000000) (b3:keep.length<=1000000):q13 Tryz.prog G 32 [.one (dk1 d),j3k 1 (qv7 keep)] (qkc (DM.q3z (fun j=>keep.getD j false) d) (DM.qtv d)):=by
 by_cases hm:DM.q2s d
 ·rw [DM.q3z,DM.qtv,if_pos hm,if_pos hm]
  exact (j1b hG d keep b1 b2 b3 hm).weak fun _ _ _ h=>jf5 h
 ·rw [DM.q3z,DM.qtv,if_neg hm,if_neg hm]
  exact j9q hG d keep b1 b2 hm
theorem q13.args {P:Program} {G:World->Prop} {f:FuncId} {ds ds':List D} {d:D} (h:q13 P G f ds d) (ha : ∀Pc w vs,q14 (q1u (q1x Pc) q2g w) vs ds'->q14 (q1u (q1x Pc) q2g w) vs ds):q13 P G f ds' d :=
 fun Pc w vs hg hlt hv=>h Pc w vs hg hlt (ha _ _ _ hv)
theorem jc7 {Pc:Nat->Nat->Prop} {w:World} {d:D} {sz:Nat} (vs:List Value) (h:q14 (q1u (q1x Pc) q2g w) vs [d,q26 (.slice none 0 0)]):q14 (q1u (q1x Pc) q2g w) vs [d,j3k sz []]:=by
 match vs,h with
 | [x,y],⟨h1,h2,_⟩=>exact ⟨h1,q42 sz h2,trivial⟩
end Go.Proofs.YthpgnliicpejoaaGreatDoor.AM
namespace Go.Proofs.YthpgnliicpejoaaGreatDoor.AM
open Go.RowKit
set_option linter.unusedVariables false
set_option linter.unusedSimpArgs false
abbrev j1z:List C:=[.d (.v (.slice none 0 0)),.d (.v (.slice none 0 0))]
def flS (d:DM.Dk):Nat->St
 | 0=>St.of [(1,.one (.c (.box 1 0))),(2,.one (.c (.box 2 0))),(4,q26 (.slice none 0 0)),(5,q26 (.int .i64 0))] [(1,(25,dkC d)),(2,(25,j1z))] []
 | k+1=>St.of [(1,.one (.c (.box 1 0))),(2,.one (.c (.box 2 0))),(4,.one (.c (.row 15 k))),(5,q26 (.int .i64 ((k+1:Nat):Int)))] [(1,(25,dkC d)),(2,(25,j1z))] [(15,{ gen:=k,E:=4,sz:=1,wr:=true,xs:=qv7 (List.replicate (k+1) true) })]
theorem qzy (d:DM.Dk):flS d 0=St.of [(1,.one (.c (.box 1 0))),(2,.one (.c (.box 2 0))),(4,q26 (.slice none 0 0)),(5,q26 (.int .i64 0))] [(1,(25,dkC d)),(2,(25,j1z))] []:=rfl
theorem qp6 (d:DM.Dk) (k:Nat):flS d (k+1)=St.of [(1,.one (.c (.box 1 0))),(2,.one (.c (.box 2 0))),(4,.one (.c (.row 15 k))),(5,q26 (.int .i64 ((k+1:Nat):Int)))] [(1,(25,dkC d)),(2,(25,j1z))] [(15,{ gen:=k,E:=4,sz:=1,wr:=true,xs:=qv7 (List.replicate (k+1) true) })]:=rfl
theorem j4u (k:Nat):qv7 (List.replicate k true) ++ [[.v (.bool true)]]=qv7 (List.replicate (k+1) true):=by simp [qv7,List.replicate_succ']
theorem j88 (d:DM.Dk):DM.q3z (fun j=>(List.replicate d.cache.length true).getD j false) d=DM.q3z (fun _=>true) d:=by
 unfold DM.q3z DM.q1n
 rw [DM.qni d.secs d.cache d.cache.length (f:=fun j=>(List.replicate d.cache.length true).getD j false) (g:=fun _=>true) (fun j hj=>by simp [List.getD,hj])]
set_option maxHeartbeats 1600000 in
theorem j77 {G:World->Prop} (hG:qq2 G) (d:DM.Dk) (b1:d.secs.length<=1000000) (b2:d.cache.length<=1000000):q13 Tryz.prog G 60 [.one (dk1 d)] (qkc (DM.q3z (fun _=>true) d) (DM.qtv d)):=by
 obtain ⟨D',hD'⟩ : ∃ D',DM.q3z (fun _=>true) d=D':=⟨_,rfl⟩
 obtain ⟨X,hX⟩ : ∃ X,DM.qtv d=X:=⟨_,rfl⟩
 have C0:q13 Tryz.prog G 32 [.one (dk1 d),j3k 1 (qv7 (List.replicate d.cache.length true))] (qkc D' X):=by
  have:=qsg hG d (List.replicate d.cache.length true) b1 b2 (by simp;omega)
  rw [j88,hD',hX] at this
  exact this
 rw [hD',hX]
 unfold qkc
 unfold dk1
 refine q3d Tryz.func60 rfl (by simp [Tryz.ntmps60]) hG ?_;intro F hF hFG Q hQ;rw [Tryz.ntmps60] at hF;rw [Tryz.results60] at hQ
 subst hFG
 repeat (first|((first|refine q00 (by rw [hF];kernel_rfl) ?_|refine q03 (by rw [hF];kernel_rfl) ?_);(repeat (refine q0a fun K1 hK1=>?_;simp only [push_cast,Nat.reduceEqDiff,reduceCtorEq,Nat.reduceAdd,Nat.reduceMul,Nat.reduceSub,Nat.reduceLeDiff,Nat.reduceLT,Nat.reduceBEq,Nat.reducePow,Int.reduceEq,Int.reduceLT,Int.reduceLE,Int.reduceNeg,Int.reduceAdd,Int.reduceToNat,reduceIte,decide_true,decide_false];(try simp (disch:=omega) only [wrap64,q0k]);(first|refine hK1 _ ?_|refine ⟨by omega,hK1 _ ?_⟩);clear hK1 K1));refine q0g ?_)|refine q0e ?_|refine q07 ?_|refine q0c ?_|refine q0d ?_|refine q0f ?_|refine q02 ?_|refine q06 ?_|refine q09 ?_|refine q01 ?_|refine q08 ?_|refine q05 ?_|refine q04 rfl ?_)
 refine q40 (fun n σ=>∃ k:Nat,k<=d.cache.length/\n=d.cache.length - k/\σ=flS d k) d.cache.length (flS d 0) ⟨0,Nat.zero_le _,by simp,rfl⟩ (by rw [qzy];(refine Le.of ?_ ?_ ?_<;>simp only [List.not_mem_nil,false_implies,implies_true,and_true,true_and,push_cast,Nat.reduceEqDiff,reduceCtorEq,Nat.reduceAdd,Nat.reduceMul,Nat.reduceSub,Nat.reduceLeDiff,Nat.reduceLT,Nat.reduceBEq,Nat.reducePow,Int.reduceEq,Int.reduceLT,Int.reduceLE,Int.reduceNeg,Int.reduceAdd,Int.reduceToNat,reduceIte,decide_true,decide_false])) ?_
 rintro n σ ⟨k,hk,rfl,rfl⟩
 cases k with
 | zero =>
  rw [qzy]
  by_cases hkn:(0:Int)<(d.cache.length:Int)
  ·repeat (first|((first|refine q00 (by rw [hF];kernel_rfl) ?_|refine q03 (by rw [hF];kernel_rfl) ?_);(repeat (refine q0a fun K1 hK1=>?_;simp only [push_cast,Nat.reduceEqDiff,reduceCtorEq,Nat.reduceAdd,Nat.reduceMul,Nat.reduceSub,Nat.reduceLeDiff,Nat.reduceLT,Nat.reduceBEq,Nat.reducePow,Int.reduceEq,Int.reduceLT,Int.reduceLE,Int.reduceNeg,Int.reduceAdd,Int.reduceToNat,reduceIte,decide_true,decide_false,hkn];(try simp (disch:=omega) only [wrap64,q0k]);(first|refine hK1 _ ?_|refine ⟨by omega,hK1 _ ?_⟩);clear hK1 K1));refine q0g ?_)|refine q0e ?_|refine q07 ?_|refine q0c ?_|refine q0d ?_|refine q0f ?_|refine q02 ?_|refine q06 ?_|refine q09 ?_|refine q01 ?_|refine q08 ?_|refine q05 ?_|refine q04 rfl ?_)
   refine q0s (by simp only [push_cast,Nat.reduceEqDiff,reduceCtorEq,Nat.reduceAdd,Nat.reduceMul,Nat.reduceSub,Nat.reduceLeDiff,Nat.reduceLT,Nat.reduceBEq,Nat.reducePow,Int.reduceEq,Int.reduceLT,Int.reduceLE,Int.reduceNeg,Int.reduceAdd,Int.reduceToNat,reduceIte,decide_true,decide_false]) ?_
   repeat (first|((first|refine q00 (by rw [hF];kernel_rfl) ?_|refine q03 (by rw [hF];kernel_rfl) ?_);(repeat (refine q0a fun K1 hK1=>?_;simp only [push_cast,Nat.reduceEqDiff,reduceCtorEq,Nat.reduceAdd,Nat.reduceMul,Nat.reduceSub,Nat.reduceLeDiff,Nat.reduceLT,Nat.reduceBEq,Nat.reducePow,Int.reduceEq,Int.reduceLT,Int.reduceLE,Int.reduceNeg,Int.reduceAdd,Int.reduceToNat,reduceIte,decide_true,decide_false];(try simp (disch:=omega) only [wrap64,q0k]);(first|refine hK1 _ ?_|refine ⟨by omega,hK1 _ ?_⟩);clear hK1 K1));refine q0g ?_)|refine q0e ?_|refine q07 ?_|refine q0c ?_|refine q0d ?_|refine q0f ?_|refine q02 ?_|refine q06 ?_|refine q09 ?_|refine q01 ?_|refine q08 ?_|refine q05 ?_|refine q04 rfl ?_)
   refine ⟨_,_,?_,⟨0+1,by omega,rfl,rfl⟩,?_⟩
   ·omega
   ·rw [qp6]
    (refine Le.of ?_ ?_ ?_<;>simp only [List.not_mem_nil,false_implies,implies_true,and_true,true_and,push_cast,Nat.reduceEqDiff,reduceCtorEq,Nat.reduceAdd,Nat.reduceMul,Nat.reduceSub,Nat.reduceLeDiff,Nat.reduceLT,Nat.reduceBEq,Nat.reducePow,Int.reduceEq,Int.reduceLT,Int.reduceLE,Int.reduceNeg,Int.reduceAdd,Int.reduceToNat,reduceIte,decide_true,decide_false,exists_eq_left',Nat.le_refl,Row.mk.injEq])
    all_goals first|exact ⟨_,rfl⟩|rfl
  ·have hkl:d.cache.length=0:=by omega
   rw [hkl] at C0
   repeat (first|((first|refine q00 (by rw [hF];kernel_rfl) ?_|refine q03 (by rw [hF];kernel_rfl) ?_);(repeat (refine q0a fun K1 hK1=>?_;simp only [push_cast,Nat.reduceEqDiff,reduceCtorEq,Nat.reduceAdd,Nat.reduceMul,Nat.reduceSub,Nat.reduceLeDiff,Nat.reduceLT,Nat.reduceBEq,Nat.reducePow,Int.reduceEq,Int.reduceLT,Int.reduceLE,Int.reduceNeg,Int.reduceAdd,Int.reduceToNat,reduceIte,decide_true,decide_false,hkn];(try simp (disch:=omega) only [wrap64,q0k]);(first|refine hK1 _ ?_|refine ⟨by omega,hK1 _ ?_⟩);clear hK1 K1));refine q0g ?_)|refine q0e ?_|refine q07 ?_|refine q0c ?_|refine q0d ?_|refine q0f ?_|refine q02 ?_|refine q06 ?_|refine q09 ?_|refine q01 ?_|refine q08 ?_|refine q05 ?_|refine q04 rfl ?_)
   refine q0t (by simp only [push_cast,Nat.reduceEqDiff,reduceCtorEq,Nat.reduceAdd,Nat.reduceMul,Nat.reduceSub,Nat.reduceLeDiff,Nat.reduceLT,Nat.reduceBEq,Nat.reducePow,Int.reduceEq,Int.reduceLT,Int.reduceLE,Int.reduceNeg,Int.reduceAdd,Int.reduceToNat,reduceIte,decide_true,decide_false]) ?_
   repeat (first|((first|refine q00 (by rw [hF];kernel_rfl) ?_|refine q03 (by rw [hF];kernel_rfl) ?_);(repeat (refine q0a fun K1 hK1=>?_;simp only [push_cast,Nat.reduceEqDiff,reduceCtorEq,Nat.reduceAdd,Nat.reduceMul,Nat.reduceSub,Nat.reduceLeDiff,Nat.reduceLT,Nat.reduceBEq,Nat.reducePow,Int.reduceEq,Int.reduceLT,Int.reduceLE,Int.reduceNeg,Int.reduceAdd,Int.reduceToNat,reduceIte,decide_true,decide_false];(try simp (disch:=omega) only [wrap64,q0k]);(first|refine hK1 _ ?_|refine ⟨by omega,hK1 _ ?_⟩);clear hK1 K1));refine q0g ?_)|refine q0e ?_|refine q07 ?_|refine q0c ?_|refine q0d ?_|refine q0f ?_|refine q02 ?_|refine q06 ?_|refine q09 ?_|refine q01 ?_|refine q08 ?_|refine q05 ?_|refine q04 rfl ?_)
   (first|(refine q00 (by rw [hF];kernel_rfl) ?_)|(refine q03 (by rw [hF];kernel_rfl) ?_));(repeat (refine q0a fun K1 hK1=>?_;simp only [push_cast,Nat.reduceEqDiff,reduceCtorEq,Nat.reduceAdd,Nat.reduceMul,Nat.reduceSub,Nat.reduceLeDiff,Nat.reduceLT,Nat.reduceBEq,Nat.reducePow,Int.reduceEq,Int.reduceLT,Int.reduceLE,Int.reduceNeg,Int.reduceAdd,Int.reduceToNat,reduceIte,decide_true,decide_false];(try simp (disch:=omega) only [wrap64,q0k]);(first|refine hK1 _ ?_|refine ⟨by omega,hK1 _ ?_⟩);clear hK1 K1))
   refine q2z (by simp only [push_cast,Nat.reduceEqDiff,reduceCtorEq,Nat.reduceAdd,Nat.reduceMul,Nat.reduceSub,Nat.reduceLeDiff,Nat.reduceLT,Nat.reduceBEq,Nat.reducePow,Int.reduceEq,Int.reduceLT,Int.reduceLE,Int.reduceNeg,Int.reduceAdd,Int.reduceToNat,reduceIte,decide_true,decide_false,dk1]) rfl (by simp only [push_cast,Nat.reduceEqDiff,reduceCtorEq,Nat.reduceAdd,Nat.reduceMul,Nat.reduceSub,Nat.reduceLeDiff,Nat.reduceLT,Nat.reduceBEq,Nat.reducePow,Int.reduceEq,Int.reduceLT,Int.reduceLE,Int.reduceNeg,Int.reduceAdd,Int.reduceToNat,reduceIte,decide_true,decide_false,dk1]) (by kernel_rfl) (by simp only [push_cast,Nat.reduceEqDiff,reduceCtorEq,Nat.reduceAdd,Nat.reduceMul,Nat.reduceSub,Nat.reduceLeDiff,Nat.reduceLT,Nat.reduceBEq,Nat.reducePow,Int.reduceEq,Int.reduceLT,Int.reduceLE,Int.reduceNeg,Int.reduceAdd,Int.reduceToNat,reduceIte,decide_true,decide_false,dk1]) (C0.args (fun _ _ vs h=>jc7 vs h)) ?_
   unfold qkc dk1
   (repeat (refine q0a fun K1 hK1=>?_;simp only [push_cast,Nat.reduceEqDiff,reduceCtorEq,Nat.reduceAdd,Nat.reduceMul,Nat.reduceSub,Nat.reduceLeDiff,Nat.reduceLT,Nat.reduceBEq,Nat.reducePow,Int.reduceEq,Int.reduceLT,Int.reduceLE,Int.reduceNeg,Int.reduceAdd,Int.reduceToNat,reduceIte,decide_true,decide_false];(try simp (disch:=omega) only [wrap64,q0k]);(first|refine hK1 _ ?_|refine ⟨by omega,hK1 _ ?_⟩);clear hK1 K1));refine q0g ?_
   repeat (first|((first|refine q00 (by rw [hF];kernel_rfl) ?_|refine q03 (by rw [hF];kernel_rfl) ?_);(repeat (refine q0a fun K1 hK1=>?_;simp only [push_cast,Nat.reduceEqDiff,reduceCtorEq,Nat.reduceAdd,Nat.reduceMul,Nat.reduceSub,Nat.reduceLeDiff,Nat.reduceLT,Nat.reduceBEq,Nat.reducePow,Int.reduceEq,Int.reduceLT,Int.reduceLE,Int.reduceNeg,Int.reduceAdd,Int.reduceToNat,reduceIte,decide_true,decide_false];(try simp (disch:=omega) only [wrap64,q0k]);(first|refine hK1 _ ?_|refine ⟨by omega,hK1 _ ?_⟩);clear hK1 K1));refine q0g ?_)|refine q0e ?_|refine q07 ?_|refine q0c ?_|refine q0d ?_|refine q0f ?_|refine q02 ?_|refine q06 ?_|refine q09 ?_|refine q01 ?_|refine q08 ?_|refine q05 ?_|refine q04 rfl ?_)
   refine (hQ _ ?_).2
   simp only [push_cast,Nat.reduceEqDiff,reduceCtorEq,Nat.reduceAdd,Nat.reduceMul,Nat.reduceSub,Nat.reduceLeDiff,Nat.reduceLT,Nat.reduceBEq,Nat.reducePow,Int.reduceEq,Int.reduceLT,Int.reduceLE,Int.reduceNeg,Int.reduceAdd,Int.reduceToNat,reduceIte,decide_true,decide_false]
 | succ k =>
  rw [qp6]
  have hl:(List.replicate (k+1) true).length=k+1:=List.length_replicate ..
  by_cases hkn:(k:Int)+1<(d.cache.length:Int)
  ·repeat (first|((first|refine q00 (by rw [hF];kernel_rfl) ?_|refine q03 (by rw [hF];kernel_rfl) ?_);(repeat (refine q0a fun K1 hK1=>?_;simp only [push_cast,Nat.reduceEqDiff,reduceCtorEq,Nat.reduceAdd,Nat.reduceMul,Nat.reduceSub,Nat.reduceLeDiff,Nat.reduceLT,Nat.reduceBEq,Nat.reducePow,Int.reduceEq,Int.reduceLT,Int.reduceLE,Int.reduceNeg,Int.reduceAdd,Int.reduceToNat,reduceIte,decide_true,decide_false,hkn,hl];(try simp (disch:=omega) only [wrap64,q0k]);(first|refine hK1 _ ?_|refine ⟨by omega,hK1 _ ?_⟩);clear hK1 K1));refine q0g ?_)|refine q0e ?_|refine q07 ?_|refine q0c ?_|refine q0d ?_|refine q0f ?_|refine q02 ?_|refine q06 ?_|refine q09 ?_|refine q01 ?_|refine q08 ?_|refine q05 ?_|refine q04 rfl ?_)
   refine q0s (by simp only [push_cast,Nat.reduceEqDiff,reduceCtorEq,Nat.reduceAdd,Nat.reduceMul,Nat.reduceSub,Nat.reduceLeDiff,Nat.reduceLT,Nat.reduceBEq,Nat.reducePow,Int.reduceEq,Int.reduceLT,Int.reduceLE,Int.reduceNeg,Int.reduceAdd,Int.reduceToNat,reduceIte,decide_true,decide_false]) ?_
   repeat (first|((first|refine q00 (by rw [hF];kernel_rfl) ?_|refine q03 (by rw [hF];kernel_rfl) ?_);(repeat (refine q0a fun K1 hK1=>?_;simp only [push_cast,Nat.reduceEqDiff,reduceCtorEq,Nat.reduceAdd,Nat.reduceMul,Nat.reduceSub,Nat.reduceLeDiff,Nat.reduceLT,Nat.reduceBEq,Nat.reducePow,Int.reduceEq,Int.reduceLT,Int.reduceLE,Int.reduceNeg,Int.reduceAdd,Int.reduceToNat,reduceIte,decide_true,decide_false,hl];(try simp (disch:=omega) only [wrap64,q0k]);(first|refine hK1 _ ?_|refine ⟨by omega,hK1 _ ?_⟩);clear hK1 K1));refine q0g ?_)|refine q0e ?_|refine q07 ?_|refine q0c ?_|refine q0d ?_|refine q0f ?_|refine q02 ?_|refine q06 ?_|refine q09 ?_|refine q01 ?_|refine q08 ?_|refine q05 ?_|refine q04 rfl ?_)
   refine ⟨_,_,?_,⟨k+1+1,by omega,rfl,rfl⟩,?_⟩
   ·omega
   ·rw [qp6]
    (refine Le.of ?_ ?_ ?_<;>simp only [List.not_mem_nil,false_implies,implies_true,and_true,true_and,push_cast,Nat.reduceEqDiff,reduceCtorEq,Nat.reduceAdd,Nat.reduceMul,Nat.reduceSub,Nat.reduceLeDiff,Nat.reduceLT,Nat.reduceBEq,Nat.reducePow,Int.reduceEq,Int.reduceLT,Int.reduceLE,Int.reduceNeg,Int.reduceAdd,Int.reduceToNat,reduceIte,decide_true,decide_false,exists_eq_left',Nat.le_refl,Row.mk.injEq])
    all_goals first|exact ⟨_,rfl⟩|exact j4u _
  ·have hkl:k+1=d.cache.length:=by omega
   rw [<-hkl] at C0
   repeat (first|((first|refine q00 (by rw [hF];kernel_rfl) ?_|refine q03 (by rw [hF];kernel_rfl) ?_);(repeat (refine q0a fun K1 hK1=>?_;simp only [push_cast,Nat.reduceEqDiff,reduceCtorEq,Nat.reduceAdd,Nat.reduceMul,Nat.reduceSub,Nat.reduceLeDiff,Nat.reduceLT,Nat.reduceBEq,Nat.reducePow,Int.reduceEq,Int.reduceLT,Int.reduceLE,Int.reduceNeg,Int.reduceAdd,Int.reduceToNat,reduceIte,decide_true,decide_false,hkn];(try simp (disch:=omega) only [wrap64,q0k]);(first|refine hK1 _ ?_|refine ⟨by omega,hK1 _ ?_⟩);clear hK1 K1));refine q0g ?_)|refine q0e ?_|refine q07 ?_|refine q0c ?_|refine q0d ?_|refine q0f ?_|refine q02 ?_|refine q06 ?_|refine q09 ?_|refine q01 ?_|refine q08 ?_|refine q05 ?_|refine q04 rfl ?_)
   refine q0t (by simp only [push_cast,Nat.reduceEqDiff,reduceCtorEq,Nat.reduceAdd,Nat.reduceMul,Nat.reduceSub,Nat.reduceLeDiff,Nat.reduceLT,Nat.reduceBEq,Nat.reducePow,Int.reduceEq,Int.reduceLT,Int.reduceLE,Int.reduceNeg,Int.reduceAdd,Int.reduceToNat,reduceIte,decide_true,decide_false]) ?_
   repeat (first|((first|refine q00 (by rw [hF];kernel_rfl) ?_|refine q03 (by rw [hF];kernel_rfl) ?_);(repeat (refine q0a fun K1 hK1=>?_;simp only [push_cast,Nat.reduceEqDiff,reduceCtorEq,Nat.reduceAdd,Nat.reduceMul,Nat.reduceSub,Nat.reduceLeDiff,Nat.reduceLT,Nat.reduceBEq,Nat.reducePow,Int.reduceEq,Int.reduceLT,Int.reduceLE,Int.reduceNeg,Int.reduceAdd,Int.reduceToNat,reduceIte,decide_true,decide_false];(try simp (disch:=omega) only [wrap64,q0k]);(first|refine hK1 _ ?_|refine ⟨by omega,hK1 _ ?_⟩);clear hK1 K1));refine q0g ?_)|refine q0e ?_|refine q07 ?_|refine q0c ?_|refine q0d ?_|refine q0f ?_|refine q02 ?_|refine q06 ?_|refine q09 ?_|refine q01 ?_|refine q08 ?_|refine q05 ?_|refine q04 rfl ?_)
   refine qd3 ?_
   (first|(refine q00 (by rw [hF];kernel_rfl) ?_)|(refine q03 (by rw [hF];kernel_rfl) ?_));(repeat (refine q0a fun K1 hK1=>?_;simp only [push_cast,Nat.reduceEqDiff,reduceCtorEq,Nat.reduceAdd,Nat.reduceMul,Nat.reduceSub,Nat.reduceLeDiff,Nat.reduceLT,Nat.reduceBEq,Nat.reducePow,Int.reduceEq,Int.reduceLT,Int.reduceLE,Int.reduceNeg,Int.reduceAdd,Int.reduceToNat,reduceIte,decide_true,decide_false];(try simp (disch:=omega) only [wrap64,q0k]);(first|refine hK1 _ ?_|refine ⟨by omega,hK1 _ ?_⟩);clear hK1 K1))
   refine q2z (by simp only [push_cast,Nat.reduceEqDiff,reduceCtorEq,Nat.reduceAdd,Nat.reduceMul,Nat.reduceSub,Nat.reduceLeDiff,Nat.reduceLT,Nat.reduceBEq,Nat.reducePow,Int.reduceEq,Int.reduceLT,Int.reduceLE,Int.reduceNeg,Int.reduceAdd,Int.reduceToNat,reduceIte,decide_true,decide_false,dk1,frz]) rfl (by simp only [push_cast,Nat.reduceEqDiff,reduceCtorEq,Nat.reduceAdd,Nat.reduceMul,Nat.reduceSub,Nat.reduceLeDiff,Nat.reduceLT,Nat.reduceBEq,Nat.reducePow,Int.reduceEq,Int.reduceLT,Int.reduceLE,Int.reduceNeg,Int.reduceAdd,Int.reduceToNat,reduceIte,decide_true,decide_false,dk1,frz]) (by kernel_rfl) (by simp only [push_cast,Nat.reduceEqDiff,reduceCtorEq,Nat.reduceAdd,Nat.reduceMul,Nat.reduceSub,Nat.reduceLeDiff,Nat.reduceLT,Nat.reduceBEq,Nat.reducePow,Int.reduceEq,Int.reduceLT,Int.reduceLE,Int.reduceNeg,Int.reduceAdd,Int.reduceToNat,reduceIte,decide_true,decide_false,dk1,frz]) (C0) ?_
   unfold qkc dk1
   (repeat (refine q0a fun K1 hK1=>?_;simp only [push_cast,Nat.reduceEqDiff,reduceCtorEq,Nat.reduceAdd,Nat.reduceMul,Nat.reduceSub,Nat.reduceLeDiff,Nat.reduceLT,Nat.reduceBEq,Nat.reducePow,Int.reduceEq,Int.reduceLT,Int.reduceLE,Int.reduceNeg,Int.reduceAdd,Int.reduceToNat,reduceIte,decide_true,decide_false];(try simp (disch:=omega) only [wrap64,q0k]);(first|refine hK1 _ ?_|refine ⟨by omega,hK1 _ ?_⟩);clear hK1 K1));refine q0g ?_
   repeat (first|((first|refine q00 (by rw [hF];kernel_rfl) ?_|refine q03 (by rw [hF];kernel_rfl) ?_);(repeat (refine q0a fun K1 hK1=>?_;simp only [push_cast,Nat.reduceEqDiff,reduceCtorEq,Nat.reduceAdd,Nat.reduceMul,Nat.reduceSub,Nat.reduceLeDiff,Nat.reduceLT,Nat.reduceBEq,Nat.reducePow,Int.reduceEq,Int.reduceLT,Int.reduceLE,Int.reduceNeg,Int.reduceAdd,Int.reduceToNat,reduceIte,decide_true,decide_false];(try simp (disch:=omega) only [wrap64,q0k]);(first|refine hK1 _ ?_|refine ⟨by omega,hK1 _ ?_⟩);clear hK1 K1));refine q0g ?_)|refine q0e ?_|refine q07 ?_|refine q0c ?_|refine q0d ?_|refine q0f ?_|refine q02 ?_|refine q06 ?_|refine q09 ?_|refine q01 ?_|refine q08 ?_|refine q05 ?_|refine q04 rfl ?_)
   refine (hQ _ ?_).2
   simp only [push_cast,Nat.reduceEqDiff,reduceCtorEq,Nat.reduceAdd,Nat.reduceMul,Nat.reduceSub,Nat.reduceLeDiff,Nat.reduceLT,Nat.reduceBEq,Nat.reducePow,Int.reduceEq,Int.reduceLT,Int.reduceLE,Int.reduceNeg,Int.reduceAdd,Int.reduceToNat,reduceIte,decide_true,decide_false]
end Go.Proofs.YthpgnliicpejoaaGreatDoor.AM
namespace Go.Proofs.YthpgnliicpejoaaGreatDoor.AM
open Go.RowKit
set_option linter.unusedVariables false
set_option linter.unusedSimpArgs false
abbrev okD (d:DM.Dk) (x:Bool):D:=.tup [dk1 d,.c (qg4 (.bool x))]
theorem jdc {Pc:Nat->Nat->Prop} {w:World} {v:Value} {x:Bool} (h:q1u (q1x Pc) q2g w v (.tup [.agg j1z,.c (qg4 (.bool x))])):q1u (q1x Pc) q2g w v (okD ⟨[],[]⟩ x):=by
 obtain ⟨vs,rfl,h⟩:=h
 obtain ⟨L⟩:=vs
 match L,h with
 | [x,y],⟨⟨us,e,h1⟩,h2,_⟩ =>
  obtain ⟨M⟩:=us
  match M,e,h1 with
  | [a,b],e,⟨g1,g2,_⟩=>exact ⟨_,rfl,⟨_,e,q42 1 g1,q42 2 g2,trivial⟩,h2,trivial⟩
theorem jam {Pc:Nat->Nat->Prop} {w:World} {v:Value} {l:List ByteArray} {x:Bool} (h:q1u (q1x Pc) q2g w v (.tup [.agg [.d (.lst 1 (qb9 l)),.d (.v (.slice none 0 0))],.c (qg4 (.bool x))])):q1u (q1x Pc) q2g w v (okD ⟨l,[]⟩ x):=by
 obtain ⟨vs,rfl,h⟩:=h
 obtain ⟨L⟩:=vs
 match L,h with
 | [x,y],⟨⟨us,e,h1⟩,h2,_⟩ =>
  obtain ⟨M⟩:=us
  match M,e,h1 with
  | [a,b],e,⟨g1,g2,_⟩=>exact ⟨_,rfl,⟨_,e,g1,q42 2 g2,trivial⟩,h2,trivial⟩
theorem jgx {G:World->Prop} (hG:qq2 G) (n:Int) (hn : ¬ DM.qch n):q13 Tryz.prog G 30 [q26 (.int .i64 n)] (.tup [.agg j1z,.c (qg4 (.bool false))]):=by
 have hc:n<1\/(¬ n<1/\512<n):=by unfold DM.qch at hn;omega
 refine q3d Tryz.func30 rfl (by simp [Tryz.ntmps30]) hG ?_;intro F hF hFG Q hQ;rw [Tryz.ntmps30] at hF;rw [Tryz.results30] at hQ
 rcases hc with h|⟨h,h2⟩
 ·repeat (first|((first|refine q00 (by rw [hF];kernel_rfl) ?_|refine q03 (by rw [hF];kernel_rfl) ?_);(repeat (refine q0a fun K1 hK1=>?_;simp only [push_cast,Nat.reduceEqDiff,reduceCtorEq,Nat.reduceAdd,Nat.reduceMul,Nat.reduceSub,Nat.reduceLeDiff,Nat.reduceLT,Nat.reduceBEq,Nat.reducePow,Int.reduceEq,Int.reduceLT,Int.reduceLE,Int.reduceNeg,Int.reduceAdd,Int.reduceToNat,reduceIte,decide_true,decide_false,h];(try simp (disch:=omega) only [wrap64,q0k]);(first|refine hK1 _ ?_|refine ⟨by omega,hK1 _ ?_⟩);clear hK1 K1));refine q0g ?_)|refine q0e ?_|refine q07 ?_|refine q0c ?_|refine q0d ?_|refine q0f ?_|refine q02 ?_|refine q06 ?_|refine q09 ?_|refine q01 ?_|refine q08 ?_|refine q05 ?_|refine q04 rfl ?_)
  refine q0s (by simp only [push_cast,Nat.reduceEqDiff,reduceCtorEq,Nat.reduceAdd,Nat.reduceMul,Nat.reduceSub,Nat.reduceLeDiff,Nat.reduceLT,Nat.reduceBEq,Nat.reducePow,Int.reduceEq,Int.reduceLT,Int.reduceLE,Int.reduceNeg,Int.reduceAdd,Int.reduceToNat,reduceIte,decide_true,decide_false]) ?_
  repeat (first|((first|refine q00 (by rw [hF];kernel_rfl) ?_|refine q03 (by rw [hF];kernel_rfl) ?_);(repeat (refine q0a fun K1 hK1=>?_;simp only [push_cast,Nat.reduceEqDiff,reduceCtorEq,Nat.reduceAdd,Nat.reduceMul,Nat.reduceSub,Nat.reduceLeDiff,Nat.reduceLT,Nat.reduceBEq,Nat.reducePow,Int.reduceEq,Int.reduceLT,Int.reduceLE,Int.reduceNeg,Int.reduceAdd,Int.reduceToNat,reduceIte,decide_true,decide_false];(try simp (disch:=omega) only [wrap64,q0k]);(first|refine hK1 _ ?_|refine ⟨by omega,hK1 _ ?_⟩);clear hK1 K1));refine q0g ?_)|refine q0e ?_|refine q07 ?_|refine q0c ?_|refine q0d ?_|refine q0f ?_|refine q02 ?_|refine q06 ?_|refine q09 ?_|refine q01 ?_|refine q08 ?_|refine q05 ?_|refine q04 rfl ?_)
  refine (hQ _ ?_).2
  simp only [push_cast,Nat.reduceEqDiff,reduceCtorEq,Nat.reduceAdd,Nat.reduceMul,Nat.reduceSub,Nat.reduceLeDiff,Nat.reduceLT,Nat.reduceBEq,Nat.reducePow,Int.reduceEq,Int.reduceLT,Int.reduceLE,Int.reduceNeg,Int.reduceAdd,Int.reduceToNat,reduceIte,decide_true,decide_false]
 ·repeat (first|((first|refine q00 (by rw [hF];kernel_rfl) ?_|refine q03 (by rw [hF];kernel_rfl) ?_);(repeat (refine q0a fun K1 hK1=>?_;simp only [push_cast,Nat.reduceEqDiff,reduceCtorEq,Nat.reduceAdd,Nat.reduceMul,Nat.reduceSub,Nat.reduceLeDiff,Nat.reduceLT,Nat.reduceBEq,Nat.reducePow,Int.reduceEq,Int.reduceLT,Int.reduceLE,Int.reduceNeg,Int.reduceAdd,Int.reduceToNat,reduceIte,decide_true,decide_false,h,h2];(try simp (disch:=omega) only [wrap64,q0k]);(first|refine hK1 _ ?_|refine ⟨by omega,hK1 _ ?_⟩);clear hK1 K1));refine q0g ?_)|refine q0e ?_|refine q07 ?_|refine q0c ?_|refine q0d ?_|refine q0f ?_|refine q02 ?_|refine q06 ?_|refine q09 ?_|refine q01 ?_|refine q08 ?_|refine q05 ?_|refine q04 rfl ?_)
  refine q0s (by simp only [push_cast,Nat.reduceEqDiff,reduceCtorEq,Nat.reduceAdd,Nat.reduceMul,Nat.reduceSub,Nat.reduceLeDiff,Nat.reduceLT,Nat.reduceBEq,Nat.reducePow,Int.reduceEq,Int.reduceLT,Int.reduceLE,Int.reduceNeg,Int.reduceAdd,Int.reduceToNat,reduceIte,decide_true,decide_false]) ?_
  repeat (first|((first|refine q00 (by rw [hF];kernel_rfl) ?_|refine q03 (by rw [hF];kernel_rfl) ?_);(repeat (refine q0a fun K1 hK1=>?_;simp only [push_cast,Nat.reduceEqDiff,reduceCtorEq,Nat.reduceAdd,Nat.reduceMul,Nat.reduceSub,Nat.reduceLeDiff,Nat.reduceLT,Nat.reduceBEq,Nat.reducePow,Int.reduceEq,Int.reduceLT,Int.reduceLE,Int.reduceNeg,Int.reduceAdd,Int.reduceToNat,reduceIte,decide_true,decide_false];(try simp (disch:=omega) only [wrap64,q0k]);(first|refine hK1 _ ?_|refine ⟨by omega,hK1 _ ?_⟩);clear hK1 K1));refine q0g ?_)|refine q0e ?_|refine q07 ?_|refine q0c ?_|refine q0d ?_|refine q0f ?_|refine q02 ?_|refine q06 ?_|refine q09 ?_|refine q01 ?_|refine q08 ?_|refine q05 ?_|refine q04 rfl ?_)
  refine (hQ _ ?_).2
  simp only [push_cast,Nat.reduceEqDiff,reduceCtorEq,Nat.reduceAdd,Nat.reduceMul,Nat.reduceSub,Nat.reduceLeDiff,Nat.reduceLT,Nat.reduceBEq,Nat.reducePow,Int.reduceEq,Int.reduceLT,Int.reduceLE,Int.reduceNeg,Int.reduceAdd,Int.reduceToNat,reduceIte,decide_true,decide_false]
def nwS (n:Nat):Nat->St
 | 0=>St.of [(0,q26 (.int .i64 n)),(2,.one (.c (.box 2 0))),(4,.one (.c (.box 4 0))),(5,q26 (.int .i64 0))] [(2,(25,j1z)),(4,(25,j1z))] []
 | k+1=>St.of [(0,q26 (.int .i64 n)),(2,.one (.c (.box 2 0))),(4,.one (.c (.box 4 0))),(5,q26 (.int .i64 ((k+1:Nat):Int)))] [(2,(25,j1z)),(4,(25,[.row 24 k,.d (.v (.slice none 0 0))]))] [(24,{ gen:=k,E:=9,sz:=1,wr:=true,xs:=qb9 (List.replicate (k+1) DM.q2d) })]
theorem qy8 (n:Nat):nwS n 0=St.of [(0,q26 (.int .i64 n)),(2,.one (.c (.box 2 0))),(4,.one (.c (.box 4 0))),(5,q26 (.int .i64 0))] [(2,(25,j1z)),(4,(25,j1z))] []:=rfl
theorem qpv (n k:Nat):nwS n (k+1)=St.of [(0,q26 (.int .i64 n)),(2,.one (.c (.box 2 0))),(4,.one (.c (.box 4 0))),(5,q26 (.int .i64 ((k+1:Nat):Int)))] [(2,(25,j1z)),(4,(25,[.row 24 k,.d (.v (.slice none 0 0))]))] [(24,{ gen:=k,E:=9,sz:=1,wr:=true,xs:=qb9 (List.replicate (k+1) DM.q2d) })]:=rfl
theorem j44 (k:Nat):qb9 (List.replicate k DM.q2d) ++ [[.v (.string DM.q2d)]]=qb9 (List.replicate (k+1) DM.q2d):=by simp [qb9,List.replicate_succ']
set_option maxHeartbeats 1600000 in
theorem jc5 {G:World->Prop} (hG:qq2 G) (n:Nat) (h1:1<=n) (h2:n<=512):q13 Tryz.prog G 30 [q26 (.int .i64 n)] (.tup [.agg [.d (.lst 1 (qb9 (List.replicate n DM.q2d))),.d (.v (.slice none 0 0))],.c (qg4 (.bool true))]):=by
 have k1 : ¬ (n:Int)<1:=by omega
 have k2 : ¬ (512:Int)<(n:Int):=by omega
 refine q3d Tryz.func30 rfl (by simp [Tryz.ntmps30]) hG ?_;intro F hF hFG Q hQ;rw [Tryz.ntmps30] at hF;rw [Tryz.results30] at hQ
 repeat (first|((first|refine q00 (by rw [hF];kernel_rfl) ?_|refine q03 (by rw [hF];kernel_rfl) ?_);(repeat (refine q0a fun K1 hK1=>?_;simp only [push_cast,Nat.reduceEqDiff,reduceCtorEq,Nat.reduceAdd,Nat.reduceMul,Nat.reduceSub,Nat.reduceLeDiff,Nat.reduceLT,Nat.reduceBEq,Nat.reducePow,Int.reduceEq,Int.reduceLT,Int.reduceLE,Int.reduceNeg,Int.reduceAdd,Int.reduceToNat,reduceIte,decide_true,decide_false,k1,k2];(try simp (disch:=omega) only [wrap64,q0k]);(first|refine hK1 _ ?_|refine ⟨by omega,hK1 _ ?_⟩);clear hK1 K1));refine q0g ?_)|refine q0e ?_|refine q07 ?_|refine q0c ?_|refine q0d ?_|refine q0f ?_|refine q02 ?_|refine q06 ?_|refine q09 ?_|refine q01 ?_|refine q08 ?_|refine q05 ?_|refine q04 rfl ?_)
 refine q0t (by simp only [push_cast,Nat.reduceEqDiff,reduceCtorEq,Nat.reduceAdd,Nat.reduceMul,Nat.reduceSub,Nat.reduceLeDiff,Nat.reduceLT,Nat.reduceBEq,Nat.reducePow,Int.reduceEq,Int.reduceLT,Int.reduceLE,Int.reduceNeg,Int.reduceAdd,Int.reduceToNat,reduceIte,decide_true,decide_false]) ?_
 repeat (first|((first|refine q00 (by rw [hF];kernel_rfl) ?_|refine q03 (by rw [hF];kernel_rfl) ?_);(repeat (refine q0a fun K1 hK1=>?_;simp only [push_cast,Nat.reduceEqDiff,reduceCtorEq,Nat.reduceAdd,Nat.reduceMul,Nat.reduceSub,Nat.reduceLeDiff,Nat.reduceLT,Nat.reduceBEq,Nat.reducePow,Int.reduceEq,Int.reduceLT,Int.reduceLE,Int.reduceNeg,Int.reduceAdd,Int.reduceToNat,reduceIte,decide_true,decide_false];(try simp (disch:=omega) only [wrap64,q0k]);(first|refine hK1 _ ?_|refine ⟨by omega,hK1 _ ?_⟩);clear hK1 K1));refine q0g ?_)|refine q0e ?_|refine q07 ?_|refine q0c ?_|refine q0d ?_|refine q0f ?_|refine q02 ?_|refine q06 ?_|refine q09 ?_|refine q01 ?_|refine q08 ?_|refine q05 ?_|refine q04 rfl ?_)
 have C0:q13 Tryz.prog F.G 59 [q26 (.string ⟨#[]⟩)] (q26 (.string DM.q2d)):=qyn F.gst ⟨#[]⟩ (by decide)
 refine q40 (fun m σ=>∃ k:Nat,k<=n/\m=n - k/\σ=nwS n k) n (nwS n 0) ⟨0,Nat.zero_le _,rfl,rfl⟩ (by rw [qy8];(refine Le.of ?_ ?_ ?_<;>simp only [List.not_mem_nil,false_implies,implies_true,and_true,true_and,push_cast,Nat.reduceEqDiff,reduceCtorEq,Nat.reduceAdd,Nat.reduceMul,Nat.reduceSub,Nat.reduceLeDiff,Nat.reduceLT,Nat.reduceBEq,Nat.reducePow,Int.reduceEq,Int.reduceLT,Int.reduceLE,Int.reduceNeg,Int.reduceAdd,Int.reduceToNat,reduceIte,decide_true,decide_false])) ?_
 rintro m σ ⟨k,hk,rfl,rfl⟩
 cases k with
 | zero =>
  rw [qy8]
  have hkn:(0:Int)<(n:Int):=by omega
  repeat (first|((first|refine q00 (by rw [hF];kernel_rfl) ?_|refine q03 (by rw [hF];kernel_rfl) ?_);(repeat (refine q0a fun K1 hK1=>?_;simp only [push_cast,Nat.reduceEqDiff,reduceCtorEq,Nat.reduceAdd,Nat.reduceMul,Nat.reduceSub,Nat.reduceLeDiff,Nat.reduceLT,Nat.reduceBEq,Nat.reducePow,Int.reduceEq,Int.reduceLT,Int.reduceLE,Int.reduceNeg,Int.reduceAdd,Int.reduceToNat,reduceIte,decide_true,decide_false,hkn];(try simp (disch:=omega) only [wrap64,q0k]);(first|refine hK1 _ ?_|refine ⟨by omega,hK1 _ ?_⟩);clear hK1 K1));refine q0g ?_)|refine q0e ?_|refine q07 ?_|refine q0c ?_|refine q0d ?_|refine q0f ?_|refine q02 ?_|refine q06 ?_|refine q09 ?_|refine q01 ?_|refine q08 ?_|refine q05 ?_|refine q04 rfl ?_)
  refine q0s (by simp only [push_cast,Nat.reduceEqDiff,reduceCtorEq,Nat.reduceAdd,Nat.reduceMul,Nat.reduceSub,Nat.reduceLeDiff,Nat.reduceLT,Nat.reduceBEq,Nat.reducePow,Int.reduceEq,Int.reduceLT,Int.reduceLE,Int.reduceNeg,Int.reduceAdd,Int.reduceToNat,reduceIte,decide_true,decide_false]) ?_
  repeat (first|((first|refine q00 (by rw [hF];kernel_rfl) ?_|refine q03 (by rw [hF];kernel_rfl) ?_);(repeat (refine q0a fun K1 hK1=>?_;simp only [push_cast,Nat.reduceEqDiff,reduceCtorEq,Nat.reduceAdd,Nat.reduceMul,Nat.reduceSub,Nat.reduceLeDiff,Nat.reduceLT,Nat.reduceBEq,Nat.reducePow,Int.reduceEq,Int.reduceLT,Int.reduceLE,Int.reduceNeg,Int.reduceAdd,Int.reduceToNat,reduceIte,decide_true,decide_false];(try simp (disch:=omega) only [wrap64,q0k]);(first|refine hK1 _ ?_|refine ⟨by omega,hK1 _ ?_⟩);clear hK1 K1));refine q0g ?_)|refine q0e ?_|refine q07 ?_|refine q0c ?_|refine q0d ?_|refine q0f ?_|refine q02 ?_|refine q06 ?_|refine q09 ?_|refine q01 ?_|refine q08 ?_|refine q05 ?_|refine q04 rfl ?_)
  (first|(refine q00 (by rw [hF];kernel_rfl) ?_)|(refine q03 (by rw [hF];kernel_rfl) ?_));(repeat (refine q0a fun K1 hK1=>?_;simp only [push_cast,Nat.reduceEqDiff,reduceCtorEq,Nat.reduceAdd,Nat.reduceMul,Nat.reduceSub,Nat.reduceLeDiff,Nat.reduceLT,Nat.reduceBEq,Nat.reducePow,Int.reduceEq,Int.reduceLT,Int.reduceLE,Int.reduceNeg,Int.reduceAdd,Int.reduceToNat,reduceIte,decide_true,decide_false];(try simp (disch:=omega) only [wrap64,q0k]);(first|refine hK1 _ ?_|refine ⟨by omega,hK1 _ ?_⟩);clear hK1 K1))
  refine q2z (by simp only [push_cast,Nat.reduceEqDiff,reduceCtorEq,Nat.reduceAdd,Nat.reduceMul,Nat.reduceSub,Nat.reduceLeDiff,Nat.reduceLT,Nat.reduceBEq,Nat.reducePow,Int.reduceEq,Int.reduceLT,Int.reduceLE,Int.reduceNeg,Int.reduceAdd,Int.reduceToNat,reduceIte,decide_true,decide_false]) rfl (by simp only [push_cast,Nat.reduceEqDiff,reduceCtorEq,Nat.reduceAdd,Nat.reduceMul,Nat.reduceSub,Nat.reduceLeDiff,Nat.reduceLT,Nat.reduceBEq,Nat.reducePow,Int.reduceEq,Int.reduceLT,Int.reduceLE,Int.reduceNeg,Int.reduceAdd,Int.reduceToNat,reduceIte,decide_true,decide_false]) (by kernel_rfl) (by simp only [push_cast,Nat.reduceEqDiff,reduceCtorEq,Nat.reduceAdd,Nat.reduceMul,Nat.reduceSub,Nat.reduceLeDiff,Nat.reduceLT,Nat.reduceBEq,Nat.reducePow,Int.reduceEq,Int.reduceLT,Int.reduceLE,Int.reduceNeg,Int.reduceAdd,Int.reduceToNat,reduceIte,decide_true,decide_false]) (C0) ?_
  (repeat (refine q0a fun K1 hK1=>?_;simp only [push_cast,Nat.reduceEqDiff,reduceCtorEq,Nat.reduceAdd,Nat.reduceMul,Nat.reduceSub,Nat.reduceLeDiff,Nat.reduceLT,Nat.reduceBEq,Nat.reducePow,Int.reduceEq,Int.reduceLT,Int.reduceLE,Int.reduceNeg,Int.reduceAdd,Int.reduceToNat,reduceIte,decide_true,decide_false];(try simp (disch:=omega) only [wrap64,q0k]);(first|refine hK1 _ ?_|refine ⟨by omega,hK1 _ ?_⟩);clear hK1 K1));refine q0g ?_
  repeat (first|((first|refine q00 (by rw [hF];kernel_rfl) ?_|refine q03 (by rw [hF];kernel_rfl) ?_);(repeat (refine q0a fun K1 hK1=>?_;simp only [push_cast,Nat.reduceEqDiff,reduceCtorEq,Nat.reduceAdd,Nat.reduceMul,Nat.reduceSub,Nat.reduceLeDiff,Nat.reduceLT,Nat.reduceBEq,Nat.reducePow,Int.reduceEq,Int.reduceLT,Int.reduceLE,Int.reduceNeg,Int.reduceAdd,Int.reduceToNat,reduceIte,decide_true,decide_false];(try simp (disch:=omega) only [wrap64,q0k]);(first|refine hK1 _ ?_|refine ⟨by omega,hK1 _ ?_⟩);clear hK1 K1));refine q0g ?_)|refine q0e ?_|refine q07 ?_|refine q0c ?_|refine q0d ?_|refine q0f ?_|refine q02 ?_|refine q06 ?_|refine q09 ?_|refine q01 ?_|refine q08 ?_|refine q05 ?_|refine q04 rfl ?_)
  refine ⟨_,_,?_,⟨0+1,by omega,rfl,rfl⟩,?_⟩
  ·omega
  ·rw [qpv]
   (refine Le.of ?_ ?_ ?_<;>simp only [List.not_mem_nil,false_implies,implies_true,and_true,true_and,push_cast,Nat.reduceEqDiff,reduceCtorEq,Nat.reduceAdd,Nat.reduceMul,Nat.reduceSub,Nat.reduceLeDiff,Nat.reduceLT,Nat.reduceBEq,Nat.reducePow,Int.reduceEq,Int.reduceLT,Int.reduceLE,Int.reduceNeg,Int.reduceAdd,Int.reduceToNat,reduceIte,decide_true,decide_false,exists_eq_left',Nat.le_refl,Row.mk.injEq])
   all_goals first|exact ⟨_,rfl⟩|rfl
 | succ k =>
  rw [qpv]
  have hl:(List.replicate (k+1) DM.q2d).length=k+1:=List.length_replicate ..
  by_cases hkn:(k:Int)+1<(n:Int)
  ·repeat (first|((first|refine q00 (by rw [hF];kernel_rfl) ?_|refine q03 (by rw [hF];kernel_rfl) ?_);(repeat (refine q0a fun K1 hK1=>?_;simp only [push_cast,Nat.reduceEqDiff,reduceCtorEq,Nat.reduceAdd,Nat.reduceMul,Nat.reduceSub,Nat.reduceLeDiff,Nat.reduceLT,Nat.reduceBEq,Nat.reducePow,Int.reduceEq,Int.reduceLT,Int.reduceLE,Int.reduceNeg,Int.reduceAdd,Int.reduceToNat,reduceIte,decide_true,decide_false,hkn];(try simp (disch:=omega) only [wrap64,q0k]);(first|refine hK1 _ ?_|refine ⟨by omega,hK1 _ ?_⟩);clear hK1 K1));refine q0g ?_)|refine q0e ?_|refine q07 ?_|refine q0c ?_|refine q0d ?_|refine q0f ?_|refine q02 ?_|refine q06 ?_|refine q09 ?_|refine q01 ?_|refine q08 ?_|refine q05 ?_|refine q04 rfl ?_)
   refine q0s (by simp only [push_cast,Nat.reduceEqDiff,reduceCtorEq,Nat.reduceAdd,Nat.reduceMul,Nat.reduceSub,Nat.reduceLeDiff,Nat.reduceLT,Nat.reduceBEq,Nat.reducePow,Int.reduceEq,Int.reduceLT,Int.reduceLE,Int.reduceNeg,Int.reduceAdd,Int.reduceToNat,reduceIte,decide_true,decide_false]) ?_
   repeat (first|((first|refine q00 (by rw [hF];kernel_rfl) ?_|refine q03 (by rw [hF];kernel_rfl) ?_);(repeat (refine q0a fun K1 hK1=>?_;simp only [push_cast,Nat.reduceEqDiff,reduceCtorEq,Nat.reduceAdd,Nat.reduceMul,Nat.reduceSub,Nat.reduceLeDiff,Nat.reduceLT,Nat.reduceBEq,Nat.reducePow,Int.reduceEq,Int.reduceLT,Int.reduceLE,Int.reduceNeg,Int.reduceAdd,Int.reduceToNat,reduceIte,decide_true,decide_false];(try simp (disch:=omega) only [wrap64,q0k]);(first|refine hK1 _ ?_|refine ⟨by omega,hK1 _ ?_⟩);clear hK1 K1));refine q0g ?_)|refine q0e ?_|refine q07 ?_|refine q0c ?_|refine q0d ?_|refine q0f ?_|refine q02 ?_|refine q06 ?_|refine q09 ?_|refine q01 ?_|refine q08 ?_|refine q05 ?_|refine q04 rfl ?_)
   (first|(refine q00 (by rw [hF];kernel_rfl) ?_)|(refine q03 (by rw [hF];kernel_rfl) ?_));(repeat (refine q0a fun K1 hK1=>?_;simp only [push_cast,Nat.reduceEqDiff,reduceCtorEq,Nat.reduceAdd,Nat.reduceMul,Nat.reduceSub,Nat.reduceLeDiff,Nat.reduceLT,Nat.reduceBEq,Nat.reducePow,Int.reduceEq,Int.reduceLT,Int.reduceLE,Int.reduceNeg,Int.reduceAdd,Int.reduceToNat,reduceIte,decide_true,decide_false];(try simp (disch:=omega) only [wrap64,q0k]);(first|refine hK1 _ ?_|refine ⟨by omega,hK1 _ ?_⟩);clear hK1 K1))
   refine q2z (by simp only [push_cast,Nat.reduceEqDiff,reduceCtorEq,Nat.reduceAdd,Nat.reduceMul,Nat.reduceSub,Nat.reduceLeDiff,Nat.reduceLT,Nat.reduceBEq,Nat.reducePow,Int.reduceEq,Int.reduceLT,Int.reduceLE,Int.reduceNeg,Int.reduceAdd,Int.reduceToNat,reduceIte,decide_true,decide_false]) rfl (by simp only [push_cast,Nat.reduceEqDiff,reduceCtorEq,Nat.reduceAdd,Nat.reduceMul,Nat.reduceSub,Nat.reduceLeDiff,Nat.reduceLT,Nat.reduceBEq,Nat.reducePow,Int.reduceEq,Int.reduceLT,Int.reduceLE,Int.reduceNeg,Int.reduceAdd,Int.reduceToNat,reduceIte,decide_true,decide_false]) (by kernel_rfl) (by simp only [push_cast,Nat.reduceEqDiff,reduceCtorEq,Nat.reduceAdd,Nat.reduceMul,Nat.reduceSub,Nat.reduceLeDiff,Nat.reduceLT,Nat.reduceBEq,Nat.reducePow,Int.reduceEq,Int.reduceLT,Int.reduceLE,Int.reduceNeg,Int.reduceAdd,Int.reduceToNat,reduceIte,decide_true,decide_false]) (C0) ?_
   (repeat (refine q0a fun K1 hK1=>?_;simp only [push_cast,Nat.reduceEqDiff,reduceCtorEq,Nat.reduceAdd,Nat.reduceMul,Nat.reduceSub,Nat.reduceLeDiff,Nat.reduceLT,Nat.reduceBEq,Nat.reducePow,Int.reduceEq,Int.reduceLT,Int.reduceLE,Int.reduceNeg,Int.reduceAdd,Int.reduceToNat,reduceIte,decide_true,decide_false,hl];(try simp (disch:=omega) only [wrap64,q0k]);(first|refine hK1 _ ?_|refine ⟨by omega,hK1 _ ?_⟩);clear hK1 K1));refine q0g ?_
   repeat (first|((first|refine q00 (by rw [hF];kernel_rfl) ?_|refine q03 (by rw [hF];kernel_rfl) ?_);(repeat (refine q0a fun K1 hK1=>?_;simp only [push_cast,Nat.reduceEqDiff,reduceCtorEq,Nat.reduceAdd,Nat.reduceMul,Nat.reduceSub,Nat.reduceLeDiff,Nat.reduceLT,Nat.reduceBEq,Nat.reducePow,Int.reduceEq,Int.reduceLT,Int.reduceLE,Int.reduceNeg,Int.reduceAdd,Int.reduceToNat,reduceIte,decide_true,decide_false];(try simp (disch:=omega) only [wrap64,q0k]);(first|refine hK1 _ ?_|refine ⟨by omega,hK1 _ ?_⟩);clear hK1 K1));refine q0g ?_)|refine q0e ?_|refine q07 ?_|refine q0c ?_|refine q0d ?_|refine q0f ?_|refine q02 ?_|refine q06 ?_|refine q09 ?_|refine q01 ?_|refine q08 ?_|refine q05 ?_|refine q04 rfl ?_)
   refine ⟨_,_,?_,⟨k+1+1,by omega,rfl,rfl⟩,?_⟩
   ·omega
   ·rw [qpv]
    (refine Le.of ?_ ?_ ?_<;>simp only [List.not_mem_nil,false_implies,implies_true,and_true,true_and,push_cast,Nat.reduceEqDiff,reduceCtorEq,Nat.reduceAdd,Nat.reduceMul,Nat.reduceSub,Nat.reduceLeDiff,Nat.reduceLT,Nat.reduceBEq,Nat.reducePow,Int.reduceEq,Int.reduceLT,Int.reduceLE,Int.reduceNeg,Int.reduceAdd,Int.reduceToNat,reduceIte,decide_true,decide_false,exists_eq_left',Nat.le_refl,Row.mk.injEq])
    all_goals first|exact ⟨_,rfl⟩|exact j44 _
  ·obtain rfl:k+1=n:=by omega
   refine qd3 ?_
   repeat (first|((first|refine q00 (by rw [hF];kernel_rfl) ?_|refine q03 (by rw [hF];kernel_rfl) ?_);(repeat (refine q0a fun K1 hK1=>?_;simp only [push_cast,Nat.reduceEqDiff,reduceCtorEq,Nat.reduceAdd,Nat.reduceMul,Nat.reduceSub,Nat.reduceLeDiff,Nat.reduceLT,Nat.reduceBEq,Nat.reducePow,Int.reduceEq,Int.reduceLT,Int.reduceLE,Int.reduceNeg,Int.reduceAdd,Int.reduceToNat,reduceIte,decide_true,decide_false,Int.lt_irrefl];(try simp (disch:=omega) only [wrap64,q0k]);(first|refine hK1 _ ?_|refine ⟨by omega,hK1 _ ?_⟩);clear hK1 K1));refine q0g ?_)|refine q0e ?_|refine q07 ?_|refine q0c ?_|refine q0d ?_|refine q0f ?_|refine q02 ?_|refine q06 ?_|refine q09 ?_|refine q01 ?_|refine q08 ?_|refine q05 ?_|refine q04 rfl ?_)
   refine q0t (by simp only [push_cast,Nat.reduceEqDiff,reduceCtorEq,Nat.reduceAdd,Nat.reduceMul,Nat.reduceSub,Nat.reduceLeDiff,Nat.reduceLT,Nat.reduceBEq,Nat.reducePow,Int.reduceEq,Int.reduceLT,Int.reduceLE,Int.reduceNeg,Int.reduceAdd,Int.reduceToNat,reduceIte,decide_true,decide_false]) ?_
   repeat (first|((first|refine q00 (by rw [hF];kernel_rfl) ?_|refine q03 (by rw [hF];kernel_rfl) ?_);(repeat (refine q0a fun K1 hK1=>?_;simp only [push_cast,Nat.reduceEqDiff,reduceCtorEq,Nat.reduceAdd,Nat.reduceMul,Nat.reduceSub,Nat.reduceLeDiff,Nat.reduceLT,Nat.reduceBEq,Nat.reducePow,Int.reduceEq,Int.reduceLT,Int.reduceLE,Int.reduceNeg,Int.reduceAdd,Int.reduceToNat,reduceIte,decide_true,decide_false];(try simp (disch:=omega) only [wrap64,q0k]);(first|refine hK1 _ ?_|refine ⟨by omega,hK1 _ ?_⟩);clear hK1 K1));refine q0g ?_)|refine q0e ?_|refine q07 ?_|refine q0c ?_|refine q0d ?_|refine q0f ?_|refine q02 ?_|refine q06 ?_|refine q09 ?_|refine q01 ?_|refine q08 ?_|refine q05 ?_|refine q04 rfl ?_)
   refine (hQ _ ?_).2
   simp only [push_cast,Nat.reduceEqDiff,reduceCtorEq,Nat.reduceAdd,Nat.reduceMul,Nat.reduceSub,Nat.reduceLeDiff,Nat.reduceLT,Nat.reduceBEq,Nat.reducePow,Int.reduceEq,Int.reduceLT,Int.reduceLE,Int.reduceNeg,Int.reduceAdd,Int.reduceToNat,reduceIte,decide_true,decide_false,frz]
theorem jf3 {G:World->Prop} (hG:qq2 G) (n:Int):q13 Tryz.prog G 30 [q26 (.int .i64 n)] (okD (DM.j8k n) (decide (DM.qch n))):=by
 by_cases h:DM.qch n
 ·obtain ⟨m,rfl⟩ : ∃ m:Nat,n=(m:Int):=⟨n.toNat,by have:=h.1;omega⟩
  have e:DM.j8k (m:Int)=⟨List.replicate m DM.q2d,[]⟩:=by rw [DM.j8k,if_pos h];rfl
  rw [decide_eq_true h,e]
  exact (jc5 hG m (by have:=h.1;omega) (by have:=h.2;omega)).weak fun _ _ _ h=>jam h
 ·rw [decide_eq_false h,DM.j8k,if_neg h]
  exact (jgx hG n h).weak fun _ _ _ h=>jdc h
end Go.Proofs.YthpgnliicpejoaaGreatDoor.AM
namespace Go.Proofs.YthpgnliicpejoaaGreatDoor
open Go.RowKit
set_option linter.unusedVariables false
namespace DiskW
set_option maxHeartbeats 1600000 in
set_option maxRecDepth 100000 in
theorem j2z (a1 a2:Option Addr) (k1 k2 n m:Nat) (d:DM.Dk) (w:World) (h:DM.DV w (.slice a1 n k1) (.slice a2 m k2) d) (hn:d.secs.length=n) (hm:d.cache.length=m) (b1:n<=1000000) (b2:m<=1000000) :
  Calls Tryz.prog 143 #[.agg #[.slice a1 n k1,.slice a2 m k2]] w fun e w'=>∃ a3 n3 k3 a4 n4 k4,e = .returned (.tuple #[.agg #[.slice a3 n3 k3,.slice a4 n4 k4],.int .i64 (DM.qtv d)]) /\
   DM.DV w' (.slice a3 n3 k3) (.slice a4 n4 k4) (DM.q3z (fun _=>true) d)/\Below w.heap.size w w'/\(∀k,DM.q9c (.slice a3 n3 k3) (.slice a4 n4 k4) k->w.heap.size<=k)/\(n3<=k3/\k3<=maxLen/\n4<=k4/\k4<=maxLen):=by
 have C1:Hid (∀w',DM.DV w' (.slice a1 n k1) (.slice a2 m k2) d->Calls Tryz.prog 53 #[.agg #[.slice a1 n k1,.slice a2 m k2]] w' fun e w''=>∃ a1 k1 a2 k2,e = .returned (.agg #[.slice a1 n k1,.slice a2 m k2])/\DM.OD w'' w'.heap.size 9 67 (.slice a1 n k1) (.slice a2 m k2) d/\Below w'.heap.size w' w''):=Lib.hid (fun w' h=>by
  have:=qq9 _ _ d w' h (by omega) (by omega)
  rw [hn,hm] at this
  exact this)
 obtain ⟨x,hx⟩ : ∃ x,decide (DM.q2s d)=x:=⟨_,rfl⟩
 have C2:Hid (∀w',DM.DV w' (.slice a1 n k1) (.slice a2 m k2) d->Calls Tryz.prog 54 #[.agg #[.slice a1 n k1,.slice a2 m k2]] w' fun e w''=>e = .returned (.bool x)/\Below w'.heap.size w' w''):=Lib.hid (fun w' h=>by
  have:=q86 _ _ d w' h (by omega) (by omega)
  rw [hx] at this
  exact this)
 have C4:Hid (DM.q2s d->∀base a1 k1 a2 k2 w',DM.OD w' base 9 67 (.slice a1 n k1) (.slice a2 m k2) d->base<=w'.heap.size->Calls Tryz.prog 55 #[.agg #[.slice a1 n k1,.slice a2 m k2]] w' fun e w''=>e = .returned (.agg #[.slice a1 n k1,.slice none 0 0]) /\
   DM.OD w'' base 9 67 (.slice a1 n k1) (.slice none 0 0) (DM.q1n (fun _=>true) d)/\DM.But (DM.q9c (.slice a1 n k1) (.slice a2 m k2)) w' w''):=Lib.hid (fun hmay base a1 k1 a2 k2 w' h hb=>qs9 base a1 a2 k1 k2 n m d w' h hb hn hm hmay b2)
 have H:=Lib.hid h;clear h
 have hcase:(x=false/\DM.qtv d=1/\DM.q3z (fun _=>true) d=d)\/(x=true/\DM.q2s d/\DM.qtv d=0/\DM.q3z (fun _=>true) d=DM.q1n (fun _=>true) d):=by
  by_cases hmay:DM.q2s d
  ·refine Or.inr ⟨by rw [<-hx];exact decide_eq_true hmay,hmay,if_pos hmay,if_pos hmay⟩
  ·refine Or.inl ⟨by rw [<-hx];exact decide_eq_false hmay,if_neg hmay,if_neg hmay⟩
 have HN:=Lib.hid hn;clear hn
 have HM:=Lib.hid hm;clear hm
 clear hx
 rcases hcase with ⟨rfl,e1,e2⟩|⟨rfl,hmay,e1,e2⟩
 all_goals
  rw [e1,e2]
  clear e1 e2
  go_enter Tryz.func143,Tryz.ntmps143
  go_wp2_with fail
  have V:=Lib.hid (DM.Var.two w (.slice a1 n k1) (.slice a2 m k2) (.slice none 0 0) (.slice none 0 0) 25)
  have B0:Hid (Below w.heap.size w ((w.alloc (.cells #[.slice a1 n k1,.slice a2 m k2] 25)).alloc (.cells #[.slice none 0 0,.slice none 0 0] 25))):=Lib.hid (DM.qjw w _ _)
  have hz0:w.heap.size+1<((w.alloc (.cells #[.slice a1 n k1,.slice a2 m k2] 25)).alloc (.cells #[.slice none 0 0,.slice none 0 0] 25)).heap.size:=by simp
  generalize hW0:(w.alloc (.cells #[.slice a1 n k1,.slice a2 m k2] 25)).alloc (.cells #[.slice none 0 0,.slice none 0 0] 25)=W0 at *
  clear hW0
  refine (C1.out _ (H.out.below B0.out)).mono ?_;rintro e w1 ⟨b1',q1,b2',q2,rfl,O1,B1⟩
  have O1:=Lib.hid O1
  have A1:=Lib.hid (V.out.1.below B1)
  have R1:=Lib.hid (V.out.2.below B1)
  have BW1:Below w.heap.size w w1:=B0.out.trans (B1.mono B0.out.size)
  have D1:=Lib.hid (H.out.below BW1)
  have c0:=A1.out.c0
  have c1:=A1.out.c1
  have l0:=A1.out.lt
  have z1:=B1.size
  have HB1:=Lib.hid B1;clear B1
  go_wp2_with fail
  have BA:Below w1.heap.size w1 (w1.alloc (.cells #[.slice b1' n q1,.slice b2' m q2] 25)):=(Below.refl _ _).alloc (Nat.le_refl _) _
  refine (C2.out _ (D1.out.below BA)).mono ?_;rintro e w2 ⟨rfl,B2⟩
  have O2:=Lib.hid ((O1.out.below BA).below B2)
  have R2:=Lib.hid ((R1.out.below BA).below B2)
  have S2:=Lib.hid ((DM.Var.made w1 (.slice b1' n q1) (.slice b2' m q2) 25).below B2)
  have BW2:Below w.heap.size w w2:=(BW1.trans (BA.mono BW1.size)).trans (B2.mono (by have:=BW1.size;simp;omega))
  have z2:W0.heap.size<=w2.heap.size:=by have:=B2.size;simp at this;omega
  have s0:=S2.out.c0
  have s1:=S2.out.c1
  have r0:=R2.out.c0
  have r1:=R2.out.c1
  have g0:=R2.out.f0
  have g1:=R2.out.f1
  have l2:=S2.out.lt
  have l3:=R2.out.lt
  clear B2 BA c0 c1 l0 D1 O1 A1 R1
  go_wp2_with fail
 ·refine bodyPost_ret (q2f rfl _ _ (w.heap.size+1) b1' b2' n q1 m q2 rfl (by go_simp) (by go_simp)) rfl ⟨b1',n,q1,b2',m,q2,rfl,?_,?_,fun k hk=>by have:=(O2.out.ge _ hk).1;omega,DM.OD.caps O2.out⟩
  ·exact DM.DV.but O2.out (DM.set2 (B:=w.heap.size+1) (u:=.slice b1' n q1) (v:=.slice b2' m q2)) (fun k hk=>by omega)
  ·exact (BW2.setCell (by simp<;>omega) _).setCell (by simp<;>omega) _
 ·refine (C4.out hmay W0.heap.size b1' q1 b2' q2 _ O2.out z2).mono ?_;rintro e w3 ⟨rfl,O3,BU3⟩
  have O3:=Lib.hid O3
  have R3:=Lib.hid (BU3.var R2.out (fun h=>by have:=(O2.out.ge _ h).1;omega))
  have BW3:Below w.heap.size w w3:=BW2.trans (BU3.to_below BW2.size (fun k hk=>by have:=(O2.out.ge _ hk).1;omega))
  clear BU3 O2 R2 S2 s0 s1 r0 r1 g0 g1
  have r0:=R3.out.c0
  have r1:=R3.out.c1
  have g0:=R3.out.f0
  have g1:=R3.out.f1
  go_wp2_with fail
  refine bodyPost_ret (q2f rfl _ _ (w.heap.size+1) b1' none n q1 0 0 rfl (by go_simp) (by go_simp)) rfl ⟨b1',n,q1,none,0,0,rfl,?_,?_,fun k hk=>by have:=(O3.out.ge _ hk).1;omega,DM.OD.caps O3.out⟩
  ·exact DM.DV.but O3.out (DM.set2 (B:=w.heap.size+1) (u:=.slice b1' n q1) (v:=.slice none 0 0)) (fun k hk=>by omega)
  ·exact (BW3.setCell (by simp<;>omega) _).setCell (by simp<;>omega) _
set_option maxHeartbeats 1600000 in
set_option maxRecDepth 100000 in
theorem jf0 (n:Nat) (w:World) (h1:1<=n) (h2:n<=512) :
  Calls Tryz.prog 47 #[.int .i64 (n:Int)] w fun e w'=>∃ g,e = .returned (.tuple #[.agg #[.slice (some ⟨g,0,none⟩) n n,.slice none 0 0],.bool true])/\DM.DV w' (.slice (some ⟨g,0,none⟩) n n) (.slice none 0 0) ⟨List.replicate n DM.q2d,[]⟩/\Below w.heap.size w w'/\w.heap.size<=g:=by
 obtain ⟨i0,hi,hz0,hz1,hz2⟩:=info_parts RecW.qzx
 obtain ⟨w1,hmk,hown,hgrow⟩:=run_makeSlice_full (P:=Tryz.prog) (w.alloc (.cells #[.slice none 0 0,.slice none 0 0] 25)) w.heap.size 22 9 i0 (.string ⟨#[]⟩) 1 Tryz.underlying22 hi hz0 hz1 .i64 .i64 n (by omega) (by rw [hz2];omega) (by unfold maxLen;omega) (by simp)
 have B1:Below w.heap.size w w1:=((Below.refl _ _).alloc (Nat.le_refl _) _).grown hgrow (by simp) (fun k hk=>by cases hk)
 have hrow:(madeCells (Value.string ⟨#[]⟩).cells (n*1)).toList=(DM.j3m n 0).map Value.string:=by
  rw [Nat.mul_one,show (Value.string ⟨#[]⟩).cells = #[.string ⟨#[]⟩] from rfl,toList_madeCells_one]
  simp [DM.j3m]
 rw [hrow] at hown
 have R1:DM.Var w1 w.heap.size (.slice none 0 0) (.slice none 0 0):=(DM.Var.made w _ _ _).set ((Below.refl _ _).grown hgrow (Nat.le_refl _) (fun k hk=>by cases hk)) (by simp)
 have HO:=Lib.hid hown
 have HR:=Lib.hid R1
 have HB:=Lib.hid B1
 have z1:w.heap.size+1<w1.heap.size:=by
  have:=(hown.lt (w.heap.size+1) (by simp [Value.ownBlock])).2
  exact this
 clear hown R1 B1 hgrow hrow
 have CF:Hid (∀w,Calls Tryz.prog 86 #[.string ⟨#[]⟩] w fun e w'=>e = .returned (.string DM.q2d)/\Below w.heap.size w w'):=Lib.hid (fun w=>q4d ⟨#[]⟩ w (by decide))
 have hn1 : ¬ (n:Int)<1:=by omega
 have hn2 : ¬ (512:Int)<(n:Int):=by omega
 simp at hmk
 go_enter Tryz.func47,Tryz.ntmps47
 go_wp2_with fail
 have HO1:Hid (w1.ownsRow w.heap.size 9 1 (.slice (some ⟨w.heap.size+1,0,none⟩) n n) n ((DM.j3m n 0).map Value.string)):=Lib.hid (by have:=HO.out;simpa using this)
 have HA:=Lib.hid (DM.Var.made w1 (.slice (some ⟨w.heap.size+1,0,none⟩) n n) (.slice none 0 0) 25)
 have BA:Below w1.heap.size w1 (w1.alloc (.cells #[.slice (some ⟨w.heap.size+1,0,none⟩) n n,.slice none 0 0] 25)):=(Below.refl _ _).alloc (Nat.le_refl _) _
 have HBA:=Lib.hid BA;clear BA hmk HO
 go_loopw [19] (fun i wr=>∃ q:Nat,q<=n/\i = .int .i64 q/\wr.ownsRow w.heap.size 9 1 (.slice (some ⟨w.heap.size+1,0,none⟩) n n) n ((DM.j3m n q).map Value.string)/\DM.Var wr w1.heap.size (.slice (some ⟨w.heap.size+1,0,none⟩) n n) (.slice none 0 0)/\DM.Var wr w.heap.size (.slice none 0 0) (.slice none 0 0)/\Below w.heap.size w wr) (fun i _=>n - (intOf i).toNat)
 case atStart=>exact ⟨0,Nat.zero_le _,rfl,HO1.out.alloc _,HA.out,HR.out.below HBA.out,HB.out.trans (HBA.out.mono HB.out.size)⟩
 case round =>
  clear HO1 HA HR HBA HB
  obtain ⟨q,hq,rfl,O,VA,VB,BU⟩:=hrel
  have HO:=Lib.hid O
  have HVA:=Lib.hid VA
  have HVB:=Lib.hid VB
  have c0:=VA.c0
  have l0:=VA.lt
  clear O VA VB
  by_cases hqn:q<n
  ·have hqi:(q:Int)<(n:Int):=by omega
   have hq0:(0:Int)<=(q:Int):=by omega
   go_wp2_with fail
   go_region_law (first
    | (go_simp;go_at_call 86;refine (CF.out _).mono ?_;rintro e w2 ⟨rfl,B2⟩;have BB:Below wr.heap.size wr w2:=(Below.refl _ _).drew.trans B2;have HO2:=Lib.hid (Lib.qls HO.out BB);have HVA2:=Lib.hid (HVA.out.below BB);have HVB2:=Lib.hid (HVB.out.below BB);have BU2:Below w.heap.size w w2:=BU.trans (BB.mono BU.size);have f2:w2.frozen? ⟨w.heap.size+1,q,none⟩=false:=HO2.out.frozenAt q;have x2:w2.cell? ⟨w.heap.size+1,q,none⟩=some (.string ((DM.j3m n q)[q]'(by rw [DM.qh0 n q hq];exact hqn))):=(by rw [HO2.out.cellAt q (by omega)];simp [DM.qh0 n q hq,hqn]);have c20:=HVA2.out.c0;dsimp only))
   all_goals
    go_wp2_with fail
    have F:DM.But (· = w.heap.size+1) w2 (w2.setCell ⟨w.heap.size+1,q,none⟩ (.string DM.q2d)):=(DM.But.refl (· = w.heap.size+1) _).setCell (p:=⟨w.heap.size+1,q,none⟩) (Or.inl rfl) _
    have HF:=Lib.hid F;clear F
    go_roundw
    case rel =>
     refine ⟨q+1,by omega,by go_num,?_,HF.out.var HVA2.out (by omega),HF.out.var HVB2.out (by omega),BU2.setCell (by simp) _⟩
     have:=(HO2.out.stored q (.string DM.q2d)).1
     rw [<-List.map_set,DM.jc2 n q hqn] at this
     exact this
    case measure=>simp [intOf];omega
  ·have hqq:q=n:=by omega
   subst hqq
   have c1:=HVA.out.c1
   have r0:=HVB.out.c0
   have r1:=HVB.out.c1
   have g0:=HVB.out.f0
   have g1:=HVB.out.f1
   go_wp2_with fail
   refine bodyPost_ret (q2f rfl _ _ w.heap.size (some ⟨w.heap.size+1,0,none⟩) none q q 0 0 rfl (by go_simp) (by go_simp)) rfl ⟨w.heap.size+1,rfl,⟨?_,DM.WV.nil _ _ _⟩,(BU.setCell (by simp) _).setCell (by simp) _,Nat.le_succ _⟩
   have F:DM.But (· = w.heap.size) wr ((wr.setCell ⟨w.heap.size,0,none⟩ (.slice (some ⟨w.heap.size+1,0,none⟩) q q)).setCell ⟨w.heap.size,1,none⟩ (.slice none 0 0)):=DM.set2
   have:=F.owns HO.out (fun g hg h=>by simp [Value.ownBlock] at hg;omega)
   rw [DM.jap] at this
   exact RM.SV.of_owns (by simp) this
end DiskW
end Go.Proofs.YthpgnliicpejoaaGreatDoor
namespace Go.Proofs.YthpgnliicpejoaaGreatDoor.AM
open Go.RowKit Go.ChangeShapes Go.WideShapes Go.ChangeAt
set_option linter.unusedVariables false
variable {G:World->Prop}
theorem jbe (d:DM.Dk) (b1:d.secs.length<=1000000) (b2:d.cache.length<=1000000):q13 Tryz.prog G 143 [.one (dk1 d)] (qkc (DM.q3z (fun _=>true) d) (DM.qtv d)):=by
 intro Pc w vs _ hlt hv
 obtain ⟨v,rfl,h⟩:=jfx hv
 obtain ⟨a1,k1,a2,k2,rfl,hd,_,_⟩:=jh7 hlt h
 refine (DiskW.j2z a1 a2 k1 k2 _ _ d w hd rfl rfl b1 b2).mono ?_
 rintro e w' ⟨a5,n5,k5,a6,n6,k6,rfl,h1,h2,h3,c1,c2,c3,c4⟩
 exact ⟨_,fun b o=>Pc b o\/(w.heap.size<=b/\b<w'.heap.size),rfl,h2,fun _ _ h=>Or.inl h,fun _ _ h=>h,_,rfl,jih h1 c1 c2 c3 c4 (fun g o h1 h2=>Or.inr ⟨h1,h2⟩) h3,q2p (σ:=q2g) _,trivial⟩
theorem jk6 (n:Int):q13 Tryz.prog G 47 [q26 (.int .i64 n)] (okD (DM.j8k n) (decide (DM.qch n))):=by
 intro Pc w vs _ hlt hv
 obtain ⟨v,rfl,h⟩:=jfx hv
 obtain rfl:=q0o h
 have hM:=max_eq
 by_cases hn:DM.qch n
 ·obtain ⟨m,rfl⟩ : ∃ m:Nat,n=(m:Int):=⟨n.toNat,by have:=hn.1;omega⟩
  have e:DM.j8k (m:Int)=⟨List.replicate m DM.q2d,[]⟩:=by rw [DM.j8k,if_pos hn];rfl
  have q1:=hn.1
  have q2:=hn.2
  rw [decide_eq_true hn,e]
  refine (DiskW.jf0 m w (by omega) (by omega)).mono ?_
  rintro e w' ⟨g,rfl,h1,h2,h3⟩
  refine ⟨_,fun b o=>Pc b o\/(w.heap.size<=b/\b<w'.heap.size),rfl,h2,fun _ _ h=>Or.inl h,fun _ _ h=>h,_,rfl,jih (base:=w.heap.size) h1 (Nat.le_refl _) (by omega) (Nat.le_refl _) (Nat.zero_le _) (fun g o h1 h2=>Or.inr ⟨h1,h2⟩) (fun k hk=>?_),q2p (σ:=q2g) _,trivial⟩
  rcases hk with hk|hk
  ·simp only [Value.ownBlock,Option.some.injEq] at hk;omega
  ·cases hk
 ·rw [decide_eq_false hn,DM.j8k,if_neg hn]
  refine (DiskW.jkk n w hn).mono ?_
  rintro e w' ⟨rfl,h2⟩
  exact ⟨_,Pc,rfl,h2,fun _ _ h=>h,fun _ _ h=>Or.inl h,_,rfl,⟨_,rfl,q42 1 (.v _),q42 2 (.v _),trivial⟩,q2p (σ:=q2g) _,trivial⟩
section
variable {H:Type} {enc:TypeId×Value->H} {W:World} {base:Nat} {v:Value} {d:DataW H} {p:List MemPlace}
end
end Go.Proofs.YthpgnliicpejoaaGreatDoor.AM
