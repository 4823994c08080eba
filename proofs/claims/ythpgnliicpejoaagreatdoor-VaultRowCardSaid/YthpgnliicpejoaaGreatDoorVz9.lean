
import Derived.Test.YthpgnliicpejoaaGreatDoorVz8
import Derived.Test.YthpgnliicpejoaaGreatDoorVz5
import Derived.Deep.QuietTactic
import Derived.BigQuiet
import Derived.Laws.StructEq
import Derived.Laws.MakeOwn
import Derived.Deep.RegionLaw
namespace Go.Proofs.YthpgnliicpejoaaGreatDoor
open Go.RowKit
namespace RecW
theorem j33 (B b:Nat) (l:List UInt8) (s:ByteArray) (w:World) (h:Go.Lib.IsBuilder 132 5 B b (Go.Lib.byteCells l) w) (hlen:l.length+s.size<=140737488355328) (hBw:B<=w.heap.size) :
  Calls Tryz.prog 72 #[.pointer (some ⟨b,0,none⟩),.string s] w fun e w'=>e = .returned (.tuple #[.int .i64 s.size,.nilIface])/\Go.Lib.IsBuilder 132 5 B b (Go.Lib.byteCells (l++s.data.toList)) w'/\Below B w w':=by
 refine Calls.mono (Any.Builder_WriteString (ρ:=Tryz.lays105_ren) { Tryz.lays105 with } Tryz.Builder_Extra_105 B b (Go.Lib.byteCells l) s w h (by rw [Go.Lib.byteCells_length];exact hlen) hBw) ?_
 rintro e w' ⟨he,h1,h2⟩
 refine ⟨he,.inr ?_,h2⟩
 rw [Go.Lib.byteCells_append,<-Go.Lib.strCells_eq]
 exact h1
theorem jgd (w:World) (v1 v2:Value) (xs ys:List ByteArray) (h1:RM.SV w v1 xs) (h2:RM.SV w v2 ys) (b1:xs.length<=9223372036854775807) (b2:ys.length<=9223372036854775807) :
  Calls Tryz.prog 159 #[v1,v2] w fun e w'=>e = .returned (.bool (decide (xs=ys)))/\∃ q,w'=w.drewN q:=by
 obtain ⟨a1,c1,rfl,h1⟩:=h1
 obtain ⟨a2,c2,rfl,h2⟩:=h2
 by_cases hn:xs.length=ys.length
 ·by_cases h0:xs.length=0
  ·have e1:xs = []:=List.length_eq_zero_iff.1 h0
   have e2:ys = []:=List.length_eq_zero_iff.1 (by omega)
   subst e1 e2
   refine (Tryz.slices_Equal_string_empty a1 a2 c1 0 c2 w (by omega)).mono ?_
   rintro e w' ⟨rfl,rfl⟩
   exact ⟨rfl,0,rfl⟩
  ·obtain ⟨g1,o1,rfl,_,k1⟩:=h1 (by omega)
   obtain ⟨g2,o2,rfl,_,k2⟩:=h2 (by omega)
   refine (Tryz.slices_Equal_string g1 o1 xs.length c1 g2 o2 ys.length c2 xs ys w (Nat.le_refl _) (Nat.le_refl _) b1 b2 (fun j hj=>by rw [k1 j hj];simp [List.getD,hj]) (fun j hj=>by rw [k2 j hj];simp [List.getD,hj])).mono ?_
   rintro e w' ⟨rfl,q,rfl⟩
   exact ⟨by rw [List.take_length,List.take_length],q,rfl⟩
 ·refine (Tryz.slices_Equal_string_lens a1 a2 xs.length c1 ys.length c2 w hn).mono ?_
  rintro e w' ⟨rfl,rfl⟩
  exact ⟨by rw [decide_eq_false (by rintro rfl;exact hn rfl)],0,rfl⟩
set_option maxHeartbeats 3200000 in
set_option maxRecDepth 100000 in
theorem j8o (l:List ByteArray) (v:Value) (size:Int) (w:World) (hv:RM.SV w v l) (hl:l.length<=1000) (hb : -9223372036854775808<=size/\size<=9223372036854775807) :
  Calls Tryz.prog 145 #[v,.int .i64 size] w fun e w'=>e = .returned (.tuple #[.string (RM.qhc l size),.bool (decide (RM.q48 l size))])/\Below w.heap.size w w':=by
 obtain ⟨a,cap,rfl,hcells⟩:=hv
 by_cases hc:(l.length:Int)=RM.q0u size
 ·obtain ⟨h1,h2,h3,h4⟩:=RM.qul l.length size hc
  obtain ⟨n,rfl⟩ : ∃ n:Nat,size=n:=⟨size.toNat,by omega⟩
  have hcc:RM.q0u (n:Int)=(l.length:Int):=hc.symm
  have HC:=Lib.hid hc;clear hc
  have hJ:Hid (RM.qck l (n:Int)=RM.str ((RM.qkt l).take n)):=Lib.hid rfl
  go_enter Tryz.func145,Tryz.ntmps145
  go_wp2_with fail
  refine (qb2 _ _ (by omega)).mono ?_;rintro e w' ⟨rfl,rfl⟩
  go_wp2_with fail
  have hnew:=Go.Lib.fresh_isBuilder 132 5 w
  go_loopw [17] (fun i wr=>∃ k:Nat,k<=l.length/\i = .int .i64 k/\Go.Lib.IsBuilder 132 5 w.heap.size w.heap.size (Go.Lib.byteCells (RM.qkt (l.take k))) wr/\(∀j (h:j<l.length),j<k->l[j].size=32)/\Below w.heap.size w wr) (fun i _=>l.length - (intOf i).toNat)
  case atStart=>exact ⟨0,Nat.zero_le _,rfl,hnew,fun j _ h=>by omega,(Below.refl _ _).alloc (Nat.le_refl _) _⟩
  case round =>
   obtain ⟨k,hk,rfl,hbld,hall,hbel⟩:=hrel
   by_cases hkl:k<l.length
   ·obtain ⟨g,off,rfl,hg,hcs⟩:=hcells (by omega)
    have hcx:wr.cell? ⟨g,off+k,none⟩=some (.string l[k]):=(hbel.cell (p:=⟨g,off+k,none⟩) hg).trans (hcs k hkl)
    have hsnoc:=Lib.hid (RM.j39 l k hkl)
    have hHall:=Lib.hid hall
    have hHbld:=Lib.hid hbld
    have hlen31:(RM.qkt (l.take k)).length<=31000:=by
     rw [RM.q6n (l.take k) (RM.jci _ (fun j hj=>by
      have hj':j<k/\j<l.length:=by simp at hj;omega
      rw [List.getElem_take];exact hall j hj'.2 hj'.1))]
     simp;omega
    have hbs:=hbel.size
    clear hall hbld
    by_cases h32:l[k].size=32
    ·have hx1:=Lib.hid (RM.tail1 l[k] h32)
     have hex:Hid ((l[k].extract 1 32).size=31):=by apply Lib.hid;rw [ByteArray.size_extract];omega
     have h32i:(l[k].size:Int)=32:=by omega
     have hH32:=Lib.hid h32
     generalize hx:l[k]=x at *
     have HX:=Lib.hid hx;clear hx
     go_wp2_with fail
     refine (j33 w.heap.size w.heap.size (RM.qkt (l.take k)) (x.extract 1 32) _ hHbld.out (by rw [hex.out];omega) hbs).mono ?_
     rintro e w2 ⟨rfl,hb2,hbel2⟩
     rw [hx1.out,<-hsnoc.out] at hb2
     have hbel3:=hbel.trans hbel2
     clear hbel hbel2 hx1 hex hsnoc
     have hHb2:=Lib.hid hb2;clear hb2
     go_wp2_with fail
     go_roundw
     case rel=>exact ⟨k+1,by omega,by go_num,hHb2.out,fun j hj hjk=>by
      by_cases e:j=k
      ·subst e;rw [HX.out];exact hH32.out
      ·exact hHall.out j hj (by omega),hbel3⟩
     case measure=>simp [intOf];omega
    ·have hno:=RM.qyc l (n:Int) k hkl h32
     have HN:=Lib.hid hno
     have h32i : ¬ (l[k].size:Int)=32:=by omega
     generalize hx:l[k]=x at *
     clear hno h32 hx hsnoc
     go_wp2_with fail
     go_ret2
     exact ⟨by rw [RM.qmo l _ HN.out,decide_eq_false HN.out];rfl,hbel⟩
   ·have hkk:k=l.length:=by omega
    subst hkk
    rw [List.take_length] at hbld
    have hA:=Lib.hid (RM.jci l (fun j hj=>hall j hj hj))
    have hlen:=RM.q6n l hA.out
    have hbs:=hbel.size
    have hHbld:=Lib.hid hbld
    clear hall hbld hnew
    go_wp2_with fail
    refine (Tryz.Builder_String_any w.heap.size w.heap.size (RM.qkt l) _ hHbld.out hbs).mono ?_
    rintro e w2 ⟨rfl,hbel2⟩
    have hbel3:=hbel.trans hbel2
    have hn1:(n:Int)<=((RM.qkt l).length:Int):=by omega
    clear hbel hbel2
    go_wp2_with fail
    have hE:(⟨(RM.qkt l).toArray⟩:ByteArray).extract 0 n=RM.qck l (n:Int):=RM.j9b (RM.qkt l) n
    rw [hE]
    have hjs:Hid ((RM.qck l (n:Int)).size<=maxLen):=by
     apply Lib.hid;unfold RM.qck maxLen;rw [RM.q4f];simp;omega
    have hbs3:=hbel3.size
    have hSVl:RM.SV w (.slice a l.length cap) l:=⟨a,cap,rfl,hcells⟩
    have HSV:=Lib.hid hSVl;clear hSVl
    clear hE hn1
    generalize hP:RM.qck l (n:Int)=p at *
    have HP:=Lib.hid hP;clear hP
    refine (j49 p _ hjs.out).mono ?_
    rintro e w3 ⟨v3,rfl,hown3,hbel4⟩
    have hbel5:=hbel3.trans (hbel4.mono hbs3)
    have hSV3:=Lib.hid (RM.SV.of_owns (RM.q2t p).symm hown3)
    have hcl:=RM.q98 p
    clear hown3 hbel3 hbel4
    go_wp2_with fail
    refine (jgd _ _ _ _ _ hSV3.out (HSV.out.below hbel5) (by rw [RM.q2t];omega) (by omega)).mono ?_
    rintro e w4 ⟨rfl,m,rfl⟩
    by_cases hcmp:RM.qd0 p=l
    ·have hok:RM.q48 l (n:Int):=⟨HC.out,hA.out,by rw [HP.out];exact hcmp⟩
     have hd:decide (RM.qd0 p=l)=true:=decide_eq_true hcmp
     rw [hd]
     clear hcmp hd
     have HOK:=Lib.hid hok;clear hok
     go_wp2_with fail
     go_ret2
     exact ⟨by rw [RM.qff l _ HOK.out,decide_eq_true HOK.out,HP.out];rfl,Lib.q0s hbel5 _⟩
    ·have hok : ¬ RM.q48 l (n:Int):=fun x=>hcmp (by rw [<-HP.out];exact x.2.2)
     have hd:decide (RM.qd0 p=l)=false:=decide_eq_false hcmp
     rw [hd]
     clear hcmp hd
     have HOK:=Lib.hid hok;clear hok
     go_wp2_with fail
     go_ret2
     exact ⟨by rw [RM.qmo l _ HOK.out,decide_eq_false HOK.out];rfl,Lib.q0s hbel5 _⟩
 ·have hno : ¬ RM.q48 l size:=fun x=>hc x.1
  rw [RM.qmo l size hno,decide_eq_false hno]
  clear hno
  go_enter Tryz.func145,Tryz.ntmps145
  go_wp2_with fail
  refine (qb2 _ _ hb).mono ?_;rintro e w' ⟨rfl,rfl⟩
  go_wp2_with fail
  go_ret2
  exact ⟨rfl,Below.refl _ _⟩
end RecW
end Go.Proofs.YthpgnliicpejoaaGreatDoor
namespace Go.Proofs.YthpgnliicpejoaaGreatDoor
open Go.RowKit
set_option linter.unusedVariables false
namespace DM
end DM
namespace DiskW
end DiskW
end Go.Proofs.YthpgnliicpejoaaGreatDoor
namespace Go.Proofs.YthpgnliicpejoaaGreatDoor
open Go.RowKit
namespace RecW
theorem j6l {a b:List ByteArray} (hn:a.length=b.length) (h : ∀j (h1:j<a.length) (h2:j<b.length),a[j]=b[j]):a=b:=List.ext_getElem hn h
end RecW
end Go.Proofs.YthpgnliicpejoaaGreatDoor
namespace Go.Proofs.YthpgnliicpejoaaGreatDoor
open Go.RowKit
set_option linter.unusedVariables false
namespace DM
theorem WV.drewN {w:World} {v:Value} {l:List Wr} (h:WV w v l) (n:Nat):WV (w.drewN n) v l:=h
end DM
namespace DiskW
theorem j44 {a b:List DM.Wr} (hn:a.length=b.length) (h : ∀j (h1:j<a.length) (h2:j<b.length),a[j]=b[j]):a=b:=List.ext_getElem hn h
end DiskW
end Go.Proofs.YthpgnliicpejoaaGreatDoor
namespace Go.Proofs.YthpgnliicpejoaaGreatDoor
open Go.RowKit
set_option linter.unusedVariables false
namespace DiskW
theorem dk_eq (x y:DM.Dk):x=y↔x.secs=y.secs/\x.cache=y.cache:=by cases x;cases y;simp
end DiskW
end Go.Proofs.YthpgnliicpejoaaGreatDoor
namespace Go.Proofs.YthpgnliicpejoaaGreatDoor
open Go.RowKit
set_option linter.unusedVariables false
namespace DM
def q2d:ByteArray:=q52 ⟨#[]⟩
def qb3 (n:Int):Prop:=1<=n/\n<=512
instance (n:Int):Decidable (qb3 n):=by unfold qb3;infer_instance
def j3w (n:Int):Dk:=if qb3 n then ⟨List.replicate n.toNat q2d,[]⟩ else ⟨[],[]⟩
def qzm (n q:Nat):List ByteArray:=List.replicate q q2d++List.replicate (n - q) ⟨#[]⟩
theorem qfq (n q:Nat) (h:q<=n):(qzm n q).length=n:=by unfold qzm;simp;omega
theorem j93 (n q:Nat) (h:q<n):(qzm n q).set q q2d=qzm n (q+1):=by
 unfold qzm
 rw [List.set_append_right _ _ (by simp),List.length_replicate,Nat.sub_self,show n - q=(n - (q+1))+1 from by omega,List.replicate_succ,List.set_cons_zero,List.replicate_succ',List.append_assoc]
 rfl
theorem j76 (n:Nat):qzm n n=List.replicate n q2d:=by unfold qzm;simp
end DM
namespace DiskW
set_option maxHeartbeats 1600000 in
set_option maxRecDepth 100000 in
theorem jh9 (n:Int) (w:World) (h : ¬ DM.qb3 n) :
  Calls Tryz.prog 47 #[.int .i64 n] w fun e w'=>e = .returned (.tuple #[.agg #[.slice none 0 0,.slice none 0 0],.bool false])/\Below w.heap.size w w':=by
 have hc:n<1\/(¬ n<1/\512<n):=by unfold DM.qb3 at h;omega
 clear h
 rcases hc with h|⟨h,h2⟩
 all_goals
  go_enter Tryz.func47,Tryz.ntmps47
  go_wp2_with fail
  refine bodyPost_ret (q1p rfl _ _ w.heap.size none none 0 0 0 0 rfl (by go_simp) (by go_simp)) rfl ⟨rfl,?_⟩
  repeat' first|(with_reducible exact Below.refl _ _)|(with_reducible refine Below.alloc ?_ ?_ _)|(with_reducible refine Below.setCell ?_ ?_ _)|omega|(simp<;>omega)
end DiskW
end Go.Proofs.YthpgnliicpejoaaGreatDoor
namespace Go.Proofs.YthpgnliicpejoaaGreatDoor
open Go.RowKit
set_option linter.unusedVariables false
namespace DiskW
def exZ:ByteArray:=⟨#[0,0,0,0,0,0,0,0,0,0,0,0,0,0,0,0,0,0,0,0,0,0,0,0,0,0,0,0,0,0,0,0]⟩
def exAB:ByteArray:=⟨#[97,98,0,0,0,0,0,0,0,0,0,0,0,0,0,0,0,0,0,0,0,0,0,0,0,0,0,0,0,0,0,0]⟩
def exCD:ByteArray:=⟨#[99,100,0,0,0,0,0,0,0,0,0,0,0,0,0,0,0,0,0,0,0,0,0,0,0,0,0,0,0,0,0,0]⟩
def ex33:ByteArray:=⟨#[49,50,51,52,53,54,55,56,57,48,49,50,51,52,53,54,55,56,57,48,49,50,51,52,53,54,55,56,57,48,49,50,51]⟩
def exD:DM.Dk:=⟨[exZ,exZ,exZ],[]⟩
def exA:DM.Dk:=⟨[exZ,exZ,exZ],[(1,exAB)]⟩
def exB:DM.Dk:=⟨[exZ,exZ,exZ],[(1,exAB),(1,exCD)]⟩
theorem e1:(⟨List.replicate 3 DM.q2d,[]⟩:DM.Dk)=exD:=by decide +kernel
theorem e2:DM.qzq exD 1 ⟨#[97,98]⟩=exA/\DM.j61 exD 1 ⟨#[97,98]⟩=0:=by decide +kernel
theorem e3:DM.qzq exA 1 ⟨#[99,100]⟩=exB/\DM.j61 exA 1 ⟨#[99,100]⟩=0:=by decide +kernel
theorem e4:DM.qzq exD 3 ⟨#[]⟩=exD/\DM.j61 exD 3 ⟨#[]⟩=1:=by decide +kernel
theorem e5:DM.qzq exD 0 ex33=exD/\DM.j61 exD 0 ex33=2:=by decide +kernel
theorem e6:DM.getB exB 1=exCD/\DM.getE exB 1=0:=by decide +kernel
end DiskW
end Go.Proofs.YthpgnliicpejoaaGreatDoor
namespace Go.Proofs.YthpgnliicpejoaaGreatDoor
open Go.RowKit
set_option linter.unusedVariables false
namespace DM
def jas (d:Dk):Prop:=(d.secs.length<=600/\∀s∈d.secs,s.size<=100)/\(d.cache.length<=200/\∀p∈d.cache,p.2.size<=100)
instance (d:Dk):Decidable (jas d):=by unfold jas;infer_instance
end DM
namespace DiskW
end DiskW
end Go.Proofs.YthpgnliicpejoaaGreatDoor
namespace Go.Proofs.YthpgnliicpejoaaGreatDoor
open Go.RowKit
set_option linter.unusedVariables false
namespace DiskW
theorem j0r {w:World} {a1 a2:Option Addr} {n k1 m k2:Nat} {d:DM.Dk} (h:DM.DV w (.slice a1 n k1) (.slice a2 m k2) d) :
  (0<n->∃ b off,a1=some ⟨b,off,none⟩/\∀j (h:j<d.secs.length),w.cell? ⟨b,off+j,none⟩=some (.string d.secs[j])) /\
  (0<m->∃ b off,a2=some ⟨b,off,none⟩/\∀k (h:k<d.cache.length),w.cell? ⟨b,off+k*2,none⟩=some (.int .i64 d.cache[k].1)/\w.cell? ⟨b,off+k*2+1,none⟩=some (.string d.cache[k].2)):=by
 obtain ⟨hn,hm⟩:=DM.DV.len h
 obtain ⟨⟨x,y,h1,h2⟩,⟨z,t,h3,h4⟩⟩:=h
 simp only [Value.slice.injEq] at h1 h3
 refine ⟨fun h0=>?_,fun h0=>?_⟩
 ·obtain ⟨b,off,e,_,hc⟩:=h2 (by omega)
  exact ⟨b,off,h1.1.trans e,hc⟩
 ·obtain ⟨b,off,e,_,hc⟩:=h4 (by omega)
  exact ⟨b,off,h3.1.trans e,hc⟩
set_option maxHeartbeats 3200000 in
set_option maxRecDepth 100000 in
theorem j08 (a1 a2 a3 a4:Option Addr) (n1 k1 n2 k2 n3 k3 n4 k4:Nat) (d1 d2:DM.Dk) (w:World) (h1:DM.DV w (.slice a1 n1 k1) (.slice a2 n2 k2) d1) (h2:DM.DV w (.slice a3 n3 k3) (.slice a4 n4 k4) d2)
  (b1:n1<=1000000) (b2:n2<=1000000) (b3:n3<=1000000) (b4:n4<=1000000) :
  Calls Tryz.prog 29 #[.agg #[.slice a1 n1 k1,.slice a2 n2 k2],.agg #[.slice a3 n3 k3,.slice a4 n4 k4]] w fun e w'=>e = .returned (.bool (decide (d1=d2)))/\Below w.heap.size w w':=by
 obtain ⟨l1,l2⟩:=DM.DV.len h1
 obtain ⟨l3,l4⟩:=DM.DV.len h2
 obtain ⟨z,hz⟩ : ∃ z,decide (d1=d2)=z:=⟨_,rfl⟩
 rw [hz]
 by_cases e13:n1=n3
 ·by_cases e24:n2=n4
  ·have L1:=Lib.hid l1
   have L2:=Lib.hid l2
   have L3:Hid (d2.secs.length=n1):=Lib.hid (by omega)
   have L4:Hid (d2.cache.length=n2):=Lib.hid (by omega)
   subst e13 e24
   have H1:=Lib.hid h1
   have H2:=Lib.hid h2
   have HZ:=Lib.hid hz
   clear h1 h2 hz l1 l2 l3 l4 b3 b4
   go_enter Tryz.func29,Tryz.ntmps29
   go_wp2_with fail
   have V:=Lib.hid (DM.Var.two w (.slice a1 n1 k1) (.slice a2 n2 k2) (.slice a3 n1 k3) (.slice a4 n2 k4) 25)
   have B0:Hid (Below w.heap.size w ((w.alloc (.cells #[.slice a1 n1 k1,.slice a2 n2 k2] 25)).alloc (.cells #[.slice a3 n1 k3,.slice a4 n2 k4] 25))):=Lib.hid (DM.q5m w _ _)
   generalize hW0:(w.alloc (.cells #[.slice a1 n1 k1,.slice a2 n2 k2] 25)).alloc (.cells #[.slice a3 n1 k3,.slice a4 n2 k4] 25)=W0 at *
   clear hW0
   have D1:=Lib.hid (j0r (H1.out.below B0.out))
   have D2:=Lib.hid (j0r (H2.out.below B0.out))
   have c0:=V.out.1.c0
   have c1:=V.out.1.c1
   have c2:=V.out.2.c0
   have c3:=V.out.2.c1
   go_loopw [5] (fun i wr=>∃ k:Nat,k<=n1/\i = .int .i64 k/\(∀j (h1:j<d1.secs.length) (h2:j<d2.secs.length),j<k->d1.secs[j]=d2.secs[j])/\∃ m,wr=W0.drewN m) (fun i _=>n1 - (intOf i).toNat)
   case atStart=>exact ⟨0,Nat.zero_le _,rfl,fun j _ _ h=>by omega,0,rfl⟩
   case round =>
    obtain ⟨k,hk,rfl,hall,m,rfl⟩:=hrel
    have HALL:=Lib.hid hall;clear hall
    by_cases hkl:k<n1
    ·have hx:k<d1.secs.length:=by rw [L1.out];exact hkl
     have hy:k<d2.secs.length:=by rw [L3.out];exact hkl
     obtain ⟨g3,o3,rfl,hc3⟩:=D1.out.1 (by omega)
     obtain ⟨g4,o4,rfl,hc4⟩:=D2.out.1 (by omega)
     have x3:W0.cell? ⟨g3,o3+k,none⟩=some (.string d1.secs[k]):=hc3 k hx
     have x4:W0.cell? ⟨g4,o4+k,none⟩=some (.string d2.secs[k]):=hc4 k hy
     clear hc3 hc4
     have hki:(k:Int)<(n1:Int):=by omega
     have hk0:(0:Int)<=(k:Int):=by omega
     go_wp2
     go_quiet (fail)
     go_wp2
     ·have hne:(!d1.secs[k].toList==d2.secs[k].toList)=true:=by assumption
      have hno:z=false:=by
       rw [<-HZ.out]
       refine decide_eq_false fun e=>?_
       have e2:d1.secs[k]=d2.secs[k]:=by simp only [e]
       rw [e2] at hne
       simp at hne
      go_ret
      exact ⟨by rw [hno];rfl,by first|exact Lib.q0s (Lib.q0s B0.out _) _|exact Lib.q0s B0.out _⟩
     ·have heq:(!d1.secs[k].toList==d2.secs[k].toList)=false:=by assumption
      have he:d1.secs[k]=d2.secs[k]:=RM.q9x (by simpa using heq)
      have HE:=Lib.hid he
      clear heq he x3 x4
      go_roundw
      case rel=>exact ⟨k+1,by omega,by go_num,fun j hj1 hj2 hjk=>by
       by_cases e:j=k
       ·subst e;exact HE.out
       ·exact HALL.out j hj1 hj2 (by omega),_,rfl⟩
      case measure=>simp [intOf];omega
    ·have hkk:k=n1:=by omega
     subst hkk
     have HS:Hid (d1.secs=d2.secs):=Lib.hid (RecW.j6l (by rw [L1.out,L3.out]) (fun j hj1 hj2=>HALL.out j hj1 hj2 (by rw [<-L1.out];exact hj1)))
     go_wp2
     go_loopw [6] (fun i wr=>∃ q:Nat,q<=n2/\i = .int .i64 q/\(∀j (h1:j<d1.cache.length) (h2:j<d2.cache.length),j<q->d1.cache[j]=d2.cache[j])/\∃ m,wr=W0.drewN m) (fun i _=>n2 - (intOf i).toNat)
     case atStart=>exact ⟨0,Nat.zero_le _,rfl,fun j _ _ h=>by omega,_,rfl⟩
     case round =>
      obtain ⟨q,hq,rfl,hall2,m2,rfl⟩:=hrel
      have HALL2:=Lib.hid hall2;clear hall2
      by_cases hql:q<n2
      ·have hx:q<d1.cache.length:=by rw [L2.out];exact hql
       have hy:q<d2.cache.length:=by rw [L4.out];exact hql
       obtain ⟨g3,o3,rfl,hc3⟩:=D1.out.2 (by omega)
       obtain ⟨g4,o4,rfl,hc4⟩:=D2.out.2 (by omega)
       have x3:=(hc3 q hx).1
       have x3':=(hc3 q hx).2
       have x4:=(hc4 q hy).1
       have x4':=(hc4 q hy).2
       clear hc3 hc4
       obtain ⟨P,hP⟩ : ∃ P,d1.cache[q]=P:=⟨_,rfl⟩
       obtain ⟨Q,hQ⟩ : ∃ Q,d2.cache[q]=Q:=⟨_,rfl⟩
       rw [hP] at x3 x3'
       rw [hQ] at x4 x4'
       have HP:=Lib.hid hP
       have HQ:=Lib.hid hQ
       clear hP hQ
       obtain ⟨i1,s1⟩:=P
       obtain ⟨i2,s2⟩:=Q
       simp only at x3 x3' x4 x4'
       have hki:(q:Int)<(n2:Int):=by omega
       have hk0:(0:Int)<=(q:Int):=by omega
       have hc:(i1=i2/\s1=s2)\/((i1==i2)=false)\/(i1=i2/\(s1.toList==s2.toList)=false):=by
        by_cases h1:i1=i2
        ·by_cases h2:s1=s2
         ·exact Or.inl ⟨h1,h2⟩
         ·refine Or.inr (Or.inr ⟨h1,?_⟩)
          have : ¬ s1.toList=s2.toList:=fun h=>h2 (RM.q9x h)
          simpa using this
        ·exact Or.inr (Or.inl (by simpa using h1))
       have hno:Hid (¬ (i1=i2/\s1=s2)->z=false):=Lib.hid (fun hh=>by
        rw [<-HZ.out]
        refine decide_eq_false fun e=>hh ?_
        have e2:d1.cache[q]=d2.cache[q]:=by simp only [e]
        rw [HP.out,HQ.out] at e2
        simpa using e2)
       rcases hc with ⟨rfl,rfl⟩|hne|⟨rfl,hne⟩
       ·have HE:Hid (d1.cache[q]=d2.cache[q]):=Lib.hid (by rw [HP.out,HQ.out])
        clear hno
        go_wp2
        go_quiet (fail)
        go_wp2
        go_roundw
        case rel=>exact ⟨q+1,by omega,by go_num,fun j hj1 hj2 hjk=>by
         by_cases e:j=q
         ·subst e;exact HE.out
         ·exact HALL2.out j hj1 hj2 (by omega),_,rfl⟩
        case measure=>simp [intOf];omega
       ·have hz:z=false:=hno.out (fun h=>by rw [h.1] at hne;simp at hne)
        subst hz
        clear hno
        go_wp2
        go_quiet (fail)
        go_wp2
        go_ret
        exact ⟨rfl,by first|exact Lib.q0s (Lib.q0s B0.out _) _|exact Lib.q0s B0.out _⟩
       ·have hz:z=false:=hno.out (fun h=>by rw [h.2] at hne;simp at hne)
        subst hz
        clear hno
        go_wp2
        go_quiet (fail)
        go_wp2
        go_ret
        exact ⟨rfl,by first|exact Lib.q0s (Lib.q0s B0.out _) _|exact Lib.q0s B0.out _⟩
      ·have hqq:q=n2:=by omega
       subst hqq
       have hyes:z=true:=by
        rw [<-HZ.out]
        exact decide_eq_true ((dk_eq _ _).2 ⟨HS.out,j44 (by rw [L2.out,L4.out]) (fun j hj1 hj2=>HALL2.out j hj1 hj2 (by rw [<-L2.out];exact hj1))⟩)
       subst hyes
       go_wp2
       go_ret
       exact ⟨rfl,Lib.q0s B0.out _⟩
  ·have hno:z=false:=by rw [<-hz];exact decide_eq_false fun e=>e24 (by rw [<-l2,<-l4,e])
   subst hno
   clear l1 l2 l3 l4 hz h1 h2
   subst e13
   have hne:((n2:Int)==(n4:Int))=false:=by simp;omega
   go_enter Tryz.func29,Tryz.ntmps29
   go_wp2_with fail
   go_ret
   exact ⟨rfl,DM.q5m w _ _⟩
 ·have hno:z=false:=by rw [<-hz];exact decide_eq_false fun e=>e13 (by rw [<-l1,<-l3,e])
  subst hno
  clear l1 l2 l3 l4 hz h1 h2
  have hne:((n1:Int)==(n3:Int))=false:=by simp;omega
  go_enter Tryz.func29,Tryz.ntmps29
  go_wp2_with fail
  go_ret
  exact ⟨rfl,DM.q5m w _ _⟩
end DiskW
end Go.Proofs.YthpgnliicpejoaaGreatDoor
