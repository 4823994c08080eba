
import Derived.Test.YthpgnliicpejoaaGreatDoorVt8
import Derived.Test.YthpgnliicpejoaaGreatDoorVt5
import Derived.Deep.QuietTactic
import Derived.BigQuiet
import Derived.Laws.StructEq
import Derived.Laws.MakeOwn
import Derived.Deep.RegionLaw
namespace Go.Proofs.YthpgnliicpejoaaGreatDoor
open Go.RowKit
namespace RecW
theorem jhu (B b:Nat) (l:List UInt8) (s:ByteArray) (w:World) (h:Go.Lib.IsBuilder 132 5 B b (Go.Lib.byteCells l) w) (hlen:l.length+s.size<=140737488355328) (hBw:B<=w.heap.size) :
  Calls Tryz.prog 72 #[.pointer (some ⟨b,0,none⟩),.string s] w fun e w'=>e = .returned (.tuple #[.int .i64 s.size,.nilIface])/\Go.Lib.IsBuilder 132 5 B b (Go.Lib.byteCells (l++s.data.toList)) w'/\Below B w w':=by
 refine Calls.mono (Any.Builder_WriteString (ρ:=Tryz.lays105_ren) { Tryz.lays105 with } Tryz.Builder_Extra_105 B b (Go.Lib.byteCells l) s w h (by rw [Go.Lib.byteCells_length];exact hlen) hBw) ?_
 rintro e w' ⟨he,h1,h2⟩
 refine ⟨he,.inr ?_,h2⟩
 rw [Go.Lib.byteCells_append,<-Go.Lib.strCells_eq]
 exact h1
theorem ju5 (w:World) (v1 v2:Value) (xs ys:List ByteArray) (h1:RM.SV w v1 xs) (h2:RM.SV w v2 ys) (b1:xs.length<=9223372036854775807) (b2:ys.length<=9223372036854775807) :
  Calls Tryz.prog 159 #[v1,v2] w fun e w'=>e = .returned (.bool (decide (xs=ys)))/\∃ q,w'=w.drewN q:=by
 obtain ⟨a1,c1,rfl,h1⟩:=h1
 obtain ⟨a2,c2,rfl,h2⟩:=h2
 by_cases hn:xs.length=ys.length
 ·by_cases h0:xs.length=0
  ·have e1:xs = []:=List.length_eq_zero_iff.1 h0
   have e2:ys = []:=List.length_eq_zero_iff.1 (by omega)
   subst e1 e2
   refine (Tryz.slices_Equal_string_empty a1 a2 c1 0 c2 w (by omega)).mono ?_
   rintro e w' ⟨rfl,rfl⟩
   exact ⟨rfl,0,rfl⟩
  ·obtain ⟨g1,o1,rfl,_,k1⟩:=h1 (by omega)
   obtain ⟨g2,o2,rfl,_,k2⟩:=h2 (by omega)
   refine (Tryz.slices_Equal_string g1 o1 xs.length c1 g2 o2 ys.length c2 xs ys w (Nat.le_refl _) (Nat.le_refl _) b1 b2 (fun j hj=>by rw [k1 j hj];simp [List.getD,hj]) (fun j hj=>by rw [k2 j hj];simp [List.getD,hj])).mono ?_
   rintro e w' ⟨rfl,q,rfl⟩
   exact ⟨by rw [List.take_length,List.take_length],q,rfl⟩
 ·refine (Tryz.slices_Equal_string_lens a1 a2 xs.length c1 ys.length c2 w hn).mono ?_
  rintro e w' ⟨rfl,rfl⟩
  exact ⟨by rw [decide_eq_false (by rintro rfl;exact hn rfl)],0,rfl⟩
set_option maxHeartbeats 3200000 in
set_option maxRecDepth 100000 in
theorem jir (l:List ByteArray) (v:Value) (size:Int) (w:World) (hv:RM.SV w v l) (hl:l.length<=1000) (hb : -9223372036854775808<=size/\size<=9223372036854775807) :
  Calls Tryz.prog 145 #[v,.int .i64 size] w fun e w'=>e = .returned (.tuple #[.string (RM.qfj l size),.bool (decide (RM.q38 l size))])/\Below w.heap.size w w':=by
 obtain ⟨a,cap,rfl,hcells⟩:=hv
 by_cases hc:(l.length:Int)=RM.q0u size
 ·obtain ⟨h1,h2,h3,h4⟩:=RM.qj9 l.length size hc
  obtain ⟨n,rfl⟩ : ∃ n:Nat,size=n:=⟨size.toNat,by omega⟩
  have hcc:RM.q0u (n:Int)=(l.length:Int):=hc.symm
  have HC:=Lib.hid hc;clear hc
  have hJ:Hid (RM.qbj l (n:Int)=RM.str ((RM.qok l).take n)):=Lib.hid rfl
  go_enter Tryz.func145,Tryz.ntmps145
  go_wp2_with fail
  refine (qem _ _ (by omega)).mono ?_;rintro e w' ⟨rfl,rfl⟩
  go_wp2_with fail
  have hnew:=Go.Lib.fresh_isBuilder 132 5 w
  go_loopw [17] (fun i wr=>∃ k:Nat,k<=l.length/\i = .int .i64 k/\Go.Lib.IsBuilder 132 5 w.heap.size w.heap.size (Go.Lib.byteCells (RM.qok (l.take k))) wr/\(∀j (h:j<l.length),j<k->l[j].size=32)/\Below w.heap.size w wr) (fun i _=>l.length - (intOf i).toNat)
  case atStart=>exact ⟨0,Nat.zero_le _,rfl,hnew,fun j _ h=>by omega,(Below.refl _ _).alloc (Nat.le_refl _) _⟩
  case round =>
   obtain ⟨k,hk,rfl,hbld,hall,hbel⟩:=hrel
   by_cases hkl:k<l.length
   ·obtain ⟨g,off,rfl,hg,hcs⟩:=hcells (by omega)
    have hcx:wr.cell? ⟨g,off+k,none⟩=some (.string l[k]):=(hbel.cell (p:=⟨g,off+k,none⟩) hg).trans (hcs k hkl)
    have hsnoc:=Lib.hid (RM.qyd l k hkl)
    have hHall:=Lib.hid hall
    have hHbld:=Lib.hid hbld
    have hlen31:(RM.qok (l.take k)).length<=31000:=by
     rw [RM.q5b (l.take k) (RM.jal _ (fun j hj=>by
      have hj':j<k/\j<l.length:=by simp at hj;omega
      rw [List.getElem_take];exact hall j hj'.2 hj'.1))]
     simp;omega
    have hbs:=hbel.size
    clear hall hbld
    by_cases h32:l[k].size=32
    ·have hx1:=Lib.hid (RM.js7 l[k] h32)
     have hex:Hid ((l[k].extract 1 32).size=31):=by apply Lib.hid;rw [ByteArray.size_extract];omega
     have h32i:(l[k].size:Int)=32:=by omega
     have hH32:=Lib.hid h32
     generalize hx:l[k]=x at *
     have HX:=Lib.hid hx;clear hx
     go_wp2_with fail
     refine (jhu w.heap.size w.heap.size (RM.qok (l.take k)) (x.extract 1 32) _ hHbld.out (by rw [hex.out];omega) hbs).mono ?_
     rintro e w2 ⟨rfl,hb2,hbel2⟩
     rw [hx1.out,<-hsnoc.out] at hb2
     have hbel3:=hbel.trans hbel2
     clear hbel hbel2 hx1 hex hsnoc
     have hHb2:=Lib.hid hb2;clear hb2
     go_wp2_with fail
     go_roundw
     case rel=>exact ⟨k+1,by omega,by go_num,hHb2.out,fun j hj hjk=>by
      by_cases e:j=k
      ·subst e;rw [HX.out];exact hH32.out
      ·exact hHall.out j hj (by omega),hbel3⟩
     case measure=>simp [intOf];omega
    ·have hno:=RM.qp3 l (n:Int) k hkl h32
     have HN:=Lib.hid hno
     have h32i : ¬ (l[k].size:Int)=32:=by omega
     generalize hx:l[k]=x at *
     clear hno h32 hx hsnoc
     go_wp2_with fail
     go_ret2
     exact ⟨by rw [RM.qb3 l _ HN.out,decide_eq_false HN.out];rfl,hbel⟩
   ·have hkk:k=l.length:=by omega
    subst hkk
    rw [List.take_length] at hbld
    have hA:=Lib.hid (RM.jal l (fun j hj=>hall j hj hj))
    have hlen:=RM.q5b l hA.out
    have hbs:=hbel.size
    have hHbld:=Lib.hid hbld
    clear hall hbld hnew
    go_wp2_with fail
    refine (Tryz.Builder_String_any w.heap.size w.heap.size (RM.qok l) _ hHbld.out hbs).mono ?_
    rintro e w2 ⟨rfl,hbel2⟩
    have hbel3:=hbel.trans hbel2
    have hn1:(n:Int)<=((RM.qok l).length:Int):=by omega
    clear hbel hbel2
    go_wp2_with fail
    have hE:(⟨(RM.qok l).toArray⟩:ByteArray).extract 0 n=RM.qbj l (n:Int):=RM.j4c (RM.qok l) n
    rw [hE]
    have hjs:Hid ((RM.qbj l (n:Int)).size<=maxLen):=by
     apply Lib.hid;unfold RM.qbj maxLen;rw [RM.q4v];simp;omega
    have hbs3:=hbel3.size
    have hSVl:RM.SV w (.slice a l.length cap) l:=⟨a,cap,rfl,hcells⟩
    have HSV:=Lib.hid hSVl;clear hSVl
    clear hE hn1
    generalize hP:RM.qbj l (n:Int)=p at *
    have HP:=Lib.hid hP;clear hP
    refine (jc2 p _ hjs.out).mono ?_
    rintro e w3 ⟨v3,rfl,hown3,hbel4⟩
    have hbel5:=hbel3.trans (hbel4.mono hbs3)
    have hSV3:=Lib.hid (RM.SV.of_owns (RM.q1k p).symm hown3)
    have hcl:=RM.q4q p
    clear hown3 hbel3 hbel4
    go_wp2_with fail
    refine (ju5 _ _ _ _ _ hSV3.out (HSV.out.below hbel5) (by rw [RM.q1k];omega) (by omega)).mono ?_
    rintro e w4 ⟨rfl,m,rfl⟩
    by_cases hcmp:RM.q59 p=l
    ·have hok:RM.q38 l (n:Int):=⟨HC.out,hA.out,by rw [HP.out];exact hcmp⟩
     have hd:decide (RM.q59 p=l)=true:=decide_eq_true hcmp
     rw [hd]
     clear hcmp hd
     have HOK:=Lib.hid hok;clear hok
     go_wp2_with fail
     go_ret2
     exact ⟨by rw [RM.qkq l _ HOK.out,decide_eq_true HOK.out,HP.out];rfl,Lib.q1t hbel5 _⟩
    ·have hok : ¬ RM.q38 l (n:Int):=fun x=>hcmp (by rw [<-HP.out];exact x.2.2)
     have hd:decide (RM.q59 p=l)=false:=decide_eq_false hcmp
     rw [hd]
     clear hcmp hd
     have HOK:=Lib.hid hok;clear hok
     go_wp2_with fail
     go_ret2
     exact ⟨by rw [RM.qb3 l _ HOK.out,decide_eq_false HOK.out];rfl,Lib.q1t hbel5 _⟩
 ·have hno : ¬ RM.q38 l size:=fun x=>hc x.1
  rw [RM.qb3 l size hno,decide_eq_false hno]
  clear hno
  go_enter Tryz.func145,Tryz.ntmps145
  go_wp2_with fail
  refine (qem _ _ hb).mono ?_;rintro e w' ⟨rfl,rfl⟩
  go_wp2_with fail
  go_ret2
  exact ⟨rfl,Below.refl _ _⟩
end RecW
end Go.Proofs.YthpgnliicpejoaaGreatDoor
namespace Go.Proofs.YthpgnliicpejoaaGreatDoor
open Go.RowKit
set_option linter.unusedVariables false
namespace DM
end DM
namespace DiskW
end DiskW
end Go.Proofs.YthpgnliicpejoaaGreatDoor
namespace Go.Proofs.YthpgnliicpejoaaGreatDoor
open Go.RowKit
namespace RecW
theorem jmq {w:World} {v:Value} {l:List ByteArray} {n:Nat} (hn:l.length=n) (h:RM.SV w v l) : ∃ a cap,v = .slice a n cap/\(0<n->∃ b off,a=some ⟨b,off,none⟩/\∀j (h:j<l.length),w.cell? ⟨b,off+j,none⟩=some (.string l[j])):=by
 subst hn
 obtain ⟨a,cap,h1,h2⟩:=h
 exact ⟨a,cap,h1,fun h0=>by obtain ⟨b,off,h3,_,h4⟩:=h2 h0;exact ⟨b,off,h3,h4⟩⟩
theorem jk8 {a b:List ByteArray} (hn:a.length=b.length) (h : ∀j (h1:j<a.length) (h2:j<b.length),a[j]=b[j]):a=b:=List.ext_getElem hn h
set_option maxHeartbeats 3200000 in
set_option maxRecDepth 100000 in
theorem jej (l:List ByteArray) (v:Value) (size:Int) (w:World) (hv:RM.SV w v l) (hl:l.length<=1000) (hb : -9223372036854775808<=size/\size<=9223372036854775807) :
  Calls Tryz.prog 129 #[v,.int .i64 size] w fun e w'=>e = .returned (.tuple #[.string (RM.qfj l size),.bool (decide (RM.q38 l size))])/\Below w.heap.size w w':=by
 obtain ⟨a,cap,rfl,hcells⟩:=hv
 by_cases hc:(l.length:Int)=RM.q0u size
 ·obtain ⟨h1,h2,h3,h4⟩:=RM.qj9 l.length size hc
  obtain ⟨n,rfl⟩ : ∃ n:Nat,size=n:=⟨size.toNat,by omega⟩
  have hcc:RM.q0u (n:Int)=(l.length:Int):=hc.symm
  have HC:=Lib.hid hc;clear hc
  go_enter Tryz.func129,Tryz.ntmps129
  go_wp2_with fail
  refine (qg3 _ _ (by omega)).mono ?_;rintro e w' ⟨rfl,rfl⟩
  go_wp2_with fail
  go_loop [6,7] (fun x i=>∃ k:Nat,k<=l.length/\i = .int .i64 k/\x = .string (RM.str (RM.qok (l.take k)))/\(∀j (h:j<l.length),j<k->l[j].size=32)) (fun _ i=>l.length - (intOf i).toNat)
  case atStart=>exact ⟨0,Nat.zero_le _,rfl,rfl,fun j _ h=>by omega⟩
  case round =>
   obtain ⟨k,hk,rfl,rfl,hall⟩:=hrel
   by_cases hkl:k<l.length
   ·obtain ⟨g,off,rfl,hg,hcs⟩:=hcells (by omega)
    have hcx:w.cell? ⟨g,off+k,none⟩=some (.string l[k]):=hcs k hkl
    clear hcs hcells
    have hsnoc:=Lib.hid (RM.qyd l k hkl)
    have hlen31:(RM.qok (l.take k)).length<=31000:=by
     rw [RM.q5b (l.take k) (RM.jal _ (fun j hj=>by
      have hj':j<k/\j<l.length:=by simp at hj;omega
      rw [List.getElem_take];exact hall j hj'.2 hj'.1))]
     simp;omega
    have hHall:=Lib.hid hall
    clear hall
    by_cases h32:l[k].size=32
    ·have hx1:=Lib.hid (RM.js7 l[k] h32)
     have hex:(l[k].extract 1 32).size=31:=by rw [ByteArray.size_extract];omega
     have h32i:(l[k].size:Int)=32:=by omega
     have hH32:=Lib.hid h32
     generalize hx:l[k]=x at *
     have HX:=Lib.hid hx;clear hx
     have hap:Hid (RM.str (RM.qok (l.take k))++x.extract 1 32=RM.str (RM.qok (l.take (k+1)))):=by
      apply Lib.hid
      apply ByteArray.ext
      rw [hsnoc.out,ByteArray.data_append,<-hx1.out]
      simp [RM.str]
     go_wp2_with fail
     go_round
     case rel=>exact ⟨k+1,by omega,by go_num,by rw [hap.out],fun j hj hjk=>by
      by_cases e:j=k
      ·subst e;rw [HX.out];exact hH32.out
      ·exact hHall.out j hj (by omega)⟩
     case measure=>simp [intOf];omega
    ·have hno:=RM.qp3 l (n:Int) k hkl h32
     have HN:=Lib.hid hno
     have h32i : ¬ (l[k].size:Int)=32:=by omega
     generalize hx:l[k]=x at *
     clear hno h32 hx hsnoc
     go_wp2_with fail
     go_ret2
     exact ⟨by rw [RM.qb3 l _ HN.out,decide_eq_false HN.out];rfl,Below.refl _ _⟩
   ·have hkk:k=l.length:=by omega
    subst hkk
    rw [List.take_length]
    have hA:=Lib.hid (RM.jal l (fun j hj=>hall j hj hj))
    have hlen:=RM.q5b l hA.out
    have hn1:(n:Int)<=((RM.qok l).length:Int):=by omega
    clear hall
    go_wp2_with fail
    have hE:(RM.str (RM.qok l)).extract 0 n=RM.qbj l (n:Int):=RM.j4c (RM.qok l) n
    rw [hE]
    have hjs:Hid ((RM.qbj l (n:Int)).size<=maxLen):=by
     apply Lib.hid;unfold RM.qbj maxLen;rw [RM.q4v];simp;omega
    have hSVl:RM.SV w (.slice a l.length cap) l:=⟨a,cap,rfl,hcells⟩
    have HSV:=Lib.hid hSVl;clear hSVl
    have hcn:=RM.jdl l n hA.out HC.out
    clear hE hn1 hcells
    generalize hP:RM.qbj l (n:Int)=p at *
    have HP:=Lib.hid hP;clear hP
    refine (jje p _ hjs.out).mono ?_
    rintro e w3 ⟨v3,rfl,hown3,hbel3⟩
    obtain ⟨a3,cap3,rfl,h3⟩:=jmq ((RM.q1k p).trans hcn) (RM.SV.of_owns (RM.q1k p).symm hown3)
    obtain ⟨a4,cap4,e4,h4'⟩:=jmq rfl (HSV.out.below hbel3)
    simp only [Value.slice.injEq] at e4
    obtain ⟨rfl,_,rfl⟩:=e4
    have HB3:=Lib.hid hbel3
    have Hcl:Hid ((RM.q59 p).length=l.length):=Lib.hid ((RM.q1k p).trans hcn)
    clear hown3 hbel3 hcn hlen
    go_wp2_with fail
    go_loopw [9] (fun i wr=>∃ k:Nat,k<=l.length/\i = .int .i64 k/\(∀j (h1:j<(RM.q59 p).length) (h2:j<l.length),j<k->(RM.q59 p)[j]=l[j])/\∃ m,wr=w3.drewN m) (fun i _=>l.length - (intOf i).toNat)
    case atStart=>exact ⟨0,Nat.zero_le _,rfl,fun j _ _ h=>by omega,0,rfl⟩
    case round =>
     obtain ⟨k,hk,rfl,hall,m,rfl⟩:=hrel
     have HALL:=Lib.hid hall;clear hall
     by_cases hkl:k<l.length
     ·obtain ⟨g3,o3,rfl,hc3⟩:=h3 (by omega)
      obtain ⟨g4,o4,rfl,hc4⟩:=h4' (by omega)
      have hkc:k<(RM.q59 p).length:=by rw [Hcl.out];exact hkl
      have x3:w3.cell? ⟨g3,o3+k,none⟩=some (.string (RM.q59 p)[k]):=hc3 k hkc
      have x4:w3.cell? ⟨g4,o4+k,none⟩=some (.string l[k]):=hc4 k hkl
      clear hc3 hc4 h3 h4'
      have hki:(k:Int)<(l.length:Int):=by omega
      have hk0:(0:Int)<=(k:Int):=by omega
      go_wp2
      go_quiet (fail)
      go_wp2
      ·have hne:(!(RM.q59 p)[k].toList==l[k].toList)=true:=by assumption
       have hok : ¬ RM.q38 l (n:Int):=fun x=>by
        have e:RM.q59 p=l:=by rw [<-HP.out];exact x.2.2
        have e2:(RM.q59 p)[k]=l[k]:=by simp only [e]
        rw [e2] at hne
        simp at hne
       have HOK:=Lib.hid hok
       go_ret2
       exact ⟨by rw [RM.qb3 l _ HOK.out,decide_eq_false HOK.out];rfl,Lib.q1t (Lib.q1t HB3.out _) _⟩
      ·have heq:(!(RM.q59 p)[k].toList==l[k].toList)=false:=by assumption
       have he:(RM.q59 p)[k]=l[k]:=RM.qkg (by simpa using heq)
       have HE:=Lib.hid he
       clear heq he x3 x4
       go_roundw
       case rel=>exact ⟨k+1,by omega,by go_num,fun j hj1 hj2 hjk=>by
        by_cases e:j=k
        ·subst e;exact HE.out
        ·exact HALL.out j hj1 hj2 (by omega),_,rfl⟩
       case measure=>simp [intOf];omega
     ·have hkk:k=l.length:=by omega
      subst hkk
      have hok:RM.q38 l (n:Int):=⟨HC.out,hA.out,by
       rw [HP.out]
       exact jk8 Hcl.out (fun j hj1 hj2=>HALL.out j hj1 hj2 hj2)⟩
      have HOK:=Lib.hid hok;clear hok
      clear h3 h4'
      go_wp2
      go_ret2
      exact ⟨by rw [RM.qkq l _ HOK.out,decide_eq_true HOK.out,HP.out];rfl,Lib.q1t HB3.out _⟩
 ·have hno : ¬ RM.q38 l size:=fun x=>hc x.1
  rw [RM.qb3 l size hno,decide_eq_false hno]
  clear hno
  go_enter Tryz.func129,Tryz.ntmps129
  go_wp2_with fail
  refine (qg3 _ _ hb).mono ?_;rintro e w' ⟨rfl,rfl⟩
  go_wp2_with fail
  go_ret2
  exact ⟨rfl,Below.refl _ _⟩
end RecW
end Go.Proofs.YthpgnliicpejoaaGreatDoor
namespace Go.Proofs.YthpgnliicpejoaaGreatDoor
open Go.RowKit
set_option linter.unusedVariables false
namespace DM
theorem WV.drewN {w:World} {v:Value} {l:List Wr} (h:WV w v l) (n:Nat):WV (w.drewN n) v l:=h
end DM
namespace DiskW
end DiskW
end Go.Proofs.YthpgnliicpejoaaGreatDoor
namespace Go.Proofs.YthpgnliicpejoaaGreatDoor
open Go.RowKit
set_option linter.unusedVariables false
namespace DiskW
end DiskW
end Go.Proofs.YthpgnliicpejoaaGreatDoor
namespace Go.Proofs.YthpgnliicpejoaaGreatDoor
open Go.RowKit
set_option linter.unusedVariables false
namespace DM
def qo7:ByteArray:=qop ⟨#[]⟩
def qxh (n:Int):Prop:=1<=n/\n<=512
instance (n:Int):Decidable (qxh n):=by unfold qxh;infer_instance
def jrm (n:Int):Dk:=if qxh n then ⟨List.replicate n.toNat qo7,[]⟩ else ⟨[],[]⟩
end DM
namespace DiskW
end DiskW
end Go.Proofs.YthpgnliicpejoaaGreatDoor
namespace Go.Proofs.YthpgnliicpejoaaGreatDoor
open Go.RowKit
set_option linter.unusedVariables false
namespace DiskW
def exZ:ByteArray:=⟨#[0,0,0,0,0,0,0,0,0,0,0,0,0,0,0,0,0,0,0,0,0,0,0,0,0,0,0,0,0,0,0,0]⟩
def exAB:ByteArray:=⟨#[97,98,0,0,0,0,0,0,0,0,0,0,0,0,0,0,0,0,0,0,0,0,0,0,0,0,0,0,0,0,0,0]⟩
def exCD:ByteArray:=⟨#[99,100,0,0,0,0,0,0,0,0,0,0,0,0,0,0,0,0,0,0,0,0,0,0,0,0,0,0,0,0,0,0]⟩
def ex33:ByteArray:=⟨#[49,50,51,52,53,54,55,56,57,48,49,50,51,52,53,54,55,56,57,48,49,50,51,52,53,54,55,56,57,48,49,50,51]⟩
def exD:DM.Dk:=⟨[exZ,exZ,exZ],[]⟩
def exA:DM.Dk:=⟨[exZ,exZ,exZ],[(1,exAB)]⟩
def exB:DM.Dk:=⟨[exZ,exZ,exZ],[(1,exAB),(1,exCD)]⟩
def exC:DM.Dk:=⟨[exZ,exAB,exZ],[]⟩
def exK:DM.Dk:=⟨[exZ,exCD,exZ],[]⟩
theorem e1:(⟨List.replicate 3 DM.qo7,[]⟩:DM.Dk)=exD:=by decide +kernel
theorem e2:DM.jaj exD 1 ⟨#[97,98]⟩=exA/\DM.jfs exD 1 ⟨#[97,98]⟩=0:=by decide +kernel
theorem e3:DM.jaj exA 1 ⟨#[99,100]⟩=exB/\DM.jfs exA 1 ⟨#[99,100]⟩=0:=by decide +kernel
theorem e4:DM.jaj exD 3 ⟨#[]⟩=exD/\DM.jfs exD 3 ⟨#[]⟩=1:=by decide +kernel
theorem e5:DM.jaj exD 0 ex33=exD/\DM.jfs exD 0 ex33=2:=by decide +kernel
theorem e6:DM.jai exB 1=exCD/\DM.jja exB 1=0:=by decide +kernel
theorem e7:DM.q3f (fun j=>[true].getD j false) exB=exC/\DM.qxa exB=0:=by decide +kernel
theorem e8:DM.jai exC 1=exAB/\DM.jja exC 1=0:=by decide +kernel
theorem e9:DM.q3f (fun _=>true) exB=exK:=by decide +kernel
end DiskW
end Go.Proofs.YthpgnliicpejoaaGreatDoor
namespace Go.Proofs.YthpgnliicpejoaaGreatDoor
open Go.RowKit
set_option linter.unusedVariables false
namespace DM
def qhq (d:Dk):Prop:=(d.secs.length<=600/\∀s∈d.secs,s.size<=100)/\(d.cache.length<=200/\∀p∈d.cache,p.2.size<=100)
instance (d:Dk):Decidable (qhq d):=by unfold qhq;infer_instance
end DM
namespace DiskW
set_option maxHeartbeats 3200000 in
set_option maxRecDepth 100000 in
theorem jhr (a1 a2:Option Addr) (n k1 m k2:Nat) (d:DM.Dk) (w:World) (h:DM.DV w (.slice a1 n k1) (.slice a2 m k2) d) (b1:n<=9223372036854775807) (b2:m<=9223372036854775807) :
  Calls Tryz.prog 8 #[.agg #[.slice a1 n k1,.slice a2 m k2]] w fun e w'=>e = .returned (.bool (decide (DM.qhq d)))/\Below w.heap.size w w':=by
 obtain ⟨hn,hm⟩:=DM.DV.len h
 have HN:=Lib.hid hn;clear hn
 have HM:=Lib.hid hm;clear hm
 have H:=Lib.hid h;clear h
 obtain ⟨z,hz⟩ : ∃ z,decide (DM.qhq d)=z:=⟨_,rfl⟩
 rw [hz]
 have HZ:=Lib.hid hz;clear hz
 go_enter Tryz.func8,Tryz.ntmps8
 go_wp2_with fail
 have HA:=Lib.hid (DM.Var.made w (.slice a1 n k1) (.slice a2 m k2) 25)
 have HB:Hid (Below w.heap.size w (w.alloc (.cells #[.slice a1 n k1,.slice a2 m k2] 25))):=Lib.hid ((Below.refl _ _).alloc (Nat.le_refl _) _)
 generalize hW0:w.alloc (.cells #[.slice a1 n k1,.slice a2 m k2] 25)=W0 at *
 clear hW0
 have c0:=HA.out.c0
 have c1:=HA.out.c1
 go_loop [3] (fun i=>∃ k:Nat,k<=n/\i = .int .i64 k/\(0<k->n<=600)/\∀j (h:j<d.secs.length),j<k->d.secs[j].size<=100) (fun i=>n - (intOf i).toNat)
 case atStart=>exact ⟨0,Nat.zero_le _,rfl,fun h=>by omega,fun j _ h=>by omega⟩
 case round =>
  obtain ⟨k,hk,rfl,hlen,hall⟩:=hrel
  have HALL:=Lib.hid hall;clear hall
  have HLEN:=Lib.hid hlen;clear hlen
  by_cases hkl:k<n
  ·have hkd:k<d.secs.length:=by rw [HN.out];exact hkl
   obtain ⟨a,c,hv,hc⟩:=(H.out.below HB.out).1
   obtain ⟨g,off,ha,hg,hcs⟩:=hc (by omega)
   simp only [Value.slice.injEq] at hv
   rw [ha] at hv
   obtain ⟨hv1,hv2,hv3⟩:=hv
   clear hv2 hv3 hc ha
   subst hv1
   have x4:W0.cell? ⟨g,off+k,none⟩=some (.string d.secs[k]):=hcs k hkd
   have hki:(k:Int)<(n:Int):=by omega
   clear hcs
   by_cases h1:(100:Int)<(d.secs[k].size:Int)
   ·have hno:z=false:=by rw [<-HZ.out];exact decide_eq_false fun x=>by have:=x.1.2 _ (List.getElem_mem hkd);omega
    subst hno
    generalize d.secs[k]=X at x4 h1
    go_wp2_with fail
    go_ret
    exact ⟨rfl,HB.out⟩
   ·by_cases h2:(600:Int)<(n:Int)
    ·have hno:z=false:=by rw [<-HZ.out];exact decide_eq_false fun x=>by have:=x.1.1;rw [HN.out] at this;omega
     subst hno
     generalize d.secs[k]=X at x4 h1
     go_wp2_with fail
     go_ret
     exact ⟨rfl,HB.out⟩
    ·have H1:Hid (d.secs[k].size<=100):=Lib.hid (by omega)
     generalize d.secs[k]=X at x4 h1
     go_wp2_with fail
     go_round
     case rel=>exact ⟨k+1,by omega,by go_num,fun _=>by omega,fun j hj hjk=>by
      by_cases e:j=k
      ·subst e;exact H1.out
      ·exact HALL.out j hj (by omega)⟩
     case measure=>simp [intOf];omega
  ·have hkk:k=n:=by omega
   subst hkk
   have HS:Hid (d.secs.length<=600/\∀s∈d.secs,s.size<=100):=Lib.hid ⟨by have:=HN.out;have:=HLEN.out;omega,fun s hs=>by
    obtain ⟨j,hj,rfl⟩:=List.getElem_of_mem hs
    exact HALL.out j hj (by rw [<-HN.out];exact hj)⟩
   clear HALL HLEN
   go_wp2_with fail
   go_loop [4] (fun i=>∃ q:Nat,q<=m/\i = .int .i64 q/\(0<q->m<=200)/\∀j (h:j<d.cache.length),j<q->d.cache[j].2.size<=100) (fun i=>m - (intOf i).toNat)
   case atStart=>exact ⟨0,Nat.zero_le _,rfl,fun h=>by omega,fun j _ h=>by omega⟩
   case round =>
    obtain ⟨q,hq,rfl,hlen,hall⟩:=hrel
    have HALL:=Lib.hid hall;clear hall
    have HLEN:=Lib.hid hlen;clear hlen
    by_cases hql:q<m
    ·have hqd:q<d.cache.length:=by rw [HM.out];exact hql
     obtain ⟨a,c,hv,hc⟩:=(H.out.below HB.out).2
     obtain ⟨g,off,ha,hg,hcs⟩:=hc (by omega)
     simp only [Value.slice.injEq] at hv
     rw [ha] at hv
     obtain ⟨hv1,hv2,hv3⟩:=hv
     clear hv2 hv3 hc ha
     subst hv1
     have x4:W0.cell? ⟨g,off+q*2+1,none⟩=some (.string d.cache[q].2):=(hcs q hqd).2
     have hqi:(q:Int)<(m:Int):=by omega
     clear hcs
     by_cases h1:(100:Int)<(d.cache[q].2.size:Int)
     ·have hno:z=false:=by rw [<-HZ.out];exact decide_eq_false fun x=>by have:=x.2.2 _ (List.getElem_mem hqd);omega
      subst hno
      generalize d.cache[q].2=X at x4 h1
      go_wp2_with fail
      go_ret
      exact ⟨rfl,HB.out⟩
     ·by_cases h2:(200:Int)<(m:Int)
      ·have hno:z=false:=by rw [<-HZ.out];exact decide_eq_false fun x=>by have:=x.2.1;rw [HM.out] at this;omega
       subst hno
       generalize d.cache[q].2=X at x4 h1
       go_wp2_with fail
       go_ret
       exact ⟨rfl,HB.out⟩
      ·have H1:Hid (d.cache[q].2.size<=100):=Lib.hid (by omega)
       generalize d.cache[q].2=X at x4 h1
       go_wp2_with fail
       go_round
       case rel=>exact ⟨q+1,by omega,by go_num,fun _=>by omega,fun j hj hjk=>by
        by_cases e:j=q
        ·subst e;exact H1.out
        ·exact HALL.out j hj (by omega)⟩
       case measure=>simp [intOf];omega
    ·have hqq:q=m:=by omega
     subst hqq
     have hyes:z=true:=by
      rw [<-HZ.out]
      refine decide_eq_true ⟨HS.out,by have:=HM.out;have:=HLEN.out;omega,fun p hp=>?_⟩
      obtain ⟨j,hj,rfl⟩:=List.getElem_of_mem hp
      exact HALL.out j hj (by rw [<-HM.out];exact hj)
     subst hyes
     go_wp2_with fail
     go_ret
     exact ⟨rfl,HB.out⟩
end DiskW
end Go.Proofs.YthpgnliicpejoaaGreatDoor
namespace Go.Proofs.YthpgnliicpejoaaGreatDoor
open Go.RowKit
set_option linter.unusedVariables false
namespace DiskW
end DiskW
end Go.Proofs.YthpgnliicpejoaaGreatDoor
