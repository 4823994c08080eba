
import Derived.Test.YthpgnliicpejoaaGreatDoorVp8
import Derived.Test.YthpgnliicpejoaaGreatDoorVp5
import Derived.Deep.QuietTactic
import Derived.BigQuiet
import Derived.Laws.StructEq
import Derived.Laws.MakeOwn
import Derived.Deep.RegionLaw
namespace Go.Proofs.YthpgnliicpejoaaGreatDoor
open Go.RowKit
namespace RecW
theorem j3y (B b:Nat) (l:List UInt8) (s:ByteArray) (w:World) (h:Go.Lib.IsBuilder 132 5 B b (Go.Lib.byteCells l) w) (hlen:l.length+s.size<=140737488355328) (hBw:B<=w.heap.size) :
  Calls Tryz.prog 72 #[.pointer (some ⟨b,0,none⟩),.string s] w fun e w'=>e = .returned (.tuple #[.int .i64 s.size,.nilIface])/\Go.Lib.IsBuilder 132 5 B b (Go.Lib.byteCells (l++s.data.toList)) w'/\Below B w w':=by
 refine Calls.mono (Any.Builder_WriteString (ρ:=Tryz.lays105_ren) { Tryz.lays105 with } Tryz.Builder_Extra_105 B b (Go.Lib.byteCells l) s w h (by rw [Go.Lib.byteCells_length];exact hlen) hBw) ?_
 rintro e w' ⟨he,h1,h2⟩
 refine ⟨he,.inr ?_,h2⟩
 rw [Go.Lib.byteCells_append,<-Go.Lib.strCells_eq]
 exact h1
theorem jj0 (w:World) (v1 v2:Value) (xs ys:List ByteArray) (h1:RM.SV w v1 xs) (h2:RM.SV w v2 ys) (b1:xs.length<=9223372036854775807) (b2:ys.length<=9223372036854775807) :
  Calls Tryz.prog 159 #[v1,v2] w fun e w'=>e = .returned (.bool (decide (xs=ys)))/\∃ q,w'=w.drewN q:=by
 obtain ⟨a1,c1,rfl,h1⟩:=h1
 obtain ⟨a2,c2,rfl,h2⟩:=h2
 by_cases hn:xs.length=ys.length
 ·by_cases h0:xs.length=0
  ·have e1:xs = []:=List.length_eq_zero_iff.1 h0
   have e2:ys = []:=List.length_eq_zero_iff.1 (by omega)
   subst e1 e2
   refine (Tryz.slices_Equal_string_empty a1 a2 c1 0 c2 w (by omega)).mono ?_
   rintro e w' ⟨rfl,rfl⟩
   exact ⟨rfl,0,rfl⟩
  ·obtain ⟨g1,o1,rfl,_,k1⟩:=h1 (by omega)
   obtain ⟨g2,o2,rfl,_,k2⟩:=h2 (by omega)
   refine (Tryz.slices_Equal_string g1 o1 xs.length c1 g2 o2 ys.length c2 xs ys w (Nat.le_refl _) (Nat.le_refl _) b1 b2 (fun j hj=>by rw [k1 j hj];simp [List.getD,hj]) (fun j hj=>by rw [k2 j hj];simp [List.getD,hj])).mono ?_
   rintro e w' ⟨rfl,q,rfl⟩
   exact ⟨by rw [List.take_length,List.take_length],q,rfl⟩
 ·refine (Tryz.slices_Equal_string_lens a1 a2 xs.length c1 ys.length c2 w hn).mono ?_
  rintro e w' ⟨rfl,rfl⟩
  exact ⟨by rw [decide_eq_false (by rintro rfl;exact hn rfl)],0,rfl⟩
set_option maxHeartbeats 3200000 in
set_option maxRecDepth 100000 in
theorem j9q (l:List ByteArray) (v:Value) (size:Int) (w:World) (hv:RM.SV w v l) (hl:l.length<=1000) (hb : -9223372036854775808<=size/\size<=9223372036854775807) :
  Calls Tryz.prog 145 #[v,.int .i64 size] w fun e w'=>e = .returned (.tuple #[.string (RM.qid l size),.bool (decide (RM.q4f l size))])/\Below w.heap.size w w':=by
 obtain ⟨a,cap,rfl,hcells⟩:=hv
 by_cases hc:(l.length:Int)=RM.q0v size
 ·obtain ⟨h1,h2,h3,h4⟩:=RM.qxs l.length size hc
  obtain ⟨n,rfl⟩ : ∃ n:Nat,size=n:=⟨size.toNat,by omega⟩
  have hcc:RM.q0v (n:Int)=(l.length:Int):=hc.symm
  have HC:=Lib.hid hc;clear hc
  have hJ:Hid (RM.qd9 l (n:Int)=RM.str ((RM.qng l).take n)):=Lib.hid rfl
  go_enter Tryz.func145,Tryz.ntmps145
  go_wp2_with fail
  refine (qcb _ _ (by omega)).mono ?_;rintro e w' ⟨rfl,rfl⟩
  go_wp2_with fail
  have hnew:=Go.Lib.fresh_isBuilder 132 5 w
  go_loopw [17] (fun i wr=>∃ k:Nat,k<=l.length/\i = .int .i64 k/\Go.Lib.IsBuilder 132 5 w.heap.size w.heap.size (Go.Lib.byteCells (RM.qng (l.take k))) wr/\(∀j (h:j<l.length),j<k->l[j].size=32)/\Below w.heap.size w wr) (fun i _=>l.length - (intOf i).toNat)
  case atStart=>exact ⟨0,Nat.zero_le _,rfl,hnew,fun j _ h=>by omega,(Below.refl _ _).alloc (Nat.le_refl _) _⟩
  case round =>
   obtain ⟨k,hk,rfl,hbld,hall,hbel⟩:=hrel
   by_cases hkl:k<l.length
   ·obtain ⟨g,off,rfl,hg,hcs⟩:=hcells (by omega)
    have hcx:wr.cell? ⟨g,off+k,none⟩=some (.string l[k]):=(hbel.cell (p:=⟨g,off+k,none⟩) hg).trans (hcs k hkl)
    have hsnoc:=Lib.hid (RM.j9c l k hkl)
    have hHall:=Lib.hid hall
    have hHbld:=Lib.hid hbld
    have hlen31:(RM.qng (l.take k)).length<=31000:=by
     rw [RM.q7g (l.take k) (RM.jgd _ (fun j hj=>by
      have hj':j<k/\j<l.length:=by simp at hj;omega
      rw [List.getElem_take];exact hall j hj'.2 hj'.1))]
     simp;omega
    have hbs:=hbel.size
    clear hall hbld
    by_cases h32:l[k].size=32
    ·have hx1:=Lib.hid (RM.tail1 l[k] h32)
     have hex:Hid ((l[k].extract 1 32).size=31):=by apply Lib.hid;rw [ByteArray.size_extract];omega
     have h32i:(l[k].size:Int)=32:=by omega
     have hH32:=Lib.hid h32
     generalize hx:l[k]=x at *
     have HX:=Lib.hid hx;clear hx
     go_wp2_with fail
     refine (j3y w.heap.size w.heap.size (RM.qng (l.take k)) (x.extract 1 32) _ hHbld.out (by rw [hex.out];omega) hbs).mono ?_
     rintro e w2 ⟨rfl,hb2,hbel2⟩
     rw [hx1.out,<-hsnoc.out] at hb2
     have hbel3:=hbel.trans hbel2
     clear hbel hbel2 hx1 hex hsnoc
     have hHb2:=Lib.hid hb2;clear hb2
     go_wp2_with fail
     go_roundw
     case rel=>exact ⟨k+1,by omega,by go_num,hHb2.out,fun j hj hjk=>by
      by_cases e:j=k
      ·subst e;rw [HX.out];exact hH32.out
      ·exact hHall.out j hj (by omega),hbel3⟩
     case measure=>simp [intOf];omega
    ·have hno:=RM.j09 l (n:Int) k hkl h32
     have HN:=Lib.hid hno
     have h32i : ¬ (l[k].size:Int)=32:=by omega
     generalize hx:l[k]=x at *
     clear hno h32 hx hsnoc
     go_wp2_with fail
     go_ret2
     exact ⟨by rw [RM.qp6 l _ HN.out,decide_eq_false HN.out];rfl,hbel⟩
   ·have hkk:k=l.length:=by omega
    subst hkk
    rw [List.take_length] at hbld
    have hA:=Lib.hid (RM.jgd l (fun j hj=>hall j hj hj))
    have hlen:=RM.q7g l hA.out
    have hbs:=hbel.size
    have hHbld:=Lib.hid hbld
    clear hall hbld hnew
    go_wp2_with fail
    refine (Tryz.Builder_String_any w.heap.size w.heap.size (RM.qng l) _ hHbld.out hbs).mono ?_
    rintro e w2 ⟨rfl,hbel2⟩
    have hbel3:=hbel.trans hbel2
    have hn1:(n:Int)<=((RM.qng l).length:Int):=by omega
    clear hbel hbel2
    go_wp2_with fail
    have hE:(⟨(RM.qng l).toArray⟩:ByteArray).extract 0 n=RM.qd9 l (n:Int):=RM.jb9 (RM.qng l) n
    rw [hE]
    have hjs:Hid ((RM.qd9 l (n:Int)).size<=maxLen):=by
     apply Lib.hid;unfold RM.qd9 maxLen;rw [RM.q4m];simp;omega
    have hbs3:=hbel3.size
    have hSVl:RM.SV w (.slice a l.length cap) l:=⟨a,cap,rfl,hcells⟩
    have HSV:=Lib.hid hSVl;clear hSVl
    clear hE hn1
    generalize hP:RM.qd9 l (n:Int)=p at *
    have HP:=Lib.hid hP;clear hP
    refine (j98 p _ hjs.out).mono ?_
    rintro e w3 ⟨v3,rfl,hown3,hbel4⟩
    have hbel5:=hbel3.trans (hbel4.mono hbs3)
    have hSV3:=Lib.hid (RM.SV.of_owns (RM.q2y p).symm hown3)
    have hcl:=RM.qab p
    clear hown3 hbel3 hbel4
    go_wp2_with fail
    refine (jj0 _ _ _ _ _ hSV3.out (HSV.out.below hbel5) (by rw [RM.q2y];omega) (by omega)).mono ?_
    rintro e w4 ⟨rfl,m,rfl⟩
    by_cases hcmp:RM.qew p=l
    ·have hok:RM.q4f l (n:Int):=⟨HC.out,hA.out,by rw [HP.out];exact hcmp⟩
     have hd:decide (RM.qew p=l)=true:=decide_eq_true hcmp
     rw [hd]
     clear hcmp hd
     have HOK:=Lib.hid hok;clear hok
     go_wp2_with fail
     go_ret2
     exact ⟨by rw [RM.qia l _ HOK.out,decide_eq_true HOK.out,HP.out];rfl,Lib.q2g hbel5 _⟩
    ·have hok : ¬ RM.q4f l (n:Int):=fun x=>hcmp (by rw [<-HP.out];exact x.2.2)
     have hd:decide (RM.qew p=l)=false:=decide_eq_false hcmp
     rw [hd]
     clear hcmp hd
     have HOK:=Lib.hid hok;clear hok
     go_wp2_with fail
     go_ret2
     exact ⟨by rw [RM.qp6 l _ HOK.out,decide_eq_false HOK.out];rfl,Lib.q2g hbel5 _⟩
 ·have hno : ¬ RM.q4f l size:=fun x=>hc x.1
  rw [RM.qp6 l size hno,decide_eq_false hno]
  clear hno
  go_enter Tryz.func145,Tryz.ntmps145
  go_wp2_with fail
  refine (qcb _ _ hb).mono ?_;rintro e w' ⟨rfl,rfl⟩
  go_wp2_with fail
  go_ret2
  exact ⟨rfl,Below.refl _ _⟩
end RecW
end Go.Proofs.YthpgnliicpejoaaGreatDoor
namespace Go.Proofs.YthpgnliicpejoaaGreatDoor
open Go.RowKit
set_option linter.unusedVariables false
namespace DM
end DM
namespace DiskW
end DiskW
end Go.Proofs.YthpgnliicpejoaaGreatDoor
namespace Go.Proofs.YthpgnliicpejoaaGreatDoor
open Go.RowKit
namespace RecW
end RecW
end Go.Proofs.YthpgnliicpejoaaGreatDoor
namespace Go.Proofs.YthpgnliicpejoaaGreatDoor
open Go.RowKit
set_option linter.unusedVariables false
namespace DM
theorem WV.drewN {w:World} {v:Value} {l:List Wr} (h:WV w v l) (n:Nat):WV (w.drewN n) v l:=h
end DM
namespace DiskW
end DiskW
end Go.Proofs.YthpgnliicpejoaaGreatDoor
namespace Go.Proofs.YthpgnliicpejoaaGreatDoor
open Go.RowKit
set_option linter.unusedVariables false
namespace DiskW
end DiskW
end Go.Proofs.YthpgnliicpejoaaGreatDoor
namespace Go.Proofs.YthpgnliicpejoaaGreatDoor
open Go.RowKit
set_option linter.unusedVariables false
namespace DM
def q2j:ByteArray:=q5b ⟨#[]⟩
def qbn (n:Int):Prop:=1<=n/\n<=512
instance (n:Int):Decidable (qbn n):=by unfold qbn;infer_instance
def j8l (n:Int):Dk:=if qbn n then ⟨List.replicate n.toNat q2j,[]⟩ else ⟨[],[]⟩
def j2v (n q:Nat):List ByteArray:=List.replicate q q2j++List.replicate (n - q) ⟨#[]⟩
theorem qii (n q:Nat) (h:q<=n):(j2v n q).length=n:=by unfold j2v;simp;omega
theorem jc2 (n q:Nat) (h:q<n):(j2v n q).set q q2j=j2v n (q+1):=by
 unfold j2v
 rw [List.set_append_right _ _ (by simp),List.length_replicate,Nat.sub_self,show n - q=(n - (q+1))+1 from by omega,List.replicate_succ,List.set_cons_zero,List.replicate_succ',List.append_assoc]
 rfl
theorem jc9 (n:Nat):j2v n n=List.replicate n q2j:=by unfold j2v;simp
end DM
namespace DiskW
set_option maxHeartbeats 1600000 in
set_option maxRecDepth 100000 in
theorem jkp (n:Int) (w:World) (h : ¬ DM.qbn n) :
  Calls Tryz.prog 47 #[.int .i64 n] w fun e w'=>e = .returned (.tuple #[.agg #[.slice none 0 0,.slice none 0 0],.bool false])/\Below w.heap.size w w':=by
 have hc:n<1\/(¬ n<1/\512<n):=by unfold DM.qbn at h;omega
 clear h
 rcases hc with h|⟨h,h2⟩
 all_goals
  go_enter Tryz.func47,Tryz.ntmps47
  go_wp2_with fail
  refine bodyPost_ret (q1s rfl _ _ w.heap.size none none 0 0 0 0 rfl (by go_simp) (by go_simp)) rfl ⟨rfl,?_⟩
  repeat' first|(with_reducible exact Below.refl _ _)|(with_reducible refine Below.alloc ?_ ?_ _)|(with_reducible refine Below.setCell ?_ ?_ _)|omega|(simp<;>omega)
end DiskW
end Go.Proofs.YthpgnliicpejoaaGreatDoor
namespace Go.Proofs.YthpgnliicpejoaaGreatDoor
open Go.RowKit
set_option linter.unusedVariables false
namespace DiskW
def exZ:ByteArray:=⟨#[0,0,0,0,0,0,0,0,0,0,0,0,0,0,0,0,0,0,0,0,0,0,0,0,0,0,0,0,0,0,0,0]⟩
def exAB:ByteArray:=⟨#[97,98,0,0,0,0,0,0,0,0,0,0,0,0,0,0,0,0,0,0,0,0,0,0,0,0,0,0,0,0,0,0]⟩
def exCD:ByteArray:=⟨#[99,100,0,0,0,0,0,0,0,0,0,0,0,0,0,0,0,0,0,0,0,0,0,0,0,0,0,0,0,0,0,0]⟩
def ex33:ByteArray:=⟨#[49,50,51,52,53,54,55,56,57,48,49,50,51,52,53,54,55,56,57,48,49,50,51,52,53,54,55,56,57,48,49,50,51]⟩
def exD:DM.Dk:=⟨[exZ,exZ,exZ],[]⟩
def exA:DM.Dk:=⟨[exZ,exZ,exZ],[(1,exAB)]⟩
def exB:DM.Dk:=⟨[exZ,exZ,exZ],[(1,exAB),(1,exCD)]⟩
theorem e1:(⟨List.replicate 3 DM.q2j,[]⟩:DM.Dk)=exD:=by decide +kernel
theorem e2:DM.j30 exD 1 ⟨#[97,98]⟩=exA/\DM.j37 exD 1 ⟨#[97,98]⟩=0:=by decide +kernel
theorem e3:DM.j30 exA 1 ⟨#[99,100]⟩=exB/\DM.j37 exA 1 ⟨#[99,100]⟩=0:=by decide +kernel
theorem e4:DM.j30 exD 3 ⟨#[]⟩=exD/\DM.j37 exD 3 ⟨#[]⟩=1:=by decide +kernel
theorem e5:DM.j30 exD 0 ex33=exD/\DM.j37 exD 0 ex33=2:=by decide +kernel
theorem e6:DM.getB exB 1=exCD/\DM.getE exB 1=0:=by decide +kernel
end DiskW
end Go.Proofs.YthpgnliicpejoaaGreatDoor
namespace Go.Proofs.YthpgnliicpejoaaGreatDoor
open Go.RowKit
set_option linter.unusedVariables false
namespace DM
def jdy (d:Dk):Prop:=(d.secs.length<=600/\∀s∈d.secs,s.size<=100)/\(d.cache.length<=200/\∀p∈d.cache,p.2.size<=100)
instance (d:Dk):Decidable (jdy d):=by unfold jdy;infer_instance
end DM
namespace DiskW
end DiskW
end Go.Proofs.YthpgnliicpejoaaGreatDoor
namespace Go.Proofs.YthpgnliicpejoaaGreatDoor
open Go.RowKit
set_option linter.unusedVariables false
namespace DiskW
end DiskW
end Go.Proofs.YthpgnliicpejoaaGreatDoor
