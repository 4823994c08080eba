
import Derived.Test.YthpgnliicpejoaaGreatDoorVt7
import Derived.Test.YthpgnliicpejoaaGreatDoorVt5
import Derived.Test.YthpgnliicpejoaaGreatDoorVt6
import Derived.Deep.RegionHeld3
import Derived.Deep.AppendLies
namespace Go.Proofs.YthpgnliicpejoaaGreatDoor
open Go.RowKit
namespace Lib
theorem j7j {w w':World} {base:Nat} {e:TypeId} {size:Nat} {v:Value} {n:Nat} {xs:List Value} (h:w.ownsRow base e size v n xs) (hb:Below w.heap.size w w'):w'.ownsRow base e size v n xs:=by
 obtain ⟨h0,h1⟩:=h
 refine ⟨h0,?_⟩
 rcases h1 with h1|⟨g,cap,cur,h1,h2,h3,h4⟩
 ·exact .inl h1
 ·exact .inr ⟨g,cap,cur,h1,h2,(hb.block g (Array.getElem?_eq_some_iff.1 h3).1).trans h3,h4⟩
theorem qy9 {w:World} {base base':Nat} {e:TypeId} {size:Nat} {v:Value} {n:Nat} {xs:List Value} (h:w.ownsRow base e size v n xs) (hb:base'<=base):w.ownsRow base' e size v n xs:=by
 obtain ⟨h0,h1⟩:=h
 refine ⟨h0,?_⟩
 rcases h1 with h1|⟨g,cap,cur,h1,h2,h3⟩
 ·exact .inl h1
 ·exact .inr ⟨g,cap,cur,h1,Nat.le_trans hb h2,h3⟩
end Lib
namespace RecW
theorem j6c:(Tryz.prog.info? 9).map (fun i=>(i.zero,i.size,i.bytes))=some (some (.string ⟨#[]⟩),1,16):=by kernel_rfl
set_option maxHeartbeats 3200000 in
set_option maxRecDepth 100000 in
theorem jc2 (s:ByteArray) (w:World) (hs:s.size<=maxLen) :
  Calls Tryz.prog 79 #[.string s] w fun e w'=>∃ v,e = .returned v/\w'.ownsRow w.heap.size 9 1 v (RM.q2l s) ((RM.q59 s).map Value.string)/\Below w.heap.size w w':=by
 obtain ⟨i0,hi,hz0,hz1,hz2⟩:=info_parts j6c
 unfold maxLen at hs
 have hC:=Lib.hid (RM.j7n s)
 have hle:=RM.q4q s
 go_enter Tryz.func79,Tryz.ntmps79
 go_wp2_with fail
 refine (qem _ _ (by omega)).mono ?_;rintro e w' ⟨rfl,rfl⟩
 go_wp2_with fail
 rw [hC.out]
 go_loopw [3,10] (fun v i wr=>∃ k:Nat,k<=RM.q2l s/\i = .int .i64 k/\wr.ownsRow w.heap.size 9 1 v k (RM.jrh s k)/\Below w.heap.size w wr) (fun _ i _=>RM.q2l s - (intOf i).toNat)
 case atStart=>exact ⟨0,Nat.zero_le _,rfl,World.ownsRow_nil _ _ _ _,Below.refl _ _⟩
 case round =>
  obtain ⟨k,hk,rfl,hown,hbel⟩:=hrel
  by_cases hlt:k<RM.q2l s
  ·have hin:=RM.jct s k hlt
   obtain ⟨hin1,hin2⟩:=hin
   have hsz:=hbel.size
   have hlt':(k:Int)<(RM.q2l s:Int):=by omega
   obtain ⟨b0,hb0⟩ : ∃ b0,b0=31*k:=⟨_,rfl⟩
   obtain ⟨e0,he0⟩ : ∃ e0,e0=min (31*k+31) s.size:=⟨_,rfl⟩
   have he1:b0<=e0:=by omega
   have he2:e0<=s.size:=by omega
   have hmin:min (((k:Int)+1)*31) (s.size:Int)=(e0:Int):=by omega
   have hmul:(k:Int)*31=(b0:Int):=by omega
   have hfs:Hid (((⟨#[68]⟩:ByteArray)++s.extract b0 e0).size<=32):=by
    apply Lib.hid;rw [ByteArray.size_append,ByteArray.size_extract];show 1+_<=32;omega
   have hsec:=Lib.hid (RM.jmv s k e0 he0)
   have hsec2:Hid (RM.str (RM.q6v (((⟨#[68]⟩:ByteArray)++s.extract b0 e0).data.toList))=RM.sec s k):=by
    apply Lib.hid;rw [hb0];exact hsec.out
   have hel:e0 - b0<=31:=by omega
   have HE:=Lib.hid he0;clear he0
   have HB:=Lib.hid hb0;clear hb0
   go_wp2_with fail
   refine (q60 _ _ hfs.out).mono ?_;rintro e w2 ⟨rfl,hb2⟩
   rw [hsec2.out]
   have hown2:=Lib.j7j hown hb2
   have hbel2:Below w.heap.size w w2:=hbel.trans (hb2.mono hsz)
   have hsz2:=hbel2.size
   clear hown hbel hb2
   go_wp2_with (at_builtin;refine wpList_append_own _ rfl _ _ 22 rfl w.heap.size 9 i0 (.string ⟨#[]⟩) 1 16 Tryz.underlying22 hi hz0 hz1 hz2 rfl (by decide) _ _ _ rfl (hown2.alloc _) ⟨w2.heap.size,0,none⟩ 1 1 [.string (RM.sec s k)] rfl ?c0 ?c1 ?c2 ?c3 ?c4 ?c5 ?_)
   case c0=>rfl
   case c1=>intro j u hj;exact World.news_of_block (heap_alloc_new w2 _) j u hj
   case c2=>intro u hu;simp at hu;subst hu;rfl
   case c3=>unfold maxLen;omega
   case c4=>omega
   case c5=>simp;omega
   intro v' w3 hown' hgrow _
   have hbel':Below w.heap.size w w3:=(hbel2.alloc hsz2 _).grown hgrow (by simp;omega) (fun j hj=>(hown2.lt j hj).1)
   rw [RM.qzb] at hown'
   clear hgrow hown2 hbel2 hsec hsec2 hfs HE HB
   go_wp2
   go_roundw
   case rel=>exact ⟨k+1,by omega,by go_num,hown',hbel'⟩
   case measure=>simp [intOf];omega
  ·have hkk:k=RM.q2l s:=by omega
   subst hkk
   go_wp2
   go_ret
   rw [<-RM.qtq]
   exact ⟨_,rfl,hown,hbel⟩
set_option maxHeartbeats 3200000 in
set_option maxRecDepth 100000 in
theorem jje (s:ByteArray) (w:World) (hs:s.size<=maxLen) :
  Calls Tryz.prog 82 #[.string s] w fun e w'=>∃ v,e = .returned v/\w'.ownsRow w.heap.size 9 1 v (RM.q2l s) ((RM.q59 s).map Value.string)/\Below w.heap.size w w':=by
 obtain ⟨i0,hi,hz0,hz1,hz2⟩:=info_parts j6c
 unfold maxLen at hs
 have hout:=RM.jkv s
 have hbig:=RM.jkt s
 have hle:=RM.q4q s
 go_enter Tryz.func82,Tryz.ntmps82
 go_wp2
 go_loopw [3,4] (fun v i wr=>∃ k:Nat,k<=RM.q2l s/\i = .int .i64 ((31*k:Nat):Int)/\wr.ownsRow w.heap.size 9 1 v k (RM.jrh s k)/\Below w.heap.size w wr) (fun _ i _=>31*RM.q2l s - (intOf i).toNat)
 case atStart=>exact ⟨0,Nat.zero_le _,rfl,World.ownsRow_nil _ _ _ _,Below.refl _ _⟩
 case round =>
  obtain ⟨k,hk,rfl,hown,hbel⟩:=hrel
  by_cases hlt:k<RM.q2l s
  ·have hin:=RM.jct s k hlt
   obtain ⟨hin1,hin2⟩:=hin
   have hsz:=hbel.size
   obtain ⟨b0,hb0⟩ : ∃ b0,b0=31*k:=⟨_,rfl⟩
   obtain ⟨e0,he0⟩ : ∃ e0,e0=min (31*k+31) s.size:=⟨_,rfl⟩
   have he1:b0<=e0:=by omega
   have he2:e0<=s.size:=by omega
   have hb1:(b0:Int)<(s.size:Int):=by omega
   have hb2:(s.size:Int)<=4096:=by omega
   have hmin:min ((b0:Int)+31) (s.size:Int)=(e0:Int):=by omega
   have hbk:Hid (b0+31=31*(k+1)):=by apply Lib.hid;omega
   rw [<-hb0]
   have hfs:Hid (((⟨#[68]⟩:ByteArray)++s.extract b0 e0).size<=32):=by
    apply Lib.hid;rw [ByteArray.size_append,ByteArray.size_extract];show 1+_<=32;omega
   have hsec:=Lib.hid (RM.jmv s k e0 he0)
   have hsec2:Hid (RM.str (RM.q6v (((⟨#[68]⟩:ByteArray)++s.extract b0 e0).data.toList))=RM.sec s k):=by
    apply Lib.hid;rw [hb0];exact hsec.out
   have hel:e0 - b0<=31:=by omega
   have HE:=Lib.hid he0;clear he0
   have HB:=Lib.hid hb0;clear hb0
   go_wp2_with fail
   refine (jet _ _ hfs.out).mono ?_;rintro e wr ⟨rfl,rfl⟩
   rw [hsec2.out]
   have hown2:=hown
   have hbel2:=hbel
   have hsz2:=hsz
   clear hown hbel
   go_wp2_with (at_builtin;refine wpList_append_own _ rfl _ _ 22 rfl w.heap.size 9 i0 (.string ⟨#[]⟩) 1 16 Tryz.underlying22 hi hz0 hz1 hz2 rfl (by decide) _ _ _ rfl (hown2.alloc _) ⟨wr.heap.size,0,none⟩ 1 1 [.string (RM.sec s k)] rfl ?c0 ?c1 ?c2 ?c3 ?c4 ?c5 ?_)
   case c0=>rfl
   case c1=>intro j u hj;exact World.news_of_block (heap_alloc_new wr _) j u hj
   case c2=>intro u hu;simp at hu;subst hu;rfl
   case c3=>unfold maxLen;omega
   case c4=>omega
   case c5=>simp;omega
   intro v' w3 hown' hgrow _
   have hbel':Below w.heap.size w w3:=(hbel2.alloc hsz2 _).grown hgrow (by simp;omega) (fun j hj=>(hown2.lt j hj).1)
   rw [RM.qzb] at hown'
   clear hgrow hown2 hbel2 hsec hsec2 hfs HE
   go_wp2
   go_roundw
   case rel=>exact ⟨k+1,by omega,by rw [<-hbk.out];go_num,hown',hbel'⟩
   case measure=>have:=hbk.out;have:=HB.out;simp [intOf];omega
  ·have hkk:k=RM.q2l s:=by omega
   subst hkk
   rcases hout with h4|⟨h4,h5⟩
   ·have h6:(4096:Int)<(s.size:Int):=by omega
    have h7:(((31*RM.q2l s:Nat):Int)<(s.size:Int)):=by rw [hbig h4];omega
    clear hbig
    generalize 31*RM.q2l s=X at *
    go_wp2
    go_ret
    rw [<-RM.qtq]
    exact ⟨_,rfl,hown,hbel⟩
   clear hbig
   have h6 : ¬ (((31*RM.q2l s:Nat):Int)<(s.size:Int)):=by omega
   generalize 31*RM.q2l s=X at *
   go_wp2
   go_ret
   rw [<-RM.qtq]
   exact ⟨_,rfl,hown,hbel⟩
end RecW
end Go.Proofs.YthpgnliicpejoaaGreatDoor
namespace Go.Proofs.YthpgnliicpejoaaGreatDoor
open Go.RowKit
set_option linter.unusedVariables false
namespace DiskW
theorem jov:(Tryz.prog.info? 67).map (fun i=>(i.zero,i.size,i.bytes))=some (some (.agg #[.int .i64 0,.string ⟨#[]⟩]),2,24):=by kernel_rfl
theorem j9x (v:Value) (l:List ByteArray) (w:World) (h:RM.SV w v l) (hl:l.length<=1000000) :
  Calls Tryz.prog 89 #[v] w fun e w'=>∃ v',e = .returned v'/\w'.ownsRow w.heap.size 9 1 v' l.length (l.map Value.string)/\Below w.heap.size w w':=by
 obtain ⟨a,cap,rfl,hc⟩:=h
 by_cases h0:l.length=0
 ·have e:l = []:=List.length_eq_zero_iff.1 h0
  subst e
  cases a with
  | none =>
   refine (Tryz.slices_Clone_string_nil 0 cap w).mono ?_
   rintro e w' ⟨rfl,rfl⟩
   exact ⟨_,rfl,World.ownsRow_nil _ _ _ _,Below.refl _ _⟩
  | some a =>
   refine (Tryz.slices_Clone_string_zero a cap w).mono ?_
   rintro e w' ⟨v',rfl,h1,_,h2⟩
   exact ⟨v',rfl,h1,h2⟩
 ·obtain ⟨g,off,rfl,hg,k1⟩:=hc (by omega)
  refine (Tryz.slices_Clone_string g off l.length cap l w (Nat.le_refl _) (by omega) (fun j hj=>by rw [k1 j hj];simp [List.getD,hj])).mono ?_
  rintro e w' ⟨v',rfl,h1,_,h2⟩
  rw [List.take_length] at h1
  exact ⟨v',rfl,h1,h2⟩
set_option maxHeartbeats 1600000 in
set_option maxRecDepth 100000 in
theorem j8n (v:Value) (l:List DM.Wr) (w:World) (h:DM.WV w v l) (hl:l.length<=1000000) :
  Calls Tryz.prog 90 #[v] w fun e w'=>∃ v',e = .returned v'/\w'.ownsRow w.heap.size 67 2 v' l.length (DM.q77 l)/\Below w.heap.size w w':=by
 obtain ⟨i0,hi,hz0,hz1,hz2⟩:=info_parts jov
 obtain ⟨a,cap,rfl,hc⟩:=h
 obtain ⟨n,hn⟩ : ∃ n,l.length=n:=⟨_,rfl⟩
 rw [hn] at hl ⊢
 have HN:=Lib.hid hn;clear hn
 have HC:=Lib.hid hc;clear hc
 have q22 : ∀(w:World) (a:Option Addr) (n c n' c':Nat),(binOp .eql 23 (.slice a n c) (.slice none n' c')).run Tryz.prog w = .ok (.bool a.isNone) w:=fun w a n c n' c'=>Lib.run_eql_slice_nil w _ _ a n c n' c' Tryz.underlying23
 cases a with
 | none =>
  have h0:n=0:=by
   rcases Nat.eq_zero_or_pos n with h|h
   ·exact h
   ·obtain ⟨b,off,h3,_⟩:=HC.out (by rw [HN.out];exact h)
    cases h3
  have e:l = []:=List.length_eq_zero_iff.1 (by rw [HN.out];exact h0)
  subst e
  subst h0
  go_enter Tryz.func90,Tryz.ntmps90
  go_wp2_with fail
  go_ret
  exact ⟨_,rfl,World.ownsRow_nil _ _ _ _,Below.refl _ _⟩
 | some a =>
  have hnews:Hid (∀j u,(DM.q77 l)[j]? = some u->(w.alloc (.cells #[] 67)).cell? (a.add j)=some u):=Lib.hid (by
   intro j u hj
   have hjl:=(List.getElem?_eq_some_iff.1 hj).1
   rw [DM.qf0] at hjl
   obtain ⟨b,off,h3,hb,h5⟩:=HC.out (by omega)
   simp only [Option.some.injEq] at h3
   subst h3
   have h6:=h5 (j / 2) (by omega)
   have h7:=DM.qx5 l (j / 2) (by omega)
   refine Lib.cell?_alloc_some _ ?_
   rcases Nat.mod_two_eq_zero_or_one j with hm|hm
   ·rw [Addr.add_lit,show off+j=off+j / 2*2 from by omega,h6.1,<-h7.1,show j / 2*2=j from by omega,hj]
   ·rw [Addr.add_lit,show off+j=off+j / 2*2+1 from by omega,h6.2,<-h7.2,show j / 2*2+1=j from by omega,hj])
  go_enter Tryz.func90,Tryz.ntmps90
  go_wp2_with (at_builtin;refine wpList_append_own _ rfl _ _ 23 rfl w.heap.size 67 i0 (.agg #[.int .i64 0,.string ⟨#[]⟩]) 2 24 Tryz.underlying23 hi hz0 hz1 hz2 rfl (by decide) _ _ _ rfl (World.ownsRow_made w #[] 0 (Nat.le_refl _) (Nat.zero_le _) rfl) a n cap (DM.q77 l) rfl ?qc1 ?qc2 ?qc3 ?qc4 ?qc5 ?qc6 ?_)
  case qc1=>rw [DM.qf0,HN.out]
  case qc2=>exact hnews.out
  case qc3=>intro u hu;unfold DM.q77 at hu;simp at hu;obtain ⟨x,y,_,h|h⟩:=hu<;>subst h<;>rfl
  case qc4=>unfold maxLen;omega
  case qc5=>omega
  case qc6=>simp
  intro v' w1 hown hgrow _
  have hb:Below w.heap.size w w1:=((Below.refl _ _).alloc (Nat.le_refl _) _).grown hgrow (by simp) (fun k hk=>by simp [Value.ownBlock] at hk;omega)
  clear hgrow hnews q22
  go_wp2
  go_ret
  refine ⟨_,rfl,?_,hb⟩
  simpa using hown
theorem qvc {w:World} {base:Nat} {e:TypeId} {size:Nat} {v:Value} {n:Nat} {xs:List Value} (h:w.ownsRow base e size v n xs) : ∃ a cap,v = .slice a n cap:=by
 rcases h.2 with ⟨rfl,rfl⟩|⟨g,cap,cur,rfl,_⟩
 ·exact ⟨none,0,rfl⟩
 ·exact ⟨_,cap,rfl⟩
theorem ju3 {wa wb wf:World} {base b0 p:Nat} {T1 T2:TypeId} {v1 v2:Value} {d:DM.Dk} (ha:wa.ownsRow b0 T1 1 v1 d.secs.length (d.secs.map Value.string)) (hb:wb.ownsRow wa.heap.size T2 2 v2 d.cache.length (DM.q77 d.cache)) (Bb:Below wa.heap.size wa wb)
  (hf:DM.But (· = p) wb wf) (hp:p<b0) (h0:base<=b0) (h1:b0<=wa.heap.size):DM.OD wf base T1 T2 v1 v2 d :=
 ⟨hf.owns (Lib.qy9 ((DM.But.of_below (R:=fun _=>False) Bb).owns ha (fun _ _ h=>h)) h0) (fun g hg h=>by have:=(ha.lt g hg).1;omega),
  hf.owns (Lib.qy9 hb (by omega)) (fun g hg h=>by have:=(hb.lt g hg).1;omega),
  fun g hg h2=>by have:=(ha.lt g hg).2;have:=(hb.lt g h2).1;omega⟩
theorem qge {fn:Func} {p:Tmp} (h:fn.results = #[.cell p 25]) (tmps:Array Value) (w:World) (b:Nat) (a1 a2:Option Addr) (n1 k1 n2 k2:Nat) (hp:tmps.getD p undef = .pointer (some ⟨b,0,none⟩))
  (c0:w.cell? ⟨b,0,none⟩=some (.slice a1 n1 k1)) (c1:w.cell? ⟨b,1,none⟩=some (.slice a2 n2 k2)):(results fn tmps).run Tryz.prog w = .ok (.agg #[.slice a1 n1 k1,.slice a2 n2 k2]) w:=by
 unfold results
 rw [h]
 simp at hp
 simp [hp,loadVar,go_sem,Result.andThen,c0,c1]
theorem qlf {fn:Func} {p u:Tmp} (h:fn.results = #[.cell p 25,.tmp u]) (tmps:Array Value) (w:World) (b:Nat) (a1 a2:Option Addr) (n1 k1 n2 k2:Nat) (hp:tmps.getD p undef = .pointer (some ⟨b,0,none⟩))
  (c0:w.cell? ⟨b,0,none⟩=some (.slice a1 n1 k1)) (c1:w.cell? ⟨b,1,none⟩=some (.slice a2 n2 k2)):(results fn tmps).run Tryz.prog w = .ok (.tuple #[.agg #[.slice a1 n1 k1,.slice a2 n2 k2],tmps.getD u undef]) w:=by
 rw [results_cell_tmp h,hp]
 simp [loadVar,go_sem,Result.andThen,c0,c1]
theorem qsy {w:World} {b:Nat} {x y u v:Value} (h0:w.cell? ⟨b,0,none⟩=some x) (h1:w.cell? ⟨b,1,none⟩=some y):DM.Box ((w.setCell ⟨b,0,none⟩ u).setCell ⟨b,1,none⟩ v) b u v:=by
 have hb:b<w.heap.size:=World.block_lt_of_cell? w _ h0
 refine ⟨by simpa using hb,?_,?_⟩
 ·rw [World.cell?_setCell_other _ _ _ _ (by simp),World.cell?_setCell_same _ _ _ h0]
 ·exact World.cell?_setCell_same _ _ _ ((World.cell?_setCell_other _ _ _ _ (by simp)).trans h1)
set_option maxHeartbeats 3200000 in
set_option maxRecDepth 100000 in
theorem jdn (v1 v2:Value) (d:DM.Dk) (w:World) (h:DM.DV w v1 v2 d) (b1:d.secs.length<=1000000) (b2:d.cache.length<=1000000) :
  Calls Tryz.prog 53 #[.agg #[v1,v2]] w fun e w'=>∃ a1 k1 a2 k2,e = .returned (.agg #[.slice a1 d.secs.length k1,.slice a2 d.cache.length k2])/\DM.OD w' w.heap.size 9 67 (.slice a1 d.secs.length k1) (.slice a2 d.cache.length k2) d/\Below w.heap.size w w':=by
 have H:=Lib.hid h;clear h
 have C1:Hid (∀w',DM.DV w' v1 v2 d->Calls Tryz.prog 89 #[v1] w' fun e w''=>∃ a k,e = .returned (.slice a d.secs.length k)/\w''.ownsRow w'.heap.size 9 1 (.slice a d.secs.length k) d.secs.length (d.secs.map Value.string)/\Below w'.heap.size w' w''):=Lib.hid (fun w' h=>(j9x v1 d.secs w' h.1 b1).mono (by rintro e w'' ⟨v',rfl,h1,h2⟩;obtain ⟨a,k,rfl⟩:=qvc h1;exact ⟨a,k,rfl,h1,h2⟩))
 have C2:Hid (∀w',DM.DV w' v1 v2 d->Calls Tryz.prog 90 #[v2] w' fun e w''=>∃ a k,e = .returned (.slice a d.cache.length k)/\w''.ownsRow w'.heap.size 67 2 (.slice a d.cache.length k) d.cache.length (DM.q77 d.cache)/\Below w'.heap.size w' w''):=Lib.hid (fun w' h=>(j8n v2 d.cache w' h.2 b2).mono (by rintro e w'' ⟨v',rfl,h1,h2⟩;obtain ⟨a,k,rfl⟩:=qvc h1;exact ⟨a,k,rfl,h1,h2⟩))
 go_enter Tryz.func53,Tryz.ntmps53
 go_wp2_with fail
 have HW:Hid (Below w.heap.size w ((w.alloc (.cells #[v1,v2] 25)).alloc (.cells #[.slice none 0 0,.slice none 0 0] 25))):=Lib.hid (((Below.refl _ _).alloc (Nat.le_refl _) _).alloc (by simp) _)
 have c0:((w.alloc (.cells #[v1,v2] 25)).alloc (.cells #[.slice none 0 0,.slice none 0 0] 25)).cell? ⟨w.heap.size,0,none⟩=some v1:=by go_simp
 have c1:((w.alloc (.cells #[v1,v2] 25)).alloc (.cells #[.slice none 0 0,.slice none 0 0] 25)).cell? ⟨w.heap.size,1,none⟩=some v2:=by go_simp
 have e0:((w.alloc (.cells #[v1,v2] 25)).alloc (.cells #[.slice none 0 0,.slice none 0 0] 25)).cell? ⟨w.heap.size+1,0,none⟩=some (.slice none 0 0):=by go_simp
 have e1:((w.alloc (.cells #[v1,v2] 25)).alloc (.cells #[.slice none 0 0,.slice none 0 0] 25)).cell? ⟨w.heap.size+1,1,none⟩=some (.slice none 0 0):=by go_simp
 have f0:((w.alloc (.cells #[v1,v2] 25)).alloc (.cells #[.slice none 0 0,.slice none 0 0] 25)).frozen? ⟨w.heap.size+1,0,none⟩=false:=by go_simp
 have f1:((w.alloc (.cells #[v1,v2] 25)).alloc (.cells #[.slice none 0 0,.slice none 0 0] 25)).frozen? ⟨w.heap.size+1,1,none⟩=false:=by go_simp
 have z0:w.heap.size+1<((w.alloc (.cells #[v1,v2] 25)).alloc (.cells #[.slice none 0 0,.slice none 0 0] 25)).heap.size:=by simp
 generalize hW0:(w.alloc (.cells #[v1,v2] 25)).alloc (.cells #[.slice none 0 0,.slice none 0 0] 25)=W0 at *
 obtain ⟨B,hB⟩ : ∃ B,w.heap.size=B:=⟨_,rfl⟩
 rw [hB] at c0 c1 z0 e0 e1 f0 f1
 have HB:=Lib.hid hB
 simp only [hB]
 have l0:B<W0.heap.size:=by omega
 have HWD:Hid (Below w.heap.size w W0.drew):=Lib.hid HW.out.drew
 clear hW0 hB
 go_region_held3 (fun w'=>Below w.heap.size w w'/\w'.cell? ⟨B,0,none⟩=some v1/\w'.cell? ⟨B,1,none⟩=some v2)
  (first
   | exact ⟨HWD.out,c0,c1⟩
   | exact ⟨hSa,qa0,qa1⟩
   | exact ⟨hSb,qb0,qb1⟩
   | exact ⟨(hSa.setCell (by simp [HB.out]) _).setCell (by simp [HB.out]) _,by go_simp,by go_simp⟩
   | exact ⟨(hSb.setCell (by simp [HB.out]) _).setCell (by simp [HB.out]) _,by go_simp,by go_simp⟩)
  (first
   | (go_at_call 89;refine (C1.out _ (H.out.below (by first|exact hSb|exact HWD.out))).mono ?_;rintro e wa ⟨va,ka,rfl,ha,Ba⟩;have hSa:Below w.heap.size w wa:=(by first|exact hSb.trans (Ba.mono hSb.size)|exact HWD.out.trans (Ba.mono HWD.out.size));have qa0:wa.cell? ⟨B,0,none⟩=some v1:=(by first|exact (Ba.cell (p:=⟨B,0,none⟩) (Nat.lt_of_succ_lt lb)).trans qb0|exact (Ba.cell (p:=⟨B,0,none⟩) l0).trans c0);have qa1:wa.cell? ⟨B,1,none⟩=some v2:=(by first|exact (Ba.cell (p:=⟨B,1,none⟩) (Nat.lt_of_succ_lt lb)).trans qb1|exact (Ba.cell (p:=⟨B,1,none⟩) l0).trans c1);have la:B+1<wa.heap.size:=(by first|exact Nat.lt_of_lt_of_le lb Ba.size|exact Nat.lt_of_lt_of_le z0 Ba.size);have ra0:wa.cell? ⟨B+1,0,none⟩=some (.slice none 0 0):=(by first|exact (Ba.cell (p:=⟨B+1,0,none⟩) lb).trans rb0|exact (Ba.cell (p:=⟨B+1,0,none⟩) z0).trans e0);have ra1:wa.cell? ⟨B+1,1,none⟩=some (.slice none 0 0):=(by first|exact (Ba.cell (p:=⟨B+1,1,none⟩) lb).trans rb1|exact (Ba.cell (p:=⟨B+1,1,none⟩) z0).trans e1);have ga0:wa.frozen? ⟨B+1,0,none⟩=false:=(by first|exact (Ba.frozen (p:=⟨B+1,0,none⟩) lb).trans gb0|exact (Ba.frozen (p:=⟨B+1,0,none⟩) z0).trans f0);have ga1:wa.frozen? ⟨B+1,1,none⟩=false:=(by first|exact (Ba.frozen (p:=⟨B+1,1,none⟩) lb).trans gb1|exact (Ba.frozen (p:=⟨B+1,1,none⟩) z0).trans f1))
   | (go_at_call 90;refine (C2.out _ (H.out.below (by first|exact hSa|exact HWD.out))).mono ?_;rintro e wb ⟨vb,kb,rfl,hb,Bb⟩;have hSb:Below w.heap.size w wb:=(by first|exact hSa.trans (Bb.mono hSa.size)|exact HWD.out.trans (Bb.mono HWD.out.size));have qb0:wb.cell? ⟨B,0,none⟩=some v1:=(by first|exact (Bb.cell (p:=⟨B,0,none⟩) (Nat.lt_of_succ_lt la)).trans qa0|exact (Bb.cell (p:=⟨B,0,none⟩) l0).trans c0);have qb1:wb.cell? ⟨B,1,none⟩=some v2:=(by first|exact (Bb.cell (p:=⟨B,1,none⟩) (Nat.lt_of_succ_lt la)).trans qa1|exact (Bb.cell (p:=⟨B,1,none⟩) l0).trans c1);have lb:B+1<wb.heap.size:=(by first|exact Nat.lt_of_lt_of_le la Bb.size|exact Nat.lt_of_lt_of_le z0 Bb.size);have rb0:wb.cell? ⟨B+1,0,none⟩=some (.slice none 0 0):=(by first|exact (Bb.cell (p:=⟨B+1,0,none⟩) la).trans ra0|exact (Bb.cell (p:=⟨B+1,0,none⟩) z0).trans e0);have rb1:wb.cell? ⟨B+1,1,none⟩=some (.slice none 0 0):=(by first|exact (Bb.cell (p:=⟨B+1,1,none⟩) la).trans ra1|exact (Bb.cell (p:=⟨B+1,1,none⟩) z0).trans e1);have gb0:wb.frozen? ⟨B+1,0,none⟩=false:=(by first|exact (Bb.frozen (p:=⟨B+1,0,none⟩) la).trans ga0|exact (Bb.frozen (p:=⟨B+1,0,none⟩) z0).trans f0);have gb1:wb.frozen? ⟨B+1,1,none⟩=false:=(by first|exact (Bb.frozen (p:=⟨B+1,1,none⟩) la).trans ga1|exact (Bb.frozen (p:=⟨B+1,1,none⟩) z0).trans f1)))
 all_goals go_wp2_with fail
 ·refine bodyPost_ret (qge rfl _ _ (B+1) va vb d.secs.length ka d.cache.length kb rfl (qsy rb0 rb1).2.1 (qsy rb0 rb1).2.2) rfl ⟨va,ka,vb,kb,rfl,?_,(hSb.setCell (by simp [HB.out]) _).setCell (by simp [HB.out]) _⟩
  exact ju3 (p:=B+1) (b0:=W0.drew.heap.size) ha hb Bb (((DM.But.refl (· = B+1) _).setCell (p:=⟨B+1,0,none⟩) (Or.inl rfl) _).setCell (p:=⟨B+1,1,none⟩) (Or.inl rfl) _) (by simp;omega) (by simp [HB.out];omega) Ba.size
end DiskW
end Go.Proofs.YthpgnliicpejoaaGreatDoor
namespace Go.Proofs.YthpgnliicpejoaaGreatDoor
open Go.RowKit
set_option linter.unusedVariables false
namespace DiskW
end DiskW
end Go.Proofs.YthpgnliicpejoaaGreatDoor
namespace Go.Proofs.YthpgnliicpejoaaGreatDoor
open Go.RowKit
set_option linter.unusedVariables false
namespace DiskW
theorem j97 (i:Int) (w:World):Calls Tryz.prog 92 #[.int .i64 i] w fun e w'=>e = .returned (.bool true)/\w=w':=by
 go_enter Tryz.func92,Tryz.ntmps92
 go_wp2_with fail
 go_ret
 exact ⟨rfl,rfl⟩
def BV (w:World) (v:Value) (l:List Bool):Prop:=∃ a cap,v = .slice a l.length cap/\(0<l.length->∃ b off,a=some ⟨b,off,none⟩/\b<w.heap.size/\∀j (h:j<l.length),w.cell? ⟨b,off+j,none⟩=some (.bool l[j]))
set_option maxHeartbeats 3200000 in
set_option maxRecDepth 100000 in
theorem qvv (keep:Nat->Bool) (base:Nat) (a1 a2:Option Addr) (k1 k2:Nat) (d:DM.Dk) (w:World) (h:DM.OD w base 9 67 (.slice a1 d.secs.length k1) (.slice a2 d.cache.length k2) d) (hbase:base<=w.heap.size)
  (hm:DM.q2y d) (b2:d.cache.length<=1000000)
  (hf : ∀w',DM.But (DM.j9z (.slice a1 d.secs.length k1) (.slice a2 d.cache.length k2)) w w'->∀j,j<d.cache.length->Calls Tryz.prog 92 #[.int .i64 (j:Int)] w' fun e w''=>e = .returned (.bool (keep j))/\w'=w'') :
  Calls Tryz.prog 58 #[.agg #[.slice a1 d.secs.length k1,.slice a2 d.cache.length k2],.func (.func 92) #[] #[]] w fun e w'=>e = .returned (.agg #[.slice a1 d.secs.length k1,.slice none 0 0]) /\
   DM.OD w' base 9 67 (.slice a1 d.secs.length k1) (.slice none 0 0) (DM.q3r keep d)/\DM.But (DM.j9z (.slice a1 d.secs.length k1) (.slice a2 d.cache.length k2)) w w':=by
 have HF:=Lib.hid hf;clear hf
 have HMAY:=Lib.hid hm;clear hm
 have H:=Lib.hid h;clear h
 obtain ⟨n,hn⟩ : ∃ n,d.secs.length=n:=⟨_,rfl⟩
 obtain ⟨m,hm⟩ : ∃ m,d.cache.length=m:=⟨_,rfl⟩
 have HN:=Lib.hid hn
 have HM:=Lib.hid hm
 simp only [hn,hm] at H HF b2 ⊢
 clear hn hm
 go_enter Tryz.func58,Tryz.ntmps58
 go_wp2_with fail
 have hn1:1<=n:=by have:=HMAY.out.1;rw [HN.out] at this;exact this
 obtain ⟨g1,hg1⟩ : ∃ g1,a1=some ⟨g1,0,none⟩:=by
  rcases H.out.secs.2 with ⟨_,h⟩|⟨g,cap,cur,h,_⟩
  ·have:=HN.out;omega
  ·simp only [Value.slice.injEq] at h;exact ⟨g,h.1⟩
 subst hg1
 have hg1l:g1<w.heap.size:=(H.out.ge g1 (Or.inl rfl)).2
 have hap : ¬ (Value.slice a2 m k2).ownBlock=some g1:=H.out.apart g1 rfl
 have V0:DM.Var ((w.alloc (.cells #[.slice (some ⟨g1,0,none⟩) n k1,.slice a2 m k2] 25)).alloc (.cells #[.slice none 0 0,.slice none 0 0] 25)) w.heap.size (.slice (some ⟨g1,0,none⟩) n k1) (.slice a2 m k2):=(DM.Var.made w _ _ _).below ((Below.refl _ _).alloc (Nat.le_refl _) _)
 have V1:DM.Var ((w.alloc (.cells #[.slice (some ⟨g1,0,none⟩) n k1,.slice a2 m k2] 25)).alloc (.cells #[.slice none 0 0,.slice none 0 0] 25)) (w.heap.size+1) (.slice none 0 0) (.slice none 0 0):=by
  have:=DM.Var.made (w.alloc (.cells #[.slice (some ⟨g1,0,none⟩) n k1,.slice a2 m k2] 25)) (.slice none 0 0) (.slice none 0 0) 25
  simpa using this
 have B0:Below w.heap.size w ((w.alloc (.cells #[.slice (some ⟨g1,0,none⟩) n k1,.slice a2 m k2] 25)).alloc (.cells #[.slice none 0 0,.slice none 0 0] 25)):=((Below.refl _ _).alloc (Nat.le_refl _) _).alloc (by simp) _
 have HV0:=Lib.hid V0
 have HV1:=Lib.hid V1
 clear V0 V1
 go_loopw [10] (fun i wr=>∃ q:Nat,q<=m/\i = .int .i64 q/\DM.Var wr w.heap.size (.slice (some ⟨g1,0,none⟩) n k1) (.slice a2 m k2)/\DM.Var wr (w.heap.size+1) (.slice none 0 0) (.slice none 0 0)/\DM.OD wr base 9 67 (.slice (some ⟨g1,0,none⟩) n k1) (.slice a2 m k2) ⟨DM.q19 keep d.secs d.cache q,d.cache⟩/\DM.But (DM.j9z (.slice (some ⟨g1,0,none⟩) n k1) (.slice a2 m k2)) w wr) (fun i _=>m - (intOf i).toNat)
 case atStart=>exact ⟨0,Nat.zero_le _,rfl,HV0.out,HV1.out,H.out.below B0,DM.But.of_below B0⟩
 case round =>
  clear HV0 HV1 B0
  obtain ⟨q,hq,rfl,VA,VB,O,BU⟩:=hrel
  have HVA:=Lib.hid VA
  have HVB:=Lib.hid VB
  have HO:=Lib.hid O
  have c0:=VA.c0
  have c1:=VA.c1
  have l0:=VA.lt
  have l1:=VB.lt
  clear VA VB O
  by_cases hqm:q<m
  ·have hqd:q<d.cache.length:=by rw [HM.out];exact hqm
   obtain ⟨aw,cw,hev,hcw⟩:=HO.out.dv.2
   simp only [Value.slice.injEq] at hev
   obtain ⟨g2,off2,hg2,hg2l,hcs⟩:=hcw (by show 0<d.cache.length;omega)
   rw [hg2] at hev
   obtain ⟨hev1,hev2,hev3⟩:=hev
   clear hev2 hev3 hcw hg2
   subst hev1
   have hw:=hcs q hqd
   have x4:wr.cell? ⟨g2,off2+q*2,none⟩=some (.int .i64 d.cache[q].1):=hw.1
   have x5:wr.cell? ⟨g2,off2+q*2+1,none⟩=some (.string d.cache[q].2):=hw.2
   clear hw hcs
   have hok:=HMAY.out.2.2.2 _ (List.getElem_mem hqd)
   rw [HN.out] at hok
   have hgd:d.cache.getD q (0,⟨#[]⟩)=d.cache[q]:=by simp [List.getD,hqd]
   generalize hP:d.cache[q]=P at x4 x5 hok hgd
   obtain ⟨i1,s1⟩:=P
   simp only at x4 x5
   obtain ⟨hk1,hk2,hk3⟩:=hok
   simp only at hk1 hk2 hk3
   obtain ⟨p,rfl⟩ : ∃ p:Nat,i1=(p:Int):=⟨i1.toNat,by omega⟩
   have HGD:=Lib.hid hgd;clear hgd hP
   have hqi:(q:Int)<(m:Int):=by omega
   have BUA:DM.But (DM.j9z (.slice (some ⟨g1,0,none⟩) n k1) (.slice (some ⟨g2,off2,none⟩) m k2)) w (wr.alloc (.cells #[.int .i64 (p:Int),.string s1] 67)):=BU.alloc _
   obtain ⟨z,hz⟩ : ∃ z,keep q=z:=⟨_,rfl⟩
   have CK:=HF.out _ BUA q hqm
   rw [hz] at CK
   have HCK:=Lib.hid CK;clear CK
   have HZ:=Lib.hid hz;clear hz
   have HBUA:=Lib.hid BUA;clear BUA
   have HBU:=Lib.hid BU;clear BU
   have BA:Below wr.heap.size wr (wr.alloc (.cells #[.int .i64 (p:Int),.string s1] 67)):=(Below.refl _ _).alloc (Nat.le_refl _) _
   have HBA:=Lib.hid BA;clear BA
   cases z
   ·go_wp2_with fail
    refine HCK.out.mono ?_;rintro e w2 ⟨rfl,rfl⟩
    go_wp2_with fail
    go_roundw
    case rel =>
     refine ⟨q+1,by omega,by go_num,HVA.out.below HBA.out,HVB.out.below HBA.out,?_,HBUA.out⟩
     have:DM.q19 keep d.secs d.cache (q+1)=DM.q19 keep d.secs d.cache q:=by simp [DM.q19,HZ.out]
     rw [this]
     exact HO.out.below HBA.out
    case measure=>simp [intOf];omega
   ·have hpn:(p:Int)<(n:Int):=hk2
    have hp0:(0:Int)<=(p:Int):=hk1
    have OSEC:wr.ownsRow base 9 1 (.slice (some ⟨g1,0,none⟩) n k1) n ((DM.q19 keep d.secs d.cache q).map Value.string):=by
     have:=HO.out.secs
     rw [show (⟨DM.q19 keep d.secs d.cache q,d.cache⟩:DM.Dk).secs.length=n from by show (DM.q19 keep d.secs d.cache q).length=n;rw [DM.q1w,HN.out]] at this
     exact this
    have fz':wr.frozen? ⟨g1,p,none⟩=false:=OSEC.frozenAt p
    have xz' : ∃ v,wr.cell? ⟨g1,p,none⟩=some v:=by
     have:=OSEC.cellAt p (by omega)
     rw [this]
     have hl:p<((DM.q19 keep d.secs d.cache q).map Value.string).length:=by rw [List.length_map,DM.q1w,HN.out];omega
     exact ⟨_,List.getElem?_eq_getElem hl⟩
    obtain ⟨vz,xz'⟩:=xz'
    have HST:=Lib.hid (OSEC.stored p (.string s1))
    clear OSEC
    have hgw:g1<wr.heap.size:=by omega
    go_wp2_with fail
    refine HCK.out.mono ?_;rintro e w2 ⟨rfl,rfl⟩
    go_wp2_with fail
    have F:DM.But (· = g1) wr ((wr.setCell ⟨g1,p,none⟩ (.string s1)).alloc (.cells #[.int .i64 (p:Int),.string s1] 67)):=((DM.But.refl (· = g1) wr).setCell (p:=⟨g1,p,none⟩) (Or.inl rfl) _).alloc _
    have HF1:=Lib.hid F;clear F
    go_roundw
    case rel =>
     refine ⟨q+1,by omega,by go_num,HF1.out.var HVA.out (by omega),HF1.out.var HVB.out (by omega),?_,(HBU.out.setCell (p:=⟨g1,p,none⟩) (Or.inl (Or.inl rfl)) _).alloc _⟩
     have e1:DM.q19 keep d.secs d.cache (q+1)=(DM.q19 keep d.secs d.cache q).set p s1:=by simp only [DM.q19,HZ.out,HGD.out,if_true];rfl
     rw [e1]
     refine ⟨?_,HF1.out.owns HO.out.cache (fun g hg h=>by subst h;exact hap hg),HO.out.apart⟩
     have:=HST.out.1.alloc (.cells #[.int .i64 (p:Int),.string s1] 67)
     rw [<-List.map_set] at this
     rw [show (⟨(DM.q19 keep d.secs d.cache q).set p s1,d.cache⟩:DM.Dk).secs.length=n from by show ((DM.q19 keep d.secs d.cache q).set p s1).length=n;rw [List.length_set,DM.q1w,HN.out]]
     exact this
    case measure=>simp [intOf];omega
  ·have hqq:q=m:=by omega
   subst hqq
   have f1:=HVA.out.f1
   have r0:=HVB.out.c0
   have r1:=HVB.out.c1
   have g0:=HVB.out.f0
   have g1':=HVB.out.f1
   go_wp2_with fail
   refine bodyPost_ret (qge rfl _ _ (w.heap.size+1) (some ⟨g1,0,none⟩) none n k1 0 0 rfl (by go_simp) (by go_simp)) rfl ⟨rfl,?_,?_⟩
   ·have F:DM.But (fun k=>w.heap.size<=k) wr (((wr.setCell ⟨w.heap.size,1,none⟩ (.slice none 0 0)).setCell ⟨w.heap.size+1,0,none⟩ (.slice (some ⟨g1,0,none⟩) n k1)).setCell ⟨w.heap.size+1,1,none⟩ (.slice none 0 0)) :=
     (((DM.But.refl (fun k=>w.heap.size<=k) _).setCell (p:=⟨w.heap.size,1,none⟩) (Or.inl (Nat.le_refl _)) _).setCell (p:=⟨w.heap.size+1,0,none⟩) (Or.inl (Nat.le_succ _)) _).setCell (p:=⟨w.heap.size+1,1,none⟩) (Or.inl (Nat.le_succ _)) _
    refine ⟨?_,World.ownsRow_nil _ _ _ _,fun g _ h=>by cases h⟩
    have:=F.owns HO.out.secs (fun g hg h=>by have:=(H.out.ge g (Or.inl hg)).2;omega)
    unfold DM.q3r
    rw [HM.out]
    exact this
   ·exact ((BU.setCell (p:=⟨w.heap.size,1,none⟩) (Or.inr (Nat.le_refl _)) _).setCell (p:=⟨w.heap.size+1,0,none⟩) (Or.inr (Nat.le_succ _)) _).setCell (p:=⟨w.heap.size+1,1,none⟩) (Or.inr (Nat.le_succ _)) _
end DiskW
end Go.Proofs.YthpgnliicpejoaaGreatDoor
namespace Go.Proofs.YthpgnliicpejoaaGreatDoor
open Go.RowKit
set_option linter.unusedVariables false
namespace DM
theorem DV.but {R:Nat->Prop} {w w':World} {base:Nat} {T1 T2:TypeId} {v1 v2:Value} {d:Dk} (h:OD w base T1 T2 v1 v2 d) (hb:But R w w') (hn : ∀k,R k->k<base):DV w' v1 v2 d :=
 (h.but hb (fun k hk hr=>by have:=(h.ge k hk).1;have:=hn k hr;omega)).dv
theorem set2 {w:World} {B:Nat} {u v:Value} : But (· = B) w ((w.setCell ⟨B,0,none⟩ u).setCell ⟨B,1,none⟩ v):=((But.refl (· = B) _).setCell (p:=⟨B,0,none⟩) (Or.inl rfl) _).setCell (p:=⟨B,1,none⟩) (Or.inl rfl) _
theorem Var.two (w:World) (v1 v2 v3 v4:Value) (T:TypeId):Var ((w.alloc (.cells #[v1,v2] T)).alloc (.cells #[v3,v4] T)) w.heap.size v1 v2/\Var ((w.alloc (.cells #[v1,v2] T)).alloc (.cells #[v3,v4] T)) (w.heap.size+1) v3 v4:=by
 refine ⟨(Var.made w _ _ _).below ((Below.refl _ _).alloc (Nat.le_refl _) _),?_⟩
 have:=Var.made (w.alloc (.cells #[v1,v2] T)) v3 v4 T
 simpa using this
theorem qyj (w:World) (o1 o2:Obj):Below w.heap.size w ((w.alloc o1).alloc o2):=((Below.refl _ _).alloc (Nat.le_refl _) _).alloc (by simp) _
end DM
namespace DiskW
set_option maxHeartbeats 800000 in
set_option maxRecDepth 100000 in
theorem jfb (base:Nat) (a1 a2:Option Addr) (k1 k2 n m:Nat) (d:DM.Dk) (w:World) (h:DM.OD w base 9 67 (.slice a1 n k1) (.slice a2 m k2) d) (hbase:base<=w.heap.size) (hn:d.secs.length=n) (hm:d.cache.length=m)
  (hmay:DM.q2y d) (b2:m<=1000000) :
  Calls Tryz.prog 55 #[.agg #[.slice a1 n k1,.slice a2 m k2]] w fun e w'=>e = .returned (.agg #[.slice a1 n k1,.slice none 0 0]) /\
   DM.OD w' base 9 67 (.slice a1 n k1) (.slice none 0 0) (DM.q3r (fun _=>true) d)/\DM.But (DM.j9z (.slice a1 n k1) (.slice a2 m k2)) w w':=by
 have C:Hid (∀w',DM.OD w' base 9 67 (.slice a1 n k1) (.slice a2 m k2) d->base<=w'.heap.size->Calls Tryz.prog 58 #[.agg #[.slice a1 n k1,.slice a2 m k2],.func (.func 92) #[] #[]] w' fun e w''=>e = .returned (.agg #[.slice a1 n k1,.slice none 0 0]) /\
   DM.OD w'' base 9 67 (.slice a1 n k1) (.slice none 0 0) (DM.q3r (fun _=>true) d)/\DM.But (DM.j9z (.slice a1 n k1) (.slice a2 m k2)) w' w''):=Lib.hid (fun w' h hb=>by
  subst hn hm
  exact qvv (fun _=>true) base a1 a2 k1 k2 d w' h hb hmay b2 (fun w'' _ j _=>j97 _ _))
 have H:=Lib.hid h;clear h
 have HN:=Lib.hid hn;clear hn
 have HM:=Lib.hid hm;clear hm
 have HMAY:=Lib.hid hmay;clear hmay
 go_enter Tryz.func55,Tryz.ntmps55
 go_wp2_with fail
 have V:=Lib.hid (DM.Var.two w (.slice a1 n k1) (.slice a2 m k2) (.slice none 0 0) (.slice none 0 0) 25)
 have B0:=Lib.hid (DM.qyj w (.cells #[.slice a1 n k1,.slice a2 m k2] 25) (.cells #[.slice none 0 0,.slice none 0 0] 25))
 refine (C.out _ (H.out.below B0.out) (by simp;omega)).mono ?_;rintro e w1 ⟨rfl,O1,BU1⟩
 have R1:=BU1.var V.out.2 (fun h=>by have:=(H.out.ge _ h).2;omega)
 have BUW:DM.But (DM.j9z (.slice a1 n k1) (.slice a2 m k2)) w w1:=(DM.But.of_below (R:=DM.j9z (.slice a1 n k1) (.slice a2 m k2)) B0.out).trans BU1 (fun _=>Or.inl)
 have r0:=R1.c0
 have r1:=R1.c1
 have g0:=R1.f0
 have g1:=R1.f1
 have HR1:=Lib.hid R1;clear R1
 go_wp2_with fail
 refine bodyPost_ret (qge rfl _ _ (w.heap.size+1) a1 none n k1 0 0 rfl (by go_simp) (by go_simp)) rfl ⟨rfl,?_,?_⟩
 ·exact O1.but DM.set2 (fun k hk hr=>by
   subst hr
   rcases hk with hk|hk
   ·have:=(H.out.ge _ (Or.inl hk)).2;omega
   ·cases hk)
 ·exact (BUW.setCell (p:=⟨w.heap.size+1,0,none⟩) (Or.inr (Nat.le_succ _)) _).setCell (p:=⟨w.heap.size+1,1,none⟩) (Or.inr (Nat.le_succ _)) _
end DiskW
end Go.Proofs.YthpgnliicpejoaaGreatDoor
namespace Go.Proofs.YthpgnliicpejoaaGreatDoor
open Go.RowKit
set_option linter.unusedVariables false
namespace DM
end DM
namespace DiskW
theorem BV.below {w w':World} {v:Value} {l:List Bool} (h:BV w v l) (hb:Below w.heap.size w w'):BV w' v l:=by
 obtain ⟨a,cap,h1,h2⟩:=h
 refine ⟨a,cap,h1,fun h0=>?_⟩
 obtain ⟨b,off,h3,h4,h5⟩:=h2 h0
 exact ⟨b,off,h3,Nat.lt_of_lt_of_le h4 hb.size,fun j hj=>(hb.cell (p:=⟨b,off+j,none⟩) h4).trans (h5 j hj)⟩
end DiskW
end Go.Proofs.YthpgnliicpejoaaGreatDoor
