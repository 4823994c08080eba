
import Derived.Test.YtcdjkibiggjdoaaGreatDoorLp20
import Derived.Test.YtcdjkibiggjdoaaGreatDoorLp8
import Derived.Test.YtcdjkibiggjdoaaGreatDoorRows
import Derived.Test.YtcdjkibiggjdoaaGreatDoorLp9
import Derived.LaidLaws
namespace Go.Proofs.YtcdjkibiggjdoaaGreatDoor.AM
open Go.RowKit
set_option linter.unusedVariables false
set_option linter.unusedSimpArgs false
theorem jv4 {p:List UInt8} (h:okS p=true):p.length≤60:=by
 unfold okS qbl at h
 exact of_decide_eq_true (Bool.and_eq_true_iff.1 (Bool.and_eq_true_iff.1 h).1).1
theorem jsc {h:List UInt8} (hh:q3u h=true):h.length=47:=by
 unfold q3u at hh
 obtain ⟨h1,h2⟩:=Bool.and_eq_true_iff.1 hh
 obtain ⟨h3,h4⟩:=Bool.and_eq_true_iff.1 h2
 obtain ⟨r,hr⟩:=of_decide_eq_true h1
 have hd:h.drop 3=r:=by rw [← hr];rfl
 have he:Bs.q73 (Bs.qcx (h.drop 3)).1=h.drop 3:=Bs.jnr (by rw [← h3])
 have hl:=Bs.j8i (Bs.qcx (h.drop 3)).1
 rw [he,of_decide_eq_true h4,hd] at hl
 rw [← hr,List.length_append,hl];rfl
theorem jky {t:TgD} (h:q31 t=0):(q4g t).length≤202:=by
 obtain ⟨h1,_,_,h4⟩:=q3j h
 have:=jv4 h1
 have:=jsc h4
 have:=qhl (tV t)
 unfold q4g
 simp only [List.length_append,List.length_cons,List.length_nil]
 omega
theorem qxo : ∀ {l:List TgD},(∀ t∈l,q31 t=0)→(l.map q4g).flatten.length≤202*l.length
 | [],_=>by simp
 | t::l,h=>by
  have h1:=jky (h t (List.mem_cons_self ..))
  have h2:=qxo (l:=l) (fun t ht=>h t (List.mem_cons_of_mem _ ht))
  simp only [List.map_cons,List.flatten_cons,List.length_append,List.length_cons]
  omega
theorem j7l (n:Nat) (hn:200000≤n) (l:List TgD) (hg:Good l) (hL:l.length≤100000) (hl:l.length<n) (s:List UInt8) : ∀ m j:Nat,j≤l.length→l.length - j<m →
  q48 n m l s (j:Int)=some (Sum.inr (((s,()),((),()))))
 | 0,j,hj,hm=>absurd hm (Nat.not_lt_zero _)
 | m+1,j,hj,hm=>by
  rw [qil]
  unfold qm7
  by_cases hjl:j<l.length
  ·have h1:(j:Int)<((l.length:Nat):Int):=by omega
   have htk:=q9o hjl
   have hw:=jn5 hg hjl
   rw [decide_eq_true h1,cond_true]
   unfold q0b
   rw [q06 (by omega)]
   show (q7n l (0:Int) ((j+1:Nat):Int)).bind _=_
   rw [sub_zero (by omega),Option.bind_some,q1k hjl,Option.bind_some,q5l n (by omega) (l.take (j+1)) l[j].1 (by rw [List.length_take];omega) (by rw [List.length_take];omega),Option.bind_some,htk,qfy hw,if_pos rfl]
   show (bif !true then _ else (some l[j]).bind _)=_
   rw [Bool.not_true,cond_false,Option.bind_some]
   show (bif !(eqT l[j] l[j]) then _ else _)=_
   rw [qqp.2 rfl,Bool.not_true,cond_false]
   exact j7l n hn l hg hL hl s m (j+1) hjl (by omega)
  ·have h1 : ¬ (j:Int)<((l.length:Nat):Int):=by omega
   rw [decide_eq_false h1,cond_false]
def jxv (n:Nat) (s:List UInt8):Option Bool:=(q3a n s).bind fun r16=>(q5u n r16.1).bind fun r17=>(bif !decide (r16.2.2=(0:Int)) then (q0d n).bind fun r18=>some r18 else (bif decide (r17.2=(0:Int)) then (bif decide (r17.1=s) then (q0d n).bind fun r19=>some r19 else (qaj s ([10]:List UInt8)).bind fun s20=>(bif decide (r17.1=s20) then (q0d n).bind fun r21=>some r21 else some false)) else some false))
theorem qxu (n:Nat) (hn:200000≤n) (hv:q0d n=some true) (s:List UInt8) (hs:s.length≤4000):jxv n s=some true:=by
 unfold jxv
 rw [qan n hn s (by omega),Option.bind_some]
 obtain ⟨g1,g2⟩:=qfv (q0q s) [] .nil
 have hl:=qdu (q0q s) []
 obtain ⟨hk,hk2⟩:=q7h hs
 have hfew:=qkg 4000 (q0q s) [] hk2 (fun t ht=>by cases ht)
 have htp:=jgg (s:=s)
 simp only [List.length_nil] at hl
 generalize q0j [] (q0q s)=r at *
 rw [q8x n hn r.1 (by omega) (fun t ht=>by have:=hfew t ht;exact ⟨by omega,by omega⟩),Option.bind_some]
 by_cases he:r.2.2=0
 ·obtain ⟨hg,_⟩:=g1 he
  rw [decide_eq_true he,Bool.not_true,cond_false,qj4 r.1 [] (by rw [List.nil_append];exact hg),List.nil_append]
  show (bif decide ((0:Int)=0) then (bif decide ((r.1.map q4g).flatten=s) then _ else _) else some false)=_
  rw [decide_eq_true rfl,cond_true]
  rcases htp he with h1|h1
  ·rw [decide_eq_true h1,cond_true,hv];rfl
  ·rw [h1]
   have hne : ¬ s ++ [10]=s:=fun h=>by have:=congrArg List.length h;simp at this
   rw [decide_eq_false hne,cond_false,q1j (by simp only [List.length_cons,List.length_nil];omega),Option.bind_some,decide_eq_true rfl,cond_true,hv];rfl
 ·rw [decide_eq_false he,Bool.not_false,cond_true,hv];rfl
theorem jn7 (n:Nat) (hn:200000≤n) (hv:q0d n=some true) (l:List TgD) (s:List UInt8) (hL:l.length≤9223372036854775807) (hl:l.length<n):qi2 n l s=some true:=by
 unfold qi2
 rw [q7b n l hL hl,Option.bind_some]
 cases hf:jt5 l with
 | false=>rw [Bool.not_false,cond_true,hv];rfl
 | true =>
  rw [Bool.not_true,cond_false]
  obtain ⟨h60,hall⟩:=j62 hf
  by_cases h4:s.length≤4000
  ·rw [decide_eq_false (by omega),cond_false,q8x n hn l (by omega) (fun t ht=>q58 (hall t ht)),Option.bind_some]
   by_cases he:(q4i [] l).2=0
   ·obtain ⟨hg,_⟩:=qs9 l [] .nil he
    rw [List.nil_append] at hg
    have hlen:=qxo hg.judge
    rw [decide_eq_true he,cond_true,qj4 l [] (by rw [List.nil_append];exact hg),List.nil_append]
    show (q3a n (l.map q4g).flatten).bind _=_
    rw [qan n hn _ (by omega),Option.bind_some,jhs hg]
    show (bif !decide ((0:Int)=0) then some false else (bif !decide (((l.length:Nat):Int)=((l.length:Nat):Int)) then some false else (q7l n l l).bind _))=_
    rw [decide_eq_true rfl,Bool.not_true,cond_false,decide_eq_true rfl,Bool.not_true,cond_false,qda n l (by omega) hl,Option.bind_some,Bool.not_true,cond_false]
    have hb:=j7l n hn l hg (by omega) hl s n 0 (Nat.zero_le _) (by omega)
    have hb':q48 n n l s (0:Int)=_:=hb
    rw [hb',Option.bind_some,Sum.elim_inr]
    exact qxu n hn hv s h4
   ·rw [decide_eq_false he,cond_false]
    exact qxu n hn hv s h4
  ·rw [decide_eq_true (by omega),cond_true,hv];rfl
end Go.Proofs.YtcdjkibiggjdoaaGreatDoor.AM
namespace Go.Proofs.YtcdjkibiggjdoaaGreatDoor.AM
open Go.RowKit
set_option maxRecDepth 1000000
abbrev q5a:Nat:=9223372036854775808
theorem j5s:q0d q5a=some true:=by decide +kernel
end Go.Proofs.YtcdjkibiggjdoaaGreatDoor.AM
namespace Go.Proofs.YtcdjkibiggjdoaaGreatDoor.AM
open Go.RowKit
set_option linter.unusedVariables false
abbrev qvt:Ty:=.lst (.prod .str (.prod (.int .i64) (.prod (.int .i64) (.prod (.int .i64) (.prod .str (.prod .str .str))))))
abbrev TgTy:Ty:=.prod .str (.prod (.int .i64) (.prod (.int .i64) (.prod (.int .i64) (.prod .str (.prod .str .str)))))
theorem je9 {l:den qvt} (h:qhx qvt l):l.length≤9223372036854775807:=Nat.le_trans h.1 (by unfold maxLen;omega)
theorem jk3 {l:den qvt} (h:qhx qvt l):l.length<q5a:=Nat.lt_of_le_of_lt (je9 h) (by decide)
theorem qvg (s:List UInt8) (_:s.length≤maxLen):qa6 q5a s=some true:=jc1 q5a (by decide) j5s s
theorem j12 (l:den qvt) (t:den TgTy) (hl:qhx qvt l) (_:qhx TgTy t):qe0 q5a l t=some true:=jfn q5a (by decide) j5s l t (je9 hl) (jk3 hl)
theorem j4e (l:den qvt) (s:List UInt8) (hl:qhx qvt l) (_:s.length≤maxLen):qi2 q5a l s=some true:=jn7 q5a (by decide) j5s l s (je9 hl) (jk3 hl)
theorem qz2 (l:den qvt) (t:den TgTy) (p:List UInt8) (hl:qhx qvt l) (_:qhx TgTy t) (_:p.length≤maxLen):qdw q5a l t p=some true:=jii q5a (by decide) j5s l t p (je9 hl) (jk3 hl)
theorem qzq (s:List UInt8) (_:s.length≤maxLen):qeh q5a s=some true:=jfj q5a (by decide) j5s s
end Go.Proofs.YtcdjkibiggjdoaaGreatDoor.AM
namespace Go.Proofs.YtcdjkibiggjdoaaGreatDoor.AM
open Go.RowKit
set_option linter.unusedVariables false
set_option linter.unusedSimpArgs false
theorem jf9 : "*" ++ "errors.errorString" = "*errors.errorString":=by decide
theorem joc (u:TypeId) (h:Tryz.prog.typeName? 3 u=some "*errors.errorString"):u=165 :=
 typeName_ptr_named (nm := "errors.errorString") (by rw [jf9];kernel_rfl) (by kernel_rfl) (by decide) u (by rw [jf9];exact h)
theorem jye:(Rows.laid_internal_strconv_uint64pow10:DataW Unit)=Lib.tabData .u64 Lib.pow10Tab:=by rfl
theorem jyd:Tryz.prog.globalNamed "internal/strconv.uint64pow10" = some ((Tryz.prog.globalNamed "internal/strconv.uint64pow10").getD 0)∧(Tryz.prog.globals[(Tryz.prog.globalNamed "internal/strconv.uint64pow10").getD 0]?).map (·.type)=some 168:=⟨by kernel_rfl,by kernel_rfl⟩
theorem jty:Tryz.prog.globalNamed "strconv.ErrSyntax" = some (Tryz.laysAtoi_ren.g 15)∧(Tryz.prog.globals[Tryz.laysAtoi_ren.g 15]?).map (·.type)=some 82:=⟨by kernel_rfl,by kernel_rfl⟩
theorem jvs:Tryz.prog.globalNamed "strconv.ErrRange" = some (Tryz.laysAtoi_ren.g 16)∧(Tryz.prog.globals[Tryz.laysAtoi_ren.g 16]?).map (·.type)=some 82:=⟨by kernel_rfl,by kernel_rfl⟩
theorem j5l:Tryz.prog.cellsOf 167=1:=by kernel_rfl
theorem j4x:Tryz.prog.cellsOf 9=1:=by kernel_rfl
theorem j51 {w:World} (hsh:w.ShapedOpen Tryz.prog)
  (hL:laidMet Tryz.prog [("math/bits.deBruijn32tab",Rows.laid_math_bits_deBruijn32tab),("math/bits.deBruijn64tab",Rows.laid_math_bits_deBruijn64tab),("internal/strconv.uint64pow10",Rows.laid_internal_strconv_uint64pow10),("unicode/utf8.acceptRanges",Rows.laid_unicode_utf8_acceptRanges),("strconv.ErrRange",Rows.laid_strconv_ErrRange),("strconv.ErrSyntax",Rows.laid_strconv_ErrSyntax),("unicode/utf8.first",Rows.laid_unicode_utf8_first)] w):Inv w:=by
 obtain ⟨m,hm⟩:=Tryz.laysIndex.s1_3 w hsh
 have h3:=hL.tail.tail
 rw [jye] at h3
 have h5:=hL.tail.tail.tail.tail
 unfold Rows.laid_strconv_ErrRange at h5
 have h6:=hL.tail.tail.tail.tail.tail
 unfold Rows.laid_strconv_ErrSyntax at h6
 obtain ⟨a0,s0,hv0,-,-,-⟩:=laid_sentinel h5 jvs.1 jvs.2 Tryz.underlying82 joc Tryz.underlying165 Tryz.underlying167 rfl rfl Tryz.underlying9 j5l j4x
 obtain ⟨a1,s1,hv1,-,-,-⟩:=laid_sentinel h6 jty.1 jty.2 Tryz.underlying82 joc Tryz.underlying165 Tryz.underlying167 rfl rfl Tryz.underlying9 j5l j4x
 have c0:w.cell? ⟨Tryz.laysAtoi_ren.g 16,0,none⟩=some (.iface 165 (.pointer (some a0))):=by have h0:=World.var?_cell jvs.1 hv0 0;simpa using h0
 have c1:w.cell? ⟨Tryz.laysAtoi_ren.g 15,0,none⟩=some (.iface 165 (.pointer (some a1))):=by have h0:=World.var?_cell jty.1 hv1 0;simpa using h0
 exact ⟨⟨m,hm⟩,Lib.tabIs_of_head jyd.1 jyd.2 (n:=20) (e:=152) (by kernel_rfl) (by kernel_rfl) (by kernel_rfl) (by kernel_rfl) h3,⟨_,_,c1⟩,⟨_,_,c0⟩⟩
end Go.Proofs.YtcdjkibiggjdoaaGreatDoor.AM
