
import Derived.Test.YtapfankgdkdkgaaGreatDoorMn25
import Derived.Test.YtapfankgdkdkgaaGreatDoorMn23
import Derived.Test.YtapfankgdkdkgaaGreatDoorMn8
import Derived.Test.YtapfankgdkdkgaaGreatDoorRows
import Derived.Test.YtapfankgdkdkgaaGreatDoorMn9
import Derived.LaidLaws
import Derived.LaidHandle
import Derived.Stop.LaidErr
import Derived.Lib.LaidTab
import Derived.Lay
namespace Go.Proofs.YtapfankgdkdkgaaGreatDoor.AM
open Go.RowKit
set_option linter.unusedVariables false
set_option linter.unusedSimpArgs false
set_option synthInstance.maxSize 100000
set_option synthInstance.maxHeartbeats 0
def nlT (L:List (List UInt8)):List UInt8:=(L.map (· ++ [10])).flatten
theorem qew (t:List UInt8) (L:List (List UInt8)):nlT (t::L)=t++(10::nlT L):=by simp [nlT]
end Go.Proofs.YtapfankgdkdkgaaGreatDoor.AM
namespace Go.Proofs.YtapfankgdkdkgaaGreatDoor.AM
open Go.RowKit
set_option linter.unusedVariables false
set_option linter.unusedSimpArgs false
set_option synthInstance.maxSize 100000
set_option synthInstance.maxHeartbeats 0
def ntl (x:List UInt8):List UInt8:=if (Lx.qqu x).2 = [] then x ++ [32,47,47,32,121] else x
def nts (a:Nat):List (List UInt8)→Nat→List (List UInt8)
 | [],_=>[]
 | x::xs,i=>if i=a then [32,9,47,47,32,120] :: []::ntl x::nts a xs (i+1) else ntl x::nts a xs (i+1)
theorem jek (x:List UInt8):q2k (ntl x)=q2k x:=by
 unfold ntl
 split
 ·rename_i h
  unfold q2k
  unfold Lx.qqu at h ⊢
  have h1:=Lx.j1b x 0 false []
  have h2:x.length≤(Lx.qbs x 0 false []).2:=List.drop_eq_nil_iff.1 h
  obtain ⟨o,ho⟩:=Lx.j5v [47,47,32,121] x 0 false [] (by omega)
  rw [ho,jfv 32 (by decide),Lx.q9q,show Lx.q1m 47=false from by decide,show Lx.isB 47=false from by decide]
  rfl
 ·rfl
theorem jbi (a:Nat) : ∀ (ls:List (List UInt8)) (i:Nat),Lns ls (nts a ls i)
 | [],_=>.nil
 | x::xs,i=>by
  have h:=jbi a xs (i+1)
  have h1:tx (q2k x)=tx (q2k (ntl x)):=by rw [jek]
  rw [nts]
  split
  ·exact .more (by decide +kernel) (.more rfl (.both h1 h))
  ·exact .both h1 h
theorem joo {x:List UInt8} (h : ∀ c∈x,Lx.okc c=true) : ∀ c∈ntl x,Lx.okc c=true:=by
 unfold ntl
 split
 ·intro c hc
  rcases List.mem_append.1 hc with hc|hc
  ·exact h c hc
  ·exact (show ∀ c∈([32,47,47,32,121]:List UInt8),Lx.okc c=true from by decide) c hc
 ·exact h
theorem jgz (a:Nat) : ∀ (ls:List (List UInt8)) (i:Nat),(∀ t∈ls,∀ c∈t,Lx.okc c=true)→∀ t∈nts a ls i,∀ c∈t,Lx.okc c=true
 | [],_,_,t,ht=>by cases ht
 | x::xs,i,h,t,ht=>by
  have ih:=jgz a xs (i+1) (fun t ht=>h t (List.mem_cons_of_mem _ ht))
  have hx:=joo (h x (List.mem_cons_self ..))
  rw [nts] at ht
  split at ht
  ·rcases List.mem_cons.1 ht with rfl|ht
   ·decide
   ·rcases List.mem_cons.1 ht with rfl|ht
    ·intro c hc;cases hc
    ·rcases List.mem_cons.1 ht with rfl|ht
     ·exact hx
     ·exact ih t ht
  ·rcases List.mem_cons.1 ht with rfl|ht
   ·exact hx
   ·exact ih t ht
theorem jfb : ∀ L:List (List UInt8),(nlT L).length=tot L
 | []=>rfl
 | t::L=>by rw [qew,tot,List.length_append,List.length_cons,jfb L];omega
theorem jgj (a:Nat) : ∀ (ls:List (List UInt8)) (i:Nat),tot (nts a ls i)≤tot ls+5*ls.length+(if i≤a then 8 else 0)
 | [],i=>by simp [nts,tot]
 | x::xs,i=>by
  have ih:=jgj a xs (i+1)
  have hx:(ntl x).length≤x.length+5:=by unfold ntl;split<;>simp
  rw [nts]
  split
  ·rename_i he
   rw [if_neg (show ¬ i+1≤a by omega)] at ih
   rw [if_pos (show i≤a by omega)]
   simp only [tot,List.length_cons,List.length_nil]
   omega
  ·simp only [tot,List.length_cons]
   split at ih<;>split<;>omega
theorem jce (a:Nat) : ∀ (ls:List (List UInt8)) (i:Nat),(nts a ls i).length=ls.length+(if i≤a∧a<i+ls.length then 2 else 0)
 | [],i=>by rw [if_neg (by simp only [List.length_nil];omega)];rfl
 | x::xs,i=>by
  have ih:=jce a xs (i+1)
  rw [nts]
  split
  ·rename_i he
   rw [if_neg (show ¬ (i+1≤a∧a<i+1+xs.length) by omega)] at ih
   rw [if_pos (show i≤a∧a<i+(x::xs).length by simp only [List.length_cons];omega)]
   simp only [List.length_cons,ih]
  ·rename_i he
   simp only [List.length_cons,ih]
   by_cases hc:i+1≤a∧a<i+1+xs.length
   ·rw [if_pos hc,if_pos (by omega)]<;>omega
   ·rw [if_neg hc,if_neg (by omega)]
theorem qbo (n:Nat) (hn:1000000<n) (a:Nat) (cnt:Int) (ls:List (List UInt8)) (hL:ls.length≤4000) (hx : ∀ x∈ls,x.length≤3000∧∀ c∈x,Lx.okc c=true) (mo go:List UInt8) (rq:List Rq) (sw:List Sw) (ex:List Rq) (rt:List Sp) : ∀ (m j:Nat) (t:List UInt8),j≤ls.length→ls.length - j<m→t.length≤10000*j →
  q2t n m (a:Int) cnt ls t (j:Int) mo go rq sw ex rt=some ((((a:Int),((),(cnt,(ls,(t++nlT (nts a (ls.drop j) j),()))))),(((mo,(go,(rq,(sw,(ex,rt))))),()),())))
 | 0,j,_,_,h,_=>absurd h (Nat.not_lt_zero _)
 | m+1,j,t,hj,h,ht=>by
  rw [qc6]
  unfold qck
  by_cases c0:j<ls.length
  ·have c0':((j:Nat):Int)<((ls.length:Nat):Int):=by omega
   obtain ⟨x1,x2⟩:=hx ls[j] (List.getElem_mem c0)
   have hone:Lx.qik n ls[j]=some (Lx.qqu ls[j],0):=by
    rw [Lx.jqu n ls[j] (by omega) (by omega)]
    unfold Lx.jt1
    rw [if_pos (List.all_eq_true.2 x2)]
   have ih:=fun t h=>qbo n hn a cnt ls hL hx mo go rq sw ex rt m (j+1) t (by omega) (by omega) h
   rw [List.drop_eq_getElem_cons c0,nts]
   simp only [c0',decide_true,cond_true,q1l c0,Option.bind_some,hone,q0b,q0g (show j<4611686018427387904 by omega)]
   by_cases ha:j=a
   ·have ha':((j:Nat):Int)=((a:Nat):Int):=by omega
    rw [decide_eq_true ha',cond_true,if_pos ha,qd4 (by first|omega|(simp only [List.length_append,List.length_cons,List.length_nil];omega)),Option.bind_some]
    by_cases hr:(Lx.qqu ls[j]).2 = []
    ·rw [decide_eq_true hr,cond_true,qd4 (by first|omega|(simp only [List.length_append,List.length_cons,List.length_nil];omega)),Option.bind_some,qd4 (by first|omega|(simp only [List.length_append,List.length_cons,List.length_nil];omega)),Option.bind_some,ih _ (by first|omega|(simp only [List.length_append,List.length_cons,List.length_nil];omega))]
     simp only [ntl,if_pos hr,qew,List.append_assoc,List.cons_append,List.nil_append]
    ·rw [decide_eq_false hr,cond_false,qd4 (by first|omega|(simp only [List.length_append,List.length_cons,List.length_nil];omega)),Option.bind_some,qd4 (by first|omega|(simp only [List.length_append,List.length_cons,List.length_nil];omega)),Option.bind_some,ih _ (by first|omega|(simp only [List.length_append,List.length_cons,List.length_nil];omega))]
     simp only [ntl,if_neg hr,qew,List.append_assoc,List.cons_append,List.nil_append]
   ·have ha' : ¬ ((j:Nat):Int)=((a:Nat):Int):=by omega
    rw [decide_eq_false ha',cond_false,if_neg ha]
    by_cases hr:(Lx.qqu ls[j]).2 = []
    ·rw [decide_eq_true hr,cond_true,qd4 (by first|omega|(simp only [List.length_append,List.length_cons,List.length_nil];omega)),Option.bind_some,qd4 (by first|omega|(simp only [List.length_append,List.length_cons,List.length_nil];omega)),Option.bind_some,ih _ (by first|omega|(simp only [List.length_append,List.length_cons,List.length_nil];omega))]
     simp only [ntl,if_pos hr,qew,List.append_assoc,List.cons_append,List.nil_append]
    ·rw [decide_eq_false hr,cond_false,qd4 (by first|omega|(simp only [List.length_append,List.length_cons,List.length_nil];omega)),Option.bind_some,qd4 (by first|omega|(simp only [List.length_append,List.length_cons,List.length_nil];omega)),Option.bind_some,ih _ (by first|omega|(simp only [List.length_append,List.length_cons,List.length_nil];omega))]
     simp only [ntl,if_neg hr,qew,List.append_assoc,List.cons_append,List.nil_append]
  ·have c0' : ¬ ((j:Nat):Int)<((ls.length:Nat):Int):=by omega
   simp only [c0',decide_false,cond_false]
   rw [List.drop_eq_nil_of_le (by omega)]
   simp [nts,nlT]
theorem jax (n:Nat) (hn:9223372036854775807<n) (hl:q3f n=some true) (s:List UInt8) (at_:Int):qb5 n s at_=some true:=by
 unfold qb5
 have g1:=gtI s 3000
 rw [show ((3000:Nat):Int)=(3000:Int) from rfl] at g1
 simp only [hl,Option.bind_some,g1]
 by_cases c1:s.length≤3000
 ·rw [decide_eq_true c1,Bool.not_true,cond_false]
  simp only [qnu n s (by omega) (by omega),Lx.jkv n s (show s.length≤100000 by omega) (by omega),Option.bind_some]
  by_cases c5:(qa6 s).2.2=0
  ·obtain ⟨σ,r1⟩:=jjf c5
   rw [decide_eq_true c5,Bool.not_true,cond_false]
   by_cases c2:at_<0
   ·rw [decide_eq_true c2,cond_true]
   ·rw [decide_eq_false c2,cond_false]
    by_cases c3:(((Lx.q0a s).length:Nat):Int)<at_
    ·rw [decide_eq_true c3,cond_true]
    ·rw [decide_eq_false c3,cond_false]
     obtain ⟨a,rfl⟩ : ∃ a:Nat,at_=(a:Int):=⟨at_.toNat,by omega⟩
     obtain ⟨l1,l2⟩:=Lx.q8a s
     have l3:=qw6 s
     have hlp:=qbo n (by omega) a (qa6 s).2.1 (Lx.q0a s) (by omega) (fun x hx=>⟨by have:=l2 x hx;omega,r1.okc x hx⟩) σ.mo σ.go σ.rq σ.sw σ.ex σ.rt n 0 [] (Nat.zero_le _) (by omega) (by simp)
     rw [zI,List.drop_zero,List.nil_append] at hlp
     have e0:qa6 s=(σ.md,((((Lx.q0a s).length:Nat):Int),0)):=qvo r1
     rw [e0] at hlp ⊢
     rw [show q2t n n ((a:Nat):Int) (σ.md,((((Lx.q0a s).length:Nat):Int),(0:Int))).2.1 (Lx.q0a s) [] 0 σ.md.1 σ.md.2.1 σ.md.2.2.1 σ.md.2.2.2.1 σ.md.2.2.2.2.1 σ.md.2.2.2.2.2=_ from hlp]
     have hok:=jgz a (Lx.q0a s) 0 r1.okc
     have hF:Lx.q0a (nlT (nts a (Lx.q0a s) 0))=nts a (Lx.q0a s) 0:=jk3 _ hok
     have hlen:(nlT (nts a (Lx.q0a s) 0)).length≤50000:=by
      rw [jfb]
      have:=jgj a (Lx.q0a s) 0
      rw [if_pos (Nat.zero_le _)] at this
      omega
     obtain ⟨τ,t1,t2,t3⟩:=(jbi a (Lx.q0a s) 0).read 0 0 0 0 ms0 ms0 σ (Sm.rfl' _) rfl r1.rd
     have i2:IsM (nlT (nts a (Lx.q0a s) 0)) τ:=⟨by rw [hF];exact hok,by rw [hF];exact t1,by rw [← t3];exact r1.bk,by rw [← t2.mo];exact r1.mo⟩
     have k1:ML 1000000 σ.md:=by
      have:=(jku s).mono (show _≤1000000 by omega)
      rw [qvo r1] at this;exact this
     have k2:ML 1000000 τ.md:=by rw [← t2.1];exact k1
     simp only [Option.bind_some,qnu n (nlT (nts a (Lx.q0a s) 0)) (by omega) (by omega),qvo i2,hF,jce]
     have eh:((σ.mo,(σ.go,(σ.rq,(σ.sw,(σ.ex,σ.rt))))):MD)=σ.md:=rfl
     by_cases c4:((a:Nat):Int)<(((Lx.q0a s).length:Nat):Int)
     ·have ew:IntKind.wrap .i64 ((((Lx.q0a s).length:Nat):Int)+2)=(((Lx.q0a s).length+2:Nat):Int):=by rw [wrap64 (by omega) (by omega)];omega
      rw [decide_eq_true c4,cond_true,if_pos ⟨Nat.zero_le _,by omega⟩,eh]
      simp only [decide_true,cond_true,q0b,ew,q6d n σ.md k1 (by omega),q6d n τ.md k2 (by omega),Option.bind_some,qhu n σ.md τ.md k1 (by omega),decide_eq_true t2.1]
     ·have ew:IntKind.wrap .i64 ((((Lx.q0a s).length:Nat):Int)+0)=(((Lx.q0a s).length+0:Nat):Int):=by rw [wrap64 (by omega) (by omega)];omega
      rw [decide_eq_false c4,cond_false,if_neg (by omega),eh]
      simp only [decide_true,cond_true,q0b,ew,q6d n σ.md k1 (by omega),q6d n τ.md k2 (by omega),Option.bind_some,qhu n σ.md τ.md k1 (by omega),decide_eq_true t2.1]
  ·rw [decide_eq_false c5];rfl
 ·rw [decide_eq_false c1];rfl
end Go.Proofs.YtapfankgdkdkgaaGreatDoor.AM
namespace Go.Proofs.YtapfankgdkdkgaaGreatDoor.AM
open Go.RowKit
set_option maxRecDepth 100000
abbrev j6l:Nat:=9223372036854775808
theorem jsn:q3f j6l=some true:=by kernel_rfl
end Go.Proofs.YtapfankgdkdkgaaGreatDoor.AM
namespace Go.Proofs.YtapfankgdkdkgaaGreatDoor.AM
open Go.RowKit
set_option linter.unusedVariables false
set_option maxRecDepth 100000
theorem quf (s:List UInt8) (a:Int) (_:s.length≤maxLen) (_:(Lit.int .i64 a).wf=true):qb5 j6l s a=some true:=jax j6l (by decide) jsn s a
end Go.Proofs.YtapfankgdkdkgaaGreatDoor.AM
namespace Go.Proofs.YtapfankgdkdkgaaGreatDoor.AM
open Go.RowKit
set_option linter.unusedVariables false
set_option linter.unusedSimpArgs false
theorem j4v : "*" ++ "errors.errorString" = "*errors.errorString":=by decide
theorem jd1 (u:TypeId) (h:Tryz.prog.typeName? 3 u=some "*errors.errorString"):u=276 :=
 typeName_ptr_named (nm := "errors.errorString") (by rw [j4v];kernel_rfl) (by kernel_rfl) (by decide) u (by rw [j4v];exact h)
theorem jsh:(Rows.laid_internal_strconv_uint64pow10:DataW Unit)=Lib.tabData .u64 Lib.pow10Tab:=by rfl
theorem jqw:Tryz.prog.globalNamed "internal/strconv.uint64pow10" = some ((Tryz.prog.globalNamed "internal/strconv.uint64pow10").getD 0)∧(Tryz.prog.globals[(Tryz.prog.globalNamed "internal/strconv.uint64pow10").getD 0]?).map (·.type)=some 251:=⟨by kernel_rfl,by kernel_rfl⟩
theorem jne:Tryz.prog.globalNamed "strconv.ErrSyntax" = some (Tryz.laysAtoi_ren.g 15)∧(Tryz.prog.globals[Tryz.laysAtoi_ren.g 15]?).map (·.type)=some 82:=⟨by kernel_rfl,by kernel_rfl⟩
theorem jnr:Tryz.prog.globalNamed "strconv.ErrRange" = some (Tryz.laysAtoi_ren.g 16)∧(Tryz.prog.globals[Tryz.laysAtoi_ren.g 16]?).map (·.type)=some 82:=⟨by kernel_rfl,by kernel_rfl⟩
theorem j0c:Tryz.prog.cellsOf 278=1:=by kernel_rfl
theorem qyj:Tryz.prog.cellsOf 9=1:=by kernel_rfl
theorem hEt:Tryz.prog.globalNamed "errors.errorType" = some 0:=by kernel_rfl
theorem hRt:(Tryz.prog.cutTypes.find? (·.1 == "internal/reflectlite.rtype")).map (·.2)=some 196:=by kernel_rfl
theorem hOne:((List.range 306).filter fun t=>Tryz.prog.rowNamed t [101,114,114,111,114]) = [82]:=by kernel_rfl
theorem hSize:Tryz.prog.types.size=306:=by kernel_rfl
theorem jru {w:World} (hsh:w.ShapedOpen Tryz.prog) (hLH:laidMetH Tryz.prog [("math/bits.deBruijn32tab",Rows.laid_math_bits_deBruijn32tab),("math/bits.deBruijn64tab",Rows.laid_math_bits_deBruijn64tab),("internal/strconv.uint64pow10",Rows.laid_internal_strconv_uint64pow10),("unicode/utf8.acceptRanges",Rows.laid_unicode_utf8_acceptRanges),("errors.errorType",Rows.laid_errors_errorType),("strconv.ErrRange",Rows.laid_strconv_ErrRange),("strconv.ErrSyntax",Rows.laid_strconv_ErrSyntax),("unicode/utf8.first",Rows.laid_unicode_utf8_first)] w):Inv w:=by
 have h':laidMet Tryz.prog [("math/bits.deBruijn32tab",Rows.laid_math_bits_deBruijn32tab),("math/bits.deBruijn64tab",Rows.laid_math_bits_deBruijn64tab),("internal/strconv.uint64pow10",Rows.laid_internal_strconv_uint64pow10),("unicode/utf8.acceptRanges",Rows.laid_unicode_utf8_acceptRanges),("strconv.ErrRange",Rows.laid_strconv_ErrRange),("strconv.ErrSyntax",Rows.laid_strconv_ErrSyntax),("unicode/utf8.first",Rows.laid_unicode_utf8_first)] w∧handlesMet Tryz.prog [("errors.errorType",Rows.laid_errors_errorType)] w:=hLH
 obtain ⟨name,u,ty,e1,e2,e3,e4,e5⟩:=h'.2 _ (List.mem_singleton.2 rfl)
 have en:name = [101,114,114,111,114]:=(Option.some.inj e1).symm
 subst en
 obtain rfl:=Option.some.inj (hRt.symm.trans e2)
 have hm:ty∈(List.range 306).filter fun t=>Tryz.prog.rowNamed t [101,114,114,111,114]:=List.mem_filter.2 ⟨List.mem_range.2 (by rw [← hSize];exact e3),e4⟩
 rw [hOne] at hm
 obtain rfl:=List.mem_singleton.1 hm
 have hh:typeHandle Tryz.prog 82 = .pointer (some ⟨9,82,none⟩):=by kernel_rfl
 rw [hh] at e5
 have hT:w.cell? ⟨0,0,none⟩=some (.iface 196 (.agg #[.pointer (some ⟨9,82,none⟩)])):=by simpa using World.var?_cell hEt e5 0
 have hL:=h'.1
 obtain ⟨m,hm⟩:=Tryz.laysIndex.s1_3 w hsh
 have h3:=hL.tail.tail
 rw [jsh] at h3
 have h5:=hL.tail.tail.tail.tail
 unfold Rows.laid_strconv_ErrRange at h5
 have h6:=hL.tail.tail.tail.tail.tail
 unfold Rows.laid_strconv_ErrSyntax at h6
 obtain ⟨a0,s0,hv0,-,-,-⟩:=laid_sentinel h5 jnr.1 jnr.2 Tryz.underlying82 jd1 Tryz.underlying276 Tryz.underlying278 rfl rfl Tryz.underlying9 j0c qyj
 obtain ⟨a1,s1,hv1,-,-,-⟩:=laid_sentinel h6 jne.1 jne.2 Tryz.underlying82 jd1 Tryz.underlying276 Tryz.underlying278 rfl rfl Tryz.underlying9 j0c qyj
 have c0:w.cell? ⟨Tryz.laysAtoi_ren.g 16,0,none⟩=some (.iface 276 (.pointer (some a0))):=by have h0:=World.var?_cell jnr.1 hv0 0;simpa using h0
 have c1:w.cell? ⟨Tryz.laysAtoi_ren.g 15,0,none⟩=some (.iface 276 (.pointer (some a1))):=by have h0:=World.var?_cell jne.1 hv1 0;simpa using h0
 exact ⟨hT,⟨m,hm⟩,Lib.tabIs_of_head jqw.1 jqw.2 (n:=20) (e:=231) (by kernel_rfl) (by kernel_rfl) (by kernel_rfl) (by kernel_rfl) h3,⟨_,_,c1⟩,⟨_,_,c0⟩⟩
noncomputable def wH (os:Os):World :=
 let w0:=World.holding Tryz.prog os ⟨#[],#[],[]⟩
 {w0 with heap:=w0.heap.modify 0 fun
   | .cells _ t frozen=>.cells #[.iface 196 (.agg #[.pointer (some ⟨9,82,none⟩)])] t frozen
   | o=>o }
noncomputable def laidW (os:Os) (laid:List (String×DataW Unit)):World:=(wH os).layVars Tryz.prog laid
theorem qv0 {os:Os} {laid:List (String×DataW Unit)} (args:Array Value) (hf:(wH os).layFits Tryz.prog laid []=true) (hi:(wH os).layIfaces Tryz.prog laid (laidW os laid)=true) :
  laidMet Tryz.prog laid ((laidW os laid).forCall (fun _ _=>0) ⟨#[],args,[]⟩).memory:=by
 have e1:(laid.filter fun x=>(laid.map (·.1)).contains x.1)=laid:=List.filter_eq_self.2 fun x hx=>List.contains_iff_mem.2 (List.mem_map.2 ⟨x,hx,rfl⟩)
 have e2:(laid.filter fun x=>!(laid.map (·.1)).contains x.1) = []:=List.filter_eq_nil_iff.2 fun x hx=>by rw [List.contains_iff_mem.2 (List.mem_map.2 ⟨x,hx,rfl⟩)];simp
 have h:laidMet Tryz.prog laid (laidW os laid):=laidMet_layVars (w0:=wH os) (laid.map (·.1)) [] (by rw [e1];rfl) (by rw [e1];exact hf) (by rw [e1];exact hi) (by rw [e2];exact LaidIn.none)
 exact h.of_heap (by simp [World.memory,World.forCall,Input.heap])
end Go.Proofs.YtapfankgdkdkgaaGreatDoor.AM
