
import Derived.Test.YthpgnliicpejoaaGreatDoorVt4
import Derived.WalkKit
import Derived.ProofKit
import Derived.Laws.BitsLemmas
import Derived.Below
import Derived.Deep.QuietTactic
import Derived.BigQuiet
import Derived.Laws.OwnMore
import Derived.Laws.IdiomStrings
import Derived.Laws.MakeOwn
import Derived.Lib.Builder
import Derived.Lib.UnsafeStr
import Derived.Lib.AppendStr
import Derived.Test.YthpgnliicpejoaaGreatDoorVt3
import Derived.Test.YthpgnliicpejoaaGreatDoorChecked
import Derived.OpenShut
import Derived.Lib.Hide
import Derived.Outline
import Derived.Handy
namespace Go.Proofs.YthpgnliicpejoaaGreatDoor
open Go.RowKit
namespace RM
def be4 (n:Int):List UInt8:=[UInt8.ofNat (n / 16777216 % 256).toNat,UInt8.ofNat (n / 65536 % 256).toNat,UInt8.ofNat (n / 256 % 256).toNat,UInt8.ofNat (n % 256).toNat]
def q6v (l:List UInt8):List UInt8:=l++List.replicate (32 - l.length) 0
def str (l:List UInt8):ByteArray:=⟨l.toArray⟩
@[simp] theorem q4v (l:List UInt8):(str l).size=l.length:=rfl
@[simp] theorem jj8 (l:List UInt8):(str l).data.toList=l:=rfl
theorem ja7 (n:Int):(be4 n).length=4:=rfl
theorem qwt (l:List UInt8) (h:l.length<=32):(q6v l).length=32:=by unfold q6v;simp;omega
theorem q46 (n:Int) (h0:0<=n) (h1:n<256):((UInt8.ofNat n.toNat).toNat:Int)=n:=by
 have:n.toNat<256:=by omega
 simp [Nat.mod_eq_of_lt this];omega
def num (l:List UInt8) (k:Nat):Int:=((l.getD k 0).toNat:Int)*16777216+((l.getD (k+1) 0).toNat:Int)*65536+((l.getD (k+2) 0).toNat:Int)*256+((l.getD (k+3) 0).toNat:Int)
theorem jsi (a b:Nat) (ha:a<2 ^ 63) (hb:b<2 ^ 63):bits .or .i64 (a:Int) (b:Int)=((a ||| b:Nat):Int) :=
 (bits_nat .i64 63 (by decide) (fun n h0 h1=>by rw [IntKind.wrap_i64];omega) a b ha hb).2
theorem jg2 (i a b:Nat) (hb:b<2 ^ i) (ha:2 ^ i*a<2 ^ 63) (hi:2 ^ i<=2 ^ 63):bits .or .i64 ((2 ^ i*a:Nat):Int) (b:Int)=((2 ^ i*a+b:Nat):Int):=by
 rw [jsi _ _ ha (Nat.lt_of_lt_of_le hb hi),Nat.two_pow_add_eq_or_of_lt hb]
theorem wrap_small (x:Int) (h0:0<=x) (h1:x<9223372036854775808):wrap64 x=x:=by unfold wrap64;omega
theorem jq1 (a b c d:Nat) (ha:a<256) (hb:b<256) (hc:c<256) (hd:d<256) :
  bits .or .i64 (bits .or .i64 (bits .or .i64 (wrap64 (wrap64 (a:Int)*16777216)) (wrap64 (wrap64 (b:Int)*65536))) (wrap64 (wrap64 (c:Int)*256))) (wrap64 (d:Int))=(a:Int)*16777216+(b:Int)*65536+(c:Int)*256+(d:Int):=by
 rw [wrap_small (a:Int) (by omega) (by omega),wrap_small (b:Int) (by omega) (by omega),wrap_small (c:Int) (by omega) (by omega),wrap_small (d:Int) (by omega) (by omega)]
 rw [wrap_small ((a:Int)*16777216) (by omega) (by omega),wrap_small ((b:Int)*65536) (by omega) (by omega),wrap_small ((c:Int)*256) (by omega) (by omega)]
 have e1:bits .or .i64 ((a:Int)*16777216) ((b:Int)*65536)=(((a*256+b)*65536:Nat):Int):=by
  have:=jg2 24 a (b*65536) (by omega) (by omega) (by decide)
  rw [show (a:Int)*16777216=((2 ^ 24*a:Nat):Int) from by omega,show (b:Int)*65536=((b*65536:Nat):Int) from by omega,this];omega
 rw [e1]
 have e2:bits .or .i64 (((a*256+b)*65536:Nat):Int) ((c:Int)*256)=((((a*256+b)*256+c)*256:Nat):Int):=by
  have:=jg2 16 (a*256+b) (c*256) (by omega) (by omega) (by decide)
  rw [show (((a*256+b)*65536:Nat):Int)=((2 ^ 16*(a*256+b):Nat):Int) from by omega,show (c:Int)*256=((c*256:Nat):Int) from by omega,this];omega
 rw [e2]
 have:=jg2 8 ((a*256+b)*256+c) d (by omega) (by omega) (by decide)
 rw [show ((((a*256+b)*256+c)*256:Nat):Int)=((2 ^ 8*((a*256+b)*256+c):Nat):Int) from by omega,this];omega
theorem jpk (n:Int) (h0:0<=n) (h1:n<4294967296):(be4 n).map (fun b=>Value.int .u8 (b.toNat:Int)) = [.int .u8 (n / 16777216),.int .u8 (n / 65536 % 256),.int .u8 (n / 256 % 256),.int .u8 (n % 256)]:=by
 simp only [be4,List.map_cons,List.map_nil]
 rw [q46 (n / 16777216 % 256) (by omega) (by omega),q46 (n / 65536 % 256) (by omega) (by omega),q46 (n / 256 % 256) (by omega) (by omega),q46 (n % 256) (by omega) (by omega),show n / 16777216 % 256=n / 16777216 from by omega]
def j33 (ns:List Int):List UInt8:=ns.flatMap be4
theorem qzl (ns:List Int):(j33 ns).length=4*ns.length:=by
 unfold j33
 induction ns with
 | nil=>rfl
 | cons a t ih=>rw [List.flatMap_cons,List.length_append,ih,ja7];simp;omega
theorem jdo (ns:List Int) (k:Nat) (h:k<ns.length):j33 (ns.take (k+1))=j33 (ns.take k)++be4 ns[k]:=by
 unfold j33
 rw [<-List.take_append_getElem h,List.flatMap_append];simp
def may (k g q z m:Int):Prop:=(k=1\/k=2)/\(0<=g/\g<=1073741824)/\(0<=q/\q<=65535)/\(0<=z/\z<=4096)/\SM.q2p m
instance (k g q z m:Int):Decidable (may k g q z m):=by unfold may;infer_instance
def qcw (k g q z m:Int):List UInt8:=q6v (72::UInt8.ofNat k.toNat::j33 [g,q,z,m])
def q3i (k g q z m:Int):ByteArray:=if may k g q z m then str (qcw k g q z m) else ByteArray.empty
end RM
end Go.Proofs.YthpgnliicpejoaaGreatDoor
namespace Go.Proofs.YthpgnliicpejoaaGreatDoor
open Go.RowKit
namespace RM
def q0u (n:Int):Int:=if 0<=n/\n<=4096 then (n+30) / 31 else -1
theorem q5v (s:ByteArray) (k j:Nat) (h:s.size=32) (hk:k+j<32):(s.extract k 32).data.toList.getD j 0=s.data.toList.getD (k+j) 0:=by
 have hs:s.data.size=32:=h
 rw [ByteArray.data_extract]
 simp only [List.getD,Array.getElem?_toList,Array.getElem?_extract]
 rw [if_pos (by omega)]
theorem j1k (s:ByteArray) (k:Nat) (h:s.size=32) (hk:k+4<=32):num (s.extract k 32).data.toList 0=num s.data.toList k:=by
 unfold num
 rw [q5v s k 0 h (by omega),q5v s k (0+1) h (by omega),q5v s k (0+2) h (by omega),q5v s k (0+3) h (by omega)]
 simp
theorem qw3 (l:List UInt8) (k:Nat):0<=num l k/\num l k<4294967296:=by
 unfold num
 have h0:=(l.getD k 0).toNat_lt
 have h1:=(l.getD (k+1) 0).toNat_lt
 have h2:=(l.getD (k+2) 0).toNat_lt
 have h3:=(l.getD (k+3) 0).toNat_lt
 omega
def q1u (s:ByteArray):Int:=((s.data.toList.getD 1 0).toNat:Int)
def q0i (s:ByteArray) (k:Nat):Int:=num s.data.toList k
def q1m (s:ByteArray):Prop:=s.size=32/\may (q1u s) (q0i s 2) (q0i s 6) (q0i s 10) (q0i s 14)/\str (qcw (q1u s) (q0i s 2) (q0i s 6) (q0i s 10) (q0i s 14))=s
instance (s:ByteArray):Decidable (q1m s):=by unfold q1m;infer_instance
def hd (k g q z m:Int):Value:=.agg #[.int .i64 k,.int .i64 g,.int .i64 q,.int .i64 z,.int .i64 m]
def qx1 (s:ByteArray):Value:=if q1m s then hd (q1u s) (q0i s 2) (q0i s 6) (q0i s 10) (q0i s 14) else hd 0 0 0 0 0
theorem q3k (s:ByteArray) (h : ¬ q1m s):qx1 s=hd 0 0 0 0 0:=if_neg h
theorem q7i (s:ByteArray) (h:q1m s):qx1 s=hd (q1u s) (q0i s 2) (q0i s 6) (q0i s 10) (q0i s 14):=if_pos h
theorem qkg {a b:ByteArray} (h:a.toList=b.toList):a=b:=by
 apply ByteArray.ext
 apply Array.ext'
 rw [<-ByteArray.toList_eq,<-ByteArray.toList_eq,h]
theorem qfg (s:ByteArray) (h1:may (q1u s) (q0i s 2) (q0i s 6) (q0i s 10) (q0i s 14)) (h2:(!(q3i (q1u s) (q0i s 2) (q0i s 6) (q0i s 10) (q0i s 14)).toList==s.toList)=true) : ¬ q1m s:=by
 rintro ⟨_,_,h3⟩
 unfold q3i at h2
 rw [if_pos h1,h3] at h2
 simp at h2
theorem q9b (s:ByteArray) (hz:s.size=32) (h1:may (q1u s) (q0i s 2) (q0i s 6) (q0i s 10) (q0i s 14)) (h2:(!(q3i (q1u s) (q0i s 2) (q0i s 6) (q0i s 10) (q0i s 14)).toList==s.toList)=false):q1m s:=by
 refine ⟨hz,h1,?_⟩
 unfold q3i at h2
 rw [if_pos h1] at h2
 exact qkg (by simpa using h2)
end RM
end Go.Proofs.YthpgnliicpejoaaGreatDoor
namespace Go.Proofs.YthpgnliicpejoaaGreatDoor
open Go.RowKit
namespace RM
def q2l (s:ByteArray):Nat:=if s.size<=4096 then (s.size+30) / 31 else 0
def sec (s:ByteArray) (i:Nat):ByteArray:=str (q6v (68::(s.data.toList.drop (31*i)).take 31))
def q59 (s:ByteArray):List ByteArray:=(List.range (q2l s)).map (sec s)
theorem q1k (s:ByteArray):(q59 s).length=q2l s:=by unfold q59;simp
theorem j7n (s:ByteArray):(max (q0u (s.size:Int)) 0)=(q2l s:Int):=by
 unfold q0u q2l
 by_cases h:s.size<=4096
 ·rw [if_pos (by omega),if_pos h];omega
 ·rw [if_neg (by omega),if_neg h];rfl
theorem q4q (s:ByteArray):q2l s<=133:=by unfold q2l;split<;>omega
theorem jct (s:ByteArray) (k:Nat) (h:k<q2l s):31*k<s.size/\s.size<=4096:=by
 unfold q2l at h
 split at h
 ·omega
 ·omega
theorem jmv (s:ByteArray) (k e:Nat) (he:e=min (31*k+31) s.size):str (q6v (((⟨#[68]⟩:ByteArray)++s.extract (31*k) e).data.toList))=sec s k:=by
 unfold sec
 congr 2
 rw [ByteArray.data_append,ByteArray.data_extract]
 have hs:s.data.toList.length=s.size:=by simp
 subst he
 simp only [Array.toList_append,Array.toList_extract,List.extract]
 rw [show ([68]++(List.drop (31*k) s.data.toList).take (min (31*k+31) s.size - 31*k):List UInt8)=68::(List.drop (31*k) s.data.toList).take (min (31*k+31) s.size - 31*k) from rfl]
 congr 1
 by_cases h:31*k+31<=s.size
 ·rw [Nat.min_eq_left h,show 31*k+31 - 31*k=31 from by omega]
 ·rw [Nat.min_eq_right (by omega),List.take_of_length_le (by simp),List.take_of_length_le (by simp;omega)]
theorem jj5 (s:ByteArray) (k:Nat):(List.range (k+1)).map (sec s)=(List.range k).map (sec s) ++ [sec s k]:=by
 rw [List.range_succ,List.map_append];rfl
theorem jkv (s:ByteArray):4096<s.size\/(s.size<=4096/\s.size<=31*q2l s):=by
 unfold q2l;split<;>omega
theorem jkt (s:ByteArray) (h:4096<s.size):q2l s=0:=by unfold q2l;rw [if_neg (by omega)]
def jrh (s:ByteArray) (k:Nat):List Value:=((List.range k).map (sec s)).map Value.string
theorem qzb (s:ByteArray) (k:Nat):jrh s k ++ [Value.string (sec s k)]=jrh s (k+1):=by unfold jrh;rw [jj5,List.map_append];rfl
theorem qtq (s:ByteArray):jrh s (q2l s)=(q59 s).map Value.string:=rfl
end RM
end Go.Proofs.YthpgnliicpejoaaGreatDoor
namespace Go.Proofs.YthpgnliicpejoaaGreatDoor
open Go.RowKit
namespace Lib
theorem q1t {B:Nat} {a w:World} (h:Below B a w) (n:Nat):Below B a (w.drewN n):=⟨h.os,h.tape,h.output,h.size,h.block⟩
structure BRow (w:World) (g:Nat) (l:List UInt8):Prop where
 cell : ∀j (h:j<l.length),w.cell? ⟨g,j,none⟩=some (.int .u8 (l[j].toNat:Int))
 free : ∀j,j<l.length->w.frozen? ⟨g,j,none⟩=false
theorem BRow.of_owns {w:World} {base:Nat} {e:TypeId} {g cap:Nat} {l:List UInt8} (h:w.ownsRow base e 1 (.slice (some ⟨g,0,none⟩) l.length cap) l.length (l.map (fun b=>Value.int .u8 (b.toNat:Int)))):BRow w g l:=by
 refine ⟨fun j hj=>?_,fun j _=>h.frozenAt j⟩
 rw [h.cellAt j (by omega)];simp [hj]
theorem BRow.set {w:World} {g:Nat} {l:List UInt8} (h:BRow w g l) (i:Nat) (hi:i<l.length) (c:UInt8):BRow (w.setCell ⟨g,i,none⟩ (.int .u8 (c.toNat:Int))) g (l.set i c):=by
 refine ⟨fun j hj=>?_,fun j hj=>?_⟩
 ·have hj':j<l.length:=by simpa using hj
  by_cases e:i=j
  ·subst e
   rw [World.cell?_setCell_same _ _ _ (h.cell i hi),List.getElem_set_self]
  ·rw [World.cell?_setCell_other _ _ _ _ (by simp),h.cell j hj',List.getElem_set_ne e]
 ·rw [World.frozen?_setCell];exact h.free j (by simpa using hj)
theorem BRow.drewN {w:World} {g:Nat} {l:List UInt8} (h:BRow w g l) (n:Nat):BRow (w.drewN n) g l:=⟨h.cell,h.free⟩
theorem BRow.below {w w':World} {g B:Nat} {l:List UInt8} (h:BRow w g l) (hb:Below B w w') (hg:g<B):BRow w' g l :=
 ⟨fun j hj=>(hb.cell (p:=⟨g,j,none⟩) hg).trans (h.cell j hj),fun j hj=>(hb.frozen (p:=⟨g,j,none⟩) hg).trans (h.free j hj)⟩
theorem BRow.made (w:World) (s:ByteArray) (t:TypeId) (cap:Nat):BRow (w.drew.alloc (.cells (bytesRow s cap) t ((bytesRow s cap).size,(bytesRow s cap).size+1))) w.heap.size s.data.toList:=by
 have hs:s.size<=(bytesRow s cap).size:=by unfold bytesRow;simp
 refine ⟨fun j hj=>?_,fun j hj=>?_⟩
 ·have:=World.cell?_alloc_mark w.drew (bytesRow s cap) t ((bytesRow s cap).size,(bytesRow s cap).size+1) j
  rw [show w.heap.size=w.drew.heap.size from rfl,this,bytesRow_at s cap j (by simpa using hj)]
  simp
 ·have:=World.frozen?_alloc_mark w.drew (bytesRow s cap) t (bytesRow s cap).size ((bytesRow s cap).size+1) j
  rw [show w.heap.size=w.drew.heap.size from rfl,this]
  have:j<s.size:=by simpa using hj
  simp;omega
section
variable {P:Program} {ops:Array Oper} {rest:List Oper} {o:Oper} {a:Act} {Q:Exit->Act->World->Prop}
theorem qhc (w:World) (src dst e:TypeId) (g cap:Nat) (l:List UInt8) (hs:P.underlying src=some (.slice e)) (he:P.underlying e=some (.int .u8)) (hd:P.underlying dst=some .string)
  (h:BRow w g l):(convert src dst (.slice (some ⟨g,0,none⟩) l.length cap)).run P w = .ok (.string ⟨l.toArray⟩) w :=
 run_convert_bytes_back w src dst e ⟨g,0,none⟩ cap l hs he hd (fun j hj=>by
  have:((⟨g,0,none⟩:Addr).add j)=⟨g,j,none⟩:=by simp [Addr.add];omega
  rw [this];exact h.cell j hj)
end
end Lib
end Go.Proofs.YthpgnliicpejoaaGreatDoor
namespace Go.Proofs.YthpgnliicpejoaaGreatDoor
open Go.RowKit
namespace RM
def qok (l:List ByteArray):List UInt8:=l.flatMap (fun x=>x.data.toList.drop 1)
theorem qyd (l:List ByteArray) (k:Nat) (h:k<l.length):qok (l.take (k+1))=qok (l.take k)++l[k].data.toList.drop 1:=by
 unfold qok
 rw [<-List.take_append_getElem h,List.flatMap_append];simp
theorem q5b (l:List ByteArray) (h : ∀x∈l,x.size=32):(qok l).length=31*l.length:=by
 unfold qok
 induction l with
 | nil=>rfl
 | cons a t ih =>
  rw [List.flatMap_cons,List.length_append,ih (fun x hx=>h x (List.mem_cons_of_mem _ hx))]
  have:=h a (List.mem_cons_self ..)
  have h2:a.data.toList.length=a.size:=by simp
  simp only [List.length_drop,List.length_cons];omega
def qbj (l:List ByteArray) (size:Int):ByteArray:=str ((qok l).take size.toNat)
def q38 (l:List ByteArray) (size:Int):Prop:=(l.length:Int)=q0u size/\(∀x∈l,x.size=32)/\q59 (qbj l size)=l
instance (l:List ByteArray) (size:Int):Decidable (q38 l size):=by unfold q38;infer_instance
def qfj (l:List ByteArray) (size:Int):ByteArray:=if q38 l size then qbj l size else ⟨#[]⟩
theorem qkq (l:List ByteArray) (size:Int) (h:q38 l size):qfj l size=qbj l size:=if_pos h
theorem qb3 (l:List ByteArray) (size:Int) (h : ¬ q38 l size):qfj l size=⟨#[]⟩:=if_neg h
theorem qj9 (n:Nat) (size:Int) (h:(n:Int)=q0u size):0<=size/\size<=4096/\size<=31*n/\n<=133:=by
 unfold q0u at h
 split at h<;>omega
def SV (w:World) (v:Value) (l:List ByteArray):Prop:=∃ a cap,v = .slice a l.length cap/\(0<l.length->∃ b off,a=some ⟨b,off,none⟩/\b<w.heap.size/\∀j (h:j<l.length),w.cell? ⟨b,off+j,none⟩=some (.string l[j]))
theorem SV.below {w w':World} {v:Value} {l:List ByteArray} (h:SV w v l) (hb:Below w.heap.size w w'):SV w' v l:=by
 obtain ⟨a,cap,h1,h2⟩:=h
 refine ⟨a,cap,h1,fun h0=>?_⟩
 obtain ⟨b,off,h3,h4,h5⟩:=h2 h0
 exact ⟨b,off,h3,Nat.lt_of_lt_of_le h4 hb.size,fun j hj=>(hb.cell (p:=⟨b,off+j,none⟩) h4).trans (h5 j hj)⟩
theorem SV.drewN {w:World} {v:Value} {l:List ByteArray} (h:SV w v l) (n:Nat):SV (w.drewN n) v l:=h
theorem SV.of_owns {w:World} {base:Nat} {e:TypeId} {v:Value} {l:List ByteArray} {n:Nat} (hn:n=l.length) (h:w.ownsRow base e 1 v n (l.map Value.string)):SV w v l:=by
 subst hn
 have h':=h
 obtain ⟨h0,h1|⟨g,cap,cur,h1,h2,h3,h4⟩⟩:=h
 ·exact ⟨none,0,by rw [h1.1,h1.2],fun hp=>absurd h1.2 (by omega)⟩
 ·refine ⟨_,cap,h1,fun hp=>⟨g,0,rfl,(Array.getElem?_eq_some_iff.1 h3).1,fun j hj=>?_⟩⟩
  subst h1
  rw [show (⟨g,0+j,none⟩:Addr)=⟨g,j,none⟩ from by simp,h'.cellAt j (by omega)]
  simp [hj]
theorem j4c (L:List UInt8) (n:Nat):(str L).extract 0 n=str (L.take n):=by
 apply ByteArray.ext
 rw [ByteArray.data_extract]
 simp [str]
theorem js7 (x:ByteArray) (h:x.size=32):(x.extract 1 32).data.toList=x.data.toList.drop 1:=by
 have h2:x.data.toList.length=32:=by simp;exact h
 rw [ByteArray.data_extract,Array.toList_extract,List.extract,List.take_of_length_le (by simp;omega)]
theorem qp3 (l:List ByteArray) (size:Int) (k:Nat) (h:k<l.length) (hx:l[k].size≠32) : ¬ q38 l size:=fun x=>hx (x.2.1 _ (List.getElem_mem h))
theorem jal (l:List ByteArray) (h : ∀j (_:j<l.length),l[j].size=32) : ∀x∈l,x.size=32:=by
 intro x hx
 obtain ⟨j,hj,rfl⟩:=List.getElem_of_mem hx
 exact h j hj
theorem qr5 (l:List ByteArray) (n:Nat) (h : ∀x∈l,x.size=32) (hn:n<=31*l.length):(qbj l (n:Int)).size=n:=by
 unfold qbj;rw [q4v,List.length_take,q5b l h];simp;omega
theorem jdl (l:List ByteArray) (n:Nat) (h : ∀x∈l,x.size=32) (hc:(l.length:Int)=q0u (n:Int)):q2l (qbj l (n:Int))=l.length:=by
 have h1:=qj9 l.length n hc
 unfold q2l
 rw [qr5 l n h (by omega)]
 unfold q0u at hc
 split at hc
 ·rw [if_pos (by omega)];omega
 ·omega
end RM
end Go.Proofs.YthpgnliicpejoaaGreatDoor
namespace Go.Proofs.YthpgnliicpejoaaGreatDoor
open Go.RowKit
set_option linter.unusedVariables false
namespace DM
abbrev Wr:=Int×ByteArray
structure Dk where
 secs:List ByteArray
 cache:List Wr
deriving DecidableEq
def wOk (n:Nat) (p:Wr):Prop:=0<=p.1/\p.1<(n:Int)/\p.2.size=32
instance (n:Nat) (p:Wr):Decidable (wOk n p):=by unfold wOk;infer_instance
def q2y (d:Dk):Prop:=1<=d.secs.length/\d.secs.length<=512/\(∀s∈d.secs,s.size=32)/\(∀p∈d.cache,wOk d.secs.length p)
instance (d:Dk):Decidable (q2y d):=by unfold q2y;infer_instance
def qop (s:ByteArray):ByteArray:=RM.str (RM.q6v s.data.toList)
theorem j7y (s:ByteArray) (h:s.size<=32):(qop s).size=32:=by unfold qop;rw [RM.q4v,RM.qwt _ (by simpa using h)]
def inD (n:Nat) (i:Int):Prop:=0<=i/\i<(n:Int)
instance (n:Nat) (i:Int):Decidable (inD n i):=by unfold inD;infer_instance
def q8q (n:Nat) (i:Int) (data:ByteArray):Int:=if inD n i then (if 32<data.size then 2 else 0) else 1
def jrc (d:Dk) (i:Int) (data:ByteArray):Dk:=⟨d.secs,d.cache ++ [(i,qop data)]⟩
def qqj (d:Dk) (i:Int) (data:ByteArray):Dk:=if q8q d.secs.length i data=0 then jrc d i data else d
def jfs (d:Dk) (i:Int) (data:ByteArray):Int:=if q2y d then q8q d.secs.length i data else 1
def jaj (d:Dk) (i:Int) (data:ByteArray):Dk:=if q2y d then qqj d i data else d
def q9z (x:ByteArray) (l:List Wr) (i:Int):ByteArray:=l.foldl (fun x p=>if p.1=i then p.2 else x) x
def qx0 (d:Dk) (i:Int):Prop:=q2y d/\inD d.secs.length i
instance (d:Dk) (i:Int):Decidable (qx0 d i):=by unfold qx0;infer_instance
def jai (d:Dk) (i:Int):ByteArray:=if qx0 d i then q9z (d.secs.getD i.toNat ⟨#[]⟩) d.cache i else ⟨#[]⟩
def jja (d:Dk) (i:Int):Int:=if qx0 d i then 0 else 1
def q19 (keep:Nat->Bool) (secs:List ByteArray) (cache:List Wr):Nat->List ByteArray
 | 0=>secs
 | k+1=>if keep k then (q19 keep secs cache k).set (cache.getD k (0,⟨#[]⟩)).1.toNat (cache.getD k (0,⟨#[]⟩)).2 else q19 keep secs cache k
theorem q1w (keep:Nat->Bool) (secs:List ByteArray) (cache:List Wr) (k:Nat):(q19 keep secs cache k).length=secs.length:=by
 induction k with
 | zero=>rfl
 | succ k ih=>unfold q19;split<;>simp [ih]
def q3r (keep:Nat->Bool) (d:Dk):Dk:=⟨q19 keep d.secs d.cache d.cache.length,[]⟩
def q3f (keep:Nat->Bool) (d:Dk):Dk:=if q2y d then q3r keep d else d
def qxa (d:Dk):Int:=if q2y d then 0 else 1
def q77 (l:List Wr):List Value:=l.flatMap (fun p=>[.int .i64 p.1,.string p.2])
theorem qf0 (l:List Wr):(q77 l).length=l.length*2:=by
 unfold q77
 induction l with
 | nil=>rfl
 | cons a t ih=>rw [List.flatMap_cons,List.length_append,ih];simp;omega
theorem qx5 (l:List Wr) (k:Nat) (h:k<l.length):(q77 l)[k*2]? = some (.int .i64 l[k].1)/\(q77 l)[k*2+1]? = some (.string l[k].2):=by
 induction l generalizing k with
 | nil=>simp at h
 | cons a t ih =>
  cases k with
  | zero=>exact ⟨rfl,rfl⟩
  | succ k =>
   have:=ih k (by simpa using h)
   unfold q77 at this ⊢
   rw [show (k+1)*2=k*2+2 from by omega,show k*2+2+1=(k*2+1)+2 from by omega]
   simp only [List.flatMap_cons,List.cons_append,List.nil_append,List.getElem?_cons_succ,List.getElem_cons_succ]
   exact this
def WV (w:World) (v:Value) (l:List Wr):Prop:=∃ a cap,v = .slice a l.length cap/\(0<l.length->∃ b off,a=some ⟨b,off,none⟩/\b<w.heap.size/\∀k (h:k<l.length),w.cell? ⟨b,off+k*2,none⟩=some (.int .i64 l[k].1)/\w.cell? ⟨b,off+k*2+1,none⟩=some (.string l[k].2))
theorem WV.below {w w':World} {v:Value} {l:List Wr} (h:WV w v l) (hb:Below w.heap.size w w'):WV w' v l:=by
 obtain ⟨a,cap,h1,h2⟩:=h
 refine ⟨a,cap,h1,fun h0=>?_⟩
 obtain ⟨b,off,h3,h4,h5⟩:=h2 h0
 exact ⟨b,off,h3,Nat.lt_of_lt_of_le h4 hb.size,fun k hk=>⟨(hb.cell (p:=⟨b,off+k*2,none⟩) h4).trans (h5 k hk).1,(hb.cell (p:=⟨b,off+k*2+1,none⟩) h4).trans (h5 k hk).2⟩⟩
theorem WV.of_owns {w:World} {base:Nat} {e:TypeId} {v:Value} {l:List Wr} {n:Nat} (hn:n=l.length) (h:w.ownsRow base e 2 v n (q77 l)):WV w v l:=by
 subst hn
 have h':=h
 obtain ⟨h0,h1|⟨g,cap,cur,h1,h2,h3,h4⟩⟩:=h
 ·exact ⟨none,0,by rw [h1.1,h1.2],fun hp=>absurd h1.2 (by omega)⟩
 ·refine ⟨_,cap,h1,fun hp=>⟨g,0,rfl,(Array.getElem?_eq_some_iff.1 h3).1,fun k hk=>?_⟩⟩
  subst h1
  have:=qx5 l k hk
  rw [show (⟨g,0+k*2,none⟩:Addr)=⟨g,k*2,none⟩ from by simp,show (⟨g,0+k*2+1,none⟩:Addr)=⟨g,k*2+1,none⟩ from by simp,h'.cellAt (k*2) (by omega),h'.cellAt (k*2+1) (by omega)]
  exact this
theorem WV.nil (w:World) (a:Option Addr) (cap:Nat):WV w (.slice a 0 cap) []:=⟨a,cap,rfl,fun h=>by simp at h⟩
def DV (w:World) (v1 v2:Value) (d:Dk):Prop:=RM.SV w v1 d.secs/\WV w v2 d.cache
theorem DV.below {w w':World} {v1 v2:Value} {d:Dk} (h:DV w v1 v2 d) (hb:Below w.heap.size w w'):DV w' v1 v2 d:=⟨h.1.below hb,h.2.below hb⟩
theorem DV.len {w:World} {a1 a2:Option Addr} {n k1 m k2:Nat} {d:Dk} (h:DV w (.slice a1 n k1) (.slice a2 m k2) d):d.secs.length=n/\d.cache.length=m:=by
 obtain ⟨⟨x,y,h1,_⟩,⟨z,t,h2,_⟩⟩:=h
 simp only [Value.slice.injEq] at h1 h2
 exact ⟨h1.2.1.symm,h2.2.1.symm⟩
def Box (w:World) (b:Nat) (v1 v2:Value):Prop:=b<w.heap.size/\w.cell? ⟨b,0,none⟩=some v1/\w.cell? ⟨b,1,none⟩=some v2
theorem Box.set {w w':World} {b B:Nat} {v1 v2:Value} (h:Box w b v1 v2) (hb:Below B w w') (hB:b<B):Box w' b v1 v2 :=
 ⟨Nat.lt_of_lt_of_le h.1 hb.size,(hb.cell (p:=⟨b,0,none⟩) hB).trans h.2.1,(hb.cell (p:=⟨b,1,none⟩) hB).trans h.2.2⟩
theorem Box.below {w w':World} {b:Nat} {v1 v2:Value} (h:Box w b v1 v2) (hb:Below w.heap.size w w'):Box w' b v1 v2:=h.set hb h.1
structure Var (w:World) (b:Nat) (v1 v2:Value):Prop where
 lt:b<w.heap.size
 c0:w.cell? ⟨b,0,none⟩=some v1
 c1:w.cell? ⟨b,1,none⟩=some v2
 f0:w.frozen? ⟨b,0,none⟩=false
 f1:w.frozen? ⟨b,1,none⟩=false
theorem Var.set {w w':World} {b B:Nat} {v1 v2:Value} (h:Var w b v1 v2) (hb:Below B w w') (hB:b<B):Var w' b v1 v2 :=
 ⟨Nat.lt_of_lt_of_le h.lt hb.size,(hb.cell (p:=⟨b,0,none⟩) hB).trans h.c0,(hb.cell (p:=⟨b,1,none⟩) hB).trans h.c1,(hb.frozen (p:=⟨b,0,none⟩) hB).trans h.f0,(hb.frozen (p:=⟨b,1,none⟩) hB).trans h.f1⟩
theorem Var.below {w w':World} {b:Nat} {v1 v2:Value} (h:Var w b v1 v2) (hb:Below w.heap.size w w'):Var w' b v1 v2:=h.set hb h.lt
theorem Var.box {w:World} {b:Nat} {v1 v2:Value} (h:Var w b v1 v2):Box w b v1 v2:=⟨h.lt,h.c0,h.c1⟩
theorem Var.made (w:World) (v1 v2:Value) (T:TypeId):Var (w.alloc (.cells #[v1,v2] T)) w.heap.size v1 v2:=⟨by simp,by go_simp,by go_simp,by go_simp,by go_simp⟩
structure But (R:Nat->Prop) (w w':World):Prop where
 os:w'.os=w.os
 tape:w'.tape=w.tape
 output:w'.output=w.output
 size:w.heap.size<=w'.heap.size
 block : ∀k,k<w.heap.size->¬ R k->w'.heap[k]? = w.heap[k]?
variable {R R':Nat->Prop} {a b c w w':World}
theorem But.refl (R:Nat->Prop) (w:World):But R w w:=⟨rfl,rfl,rfl,Nat.le_refl _,fun _ _ _=>rfl⟩
theorem But.trans (h:But R a b) (k:But R' b c) (hr : ∀j,R' j->R j\/a.heap.size<=j):But R a c :=
 ⟨k.os.trans h.os,k.tape.trans h.tape,k.output.trans h.output,Nat.le_trans h.size k.size,fun i hi hn=>(k.block i (Nat.lt_of_lt_of_le hi h.size) (fun hx=>by rcases hr i hx with h1|h1;exact hn h1;omega)).trans (h.block i hi hn)⟩
theorem But.of_below (h:Below w.heap.size w w'):But R w w':=⟨h.os,h.tape,h.output,h.size,fun k hk _=>h.block k hk⟩
theorem But.to_below {B:Nat} (h:But R w w') (hB:B<=w.heap.size) (hR : ∀k,R k->B<=k):Below B w w' :=
 ⟨h.os,h.tape,h.output,h.size,fun k hk=>h.block k (by omega) (fun hx=>by have:=hR k hx;omega)⟩
theorem But.below (h:But R a b) (k:Below b.heap.size b c):But R a c:=h.trans (But.of_below (R:=R) k) (fun _=>Or.inl)
theorem But.alloc (h:But R a w) (o:Obj):But R a (w.alloc o):=h.below ((Below.refl _ _).alloc (Nat.le_refl _) _)
theorem But.drew (h:But R a w):But R a w.drew:=⟨h.os,h.tape,h.output,h.size,h.block⟩
theorem But.drewN (h:But R a w) (n:Nat):But R a (w.drewN n):=⟨h.os,h.tape,h.output,h.size,h.block⟩
theorem But.setCell (h:But R a w) {p:Addr} (hp:R p.block\/a.heap.size<=p.block) (u:Value):But R a (w.setCell p u) :=
 ⟨h.os,h.tape,h.output,by simpa using h.size,fun k hk hn=>(Below.heap_setCell _ _ _ _ (fun e=>by subst e;rcases hp with h1|h1;exact hn h1;omega)).trans (h.block k hk hn)⟩
theorem But.grown (h:But R a w) {row:Option Nat} (hg:w.grownBy w' row) (hr : ∀k,row=some k->R k\/a.heap.size<=k):But R a w' :=
 ⟨hg.os.trans h.os,hg.tape.trans h.tape,hg.output.trans h.output,Nat.le_trans h.size hg.size,fun k hk hn=>(hg.block k (Nat.lt_of_lt_of_le hk h.size) (fun e=>by rcases hr k e.symm with h1|h1;exact hn h1;omega)).trans (h.block k hk hn)⟩
theorem But.cell (h:But R w w') {p:Addr} (hp:p.block<w.heap.size) (hn : ¬ R p.block):w'.cell? p=w.cell? p:=World.cell?_of_block (h.block p.block hp hn)
theorem But.frozen (h:But R w w') {p:Addr} (hp:p.block<w.heap.size) (hn : ¬ R p.block):w'.frozen? p=w.frozen? p:=World.frozen?_of_block (h.block p.block hp hn)
theorem But.box {b:Nat} {v1 v2:Value} (h:But R w w') (k:Box w b v1 v2) (hn : ¬ R b):Box w' b v1 v2 :=
 ⟨Nat.lt_of_lt_of_le k.1 h.size,(h.cell (p:=⟨b,0,none⟩) k.1 hn).trans k.2.1,(h.cell (p:=⟨b,1,none⟩) k.1 hn).trans k.2.2⟩
theorem But.var {b:Nat} {v1 v2:Value} (h:But R w w') (k:Var w b v1 v2) (hn : ¬ R b):Var w' b v1 v2 :=
 ⟨Nat.lt_of_lt_of_le k.lt h.size,(h.cell (p:=⟨b,0,none⟩) k.lt hn).trans k.c0,(h.cell (p:=⟨b,1,none⟩) k.lt hn).trans k.c1,(h.frozen (p:=⟨b,0,none⟩) k.lt hn).trans k.f0,(h.frozen (p:=⟨b,1,none⟩) k.lt hn).trans k.f1⟩
theorem But.owns {base:Nat} {e:TypeId} {size:Nat} {v:Value} {n:Nat} {xs:List Value} (h:But R w w') (k:w.ownsRow base e size v n xs) (hn : ∀g,v.ownBlock=some g->¬ R g):w'.ownsRow base e size v n xs:=by
 obtain ⟨h0,h1⟩:=k
 refine ⟨h0,?_⟩
 rcases h1 with h1|⟨g,cap,cur,h1,h2,h3,h4⟩
 ·exact .inl h1
 ·exact .inr ⟨g,cap,cur,h1,h2,(h.block g (Array.getElem?_eq_some_iff.1 h3).1 (hn g (by rw [h1];rfl))).trans h3,h4⟩
structure OD (w:World) (base:Nat) (T1 T2:TypeId) (v1 v2:Value) (d:Dk):Prop where
 secs:w.ownsRow base T1 1 v1 d.secs.length (d.secs.map Value.string)
 cache:w.ownsRow base T2 2 v2 d.cache.length (q77 d.cache)
 apart : ∀g,v1.ownBlock=some g->v2.ownBlock≠some g
def j9z (v1 v2:Value) (k:Nat):Prop:=v1.ownBlock=some k\/v2.ownBlock=some k
theorem OD.dv {base:Nat} {T1 T2:TypeId} {v1 v2:Value} {d:Dk} (h:OD w base T1 T2 v1 v2 d):DV w v1 v2 d:=⟨RM.SV.of_owns rfl h.secs,WV.of_owns rfl h.cache⟩
theorem OD.ge {base:Nat} {T1 T2:TypeId} {v1 v2:Value} {d:Dk} (h:OD w base T1 T2 v1 v2 d) (k:Nat) (hk:j9z v1 v2 k):base<=k/\k<w.heap.size:=by
 rcases hk with hk|hk
 ·exact h.secs.lt k hk
 ·exact h.cache.lt k hk
theorem OD.below {base:Nat} {T1 T2:TypeId} {v1 v2:Value} {d:Dk} (h:OD w base T1 T2 v1 v2 d) (hb:Below w.heap.size w w'):OD w' base T1 T2 v1 v2 d :=
 ⟨(But.of_below (R:=fun _=>False) hb).owns h.secs (fun _ _ h=>h),(But.of_below (R:=fun _=>False) hb).owns h.cache (fun _ _ h=>h),h.apart⟩
theorem OD.but {base:Nat} {T1 T2:TypeId} {v1 v2:Value} {d:Dk} (h:OD w base T1 T2 v1 v2 d) (hb:But R w w') (hn : ∀k,j9z v1 v2 k->¬ R k):OD w' base T1 T2 v1 v2 d :=
 ⟨hb.owns h.secs (fun g hg=>hn g (Or.inl hg)),hb.owns h.cache (fun g hg=>hn g (Or.inr hg)),h.apart⟩
end DM
end Go.Proofs.YthpgnliicpejoaaGreatDoor
namespace Go.Proofs.YthpgnliicpejoaaGreatDoor.AM
open Go.RowKit
set_option linter.unusedSimpArgs false
set_option linter.unusedVariables false
def pad (s:ByteArray) (k:Nat):ByteArray:=RM.str (s.data.toList++List.replicate k 0)
theorem jlv (s:ByteArray):pad s 0=s:=by unfold pad;simp [RM.str]
theorem jkp (s:ByteArray) (k:Nat):(pad s k).size=s.size+k:=by unfold pad;rw [RM.q4v];simp
theorem jih (s:ByteArray) (k:Nat):pad s k++⟨#[0]⟩=pad s (k+1):=by
 unfold pad
 apply RM.qkg
 rw [ByteArray.toList_eq,ByteArray.toList_eq]
 simp [RM.str,List.replicate_succ']
set_option maxHeartbeats 400000 in
theorem j3t {G:World->Prop} (hG:qt8 G) (s:ByteArray) (hs:s.size<=1000):q15 Tryz.prog G 59 [q21 (.string s)] (q21 (.string (DM.qop s))):=by
 refine q2w Tryz.func59 rfl (by simp [Tryz.ntmps59]) hG ?_;intro F hF hFG Q hQ;rw [Tryz.ntmps59] at hF;rw [Tryz.results59] at hQ
 repeat (first|((first|refine q00 (by rw [hF];kernel_rfl) ?_|refine q03 (by rw [hF];kernel_rfl) ?_);(repeat (refine q0b fun K1 hK1=>?_;simp only [push_cast];(try simp (disch:=omega) only [wrap64,q0m]);(first|refine hK1 _ ?_|refine ⟨by omega,hK1 _ ?_⟩);clear hK1 K1));refine q0g ?_)|refine q0e ?_|refine q08 ?_|refine q0d ?_|refine q0c ?_|refine q0f ?_|refine q02 ?_|refine q07 ?_|refine q09 ?_|refine q01 ?_|refine q0a ?_|refine q06 ?_|refine q04 rfl ?_)
 refine q3e (fun n σ=>∃ k,(k=0\/s.size+k<=32)/\n=32 - (s.size+k)/\σ=St.of [(0,q21 (.string (pad s k)))] [] []) (32 - s.size) (St.of [(0,q21 (.string (pad s 0)))] [] []) ⟨0,Or.inl rfl,by simp,rfl⟩ ?_ ?_
 ·rw [jlv];(refine Le.of ?_ ?_ ?_<;>simp only [List.not_mem_nil,false_implies,implies_true,and_true,push_cast,reduceCtorEq])
 ·rintro n σ ⟨k,hk,rfl,rfl⟩
  have hp:=jkp s k
  by_cases h:(s.size:Int)+(k:Int)<32
  ·repeat (first|((first|refine q00 (by rw [hF];kernel_rfl) ?_|refine q03 (by rw [hF];kernel_rfl) ?_);(repeat (refine q0b fun K1 hK1=>?_;simp only [push_cast,Nat.reduceEqDiff,Nat.reduceBEq,decide_true,hp,h];(try simp (disch:=omega) only [wrap64,q0m]);(first|refine hK1 _ ?_|refine ⟨by omega,hK1 _ ?_⟩);clear hK1 K1));refine q0g ?_)|refine q0e ?_|refine q08 ?_|refine q0d ?_|refine q0c ?_|refine q0f ?_|refine q02 ?_|refine q07 ?_|refine q09 ?_|refine q01 ?_|refine q0a ?_|refine q06 ?_|refine q04 rfl ?_)
   refine q0q (by simp only [push_cast,Nat.reduceEqDiff,Nat.reduceBEq]) ?_
   repeat (first|((first|refine q00 (by rw [hF];kernel_rfl) ?_|refine q03 (by rw [hF];kernel_rfl) ?_);(repeat (refine q0b fun K1 hK1=>?_;simp only [push_cast,Nat.reduceEqDiff,reduceCtorEq,Nat.reduceLeDiff,Nat.reduceBEq,hp];(try simp (disch:=omega) only [wrap64,q0m]);(first|refine hK1 _ ?_|refine ⟨by omega,hK1 _ ?_⟩);clear hK1 K1));refine q0g ?_)|refine q0e ?_|refine q08 ?_|refine q0d ?_|refine q0c ?_|refine q0f ?_|refine q02 ?_|refine q07 ?_|refine q09 ?_|refine q01 ?_|refine q0a ?_|refine q06 ?_|refine q04 rfl ?_)
   refine ⟨_,_,?_,⟨k+1,Or.inr (by omega),rfl,rfl⟩,?_⟩
   ·omega
   ·(refine Le.of ?_ ?_ ?_<;>simp only [List.not_mem_nil,false_implies,implies_true,and_true,push_cast,reduceCtorEq,jih])
  ·repeat (first|((first|refine q00 (by rw [hF];kernel_rfl) ?_|refine q03 (by rw [hF];kernel_rfl) ?_);(repeat (refine q0b fun K1 hK1=>?_;simp only [push_cast,Nat.reduceEqDiff,Nat.reduceBEq,decide_false,hp,h];(try simp (disch:=omega) only [wrap64,q0m]);(first|refine hK1 _ ?_|refine ⟨by omega,hK1 _ ?_⟩);clear hK1 K1));refine q0g ?_)|refine q0e ?_|refine q08 ?_|refine q0d ?_|refine q0c ?_|refine q0f ?_|refine q02 ?_|refine q07 ?_|refine q09 ?_|refine q01 ?_|refine q0a ?_|refine q06 ?_|refine q04 rfl ?_)
   refine q0s (by simp only [push_cast,Nat.reduceEqDiff,Nat.reduceBEq]) ?_
   repeat (first|((first|refine q00 (by rw [hF];kernel_rfl) ?_|refine q03 (by rw [hF];kernel_rfl) ?_);(repeat (refine q0b fun K1 hK1=>?_;simp only [push_cast,Nat.reduceEqDiff,reduceCtorEq,Nat.reduceBEq];(try simp (disch:=omega) only [wrap64,q0m]);(first|refine hK1 _ ?_|refine ⟨by omega,hK1 _ ?_⟩);clear hK1 K1));refine q0g ?_)|refine q0e ?_|refine q08 ?_|refine q0d ?_|refine q0c ?_|refine q0f ?_|refine q02 ?_|refine q07 ?_|refine q09 ?_|refine q01 ?_|refine q0a ?_|refine q06 ?_|refine q04 rfl ?_)
   refine (hQ _ ?_).2
   have e:pad s k=DM.qop s:=by
    unfold pad DM.qop RM.q6v
    have:k=32 - s.data.toList.length:=by
     have:s.data.toList.length=s.size:=by simp
     omega
    rw [<-this]
   simp only [push_cast,Nat.reduceEqDiff,Nat.reduceBEq,e]
end Go.Proofs.YthpgnliicpejoaaGreatDoor.AM
namespace Go.Proofs.YthpgnliicpejoaaGreatDoor.AM
open Go.RowKit
set_option linter.unusedSimpArgs false
set_option linter.unusedVariables false
def qd9 (l:List ByteArray):List (List Dat):=l.map fun s=>[.v (.string s)]
def qoy (l:List DM.Wr):List (List Dat):=l.map fun p=>[.v (.int .i64 p.1),.v (.string p.2)]
def dk1 (d:DM.Dk):D1:=.agg [.d (.lst 1 (qd9 d.secs)),.d (.lst 2 (qoy d.cache))]
@[push_cast] theorem j4f (l:List ByteArray):(qd9 l).length=l.length:=by simp [qd9]
@[push_cast] theorem j61 (l:List DM.Wr):(qoy l).length=l.length:=by simp [qoy]
theorem qrz {l:List ByteArray} {k:Nat} (h:k<l.length):(qd9 l).getD k [] = [.v (.string l[k])]:=by simp [qd9,List.getD,h]
theorem qs7 {l:List DM.Wr} {k:Nat} (h:k<l.length):(qoy l).getD k [] = [.v (.int .i64 l[k].1),.v (.string l[k].2)]:=by simp [qoy,List.getD,h]
attribute [push_cast] Int.toNat_natCast Int.toNat_zero
abbrev dkC (d:DM.Dk):List C:=[.d (.lst 1 (qd9 d.secs)),.d (.lst 2 (qoy d.cache))]
set_option maxHeartbeats 1600000 in
theorem qbu {G:World->Prop} (hG:qt8 G) (d:DM.Dk) (b1:d.secs.length<=1000000) (b2:d.cache.length<=1000000):q15 Tryz.prog G 35 [.one (dk1 d)] (q21 (.bool (decide (DM.q2y d)))):=by
 unfold dk1
 refine q2w Tryz.func35 rfl (by simp [Tryz.ntmps35]) hG ?_;intro F hF hFG Q hQ;rw [Tryz.ntmps35] at hF;rw [Tryz.results35] at hQ
 repeat (first|((first|refine q00 (by rw [hF];kernel_rfl) ?_|refine q03 (by rw [hF];kernel_rfl) ?_);(repeat (refine q0b fun K1 hK1=>?_;simp only [push_cast,Nat.reduceLT];(try simp (disch:=omega) only [wrap64,q0m]);(first|refine hK1 _ ?_|refine ⟨by omega,hK1 _ ?_⟩);clear hK1 K1));refine q0g ?_)|refine q0e ?_|refine q08 ?_|refine q0d ?_|refine q0c ?_|refine q0f ?_|refine q02 ?_|refine q07 ?_|refine q09 ?_|refine q01 ?_|refine q0a ?_|refine q06 ?_|refine q04 rfl ?_)
 refine q3e (fun n σ=>∃ k:Nat,k<=d.secs.length/\n=d.secs.length - k/\(∀j (h:j<d.secs.length),j<k->(d.secs[j]).size=32)/\σ=St.of [(1,.one (.c (.box 1 0))),(3,q21 (.int .i64 k))] [(1,(25,dkC d))] []) d.secs.length (St.of [(1,.one (.c (.box 1 0))),(3,q21 (.int .i64 0))] [(1,(25,dkC d))] []) ⟨0,Nat.zero_le _,by simp,fun j _ h=>by omega,rfl⟩ (by (refine Le.of ?_ ?_ ?_<;>simp only [List.not_mem_nil,false_implies,implies_true,and_true,push_cast,Nat.reduceEqDiff,reduceCtorEq])) ?_
 rintro n σ ⟨k,hk,rfl,hall,rfl⟩
 by_cases hkn:(k:Int)<(d.secs.length:Int)
 ·have hkd:k<d.secs.length:=by omega
  have hg:=qrz hkd
  repeat (first|((first|refine q00 (by rw [hF];kernel_rfl) ?_|refine q03 (by rw [hF];kernel_rfl) ?_);(repeat (refine q0b fun K1 hK1=>?_;simp only [push_cast,Nat.reduceEqDiff,Nat.reduceBEq,decide_true,hkn];(try simp (disch:=omega) only [wrap64,q0m]);(first|refine hK1 _ ?_|refine ⟨by omega,hK1 _ ?_⟩);clear hK1 K1));refine q0g ?_)|refine q0e ?_|refine q08 ?_|refine q0d ?_|refine q0c ?_|refine q0f ?_|refine q02 ?_|refine q07 ?_|refine q09 ?_|refine q01 ?_|refine q0a ?_|refine q06 ?_|refine q04 rfl ?_)
  refine q0q (by simp only [push_cast,Nat.reduceEqDiff,Nat.reduceBEq]) ?_
  by_cases hs:((d.secs[k]).size:Int)=32
  ·repeat (first|((first|refine q00 (by rw [hF];kernel_rfl) ?_|refine q03 (by rw [hF];kernel_rfl) ?_);(repeat (refine q0b fun K1 hK1=>?_;simp only [push_cast,Nat.reduceEqDiff,Nat.reduceBEq,decide_true,hg,hs];(try simp (disch:=omega) only [wrap64,q0m]);(first|refine hK1 _ ?_|refine ⟨by omega,hK1 _ ?_⟩);clear hK1 K1));refine q0g ?_)|refine q0e ?_|refine q08 ?_|refine q0d ?_|refine q0c ?_|refine q0f ?_|refine q02 ?_|refine q07 ?_|refine q09 ?_|refine q01 ?_|refine q0a ?_|refine q06 ?_|refine q04 rfl ?_)
   refine q0s (by simp only [push_cast,Nat.reduceEqDiff,Nat.reduceBEq]) ?_
   repeat (first|((first|refine q00 (by rw [hF];kernel_rfl) ?_|refine q03 (by rw [hF];kernel_rfl) ?_);(repeat (refine q0b fun K1 hK1=>?_;simp only [push_cast,Nat.reduceEqDiff,Nat.reduceBEq];(try simp (disch:=omega) only [wrap64]);(first|refine hK1 _ ?_|refine ⟨by omega,hK1 _ ?_⟩);clear hK1 K1));refine q0g ?_)|refine q0e ?_|refine q08 ?_|refine q0d ?_|refine q0c ?_|refine q0f ?_|refine q02 ?_|refine q07 ?_|refine q09 ?_|refine q01 ?_|refine q0a ?_|refine q06 ?_|refine q04 rfl ?_)
   refine ⟨_,_,?_,⟨k+1,hkd,rfl,fun j hj hjk=>?_,rfl⟩,by (refine Le.of ?_ ?_ ?_<;>simp only [List.not_mem_nil,false_implies,implies_true,and_true,push_cast,Nat.reduceEqDiff,reduceCtorEq,Nat.reduceBEq])⟩
   ·omega
   ·by_cases e:j=k
    ·subst e;omega
    ·exact hall j hj (by omega)
  ·repeat (first|((first|refine q00 (by rw [hF];kernel_rfl) ?_|refine q03 (by rw [hF];kernel_rfl) ?_);(repeat (refine q0b fun K1 hK1=>?_;simp only [push_cast,Nat.reduceEqDiff,Nat.reduceBEq,decide_false,hg,hs];(try simp (disch:=omega) only [wrap64,q0m]);(first|refine hK1 _ ?_|refine ⟨by omega,hK1 _ ?_⟩);clear hK1 K1));refine q0g ?_)|refine q0e ?_|refine q08 ?_|refine q0d ?_|refine q0c ?_|refine q0f ?_|refine q02 ?_|refine q07 ?_|refine q09 ?_|refine q01 ?_|refine q0a ?_|refine q06 ?_|refine q04 rfl ?_)
   refine q0q (by simp only [push_cast,Nat.reduceEqDiff,Nat.reduceBEq]) ?_
   repeat (first|((first|refine q00 (by rw [hF];kernel_rfl) ?_|refine q03 (by rw [hF];kernel_rfl) ?_);(repeat (refine q0b fun K1 hK1=>?_;simp only [push_cast];(try simp (disch:=omega) only [wrap64,q0m]);(first|refine hK1 _ ?_|refine ⟨by omega,hK1 _ ?_⟩);clear hK1 K1));refine q0g ?_)|refine q0e ?_|refine q08 ?_|refine q0d ?_|refine q0c ?_|refine q0f ?_|refine q02 ?_|refine q07 ?_|refine q09 ?_|refine q01 ?_|refine q0a ?_|refine q06 ?_|refine q04 rfl ?_)
   refine (hQ _ ?_).2
   have hno:decide (DM.q2y d)=false:=decide_eq_false fun h=>hs (by have:=h.2.2.1 _ (List.getElem_mem hkd);omega)
   simp only [push_cast,Nat.reduceEqDiff,Nat.reduceBEq,hno]
 ·repeat (first|((first|refine q00 (by rw [hF];kernel_rfl) ?_|refine q03 (by rw [hF];kernel_rfl) ?_);(repeat (refine q0b fun K1 hK1=>?_;simp only [push_cast,Nat.reduceEqDiff,Nat.reduceBEq,decide_false,hkn];(try simp (disch:=omega) only [wrap64,q0m]);(first|refine hK1 _ ?_|refine ⟨by omega,hK1 _ ?_⟩);clear hK1 K1));refine q0g ?_)|refine q0e ?_|refine q08 ?_|refine q0d ?_|refine q0c ?_|refine q0f ?_|refine q02 ?_|refine q07 ?_|refine q09 ?_|refine q01 ?_|refine q0a ?_|refine q06 ?_|refine q04 rfl ?_)
  refine q0s (by simp only [push_cast,Nat.reduceEqDiff,Nat.reduceBEq]) ?_
  repeat (first|((first|refine q00 (by rw [hF];kernel_rfl) ?_|refine q03 (by rw [hF];kernel_rfl) ?_);(repeat (refine q0b fun K1 hK1=>?_;simp only [push_cast];(try simp (disch:=omega) only [wrap64,q0m]);(first|refine hK1 _ ?_|refine ⟨by omega,hK1 _ ?_⟩);clear hK1 K1));refine q0g ?_)|refine q0e ?_|refine q08 ?_|refine q0d ?_|refine q0c ?_|refine q0f ?_|refine q02 ?_|refine q07 ?_|refine q09 ?_|refine q01 ?_|refine q0a ?_|refine q06 ?_|refine q04 rfl ?_)
  have hsecs : ∀s∈d.secs,s.size=32:=fun s hs=>by
   obtain ⟨j,hj,rfl⟩:=List.getElem_of_mem hs
   exact hall j hj (by omega)
  clear hall hkn hk
  refine q3e (fun n σ=>∃ k:Nat,k<=d.cache.length/\n=d.cache.length - k/\(∀j (h:j<d.cache.length),j<k->DM.wOk d.secs.length d.cache[j])/\σ=St.of [(1,.one (.c (.box 1 0))),(4,q21 (.int .i64 k))] [(1,(25,dkC d))] []) d.cache.length (St.of [(1,.one (.c (.box 1 0))),(4,q21 (.int .i64 0))] [(1,(25,dkC d))] []) ⟨0,Nat.zero_le _,by simp,fun j _ h=>by omega,rfl⟩ (by (refine Le.of ?_ ?_ ?_<;>simp only [List.not_mem_nil,false_implies,implies_true,and_true,push_cast,Nat.reduceEqDiff,reduceCtorEq,Nat.reduceBEq])) ?_
  rintro n σ ⟨k,hk,rfl,hall,rfl⟩
  by_cases hkn:(k:Int)<(d.cache.length:Int)
  ·have hkd:k<d.cache.length:=by omega
   have hg:=qs7 hkd
   repeat (first|((first|refine q00 (by rw [hF];kernel_rfl) ?_|refine q03 (by rw [hF];kernel_rfl) ?_);(repeat (refine q0b fun K1 hK1=>?_;simp only [push_cast,Nat.reduceEqDiff,Nat.reduceBEq,decide_true,hkn];(try simp (disch:=omega) only [wrap64,q0m]);(first|refine hK1 _ ?_|refine ⟨by omega,hK1 _ ?_⟩);clear hK1 K1));refine q0g ?_)|refine q0e ?_|refine q08 ?_|refine q0d ?_|refine q0c ?_|refine q0f ?_|refine q02 ?_|refine q07 ?_|refine q09 ?_|refine q01 ?_|refine q0a ?_|refine q06 ?_|refine q04 rfl ?_)
   refine q0q (by simp only [push_cast,Nat.reduceEqDiff,Nat.reduceBEq]) ?_
   repeat (first|((first|refine q00 (by rw [hF];kernel_rfl) ?_|refine q03 (by rw [hF];kernel_rfl) ?_);(repeat (refine q0b fun K1 hK1=>?_;simp only [push_cast,Nat.reduceEqDiff,reduceCtorEq,Nat.reduceAdd,Nat.reduceMul,Nat.reduceSub,Nat.reduceLeDiff,Nat.reduceLT,Nat.reduceBEq,Nat.reducePow,Int.reduceEq,Int.reduceLT,Int.reduceLE,Int.reduceNeg,Int.reduceAdd,Int.reduceToNat,reduceIte,decide_true,decide_false];(try simp (disch:=omega) only [wrap64,q0m]);(first|refine hK1 _ ?_|refine ⟨by omega,hK1 _ ?_⟩);clear hK1 K1));refine q0g ?_)|refine q0e ?_|refine q08 ?_|refine q0d ?_|refine q0c ?_|refine q0f ?_|refine q02 ?_|refine q07 ?_|refine q09 ?_|refine q01 ?_|refine q0a ?_|refine q06 ?_|refine q04 rfl ?_)
   have hno : ¬ DM.wOk d.secs.length d.cache[k]->decide (DM.q2y d)=false:=fun hn=>decide_eq_false fun h=>hn (h.2.2.2 _ (List.getElem_mem hkd))
   by_cases c0:(d.cache[k]).1<0
   ·(first|(refine q2n (by kernel_rfl) (by rw [hF];kernel_rfl) ?_)|(refine q2m (by kernel_rfl) (by rw [hF];kernel_rfl) ?_));(repeat (refine q45 fun K1 hK1=>?_;simp only [push_cast,Nat.reduceEqDiff,Nat.reduceAdd,Nat.reduceBEq,decide_true,hg,c0];(try simp (disch:=omega) only [wrap64,q0m]);(first|refine hK1 _ _ ?_|refine ⟨by omega,hK1 _ _ ?_⟩);clear hK1 K1));refine q6y (by kernel_rfl) ?_
    repeat (first|((first|refine q00 (by rw [hF];kernel_rfl) ?_|refine q03 (by rw [hF];kernel_rfl) ?_);(repeat (refine q0b fun K1 hK1=>?_;simp only [push_cast,Nat.reduceEqDiff,reduceCtorEq,Nat.reduceAdd,Nat.reduceMul,Nat.reduceSub,Nat.reduceLeDiff,Nat.reduceLT,Nat.reduceBEq,Nat.reducePow,Int.reduceEq,Int.reduceLT,Int.reduceLE,Int.reduceNeg,Int.reduceAdd,Int.reduceToNat,reduceIte,decide_true,decide_false];(try simp (disch:=omega) only [wrap64,q0m]);(first|refine hK1 _ ?_|refine ⟨by omega,hK1 _ ?_⟩);clear hK1 K1));refine q0g ?_)|refine q0e ?_|refine q08 ?_|refine q0d ?_|refine q0c ?_|refine q0f ?_|refine q02 ?_|refine q07 ?_|refine q09 ?_|refine q01 ?_|refine q0a ?_|refine q06 ?_|refine q04 rfl ?_)
    refine q0q (by simp only [push_cast,Nat.reduceEqDiff,Nat.reduceBEq]) ?_
    repeat (first|((first|refine q00 (by rw [hF];kernel_rfl) ?_|refine q03 (by rw [hF];kernel_rfl) ?_);(repeat (refine q0b fun K1 hK1=>?_;simp only [push_cast];(try simp (disch:=omega) only [wrap64,q0m]);(first|refine hK1 _ ?_|refine ⟨by omega,hK1 _ ?_⟩);clear hK1 K1));refine q0g ?_)|refine q0e ?_|refine q08 ?_|refine q0d ?_|refine q0c ?_|refine q0f ?_|refine q02 ?_|refine q07 ?_|refine q09 ?_|refine q01 ?_|refine q0a ?_|refine q06 ?_|refine q04 rfl ?_)
    refine (hQ _ ?_).2
    have hno':=hno (fun h=>by have:=h.1;omega)
    simp only [push_cast,Nat.reduceEqDiff,Nat.reduceBEq,hno']
   ·by_cases c1:(d.secs.length:Int)<=(d.cache[k]).1
    ·(first|(refine q2n (by kernel_rfl) (by rw [hF];kernel_rfl) ?_)|(refine q2m (by kernel_rfl) (by rw [hF];kernel_rfl) ?_));(repeat (refine q45 fun K1 hK1=>?_;simp only [push_cast,Nat.reduceEqDiff,reduceCtorEq,Nat.reduceAdd,Nat.reduceBEq,decide_true,decide_false,hg,c0,c1];(try simp (disch:=omega) only [wrap64,q0m]);(first|refine hK1 _ _ ?_|refine ⟨by omega,hK1 _ _ ?_⟩);clear hK1 K1));refine q6y (by kernel_rfl) ?_
     repeat (first|((first|refine q00 (by rw [hF];kernel_rfl) ?_|refine q03 (by rw [hF];kernel_rfl) ?_);(repeat (refine q0b fun K1 hK1=>?_;simp only [push_cast,Nat.reduceEqDiff,reduceCtorEq,Nat.reduceAdd,Nat.reduceMul,Nat.reduceSub,Nat.reduceLeDiff,Nat.reduceLT,Nat.reduceBEq,Nat.reducePow,Int.reduceEq,Int.reduceLT,Int.reduceLE,Int.reduceNeg,Int.reduceAdd,Int.reduceToNat,reduceIte,decide_true,decide_false];(try simp (disch:=omega) only [wrap64,q0m]);(first|refine hK1 _ ?_|refine ⟨by omega,hK1 _ ?_⟩);clear hK1 K1));refine q0g ?_)|refine q0e ?_|refine q08 ?_|refine q0d ?_|refine q0c ?_|refine q0f ?_|refine q02 ?_|refine q07 ?_|refine q09 ?_|refine q01 ?_|refine q0a ?_|refine q06 ?_|refine q04 rfl ?_)
     refine q0q (by simp only [push_cast,Nat.reduceEqDiff,Nat.reduceBEq]) ?_
     repeat (first|((first|refine q00 (by rw [hF];kernel_rfl) ?_|refine q03 (by rw [hF];kernel_rfl) ?_);(repeat (refine q0b fun K1 hK1=>?_;simp only [push_cast];(try simp (disch:=omega) only [wrap64,q0m]);(first|refine hK1 _ ?_|refine ⟨by omega,hK1 _ ?_⟩);clear hK1 K1));refine q0g ?_)|refine q0e ?_|refine q08 ?_|refine q0d ?_|refine q0c ?_|refine q0f ?_|refine q02 ?_|refine q07 ?_|refine q09 ?_|refine q01 ?_|refine q0a ?_|refine q06 ?_|refine q04 rfl ?_)
     refine (hQ _ ?_).2
     have hno':=hno (fun h=>by have:=h.2.1;omega)
     simp only [push_cast,Nat.reduceEqDiff,Nat.reduceBEq,hno']
    ·by_cases c2:((d.cache[k]).2.size:Int)=32
     ·(first|(refine q2n (by kernel_rfl) (by rw [hF];kernel_rfl) ?_)|(refine q2m (by kernel_rfl) (by rw [hF];kernel_rfl) ?_));(repeat (refine q45 fun K1 hK1=>?_;simp only [push_cast,Nat.reduceEqDiff,reduceCtorEq,Nat.reduceAdd,Nat.reduceLeDiff,Nat.reduceBEq,decide_true,decide_false,hg,c0,c1,c2];(try simp (disch:=omega) only [wrap64,q0m]);(first|refine hK1 _ _ ?_|refine ⟨by omega,hK1 _ _ ?_⟩);clear hK1 K1));refine q6y (by kernel_rfl) ?_
      repeat (first|((first|refine q00 (by rw [hF];kernel_rfl) ?_|refine q03 (by rw [hF];kernel_rfl) ?_);(repeat (refine q0b fun K1 hK1=>?_;simp only [push_cast,Nat.reduceEqDiff,reduceCtorEq,Nat.reduceAdd,Nat.reduceMul,Nat.reduceSub,Nat.reduceLeDiff,Nat.reduceLT,Nat.reduceBEq,Nat.reducePow,Int.reduceEq,Int.reduceLT,Int.reduceLE,Int.reduceNeg,Int.reduceAdd,Int.reduceToNat,reduceIte,decide_true,decide_false];(try simp (disch:=omega) only [wrap64,q0m]);(first|refine hK1 _ ?_|refine ⟨by omega,hK1 _ ?_⟩);clear hK1 K1));refine q0g ?_)|refine q0e ?_|refine q08 ?_|refine q0d ?_|refine q0c ?_|refine q0f ?_|refine q02 ?_|refine q07 ?_|refine q09 ?_|refine q01 ?_|refine q0a ?_|refine q06 ?_|refine q04 rfl ?_)
      refine q0s (by simp only [push_cast,Nat.reduceEqDiff,Nat.reduceBEq]) ?_
      repeat (first|((first|refine q00 (by rw [hF];kernel_rfl) ?_|refine q03 (by rw [hF];kernel_rfl) ?_);(repeat (refine q0b fun K1 hK1=>?_;simp only [push_cast,Nat.reduceEqDiff,Nat.reduceBEq];(try simp (disch:=omega) only [wrap64]);(first|refine hK1 _ ?_|refine ⟨by omega,hK1 _ ?_⟩);clear hK1 K1));refine q0g ?_)|refine q0e ?_|refine q08 ?_|refine q0d ?_|refine q0c ?_|refine q0f ?_|refine q02 ?_|refine q07 ?_|refine q09 ?_|refine q01 ?_|refine q0a ?_|refine q06 ?_|refine q04 rfl ?_)
      refine ⟨_,_,?_,⟨k+1,hkd,rfl,fun j hj hjk=>?_,rfl⟩,by (refine Le.of ?_ ?_ ?_<;>simp only [List.not_mem_nil,false_implies,implies_true,and_true,push_cast,Nat.reduceEqDiff,reduceCtorEq,Nat.reduceBEq])⟩
      ·omega
      ·by_cases e:j=k
       ·subst e;exact ⟨by omega,by omega,by omega⟩
       ·exact hall j hj (by omega)
     ·(first|(refine q2n (by kernel_rfl) (by rw [hF];kernel_rfl) ?_)|(refine q2m (by kernel_rfl) (by rw [hF];kernel_rfl) ?_));(repeat (refine q45 fun K1 hK1=>?_;simp only [push_cast,Nat.reduceEqDiff,reduceCtorEq,Nat.reduceAdd,Nat.reduceLeDiff,Nat.reduceBEq,decide_false,hg,c0,c1,c2];(try simp (disch:=omega) only [wrap64,q0m]);(first|refine hK1 _ _ ?_|refine ⟨by omega,hK1 _ _ ?_⟩);clear hK1 K1));refine q6y (by kernel_rfl) ?_
      repeat (first|((first|refine q00 (by rw [hF];kernel_rfl) ?_|refine q03 (by rw [hF];kernel_rfl) ?_);(repeat (refine q0b fun K1 hK1=>?_;simp only [push_cast,Nat.reduceEqDiff,reduceCtorEq,Nat.reduceAdd,Nat.reduceMul,Nat.reduceSub,Nat.reduceLeDiff,Nat.reduceLT,Nat.reduceBEq,Nat.reducePow,Int.reduceEq,Int.reduceLT,Int.reduceLE,Int.reduceNeg,Int.reduceAdd,Int.reduceToNat,reduceIte,decide_true,decide_false];(try simp (disch:=omega) only [wrap64,q0m]);(first|refine hK1 _ ?_|refine ⟨by omega,hK1 _ ?_⟩);clear hK1 K1));refine q0g ?_)|refine q0e ?_|refine q08 ?_|refine q0d ?_|refine q0c ?_|refine q0f ?_|refine q02 ?_|refine q07 ?_|refine q09 ?_|refine q01 ?_|refine q0a ?_|refine q06 ?_|refine q04 rfl ?_)
      refine q0q (by simp only [push_cast,Nat.reduceEqDiff,Nat.reduceBEq]) ?_
      repeat (first|((first|refine q00 (by rw [hF];kernel_rfl) ?_|refine q03 (by rw [hF];kernel_rfl) ?_);(repeat (refine q0b fun K1 hK1=>?_;simp only [push_cast];(try simp (disch:=omega) only [wrap64,q0m]);(first|refine hK1 _ ?_|refine ⟨by omega,hK1 _ ?_⟩);clear hK1 K1));refine q0g ?_)|refine q0e ?_|refine q08 ?_|refine q0d ?_|refine q0c ?_|refine q0f ?_|refine q02 ?_|refine q07 ?_|refine q09 ?_|refine q01 ?_|refine q0a ?_|refine q06 ?_|refine q04 rfl ?_)
      refine (hQ _ ?_).2
      have hno':=hno (fun h=>by have:=h.2.2;omega)
      simp only [push_cast,Nat.reduceEqDiff,Nat.reduceBEq,hno']
  ·repeat (first|((first|refine q00 (by rw [hF];kernel_rfl) ?_|refine q03 (by rw [hF];kernel_rfl) ?_);(repeat (refine q0b fun K1 hK1=>?_;simp only [push_cast,Nat.reduceEqDiff,Nat.reduceBEq,decide_false,hkn];(try simp (disch:=omega) only [wrap64,q0m]);(first|refine hK1 _ ?_|refine ⟨by omega,hK1 _ ?_⟩);clear hK1 K1));refine q0g ?_)|refine q0e ?_|refine q08 ?_|refine q0d ?_|refine q0c ?_|refine q0f ?_|refine q02 ?_|refine q07 ?_|refine q09 ?_|refine q01 ?_|refine q0a ?_|refine q06 ?_|refine q04 rfl ?_)
   refine q0s (by simp only [push_cast,Nat.reduceEqDiff,Nat.reduceBEq]) ?_
   have hcache : ∀p∈d.cache,DM.wOk d.secs.length p:=fun p hp=>by
    obtain ⟨j,hj,rfl⟩:=List.getElem_of_mem hp
    exact hall j hj (by omega)
   have hmay:decide (DM.q2y d)=(decide ((1:Int)<=d.secs.length)&&decide ((d.secs.length:Int)<=512)):=by
    rw [Bool.eq_iff_iff]
    simp only [decide_eq_true_eq,Bool.and_eq_true]
    exact ⟨fun h=>⟨by have:=h.1;omega,by have:=h.2.1;omega⟩,fun h=>⟨by omega,by omega,hsecs,hcache⟩⟩
   by_cases c0:(1:Int)<=(d.secs.length:Int)
   ·repeat (first|((first|refine q00 (by rw [hF];kernel_rfl) ?_|refine q03 (by rw [hF];kernel_rfl) ?_);(repeat (refine q0b fun K1 hK1=>?_;simp only [push_cast,Nat.reduceEqDiff,Nat.reduceBEq,decide_true,c0];(try simp (disch:=omega) only [wrap64,q0m]);(first|refine hK1 _ ?_|refine ⟨by omega,hK1 _ ?_⟩);clear hK1 K1));refine q0g ?_)|refine q0e ?_|refine q08 ?_|refine q0d ?_|refine q0c ?_|refine q0f ?_|refine q02 ?_|refine q07 ?_|refine q09 ?_|refine q01 ?_|refine q0a ?_|refine q06 ?_|refine q04 rfl ?_)
    refine (hQ _ ?_).2
    simp only [push_cast,Nat.reduceEqDiff,Nat.reduceBEq,decide_true,hmay,c0]
   ·repeat (first|((first|refine q00 (by rw [hF];kernel_rfl) ?_|refine q03 (by rw [hF];kernel_rfl) ?_);(repeat (refine q0b fun K1 hK1=>?_;simp only [push_cast,Nat.reduceEqDiff,reduceCtorEq,Nat.reduceBEq,decide_false,c0];(try simp (disch:=omega) only [wrap64,q0m]);(first|refine hK1 _ ?_|refine ⟨by omega,hK1 _ ?_⟩);clear hK1 K1));refine q0g ?_)|refine q0e ?_|refine q08 ?_|refine q0d ?_|refine q0c ?_|refine q0f ?_|refine q02 ?_|refine q07 ?_|refine q09 ?_|refine q01 ?_|refine q0a ?_|refine q06 ?_|refine q04 rfl ?_)
    refine (hQ _ ?_).2
    simp only [push_cast,Nat.reduceEqDiff,Nat.reduceBEq,decide_false,hmay,c0]
end Go.Proofs.YthpgnliicpejoaaGreatDoor.AM
namespace Go.Proofs.YthpgnliicpejoaaGreatDoor
open Go.RowKit
namespace SumW
theorem qji {a b:Bool} (h:a=b):Ending.returned (.bool a) = .returned (.bool b):=by rw [h]
theorem q5p {k:IntKind} {a b:Int} (h:a=b):Ending.returned (.int k a) = .returned (.int k b):=by rw [h]
set_option maxHeartbeats 400000 in
theorem jar (h l:Int) (w:World) (h0:0<=h) (h1:h<65521) (l0:0<=l) (l1:l<65521) :
  Calls Tryz.prog 165 #[.int .i64 h,.int .i64 l] w fun e w'=>e = .returned (.int .i64 (h*65536+l))/\w=w':=by
 go_enter Tryz.func165,Tryz.ntmps165
 go_wp2
 go_ret
 exact ⟨rfl,rfl⟩
set_option maxHeartbeats 400000 in
theorem j9k (n:Int) (w:World) (h:0<=n) (h1:n / 65536<65521) (h2:n % 65536<65521) :
  Calls Tryz.prog 164 #[.int .i64 n] w fun e w'=>e = .returned (.tuple #[.int .i64 (n / 65536),.int .i64 (n % 65536),.bool true])/\w=w':=by
 go_enter Tryz.func164,Tryz.ntmps164
 go_wp2
 go_ret3
 exact ⟨rfl,rfl⟩
set_option maxHeartbeats 400000 in
theorem jf5 (n:Int) (w:World) (hb : -9223372036854775808<=n/\n<=9223372036854775807) (h : ¬ SM.q2p n) :
  Calls Tryz.prog 164 #[.int .i64 n] w fun e w'=>e = .returned (.tuple #[.int .i64 0,.int .i64 0,.bool false])/\w=w':=by
 unfold SM.q2p at h
 by_cases h0:n<0
 ·go_enter Tryz.func164,Tryz.ntmps164
  go_wp2
  go_ret3
  exact ⟨rfl,rfl⟩
 ·by_cases h1:n / 65536<65521
  ·have h2:65521<=n % 65536:=by omega
   clear h
   go_enter Tryz.func164,Tryz.ntmps164
   go_wp2
   go_ret3
   exact ⟨rfl,rfl⟩
  ·clear h
   go_enter Tryz.func164,Tryz.ntmps164
   go_wp2
   go_ret3
   exact ⟨rfl,rfl⟩
set_option maxHeartbeats 400000 in
theorem jk2 (n:Int) (s:ByteArray) (w:World) (h:SM.q2p n) (hs:s.size<=maxLen) :
  Calls Tryz.prog 153 #[.int .i64 n,.string s] w fun e w'=>e = .returned (.int .i64 (SM.q1d n s.data.toList))/\w=w':=by
 unfold maxLen at hs
 have hok:=SM.qci h
 have hF:Hid (SM.q1d n s.data.toList=(SM.steps (n / 65536,n % 65536) s.data.toList).1*65536+(SM.steps (n / 65536,n % 65536) s.data.toList).2):=by
  apply Lib.hid;unfold SM.q1d;rw [if_pos h]
 unfold SM.q2p at h
 obtain ⟨g0,g1,g2⟩:=h
 go_enter Tryz.func153,Tryz.ntmps153
 go_wp2_with (go_at_call 164;refine (j9k _ _ (by omega) (by omega) (by omega)).mono ?_;rintro e w' ⟨rfl,rfl⟩)
 go_loop [5,6,19] (fun a b i=>∃ k:Nat,k<=s.size/\i = .int .i64 k/\a = .int .i64 (SM.steps (n / 65536,n % 65536) (s.data.toList.take k)).1/\b = .int .i64 (SM.steps (n / 65536,n % 65536) (s.data.toList.take k)).2) (fun _ _ i=>s.size - (intOf i).toNat)
 case atStart=>exact ⟨0,Nat.zero_le _,rfl,rfl,rfl⟩
 case round =>
  obtain ⟨k,hk,rfl,rfl,rfl⟩:=hrel
  have hp:=SM.qs9 (s.data.toList.take k) hok
  generalize hq:SM.steps (n / 65536,n % 65536) (s.data.toList.take k)=q at *
  obtain ⟨a,b⟩:=q
  unfold SM.Ok at hp
  simp only at hp
  obtain ⟨p0,p1,p2,p3⟩:=hp
  have HQ:=Lib.hid hq;clear hq
  by_cases hlt:k<s.size
  ·have hc:(s[k].toNat:Int)<256:=by have:=s[k].toNat_lt;omega
   go_wp2
   go_round
   case rel=>exact ⟨k+1,by omega,by go_num,by rw [SM.qef s k hlt,SM.qaa,HQ.out];rfl,by rw [SM.qef s k hlt,SM.qaa,HQ.out];rfl⟩
   case measure=>simp [intOf];omega
  ·have hkk:k=s.size:=by omega
   have hT:s.data.toList.take k=s.data.toList:=List.take_of_length_le (by simp;omega)
   rw [hT] at HQ
   clear hT
   go_wp2_with (go_at_call 165;refine (jar _ _ _ (by omega) (by omega) (by omega) (by omega)).mono ?_;rintro e w' ⟨rfl,rfl⟩)
   go_ret
   exact ⟨q5p (by rw [hF.out,HQ.out]),rfl⟩
set_option maxHeartbeats 400000 in
theorem joq (n:Int) (s:ByteArray) (w:World) (hb : -9223372036854775808<=n/\n<=9223372036854775807) (h : ¬ SM.q2p n) :
  Calls Tryz.prog 153 #[.int .i64 n,.string s] w fun e w'=>e = .returned (.int .i64 (SM.q1d n s.data.toList))/\w=w':=by
 have hF:Hid (SM.q1d n s.data.toList=0):=by apply Lib.hid;unfold SM.q1d;rw [if_neg h]
 go_enter Tryz.func153,Tryz.ntmps153
 go_wp2_with (go_at_call 164;refine (jf5 _ _ hb h).mono ?_;rintro e w' ⟨rfl,rfl⟩)
 go_ret
 exact ⟨q5p (by rw [hF.out]),rfl⟩
theorem j49 (n:Int) (s:ByteArray) (w:World) (hb : -9223372036854775808<=n/\n<=9223372036854775807) (hs:s.size<=maxLen) :
  Calls Tryz.prog 153 #[.int .i64 n,.string s] w fun e w'=>e = .returned (.int .i64 (SM.q1d n s.data.toList))/\w=w':=by
 by_cases h:SM.q2p n
 ·exact jk2 n s w h hs
 ·exact joq n s w hb h
set_option maxHeartbeats 400000 in
theorem jha (s:ByteArray) (w:World) (hs:s.size<=maxLen) :
  Calls Tryz.prog 136 #[.string s] w fun e w'=>e = .returned (.int .i64 (SM.q1d 1 s.data.toList))/\w=w':=by
 go_enter Tryz.func136,Tryz.ntmps136
 go_wp2_with (go_at_call 153;refine (j49 _ _ _ (by omega) hs).mono ?_;rintro e w' ⟨rfl,rfl⟩)
 go_ret
 exact ⟨rfl,rfl⟩
set_option maxHeartbeats 400000 in
theorem jsx (n:Int) (w:World) (h:SM.q2p n) :
  Calls Tryz.prog 115 #[.int .i64 n] w fun e w'=>e = .returned (.bool true)/\w=w':=by
 unfold SM.q2p at h
 obtain ⟨h0,h1,h2⟩:=h
 go_enter Tryz.func115,Tryz.ntmps115
 go_wp2
 go_ret
 exact ⟨qji (by simp;omega),rfl⟩
set_option maxHeartbeats 400000 in
theorem is_no (n:Int) (w:World) (hb : -9223372036854775808<=n/\n<=9223372036854775807) (h : ¬ SM.q2p n) :
  Calls Tryz.prog 115 #[.int .i64 n] w fun e w'=>e = .returned (.bool false)/\w=w':=by
 unfold SM.q2p at h
 by_cases h0:n<0
 ·clear h
  go_enter Tryz.func115,Tryz.ntmps115
  go_wp2
  go_ret
  exact ⟨rfl,rfl⟩
 ·by_cases h1:n / 65536<=65520
  ·have h2:65520<n % 65536:=by omega
   clear h
   go_enter Tryz.func115,Tryz.ntmps115
   go_wp2
   go_ret
   exact ⟨qji (by simp;omega),rfl⟩
  ·clear h
   go_enter Tryz.func115,Tryz.ntmps115
   go_wp2
   go_ret
   exact ⟨rfl,rfl⟩
set_option maxHeartbeats 400000 in
theorem jer (n:Int) (s:ByteArray) (w:World) (h:SM.q2p n) (hs:s.size<=maxLen) :
  Calls Tryz.prog 139 #[.int .i64 n,.string s] w fun e w'=>e = .returned (.int .i64 (SM.q1d n s.data.toList))/\w=w':=by
 unfold maxLen at hs
 have hok:=SM.qci h
 have hF:Hid (SM.q1d n s.data.toList=(SM.steps (n / 65536,n % 65536) s.data.toList).1*65536+(SM.steps (n / 65536,n % 65536) s.data.toList).2):=by
  apply Lib.hid;unfold SM.q1d;rw [if_pos h]
 have HS:=Lib.hid h
 unfold SM.q2p at h
 obtain ⟨g0,g1,g2⟩:=h
 go_enter Tryz.func139,Tryz.ntmps139
 go_wp2_with (go_at_call 115;refine (jsx _ _ HS.out).mono ?_;rintro e w' ⟨rfl,rfl⟩)
 go_loop [5,6,7] (fun b a i=>∃ k:Nat,k<=s.size/\i = .int .i64 k/\a = .int .i64 (SM.steps (n / 65536,n % 65536) (s.data.toList.take k)).1/\b = .int .i64 (SM.steps (n / 65536,n % 65536) (s.data.toList.take k)).2) (fun _ _ i=>s.size - (intOf i).toNat)
 case atStart=>exact ⟨0,Nat.zero_le _,rfl,rfl,rfl⟩
 case round =>
  obtain ⟨k,hk,rfl,rfl,rfl⟩:=hrel
  have hp:=SM.qs9 (s.data.toList.take k) hok
  generalize hq:SM.steps (n / 65536,n % 65536) (s.data.toList.take k)=q at *
  obtain ⟨a,b⟩:=q
  unfold SM.Ok at hp
  simp only at hp
  obtain ⟨p0,p1,p2,p3⟩:=hp
  have HQ:=Lib.hid hq;clear hq
  by_cases hlt:k<s.size
  ·have hc:(s[k].toNat:Int)<256:=by have:=s[k].toNat_lt;omega
   go_wp2
   go_round
   case rel=>exact ⟨k+1,by omega,by go_num,by rw [SM.qef s k hlt,SM.qaa,HQ.out];rfl,by rw [SM.qef s k hlt,SM.qaa,HQ.out];rfl⟩
   case measure=>simp [intOf];omega
  ·have hkk:k=s.size:=by omega
   have hT:s.data.toList.take k=s.data.toList:=List.take_of_length_le (by simp;omega)
   rw [hT] at HQ
   clear hT
   go_wp2
   go_ret
   exact ⟨q5p (by rw [hF.out,HQ.out];simp only;omega),rfl⟩
set_option maxHeartbeats 400000 in
theorem jl5 (n:Int) (s:ByteArray) (w:World) (hb : -9223372036854775808<=n/\n<=9223372036854775807) (h : ¬ SM.q2p n) :
  Calls Tryz.prog 139 #[.int .i64 n,.string s] w fun e w'=>e = .returned (.int .i64 (SM.q1d n s.data.toList))/\w=w':=by
 have hF:Hid (SM.q1d n s.data.toList=0):=by apply Lib.hid;unfold SM.q1d;rw [if_neg h]
 have H:=Lib.hid h;clear h
 go_enter Tryz.func139,Tryz.ntmps139
 go_wp2_with (go_at_call 115;refine (is_no _ _ hb H.out).mono ?_;rintro e w' ⟨rfl,rfl⟩)
 go_ret
 exact ⟨q5p (by rw [hF.out]),rfl⟩
theorem jg4 (n:Int) (s:ByteArray) (w:World) (hb : -9223372036854775808<=n/\n<=9223372036854775807) (hs:s.size<=maxLen) :
  Calls Tryz.prog 139 #[.int .i64 n,.string s] w fun e w'=>e = .returned (.int .i64 (SM.q1d n s.data.toList))/\w=w':=by
 by_cases h:SM.q2p n
 ·exact jer n s w h hs
 ·exact jl5 n s w hb h
set_option maxHeartbeats 400000 in
theorem jpp (s:ByteArray) (w:World) (hs:s.size<=maxLen) :
  Calls Tryz.prog 114 #[.string s] w fun e w'=>e = .returned (.int .i64 (SM.q1d 1 s.data.toList))/\w=w':=by
 go_enter Tryz.func114,Tryz.ntmps114
 go_wp2_with (go_at_call 139;refine (jg4 _ _ _ (by omega) hs).mono ?_;rintro e w' ⟨rfl,rfl⟩)
 go_ret
 exact ⟨rfl,rfl⟩
end SumW
end Go.Proofs.YthpgnliicpejoaaGreatDoor
