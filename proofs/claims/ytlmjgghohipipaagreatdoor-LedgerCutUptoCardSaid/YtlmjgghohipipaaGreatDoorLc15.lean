
import Derived.Test.YtlmjgghohipipaaGreatDoorLc13
import Derived.Test.YtlmjgghohipipaaGreatDoorLc14
import Derived.Laws.AppendOwn
import Derived.BigRegion
import Derived.Deep.MidRow
import Derived.Test.YtlmjgghohipipaaGreatDoorLc10
import Derived.Test.YtlmjgghohipipaaGreatDoorLc12
import Derived.Test.YtlmjgghohipipaaGreatDoorLc9
import Derived.Test.YtlmjgghohipipaaGreatDoorLc11
namespace Go.Proofs
open Go.RowKit Go.Shelf Go.Lib
attribute [local go_sem] Oper.semAt_some
set_option linter.unusedVariables false
set_option linter.unusedSimpArgs false
namespace YtlmjgghohipipaaGreatDoor.AM.Bs
theorem j7i {T e B b:Nat} {p:Value} {bs:List Value} {w:World} (h:Lib.BuilderAt T e B b p bs w):w.cell? ⟨b,0,none⟩=some p:=by
 obtain ⟨_,v,hbk,_⟩:=h
 rw [Lib.cell_of_heap hbk];rfl
theorem qgg {T e B b:Nat} {p:Value} {bs:List Value} {w w':World} (h:Lib.BuilderAt T e B b p bs w) (hb:Below w.heap.size w w'):Lib.BuilderAt T e B b p bs w':=by
 obtain ⟨h1,v,h2,h3,h4⟩:=h
 refine ⟨h1,v,(hb.block b (q30 h2)).trans h2,⟨h3.1,?_⟩,h4⟩
 rcases h3.2 with h5|⟨g,cap,cur,h5,h6,h7,h8⟩
 ·exact .inl h5
 ·exact .inr ⟨g,cap,cur,h5,h6,(hb.block g (q30 h7)).trans h7,h8⟩
theorem j0l (l:List UInt8) : ∀u∈Lib.byteCells l,u.oneCell'=true:=fun u hu=>by
 unfold Lib.byteCells at hu
 obtain ⟨c,_,rfl⟩:=List.mem_map.1 hu
 rfl
set_option maxHeartbeats 4000000 in
set_option maxRecDepth 1000000 in
theorem jaw (B b:Nat) (l news:List UInt8) (ad:Addr) (m c:Nat) (w:World) (h:Lib.BuilderAt 78 5 B b (.pointer (some ⟨b,0,none⟩)) (Lib.byteCells l) w)
  (hm:news.length=m) (hnews : ∀j u,(Lib.byteCells news)[j]? = some u->w.cell? (ad.add j)=some u) (hlen:l.length+m<=140737488355328) (hBw:B<=w.heap.size) :
  Calls Tryz.prog 110 #[.pointer (some ⟨b,0,none⟩),.slice (some ad) m c] w fun e w'=>e = .returned (.tuple #[.int .i64 m,.nilIface])/\Lib.BuilderAt 78 5 B b (.pointer (some ⟨b,0,none⟩)) (Lib.byteCells (l++news)) w'/\Below B w w':=by
 have hib:=Tryz.Builder_Extra_165.infoByte
 have hne5:=Tryz.Builder_Extra_165.neB5
 have cC : ∀w,w.cell? ⟨b,0,none⟩=some (.pointer (some ⟨b,0,none⟩))->Calls Tryz.prog 76 #[.pointer (some ⟨b,0,none⟩)] w fun e w'=>e = .returned (.tuple #[])/\w'=w :=
  fun w h0=>Any.Builder_copyCheck_used (ρ:=Tryz.lays165_ren) { Tryz.lays165 with } Tryz.Builder_Extra_165.toX72 b w h0
 obtain ⟨i0,hi,hz0,hz1,hz2⟩:=info_parts hib
 have hbl:(Lib.byteCells l).length=l.length:=Lib.byteCells_length l
 have hnl:(Lib.byteCells news).length=m:=by rw [Lib.byteCells_length,hm]
 rw [Lib.byteCells_append]
 have h1:=j0l news
 generalize Lib.byteCells l=bs at *
 generalize Lib.byteCells news=ns at *
 have c0:=j7i h
 obtain ⟨hB,v,hbk,hown,hne⟩:=h
 have c1:w.cell? ⟨b,1,none⟩=some v:=by rw [Lib.cell_of_heap hbk];rfl
 go_enter Tryz.func110,Tryz.ntmps110
 go_wp2_with fail
 refine (cC _ c0).mono ?_
 rintro e w1 ⟨rfl,rfl⟩
 go_wp2_with (at_builtin;refine wpList_append_own _ rfl _ _ 76 rfl B 5 i0 (.int .u8 0) 1 1 Tryz.underlying76 hi hz0 hz1 hz2 rfl (by decide) _ _ _ rfl hown ad m c ns rfl (by omega) hnews h1 ?c3 ?c4 ?c5 ?_)
 case c3=>unfold maxLen;omega
 case c4=>omega
 case c5=>omega
 intro v' w2 hown' hgrow _
 have hlt:b<w1.heap.size:=by
  rcases Nat.lt_or_ge b w1.heap.size with h'|h'
  ·exact h'
  ·simp [Array.getElem?_eq_none h'] at hbk
 have hb2:w2.heap[b]? = some (.cells #[.pointer (some ⟨b,0,none⟩),v] 78 (0,0)):=by
  rw [hgrow.block b hlt (fun e=>hne e.symm)]
  exact hbk
 have d0:w2.cell? ⟨b,0,none⟩=some (.pointer (some ⟨b,0,none⟩)):=by rw [Lib.cell_of_heap hb2];rfl
 have d1:w2.cell? ⟨b,1,none⟩=some v:=by rw [Lib.cell_of_heap hb2];rfl
 have f1:w2.frozen? ⟨b,1,none⟩=false:=Lib.frozen_of_heap hb2 1
 obtain ⟨ao,n',cap,rfl⟩ : ∃ ao n' cap,v' = .slice ao n' cap:=by
  rcases hown'.2 with ⟨hv,_⟩|⟨g,cap,cur,hv,_⟩
  ·exact ⟨_,_,_,hv⟩
  ·exact ⟨_,_,_,hv⟩
 go_wp2
 go_ret2
 refine ⟨rfl,?_,?_⟩
 ·exact Lib.BuilderAt.put (T:=78) (e:=5) hB hb2 (bs':=bs++ns) (by rw [List.length_append,hbl,hnl];exact hown') hne5
 ·exact ((Below.refl _ _).grown hgrow (by omega) (fun k hk=>(hown.lt k hk).1)).setCell (p:=⟨b,1,none⟩) hB _
end YtlmjgghohipipaaGreatDoor.AM.Bs
end Go.Proofs
namespace Go.Proofs
open Go.RowKit Go.Shelf Go.Lib
attribute [local go_sem] Oper.semAt_some
set_option linter.unusedVariables false
set_option linter.unusedSimpArgs false
namespace YtlmjgghohipipaaGreatDoor.AM.Bs
def jco:Value->Nat
 | .string t=>t.size
 | _=>0
end YtlmjgghohipipaaGreatDoor.AM.Bs
end Go.Proofs
namespace Go.Proofs
open Go.RowKit Go.Shelf Go.Lib
attribute [local go_sem] Oper.semAt_some
set_option linter.unusedVariables false
set_option linter.unusedSimpArgs false
namespace YtlmjgghohipipaaGreatDoor.AM.Bs
def nuT (T:List UInt8) (i:Nat):Option Nat:=match T[i]? with
 | some c=>nu c
 | none=>some 0
def xN (T:List UInt8):Nat->Nat
 | 0=>0
 | i+1=>xN T i*64+(nuT T i).getD 0
theorem j8c (T:List UInt8) (i:Nat):(nuT T i).getD 0<64:=by
 unfold nuT
 split
 ·rename_i c _
  cases h:nu c with
  | none=>decide
  | some k=>exact qw2 h
 ·decide
theorem jb2 (T:List UInt8) : ∀i,xN T i<64 ^ i
 | 0=>Nat.lt_add_one 0
 | i+1=>by
  have h1:=jb2 T i;have h2:=j8c T i
  unfold xN
  rw [Nat.pow_succ]
  generalize 64 ^ i=y at *
  omega
theorem qu4 (T:List UInt8) {a b c d:Nat} (ha:nuT T 0=some a) (hb:nuT T 1=some b) (hc:nuT T 2=some c) (hd:nuT T 3=some d):xN T 4=((a*64+b)*64+c)*64+d:=by
 simp only [xN,ha,hb,hc,hd,Option.getD_some]
 omega
theorem jdm : ∀c:UInt8,Lib.indexByte sgT c=match nu c with|some k=>(k:Int)|none=>-1:=by
 have h : ∀c:Fin 256,Lib.indexByte sgT (UInt8.ofNat c.val)=match nu (UInt8.ofNat c.val) with|some k=>(k:Int)|none=>-1:=by decide +kernel
 intro c
 have:=h ⟨c.toNat,UInt8.toNat_lt c⟩
 simpa using this
def grp (T:List UInt8):List UInt8:=[UInt8.ofNat (xN T 4 / 65536 % 256),UInt8.ofNat (xN T 4 / 256 % 256),UInt8.ofNat (xN T 4 % 256)]
theorem j3g {k:Nat} (h:k<64):(sg k==61)=false:=beq_eq_false_iff_ne.2 (q7w h)
theorem jaq {t g:List UInt8} (h:rdS t g) : ∃ T,Lib.trimRightB t 61=T/\T.length=g.length+1/\(∀i,(nuT T i).isSome=true)/\(grp T).take (T.length*6 / 8)=g:=by
 obtain ⟨h1,h2,rfl⟩:=h
 match g,h1,h2 with
 | [a],_,_ =>
  have ha:=UInt8.toNat_lt a
  have k0:a.toNat / 4<64:=by omega
  have k1:a.toNat % 4*16<64:=by omega
  have v0:nuT [sg (a.toNat / 4),sg (a.toNat % 4*16)] 0=some (a.toNat / 4):=q5c k0
  have v1:nuT [sg (a.toNat / 4),sg (a.toNat % 4*16)] 1=some (a.toNat % 4*16):=q5c k1
  have v2:nuT [sg (a.toNat / 4),sg (a.toNat % 4*16)] 2=some 0:=rfl
  have v3:nuT [sg (a.toNat / 4),sg (a.toNat % 4*16)] 3=some 0:=rfl
  refine ⟨[sg (a.toNat / 4),sg (a.toNat % 4*16)],?_,rfl,fun i=>?_,?_⟩
  ·unfold q4n Lib.trimRightB;simp only [List.reverse_cons,List.reverse_nil,List.nil_append,List.cons_append,List.dropWhile,j3g k1,show ((61:UInt8)==61)=true from rfl]
  ·match i with
   | 0=>rw [v0];rfl
   | 1=>rw [v1];rfl
   | i+2=>rfl
  ·have e:=qu4 _ v0 v1 v2 v3
   unfold grp
   rw [e,show ([sg (a.toNat / 4),sg (a.toNat % 4*16)]:List UInt8).length=2 from rfl]
   show [UInt8.ofNat ((((((a.toNat / 4))*64+(a.toNat % 4*16))*64+0)*64+0) / 65536 % 256)] = [a]
   rw [ofNat_eq (a:=a) (by omega)]
 | [a,b],_,_ =>
  have ha:=UInt8.toNat_lt a;have hb:=UInt8.toNat_lt b
  have k0:a.toNat / 4<64:=by omega
  have k1:a.toNat % 4*16+b.toNat / 16<64:=by omega
  have k2:b.toNat % 16*4<64:=by omega
  have v0:nuT [sg (a.toNat / 4),sg (a.toNat % 4*16+b.toNat / 16),sg (b.toNat % 16*4)] 0=some (a.toNat / 4):=q5c k0
  have v1:nuT [sg (a.toNat / 4),sg (a.toNat % 4*16+b.toNat / 16),sg (b.toNat % 16*4)] 1=some (a.toNat % 4*16+b.toNat / 16):=q5c k1
  have v2:nuT [sg (a.toNat / 4),sg (a.toNat % 4*16+b.toNat / 16),sg (b.toNat % 16*4)] 2=some (b.toNat % 16*4):=q5c k2
  have v3:nuT [sg (a.toNat / 4),sg (a.toNat % 4*16+b.toNat / 16),sg (b.toNat % 16*4)] 3=some 0:=rfl
  refine ⟨[sg (a.toNat / 4),sg (a.toNat % 4*16+b.toNat / 16),sg (b.toNat % 16*4)],?_,rfl,fun i=>?_,?_⟩
  ·unfold q4n Lib.trimRightB;simp only [List.reverse_cons,List.reverse_nil,List.nil_append,List.cons_append,List.dropWhile,j3g k2,show ((61:UInt8)==61)=true from rfl]
  ·match i with
   | 0=>rw [v0];rfl
   | 1=>rw [v1];rfl
   | 2=>rw [v2];rfl
   | i+3=>rfl
  ·have e:=qu4 _ v0 v1 v2 v3
   unfold grp
   rw [e,show ([sg (a.toNat / 4),sg (a.toNat % 4*16+b.toNat / 16),sg (b.toNat % 16*4)]:List UInt8).length=3 from rfl]
   show [UInt8.ofNat ((((((a.toNat / 4))*64+(a.toNat % 4*16+b.toNat / 16))*64+(b.toNat % 16*4))*64+0) / 65536 % 256),UInt8.ofNat ((((((a.toNat / 4))*64+(a.toNat % 4*16+b.toNat / 16))*64+(b.toNat % 16*4))*64+0) / 256 % 256)] = [a,b]
   rw [ofNat_eq (a:=a) (by omega),ofNat_eq (a:=b) (by omega)]
 | [a,b,c],_,_ =>
  have ha:=UInt8.toNat_lt a;have hb:=UInt8.toNat_lt b;have hc:=UInt8.toNat_lt c
  have k0:a.toNat / 4<64:=by omega
  have k1:a.toNat % 4*16+b.toNat / 16<64:=by omega
  have k2:b.toNat % 16*4+c.toNat / 64<64:=by omega
  have k3:c.toNat % 64<64:=by omega
  have v0:nuT [sg (a.toNat / 4),sg (a.toNat % 4*16+b.toNat / 16),sg (b.toNat % 16*4+c.toNat / 64),sg (c.toNat % 64)] 0=some (a.toNat / 4):=q5c k0
  have v1:nuT [sg (a.toNat / 4),sg (a.toNat % 4*16+b.toNat / 16),sg (b.toNat % 16*4+c.toNat / 64),sg (c.toNat % 64)] 1=some (a.toNat % 4*16+b.toNat / 16):=q5c k1
  have v2:nuT [sg (a.toNat / 4),sg (a.toNat % 4*16+b.toNat / 16),sg (b.toNat % 16*4+c.toNat / 64),sg (c.toNat % 64)] 2=some (b.toNat % 16*4+c.toNat / 64):=q5c k2
  have v3:nuT [sg (a.toNat / 4),sg (a.toNat % 4*16+b.toNat / 16),sg (b.toNat % 16*4+c.toNat / 64),sg (c.toNat % 64)] 3=some (c.toNat % 64):=q5c k3
  refine ⟨[sg (a.toNat / 4),sg (a.toNat % 4*16+b.toNat / 16),sg (b.toNat % 16*4+c.toNat / 64),sg (c.toNat % 64)],?_,rfl,fun i=>?_,?_⟩
  ·unfold q4n Lib.trimRightB;simp only [List.reverse_cons,List.reverse_nil,List.nil_append,List.cons_append,List.dropWhile,j3g k3,q4n]
  ·match i with
   | 0=>rw [v0];rfl
   | 1=>rw [v1];rfl
   | 2=>rw [v2];rfl
   | 3=>rw [v3];rfl
   | i+4=>rfl
  ·have e:=qu4 _ v0 v1 v2 v3
   unfold grp
   rw [e,show ([sg (a.toNat / 4),sg (a.toNat % 4*16+b.toNat / 16),sg (b.toNat % 16*4+c.toNat / 64),sg (c.toNat % 64)]:List UInt8).length=4 from rfl]
   show [UInt8.ofNat ((((((a.toNat / 4))*64+(a.toNat % 4*16+b.toNat / 16))*64+(b.toNat % 16*4+c.toNat / 64))*64+(c.toNat % 64)) / 65536 % 256),UInt8.ofNat ((((((a.toNat / 4))*64+(a.toNat % 4*16+b.toNat / 16))*64+(b.toNat % 16*4+c.toNat / 64))*64+(c.toNat % 64)) / 256 % 256),UInt8.ofNat ((((((a.toNat / 4))*64+(a.toNat % 4*16+b.toNat / 16))*64+(b.toNat % 16*4+c.toNat / 64))*64+(c.toNat % 64)) % 256)] = [a,b,c]
   rw [ofNat_eq (a:=a) (by omega),ofNat_eq (a:=b) (by omega),ofNat_eq (a:=c) (by omega)]
theorem j75 (t:List UInt8) (c:UInt8):(Lib.trimRightB t c).length<=t.length:=by
 unfold Lib.trimRightB
 rw [List.length_reverse]
 have:=(List.dropWhile_suffix (l:=t.reverse) (p:=(· == c))).length_le
 rwa [List.length_reverse] at this
theorem q7z {P:Program} {fn:Func} {p u v:Tmp} {ty:TypeId} (h:fn.results = #[.cell p ty,.tmp u,.tmp v]) (tmps:Array Value) (w:World) (g:Nat) (t:TypeId) (cs:Array Value) (fr:Nat×Nat) (d:TypeDesc)
  (hp:tmps.getD p undef = .pointer (some ⟨g,0,none⟩)) (hg:w.heap[g]? = some (.cells cs t fr))
  (hu:P.underlying ty=some d) (hd:(match d with | .struct _ | .array _ _=>true|_=>false)=true) (hi:(P.info? ty).map (·.size)=some cs.size) :
  (results fn tmps).run P w = .ok (.tuple #[.agg cs,tmps.getD u undef,tmps.getD v undef]) w:=by
 have hp':tmps[p]?.getD undef = .pointer (some ⟨g,0,none⟩):=by simpa using hp
 simp only [results,h]
 simp [Sem.run_bind,Result.andThen,hp',asAddr,run_loadVar_row w g t ty cs fr d hg hu hd hi]
theorem qt6 {P:Program} {fn:Func} {p u v:Tmp} {ty:TypeId} (h:fn.results = #[.cell p ty,.tmp u,.tmp v]) (tmps:Array Value) (w:World) (a:Addr) (x:Value)
  (hp:tmps.getD p undef = .pointer (some a)) (hv:(loadVar ty a).run P w = .ok x w) :
  (results fn tmps).run P w = .ok (.tuple #[x,tmps.getD u undef,tmps.getD v undef]) w:=by
 have hp':tmps[p]?.getD undef = .pointer (some a):=by simpa using hp
 simp only [results,h]
 simp [Sem.run_bind,Result.andThen,hp',asAddr,hv]
def RdOk (t:List UInt8) (a b c:UInt8) (n:Nat) (ok:Bool):Prop:=(ok=true/\1<=n/\n<=3/\rdS t ([a,b,c].take n))\/(ok=false/\∀g,¬ rdS t g)
set_option maxHeartbeats 4000000 in
set_option maxRecDepth 1000000 in
theorem jde (t:List UInt8) (ht:t.length=4) (w:World) (hI:Inv w):Calls Tryz.prog 109 #[.string (ba t)] w fun e w'=>(∃ (a b c:UInt8) (n:Nat) (ok:Bool),e = .returned (.tuple #[.agg #[.int .u8 (a.toNat:Int),.int .u8 (b.toNat:Int),.int .u8 (c.toNat:Int)],.int .i64 (n:Int),.bool ok])/\RdOk t a b c n ok)/\Below w.heap.size w w':=by
 have hdat:(ba t).data.toList=t:=by simp [ba]
 have htr : ∀W,Calls Tryz.prog 126 #[.string (ba t),.string ⟨#[61]⟩] W fun e w'=>e = .returned (.string (ba (Lib.trimRightB t 61)))/\w'=W:=fun W=>by
  have:=Tryz.strings_TrimRight_one (ba t) 61 (by decide) W (by rw [q0p];omega)
  rw [hdat] at this
  exact this
 have htl:=j75 t 61
 have hrd : ∀g,rdS t g->(Lib.trimRightB t 61).length=g.length+1/\(∀i,(nuT (Lib.trimRightB t 61) i).isSome=true)/\(grp (Lib.trimRightB t 61)).take ((Lib.trimRightB t 61).length*6 / 8)=g:=fun g hg=>by
  obtain ⟨T,h1,h2,h3,h4⟩:=jaq hg
  rw [h1]
  exact ⟨h2,h3,h4⟩
 generalize Lib.trimRightB t 61=T at *
 rw [ht] at htl
 have hTl:(ba T).size=T.length:=q0p T
 have HRD:=hid hrd
 clear hrd hdat
 go_enter Tryz.func109,Tryz.ntmps109
 go_wp2_with fail
 refine (htr _).mono ?_
 rintro e W0 ⟨rfl,rfl⟩
 clear htr
 by_cases c2:T.length<2
 ·have c2':(T.length:Int)<2:=by omega
  go_wp2_with fail
  try simp only [Exit.inBlock,Exit.then]
  refine bodyPost_ret (q7z rfl _ _ w.heap.size 117 #[.int .u8 0,.int .u8 0,.int .u8 0] (0,0) _ rfl (heap_alloc_new w _) Tryz.underlying117 rfl (by kernel_rfl)) rfl ?_
  refine ⟨⟨0,0,0,0,false,rfl,.inr ⟨rfl,fun g hg=>?_⟩⟩,(Below.refl _ _).alloc (Nat.le_refl _) _⟩
  have h1:=(HRD.out g hg).1
  have h2:g ≠ []:=hg.1
  have h3:g.length≠0:=fun h=>h2 (List.eq_nil_of_length_eq_zero h)
  omega
 ·have c2' : ¬ (T.length:Int)<2:=by omega
  have HC2:=hid c2
  go_wp2_with fail
  go_loopw [6,18] (fun x i wr=>∃ k:Nat,k<=4/\x = .int .u32 ((xN T k:Nat):Int)/\i = .int .i64 (k:Int)/\(∀j,j<k->(nuT T j).isSome=true)/\wr=w.alloc (.cells #[.int .u8 0,.int .u8 0,.int .u8 0] 117 (0,0))) (fun _ i _=>4 - (RowKit.intOf i).toNat)
  case atStart=>exact ⟨0,by omega,rfl,rfl,(fun j hj=>absurd hj (Nat.not_lt_zero j)),rfl⟩
  case round =>
   obtain ⟨k,hk,rfl,rfl,hsome,rfl⟩:=hrel
   have HS:=hid hsome
   clear hsome
   have hxl:=jb2 T k
   have hstep:xN T (k+1)=xN T k*64+(nuT T k).getD 0:=rfl
   have hnlt:=j8c T k
   by_cases ck:k<4
   ·have hx18:xN T k<262144:=Nat.lt_of_lt_of_le hxl (by have:(64:Nat) ^ k<=64 ^ 3:=Nat.pow_le_pow_right (by decide) (by omega);omega)
    generalize xN T k=X at *
    have HX:=hid hstep
    clear hstep hxl
    have ck':(k:Int)<4:=by omega
    by_cases cT:k<T.length
    ·have cT':(k:Int)<(T.length:Int):=by omega
     have hgk:(ba T)[k]'(by rw [hTl];exact cT)=T[k]:=rfl
     have hnk:nuT T k=nu T[k]:=by unfold nuT;rw [List.getElem?_eq_getElem cT]
     have hix : ∀W,Calls Tryz.prog 127 #[.string (ba sgT),.int .u8 ((T[k].toNat:Nat):Int)] W fun e w'=>e = .returned (.int .i64 (match nu T[k] with|some k=>(k:Int)|none=>-1))/\w'=W:=fun W=>by
      have:=Tryz.strings_IndexByte (ba sgT) ((T[k].toNat:Nat):Int) W
      rw [show (ba sgT).data.toList=sgT from by simp [ba],show (((T[k].toNat:Nat):Int)).toNat.toUInt8=T[k] from by simp,jdm] at this
      exact this
     have HNK:=hid hnk
     clear hnk
     cases hq:nu T[k] with
     | none =>
      rw [hq] at hix
      go_wp2_with fail
      refine (hix _).mono ?_
      rintro e W1 ⟨rfl,rfl⟩
      clear hix
      go_wp2_with fail
      try simp only [Exit.inBlock,Exit.then]
      refine bodyPost_ret (q7z rfl _ _ w.heap.size 117 #[.int .u8 0,.int .u8 0,.int .u8 0] (0,0) _ rfl (heap_alloc_new w _) Tryz.underlying117 rfl (by kernel_rfl)) rfl ?_
      refine ⟨⟨0,0,0,0,false,rfl,.inr ⟨rfl,fun g hg=>?_⟩⟩,(Below.refl _ _).alloc (Nat.le_refl _) _⟩
      have h1:=(HRD.out g hg).2.1 k
      rw [HNK.out,hq] at h1
      cases h1
     | some q =>
      rw [hq] at hix
      have hq64:=qw2 hq
      have hor:bits BinOp.or IntKind.u32 ((X:Int)*64) (q:Int)=((X*64+q:Nat):Int):=by
       have h3:=or32 (x:=X) (c:=q) (j:=6) (by omega) (by omega)
       have h4:((X*2 ^ 6:Nat):Int)=(X:Int)*64:=by omega
       have h5:((X*2 ^ 6+q:Nat):Int)=((X*64+q:Nat):Int):=by omega
       rw [h4,h5] at h3
       exact h3
      go_wp2_with fail
      refine (hix _).mono ?_
      rintro e W1 ⟨rfl,rfl⟩
      clear hix
      go_wp2_with fail
      refine ⟨⟨k+1,by omega,?_,by go_num,?_,trivial⟩,?_⟩
      ·rw [HX.out,HNK.out,hq];go_num
      ·intro j hj
       by_cases c:j=k
       ·subst c;rw [HNK.out,hq];rfl
       ·exact HS.out j (by omega)
      ·simp [RowKit.intOf];omega
    ·have cT' : ¬ (k:Int)<(T.length:Int):=by omega
     have hnk:nuT T k=some 0:=by unfold nuT;rw [List.getElem?_eq_none (by omega)]
     have HNK:=hid hnk
     clear hnk
     go_wp2_with fail
     refine ⟨⟨k+1,by omega,?_,by go_num,?_,trivial⟩,?_⟩
     ·rw [HX.out,HNK.out];go_num
     ·intro j hj
      by_cases c:j=k
      ·subst c;rw [HNK.out];rfl
      ·exact HS.out j (by omega)
     ·simp [RowKit.intOf];omega
   ·have ck' : ¬ (k:Int)<4:=by omega
    obtain rfl:k=4:=by omega
    clear hxl hstep hnlt
    obtain ⟨A,hA⟩ : ∃ A,A=UInt8.ofNat (xN T 4 / 65536 % 256):=⟨_,rfl⟩
    obtain ⟨B,hB⟩ : ∃ B,B=UInt8.ofNat (xN T 4 / 256 % 256):=⟨_,rfl⟩
    obtain ⟨C,hC⟩ : ∃ C,C=UInt8.ofNat (xN T 4 % 256):=⟨_,rfl⟩
    have hg:grp T = [A,B,C]:=by rw [hA,hB,hC];rfl
    have hA':((xN T 4:Nat):Int) / 65536 % 256=((A.toNat:Nat):Int):=by rw [hA,UInt8.toNat_ofNat'];omega
    have hB':((xN T 4:Nat):Int) / 256 % 256=((B.toNat:Nat):Int):=by rw [hB,UInt8.toNat_ofNat'];omega
    have hC':((xN T 4:Nat):Int) % 256=((C.toNat:Nat):Int):=by rw [hC,UInt8.toNat_ofNat'];omega
    have HG:=hid hg
    clear hg hA hB hC
    have hX4:xN T 4<16777216:=jb2 T 4
    generalize xN T 4=X at *
    obtain ⟨n,hn⟩ : ∃ n:Nat,n=T.length*6 / 8:=⟨_,rfl⟩
    have hc2:=HC2.out
    have hn1:1<=n:=by omega
    have hn3:n<=3:=by omega
    have hn8:(T.length:Int)*6 / 8=(n:Int):=by omega
    have hn3':(n:Int)<=3:=by omega
    have hn0':(0:Int)<=(n:Int):=by omega
    have HN:=hid hn
    have HX4:=hid hX4
    clear hn hc2 hX4
    obtain ⟨D,hD⟩ : ∃ D,D = [A,B,C].take n:=⟨_,rfl⟩
    have hDl:D.length=n:=by rw [hD,List.length_take];simp;omega
    have hcv : ∀W:World,W.heap[w.heap.size+1]? = some (.cells #[.int .u8 (A.toNat:Int),.int .u8 (B.toNat:Int),.int .u8 (C.toNat:Int)] 117 (0,0)) ->
      (convert 76 9 (.slice (some ⟨w.heap.size+1,0,none⟩) n 3)).run Tryz.prog W = .ok (.string (ba D)) W:=fun W hW=>by
     have h3:=run_convert_bytes_back (P:=Tryz.prog) W 76 9 5 ⟨w.heap.size+1,0,none⟩ 3 D Tryz.underlying76 Tryz.underlying5 Tryz.underlying9 (fun j hj=>by
      have h5:(⟨w.heap.size+1,0,none⟩:Addr).add j=⟨w.heap.size+1,j,none⟩:=by unfold Addr.add;split<;>simp_all
      rw [h5,Lib.cell_of_heap hW j]
      have h6:j<3:=by omega
      have h7:D[j]=([A,B,C]:List UInt8)[j]'h6:=by subst hD;rw [List.getElem_take]
      rw [h7]
      match j,h6 with
      | 0,_=>rfl
      | 1,_=>rfl
      | 2,_=>rfl)
     rw [hDl] at h3
     exact h3
    have hw1:=heap_alloc2_new w (.cells #[.int .u8 0,.int .u8 0,.int .u8 0] 117 (0,0)) (.cells #[.int .u8 (A.toNat:Int),.int .u8 (B.toNat:Int),.int .u8 (C.toNat:Int)] 117 (0,0))
    have hcv1:=hcv _ hw1
    have HD:=hid hD
    clear hD
    obtain ⟨p,q,r,z,hpq,hlay⟩:=lay_c D (fun e=>by rw [e] at hDl;exact absurd hDl (by show ¬ (0=n);omega)) (by omega) ((w.alloc (.cells #[.int .u8 0,.int .u8 0,.int .u8 0] 117 (0,0))).alloc (.cells #[.int .u8 (A.toNat:Int),.int .u8 (B.toNat:Int),.int .u8 (C.toNat:Int)] 117 (0,0))) (hI.below (((Below.refl _ _).alloc (Nat.le_refl _) _).alloc (Nat.le_of_lt (q30 (heap_alloc_new w _))) _))
    have HPQ:=hid hpq
    clear hpq
    have hw0:((w.alloc (.cells #[.int .u8 0,.int .u8 0,.int .u8 0] 117 (0,0))).alloc (.cells #[.int .u8 (A.toNat:Int),.int .u8 (B.toNat:Int),.int .u8 (C.toNat:Int)] 117 (0,0))).heap[w.heap.size]? = some (.cells #[.int .u8 0,.int .u8 0,.int .u8 0] 117 (0,0)):=(heap_alloc_old (w:=_) (o:=_) (h:=q30 (heap_alloc_new w _))).trans (heap_alloc_new w _)
    have hbb:Below w.heap.size w ((w.alloc (.cells #[.int .u8 0,.int .u8 0,.int .u8 0] 117 (0,0))).alloc (.cells #[.int .u8 (A.toNat:Int),.int .u8 (B.toNat:Int),.int .u8 (C.toNat:Int)] 117 (0,0))):=((Below.refl _ _).alloc (Nat.le_refl _) _).alloc (Nat.le_of_lt (q30 (heap_alloc_new w _))) _
    go_wp2_with fail
    refine hlay.mono ?_
    rintro e W1 ⟨rfl,hb1⟩
    clear hlay hcv1
    have f1:=(hb1.block _ (q30 hw1)).trans hw1
    have f0:=(hb1.block _ (q30 hw0)).trans hw0
    have hb2:=hbb.trans (hb1.mono hbb.size)
    clear hw1 hw0 hb1 hbb
    obtain ⟨O,hO⟩ : ∃ O:Obj,O = .cells #[.int .u8 (p.toNat:Int),.int .u8 (q.toNat:Int),.int .u8 (r.toNat:Int),.int .u8 (z.toNat:Int)] 127 (0,0):=⟨_,rfl⟩
    have g0:=(heap_alloc_old (w:=W1) (o:=O) (h:=q30 f0)).trans f0
    have g1:=(heap_alloc_old (w:=W1) (o:=O) (h:=q30 f1)).trans f1
    have g4:=heap_alloc_new W1 O
    have hb3:=hb2.alloc hb2.size O
    have n4:W1.heap.size≠w.heap.size:=by have:=q30 f0;omega
    rw [hO] at g0 g1 g4 hb3
    clear f0 f1 hb2 hO
    obtain ⟨WB,hWB⟩ : ∃ WB,W1.alloc (.cells #[.int .u8 (p.toNat:Int),.int .u8 (q.toNat:Int),.int .u8 (r.toNat:Int),.int .u8 (z.toNat:Int)] 127 (0,0))=WB:=⟨_,rfl⟩
    obtain ⟨g,hg⟩ : ∃ g,W1.heap.size=g:=⟨_,rfl⟩
    obtain ⟨b,hb⟩ : ∃ b,w.heap.size=b:=⟨_,rfl⟩
    have G0:=hid g0;have G1:=hid g1;have G4:=hid g4;have B3:=hid hb3;have HWB:=hid hWB;have HGG:=hid hg;have HBB:=hid hb
    clear hb3
    go_wp2_with fail
    rw [hWB,hb] at g0 g1
    rw [hWB,hg] at g4
    rw [hg,hb] at n4
    have k0:=Lib.cell_of_heap g1 0
    have k1:=Lib.cell_of_heap g1 1
    have k2:=Lib.cell_of_heap g1 2
    have m0:=Lib.cell_of_heap g4 0
    have m1:=Lib.cell_of_heap g4 1
    have m2:=Lib.cell_of_heap g4 2
    have m3:=Lib.cell_of_heap g4 3
    have r0:=Lib.cell_of_heap g0 0
    have r1:=Lib.cell_of_heap g0 1
    have r2:=Lib.cell_of_heap g0 2
    have f0:=Lib.frozen_of_heap g0 0
    have f1:=Lib.frozen_of_heap g0 1
    have f2:=Lib.frozen_of_heap g0 2
    have hcv4 : ∀W:World,W.cell? ⟨g,0,none⟩=some (.int .u8 (p.toNat:Int))->W.cell? ⟨g,1,none⟩=some (.int .u8 (q.toNat:Int))->W.cell? ⟨g,2,none⟩=some (.int .u8 (r.toNat:Int))->W.cell? ⟨g,3,none⟩=some (.int .u8 (z.toNat:Int)) ->
      (convert 76 9 (.slice (some ⟨g,0,none⟩) 4 4)).run Tryz.prog W = .ok (.string (ba [p,q,r,z])) W:=fun W e0 e1 e2 e3=>by
     exact run_convert_bytes_back (P:=Tryz.prog) W 76 9 5 ⟨g,0,none⟩ 4 [p,q,r,z] Tryz.underlying76 Tryz.underlying5 Tryz.underlying9 (fun j hj=>by
      have h5:(⟨g,0,none⟩:Addr).add j=⟨g,j,none⟩:=by unfold Addr.add;split<;>simp_all
      rw [h5]
      match j,hj with
      | 0,_=>exact e0
      | 1,_=>exact e1
      | 2,_=>exact e2
      | 3,_=>exact e3)
    clear hWB hg hb g0 g1 g4
    go_region
    go_wp2_with fail
    have hm:World.rangeAt (((WB.setCell ⟨b,0,none⟩ (.int .u8 (A.toNat:Int))).setCell ⟨b,1,none⟩ (.int .u8 (B.toNat:Int))).setCell ⟨b,2,none⟩ (.int .u8 (C.toNat:Int))).drew b 0 [.int .u8 (A.toNat:Int),.int .u8 (B.toNat:Int),.int .u8 (C.toNat:Int)]:=by
     intro j v hj
     match j,hj with
     | 0,hj=>rw [<-hj];go_simp
     | 1,hj=>rw [<-hj];go_simp
     | 2,hj=>rw [<-hj];go_simp
    try simp only [Exit.inBlock,Exit.then]
    refine bodyPost_ret (qt6 rfl _ _ ⟨b,0,none⟩ _ rfl (run_loadVar_mid _ b 0 117 _ _ hm Tryz.underlying117 rfl (by kernel_rfl))) rfl ?_
    refine ⟨⟨A,B,C,n,_,rfl,?_⟩,?_⟩
    ·have hDD:=HD.out
     have e1:((ba [p,q,r,z]).toList==(ba t).toList)=decide (q4n D=t):=by
      rw [ByteArray.toList_eq,ByteArray.toList_eq,HPQ.out,show (ba [p,q,r,z]).data.toList = [p,q,r,z] from by simp [ba],show (ba t).data.toList=t from by simp [ba]]
      exact Bool.beq_eq_decide_eq _ _
     show RdOk t A B C n ((ba [p,q,r,z]).toList==(ba t).toList)
     rw [e1]
     by_cases c:q4n D=t
     ·rw [decide_eq_true c]
      refine .inl ⟨rfl,hn1,hn3,?_⟩
      rw [<-hDD]
      exact ⟨fun e=>by rw [e] at hDl;exact absurd hDl (by show ¬ (0=n);omega),by omega,c⟩
     ·rw [decide_eq_false c]
      refine .inr ⟨rfl,fun g hg=>c ?_⟩
      have h1:=(HRD.out g hg).2.2
      rw [HG.out,<-HN.out,<-hDD] at h1
      rw [h1]
      exact hg.2.2
    ·have hb3:=B3.out
     rw [HWB.out] at hb3
     have hle:w.heap.size<=b:=Nat.le_of_eq HBB.out
     exact (((hb3.setCell (p:=⟨b,0,none⟩) hle _).setCell (p:=⟨b,1,none⟩) hle _).setCell (p:=⟨b,2,none⟩) hle _).drew
end YtlmjgghohipipaaGreatDoor.AM.Bs
end Go.Proofs
namespace Go.Proofs
open Go.RowKit Go.Shelf Go.Lib
attribute [local go_sem] Oper.semAt_some
set_option linter.unusedVariables false
set_option linter.unusedSimpArgs false
namespace YtlmjgghohipipaaGreatDoor.AM.Bs
def ql7 (u:List UInt8) (p:List UInt8×Bool):List UInt8×Bool:=if p.2=true then (u++p.1,true) else ([],false)
theorem join_nil (t:List UInt8):q6j t=ql7 [] (q6j t):=by
 unfold ql7
 obtain ⟨⟨x,b⟩,hd⟩ : ∃ p,q6j t=p:=⟨_,rfl⟩
 rw [hd]
 cases b with
 | true=>rfl
 | false=>rw [(j1h hd).1];rfl
theorem join_join (u g:List UInt8) (p:List UInt8×Bool):ql7 u (ql7 g p)=ql7 (u++g) p:=by
 unfold ql7
 by_cases h:p.2=true
 ·simp [h]
 ·simp [h]
theorem j5g {t g:List UInt8} (h:rdS (t.take 4) g) (h2:g.length=3\/t.length=4):q6j t=ql7 g (q6j (t.drop 4)):=by
 obtain ⟨⟨x,b⟩,hd⟩ : ∃ p,q6j (t.drop 4)=p:=⟨_,rfl⟩
 rw [hd]
 unfold ql7
 cases b with
 | true =>
  have hx:=j05 hd
  refine qs1 ?_
  rcases h2 with h2|h2
  ·rw [j2v _ _ (by rw [h2]),h.2.2,hx,List.take_append_drop]
  ·have hn:t.drop 4 = []:=List.drop_eq_nil_of_le (by omega)
   rw [hn] at hx
   rw [jb6 hx,List.append_nil,h.2.2,List.take_of_length_le (by omega)]
 | false =>
  refine j8h fun s hs=>?_
  have h4:t ≠ []:=fun e=>by
   have:=j83 h
   rw [e] at this
   simp at this
  obtain ⟨g',r,_,h5,_⟩:=qr7 hs h4
  exact (j1h hd).2 r h5
set_option maxHeartbeats 4000000 in
set_option maxRecDepth 1000000 in
theorem dec_c (s:List UInt8) (hs:s.length<=2000000) (w:World) (hI:Inv w):Calls Tryz.prog 83 #[.string (ba s)] w fun e w'=>e = .returned (.tuple #[.string (ba (q6j s).1),.bool (q6j s).2])/\Below w.heap.size w w':=by
 obtain ⟨A,hA⟩ : ∃ A,A=q6j s:=⟨_,rfl⟩
 have hA0:=hA
 rw [join_nil] at hA0
 rw [<-hA]
 have HA:=hid hA0
 clear hA hA0
 have hsz:(ba s).size=s.length:=q0p s
 have hgr:=Tryz.Builder_Grow_fresh w.heap.size w.heap.size (s.length / 4*3) (w.alloc (.cells #[.pointer none,.slice none 0 0] 78 (0,0))) (Nat.le_refl _) (heap_alloc_new w _) (by simp) (by omega)
 have hq:(s.length:Int) / 4*3=((s.length / 4*3:Nat):Int):=by omega
 rw [<-hq] at hgr
 clear hq
 go_enter Tryz.func83,Tryz.ntmps83
 go_wp2_with fail
 refine hgr.mono ?_
 rintro e W ⟨rfl,hb,hbel⟩
 have hB0:Below w.heap.size w W:=((Below.refl _ _).alloc (Nat.le_refl _) _).trans hbel
 have HN:=hid hb
 clear hgr hb hbel
 go_wp2_with fail
 go_loopw [0] (fun x wr=>∃ t:List UInt8,∃ u:List UInt8,A=ql7 u (q6j t)/\u.length+t.length<=s.length/\x = .string (ba t)/\Lib.BuilderAt 78 5 w.heap.size w.heap.size (.pointer (some ⟨w.heap.size,0,none⟩)) (Lib.byteCells u) wr/\Below w.heap.size w wr) (fun x _=>jco x)
 case atStart=>exact ⟨s,[],HA.out,by simp,rfl,HN.out,hB0⟩
 case round =>
  obtain ⟨t,u,hst,hu,rfl,hb,hbel⟩:=hrel
  clear hB0 HN HA
  have HBB:=hid hb
  have HU:=hid hu
  have HST:=hid hst
  clear hb hu hst
  have htl:(ba t).size=t.length:=q0p t
  have hdat:(ba t).data.toList=t:=by simp [ba]
  by_cases ht:t = []
  ·subst ht
   have he:(ba []).toList.isEmpty=true:=by rw [ByteArray.toList_eq];rfl
   have hst2:=HST.out
   rw [jb5] at hst2
   have hA:A=(u ++ [],true):=hst2
   rw [List.append_nil] at hA
   subst hA
   have hs2:=Tryz.Builder_String_any w.heap.size w.heap.size u wr (.inr HBB.out) hbel.size
   clear HST hst2
   go_wp2_with fail
   refine hs2.mono ?_
   rintro e W2 ⟨rfl,hb2⟩
   clear hs2
   go_wp2_with fail
   go_ret2
   exact ⟨rfl,hbel.trans hb2⟩
  ·have he:(ba t).toList.isEmpty=false:=by rw [ByteArray.toList_eq,hdat];simpa using ht
   by_cases h4:t.length<4
   ·have h4':(t.length:Int)<4:=by omega
    have hst2:=HST.out
    rw [j1l ht h4] at hst2
    have hA:A=([],false):=hst2
    subst hA
    clear HST hst2
    go_wp2_with fail
    go_ret2
    exact ⟨rfl,hbel⟩
   ·have h4' : ¬ (t.length:Int)<4:=by omega
    have hge:(4:Int)<=(t.length:Int):=by omega
    have hx1:(ba t).extract 0 4=ba (t.take 4):=by rw [q4o];simp
    have hx2:(ba t).extract 4 t.length=ba (t.drop 4):=by rw [q4o,List.take_of_length_le (by rw [List.length_drop];omega)]
    have hrd:=jde (t.take 4) (by rw [List.length_take];omega) wr (hI.below hbel)
    have HH4:=hid h4
    clear h4
    go_wp2_with fail
    refine hrd.mono ?_
    rintro e W1 ⟨⟨a,b,c,n,ok,rfl,hok⟩,hb1⟩
    clear hrd
    have hbel1:=hbel.trans (hb1.mono hbel.size)
    have hbad:(ok=false\/n<3/\4<t.length)->A=([],false):=fun hor=>by
     rw [HST.out,j3m ht fun g hg=>?_]
     ·rfl
     ·rcases hok with ⟨h1,h2,h3,h5⟩|⟨h1,h2⟩
      ·have h6:=hor.resolve_left (by rw [h1];decide)
       have h7:=j9p hg h5
       rw [h7,List.length_take]
       exact ⟨by simp;omega,h6.2⟩
      ·exact absurd hg (h2 g)
    have HOK:=hid hok
    have HBAD:=hid hbad
    clear hok hbad
    cases ok with
    | false =>
     have hA:=HBAD.out (.inl rfl)
     subst hA
     clear HBAD HST
     go_wp2_with fail
     go_ret2
     exact ⟨rfl,hbel1.alloc hbel1.size _⟩
    | true =>
     have hok:1<=n/\n<=3/\rdS (t.take 4) ([a,b,c].take n):=by
      rcases HOK.out with ⟨_,h⟩|⟨h,_⟩
      ·exact h
      ·cases h
     obtain ⟨hn1,hn3,hrs⟩:=hok
     have hn3':(n:Int)<=3:=by omega
     have hn0':(0:Int)<=(n:Int):=by omega
     by_cases hc:n<3/\4<t.length
     ·have hA:=HBAD.out (.inr hc)
      subst hA
      have hc1:(n:Int)<3:=by omega
      have hc2:(4:Int)<(t.length:Int):=by omega
      clear HBAD HST
      go_wp2_with fail
      go_ret2
      exact ⟨rfl,hbel1.alloc hbel1.size _⟩
     ·have hstep:=j5g hrs (by
       have hh:=HH4.out
       have hl:([a,b,c].take n).length=n:=by rw [List.length_take];simp;omega
       rw [hl];omega)
      have hlen:(([a,b,c]:List UInt8).take n).length=n:=by rw [List.length_take];simp;omega
      obtain ⟨O,hO⟩ : ∃ O:Obj,O = .cells #[.int .u8 (a.toNat:Int),.int .u8 (b.toNat:Int),.int .u8 (c.toNat:Int)] 117 (0,0):=⟨_,rfl⟩
      have hal:(W1.alloc O).heap[W1.heap.size]? = some O:=heap_alloc_new W1 O
      have hbA:Below w.heap.size w (W1.alloc O):=hbel1.alloc hbel1.size O
      have hwr:=jaw w.heap.size w.heap.size u (([a,b,c]:List UInt8).take n) ⟨W1.heap.size,0,none⟩ n 3 (W1.alloc O)
       (qgg (qgg HBB.out hb1) ((Below.refl _ _).alloc (Nat.le_refl _) O)) hlen
       (fun j v hj=>by
        rw [hO] at hal ⊢
        have hj3:(Lib.byteCells ([a,b,c]:List UInt8))[j]? = some v:=by
         unfold Lib.byteCells at hj ⊢
         rw [List.getElem?_map] at hj ⊢
         rw [List.getElem?_take] at hj
         split at hj
         ·exact hj
         ·cases hj
        match j,hj3 with
        | 0,hj=>rw [<-hj];exact Lib.cell_of_heap hal 0
        | 1,hj=>rw [<-hj];exact Lib.cell_of_heap hal 1
        | 2,hj=>rw [<-hj];exact Lib.cell_of_heap hal 2)
       (by have h6:=HU.out;omega) hbA.size
      rw [hO] at hwr hbA
      have hst2:=HST.out
      rw [hstep,join_join] at hst2
      have HST2:=hid hst2
      have HHC:=hid hc
      clear hO hal HST hst2 hstep HBAD hrs
      have hrel2:u.length+n+(t.length - 4)<=s.length:=by have h6:=HU.out;have hh:=HH4.out;omega
      by_cases hc1:n<3
      ·have hc1':(n:Int)<3:=by omega
       have hc2' : ¬ (4:Int)<(t.length:Int):=by have:=HHC.out;omega
       clear hc1 hc
       go_wp2_with fail
       refine hwr.mono ?_
       rintro e W2 ⟨rfl,hbw,hbelw⟩
       have HBW:=hid hbw
       clear hbw hwr
       have hbel2:=hbA.trans hbelw
       go_wp2_with fail
       go_roundw
       case rel=>exact ⟨t.drop 4,u++([a,b,c]:List UInt8).take n,HST2.out,by rw [List.length_append,hlen,List.length_drop];exact hrel2,rfl,HBW.out,hbel2⟩
       case measure=>show (ba (t.drop 4)).size<(ba t).size;rw [q0p,q0p,List.length_drop];have hh:=HH4.out;omega
      ·have hc1' : ¬ (n:Int)<3:=by omega
       clear hc1 hc
       go_wp2_with fail
       refine hwr.mono ?_
       rintro e W2 ⟨rfl,hbw,hbelw⟩
       have HBW:=hid hbw
       clear hbw hwr
       have hbel2:=hbA.trans hbelw
       go_wp2_with fail
       go_roundw
       case rel=>exact ⟨t.drop 4,u++([a,b,c]:List UInt8).take n,HST2.out,by rw [List.length_append,hlen,List.length_drop];exact hrel2,rfl,HBW.out,hbel2⟩
       case measure=>show (ba (t.drop 4)).size<(ba t).size;rw [q0p,q0p,List.length_drop];have hh:=HH4.out;omega
end YtlmjgghohipipaaGreatDoor.AM.Bs
end Go.Proofs
namespace Go.Proofs
open Go.RowKit Go.Shelf Go.Lib
set_option linter.unusedVariables false
set_option linter.unusedSimpArgs false
namespace YtlmjgghohipipaaGreatDoor.AM.Bs
def q6y (s:List UInt8):Option (List UInt8×Bool):=if s.length<=2000000 then some (q6j s) else none
def qoz:FC:={ f:=83,args:=[qhk],res:=.tup [.c (.d .str),.c (.d .bool)],F:=fun p=>q6y p }
theorem j0j:q0d Inv Tryz.prog qoz:=fun G hG=>⟨⟨by kernel_rfl,fun (s:List UInt8) r h=>by
 have h':q6y s=some r:=h
 unfold q6y at h'
 split at h'
 case isFalse=>cases h'
 rename_i hc
 have hr:q6j s=r:=Option.some.inj h'
 intro Pc w vs hg hlt hv
 obtain ⟨vl⟩:=vs
 match vl,hv with
 | [x],⟨h1,_⟩ =>
  obtain rfl:x = .string (ba s):=q05 h1
  refine (dec_c s hc w (hG.im w hg)).mono ?_
  rintro e w' ⟨rfl,hb⟩
  rw [hr]
  exact ⟨_,Pc,rfl,hb,fun b o hp=>hp,fun b o hp=>Or.inl hp,#[.string (ba r.1),.bool r.2],rfl,q02 (σ:=q6b) (.string (ba r.1)),q02 (σ:=q6b) (.bool r.2),trivial⟩⟩,rfl⟩
theorem qft {s:List UInt8} (h:s.length<=2000000):q6y s=some (q6j s):=by unfold q6y;rw [if_pos h]
end YtlmjgghohipipaaGreatDoor.AM.Bs
end Go.Proofs
namespace Go.Proofs
open Go.RowKit Go.Shelf Go.Lib
set_option linter.unusedVariables false
set_option linter.unusedSimpArgs false
namespace YtlmjgghohipipaaGreatDoor.AM
theorem qr2 {Pc:Nat->Nat->Prop} {w:World} {v:Value} {sz:Nat} {L:List (List Dat)} (hs:0<sz) (hP : ∀b o,Pc b o->b<w.heap.size) (h:DatRep Pc w v (.lst sz L)) :
  ∃ a cap,v = .slice a L.length cap/\L.length<=cap/\cap<=maxLen/\(∀x∈L,x.length=sz)/\(0<L.length->∃ b off,a=some ⟨b,off,none⟩/\b<w.heap.size /\
   ∃ c:Nat->Nat->Value,(∀k j,k<L.length->j<sz->Pc b (off+k*sz+j)/\w.cell? ⟨b,off+k*sz+j,none⟩=some (c k j)/\(c k j).oneCell'=true)/\∀(k j:Nat) (hk:k<L.length) (hj:j<(L[k]).length),DatRep Pc w (c k j) ((L[k])[j])):=by
 cases h with
 | lst a n cap sz xs b off c hn hcap hmax hsz ha hc hr =>
  subst hn
  exact ⟨a,cap,rfl,hcap,hmax,hsz,fun hl=>⟨b,off,ha hl,hP _ _ (hc 0 0 hl hs).1,c,hc,hr⟩⟩
theorem qxz {Pc:Nat->Nat->Prop} {w:World} {v:Value} {l:List (List UInt8)} (hP : ∀b o,Pc b o->b<w.heap.size) (h:DatRep Pc w v (.lst 1 (l.map (q01 .str)))) :
  ∃ a cap,v = .slice a l.length cap/\l.length<=cap/\cap<=maxLen/\(0<l.length->∃ b off,a=some ⟨b,off,none⟩/\b<w.heap.size/\∀k (hk:k<l.length),w.cell? ⟨b,off+k,none⟩=some (.string (ba l[k]))):=by
 obtain ⟨a,cap,rfl,h1,h2,h3,h4⟩:=qr2 (by omega) hP h
 have hlen:(l.map (q01 .str)).length=l.length:=List.length_map ..
 rw [hlen] at h1
 refine ⟨a,cap,by rw [hlen],h1,h2,fun hl=>?_⟩
 obtain ⟨b,off,rfl,hb,c,hc,hr⟩:=h4 (by rw [hlen];exact hl)
 refine ⟨b,off,rfl,hb,fun k hk=>?_⟩
 have k1:=(hc k 0 (by rw [hlen];exact hk) (by omega)).2.1
 have k2:=hr k 0 (by simpa using hk) (by rw [List.getElem_map];simp [q01])
 simp only [List.getElem_map] at k2
 have k3:DatRep Pc w (c k 0) (.v (.string (ba l[k]))):=k2
 have k4:c k 0 = .string (ba l[k]):=by generalize c k 0=u at k3;cases k3 with|v x=>rfl
 rw [k4] at k1
 simpa using k1
def qgt (xs:List (List UInt8)) (sep:List UInt8):Option (List UInt8):=if (0<xs.length/\xs.length<=140737488355328)/\(Lib.join xs sep).length<=140737488355328 then some (Lib.join xs sep) else none
def j32:FC:={ f:=194,args:=[.one (.c (.d (.lst .str))),qhk],res:=qhk,F:=fun p=>qgt p.1 p.2 }
theorem jaf:q0d Inv Tryz.prog j32:=fun G hG=>⟨⟨by kernel_rfl,fun a r h=>by
 obtain ⟨xs,sep⟩:=a
 have h':qgt xs sep=some r:=h
 unfold qgt at h'
 split at h'
 case isFalse=>cases h'
 rename_i hc
 obtain rfl:=Option.some.inj h'
 intro Pc w vs hg hlt hv
 obtain ⟨l⟩:=vs
 match l,hv with
 | [x,y],⟨h1,h2,_⟩ =>
  obtain rfl:y = .string (ba sep):=q05 h2
  obtain ⟨a,cap,rfl,hl1,hl2,hcs⟩:=qxz (Pc:=Pc) hlt h1
  obtain ⟨b,off,rfl,hb,hcell⟩:=hcs hc.1.1
  have e1:(xs.map ba).map (fun x:ByteArray=>x.data.toList)=xs:=by rw [List.map_map];exact (List.map_congr_left fun x _=>by simp [ba]).trans (List.map_id _)
  have e2:(ba sep).data.toList=sep:=by simp [ba]
  have hh:=Tryz.strings_Join b off cap (xs.map ba) (ba sep) w (fun j x hj=>by
   rw [List.getElem?_map] at hj
   obtain ⟨y,hy,rfl⟩:=Option.map_eq_some_iff.1 hj
   obtain ⟨hk,rfl⟩:=List.getElem?_eq_some_iff.1 hy
   exact hcell j hk) hb (by rw [List.length_map];exact hc.1.2) (by rw [List.length_map];exact hl1) (by rw [e1,e2];exact hc.2)
  rw [e1,e2,List.length_map] at hh
  refine hh.mono ?_
  rintro e w' ⟨rfl,hbel⟩
  exact q2x rfl hbel (q02 _)⟩,rfl⟩
end YtlmjgghohipipaaGreatDoor.AM
end Go.Proofs
namespace Go.Proofs.YtlmjgghohipipaaGreatDoor.AM
open Go.RowKit
set_option linter.unusedVariables false
set_option linter.unusedSimpArgs false
abbrev TgD:=List UInt8×(Int×(Int×(Int×(List UInt8×(List UInt8×List UInt8)))))
def tV (t:TgD):VD:=(t.2.1,(t.2.2.1,(t.2.2.2.1,(t.2.2.2.2.1,t.2.2.2.2.2.1))))
abbrev tH (t:TgD):List UInt8:=t.2.2.2.2.2.2
def mkT (p:List UInt8) (v:VD) (h:List UInt8):TgD:=(p,(v.1,(v.2.1,(v.2.2.1,(v.2.2.2.1,(v.2.2.2.2,h))))))
def h1L:List UInt8:=[104,49,58]
def q21 (s:List UInt8):Bool:=decide (h1L <+: s)&&((Bs.q6j (s.drop 3)).2&&decide ((Bs.q6j (s.drop 3)).1.length=32))
def q16 (t:TgD):Int:=if okS t.1=true then (if q0n (tV t)=true then (if qsk t.1 (tV t)=true then (if q21 (tH t)=true then 0 else 4) else 8) else 7) else 6
def j4r (t o:TgD):Bool:=decide (o.1=t.1)&&decide (0<=qd6 (tV o) (tV t))
def q0a (l:List TgD) (t:TgD):Int:=if q16 t=0 then (if l.any (j4r t)=true then 13 else 0) else q16 t
theorem q1v {t:TgD} (h:q16 t=0):okS t.1=true/\q0n (tV t)=true/\qsk t.1 (tV t)=true/\q21 (tH t)=true:=by
 unfold q16 at h
 by_cases h1:okS t.1=true
 ·by_cases h2:q0n (tV t)=true
  ·by_cases h3:qsk t.1 (tV t)=true
   ·by_cases h4:q21 (tH t)=true
    ·exact ⟨h1,h2,h3,h4⟩
    ·rw [if_pos h1,if_pos h2,if_pos h3,if_neg h4] at h;omega
   ·rw [if_pos h1,if_pos h2,if_neg h3] at h;omega
  ·rw [if_pos h1,if_neg h2] at h;omega
 ·rw [if_neg h1] at h;omega
theorem q6x {l:List TgD} {t:TgD} (h:q0a l t=0):q16 t=0/\l.any (j4r t)=false:=by
 unfold q0a at h
 by_cases h1:q16 t=0
 ·rw [if_pos h1] at h
  by_cases h2:l.any (j4r t)=true
  ·rw [if_pos h2] at h;omega
  ·exact ⟨h1,by simpa using h2⟩
 ·rw [if_neg h1] at h;exact absurd h h1
inductive Good:List TgD->Prop
 | nil:Good []
 | snoc {l:List TgD} {t:TgD} (h:Good l) (ht:q0a l t=0):Good (l ++ [t])
theorem Good.judge {l:List TgD} (h:Good l) : ∀t∈l,q16 t=0:=by
 induction h with
 | nil=>intro t ht;cases ht
 | snoc h ht ih =>
  intro t hm
  rcases List.mem_append.1 hm with hm|hm
  ·exact ih t hm
  ·rw [List.mem_singleton.1 hm];exact (q6x ht).1
theorem qiz {β:Type} (p k:List UInt8) (y:β) : ∀m:List (List UInt8×β),q5w p (qxh k y m)=if p=k then some y else q5w p m
 | []=>by
  show (if p=k then some y else q5w p [])=_
  rfl
 | (k',v)::m=>by
  unfold qxh
  by_cases h:k=k'
  ·rw [if_pos h]
   show (if p=k then some y else q5w p m)=if p=k then some y else (if p=k' then some v else q5w p m)
   by_cases h2:p=k
   ·rw [if_pos h2,if_pos h2]
   ·rw [if_neg h2,if_neg h2,if_neg (by rw [<-h];exact h2)]
  ·rw [if_neg h]
   show (if p=k' then some v else q5w p (qxh k y m))=if p=k then some y else (if p=k' then some v else q5w p m)
   rw [qiz p k y m]
   by_cases h2:p=k'
   ·rw [if_pos h2,if_pos h2,if_neg (by rw [h2];exact fun h3=>h h3.symm)]
   ·rw [if_neg h2,if_neg h2]
def q9j (l:List TgD):List (List UInt8×VD):=l.foldl (fun m t=>qxh t.1 (tV t) m) []
theorem qnl (l:List TgD) (t:TgD):q9j (l ++ [t])=qxh t.1 (tV t) (q9j l):=by
 unfold q9j;rw [List.foldl_append];rfl
theorem j7f {l:List TgD} (h:Good l) {t:TgD} (ht:q0n (tV t)=true):l.any (j4r t)=match q5w t.1 (q9j l) with
  | some v=>decide (0<=qd6 v (tV t))
  | none=>false:=by
 induction h with
 | nil=>rfl
 | @snoc l s h hs ih =>
  obtain ⟨j1,j2⟩:=q6x hs
  have cs:=(q1v j1).2.1
  rw [qnl,qiz,List.any_append,List.any_cons,List.any_nil,Bool.or_false]
  by_cases hp:t.1=s.1
  ·rw [if_pos hp]
   show (l.any (j4r t)||(decide (s.1=t.1)&&decide (0<=qd6 (tV s) (tV t))))=decide (0<=qd6 (tV s) (tV t))
   rw [decide_eq_true hp.symm,Bool.true_and]
   by_cases hc:0<=qd6 (tV s) (tV t)
   ·rw [decide_eq_true hc,Bool.or_true]
   ·rw [decide_eq_false hc,Bool.or_false]
    apply Bool.eq_false_iff.2
    intro ha
    obtain ⟨o,ho,hh⟩:=List.any_eq_true.1 ha
    obtain ⟨h1,h2⟩:=Bool.and_eq_true_iff.1 hh
    have h1':=of_decide_eq_true h1
    have h2':=of_decide_eq_true h2
    have co:=(q1v (h.judge o ho)).2.1
    have h3:j4r s o=false:=by
     apply Bool.eq_false_iff.2
     intro h4
     have:=List.any_eq_false.1 j2 o ho
     exact this h4
    have h5 : ¬ 0<=qd6 (tV o) (tV s):=fun h6=>by
     have:j4r s o=true:=by unfold j4r;rw [decide_eq_true (h1'.trans hp),decide_eq_true h6];rfl
     rw [h3] at this;cases this
    have h7:=qgb (tV o) (tV t)
    have h8:=qgb (tV s) (tV t)
    have h9:=qgb (tV o) (tV s)
    have h10:=j9a cs ht co (by omega) (by omega)
    omega
  ·rw [if_neg hp,<-ih]
   have:j4r t s=false:=by unfold j4r;rw [decide_eq_false (fun h3=>hp h3.symm)];rfl
   rw [this,Bool.or_false]
def qop (t:TgD) (m:List (List UInt8×VD)):Int×List (List UInt8×VD) :=
 if q16 t=0 then (match q5w t.1 m with
  | some v=>if qd6 v (tV t)<0 then (0,qxh t.1 (tV t) m) else (13,m)
  | none=>(0,qxh t.1 (tV t) m)) else (q16 t,m)
theorem qe1 {l:List TgD} (h:Good l) (t:TgD):qop t (q9j l)=(q0a l t,if q0a l t=0 then q9j (l ++ [t]) else q9j l):=by
 unfold qop q0a
 by_cases hj:q16 t=0
 ·rw [if_pos hj,if_pos hj,j7f h (q1v hj).2.1,qnl]
  cases q5w t.1 (q9j l) with
  | none=>rfl
  | some v =>
   by_cases hc:qd6 v (tV t)<0
   ·have hc' : ¬ 0<=qd6 v (tV t):=by omega
    simp only [hc,hc',decide_false,if_true,Bool.false_eq_true,if_false]
   ·have hc':0<=qd6 v (tV t):=by omega
    simp only [hc,hc',decide_true,if_true,if_false]
    rfl
 ·rw [if_neg hj,if_neg hj,if_neg hj]
def q2p (t:TgD):List UInt8:=t.1++32::(q5b (tV t)++32::(tH t ++ [10]))
def q3z:List TgD->List TgD->List UInt8×Int
 | d,[]=>((d.map q2p).flatten,0)
 | d,t::l=>if q0a d t=0 then q3z (d ++ [t]) l else ([],q0a d t)
def qyl (p v h:List UInt8):Option TgD:=if (q19 v).2=true/\p ≠ []/\h ≠ [] then some (mkT p (q19 v).1 h) else none
def jat:List (List UInt8)->Option TgD
 | [p,v,h]=>qyl p v h
 | _=>none
def qi7 (s:List UInt8):Option TgD:=jat (spl 32 [] s)
def q2y:List TgD->List (List UInt8)->List TgD×(Int×Int)
 | d,[]=>(d,((d.length:Int),0))
 | d,s::ls=>match qi7 s with
  | none=>([],((d.length:Int),10))
  | some t=>if q0a d t=0 then q2y (d ++ [t]) ls else ([],((d.length:Int),q0a d t))
end Go.Proofs.YtlmjgghohipipaaGreatDoor.AM
