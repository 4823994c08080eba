
import Derived.Test.YtapfankgdkdkgaaGreatDoorMc8
import Derived.Lib.ItoaNum
import Derived.Lib.AtoiAll
import Derived.Shelf.LaysC
import Derived.Shelf.Strconv.Itoa3
import Derived.Shelf.Strconv.AtoiAll
import Derived.Shelf.Small.Strs
import Derived.Shelf.Strings.SplitShaped
import Derived.Lib.LaidTab
import Derived.Lib.AppendIntMem
import Derived.Stop.LaidErr
import Derived.WalkSmall
namespace Go.Proofs.YtapfankgdkdkgaaGreatDoor.AM
open Go.RowKit
set_option linter.unusedVariables false
set_option linter.unusedSimpArgs false
abbrev VD:=Int×(Int×(Int×(List UInt8×List UInt8)))
abbrev v0:VD:=(0,(0,(0,([],[]))))
def q38 (c:UInt8):Bool:=decide (48≤c.toNat)&&decide (c.toNat≤57)
def j5z (c:UInt8):Bool:=(decide (97≤c.toNat)&&decide (c.toNat≤122))||(decide (65≤c.toNat)&&decide (c.toNat≤90))||q38 c||decide (c.toNat=45)
def qc6 (s:List UInt8):Bool:=s.all q38 && !decide (s = [])
def q30 (s:List UInt8):Bool:=s.all j5z && !decide (s = [])
def q7z (s:List UInt8):Bool:=q30 s&&(decide (s = [48]) || !decide (s.head? = some 48) || !qc6 s)
def q5r (p:List UInt8→Bool) (s:List UInt8):Bool:=decide (s = [])||(decide (s.length≤30)&&(spl 46 [] s).all p)
def jej (n:Int):Bool:=decide (0≤n)&&decide (n≤999999999)
def q2t (v:VD):Bool:=jej v.1&&jej v.2.1&&jej v.2.2.1&&q5r q7z v.2.2.2.1&&q5r q30 v.2.2.2.2
def jh9 (c:UInt8) (s:List UInt8):List UInt8:=if s = [] then [] else c::s
def rawT (v:VD):List UInt8:=118::(Lib.itoa v.1++46::(Lib.itoa v.2.1++46::(Lib.itoa v.2.2.1++(jh9 45 v.2.2.2.1++jh9 43 v.2.2.2.2))))
def qj0 (v:VD):List UInt8:=if q2t v then rawT v else []
def jis (w:List UInt8):Int×(Int×List UInt8):=if qc6 w then (0,(w.length,w)) else (1,(0,w))
def jjq (x y:List UInt8):Int:=qm5 qrq (qm5 qrq (cmpL cmpB)) (jis x) (jis y)
def jgh (p:List UInt8):Int×List (List UInt8):=(if p = [] then 1 else 0,spl 46 [] p)
def qnb (a b:List UInt8):Int:=qm5 qrq (cmpL jjq) (jgh a) (jgh b)
def core (v:VD):Int×(Int×(Int×List UInt8)):=(v.1,(v.2.1,(v.2.2.1,v.2.2.2.1)))
def cmpC (x y:Int×(Int×(Int×List UInt8))):Int:=qm5 qrq (qm5 qrq (qm5 qrq qnb)) x y
def jix (v w:VD):Int:=if q2t v&&q2t w then cmpC (core v) (core w) else 0
theorem jfp (x y:List UInt8) (h:jis x=jis y):x=y:=by
 unfold jis at h
 split at h<;>split at h<;>simp at h<;>first|exact h.2|exact h
theorem jfc:Cmp jjq:=(qq7 qfs (qq7 qfs (j3j jeg))).key jis jfp
def jco (c:UInt8):List (List UInt8)→List UInt8
 | []=>[]
 | [x]=>x
 | x::y::t=>x++c::jco c (y::t)
theorem jmt (c:UInt8) (l cur:List UInt8):spl c cur l ≠ []:=fun h=>by have:=(qcx c l cur).1;rw [h] at this;simp at this
theorem qc8 (c:UInt8) : ∀ (l cur:List UInt8),jco c (spl c cur l)=cur++l
 | [],cur=>by simp [spl,jco]
 | b::l,cur=>by
  rw [spl]
  split
  ·rename_i h;subst h
   have ih:=qc8 b l []
   cases hs:spl b [] l with
   | nil=>exact absurd hs (jmt b l [])
   | cons y t=>rw [hs] at ih;rw [jco,ih];simp
  ·rw [qc8 c l];simp
theorem jh2 (c:UInt8) (x y:List UInt8) (h:spl c [] x=spl c [] y):x=y:=by
 have h1:=qc8 c x []
 have h2:=qc8 c y []
 rw [h] at h1
 simpa using h1.symm.trans h2
theorem jdh (x y:List UInt8) (h:jgh x=jgh y):x=y:=jh2 46 x y (congrArg Prod.snd h)
theorem j3k:Cmp qnb:=(qq7 qfs (j3j jfc)).key jgh jdh
theorem qz4 (c:UInt8) (p:UInt8→Bool) : ∀ (l cur:List UInt8),(spl c cur l).all (fun w=>w.all p)=true↔(cur.all p=true∧∀ b∈l,b=c∨p b=true)
 | [],cur=>by simp [spl]
 | b::l,cur=>by
  rw [spl]
  split
  ·rename_i h;subst h
   rw [List.all_cons,Bool.and_eq_true,qz4 b p l []]
   simp
  ·rename_i h
   rw [qz4 c p l]
   simp only [List.all_append,List.all_cons,List.all_nil,Bool.and_true,Bool.and_eq_true,List.mem_cons,forall_eq_or_imp,h,false_or,and_assoc]
theorem j7l : ∀ (k n:Nat),n<10 ^ (k+1)→(Lib.decDigits n).length≤k+1
 | 0,n,h=>by rw [Lib.decDigits,dif_pos (by omega)];simp
 | k+1,n,h=>by
  rw [Lib.decDigits]
  split
  ·simp
  ·have:=j7l k (n / 10) (by rw [Nat.pow_succ] at h;omega)
   simp;omega
theorem jdd {n:Int} (h:0≤n):Lib.itoa n=Lib.decDigits n.toNat:=by unfold Lib.itoa;rw [if_neg (by omega)]
theorem qo0 (c:UInt8) : ∀ l:List UInt8,c ∉ l→Lib.index l [c] = -1
 | [],_=>by simp [Lib.index]
 | b::l,h=>by
  have h1:b≠c:=fun e=>h (by simp [e])
  have ih:=qo0 c l (fun e=>h (by simp [e]))
  rw [qpg h1,ih];rfl
theorem index_hit (c:UInt8) : ∀ (l r:List UInt8),c ∉ l→Lib.index (l++c::r) [c]=((l.length:Nat):Int)
 | [],r,_=>index_self c r
 | b::l,r,h=>by
  have h1:b≠c:=fun e=>h (by simp [e])
  have ih:=index_hit c l r (fun e=>h (by simp [e]))
  rw [List.cons_append,qpg h1,ih]
  have:((((l.length:Nat):Int) == -1)=true)=False:=by simp
  simp only [this,if_false,List.length_cons];omega
def q2i (c:UInt8) (s:List UInt8):List UInt8:=if Lib.index s [c] = -1 then s else s.take (Lib.index s [c]).toNat
def qb8 (c:UInt8) (s:List UInt8):List UInt8:=if Lib.index s [c] = -1 then [] else s.drop ((Lib.index s [c]).toNat+1)
theorem jij (c:UInt8) (x t:List UInt8) (h:c ∉ x):q2i c (x++c::t)=x∧qb8 c (x++c::t)=t:=by
 unfold q2i qb8
 rw [index_hit c x t h]
 have n1 : ¬ ((x.length:Nat):Int) = -1:=by omega
 simp only [n1,if_false,Int.toNat_natCast]
 simp
theorem q9t {v:VD} (h:q2t v=true):(0≤v.1∧v.1≤999999999)∧(0≤v.2.1∧v.2.1≤999999999)∧(0≤v.2.2.1∧v.2.2.1≤999999999)∧q5r q7z v.2.2.2.1=true∧q5r q30 v.2.2.2.2=true:=by
 unfold q2t jej at h
 simp only [Bool.and_eq_true,decide_eq_true_eq] at h
 exact ⟨h.1.1.1.1,h.1.1.1.2,h.1.1.2,h.1.2,h.2⟩
theorem qfv {p:List UInt8→Bool} {s:List UInt8} (h:q5r p s=true):s.length≤30:=by
 unfold q5r at h
 simp only [Bool.or_eq_true,Bool.and_eq_true,decide_eq_true_eq] at h
 rcases h with rfl|h
 ·simp
 ·exact h.1
def qdj (s:List UInt8):Int:=match Lib.atoiAll s with
 | .ok v=>v
 | _=>-1
def q19 (s:List UInt8):List UInt8:=if s.head? = some 118 then s.drop 1 else s
def je7 (s:List UInt8):VD:=(qdj (q2i 46 (q19 (q2i 45 (q2i 43 s)))),(qdj (q2i 46 (qb8 46 (q19 (q2i 45 (q2i 43 s))))),(qdj (qb8 46 (qb8 46 (q19 (q2i 45 (q2i 43 s))))),(qb8 45 (q2i 43 s),qb8 43 s))))
def q0y (s:List UInt8):VD×Bool:=if q2t (je7 s)&&decide (qj0 (je7 s)=s) then (je7 s,true) else (v0,false)
theorem qdp {s:List UInt8} (h:(q0y s).2=true):q2t (q0y s).1=true∧qj0 (q0y s).1=s:=by
 unfold q0y at *
 split at h
 ·rename_i h1
  rw [if_pos h1]
  simp only [Bool.and_eq_true,decide_eq_true_eq] at h1
  exact h1
 ·cases h
end Go.Proofs.YtapfankgdkdkgaaGreatDoor.AM
namespace Go.Proofs
open Go.RowKit Go.Shelf Go.Lib
shelf_lay LaysM.n171 Nm 171 at Tryz as Tryz.laysItoa
shelf_lay LaysC.n172 Nm 172 at Tryz as Tryz.laysAtoi
set_option linter.unusedVariables false
set_option linter.unusedSimpArgs false
namespace YtapfankgdkdkgaaGreatDoor.AM
structure Inv (w:World):Prop where
 errT:w.cell? ⟨0,0,none⟩=some (.iface 196 (.agg #[.pointer (some ⟨9,82,none⟩)]))
 maxLen : ∃ m,w.cell? ⟨Tryz.laysIndex_ren.g 1,0,none⟩=some (.int .i64 m)
 tab:Lib.TabIs Tryz.prog w "internal/strconv.uint64pow10" .u64 Lib.pow10Tab
 syn : ∃ tp p,w.cell? ⟨Tryz.laysAtoi_ren.g 15,0,none⟩=some (.iface tp p)
 rng : ∃ tp p,w.cell? ⟨Tryz.laysAtoi_ren.g 16,0,none⟩=some (.iface tp p)
theorem gTab:(Tryz.prog.globalNamed "internal/strconv.uint64pow10").isSome=true:=by kernel_rfl
theorem Inv.below {w w':World} (h:Inv w) (hb:Below w.heap.size w w'):Inv w':=by
 obtain ⟨he,⟨m,hm⟩,ht,⟨t1,p1,h1⟩,⟨t2,p2,h2⟩⟩:=h
 refine ⟨(hb.cell (p:=⟨_,0,none⟩) (World.block_lt_of_cell? _ _ he)).trans he,⟨m,(hb.cell (p:=⟨_,0,none⟩) (World.block_lt_of_cell? _ _ hm)).trans hm⟩,?_,⟨t1,p1,(hb.cell (p:=⟨_,0,none⟩) (World.block_lt_of_cell? _ _ h1)).trans h1⟩,⟨t2,p2,(hb.cell (p:=⟨_,0,none⟩) (World.block_lt_of_cell? _ _ h2)).trans h2⟩⟩
 obtain ⟨g,hg⟩:=Option.isSome_iff_exists.1 gTab
 refine var?_below hb hg ?_ ht
 have hv:w.var? Tryz.prog "internal/strconv.uint64pow10" = some _:=ht
 unfold World.var? at hv
 rw [hg] at hv
 simp only [Option.bind_some] at hv
 split at hv
 ·rename_i h5;exact (Array.getElem?_eq_some_iff.1 h5).1
 ·cases hv
theorem q6n:Know Inv Inv:=⟨fun w w' h hb=>h.below hb,fun _ h=>h⟩
variable {P:Program}
theorem q2z {Pc:Nat→Nat→Prop} {w w':World} {v:Value} {d:D} {e:Ending} (he:e = .returned v) (hb:Below w.heap.size w w') (hv:q1c (q3z Pc) ql8 w' v d) :
  ∃ v' Pc',e = .returned v'∧Below w.heap.size w w'∧(∀ b o,Pc b o→Pc' b o)∧(∀ b o,Pc' b o→Pc b o∨(w.heap.size≤b∧b<w'.heap.size))∧q1c (q3z Pc') ql8 w' v' d :=
 ⟨v,Pc,he,hb,fun _ _ h=>h,fun _ _ h=>Or.inl h,hv⟩
abbrev qmr:SD:=.one (.c (.d .str))
abbrev intA:SD:=.one (.c (.d (.int .i64)))
abbrev jcr:SD:=.one (.c (.d .bool))
def qhg (s sep:List UInt8):Option Int:=match sep with
 | [c]=>if s.length<4294967281 then some (Lib.index s [c]) else none
 | _=>none
def j3a:FC:={ f:=111,args:=[qmr,qmr],res:=intA,F:=fun p=>qhg p.1 p.2 }
theorem jek:q0d Inv Tryz.prog j3a:=fun G hG=>⟨⟨by kernel_rfl,fun a r h=>by
 obtain ⟨s,sep⟩:=a
 have h':qhg s sep=some r:=h
 unfold qhg at h'
 split at h'
 case h_2=>cases h'
 rename_i c
 split at h'
 case isFalse=>cases h'
 rename_i hc
 have hr:Lib.index s [c]=r:=Option.some.inj h'
 intro Pc w vs hg hlt hv
 obtain ⟨m,hm⟩:=(hG.im w hg).maxLen
 obtain ⟨l⟩:=vs
 match l,hv with
 | [x,y],⟨h1,h2,_⟩ =>
  obtain rfl:x = .string (ba s):=q07 h1
  obtain rfl:y = .string (ba [c]):=q07 h2
  have e1:(ba s).data.toList=s:=by simp [ba]
  have e2:(ba [c]).data.toList = [c]:=by simp [ba]
  have hh:=Any.stringslite_Index { Tryz.laysIndex with } (ba s) (ba [c]) m w (by rw [q29];exact hc) hm
  rw [e1,e2,hr] at hh
  refine hh.mono ?_
  rintro e w' ⟨rfl,rfl⟩
  exact q2z rfl (Below.refl _ _) (q05 _)⟩,rfl⟩
def qks (n:Int):Option (List UInt8):=if -9223372036854775808≤n∧n≤9223372036854775807 then some (Lib.itoa n) else none
def jb9:FC:={ f:=76,args:=[intA],res:=qmr,F:=fun p=>qks p }
theorem jho:q0d Inv Tryz.prog jb9:=fun G hG=>⟨⟨by kernel_rfl,fun (n:Int) r h=>by
 have h':qks n=some r:=h
 unfold qks at h'
 split at h'
 case isFalse=>cases h'
 rename_i hc
 have hr:Lib.itoa n=r:=Option.some.inj h'
 intro Pc w vs hg hlt hv
 obtain ⟨l⟩:=vs
 match l,hv with
 | [x],⟨h1,_⟩ =>
  obtain rfl:x = .int .i64 n:=q07 h1
  refine (Any.strconv_Itoa Tryz.laysItoa n hc.1 hc.2 w (hG.im w hg).tab).mono ?_
  rintro e w' ⟨rfl,k,os,rfl⟩
  subst hr
  exact q2z rfl (Lib.below_grow _ w (Nat.le_refl _) k os) (q05 (.string (ba (Lib.itoa n))))⟩,rfl⟩
end YtapfankgdkdkgaaGreatDoor.AM
end Go.Proofs
namespace Go.Proofs
open Go.RowKit Go.Shelf Go.Lib
shelf_lay LaysM.n146 Nm 146 at Tryz as Tryz.laysSplit
shelf_lay Lays.n106 Nm 106 at Tryz as Tryz.laysCompare
set_option linter.unusedVariables false
set_option linter.unusedSimpArgs false
namespace YtapfankgdkdkgaaGreatDoor.AM
variable {P:Program}
def qoj:FC:={ f:=211,args:=[qmr,qmr],res:=intA,F:=fun p=>some (Lib.compareBytes p.1 p.2) }
def qag (a b:List UInt8):Option Int:=some (Lib.compareBytes a b)
theorem j4l:q0d Inv Tryz.prog qoj:=fun G hG=>⟨⟨by kernel_rfl,fun a r h=>by
 obtain ⟨s,t⟩:=a
 have hr:Lib.compareBytes s t=r:=Option.some.inj h
 intro Pc w vs hg hlt hv
 obtain ⟨l⟩:=vs
 match l,hv with
 | [x,y],⟨h1,h2,_⟩ =>
  obtain rfl:x = .string (ba s):=q07 h1
  obtain rfl:y = .string (ba t):=q07 h2
  have e1:(ba s).data.toList=s:=by simp [ba]
  have e2:(ba t).data.toList=t:=by simp [ba]
  have hh:=Any.strings_Compare Tryz.laysCompare (ba s) (ba t) w
  rw [e1,e2,hr] at hh
  refine hh.mono ?_
  rintro e w' ⟨rfl,rfl⟩
  exact q2z rfl (Below.refl _ _) (q05 _)⟩,rfl⟩
theorem qrt (s:List UInt8) (w:World) (hI:Inv w) (hlim:s.length≤281474976710656):Calls Tryz.prog 156 #[.string (ba s)] w fun e w'=>e = .returned (.int .i64 (qdj s))∧Below w.heap.size w w':=by
 have e1:(ba s).data.toList=s:=by simp [ba]
 have hl:(ba s).size≤281474976710656:=by rw [q29];exact hlim
 obtain ⟨ts,ps,hs⟩:=hI.syn
 obtain ⟨tr,pr,hr⟩:=hI.rng
 go_enter Tryz.func156,Tryz.ntmps156
 unfold qdj
 cases h:Lib.atoiAll s with
 | ok v =>
  go_wp2_with (go_at_call 167;refine (Any.strconv_Atoi_ok Tryz.laysAtoi (ba s) (by omega) v (by rw [e1];exact h) w).mono ?_)
  rintro e w' ⟨rfl,hw⟩
  go_wp2
  go_ret
  refine ⟨rfl,?_⟩
  rcases hw with rfl|⟨t,rfl⟩
  ·exact Below.refl _ _
  ·exact Lib.bytesWorld_below _ _ _
 | «syntax» =>
  go_wp2_with (go_at_call 167;refine (Any.strconv_Atoi_syntax Tryz.laysAtoi (ba s) hl (by rw [e1];exact h) _ w hs (Or.inr ⟨_,_,rfl⟩)).mono ?_)
  rintro e w' ⟨N,rfl,hN,hc,hb⟩
  go_wp2
  go_ret
  exact ⟨rfl,hb⟩
 | range =>
  go_wp2_with (go_at_call 167;refine (Any.strconv_Atoi_range Tryz.laysAtoi (ba s) hl (by rw [e1];exact h) _ w hr (Or.inr ⟨_,_,rfl⟩)).mono ?_)
  rintro e w' ⟨N,rfl,hN,hc,hb⟩
  go_wp2
  go_ret
  exact ⟨rfl,hb⟩
def q3t (s:List UInt8):Option Int:=if s.length≤281474976710656 then some (qdj s) else none
def quf:FC:={ f:=156,args:=[qmr],res:=intA,F:=fun p=>q3t p }
theorem j7d:q0d Inv Tryz.prog quf:=fun G hG=>⟨⟨by kernel_rfl,fun (s:List UInt8) r h=>by
 have h':q3t s=some r:=h
 unfold q3t at h'
 split at h'
 case isFalse=>cases h'
 rename_i hc
 have hr:qdj s=r:=Option.some.inj h'
 intro Pc w vs hg hlt hv
 obtain ⟨l⟩:=vs
 match l,hv with
 | [x],⟨h1,_⟩ =>
  obtain rfl:x = .string (ba s):=q07 h1
  refine (qrt s w (hG.im w hg) hc).mono ?_
  rintro e w' ⟨rfl,hb⟩
  subst hr
  exact q2z rfl hb (q05 _)⟩,rfl⟩
theorem jkw:Tryz.laysSplit_ren.g 1=Tryz.laysIndex_ren.g 1:=by kernel_rfl
def q5z (s sep:List UInt8):Option (List (List UInt8)):=match sep with
 | [c]=>if s.length<4294967281 then some (spl c [] s) else none
 | _=>none
def qr1:FC:={ f:=93,args:=[qmr,qmr],res:=.one (.c (.d (.lst .str))),F:=fun p=>q5z p.1 p.2 }
theorem j09:q0d Inv Tryz.prog qr1:=fun G hG=>⟨⟨by kernel_rfl,fun a r h=>by
 obtain ⟨s,sep⟩:=a
 have h':q5z s sep=some r:=h
 unfold q5z at h'
 split at h'
 case h_2=>cases h'
 rename_i c
 split at h'
 case isFalse=>cases h'
 rename_i hc
 have hr:(Lib.splitB (ba [c]) 0 (Lib.countB (ba s) (ba [c])) (ba s)).map unB=r:=(j3l c s).trans (Option.some.inj h')
 intro Pc w vs hg hlt hv
 obtain ⟨m,hm⟩:=(hG.im w hg).maxLen
 obtain ⟨l⟩:=vs
 match l,hv with
 | [x,y],⟨h1,h2,_⟩ =>
  obtain rfl:x = .string (ba s):=q07 h1
  obtain rfl:y = .string (ba [c]):=q07 h2
  have b1:1≤(ba [c]).size:=by rw [q29];exact Nat.le_refl _
  have hlen:(Lib.splitB (ba [c]) 0 (Lib.countB (ba s) (ba [c])) (ba s)).length=Lib.countB (ba s) (ba [c])+1:=Lib.splitB_all (ba [c]) b1 0 _ (ba s) rfl
  refine (Any.strings_Split { Tryz.laysSplit with } Tryz.laysSplit.i9 (ba s) (ba [c]) m w (by rw [q29];exact hc) (by rw [jkw];exact hm) b1).mono ?_
  rintro e w' ⟨rfl,rfl⟩
  generalize hL:Lib.splitB (ba [c]) 0 (Lib.countB (ba s) (ba [c])) (ba s)=L at hlen hr
  refine ⟨_,fun b o=>Pc b o∨b=w.heap.size,rfl,(Below.refl _ _).alloc (Nat.le_refl _) _,fun b o hp=>Or.inl hp,?_,?_⟩
  ·rintro b o (hp|rfl)
   ·exact Or.inl hp
   ·exact Or.inr ⟨Nat.le_refl _,by simp⟩
  ·show DatRep _ _ _ (.lst 1 (r.map (q02 .str)))
   have hr2:r.map (q02 .str)=L.map fun x=>[Dat.v (.string x)]:=by
    rw [← hr,List.map_map]
    exact List.map_congr_left fun x _=>by show [Dat.v (.string (ba (unB x)))]=_;rw [j68]
   rw [hr2,← hlen]
   have hmax:L.length≤maxLen:=by
    have:=Lib.countB_le (ba [c]) b1 (ba s).size (ba s) (Nat.le_refl _)
    rw [q29] at this
    have hM:maxLen=9223372036854775807:=by decide
    omega
   refine .lst _ _ _ 1 _ w.heap.size 0 (fun k j=>.string (L.getD k ⟨#[]⟩)) (by simp) (Nat.le_refl _) hmax (fun x hx=>?_) (fun _=>rfl) (fun k j hk hj=>⟨Or.inr rfl,?_,rfl⟩) (fun k j hk hj=>?_)
   ·obtain ⟨y,_,rfl⟩:=List.mem_map.1 hx;rfl
   ·have hk':k<L.length:=by simpa using hk
    have hj0:j=0:=by omega
    subst hj0
    rw [World.cell?_alloc_new]
    simp [List.getD,hk']
   ·have hk':k<L.length:=by simpa using hk
    have hj0:j=0:=by simp at hj;exact hj
    subst hj0
    simp [List.getD,hk']
    exact .v _⟩,rfl⟩
end YtapfankgdkdkgaaGreatDoor.AM
end Go.Proofs
namespace Go.Proofs.YtapfankgdkdkgaaGreatDoor.AM
open Go.RowKit
set_option linter.unusedVariables false
set_option maxRecDepth 20000
def qj7 (n:Nat):List LC:=[]
def q39 (n:Nat) (a1:Int):Option (Bool) :=
 (bif decide ((48:Int)≤a1) then some (decide (a1≤(57:Int))) else some false)
def q3v (n:Nat):FC:={ f:=169,args:=[.one (.c (.d (.int .u8)))],res:=.one (.c (.d .bool)),F:=fun p=>q39 n p }
def qnf (n:Nat):List FC:=[]
theorem qtu (n:Nat) {G:World→Prop} (hG:Know Inv G) : ∀ c∈qnf n,q18 Tryz.prog G c∧q09 c.args=true:=(fun _ h=>by cases h)
def qoa:q08:=[]
theorem j47:drB qoa (q00 Tryz.f169)=true:=by kernel_rfl
theorem j4g (n:Nat) : ∀ a,(q3v n).F a=main Tryz.prog 9 (qnf n) (qj7 n) qoa (q00 Tryz.f169) [.tmp 2] (q3v n).args (q3v n).res a:=by intro a;kernel_rfl
theorem qo7 (n:Nat):q0d Inv Tryz.prog (q3v n):=fun G hG=>⟨⟨by kernel_rfl,fun a r h=>q04 (c:=q00 Tryz.f169) Tryz.func169 (by kernel_rfl) (by kernel_rfl) (Nat.le_of_ble_eq_true (by kernel_rfl)) hG.st (by kernel_rfl) (rs:=[.tmp 2]) (by kernel_rfl) (qtu n hG) (lts:=qj7 n) (fun F hF hFG=>have hK:Know Inv F.G:=hFG ▸ hG;(q03 fun j L h1 h2 h3=>absurd h2 (Nat.not_lt.2 (Nat.le_trans (by decide +kernel) h1)))) j47 ((j4g n a).symm.trans h)⟩,rfl⟩
def qnw (n:Nat):List LC:=[]
def qfr (n:Nat) (a1:Int):Option (Bool) :=
 (bif decide ((97:Int)≤a1) then (bif decide (a1≤(122:Int)) then some true else (bif decide ((65:Int)≤a1) then (bif decide (a1≤(90:Int)) then some true else (q39 n a1).bind fun (r1:Bool)=>(bif r1 then some true else some (decide (a1=(45:Int))))) else (q39 n a1).bind fun (r2:Bool)=>(bif r2 then some true else some (decide (a1=(45:Int)))))) else (bif decide ((65:Int)≤a1) then (bif decide (a1≤(90:Int)) then some true else (q39 n a1).bind fun (r3:Bool)=>(bif r3 then some true else some (decide (a1=(45:Int))))) else (q39 n a1).bind fun (r4:Bool)=>(bif r4 then some true else some (decide (a1=(45:Int))))))
def q79 (n:Nat):FC:={ f:=139,args:=[.one (.c (.d (.int .u8)))],res:=.one (.c (.d .bool)),F:=fun p=>qfr n p }
def qw0 (n:Nat):List FC:=[q3v n]
theorem qy8 (n:Nat) {G:World→Prop} (hG:Know Inv G) : ∀ c∈qw0 n,q18 Tryz.prog G c∧q09 c.args=true:=List.forall_mem_cons.2 ⟨qo7 n G hG,(fun _ h=>by cases h)⟩
def qul:q08:=[]
theorem j83:drB qul (q00 Tryz.f139)=true:=by kernel_rfl
theorem j6z (n:Nat) : ∀ a,(q79 n).F a=main Tryz.prog 25 (qw0 n) (qnw n) qul (q00 Tryz.f139) [.tmp 2] (q79 n).args (q79 n).res a:=by intro a;kernel_rfl
theorem j9k (n:Nat):q0d Inv Tryz.prog (q79 n):=fun G hG=>⟨⟨by kernel_rfl,fun a r h=>q04 (c:=q00 Tryz.f139) Tryz.func139 (by kernel_rfl) (by kernel_rfl) (Nat.le_of_ble_eq_true (by kernel_rfl)) hG.st (by kernel_rfl) (rs:=[.tmp 2]) (by kernel_rfl) (qy8 n hG) (lts:=qnw n) (fun F hF hFG=>have hK:Know Inv F.G:=hFG ▸ hG;(q03 fun j L h1 h2 h3=>absurd h2 (Nat.not_lt.2 (Nat.le_trans (by decide +kernel) h1)))) j83 ((j6z n a).symm.trans h)⟩,rfl⟩
@[reducible] def q99:SSt:=⟨[(0,.one (.c (.d .str))),(1,.one (.c (.fn 139 []))),(7,.one (.c (.d (.int .i64)))),(8,.one (.c (.d (.int .i64))))],[],[]⟩
@[reducible] def q5a:List (Exit×SSt):=[(.ret,⟨[(4,.one (.c (.d .bool)))],[],[]⟩),(.exit 0,⟨[(0,.one (.c (.d .str)))],[],[]⟩)]
def qlb (n:Nat) (rec:(List UInt8)→Int→Int→Option (((Bool×(Unit))×(Unit)×(Unit))⊕(((List UInt8)×(Unit))×(Unit)×(Unit)))) (a1:List UInt8) (a2:Int) (a3:Int):Option (((Bool×(Unit))×(Unit)×(Unit))⊕(((List UInt8)×(Unit))×(Unit)×(Unit))) :=
 (bif decide (a3<a2) then (sAt a1 a3).bind fun (c1:Int)=>(qfr n c1).bind fun (r2:Bool)=>(bif !r2 then some (Sum.inl ((false,()),((),()))) else q0e (IntKind.wrap .i64 (a3+(1:Int))) fun (n3:Int)=>rec a1 a2 n3) else some (Sum.inr (((a1,()),((),())))))
def qjm (n:Nat) (rec:pSt q99→Option (q0q q5a)) (p:pSt q99):Option (q0q q5a):=qlb n (fun a1 a2 a3=>rec ((a1,((),(a2,(a3,())))),((),()))) p.1.1 p.1.2.2.1 p.1.2.2.2.1
def q4w (n m:Nat) (a1:List UInt8) (a2:Int) (a3:Int):Option (((Bool×(Unit))×(Unit)×(Unit))⊕(((List UInt8)×(Unit))×(Unit)×(Unit))):=q0t (qjm n) m ((a1,((),(a2,(a3,())))),((),()))
theorem qco (n m:Nat) (a1:List UInt8) (a2:Int) (a3:Int):q4w n (m+1) a1 a2 a3=qlb n (fun a1 a2 a3=>q4w n m a1 a2 a3) a1 a2 a3:=rfl
def qt2 (n:Nat):LC:={ sh:=q99,outs:=q5a,F:=q0t (qjm n) n }
def qdg (n:Nat):List LC:=[qt2 n]
def qg3 (n:Nat) (a1:List UInt8) (a2:Unit):Option (Bool) :=
 (q4w n n a1 ((List.length a1:Nat):Int) (0:Int)).bind fun (o4:((Bool×(Unit))×(Unit)×(Unit))⊕(((List UInt8)×(Unit))×(Unit)×(Unit)))=>Sum.elim (fun (q5:(Bool×(Unit))×(Unit)×(Unit))=>some q5.1.1) (fun (q6:((List UInt8)×(Unit))×(Unit)×(Unit))=>some (!decide (q6.1.1=([]:List UInt8)))) o4
def q7f (n:Nat):FC:={ f:=138,args:=[.one (.c (.d .str)),.one (.c (.fn 139 []))],res:=.one (.c (.d .bool)),F:=fun p=>qg3 n p.1 p.2 }
def qhq (n:Nat):List FC:=[q79 n]
theorem qgz (n:Nat) {G:World→Prop} (hG:Know Inv G) : ∀ c∈qhq n,q18 Tryz.prog G c∧q09 c.args=true:=List.forall_mem_cons.2 ⟨j9k n G hG,(fun _ h=>by cases h)⟩
def qi3:q08:=[]
theorem qs1:drB qi3 (q00 Tryz.f138)=true:=by kernel_rfl
theorem j3s (n:Nat) : ∀ rec p,qjm n rec p=round Tryz.prog 20 (qhq n) (qdg n) qi3 1 q99 q5a (q01 0 0 (q00 Tryz.f138)) rec p:=by intro rec p;kernel_rfl
theorem qz7 (n:Nat) {F:Fr} (hF:F.n=20) (hK:Know Inv F.G):qdv Tryz.prog F (qt2 n) (q01 0 0 (q00 Tryz.f138)) :=
 q0x hF (by kernel_rfl) (qgz n hK) (j3s n) (fuel:=n) (fun _=>rfl) (q03 fun j L h1 h2 h3=>absurd h2 (Nat.not_lt.2 (Nat.le_trans (by decide +kernel) h1))) (q1n qs1)
theorem jaw (n:Nat) : ∀ a,(q7f n).F a=main Tryz.prog 20 (qhq n) (qdg n) qi3 (q00 Tryz.f138) [.tmp 4] (q7f n).args (q7f n).res a:=by intro a;kernel_rfl
theorem jay (n:Nat):q0d Inv Tryz.prog (q7f n):=fun G hG=>⟨⟨by kernel_rfl,fun a r h=>q04 (c:=q00 Tryz.f138) Tryz.func138 (by kernel_rfl) (by kernel_rfl) (Nat.le_of_ble_eq_true (by kernel_rfl)) hG.st (by kernel_rfl) (rs:=[.tmp 4]) (by kernel_rfl) (qgz n hG) (lts:=qdg n) (fun F hF hFG=>have hK:Know Inv F.G:=hFG ▸ hG;(q03 (c:=(q00 Tryz.f138)) (fun j L h1 h2 h3=>by
  have h2':j<1:=Nat.lt_of_lt_of_le h2 (by decide +kernel)
  match j,h1,h2',h3 with
  | 0,_,_,h3=>obtain rfl:=Option.some.inj h3;exact (show q01 0 0 (q00 Tryz.f138)=q01 0 0 (q00 Tryz.f138) by kernel_rfl) ▸ qz7 n hF hK
  | j+1,_,h2',_=>exact absurd h2' (by omega)))) qs1 ((jaw n a).symm.trans h)⟩,rfl⟩
@[reducible] def q8x:SSt:=⟨[(0,.one (.c (.d .str))),(1,.one (.c (.fn 169 []))),(7,.one (.c (.d (.int .i64)))),(8,.one (.c (.d (.int .i64))))],[],[]⟩
@[reducible] def q4l:List (Exit×SSt):=[(.ret,⟨[(4,.one (.c (.d .bool)))],[],[]⟩),(.exit 0,⟨[(0,.one (.c (.d .str)))],[],[]⟩)]
def qia (n:Nat) (rec:(List UInt8)→Int→Int→Option (((Bool×(Unit))×(Unit)×(Unit))⊕(((List UInt8)×(Unit))×(Unit)×(Unit)))) (a1:List UInt8) (a2:Int) (a3:Int):Option (((Bool×(Unit))×(Unit)×(Unit))⊕(((List UInt8)×(Unit))×(Unit)×(Unit))) :=
 (bif decide (a3<a2) then (sAt a1 a3).bind fun (c1:Int)=>(q39 n c1).bind fun (r2:Bool)=>(bif !r2 then some (Sum.inl ((false,()),((),()))) else q0e (IntKind.wrap .i64 (a3+(1:Int))) fun (n3:Int)=>rec a1 a2 n3) else some (Sum.inr (((a1,()),((),())))))
def qhc (n:Nat) (rec:pSt q8x→Option (q0q q4l)) (p:pSt q8x):Option (q0q q4l):=qia n (fun a1 a2 a3=>rec ((a1,((),(a2,(a3,())))),((),()))) p.1.1 p.1.2.2.1 p.1.2.2.2.1
def q4n (n m:Nat) (a1:List UInt8) (a2:Int) (a3:Int):Option (((Bool×(Unit))×(Unit)×(Unit))⊕(((List UInt8)×(Unit))×(Unit)×(Unit))):=q0t (qhc n) m ((a1,((),(a2,(a3,())))),((),()))
theorem qdu (n m:Nat) (a1:List UInt8) (a2:Int) (a3:Int):q4n n (m+1) a1 a2 a3=qia n (fun a1 a2 a3=>q4n n m a1 a2 a3) a1 a2 a3:=rfl
def qvi (n:Nat):LC:={ sh:=q8x,outs:=q4l,F:=q0t (qhc n) n }
def qe5 (n:Nat):List LC:=[qvi n]
def qg1 (n:Nat) (a1:List UInt8) (a2:Unit):Option (Bool) :=
 (q4n n n a1 ((List.length a1:Nat):Int) (0:Int)).bind fun (o4:((Bool×(Unit))×(Unit)×(Unit))⊕(((List UInt8)×(Unit))×(Unit)×(Unit)))=>Sum.elim (fun (q5:(Bool×(Unit))×(Unit)×(Unit))=>some q5.1.1) (fun (q6:((List UInt8)×(Unit))×(Unit)×(Unit))=>some (!decide (q6.1.1=([]:List UInt8)))) o4
def q7w (n:Nat):FC:={ f:=138,args:=[.one (.c (.d .str)),.one (.c (.fn 169 []))],res:=.one (.c (.d .bool)),F:=fun p=>qg1 n p.1 p.2 }
def qhw (n:Nat):List FC:=[q3v n]
theorem qjj (n:Nat) {G:World→Prop} (hG:Know Inv G) : ∀ c∈qhw n,q18 Tryz.prog G c∧q09 c.args=true:=List.forall_mem_cons.2 ⟨qo7 n G hG,(fun _ h=>by cases h)⟩
def qk2:q08:=[]
theorem qw6:drB qk2 (q00 Tryz.f138)=true:=by kernel_rfl
theorem j5p (n:Nat) : ∀ rec p,qhc n rec p=round Tryz.prog 20 (qhw n) (qe5 n) qk2 1 q8x q4l (q01 0 0 (q00 Tryz.f138)) rec p:=by intro rec p;kernel_rfl
theorem qxy (n:Nat) {F:Fr} (hF:F.n=20) (hK:Know Inv F.G):qdv Tryz.prog F (qvi n) (q01 0 0 (q00 Tryz.f138)) :=
 q0x hF (by kernel_rfl) (qjj n hK) (j5p n) (fuel:=n) (fun _=>rfl) (q03 fun j L h1 h2 h3=>absurd h2 (Nat.not_lt.2 (Nat.le_trans (by decide +kernel) h1))) (q1n qw6)
theorem j73 (n:Nat) : ∀ a,(q7w n).F a=main Tryz.prog 20 (qhw n) (qe5 n) qk2 (q00 Tryz.f138) [.tmp 4] (q7w n).args (q7w n).res a:=by intro a;kernel_rfl
theorem j7b (n:Nat):q0d Inv Tryz.prog (q7w n):=fun G hG=>⟨⟨by kernel_rfl,fun a r h=>q04 (c:=q00 Tryz.f138) Tryz.func138 (by kernel_rfl) (by kernel_rfl) (Nat.le_of_ble_eq_true (by kernel_rfl)) hG.st (by kernel_rfl) (rs:=[.tmp 4]) (by kernel_rfl) (qjj n hG) (lts:=qe5 n) (fun F hF hFG=>have hK:Know Inv F.G:=hFG ▸ hG;(q03 (c:=(q00 Tryz.f138)) (fun j L h1 h2 h3=>by
  have h2':j<1:=Nat.lt_of_lt_of_le h2 (by decide +kernel)
  match j,h1,h2',h3 with
  | 0,_,_,h3=>obtain rfl:=Option.some.inj h3;exact (show q01 0 0 (q00 Tryz.f138)=q01 0 0 (q00 Tryz.f138) by kernel_rfl) ▸ qxy n hF hK
  | j+1,_,h2',_=>exact absurd h2' (by omega)))) qw6 ((j73 n a).symm.trans h)⟩,rfl⟩
def qnu (n:Nat):List LC:=[]
def qgf (n:Nat) (a1:List UInt8):Option (Bool) :=
 (qg3 n a1 ()).bind fun (r1:Bool)=>some r1
def q7v (n:Nat):FC:={ f:=107,args:=[.one (.c (.d .str))],res:=.one (.c (.d .bool)),F:=fun p=>qgf n p }
def qvq (n:Nat):List FC:=[q7f n]
theorem qyn (n:Nat) {G:World→Prop} (hG:Know Inv G) : ∀ c∈qvq n,q18 Tryz.prog G c∧q09 c.args=true:=List.forall_mem_cons.2 ⟨jay n G hG,(fun _ h=>by cases h)⟩
def qw4:q08:=[]
theorem j9q:drB qw4 (q00 Tryz.f107)=true:=by kernel_rfl
theorem j8p (n:Nat) : ∀ a,(q7v n).F a=main Tryz.prog 5 (qvq n) (qnu n) qw4 (q00 Tryz.f107) [.tmp 2] (q7v n).args (q7v n).res a:=by intro a;kernel_rfl
theorem qvc (n:Nat):q0d Inv Tryz.prog (q7v n):=fun G hG=>⟨⟨by kernel_rfl,fun a r h=>q04 (c:=q00 Tryz.f107) Tryz.func107 (by kernel_rfl) (by kernel_rfl) (Nat.le_of_ble_eq_true (by kernel_rfl)) hG.st (by kernel_rfl) (rs:=[.tmp 2]) (by kernel_rfl) (qyn n hG) (lts:=qnu n) (fun F hF hFG=>have hK:Know Inv F.G:=hFG ▸ hG;(q03 fun j L h1 h2 h3=>absurd h2 (Nat.not_lt.2 (Nat.le_trans (by decide +kernel) h1)))) j9q ((j8p n a).symm.trans h)⟩,rfl⟩
def qei (n:Nat):List LC:=[]
def q3u (n:Nat) (a1:List UInt8):Option (Bool) :=
 (qg1 n a1 ()).bind fun (r1:Bool)=>some r1
def q2y (n:Nat):FC:={ f:=137,args:=[.one (.c (.d .str))],res:=.one (.c (.d .bool)),F:=fun p=>q3u n p }
def qkd (n:Nat):List FC:=[q7w n]
theorem qqc (n:Nat) {G:World→Prop} (hG:Know Inv G) : ∀ c∈qkd n,q18 Tryz.prog G c∧q09 c.args=true:=List.forall_mem_cons.2 ⟨j7b n G hG,(fun _ h=>by cases h)⟩
def ql0:q08:=[]
theorem qxn:drB ql0 (q00 Tryz.f137)=true:=by kernel_rfl
theorem qyp (n:Nat) : ∀ a,(q2y n).F a=main Tryz.prog 5 (qkd n) (qei n) ql0 (q00 Tryz.f137) [.tmp 2] (q2y n).args (q2y n).res a:=by intro a;kernel_rfl
theorem qjg (n:Nat):q0d Inv Tryz.prog (q2y n):=fun G hG=>⟨⟨by kernel_rfl,fun a r h=>q04 (c:=q00 Tryz.f137) Tryz.func137 (by kernel_rfl) (by kernel_rfl) (Nat.le_of_ble_eq_true (by kernel_rfl)) hG.st (by kernel_rfl) (rs:=[.tmp 2]) (by kernel_rfl) (qqc n hG) (lts:=qei n) (fun F hF hFG=>have hK:Know Inv F.G:=hFG ▸ hG;(q03 fun j L h1 h2 h3=>absurd h2 (Nat.not_lt.2 (Nat.le_trans (by decide +kernel) h1)))) qxn ((qyp n a).symm.trans h)⟩,rfl⟩
def qb4 (n:Nat):List LC:=[]
def q9x (n:Nat) (a1:List UInt8):Option (Bool) :=
 (qgf n a1).bind fun (r1:Bool)=>(bif r1 then (bif decide (a1=([48]:List UInt8)) then some true else (sAt a1 (0:Int)).bind fun (c2:Int)=>(bif !decide (c2=(48:Int)) then some true else (q3u n a1).bind fun (r3:Bool)=>some (!r3))) else some false)
def q4k (n:Nat):FC:={ f:=106,args:=[.one (.c (.d .str))],res:=.one (.c (.d .bool)),F:=fun p=>q9x n p }
def qex (n:Nat):List FC:=[q7v n,q2y n]
theorem qm6 (n:Nat) {G:World→Prop} (hG:Know Inv G) : ∀ c∈qex n,q18 Tryz.prog G c∧q09 c.args=true:=List.forall_mem_cons.2 ⟨qvc n G hG,List.forall_mem_cons.2 ⟨qjg n G hG,(fun _ h=>by cases h)⟩⟩
def qf2:q08:=[]
theorem qsc:drB qf2 (q00 Tryz.f106)=true:=by kernel_rfl
theorem qs7 (n:Nat) : ∀ a,(q4k n).F a=main Tryz.prog 19 (qex n) (qb4 n) qf2 (q00 Tryz.f106) [.tmp 2] (q4k n).args (q4k n).res a:=by intro a;kernel_rfl
theorem qt3 (n:Nat):q0d Inv Tryz.prog (q4k n):=fun G hG=>⟨⟨by kernel_rfl,fun a r h=>q04 (c:=q00 Tryz.f106) Tryz.func106 (by kernel_rfl) (by kernel_rfl) (Nat.le_of_ble_eq_true (by kernel_rfl)) hG.st (by kernel_rfl) (rs:=[.tmp 2]) (by kernel_rfl) (qm6 n hG) (lts:=qb4 n) (fun F hF hFG=>have hK:Know Inv F.G:=hFG ▸ hG;(q03 fun j L h1 h2 h3=>absurd h2 (Nat.not_lt.2 (Nat.le_trans (by decide +kernel) h1)))) qsc ((qs7 n a).symm.trans h)⟩,rfl⟩
end Go.Proofs.YtapfankgdkdkgaaGreatDoor.AM
namespace Go.Proofs.YtapfankgdkdkgaaGreatDoor.AM
open Go.RowKit
set_option linter.unusedVariables false
theorem ja3 {β:Type} {l:List β} {j:Nat} (h:j<l.length):nth l j=some l[j]:=by rw [q3j,List.getElem?_eq_getElem h]
theorem q2g {β:Type} {l:List β} {j:Nat} (h:j<l.length):q1h l (j:Int)=some l[j]:=by
 unfold q1h;rw [if_pos (by omega),Int.toNat_natCast,ja3 h]
theorem q9d {s:List UInt8} {j:Nat} (h:j<s.length):sAt s (j:Int)=some ((s[j].toNat:Nat):Int):=by
 unfold sAt;rw [q2g h];rfl
theorem sub_le {β:Type} {l:List β} {a b:Nat} (h1:a≤b) (h2:b≤l.length):q1x l (a:Int) (b:Int)=some ((l.drop a).take (b - a)):=by
 unfold q1x;rw [if_pos ⟨by omega,by omega,by omega⟩,Int.toNat_natCast,Int.toNat_natCast]
theorem sub_zero {β:Type} {l:List β} {b:Nat} (h2:b≤l.length):q1x l (0:Int) (b:Int)=some (l.take b):=by
 have:=sub_le (l:=l) (a:=0) (b:=b) (Nat.zero_le _) h2
 simpa using this
theorem q9l {β:Type} {k:Nat} {xs ys:List β} (h:(xs.length+ys.length)*k≤140737488355328):q4t k xs ys=some (xs++ys):=by
 unfold q4t;rw [if_pos h]
theorem q0w {i:Nat} (h:i<4611686018427387904):IntKind.wrap .i64 ((i:Int)+1)=((i+1:Nat):Int):=by rw [wrap64 (by omega) (by omega)];rfl
theorem qp6 {i:Nat} (h:i<4611686018427387904):IntKind.wrap .i64 (i:Int)=(i:Int):=by rw [wrap64 (by omega) (by omega)]
end Go.Proofs.YtapfankgdkdkgaaGreatDoor.AM
namespace Go.Proofs.YtapfankgdkdkgaaGreatDoor.AM
open Go.RowKit
set_option linter.unusedVariables false
set_option linter.unusedSimpArgs false
theorem j0t (n:Nat) (c:UInt8):q39 n ((c.toNat:Nat):Int)=some (q38 c):=by
 unfold q39 q38
 have h1:decide ((48:Int)≤((c.toNat:Nat):Int))=decide (48≤c.toNat):=decide_eq_decide.2 (by omega)
 have h2:decide (((c.toNat:Nat):Int)≤(57:Int))=decide (c.toNat≤57):=decide_eq_decide.2 (by omega)
 rw [h1,h2]
 cases decide (48≤c.toNat)<;>cases decide (c.toNat≤57)<;>rfl
theorem jk8 (n:Nat) (c:UInt8):qfr n ((c.toNat:Nat):Int)=some (j5z c):=by
 unfold qfr j5z
 have h1:decide ((97:Int)≤((c.toNat:Nat):Int))=decide (97≤c.toNat):=decide_eq_decide.2 (by omega)
 have h2:decide (((c.toNat:Nat):Int)≤(122:Int))=decide (c.toNat≤122):=decide_eq_decide.2 (by omega)
 have h3:decide ((65:Int)≤((c.toNat:Nat):Int))=decide (65≤c.toNat):=decide_eq_decide.2 (by omega)
 have h4:decide (((c.toNat:Nat):Int)≤(90:Int))=decide (c.toNat≤90):=decide_eq_decide.2 (by omega)
 have h5:decide (((c.toNat:Nat):Int)=(45:Int))=decide (c.toNat=45):=decide_eq_decide.2 (by omega)
 rw [h1,h2,h3,h4,h5,j0t]
 cases decide (97≤c.toNat)<;>cases decide (c.toNat≤122)<;>cases decide (65≤c.toNat)<;>cases decide (c.toNat≤90)<;>cases q38 c<;>rfl
theorem qky (n:Nat) (s:List UInt8) (hL:s.length≤1000000) : ∀ m j:Nat,j≤s.length→s.length - j<m→q4w n m s ((s.length:Nat):Int) (j:Int)=some (if (s.drop j).all j5z=true then Sum.inr ((s,()),((),())) else Sum.inl ((false,()),((),())))
 | 0,j,_,h=>absurd h (Nat.not_lt_zero _)
 | m+1,j,hj,h=>by
  rw [qco]
  unfold qlb
  by_cases c0:j<s.length
  ·have c0':((j:Nat):Int)<((s.length:Nat):Int):=by omega
   have ih:=qky n s hL m (j+1) (by omega) (by omega)
   have hd:s.drop j=s[j]::s.drop (j+1):=(List.drop_eq_getElem_cons c0)
   simp only [c0',decide_true,cond_true,q9d c0,Option.bind_some,jk8,q0e,q0w (show j<4611686018427387904 by omega),ih,hd,List.all_cons]
   cases j5z s[j]<;>simp
  ·have c0' : ¬ ((j:Nat):Int)<((s.length:Nat):Int):=by omega
   have:s.drop j = []:=List.drop_eq_nil_of_le (by omega)
   simp [c0',this]
theorem qyj (n:Nat) (s:List UInt8) (hL:s.length≤1000000) (hn:s.length<n):qg3 n s ()=some (s.all j5z && !decide (s = [])):=by
 unfold qg3
 have:=qky n s hL n 0 (Nat.zero_le _) (by omega)
 rw [show ((0:Nat):Int)=(0:Int) from rfl] at this
 rw [this,List.drop_zero]
 cases s.all j5z<;>rfl
theorem qhz (n:Nat) (s:List UInt8) (hL:s.length≤1000000) : ∀ m j:Nat,j≤s.length→s.length - j<m→q4n n m s ((s.length:Nat):Int) (j:Int)=some (if (s.drop j).all q38=true then Sum.inr ((s,()),((),())) else Sum.inl ((false,()),((),())))
 | 0,j,_,h=>absurd h (Nat.not_lt_zero _)
 | m+1,j,hj,h=>by
  rw [qdu]
  unfold qia
  by_cases c0:j<s.length
  ·have c0':((j:Nat):Int)<((s.length:Nat):Int):=by omega
   have ih:=qhz n s hL m (j+1) (by omega) (by omega)
   have hd:s.drop j=s[j]::s.drop (j+1):=(List.drop_eq_getElem_cons c0)
   simp only [c0',decide_true,cond_true,q9d c0,Option.bind_some,j0t,q0e,q0w (show j<4611686018427387904 by omega),ih,hd,List.all_cons]
   cases q38 s[j]<;>simp
  ·have c0' : ¬ ((j:Nat):Int)<((s.length:Nat):Int):=by omega
   have:s.drop j = []:=List.drop_eq_nil_of_le (by omega)
   simp [c0',this]
theorem qza (n:Nat) (s:List UInt8) (hL:s.length≤1000000) (hn:s.length<n):qg1 n s ()=some (s.all q38 && !decide (s = [])):=by
 unfold qg1
 have:=qhz n s hL n 0 (Nat.zero_le _) (by omega)
 rw [show ((0:Nat):Int)=(0:Int) from rfl] at this
 rw [this,List.drop_zero]
 cases s.all q38<;>rfl
theorem qkv (n:Nat) (s:List UInt8) (hL:s.length≤1000000) (hn:s.length<n):qgf n s=some (q30 s):=by
 unfold qgf;rw [qyj n s hL hn];rfl
theorem q65 (n:Nat) (s:List UInt8) (hL:s.length≤1000000) (hn:s.length<n):q3u n s=some (qc6 s):=by
 unfold q3u;rw [qza n s hL hn];rfl
theorem j5i (n:Nat) (s:List UInt8) (hL:s.length≤1000000) (hn:s.length<n):q9x n s=some (q7z s):=by
 unfold q9x q7z
 rw [qkv n s hL hn,q65 n s hL hn]
 simp only [Option.bind_some]
 cases hp:q30 s with
 | false=>rfl
 | true =>
  cases s with
  | nil=>simp [q30] at hp
  | cons c r =>
   have h0:sAt (c::r) (0:Int)=some ((c.toNat:Nat):Int):=q9d (s:=c::r) (j:=0) (by simp)
   have h1:decide (((c.toNat:Nat):Int)=(48:Int))=decide ((c::r).head? = some 48):=decide_eq_decide.2 (by
    simp only [List.head?_cons,Option.some.injEq]
    constructor
    ·intro h;exact UInt8.toNat_inj.1 (by have e48:(48:UInt8).toNat=48:=rfl;rw [e48];omega)
    ·rintro rfl;rfl)
   simp only [cond_true,h0,Option.bind_some,h1,Bool.true_and]
   cases decide (c::r = [48])<;>cases decide ((c::r).head? = some 48)<;>cases qc6 (c::r)<;>rfl
end Go.Proofs.YtapfankgdkdkgaaGreatDoor.AM
namespace Go.Proofs
open Go.RowKit Go.Shelf Go.Lib
attribute [local go_sem] Oper.semAt_some
set_option linter.unusedVariables false
set_option linter.unusedSimpArgs false
namespace YtapfankgdkdkgaaGreatDoor.AM
theorem q21 {P:Program} {fn:Func} {p:Tmp} {ty:TypeId} {b:Nat} {v:Value} {tmps:Array Value} {w:World} (h:fn.results = #[.cell p ty]) (hp:tmps.getD p undef = .pointer (some ⟨b,0,none⟩)) (ha:qoi P ty=some false)
  (hc:w.cell? ⟨b,0,none⟩=some v):(results fn tmps).run P w = .ok v w:=by
 have hp':tmps[p]?.getD undef = .pointer (some ⟨b,0,none⟩):=by simpa using hp
 simp only [results,h]
 simp [Sem.run_bind,hp',asAddr,loadVar,q17 ha w,go_sem,hc]
theorem q1z {W W':World} {a:Addr} {v:Value} (hb:Below W.heap.size W W') (h:W.cell? a=some v):W'.cell? a=some v:=by
 obtain ⟨o,ho,hc⟩:=cells_of_cell h
 exact (World.cell?_of_block ((hb.block _ (Array.getElem?_eq_some_iff.1 ho).1).trans ho |>.trans ho.symm)).trans h
theorem q2f {W W':World} {a:Addr} {v:Value} (hb:Below W.heap.size W W') (h:W.cell? a=some v):W'.frozen? a=W.frozen? a:=by
 obtain ⟨o,ho,hc⟩:=cells_of_cell h
 exact World.frozen?_of_block ((hb.block _ (Array.getElem?_eq_some_iff.1 ho).1).trans ho |>.trans ho.symm)
theorem q1r {W W':World} (hb:Below W.heap.size W W'):KeepsOthers W W':=⟨hb.size,fun k o h _=>(hb.block k (Array.getElem?_eq_some_iff.1 h).1).trans h⟩
theorem q93 {pS:Nat} {r:List UInt8} {W W':World} (h:Left pS r W) (hb:Below W.heap.size W W'):Left pS r W':=⟨q1z hb h.1,(q2f hb h.1).trans h.2⟩
theorem q0j {w:World} {b:Nat} {v:Value} {t:TypeId} (h:w.heap[b]? = some (.cells #[v] t (0,0))):w.cell? ⟨b,0,none⟩=some v∧w.frozen? ⟨b,0,none⟩=false:=by
 constructor
 ·simp [World.cell?,h]
 ·simp [World.frozen?,h]
theorem five (w:World) (o0 o1 o2 o3 o4:Obj) : ∃ W,(((((w.alloc o0).alloc o1).alloc o2).alloc o3).alloc o4)=W∧W.heap.size=w.heap.size+5∧Below w.heap.size w W∧W.heap[w.heap.size]? = some o0∧W.heap[w.heap.size+1]? = some o1∧W.heap[w.heap.size+1+1]? = some o2∧W.heap[w.heap.size+1+1+1]? = some o3∧W.heap[w.heap.size+1+1+2]? = some o4:=by
 have al : ∀ (w:World) (o:Obj) (k:Nat),k<w.heap.size→(w.alloc o).heap[k]? = w.heap[k]?:=fun w o k h=>Below.heap_alloc _ _ _ h
 refine ⟨_,rfl,by simp,(((((Below.refl _ w).alloc (Nat.le_refl _) _).alloc (by simp) _).alloc (by simp;omega) _).alloc (by simp;omega) _).alloc (by simp;omega) _,?_,?_,?_,?_,?_⟩
 ·rw [al _ _ _ (by simp<;>omega),al _ _ _ (by simp<;>omega),al _ _ _ (by simp<;>omega),al _ _ _ (by simp),World.alloc_heap_new]
 ·rw [al _ _ _ (by simp<;>omega),al _ _ _ (by simp<;>omega),al _ _ _ (by simp)]
  have:=World.alloc_heap_new (w.alloc o0) o1
  rw [World.size_alloc] at this;exact this
 ·rw [al _ _ _ (by simp<;>omega),al _ _ _ (by simp)]
  have:=World.alloc_heap_new ((w.alloc o0).alloc o1) o2
  rw [World.size_alloc,World.size_alloc] at this;exact this
 ·rw [al _ _ _ (by simp)]
  have:=World.alloc_heap_new (((w.alloc o0).alloc o1).alloc o2) o3
  rw [World.size_alloc,World.size_alloc,World.size_alloc] at this;exact this
 ·have:=World.alloc_heap_new ((((w.alloc o0).alloc o1).alloc o2).alloc o3) o4
  rw [World.size_alloc,World.size_alloc,World.size_alloc,World.size_alloc] at this;exact this
theorem hag:qoi Tryz.prog 4=some false:=by kernel_rfl
structure Rng (fv:Value) (pF pR:Nat) (pP pC:Nat) (c:UInt8) (w0:World) (pred:List UInt8→Bool) (pre:List (List UInt8)) (W:World):Prop where
 fn:W.cell? ⟨pF,0,none⟩=some fv
 res:W.cell? ⟨pR,0,none⟩=some (.bool false)
 frz:W.frozen? ⟨pR,0,none⟩=false
 cP:W.cell? ⟨pP,0,none⟩=some (.string (ba [c]))
 cC:W.cell? ⟨pC,0,none⟩=some (.int .i64 0)
 below:Below w0.heap.size w0 W
 all:pre.all pred=true
structure RngX (pR:Nat) (w0:World) (pred:List UInt8→Bool) (pre:List (List UInt8)) (W:World):Prop where
 res:W.cell? ⟨pR,0,none⟩=some (.bool false)
 below:Below w0.heap.size w0 W
 no:pre.all pred=false
theorem qpp {fv:Value} {pF pR pP pC:Nat} {c:UInt8} {w0:World} {pred:List UInt8→Bool} {B:Nat} (hB:w0.heap.size≤B):OwnFrom B (Rng fv pF pR pP pC c w0 pred):=fun s W W' row h hg hr =>
 ⟨q6w h.fn hg hr,q6w h.res hg hr,(frozen_kept h.res hg (fun r e=>(hr r e).2)).trans h.frz,q6w h.cP hg hr,q6w h.cC hg hr,h.below.grown hg h.below.size (fun k e=>Nat.le_trans hB (hr k e).1),h.all⟩
theorem qrn {pR:Nat} {w0:World} {pred:List UInt8→Bool} {B:Nat} (hB:w0.heap.size≤B):OwnFrom B (RngX pR w0 pred):=fun s W W' row h hg hr =>
 ⟨q6w h.res hg hr,h.below.grown hg h.below.size (fun k e=>Nat.le_trans hB (hr k e).1),h.no⟩
theorem qba {fv:Value} {pF pR pP pC:Nat} {c:UInt8} {w0:World} {pred:List UInt8→Bool} {pre:List (List UInt8)} {x:List UInt8} {W W':World} (h:Rng fv pF pR pP pC c w0 pred pre W) (hb:Below W.heap.size W W') (hx:pred x=true):Rng fv pF pR pP pC c w0 pred (pre ++ [x]) W' :=
 ⟨q1z hb h.fn,q1z hb h.res,(q2f hb h.res).trans h.frz,q1z hb h.cP,q1z hb h.cC,h.below.trans (hb.mono h.below.size),by rw [List.all_append,h.all];simp [hx]⟩
theorem qqg {fv:Value} {pF pR pP pC:Nat} {c:UInt8} {w0:World} {pred:List UInt8→Bool} {pre:List (List UInt8)} {W:World} {q:Nat} (v:Value) (h:Rng fv pF pR pP pC c w0 pred pre W) (h0:w0.heap.size≤q) (h1:q≠pF) (h2:q≠pR) (h3:q≠pP) (h4:q≠pC):Rng fv pF pR pP pC c w0 pred pre (W.setCell ⟨q,0,none⟩ v):=by
 have ne : ∀ p:Nat,q≠p→(W.setCell ⟨q,0,none⟩ v).cell? ⟨p,0,none⟩=W.cell? ⟨p,0,none⟩:=fun p hp=>World.cell?_setCell_other _ _ _ _ (by intro e;exact hp (by injection e with e))
 exact ⟨(ne _ h1).trans h.fn,(ne _ h2).trans h.res,by rw [World.frozen?_setCell];exact h.frz,(ne _ h3).trans h.cP,(ne _ h4).trans h.cC,h.below.setCell (by simpa using h0) _,h.all⟩
theorem four (w:World) (o0 o1 o2 o3:Obj) : ∃ W,((((w.alloc o0).alloc o1).alloc o2).alloc o3)=W∧W.heap.size=w.heap.size+4∧Below w.heap.size w W∧W.heap[w.heap.size]? = some o0∧W.heap[w.heap.size+1]? = some o1∧W.heap[w.heap.size+1+1]? = some o2∧W.heap[w.heap.size+1+2]? = some o3:=by
 have al : ∀ (w:World) (o:Obj) (k:Nat),k<w.heap.size→(w.alloc o).heap[k]? = w.heap[k]?:=fun w o k h=>Below.heap_alloc _ _ _ h
 refine ⟨_,rfl,by simp,((((Below.refl _ w).alloc (Nat.le_refl _) _).alloc (by simp) _).alloc (by simp;omega) _).alloc (by simp;omega) _,?_,?_,?_,?_⟩
 ·rw [al _ _ _ (by simp<;>omega),al _ _ _ (by simp<;>omega),al _ _ _ (by simp),World.alloc_heap_new]
 ·rw [al _ _ _ (by simp<;>omega),al _ _ _ (by simp)]
  have:=World.alloc_heap_new (w.alloc o0) o1
  rw [World.size_alloc] at this;exact this
 ·rw [al _ _ _ (by simp)]
  have:=World.alloc_heap_new ((w.alloc o0).alloc o1) o2
  rw [World.size_alloc,World.size_alloc] at this;exact this
 ·have:=World.alloc_heap_new (((w.alloc o0).alloc o1).alloc o2) o3
  rw [World.size_alloc,World.size_alloc,World.size_alloc] at this;exact this
structure RngY (pR:Nat) (w0:World) (pred:List UInt8→Bool) (pre:List (List UInt8)) (W:World):Prop where
 res:W.cell? ⟨pR,0,none⟩=some (.bool true)
 below:Below w0.heap.size w0 W
 no:pre.all pred=false
theorem jcz {pR:Nat} {w0:World} {pred:List UInt8→Bool} {B:Nat} (hB:w0.heap.size≤B):OwnFrom B (RngY pR w0 pred):=fun s W W' row h hg hr =>
 ⟨q6w h.res hg hr,h.below.grown hg h.below.size (fun k e=>Nat.le_trans hB (hr k e).1),h.no⟩
theorem j0m {pred:List UInt8→Bool} {s x:List UInt8} {pre t:List (List UInt8)} (hsp:spl 47 [] s=pre++x::t) (hn:(pre ++ [x]).all pred=false):(spl 47 [] s).all pred=false:=by
 rw [List.all_append,Bool.and_eq_false_iff] at hn
 rw [hsp,List.all_append,Bool.and_eq_false_iff]
 rcases hn with hn|hn
 ·exact Or.inl hn
 ·refine Or.inr ?_
  simp only [List.all_cons,List.all_nil,Bool.and_true] at hn
  rw [List.all_cons,hn];rfl
end YtapfankgdkdkgaaGreatDoor.AM
end Go.Proofs
namespace Go.Proofs
open Go.RowKit Go.Shelf Go.Lib
attribute [local go_sem] Oper.semAt_some
set_option linter.unusedVariables false
set_option linter.unusedSimpArgs false
namespace YtapfankgdkdkgaaGreatDoor.AM
set_option maxHeartbeats 2000000 in
theorem qm1 (pred:List UInt8→Bool) (hp : ∀ (x:List UInt8) (w:World),Inv w→x.length≤30→Calls Tryz.prog 107 #[.string (ba x)] w fun e w'=>e = .returned (.bool (pred x))∧Below w.heap.size w w')
  (s:List UInt8) (w:World) (hI:Inv w) :
  Calls Tryz.prog 105 #[.string (ba s),.func (.func 107) #[] #[]] w fun e w'=>e = .returned (.bool (q5r pred s))∧Below w.heap.size w w':=by
 refine (callsIn_wide (n:=9)).1 ?_
 refine callsIn_of_wp_marks Tryz.func105 rfl trivial ?_ rfl
 simp only [Tryz.ntmps105,List.size_toArray,List.length_cons,List.length_nil,Nat.reduceAdd,Nat.reduceSub,Array.replicate_succ,Array.replicate_zero,List.push_toArray,List.append_toArray,List.nil_append,List.cons_append]
 have hsz:(ba s).size=s.length:=q29 s
 by_cases h1:s = []
 ·subst h1
  have he:(ba []).toList.isEmpty=true:=by rw [q5l];rfl
  gi_wp2
  refine ⟨_,q21 (b:=w.heap.size+1) (v:=.bool true) rfl rfl hag (by simp),rfl,?_⟩
  exact ((Below.refl _ w).alloc (Nat.le_refl _) _).alloc (by simp) _
 have he:(ba s).toList.isEmpty=false:=by rw [q5l];simpa using h1
 by_cases h2:s.length≤30
 ·gi_wp2_with (refine ⟨trivial,?_⟩;gi_at_call 136;refine (callsIn_wide.2 (q32 _ _ _)).mono ?_;rintro e w' ⟨rfl,rfl⟩)
  obtain ⟨W0,hW0,hs0,hb0,g0,g1,g2,g3,g4⟩:=five w (Obj.cells #[Value.func (Fn.func 107) #[] #[]] 140) (Obj.cells #[Value.bool false] 4) (Obj.cells #[Value.string (ba s)] 9) (Obj.cells #[Value.string { data:=#[46] }] 9) (Obj.cells #[Value.int IntKind.i64 0] 3)
  rw [hW0]
  clear hW0
  obtain ⟨c0,f0⟩:=q0j g0
  obtain ⟨c1,f1⟩:=q0j g1
  obtain ⟨c2,f2⟩:=q0j g2
  obtain ⟨c3,f3⟩:=q0j g3
  obtain ⟨c4,f4⟩:=q0j g4
  refine range_split (n:=9) (by omega) 46 (w.heap.size+1+1) (w.heap.size+1+1+1) (w.heap.size+1+1+2) s (by omega) rfl ⟨c2,f2⟩
   (Rng (.func (.func 107) #[] #[]) w.heap.size (w.heap.size+1) (w.heap.size+1+1+1) (w.heap.size+1+1+2) 46 w pred) (RngX (w.heap.size+1) w pred) (qpp (by omega)) (qrn (by omega))
   (fun pre W h=>⟨h.cP,h.cC,(hI.below h.below).maxLen⟩) (fun pre W v h=>qqg v h (by omega) (by omega) (by omega) (by omega) (by omega)) ⟨c0,c1,f1,c3,c4,hb0,rfl⟩
   (fun x=>{ tmps:=#[.string (ba s),.func (.func 107) #[] #[],undef,.pointer (some ⟨w.heap.size,0,none⟩),.pointer (some ⟨w.heap.size+1,0,none⟩),.string (ba x),.string (ba s),.bool false,.string (ba s),.int .i64 s.length,.bool (decide ((30:Int)<s.length)),.string (ba s),
    .func (.func 200) #[] #[.pointer (some ⟨w.heap.size+1+1+1,0,none⟩),.pointer (some ⟨w.heap.size+1+1,0,none⟩),.pointer (some ⟨w.heap.size+1+1+2,0,none⟩)],.string (ba x),undef,undef,undef,undef],defers:=[] }) ?assign ?body ?done ?stop
  case assign =>
   intro l x W K hK
   gi_wp2
   exact hK
  case body =>
   intro l pre x r W hi hL hx
   have k0:=hi.fn
   have k1:=hi.res
   have k2:=hi.frz
   have hc:=hp x W (hI.below hi.below) (by omega)
   cases hpx:pred x with
   | true =>
    rw [hpx] at hc
    gi_wp2_with (refine ⟨trivial,?_⟩;gi_at_call 107;refine (CallsIn.inRound l (callsIn_wide.2 hc)).mono ?_;rintro e w' ⟨rfl,hb'⟩)
    exact ⟨q1r hb',qba hi hb' hpx,q93 hL hb'⟩
   | false =>
    rw [hpx] at hc
    gi_wp2_with (refine ⟨trivial,?_⟩;gi_at_call 107;refine (CallsIn.inRound l (callsIn_wide.2 hc)).mono ?_;rintro e w' ⟨rfl,hb'⟩;have k3:=q1z hb' hi.res;have k4:=(q2f hb' hi.res).trans hi.frz)
    exact ⟨(q1r hb').trans (KeepsOthers.setCell _ _ _),World.cell?_setCell_same' _ _ _ (by rw [k3];rfl),(hi.below.trans (hb'.mono hi.below.size)).setCell (by simp) _,by simp [hpx]⟩
  case done =>
   intro D W hD hi hK
   have k1:=hi.res
   have k2:=hi.frz
   gi_wp2
   have hK':=(KeepsOthers.setCell W ⟨w.heap.size+1,0,none⟩ (.bool true)).same D _ hK rfl
   have hW':Below w.heap.size w (W.setCell ⟨w.heap.size+1,0,none⟩ (.bool true)):=hi.below.setCell (by simp) _
   have k5:(W.setCell ⟨w.heap.size+1,0,none⟩ (.bool true)).cell? ⟨w.heap.size+1,0,none⟩=some (.bool true):=World.cell?_setCell_same' _ _ _ (by rw [k1];rfl)
   generalize W.setCell ⟨w.heap.size+1,0,none⟩ (.bool true)=W2 at hK' hW' k5
   refine ⟨by simp,.inl ⟨_,_,rfl,run_takeDeferred hK',?_⟩⟩
   have hg:=grownBy_putObj' W2 D (.deferred none)
   refine ⟨_,q21 (b:=w.heap.size+1) (v:=.bool true) rfl rfl hag (cell_kept k5 hg (fun r e=>by cases e;exact ⟨_,hK',rfl⟩)),?_,?_⟩
   ·unfold q5r;simp [h1,h2,hi.all]
   ·exact hW'.grown hg hW'.size (fun k e=>by cases e;omega)
  case stop =>
   intro D pre x t W hD hsp hi hK
   refine ⟨by simp,.inl ⟨_,_,rfl,run_takeDeferred hK,?_⟩⟩
   have hg:=grownBy_putObj' W D (.deferred none)
   refine ⟨_,q21 (b:=w.heap.size+1) (v:=.bool false) rfl rfl hag (cell_kept hi.res hg (fun r e=>by cases e;exact ⟨_,hK,rfl⟩)),?_,?_⟩
   ·have hn:=hi.no
    rw [List.all_append,Bool.and_eq_false_iff] at hn
    have ha:(spl 46 [] s).all pred=false:=by
     rw [hsp,List.all_append,Bool.and_eq_false_iff]
     rcases hn with hn|hn
     ·exact Or.inl hn
     ·refine Or.inr ?_
      simp only [List.all_cons,List.all_nil,Bool.and_true] at hn
      rw [List.all_cons,hn];rfl
    unfold q5r;simp [h1,ha]
   ·exact hi.below.grown hg hi.below.size (fun k e=>by cases e;omega)
 ·gi_wp2
  refine ⟨_,q21 (b:=w.heap.size+1) (v:=.bool false) rfl rfl hag (by simp),?_,?_⟩
  ·unfold q5r;simp [h1,h2]
  ·exact ((Below.refl _ w).alloc (Nat.le_refl _) _).alloc (by simp) _
set_option maxHeartbeats 2000000 in
theorem qqf (pred:List UInt8→Bool) (hp : ∀ (x:List UInt8) (w:World),Inv w→x.length≤30→Calls Tryz.prog 106 #[.string (ba x)] w fun e w'=>e = .returned (.bool (pred x))∧Below w.heap.size w w')
  (s:List UInt8) (w:World) (hI:Inv w) :
  Calls Tryz.prog 105 #[.string (ba s),.func (.func 106) #[] #[]] w fun e w'=>e = .returned (.bool (q5r pred s))∧Below w.heap.size w w':=by
 refine (callsIn_wide (n:=9)).1 ?_
 refine callsIn_of_wp_marks Tryz.func105 rfl trivial ?_ rfl
 simp only [Tryz.ntmps105,List.size_toArray,List.length_cons,List.length_nil,Nat.reduceAdd,Nat.reduceSub,Array.replicate_succ,Array.replicate_zero,List.push_toArray,List.append_toArray,List.nil_append,List.cons_append]
 have hsz:(ba s).size=s.length:=q29 s
 by_cases h1:s = []
 ·subst h1
  have he:(ba []).toList.isEmpty=true:=by rw [q5l];rfl
  gi_wp2
  refine ⟨_,q21 (b:=w.heap.size+1) (v:=.bool true) rfl rfl hag (by simp),rfl,?_⟩
  exact ((Below.refl _ w).alloc (Nat.le_refl _) _).alloc (by simp) _
 have he:(ba s).toList.isEmpty=false:=by rw [q5l];simpa using h1
 by_cases h2:s.length≤30
 ·gi_wp2_with (refine ⟨trivial,?_⟩;gi_at_call 136;refine (callsIn_wide.2 (q32 _ _ _)).mono ?_;rintro e w' ⟨rfl,rfl⟩)
  obtain ⟨W0,hW0,hs0,hb0,g0,g1,g2,g3,g4⟩:=five w (Obj.cells #[Value.func (Fn.func 106) #[] #[]] 140) (Obj.cells #[Value.bool false] 4) (Obj.cells #[Value.string (ba s)] 9) (Obj.cells #[Value.string { data:=#[46] }] 9) (Obj.cells #[Value.int IntKind.i64 0] 3)
  rw [hW0]
  clear hW0
  obtain ⟨c0,f0⟩:=q0j g0
  obtain ⟨c1,f1⟩:=q0j g1
  obtain ⟨c2,f2⟩:=q0j g2
  obtain ⟨c3,f3⟩:=q0j g3
  obtain ⟨c4,f4⟩:=q0j g4
  refine range_split (n:=9) (by omega) 46 (w.heap.size+1+1) (w.heap.size+1+1+1) (w.heap.size+1+1+2) s (by omega) rfl ⟨c2,f2⟩
   (Rng (.func (.func 106) #[] #[]) w.heap.size (w.heap.size+1) (w.heap.size+1+1+1) (w.heap.size+1+1+2) 46 w pred) (RngX (w.heap.size+1) w pred) (qpp (by omega)) (qrn (by omega))
   (fun pre W h=>⟨h.cP,h.cC,(hI.below h.below).maxLen⟩) (fun pre W v h=>qqg v h (by omega) (by omega) (by omega) (by omega) (by omega)) ⟨c0,c1,f1,c3,c4,hb0,rfl⟩
   (fun x=>{ tmps:=#[.string (ba s),.func (.func 106) #[] #[],undef,.pointer (some ⟨w.heap.size,0,none⟩),.pointer (some ⟨w.heap.size+1,0,none⟩),.string (ba x),.string (ba s),.bool false,.string (ba s),.int .i64 s.length,.bool (decide ((30:Int)<s.length)),.string (ba s),
    .func (.func 200) #[] #[.pointer (some ⟨w.heap.size+1+1+1,0,none⟩),.pointer (some ⟨w.heap.size+1+1,0,none⟩),.pointer (some ⟨w.heap.size+1+1+2,0,none⟩)],.string (ba x),undef,undef,undef,undef],defers:=[] }) ?assign ?body ?done ?stop
  case assign =>
   intro l x W K hK
   gi_wp2
   exact hK
  case body =>
   intro l pre x r W hi hL hx
   have k0:=hi.fn
   have k1:=hi.res
   have k2:=hi.frz
   have hc:=hp x W (hI.below hi.below) (by omega)
   cases hpx:pred x with
   | true =>
    rw [hpx] at hc
    gi_wp2_with (refine ⟨trivial,?_⟩;gi_at_call 106;refine (CallsIn.inRound l (callsIn_wide.2 hc)).mono ?_;rintro e w' ⟨rfl,hb'⟩)
    exact ⟨q1r hb',qba hi hb' hpx,q93 hL hb'⟩
   | false =>
    rw [hpx] at hc
    gi_wp2_with (refine ⟨trivial,?_⟩;gi_at_call 106;refine (CallsIn.inRound l (callsIn_wide.2 hc)).mono ?_;rintro e w' ⟨rfl,hb'⟩;have k3:=q1z hb' hi.res;have k4:=(q2f hb' hi.res).trans hi.frz)
    exact ⟨(q1r hb').trans (KeepsOthers.setCell _ _ _),World.cell?_setCell_same' _ _ _ (by rw [k3];rfl),(hi.below.trans (hb'.mono hi.below.size)).setCell (by simp) _,by simp [hpx]⟩
  case done =>
   intro D W hD hi hK
   have k1:=hi.res
   have k2:=hi.frz
   gi_wp2
   have hK':=(KeepsOthers.setCell W ⟨w.heap.size+1,0,none⟩ (.bool true)).same D _ hK rfl
   have hW':Below w.heap.size w (W.setCell ⟨w.heap.size+1,0,none⟩ (.bool true)):=hi.below.setCell (by simp) _
   have k5:(W.setCell ⟨w.heap.size+1,0,none⟩ (.bool true)).cell? ⟨w.heap.size+1,0,none⟩=some (.bool true):=World.cell?_setCell_same' _ _ _ (by rw [k1];rfl)
   generalize W.setCell ⟨w.heap.size+1,0,none⟩ (.bool true)=W2 at hK' hW' k5
   refine ⟨by simp,.inl ⟨_,_,rfl,run_takeDeferred hK',?_⟩⟩
   have hg:=grownBy_putObj' W2 D (.deferred none)
   refine ⟨_,q21 (b:=w.heap.size+1) (v:=.bool true) rfl rfl hag (cell_kept k5 hg (fun r e=>by cases e;exact ⟨_,hK',rfl⟩)),?_,?_⟩
   ·unfold q5r;simp [h1,h2,hi.all]
   ·exact hW'.grown hg hW'.size (fun k e=>by cases e;omega)
  case stop =>
   intro D pre x t W hD hsp hi hK
   refine ⟨by simp,.inl ⟨_,_,rfl,run_takeDeferred hK,?_⟩⟩
   have hg:=grownBy_putObj' W D (.deferred none)
   refine ⟨_,q21 (b:=w.heap.size+1) (v:=.bool false) rfl rfl hag (cell_kept hi.res hg (fun r e=>by cases e;exact ⟨_,hK,rfl⟩)),?_,?_⟩
   ·have hn:=hi.no
    rw [List.all_append,Bool.and_eq_false_iff] at hn
    have ha:(spl 46 [] s).all pred=false:=by
     rw [hsp,List.all_append,Bool.and_eq_false_iff]
     rcases hn with hn|hn
     ·exact Or.inl hn
     ·refine Or.inr ?_
      simp only [List.all_cons,List.all_nil,Bool.and_true] at hn
      rw [List.all_cons,hn];rfl
    unfold q5r;simp [h1,ha]
   ·exact hi.below.grown hg hi.below.size (fun k e=>by cases e;omega)
 ·gi_wp2
  refine ⟨_,q21 (b:=w.heap.size+1) (v:=.bool false) rfl rfl hag (by simp),?_,?_⟩
  ·unfold q5r;simp [h1,h2]
  ·exact ((Below.refl _ w).alloc (Nat.le_refl _) _).alloc (by simp) _
theorem quy (x:List UInt8) (w:World) (hI:Inv w) (hx:x.length≤30):Calls Tryz.prog 107 #[.string (ba x)] w fun e w'=>e = .returned (.bool (q30 x))∧Below w.heap.size w w':=by
 have h:=(qvc 100 Inv q6n).1.2 x (q30 x) (qkv 100 x (by omega) (by omega))
 refine (h (fun _ _=>False) w #[.string (ba x)] hI (fun b o h=>h.elim) ⟨q05 _,trivial⟩).mono ?_
 rintro e w' ⟨v,Pc,rfl,hb,_,_,hv⟩
 have hv':v = .bool (q30 x):=q07 hv
 rw [hv']
 exact ⟨rfl,hb⟩
def qcn (s:List UInt8) (u:Unit):Option Bool:=some (q5r q30 s)
def qhj:FC:={ f:=105,args:=[qmr,.one (.c (.fn 107 []))],res:=jcr,F:=fun p=>qcn p.1 p.2 }
theorem qyo:q0d Inv Tryz.prog qhj:=fun G hG=>⟨⟨by kernel_rfl,fun a r h=>by
 obtain ⟨s,u⟩:=a
 have hr:q5r q30 s=r:=Option.some.inj h
 intro Pc w vs hg hlt hv
 obtain ⟨l⟩:=vs
 match l,hv with
 | [x,y],⟨h1,h2,_⟩ =>
  obtain rfl:x = .string (ba s):=q07 h1
  obtain rfl:y = .func (.func 107) #[] #[]:=q07 h2
  refine (qm1 q30 quy s w (hG.im w hg)).mono ?_
  rintro e w' ⟨rfl,hb⟩
  subst hr
  exact q2z rfl hb (q05 _)⟩,rfl⟩
theorem qxz (x:List UInt8) (w:World) (hI:Inv w) (hx:x.length≤30):Calls Tryz.prog 106 #[.string (ba x)] w fun e w'=>e = .returned (.bool (q7z x))∧Below w.heap.size w w':=by
 have h:=(qt3 100 Inv q6n).1.2 x (q7z x) (j5i 100 x (by omega) (by omega))
 refine (h (fun _ _=>False) w #[.string (ba x)] hI (fun b o h=>h.elim) ⟨q05 _,trivial⟩).mono ?_
 rintro e w' ⟨v,Pc,rfl,hb,_,_,hv⟩
 have hv':v = .bool (q7z x):=q07 hv
 rw [hv']
 exact ⟨rfl,hb⟩
def qlf (s:List UInt8) (u:Unit):Option Bool:=some (q5r q7z s)
def qng:FC:={ f:=105,args:=[qmr,.one (.c (.fn 106 []))],res:=jcr,F:=fun p=>qlf p.1 p.2 }
theorem j53:q0d Inv Tryz.prog qng:=fun G hG=>⟨⟨by kernel_rfl,fun a r h=>by
 obtain ⟨s,u⟩:=a
 have hr:q5r q7z s=r:=Option.some.inj h
 intro Pc w vs hg hlt hv
 obtain ⟨l⟩:=vs
 match l,hv with
 | [x,y],⟨h1,h2,_⟩ =>
  obtain rfl:x = .string (ba s):=q07 h1
  obtain rfl:y = .func (.func 106) #[] #[]:=q07 h2
  refine (qqf q7z qxz s w (hG.im w hg)).mono ?_
  rintro e w' ⟨rfl,hb⟩
  subst hr
  exact q2z rfl hb (q05 _)⟩,rfl⟩
end YtapfankgdkdkgaaGreatDoor.AM
end Go.Proofs
