
import Derived.Test.YtggoebaobojmjaaGreatDoorBr8
import Derived.Lib.ItoaNum
import Derived.Lib.AtoiAll
import Derived.Shelf.LaysC
import Derived.Shelf.Strconv.Itoa3
import Derived.Shelf.Strconv.AtoiAll
import Derived.Shelf.Small.Strs
import Derived.Shelf.Strings.SplitShaped
import Derived.Lib.LaidTab
import Derived.Lib.AppendIntMem
import Derived.Stop.LaidErr
import Derived.WalkSmall
namespace Go.Proofs.YtggoebaobojmjaaGreatDoor.AM
open Go.RowKit
set_option linter.unusedVariables false
set_option linter.unusedSimpArgs false
abbrev VD:=Int×(Int×(Int×(List UInt8×List UInt8)))
abbrev v0:VD:=(0,(0,(0,([],[]))))
def q1z (c:UInt8):Bool:=decide (48≤c.toNat)&&decide (c.toNat≤57)
def jjr (c:UInt8):Bool:=(decide (97≤c.toNat)&&decide (c.toNat≤122))||(decide (65≤c.toNat)&&decide (c.toNat≤90))||q1z c||decide (c.toNat=45)
def q33 (s:List UInt8):Bool:=s.all q1z && !decide (s = [])
def q2f (s:List UInt8):Bool:=s.all jjr && !decide (s = [])
def q5e (s:List UInt8):Bool:=q2f s&&(decide (s = [48]) || !decide (s.head? = some 48) || !q33 s)
def q5p (p:List UInt8→Bool) (s:List UInt8):Bool:=decide (s = [])||(decide (s.length≤30)&&(spl 46 [] s).all p)
def qvf (n:Int):Bool:=decide (0≤n)&&decide (n≤999999999)
def q1f (v:VD):Bool:=qvf v.1&&qvf v.2.1&&qvf v.2.2.1&&q5p q5e v.2.2.2.1&&q5p q2f v.2.2.2.2
def jv1 (w:List UInt8):Int×(Int×List UInt8):=if q33 w then (0,(w.length,w)) else (1,(0,w))
def jqt (x y:List UInt8):Int:=qhk q4y (qhk q4y (cmpL jnr)) (jv1 x) (jv1 y)
def jk0 (p:List UInt8):Int×List (List UInt8):=(if p = [] then 1 else 0,spl 46 [] p)
def q9y (a b:List UInt8):Int:=qhk q4y (cmpL jqt) (jk0 a) (jk0 b)
def core (v:VD):Int×(Int×(Int×List UInt8)):=(v.1,(v.2.1,(v.2.2.1,v.2.2.2.1)))
def jwr (x y:Int×(Int×(Int×List UInt8))):Int:=qhk q4y (qhk q4y (qhk q4y q9y)) x y
def qre (v w:VD):Int:=if q1f v&&q1f w then jwr (core v) (core w) else 0
theorem jsp (x y:List UInt8) (h:jv1 x=jv1 y):x=y:=by
 unfold jv1 at h
 split at h<;>split at h<;>simp at h<;>first|exact h.2|exact h
theorem jt2:Cmp jqt:=(qdv q3u (qdv q3u (qhr qpz))).key jv1 jsp
def jrh (c:UInt8):List (List UInt8)→List UInt8
 | []=>[]
 | [x]=>x
 | x::y::t=>x++c::jrh c (y::t)
theorem jva (c:UInt8) (l cur:List UInt8):spl c cur l ≠ []:=fun h=>by have:=(q7f c l cur).1;rw [h] at this;simp at this
theorem qj0 (c:UInt8) : ∀ (l cur:List UInt8),jrh c (spl c cur l)=cur++l
 | [],cur=>by simp [spl,jrh]
 | b::l,cur=>by
  rw [spl]
  split
  ·rename_i h;subst h
   have ih:=qj0 b l []
   cases hs:spl b [] l with
   | nil=>exact absurd hs (jva b l [])
   | cons y t=>rw [hs] at ih;rw [jrh,ih];simp
  ·rw [qj0 c l];simp
theorem jxh (c:UInt8) (x y:List UInt8) (h:spl c [] x=spl c [] y):x=y:=by
 have h1:=qj0 c x []
 have h2:=qj0 c y []
 rw [h] at h1
 simpa using h1.symm.trans h2
theorem juk (x y:List UInt8) (h:jk0 x=jk0 y):x=y:=jxh 46 x y (congrArg Prod.snd h)
theorem qmq:Cmp q9y:=(qdv q3u (qhr jt2)).key jk0 juk
theorem jro:Cmp jwr:=qdv q3u (qdv q3u (qdv q3u qmq))
theorem qru {d:Nat} (h:d<10):q1z (UInt8.ofNat (48+d))=true:=by
 unfold q1z
 have:(UInt8.ofNat (48+d)).toNat=48+d:=by rw [UInt8.toNat_ofNat'];omega
 rw [this];simp;omega
theorem jmj (n:Nat):(Lib.decDigits n).all q1z=true∧Lib.decDigits n ≠ []:=by
 induction n using Nat.strongRecOn with
 | _ n ih =>
  rw [Lib.decDigits]
  split
  ·rename_i h;exact ⟨by rw [List.all_cons,qru h];rfl,by simp⟩
  ·rename_i h
   have:=ih (n / 10) (by omega)
   exact ⟨by rw [List.all_append,this.1,List.all_cons,qru (show n % 10<10 by omega)];rfl,by simp⟩
theorem jlt : ∀ (k n:Nat),n<10 ^ (k+1)→(Lib.decDigits n).length≤k+1
 | 0,n,h=>by rw [Lib.decDigits,dif_pos (by omega)];simp
 | k+1,n,h=>by
  rw [Lib.decDigits]
  split
  ·simp
  ·have:=jlt k (n / 10) (by rw [Nat.pow_succ] at h;omega)
   simp;omega
theorem j6s : ∀ (l r:List UInt8) (a:Nat) (u:Nat),Lib.parseUint10 a l = .ok u→Lib.parseUint10 a (l++r)=Lib.parseUint10 u r
 | [],r,a,u,h=>by simp only [Lib.parseUint10] at h;injection h with h;subst h;rfl
 | c::l,r,a,u,h=>by
  rw [List.cons_append]
  conv=>lhs;unfold Lib.parseUint10
  unfold Lib.parseUint10 at h
  split at h
  ·rename_i h1
   rw [if_pos h1]
   split at h
   ·cases h
   ·rename_i h2
    rw [if_neg h2]
    split at h
    ·cases h
    ·rename_i h3
     rw [if_neg h3]
     exact j6s l r _ u h
  ·cases h
theorem jn0 (n:Nat) (h:n<1000000000000000000):Lib.parseUint10 0 (Lib.decDigits n) = .ok n:=by
 induction n using Nat.strongRecOn with
 | _ n ih =>
  have t1 : ∀ d,d<10→(UInt8.ofNat (48+d)).toNat=48+d:=fun d hd=>by rw [UInt8.toNat_ofNat'];omega
  rw [Lib.decDigits]
  split
  ·rename_i h1
   unfold Lib.parseUint10 Lib.parseUint10
   rw [t1 n h1,if_pos (by omega),if_neg (by omega),if_neg (by omega)]
   congr 1;omega
  ·rename_i h1
   have h2:=ih (n / 10) (by omega) (by omega)
   rw [j6s _ _ _ _ h2]
   unfold Lib.parseUint10 Lib.parseUint10
   rw [t1 _ (show n % 10<10 by omega),if_pos (by omega),if_neg (by omega),if_neg (by omega)]
   congr 1;omega
theorem qpc {n:Int} (h:0≤n):Lib.itoa n=Lib.decDigits n.toNat:=by unfold Lib.itoa;rw [if_neg (by omega)]
theorem jni {n:Int} (h0:0≤n) (h1:n≤999999999):Lib.atoiAll (Lib.itoa n) = .ok n:=by
 rw [qpc h0]
 have hd:=jmj n.toNat
 have hp:=jn0 n.toNat (by omega)
 generalize Lib.decDigits n.toNat=l at hd hp
 cases l with
 | nil=>exact absurd rfl hd.2
 | cons c r =>
  have hc:q1z c=true:=by have:=hd.1;simp at this;exact this.1
  unfold q1z at hc
  simp at hc
  unfold Lib.atoiAll
  have c43 : ¬ c.toNat=43:=by omega
  have c45 : ¬ c.toNat=45:=by omega
  simp only [c43,or_self,if_false,c45,not_false_eq_true,true_and,false_and]
  unfold Lib.parseMag
  rw [if_neg (by simp),hp]
  simp only
  rw [if_neg (by omega)]
  congr 1;omega
def qex (a:Int):List UInt8→Int
 | []=>a
 | c::l=>qex (10*a+c.toNat - 48) l
theorem j11 : ∀ (l r:List UInt8) (a:Int),qex a (l++r)=qex (qex a l) r
 | [],r,a=>rfl
 | c::l,r,a=>by rw [List.cons_append,qex,qex,j11 l]
theorem js2 (n:Nat):qex 0 (Lib.decDigits n)=n:=by
 induction n using Nat.strongRecOn with
 | _ n ih =>
  have t1 : ∀ d,d<10→(UInt8.ofNat (48+d)).toNat=48+d:=fun d hd=>by rw [UInt8.toNat_ofNat'];omega
  rw [Lib.decDigits]
  split
  ·rename_i h1
   unfold qex qex
   rw [t1 n h1];omega
  ·rename_i h1
   rw [j11,ih (n / 10) (by omega)]
   unfold qex qex
   rw [t1 _ (show n % 10<10 by omega)];omega
theorem ql1 : ∀ (l:List UInt8) (a:Int),0≤a→l.all q1z=true→0≤qex a l∧qex a l<(a+1)*10 ^ l.length
 | [],a,h,_=>by simp [qex];omega
 | c::l,a,h,hd=>by
  simp at hd
  have hc:=hd.1
  unfold q1z at hc
  simp at hc
  have ih:=ql1 l (10*a+c.toNat - 48) (by omega) (by simp;exact hd.2)
  rw [qex]
  refine ⟨ih.1,Int.lt_of_lt_of_le ih.2 ?_⟩
  have e1:(10:Int) ^ (c::l).length=10*10 ^ l.length:=by rw [List.length_cons,Int.pow_succ];omega
  rw [e1,← Int.mul_assoc]
  have hp:(0:Int)≤10 ^ l.length:=Int.le_of_lt (Int.pow_pos (by decide))
  exact Int.mul_le_mul_of_nonneg_right (by omega) hp
theorem j4e (c:UInt8) (x:List UInt8) (h:c ∉ x):spl c [] x = [x]:=by
 have:=jfi c x [] [] h
 simpa [spl] using this
theorem q3d {v:VD} (h:q1f v=true):(0≤v.1∧v.1≤999999999)∧(0≤v.2.1∧v.2.1≤999999999)∧(0≤v.2.2.1∧v.2.2.1≤999999999)∧q5p q5e v.2.2.2.1=true∧q5p q2f v.2.2.2.2=true:=by
 unfold q1f qvf at h
 simp only [Bool.and_eq_true,decide_eq_true_eq] at h
 exact ⟨h.1.1.1.1,h.1.1.1.2,h.1.1.2,h.1.2,h.2⟩
theorem qpr {p:List UInt8→Bool} {s:List UInt8} (h:q5p p s=true):s.length≤30:=by
 unfold q5p at h
 simp only [Bool.or_eq_true,Bool.and_eq_true,decide_eq_true_eq] at h
 rcases h with rfl|h
 ·simp
 ·exact h.1
def q45 (s:List UInt8):List UInt8:=if s.head? = some 118 then s.drop 1 else s
def qm7 (v:VD) (l:Int):VD×Int :=
 if q1f v=true∧1≤l∧l≤3 then
  if v.2.2.2.1 ≠ []∧(2≤l→v.2.2.1=0)∧(l=3→v.2.1=0) then ((v.1,(v.2.1,(v.2.2.1,([],[])))),0)
  else if l=1∧v.2.2.1<999999999 then ((v.1,(v.2.1,(v.2.2.1+1,([],[])))),0)
  else if l≤2∧v.2.1<999999999 then ((v.1,(v.2.1+1,(0,([],[])))),0)
  else if v.1<999999999 then ((v.1+1,(0,(0,([],[])))),0)
  else (v0,15)
 else (v0,1)
end Go.Proofs.YtggoebaobojmjaaGreatDoor.AM
namespace Go.Proofs
open Go.RowKit Go.Shelf Go.Lib
shelf_lay LaysM.n171 Nm 171 at Tryz as Tryz.laysItoa
shelf_lay LaysC.n172 Nm 172 at Tryz as Tryz.laysAtoi
set_option linter.unusedVariables false
set_option linter.unusedSimpArgs false
namespace YtggoebaobojmjaaGreatDoor.AM
structure Inv (w:World):Prop where
 maxLen : ∃ m,w.cell? ⟨Tryz.laysIndex_ren.g 1,0,none⟩=some (.int .i64 m)
 tab:Lib.TabIs Tryz.prog w "internal/strconv.uint64pow10" .u64 Lib.pow10Tab
 syn : ∃ tp p,w.cell? ⟨Tryz.laysAtoi_ren.g 15,0,none⟩=some (.iface tp p)
 rng : ∃ tp p,w.cell? ⟨Tryz.laysAtoi_ren.g 16,0,none⟩=some (.iface tp p)
theorem gTab:(Tryz.prog.globalNamed "internal/strconv.uint64pow10").isSome=true:=by kernel_rfl
theorem Inv.below {w w':World} (h:Inv w) (hb:Below w.heap.size w w'):Inv w':=by
 obtain ⟨⟨m,hm⟩,ht,⟨t1,p1,h1⟩,⟨t2,p2,h2⟩⟩:=h
 refine ⟨⟨m,(hb.cell (p:=⟨_,0,none⟩) (World.block_lt_of_cell? _ _ hm)).trans hm⟩,?_,⟨t1,p1,(hb.cell (p:=⟨_,0,none⟩) (World.block_lt_of_cell? _ _ h1)).trans h1⟩,⟨t2,p2,(hb.cell (p:=⟨_,0,none⟩) (World.block_lt_of_cell? _ _ h2)).trans h2⟩⟩
 obtain ⟨g,hg⟩:=Option.isSome_iff_exists.1 gTab
 refine var?_below hb hg ?_ ht
 have hv:w.var? Tryz.prog "internal/strconv.uint64pow10" = some _:=ht
 unfold World.var? at hv
 rw [hg] at hv
 simp only [Option.bind_some] at hv
 split at hv
 ·rename_i h5;exact (Array.getElem?_eq_some_iff.1 h5).1
 ·cases hv
theorem q1k:Know Inv Inv:=⟨fun w w' h hb=>h.below hb,fun _ h=>h⟩
variable {P:Program}
theorem qgz {Pc:Nat→Nat→Prop} {w w':World} {v:Value} {d:D} {e:Ending} (he:e = .returned v) (hb:Below w.heap.size w w') (hv:q1c (q2i Pc) q2y w' v d) :
  ∃ v' Pc',e = .returned v'∧Below w.heap.size w w'∧(∀ b o,Pc b o→Pc' b o)∧(∀ b o,Pc' b o→Pc b o∨(w.heap.size≤b∧b<w'.heap.size))∧q1c (q2i Pc') q2y w' v' d :=
 ⟨v,Pc,he,hb,fun _ _ h=>h,fun _ _ h=>Or.inl h,hv⟩
abbrev jem:SD:=.one (.c (.d .str))
abbrev intA:SD:=.one (.c (.d (.int .i64)))
abbrev jup:SD:=.one (.c (.d .bool))
end YtggoebaobojmjaaGreatDoor.AM
end Go.Proofs
namespace Go.Proofs
open Go.RowKit Go.Shelf Go.Lib
shelf_lay LaysM.n146 Nm 146 at Tryz as Tryz.laysSplit
shelf_lay Lays.n106 Nm 106 at Tryz as Tryz.laysCompare
set_option linter.unusedVariables false
set_option linter.unusedSimpArgs false
namespace YtggoebaobojmjaaGreatDoor.AM
variable {P:Program}
def qwi:FC:={ f:=153,args:=[jem,jem],res:=intA,F:=fun p=>some (Lib.compareBytes p.1 p.2) }
def qjy (a b:List UInt8):Option Int:=some (Lib.compareBytes a b)
theorem jhf:q0g Inv Tryz.prog qwi:=fun G hG=>⟨⟨by kernel_rfl,fun a r h=>by
 obtain ⟨s,t⟩:=a
 have hr:Lib.compareBytes s t=r:=Option.some.inj h
 intro Pc w vs hg hlt hv
 obtain ⟨l⟩:=vs
 match l,hv with
 | [x,y],⟨h1,h2,_⟩ =>
  obtain rfl:x = .string (ba s):=q07 h1
  obtain rfl:y = .string (ba t):=q07 h2
  have e1:(ba s).data.toList=s:=by simp [ba]
  have e2:(ba t).data.toList=t:=by simp [ba]
  have hh:=Any.strings_Compare Tryz.laysCompare (ba s) (ba t) w
  rw [e1,e2,hr] at hh
  refine hh.mono ?_
  rintro e w' ⟨rfl,rfl⟩
  exact qgz rfl (Below.refl _ _) (q06 _)⟩,rfl⟩
theorem k1h:Tryz.laysSplit_ren.g 1=Tryz.laysIndex_ren.g 1:=by kernel_rfl
def qg2 (s sep:List UInt8):Option (List (List UInt8)):=match sep with
 | [c]=>if s.length<4294967281 then some (spl c [] s) else none
 | _=>none
def jf0:FC:={ f:=130,args:=[jem,jem],res:=.one (.c (.d (.lst .str))),F:=fun p=>qg2 p.1 p.2 }
theorem ju5:q0g Inv Tryz.prog jf0:=fun G hG=>⟨⟨by kernel_rfl,fun a r h=>by
 obtain ⟨s,sep⟩:=a
 have h':qg2 s sep=some r:=h
 unfold qg2 at h'
 split at h'
 case h_2=>cases h'
 rename_i c
 split at h'
 case isFalse=>cases h'
 rename_i hc
 have hr:(Lib.splitB (ba [c]) 0 (Lib.countB (ba s) (ba [c])) (ba s)).map unB=r:=(jj1 c s).trans (Option.some.inj h')
 intro Pc w vs hg hlt hv
 obtain ⟨m,hm⟩:=(hG.im w hg).maxLen
 obtain ⟨l⟩:=vs
 match l,hv with
 | [x,y],⟨h1,h2,_⟩ =>
  obtain rfl:x = .string (ba s):=q07 h1
  obtain rfl:y = .string (ba [c]):=q07 h2
  have b1:1≤(ba [c]).size:=by rw [q3j];exact Nat.le_refl _
  have hlen:(Lib.splitB (ba [c]) 0 (Lib.countB (ba s) (ba [c])) (ba s)).length=Lib.countB (ba s) (ba [c])+1:=Lib.splitB_all (ba [c]) b1 0 _ (ba s) rfl
  refine (Any.strings_Split { Tryz.laysSplit with } Tryz.laysSplit.i9 (ba s) (ba [c]) m w (by rw [q3j];exact hc) (by rw [k1h];exact hm) b1).mono ?_
  rintro e w' ⟨rfl,rfl⟩
  generalize hL:Lib.splitB (ba [c]) 0 (Lib.countB (ba s) (ba [c])) (ba s)=L at hlen hr
  refine ⟨_,fun b o=>Pc b o∨b=w.heap.size,rfl,(Below.refl _ _).alloc (Nat.le_refl _) _,fun b o hp=>Or.inl hp,?_,?_⟩
  ·rintro b o (hp|rfl)
   ·exact Or.inl hp
   ·exact Or.inr ⟨Nat.le_refl _,by simp⟩
  ·show DatRep _ _ _ (.lst 1 (r.map (q03 .str)))
   have hr2:r.map (q03 .str)=L.map fun x=>[Dat.v (.string x)]:=by
    rw [← hr,List.map_map]
    exact List.map_congr_left fun x _=>by show [Dat.v (.string (ba (unB x)))]=_;rw [jv6]
   rw [hr2,← hlen]
   have hmax:L.length≤maxLen:=by
    have:=Lib.countB_le (ba [c]) b1 (ba s).size (ba s) (Nat.le_refl _)
    rw [q3j] at this
    have hM:maxLen=9223372036854775807:=by decide
    omega
   refine .lst _ _ _ 1 _ w.heap.size 0 (fun k j=>.string (L.getD k ⟨#[]⟩)) (by simp) (Nat.le_refl _) hmax (fun x hx=>?_) (fun _=>rfl) (fun k j hk hj=>⟨Or.inr rfl,?_,rfl⟩) (fun k j hk hj=>?_)
   ·obtain ⟨y,_,rfl⟩:=List.mem_map.1 hx;rfl
   ·have hk':k<L.length:=by simpa using hk
    have hj0:j=0:=by omega
    subst hj0
    rw [World.cell?_alloc_new]
    simp [List.getD,hk']
   ·have hk':k<L.length:=by simpa using hk
    have hj0:j=0:=by simp at hj;exact hj
    subst hj0
    simp [List.getD,hk']
    exact .v _⟩,rfl⟩
end YtggoebaobojmjaaGreatDoor.AM
end Go.Proofs
namespace Go.Proofs.YtggoebaobojmjaaGreatDoor.AM
open Go.RowKit
set_option linter.unusedVariables false
set_option maxRecDepth 20000
def qub (n:Nat):List LC:=[]
def q50 (n:Nat) (a1:Int):Option (Bool) :=
 (bif decide ((48:Int)≤a1) then some (decide (a1≤(57:Int))) else some false)
def q6q (n:Nat):FC:={ f:=154,args:=[.one (.c (.d (.int .u8)))],res:=.one (.c (.d .bool)),F:=fun p=>q50 n p }
def qyi (n:Nat):List FC:=[]
theorem j4v (n:Nat) {G:World→Prop} (hG:Know Inv G) : ∀ c∈qyi n,q0v Tryz.prog G c∧q0d c.args=true:=(fun _ h=>by cases h)
def qwf:q0c:=[]
theorem jib:drB qwf (q00 Tryz.f154)=true:=by kernel_rfl
theorem jj7 (n:Nat) : ∀ a,(q6q n).F a=main Tryz.prog 9 (qyi n) (qub n) qwf (q00 Tryz.f154) [.tmp 2] (q6q n).args (q6q n).res a:=by intro a;kernel_rfl
theorem qx2 (n:Nat):q0g Inv Tryz.prog (q6q n):=fun G hG=>⟨⟨by kernel_rfl,fun a r h=>q05 (c:=q00 Tryz.f154) Tryz.func154 (by kernel_rfl) (by kernel_rfl) (Nat.le_of_ble_eq_true (by kernel_rfl)) hG.st (by kernel_rfl) (rs:=[.tmp 2]) (by kernel_rfl) (j4v n hG) (lts:=qub n) (fun F hF hFG=>have hK:Know Inv F.G:=hFG ▸ hG;(q02 fun j L h1 h2 h3=>absurd h2 (Nat.not_lt.2 (Nat.le_trans (by decide +kernel) h1)))) jib ((jj7 n a).symm.trans h)⟩,rfl⟩
def qx1 (n:Nat):List LC:=[]
def qpp (n:Nat) (a1:Int):Option (Bool) :=
 (bif decide ((97:Int)≤a1) then (bif decide (a1≤(122:Int)) then some true else (bif decide ((65:Int)≤a1) then (bif decide (a1≤(90:Int)) then some true else (q50 n a1).bind fun (r1:Bool)=>(bif r1 then some true else some (decide (a1=(45:Int))))) else (q50 n a1).bind fun (r2:Bool)=>(bif r2 then some true else some (decide (a1=(45:Int)))))) else (bif decide ((65:Int)≤a1) then (bif decide (a1≤(90:Int)) then some true else (q50 n a1).bind fun (r3:Bool)=>(bif r3 then some true else some (decide (a1=(45:Int))))) else (q50 n a1).bind fun (r4:Bool)=>(bif r4 then some true else some (decide (a1=(45:Int))))))
def qcm (n:Nat):FC:={ f:=134,args:=[.one (.c (.d (.int .u8)))],res:=.one (.c (.d .bool)),F:=fun p=>qpp n p }
def j3v (n:Nat):List FC:=[q6q n]
theorem jbb (n:Nat) {G:World→Prop} (hG:Know Inv G) : ∀ c∈j3v n,q0v Tryz.prog G c∧q0d c.args=true:=List.forall_mem_cons.2 ⟨qx2 n G hG,(fun _ h=>by cases h)⟩
def j2m:q0c:=[]
theorem jk3:drB j2m (q00 Tryz.f134)=true:=by kernel_rfl
theorem jlp (n:Nat) : ∀ a,(qcm n).F a=main Tryz.prog 25 (j3v n) (qx1 n) j2m (q00 Tryz.f134) [.tmp 2] (qcm n).args (qcm n).res a:=by intro a;kernel_rfl
theorem jqh (n:Nat):q0g Inv Tryz.prog (qcm n):=fun G hG=>⟨⟨by kernel_rfl,fun a r h=>q05 (c:=q00 Tryz.f134) Tryz.func134 (by kernel_rfl) (by kernel_rfl) (Nat.le_of_ble_eq_true (by kernel_rfl)) hG.st (by kernel_rfl) (rs:=[.tmp 2]) (by kernel_rfl) (jbb n hG) (lts:=qx1 n) (fun F hF hFG=>have hK:Know Inv F.G:=hFG ▸ hG;(q02 fun j L h1 h2 h3=>absurd h2 (Nat.not_lt.2 (Nat.le_trans (by decide +kernel) h1)))) jk3 ((jlp n a).symm.trans h)⟩,rfl⟩
@[reducible] def qek:SSt:=⟨[(0,.one (.c (.d .str))),(1,.one (.c (.fn 134 []))),(7,.one (.c (.d (.int .i64)))),(8,.one (.c (.d (.int .i64))))],[],[]⟩
@[reducible] def q8k:List (Exit×SSt):=[(.ret,⟨[(4,.one (.c (.d .bool)))],[],[]⟩),(.exit 0,⟨[(0,.one (.c (.d .str)))],[],[]⟩)]
def qqt (n:Nat) (rec:(List UInt8)→Int→Int→Option (((Bool×(Unit))×(Unit)×(Unit))⊕(((List UInt8)×(Unit))×(Unit)×(Unit)))) (a1:List UInt8) (a2:Int) (a3:Int):Option (((Bool×(Unit))×(Unit)×(Unit))⊕(((List UInt8)×(Unit))×(Unit)×(Unit))) :=
 (bif decide (a3<a2) then (sAt a1 a3).bind fun (c1:Int)=>(qpp n c1).bind fun (r2:Bool)=>(bif !r2 then some (Sum.inl ((false,()),((),()))) else q0e (IntKind.wrap .i64 (a3+(1:Int))) fun (n3:Int)=>rec a1 a2 n3) else some (Sum.inr (((a1,()),((),())))))
def qsn (n:Nat) (rec:pSt qek→Option (q08 q8k)) (p:pSt qek):Option (q08 q8k):=qqt n (fun a1 a2 a3=>rec ((a1,((),(a2,(a3,())))),((),()))) p.1.1 p.1.2.2.1 p.1.2.2.2.1
def q8n (n m:Nat) (a1:List UInt8) (a2:Int) (a3:Int):Option (((Bool×(Unit))×(Unit)×(Unit))⊕(((List UInt8)×(Unit))×(Unit)×(Unit))):=q0a (qsn n) m ((a1,((),(a2,(a3,())))),((),()))
theorem ql5 (n m:Nat) (a1:List UInt8) (a2:Int) (a3:Int):q8n n (m+1) a1 a2 a3=qqt n (fun a1 a2 a3=>q8n n m a1 a2 a3) a1 a2 a3:=rfl
def j2d (n:Nat):LC:={ sh:=qek,outs:=q8k,F:=q0a (qsn n) n }
def qkr (n:Nat):List LC:=[j2d n]
def qp5 (n:Nat) (a1:List UInt8) (a2:Unit):Option (Bool) :=
 (q8n n n a1 ((List.length a1:Nat):Int) (0:Int)).bind fun (o4:((Bool×(Unit))×(Unit)×(Unit))⊕(((List UInt8)×(Unit))×(Unit)×(Unit)))=>Sum.elim (fun (q5:(Bool×(Unit))×(Unit)×(Unit))=>some q5.1.1) (fun (q6:((List UInt8)×(Unit))×(Unit)×(Unit))=>some (!decide (q6.1.1=([]:List UInt8)))) o4
def qcq (n:Nat):FC:={ f:=133,args:=[.one (.c (.d .str)),.one (.c (.fn 134 []))],res:=.one (.c (.d .bool)),F:=fun p=>qp5 n p.1 p.2 }
def qut (n:Nat):List FC:=[qcm n]
theorem qrc (n:Nat) {G:World→Prop} (hG:Know Inv G) : ∀ c∈qut n,q0v Tryz.prog G c∧q0d c.args=true:=List.forall_mem_cons.2 ⟨jqh n G hG,(fun _ h=>by cases h)⟩
def qra:q0c:=[]
theorem j7a:drB qra (q00 Tryz.f133)=true:=by kernel_rfl
theorem jii (n:Nat) : ∀ rec p,qsn n rec p=round Tryz.prog 20 (qut n) (qkr n) qra 1 qek q8k (q01 0 0 (q00 Tryz.f133)) rec p:=by intro rec p;kernel_rfl
theorem jbl (n:Nat) {F:Fr} (hF:F.n=20) (hK:Know Inv F.G):q3k Tryz.prog F (j2d n) (q01 0 0 (q00 Tryz.f133)) :=
 q0b hF (by kernel_rfl) (qrc n hK) (jii n) (fuel:=n) (fun _=>rfl) (q02 fun j L h1 h2 h3=>absurd h2 (Nat.not_lt.2 (Nat.le_trans (by decide +kernel) h1))) (q0h j7a)
theorem jnb (n:Nat) : ∀ a,(qcq n).F a=main Tryz.prog 20 (qut n) (qkr n) qra (q00 Tryz.f133) [.tmp 4] (qcq n).args (qcq n).res a:=by intro a;kernel_rfl
theorem jpz (n:Nat):q0g Inv Tryz.prog (qcq n):=fun G hG=>⟨⟨by kernel_rfl,fun a r h=>q05 (c:=q00 Tryz.f133) Tryz.func133 (by kernel_rfl) (by kernel_rfl) (Nat.le_of_ble_eq_true (by kernel_rfl)) hG.st (by kernel_rfl) (rs:=[.tmp 4]) (by kernel_rfl) (qrc n hG) (lts:=qkr n) (fun F hF hFG=>have hK:Know Inv F.G:=hFG ▸ hG;(q02 (c:=(q00 Tryz.f133)) (fun j L h1 h2 h3=>by
  have h2':j<1:=Nat.lt_of_lt_of_le h2 (by decide +kernel)
  match j,h1,h2',h3 with
  | 0,_,_,h3=>obtain rfl:=Option.some.inj h3;exact (show q01 0 0 (q00 Tryz.f133)=q01 0 0 (q00 Tryz.f133) by kernel_rfl) ▸ jbl n hF hK
  | j+1,_,h2',_=>exact absurd h2' (by omega)))) j7a ((jnb n a).symm.trans h)⟩,rfl⟩
@[reducible] def qdk:SSt:=⟨[(0,.one (.c (.d .str))),(1,.one (.c (.fn 154 []))),(7,.one (.c (.d (.int .i64)))),(8,.one (.c (.d (.int .i64))))],[],[]⟩
@[reducible] def q86:List (Exit×SSt):=[(.ret,⟨[(4,.one (.c (.d .bool)))],[],[]⟩),(.exit 0,⟨[(0,.one (.c (.d .str)))],[],[]⟩)]
def qq4 (n:Nat) (rec:(List UInt8)→Int→Int→Option (((Bool×(Unit))×(Unit)×(Unit))⊕(((List UInt8)×(Unit))×(Unit)×(Unit)))) (a1:List UInt8) (a2:Int) (a3:Int):Option (((Bool×(Unit))×(Unit)×(Unit))⊕(((List UInt8)×(Unit))×(Unit)×(Unit))) :=
 (bif decide (a3<a2) then (sAt a1 a3).bind fun (c1:Int)=>(q50 n c1).bind fun (r2:Bool)=>(bif !r2 then some (Sum.inl ((false,()),((),()))) else q0e (IntKind.wrap .i64 (a3+(1:Int))) fun (n3:Int)=>rec a1 a2 n3) else some (Sum.inr (((a1,()),((),())))))
def qsc (n:Nat) (rec:pSt qdk→Option (q08 q86)) (p:pSt qdk):Option (q08 q86):=qq4 n (fun a1 a2 a3=>rec ((a1,((),(a2,(a3,())))),((),()))) p.1.1 p.1.2.2.1 p.1.2.2.2.1
def q7i (n m:Nat) (a1:List UInt8) (a2:Int) (a3:Int):Option (((Bool×(Unit))×(Unit)×(Unit))⊕(((List UInt8)×(Unit))×(Unit)×(Unit))):=q0a (qsc n) m ((a1,((),(a2,(a3,())))),((),()))
theorem qke (n m:Nat) (a1:List UInt8) (a2:Int) (a3:Int):q7i n (m+1) a1 a2 a3=qq4 n (fun a1 a2 a3=>q7i n m a1 a2 a3) a1 a2 a3:=rfl
def j3f (n:Nat):LC:={ sh:=qdk,outs:=q86,F:=q0a (qsc n) n }
def qkl (n:Nat):List LC:=[j3f n]
def qpq (n:Nat) (a1:List UInt8) (a2:Unit):Option (Bool) :=
 (q7i n n a1 ((List.length a1:Nat):Int) (0:Int)).bind fun (o4:((Bool×(Unit))×(Unit)×(Unit))⊕(((List UInt8)×(Unit))×(Unit)×(Unit)))=>Sum.elim (fun (q5:(Bool×(Unit))×(Unit)×(Unit))=>some q5.1.1) (fun (q6:((List UInt8)×(Unit))×(Unit)×(Unit))=>some (!decide (q6.1.1=([]:List UInt8)))) o4
def qd9 (n:Nat):FC:={ f:=133,args:=[.one (.c (.d .str)),.one (.c (.fn 154 []))],res:=.one (.c (.d .bool)),F:=fun p=>qpq n p.1 p.2 }
def qtv (n:Nat):List FC:=[q6q n]
theorem qq3 (n:Nat) {G:World→Prop} (hG:Know Inv G) : ∀ c∈qtv n,q0v Tryz.prog G c∧q0d c.args=true:=List.forall_mem_cons.2 ⟨qx2 n G hG,(fun _ h=>by cases h)⟩
def quf:q0c:=[]
theorem j3w:drB quf (q00 Tryz.f133)=true:=by kernel_rfl
theorem jha (n:Nat) : ∀ rec p,qsc n rec p=round Tryz.prog 20 (qtv n) (qkl n) quf 1 qdk q86 (q01 0 0 (q00 Tryz.f133)) rec p:=by intro rec p;kernel_rfl
theorem jal (n:Nat) {F:Fr} (hF:F.n=20) (hK:Know Inv F.G):q3k Tryz.prog F (j3f n) (q01 0 0 (q00 Tryz.f133)) :=
 q0b hF (by kernel_rfl) (qq3 n hK) (jha n) (fuel:=n) (fun _=>rfl) (q02 fun j L h1 h2 h3=>absurd h2 (Nat.not_lt.2 (Nat.le_trans (by decide +kernel) h1))) (q0h j3w)
theorem jpc (n:Nat) : ∀ a,(qd9 n).F a=main Tryz.prog 20 (qtv n) (qkl n) quf (q00 Tryz.f133) [.tmp 4] (qd9 n).args (qd9 n).res a:=by intro a;kernel_rfl
theorem jo7 (n:Nat):q0g Inv Tryz.prog (qd9 n):=fun G hG=>⟨⟨by kernel_rfl,fun a r h=>q05 (c:=q00 Tryz.f133) Tryz.func133 (by kernel_rfl) (by kernel_rfl) (Nat.le_of_ble_eq_true (by kernel_rfl)) hG.st (by kernel_rfl) (rs:=[.tmp 4]) (by kernel_rfl) (qq3 n hG) (lts:=qkl n) (fun F hF hFG=>have hK:Know Inv F.G:=hFG ▸ hG;(q02 (c:=(q00 Tryz.f133)) (fun j L h1 h2 h3=>by
  have h2':j<1:=Nat.lt_of_lt_of_le h2 (by decide +kernel)
  match j,h1,h2',h3 with
  | 0,_,_,h3=>obtain rfl:=Option.some.inj h3;exact (show q01 0 0 (q00 Tryz.f133)=q01 0 0 (q00 Tryz.f133) by kernel_rfl) ▸ jal n hF hK
  | j+1,_,h2',_=>exact absurd h2' (by omega)))) j3w ((jpc n a).symm.trans h)⟩,rfl⟩
def qxw (n:Nat):List LC:=[]
def qpd (n:Nat) (a1:List UInt8):Option (Bool) :=
 (qp5 n a1 ()).bind fun (r1:Bool)=>some r1
def qbt (n:Nat):FC:={ f:=103,args:=[.one (.c (.d .str))],res:=.one (.c (.d .bool)),F:=fun p=>qpd n p }
def j7l (n:Nat):List FC:=[qcq n]
theorem jap (n:Nat) {G:World→Prop} (hG:Know Inv G) : ∀ c∈j7l n,q0v Tryz.prog G c∧q0d c.args=true:=List.forall_mem_cons.2 ⟨jpz n G hG,(fun _ h=>by cases h)⟩
def j37:q0c:=[]
theorem jlu:drB j37 (q00 Tryz.f103)=true:=by kernel_rfl
theorem joz (n:Nat) : ∀ a,(qbt n).F a=main Tryz.prog 5 (j7l n) (qxw n) j37 (q00 Tryz.f103) [.tmp 2] (qbt n).args (qbt n).res a:=by intro a;kernel_rfl
theorem j3t (n:Nat):q0g Inv Tryz.prog (qbt n):=fun G hG=>⟨⟨by kernel_rfl,fun a r h=>q05 (c:=q00 Tryz.f103) Tryz.func103 (by kernel_rfl) (by kernel_rfl) (Nat.le_of_ble_eq_true (by kernel_rfl)) hG.st (by kernel_rfl) (rs:=[.tmp 2]) (by kernel_rfl) (jap n hG) (lts:=qxw n) (fun F hF hFG=>have hK:Know Inv F.G:=hFG ▸ hG;(q02 fun j L h1 h2 h3=>absurd h2 (Nat.not_lt.2 (Nat.le_trans (by decide +kernel) h1)))) jlu ((joz n a).symm.trans h)⟩,rfl⟩
def qnm (n:Nat):List LC:=[]
def q6k (n:Nat) (a1:List UInt8):Option (Bool) :=
 (qpq n a1 ()).bind fun (r1:Bool)=>some r1
def q47 (n:Nat):FC:={ f:=132,args:=[.one (.c (.d .str))],res:=.one (.c (.d .bool)),F:=fun p=>q6k n p }
def qrv (n:Nat):List FC:=[qd9 n]
theorem j0d (n:Nat) {G:World→Prop} (hG:Know Inv G) : ∀ c∈qrv n,q0v Tryz.prog G c∧q0d c.args=true:=List.forall_mem_cons.2 ⟨jo7 n G hG,(fun _ h=>by cases h)⟩
def qq8:q0c:=[]
theorem jcc:drB qq8 (q00 Tryz.f132)=true:=by kernel_rfl
theorem jci (n:Nat) : ∀ a,(q47 n).F a=main Tryz.prog 5 (qrv n) (qnm n) qq8 (q00 Tryz.f132) [.tmp 2] (q47 n).args (q47 n).res a:=by intro a;kernel_rfl
theorem qse (n:Nat):q0g Inv Tryz.prog (q47 n):=fun G hG=>⟨⟨by kernel_rfl,fun a r h=>q05 (c:=q00 Tryz.f132) Tryz.func132 (by kernel_rfl) (by kernel_rfl) (Nat.le_of_ble_eq_true (by kernel_rfl)) hG.st (by kernel_rfl) (rs:=[.tmp 2]) (by kernel_rfl) (j0d n hG) (lts:=qnm n) (fun F hF hFG=>have hK:Know Inv F.G:=hFG ▸ hG;(q02 fun j L h1 h2 h3=>absurd h2 (Nat.not_lt.2 (Nat.le_trans (by decide +kernel) h1)))) jcc ((jci n a).symm.trans h)⟩,rfl⟩
def qii (n:Nat):List LC:=[]
def qgp (n:Nat) (a1:List UInt8):Option (Bool) :=
 (qpd n a1).bind fun (r1:Bool)=>(bif r1 then (bif decide (a1=([48]:List UInt8)) then some true else (sAt a1 (0:Int)).bind fun (c2:Int)=>(bif !decide (c2=(48:Int)) then some true else (q6k n a1).bind fun (r3:Bool)=>some (!r3))) else some false)
def q8b (n:Nat):FC:={ f:=102,args:=[.one (.c (.d .str))],res:=.one (.c (.d .bool)),F:=fun p=>qgp n p }
def qnx (n:Nat):List FC:=[qbt n,q47 n]
theorem qvw (n:Nat) {G:World→Prop} (hG:Know Inv G) : ∀ c∈qnx n,q0v Tryz.prog G c∧q0d c.args=true:=List.forall_mem_cons.2 ⟨j3t n G hG,List.forall_mem_cons.2 ⟨qse n G hG,(fun _ h=>by cases h)⟩⟩
def qnk:q0c:=[]
theorem j3h:drB qnk (q00 Tryz.f102)=true:=by kernel_rfl
theorem j72 (n:Nat) : ∀ a,(q8b n).F a=main Tryz.prog 19 (qnx n) (qii n) qnk (q00 Tryz.f102) [.tmp 2] (q8b n).args (q8b n).res a:=by intro a;kernel_rfl
theorem j7k (n:Nat):q0g Inv Tryz.prog (q8b n):=fun G hG=>⟨⟨by kernel_rfl,fun a r h=>q05 (c:=q00 Tryz.f102) Tryz.func102 (by kernel_rfl) (by kernel_rfl) (Nat.le_of_ble_eq_true (by kernel_rfl)) hG.st (by kernel_rfl) (rs:=[.tmp 2]) (by kernel_rfl) (qvw n hG) (lts:=qii n) (fun F hF hFG=>have hK:Know Inv F.G:=hFG ▸ hG;(q02 fun j L h1 h2 h3=>absurd h2 (Nat.not_lt.2 (Nat.le_trans (by decide +kernel) h1)))) j3h ((j72 n a).symm.trans h)⟩,rfl⟩
end Go.Proofs.YtggoebaobojmjaaGreatDoor.AM
namespace Go.Proofs.YtggoebaobojmjaaGreatDoor.AM
open Go.RowKit
set_option linter.unusedVariables false
theorem jmz {β:Type} {l:List β} {j:Nat} (h:j<l.length):nth l j=some l[j]:=by rw [q7w,List.getElem?_eq_getElem h]
theorem q0k {β:Type} {l:List β} {j:Nat} (h:j<l.length):q0x l (j:Int)=some l[j]:=by
 unfold q0x;rw [if_pos (by omega),Int.toNat_natCast,jmz h]
theorem q6x {s:List UInt8} {j:Nat} (h:j<s.length):sAt s (j:Int)=some ((s[j].toNat:Nat):Int):=by
 unfold sAt;rw [q0k h];rfl
theorem sub_le {β:Type} {l:List β} {a b:Nat} (h1:a≤b) (h2:b≤l.length):qtj l (a:Int) (b:Int)=some ((l.drop a).take (b - a)):=by
 unfold qtj;rw [if_pos ⟨by omega,by omega,by omega⟩,Int.toNat_natCast,Int.toNat_natCast]
theorem sub_zero {β:Type} {l:List β} {b:Nat} (h2:b≤l.length):qtj l (0:Int) (b:Int)=some (l.take b):=by
 have:=sub_le (l:=l) (a:=0) (b:=b) (Nat.zero_le _) h2
 simpa using this
theorem qf4 {β:Type} {k:Nat} {xs ys:List β} (h:(xs.length+ys.length)*k≤140737488355328):j0w k xs ys=some (xs++ys):=by
 unfold j0w;rw [if_pos h]
theorem q04 {i:Nat} (h:i<4611686018427387904):IntKind.wrap .i64 ((i:Int)+1)=((i+1:Nat):Int):=by rw [wrap64 (by omega) (by omega)];rfl
end Go.Proofs.YtggoebaobojmjaaGreatDoor.AM
namespace Go.Proofs.YtggoebaobojmjaaGreatDoor.AM
open Go.RowKit
set_option linter.unusedVariables false
set_option linter.unusedSimpArgs false
theorem jfs (n:Nat) (c:UInt8):q50 n ((c.toNat:Nat):Int)=some (q1z c):=by
 unfold q50 q1z
 have h1:decide ((48:Int)≤((c.toNat:Nat):Int))=decide (48≤c.toNat):=decide_eq_decide.2 (by omega)
 have h2:decide (((c.toNat:Nat):Int)≤(57:Int))=decide (c.toNat≤57):=decide_eq_decide.2 (by omega)
 rw [h1,h2]
 cases decide (48≤c.toNat)<;>cases decide (c.toNat≤57)<;>rfl
theorem jxs (n:Nat) (c:UInt8):qpp n ((c.toNat:Nat):Int)=some (jjr c):=by
 unfold qpp jjr
 have h1:decide ((97:Int)≤((c.toNat:Nat):Int))=decide (97≤c.toNat):=decide_eq_decide.2 (by omega)
 have h2:decide (((c.toNat:Nat):Int)≤(122:Int))=decide (c.toNat≤122):=decide_eq_decide.2 (by omega)
 have h3:decide ((65:Int)≤((c.toNat:Nat):Int))=decide (65≤c.toNat):=decide_eq_decide.2 (by omega)
 have h4:decide (((c.toNat:Nat):Int)≤(90:Int))=decide (c.toNat≤90):=decide_eq_decide.2 (by omega)
 have h5:decide (((c.toNat:Nat):Int)=(45:Int))=decide (c.toNat=45):=decide_eq_decide.2 (by omega)
 rw [h1,h2,h3,h4,h5,jfs]
 cases decide (97≤c.toNat)<;>cases decide (c.toNat≤122)<;>cases decide (65≤c.toNat)<;>cases decide (c.toNat≤90)<;>cases q1z c<;>rfl
theorem qri (n:Nat) (s:List UInt8) (hL:s.length≤1000000) : ∀ m j:Nat,j≤s.length→s.length - j<m→q8n n m s ((s.length:Nat):Int) (j:Int)=some (if (s.drop j).all jjr=true then Sum.inr ((s,()),((),())) else Sum.inl ((false,()),((),())))
 | 0,j,_,h=>absurd h (Nat.not_lt_zero _)
 | m+1,j,hj,h=>by
  rw [ql5]
  unfold qqt
  by_cases c0:j<s.length
  ·have c0':((j:Nat):Int)<((s.length:Nat):Int):=by omega
   have ih:=qri n s hL m (j+1) (by omega) (by omega)
   have hd:s.drop j=s[j]::s.drop (j+1):=(List.drop_eq_getElem_cons c0)
   simp only [c0',decide_true,cond_true,q6x c0,Option.bind_some,jxs,q0e,q04 (show j<4611686018427387904 by omega),ih,hd,List.all_cons]
   cases jjr s[j]<;>simp
  ·have c0' : ¬ ((j:Nat):Int)<((s.length:Nat):Int):=by omega
   have:s.drop j = []:=List.drop_eq_nil_of_le (by omega)
   simp [c0',this]
theorem jao (n:Nat) (s:List UInt8) (hL:s.length≤1000000) (hn:s.length<n):qp5 n s ()=some (s.all jjr && !decide (s = [])):=by
 unfold qp5
 have:=qri n s hL n 0 (Nat.zero_le _) (by omega)
 rw [show ((0:Nat):Int)=(0:Int) from rfl] at this
 rw [this,List.drop_zero]
 cases s.all jjr<;>rfl
theorem qqs (n:Nat) (s:List UInt8) (hL:s.length≤1000000) : ∀ m j:Nat,j≤s.length→s.length - j<m→q7i n m s ((s.length:Nat):Int) (j:Int)=some (if (s.drop j).all q1z=true then Sum.inr ((s,()),((),())) else Sum.inl ((false,()),((),())))
 | 0,j,_,h=>absurd h (Nat.not_lt_zero _)
 | m+1,j,hj,h=>by
  rw [qke]
  unfold qq4
  by_cases c0:j<s.length
  ·have c0':((j:Nat):Int)<((s.length:Nat):Int):=by omega
   have ih:=qqs n s hL m (j+1) (by omega) (by omega)
   have hd:s.drop j=s[j]::s.drop (j+1):=(List.drop_eq_getElem_cons c0)
   simp only [c0',decide_true,cond_true,q6x c0,Option.bind_some,jfs,q0e,q04 (show j<4611686018427387904 by omega),ih,hd,List.all_cons]
   cases q1z s[j]<;>simp
  ·have c0' : ¬ ((j:Nat):Int)<((s.length:Nat):Int):=by omega
   have:s.drop j = []:=List.drop_eq_nil_of_le (by omega)
   simp [c0',this]
theorem j9j (n:Nat) (s:List UInt8) (hL:s.length≤1000000) (hn:s.length<n):qpq n s ()=some (s.all q1z && !decide (s = [])):=by
 unfold qpq
 have:=qqs n s hL n 0 (Nat.zero_le _) (by omega)
 rw [show ((0:Nat):Int)=(0:Int) from rfl] at this
 rw [this,List.drop_zero]
 cases s.all q1z<;>rfl
theorem qr1 (n:Nat) (s:List UInt8) (hL:s.length≤1000000) (hn:s.length<n):qpd n s=some (q2f s):=by
 unfold qpd;rw [jao n s hL hn];rfl
theorem qbe (n:Nat) (s:List UInt8) (hL:s.length≤1000000) (hn:s.length<n):q6k n s=some (q33 s):=by
 unfold q6k;rw [j9j n s hL hn];rfl
theorem jgm (n:Nat) (s:List UInt8) (hL:s.length≤1000000) (hn:s.length<n):qgp n s=some (q5e s):=by
 unfold qgp q5e
 rw [qr1 n s hL hn,qbe n s hL hn]
 simp only [Option.bind_some]
 cases hp:q2f s with
 | false=>rfl
 | true =>
  cases s with
  | nil=>simp [q2f] at hp
  | cons c r =>
   have h0:sAt (c::r) (0:Int)=some ((c.toNat:Nat):Int):=q6x (s:=c::r) (j:=0) (by simp)
   have h1:decide (((c.toNat:Nat):Int)=(48:Int))=decide ((c::r).head? = some 48):=decide_eq_decide.2 (by
    simp only [List.head?_cons,Option.some.injEq]
    constructor
    ·intro h;exact UInt8.toNat_inj.1 (by have e48:(48:UInt8).toNat=48:=rfl;rw [e48];omega)
    ·rintro rfl;rfl)
   simp only [cond_true,h0,Option.bind_some,h1,Bool.true_and]
   cases decide (c::r = [48])<;>cases decide ((c::r).head? = some 48)<;>cases q33 (c::r)<;>rfl
end Go.Proofs.YtggoebaobojmjaaGreatDoor.AM
namespace Go.Proofs
open Go.RowKit Go.Shelf Go.Lib
attribute [local go_sem] Oper.semAt_some
set_option linter.unusedVariables false
set_option linter.unusedSimpArgs false
namespace YtggoebaobojmjaaGreatDoor.AM
theorem q2r {P:Program} {fn:Func} {p:Tmp} {ty:TypeId} {b:Nat} {v:Value} {tmps:Array Value} {w:World} (h:fn.results = #[.cell p ty]) (hp:tmps.getD p undef = .pointer (some ⟨b,0,none⟩)) (ha:qvc P ty=some false)
  (hc:w.cell? ⟨b,0,none⟩=some v):(results fn tmps).run P w = .ok v w:=by
 have hp':tmps[p]?.getD undef = .pointer (some ⟨b,0,none⟩):=by simpa using hp
 simp only [results,h]
 simp [Sem.run_bind,hp',asAddr,loadVar,q1d ha w,go_sem,hc]
theorem q2e {W W':World} {a:Addr} {v:Value} (hb:Below W.heap.size W W') (h:W.cell? a=some v):W'.cell? a=some v:=by
 obtain ⟨o,ho,hc⟩:=cells_of_cell h
 exact (World.cell?_of_block ((hb.block _ (Array.getElem?_eq_some_iff.1 ho).1).trans ho |>.trans ho.symm)).trans h
theorem q3f {W W':World} {a:Addr} {v:Value} (hb:Below W.heap.size W W') (h:W.cell? a=some v):W'.frozen? a=W.frozen? a:=by
 obtain ⟨o,ho,hc⟩:=cells_of_cell h
 exact World.frozen?_of_block ((hb.block _ (Array.getElem?_eq_some_iff.1 ho).1).trans ho |>.trans ho.symm)
theorem q27 {W W':World} (hb:Below W.heap.size W W'):KeepsOthers W W':=⟨hb.size,fun k o h _=>(hb.block k (Array.getElem?_eq_some_iff.1 h).1).trans h⟩
theorem qe2 {pS:Nat} {r:List UInt8} {W W':World} (h:Left pS r W) (hb:Below W.heap.size W W'):Left pS r W':=⟨q2e hb h.1,(q3f hb h.1).trans h.2⟩
theorem q0p {w:World} {b:Nat} {v:Value} {t:TypeId} (h:w.heap[b]? = some (.cells #[v] t (0,0))):w.cell? ⟨b,0,none⟩=some v∧w.frozen? ⟨b,0,none⟩=false:=by
 constructor
 ·simp [World.cell?,h]
 ·simp [World.frozen?,h]
theorem five (w:World) (o0 o1 o2 o3 o4:Obj) : ∃ W,(((((w.alloc o0).alloc o1).alloc o2).alloc o3).alloc o4)=W∧W.heap.size=w.heap.size+5∧Below w.heap.size w W∧W.heap[w.heap.size]? = some o0∧W.heap[w.heap.size+1]? = some o1∧W.heap[w.heap.size+1+1]? = some o2∧W.heap[w.heap.size+1+1+1]? = some o3∧W.heap[w.heap.size+1+1+2]? = some o4:=by
 have al : ∀ (w:World) (o:Obj) (k:Nat),k<w.heap.size→(w.alloc o).heap[k]? = w.heap[k]?:=fun w o k h=>Below.heap_alloc _ _ _ h
 refine ⟨_,rfl,by simp,(((((Below.refl _ w).alloc (Nat.le_refl _) _).alloc (by simp) _).alloc (by simp;omega) _).alloc (by simp;omega) _).alloc (by simp;omega) _,?_,?_,?_,?_,?_⟩
 ·rw [al _ _ _ (by simp<;>omega),al _ _ _ (by simp<;>omega),al _ _ _ (by simp<;>omega),al _ _ _ (by simp),World.alloc_heap_new]
 ·rw [al _ _ _ (by simp<;>omega),al _ _ _ (by simp<;>omega),al _ _ _ (by simp)]
  have:=World.alloc_heap_new (w.alloc o0) o1
  rw [World.size_alloc] at this;exact this
 ·rw [al _ _ _ (by simp<;>omega),al _ _ _ (by simp)]
  have:=World.alloc_heap_new ((w.alloc o0).alloc o1) o2
  rw [World.size_alloc,World.size_alloc] at this;exact this
 ·rw [al _ _ _ (by simp)]
  have:=World.alloc_heap_new (((w.alloc o0).alloc o1).alloc o2) o3
  rw [World.size_alloc,World.size_alloc,World.size_alloc] at this;exact this
 ·have:=World.alloc_heap_new ((((w.alloc o0).alloc o1).alloc o2).alloc o3) o4
  rw [World.size_alloc,World.size_alloc,World.size_alloc,World.size_alloc] at this;exact this
theorem hag:qvc Tryz.prog 4=some false:=by kernel_rfl
structure Rng (fv:Value) (pF pR:Nat) (pP pC:Nat) (c:UInt8) (w0:World) (pred:List UInt8→Bool) (pre:List (List UInt8)) (W:World):Prop where
 fn:W.cell? ⟨pF,0,none⟩=some fv
 res:W.cell? ⟨pR,0,none⟩=some (.bool false)
 frz:W.frozen? ⟨pR,0,none⟩=false
 cP:W.cell? ⟨pP,0,none⟩=some (.string (ba [c]))
 cC:W.cell? ⟨pC,0,none⟩=some (.int .i64 0)
 below:Below w0.heap.size w0 W
 all:pre.all pred=true
structure RngX (pR:Nat) (w0:World) (pred:List UInt8→Bool) (pre:List (List UInt8)) (W:World):Prop where
 res:W.cell? ⟨pR,0,none⟩=some (.bool false)
 below:Below w0.heap.size w0 W
 no:pre.all pred=false
theorem j1l {fv:Value} {pF pR pP pC:Nat} {c:UInt8} {w0:World} {pred:List UInt8→Bool} {B:Nat} (hB:w0.heap.size≤B):OwnFrom B (Rng fv pF pR pP pC c w0 pred):=fun s W W' row h hg hr =>
 ⟨qba h.fn hg hr,qba h.res hg hr,(frozen_kept h.res hg (fun r e=>(hr r e).2)).trans h.frz,qba h.cP hg hr,qba h.cC hg hr,h.below.grown hg h.below.size (fun k e=>Nat.le_trans hB (hr k e).1),h.all⟩
theorem j0y {pR:Nat} {w0:World} {pred:List UInt8→Bool} {B:Nat} (hB:w0.heap.size≤B):OwnFrom B (RngX pR w0 pred):=fun s W W' row h hg hr =>
 ⟨qba h.res hg hr,h.below.grown hg h.below.size (fun k e=>Nat.le_trans hB (hr k e).1),h.no⟩
theorem qhf {fv:Value} {pF pR pP pC:Nat} {c:UInt8} {w0:World} {pred:List UInt8→Bool} {pre:List (List UInt8)} {x:List UInt8} {W W':World} (h:Rng fv pF pR pP pC c w0 pred pre W) (hb:Below W.heap.size W W') (hx:pred x=true):Rng fv pF pR pP pC c w0 pred (pre ++ [x]) W' :=
 ⟨q2e hb h.fn,q2e hb h.res,(q3f hb h.res).trans h.frz,q2e hb h.cP,q2e hb h.cC,h.below.trans (hb.mono h.below.size),by rw [List.all_append,h.all];simp [hx]⟩
theorem qzs {fv:Value} {pF pR pP pC:Nat} {c:UInt8} {w0:World} {pred:List UInt8→Bool} {pre:List (List UInt8)} {W:World} {q:Nat} (v:Value) (h:Rng fv pF pR pP pC c w0 pred pre W) (h0:w0.heap.size≤q) (h1:q≠pF) (h2:q≠pR) (h3:q≠pP) (h4:q≠pC):Rng fv pF pR pP pC c w0 pred pre (W.setCell ⟨q,0,none⟩ v):=by
 have ne : ∀ p:Nat,q≠p→(W.setCell ⟨q,0,none⟩ v).cell? ⟨p,0,none⟩=W.cell? ⟨p,0,none⟩:=fun p hp=>World.cell?_setCell_other _ _ _ _ (by intro e;exact hp (by injection e with e))
 exact ⟨(ne _ h1).trans h.fn,(ne _ h2).trans h.res,by rw [World.frozen?_setCell];exact h.frz,(ne _ h3).trans h.cP,(ne _ h4).trans h.cC,h.below.setCell (by simpa using h0) _,h.all⟩
theorem four (w:World) (o0 o1 o2 o3:Obj) : ∃ W,((((w.alloc o0).alloc o1).alloc o2).alloc o3)=W∧W.heap.size=w.heap.size+4∧Below w.heap.size w W∧W.heap[w.heap.size]? = some o0∧W.heap[w.heap.size+1]? = some o1∧W.heap[w.heap.size+1+1]? = some o2∧W.heap[w.heap.size+1+2]? = some o3:=by
 have al : ∀ (w:World) (o:Obj) (k:Nat),k<w.heap.size→(w.alloc o).heap[k]? = w.heap[k]?:=fun w o k h=>Below.heap_alloc _ _ _ h
 refine ⟨_,rfl,by simp,((((Below.refl _ w).alloc (Nat.le_refl _) _).alloc (by simp) _).alloc (by simp;omega) _).alloc (by simp;omega) _,?_,?_,?_,?_⟩
 ·rw [al _ _ _ (by simp<;>omega),al _ _ _ (by simp<;>omega),al _ _ _ (by simp),World.alloc_heap_new]
 ·rw [al _ _ _ (by simp<;>omega),al _ _ _ (by simp)]
  have:=World.alloc_heap_new (w.alloc o0) o1
  rw [World.size_alloc] at this;exact this
 ·rw [al _ _ _ (by simp)]
  have:=World.alloc_heap_new ((w.alloc o0).alloc o1) o2
  rw [World.size_alloc,World.size_alloc] at this;exact this
 ·have:=World.alloc_heap_new (((w.alloc o0).alloc o1).alloc o2) o3
  rw [World.size_alloc,World.size_alloc,World.size_alloc] at this;exact this
structure RngY (pR:Nat) (w0:World) (pred:List UInt8→Bool) (pre:List (List UInt8)) (W:World):Prop where
 res:W.cell? ⟨pR,0,none⟩=some (.bool true)
 below:Below w0.heap.size w0 W
 no:pre.all pred=false
theorem jr5 {pR:Nat} {w0:World} {pred:List UInt8→Bool} {B:Nat} (hB:w0.heap.size≤B):OwnFrom B (RngY pR w0 pred):=fun s W W' row h hg hr =>
 ⟨qba h.res hg hr,h.below.grown hg h.below.size (fun k e=>Nat.le_trans hB (hr k e).1),h.no⟩
theorem jcl {pred:List UInt8→Bool} {s x:List UInt8} {pre t:List (List UInt8)} (hsp:spl 47 [] s=pre++x::t) (hn:(pre ++ [x]).all pred=false):(spl 47 [] s).all pred=false:=by
 rw [List.all_append,Bool.and_eq_false_iff] at hn
 rw [hsp,List.all_append,Bool.and_eq_false_iff]
 rcases hn with hn|hn
 ·exact Or.inl hn
 ·refine Or.inr ?_
  simp only [List.all_cons,List.all_nil,Bool.and_true] at hn
  rw [List.all_cons,hn];rfl
end YtggoebaobojmjaaGreatDoor.AM
end Go.Proofs
