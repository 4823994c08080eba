
import Derived.Test.YtggoebaobojmjaaGreatDoorBp8
import Derived.Lib.ItoaNum
import Derived.Lib.AtoiAll
import Derived.Shelf.LaysC
import Derived.Shelf.Strconv.Itoa3
import Derived.Shelf.Strconv.AtoiAll
import Derived.Shelf.Small.Strs
import Derived.Shelf.Strings.SplitShaped
import Derived.Lib.LaidTab
import Derived.Lib.AppendIntMem
import Derived.Stop.LaidErr
import Derived.WalkSmall
namespace Go.Proofs.YtggoebaobojmjaaGreatDoor.AM
open Go.RowKit
set_option linter.unusedVariables false
set_option linter.unusedSimpArgs false
abbrev VD:=Int×(Int×(Int×(List UInt8×List UInt8)))
abbrev v0:VD:=(0,(0,(0,([],[]))))
def q1n (c:UInt8):Bool:=decide (48≤c.toNat)&&decide (c.toNat≤57)
def jiq (c:UInt8):Bool:=(decide (97≤c.toNat)&&decide (c.toNat≤122))||(decide (65≤c.toNat)&&decide (c.toNat≤90))||q1n c||decide (c.toNat=45)
def q2y (s:List UInt8):Bool:=s.all q1n && !decide (s = [])
def q2d (s:List UInt8):Bool:=s.all jiq && !decide (s = [])
def q5d (s:List UInt8):Bool:=q2d s&&(decide (s = [48]) || !decide (s.head? = some 48) || !q2y s)
def q6u (p:List UInt8→Bool) (s:List UInt8):Bool:=decide (s = [])||(decide (s.length≤30)&&(spl 46 [] s).all p)
def j70 (n:Int):Bool:=decide (0≤n)&&decide (n≤999999999)
def q0y (v:VD):Bool:=j70 v.1&&j70 v.2.1&&j70 v.2.2.1&&q6u q5d v.2.2.2.1&&q6u q2d v.2.2.2.2
def juh (w:List UInt8):Int×(Int×List UInt8):=if q2y w then (0,(w.length,w)) else (1,(0,w))
def jpy (x y:List UInt8):Int:=qht q55 (qht q55 (cmpL jnx)) (juh x) (juh y)
def jj8 (p:List UInt8):Int×List (List UInt8):=(if p = [] then 1 else 0,spl 46 [] p)
def q8y (a b:List UInt8):Int:=qht q55 (cmpL jpy) (jj8 a) (jj8 b)
def core (v:VD):Int×(Int×(Int×List UInt8)):=(v.1,(v.2.1,(v.2.2.1,v.2.2.2.1)))
def jy4 (x y:Int×(Int×(Int×List UInt8))):Int:=qht q55 (qht q55 (qht q55 q8y)) x y
def qmq (v w:VD):Int:=if q0y v&&q0y w then jy4 (core v) (core w) else 0
theorem js2 (x y:List UInt8) (h:juh x=juh y):x=y:=by
 unfold juh at h
 split at h<;>split at h<;>simp at h<;>first|exact h.2|exact h
theorem jqb:Cmp jpy:=(j19 q7q (j19 q7q (qiq qoj))).key juh js2
def jqu (c:UInt8):List (List UInt8)→List UInt8
 | []=>[]
 | [x]=>x
 | x::y::t=>x++c::jqu c (y::t)
theorem jup (c:UInt8) (l cur:List UInt8):spl c cur l ≠ []:=fun h=>by have:=(q6l c l cur).1;rw [h] at this;simp at this
theorem qgq (c:UInt8) : ∀ (l cur:List UInt8),jqu c (spl c cur l)=cur++l
 | [],cur=>by simp [spl,jqu]
 | b::l,cur=>by
  rw [spl]
  split
  ·rename_i h;subst h
   have ih:=qgq b l []
   cases hs:spl b [] l with
   | nil=>exact absurd hs (jup b l [])
   | cons y t=>rw [hs] at ih;rw [jqu,ih];simp
  ·rw [qgq c l];simp
theorem jvw (c:UInt8) (x y:List UInt8) (h:spl c [] x=spl c [] y):x=y:=by
 have h1:=qgq c x []
 have h2:=qgq c y []
 rw [h] at h1
 simpa using h1.symm.trans h2
theorem jrm (x y:List UInt8) (h:jj8 x=jj8 y):x=y:=jvw 46 x y (congrArg Prod.snd h)
theorem qxr:Cmp q8y:=(j19 q7q (qiq jqb)).key jj8 jrm
theorem qpg {d:Nat} (h:d<10):q1n (UInt8.ofNat (48+d))=true:=by
 unfold q1n
 have:(UInt8.ofNat (48+d)).toNat=48+d:=by rw [UInt8.toNat_ofNat'];omega
 rw [this];simp;omega
theorem jjf (n:Nat):(Lib.decDigits n).all q1n=true∧Lib.decDigits n ≠ []:=by
 induction n using Nat.strongRecOn with
 | _ n ih =>
  rw [Lib.decDigits]
  split
  ·rename_i h;exact ⟨by rw [List.all_cons,qpg h];rfl,by simp⟩
  ·rename_i h
   have:=ih (n / 10) (by omega)
   exact ⟨by rw [List.all_append,this.1,List.all_cons,qpg (show n % 10<10 by omega)];rfl,by simp⟩
theorem jo3 : ∀ (k n:Nat),n<10 ^ (k+1)→(Lib.decDigits n).length≤k+1
 | 0,n,h=>by rw [Lib.decDigits,dif_pos (by omega)];simp
 | k+1,n,h=>by
  rw [Lib.decDigits]
  split
  ·simp
  ·have:=jo3 k (n / 10) (by rw [Nat.pow_succ] at h;omega)
   simp;omega
theorem j6u : ∀ (l r:List UInt8) (a:Nat) (u:Nat),Lib.parseUint10 a l = .ok u→Lib.parseUint10 a (l++r)=Lib.parseUint10 u r
 | [],r,a,u,h=>by simp only [Lib.parseUint10] at h;injection h with h;subst h;rfl
 | c::l,r,a,u,h=>by
  rw [List.cons_append]
  conv=>lhs;unfold Lib.parseUint10
  unfold Lib.parseUint10 at h
  split at h
  ·rename_i h1
   rw [if_pos h1]
   split at h
   ·cases h
   ·rename_i h2
    rw [if_neg h2]
    split at h
    ·cases h
    ·rename_i h3
     rw [if_neg h3]
     exact j6u l r _ u h
  ·cases h
theorem jox (n:Nat) (h:n<1000000000000000000):Lib.parseUint10 0 (Lib.decDigits n) = .ok n:=by
 induction n using Nat.strongRecOn with
 | _ n ih =>
  have t1 : ∀ d,d<10→(UInt8.ofNat (48+d)).toNat=48+d:=fun d hd=>by rw [UInt8.toNat_ofNat'];omega
  rw [Lib.decDigits]
  split
  ·rename_i h1
   unfold Lib.parseUint10 Lib.parseUint10
   rw [t1 n h1,if_pos (by omega),if_neg (by omega),if_neg (by omega)]
   congr 1;omega
  ·rename_i h1
   have h2:=ih (n / 10) (by omega) (by omega)
   rw [j6u _ _ _ _ h2]
   unfold Lib.parseUint10 Lib.parseUint10
   rw [t1 _ (show n % 10<10 by omega),if_pos (by omega),if_neg (by omega),if_neg (by omega)]
   congr 1;omega
theorem qoz {n:Int} (h:0≤n):Lib.itoa n=Lib.decDigits n.toNat:=by unfold Lib.itoa;rw [if_neg (by omega)]
theorem jnv {n:Int} (h0:0≤n) (h1:n≤999999999):Lib.atoiAll (Lib.itoa n) = .ok n:=by
 rw [qoz h0]
 have hd:=jjf n.toNat
 have hp:=jox n.toNat (by omega)
 generalize Lib.decDigits n.toNat=l at hd hp
 cases l with
 | nil=>exact absurd rfl hd.2
 | cons c r =>
  have hc:q1n c=true:=by have:=hd.1;simp at this;exact this.1
  unfold q1n at hc
  simp at hc
  unfold Lib.atoiAll
  have c43 : ¬ c.toNat=43:=by omega
  have c45 : ¬ c.toNat=45:=by omega
  simp only [c43,or_self,if_false,c45,not_false_eq_true,true_and,false_and]
  unfold Lib.parseMag
  rw [if_neg (by simp),hp]
  simp only
  rw [if_neg (by omega)]
  congr 1;omega
def qdz (a:Int):List UInt8→Int
 | []=>a
 | c::l=>qdz (10*a+c.toNat - 48) l
theorem qyu : ∀ (l r:List UInt8) (a:Int),qdz a (l++r)=qdz (qdz a l) r
 | [],r,a=>rfl
 | c::l,r,a=>by rw [List.cons_append,qdz,qdz,qyu l]
theorem js9 (n:Nat):qdz 0 (Lib.decDigits n)=n:=by
 induction n using Nat.strongRecOn with
 | _ n ih =>
  have t1 : ∀ d,d<10→(UInt8.ofNat (48+d)).toNat=48+d:=fun d hd=>by rw [UInt8.toNat_ofNat'];omega
  rw [Lib.decDigits]
  split
  ·rename_i h1
   unfold qdz qdz
   rw [t1 n h1];omega
  ·rename_i h1
   rw [qyu,ih (n / 10) (by omega)]
   unfold qdz qdz
   rw [t1 _ (show n % 10<10 by omega)];omega
theorem qk3 : ∀ (l:List UInt8) (a:Int),0≤a→l.all q1n=true→0≤qdz a l∧qdz a l<(a+1)*10 ^ l.length
 | [],a,h,_=>by simp [qdz];omega
 | c::l,a,h,hd=>by
  simp at hd
  have hc:=hd.1
  unfold q1n at hc
  simp at hc
  have ih:=qk3 l (10*a+c.toNat - 48) (by omega) (by simp;exact hd.2)
  rw [qdz]
  refine ⟨ih.1,Int.lt_of_lt_of_le ih.2 ?_⟩
  have e1:(10:Int) ^ (c::l).length=10*10 ^ l.length:=by rw [List.length_cons,Int.pow_succ];omega
  rw [e1,← Int.mul_assoc]
  have hp:(0:Int)≤10 ^ l.length:=Int.le_of_lt (Int.pow_pos (by decide))
  exact Int.mul_le_mul_of_nonneg_right (by omega) hp
theorem j3q (c:UInt8) (x:List UInt8) (h:c ∉ x):spl c [] x = [x]:=by
 have:=jcz c x [] [] h
 simpa [spl] using this
theorem q2b {v:VD} (h:q0y v=true):(0≤v.1∧v.1≤999999999)∧(0≤v.2.1∧v.2.1≤999999999)∧(0≤v.2.2.1∧v.2.2.1≤999999999)∧q6u q5d v.2.2.2.1=true∧q6u q2d v.2.2.2.2=true:=by
 unfold q0y j70 at h
 simp only [Bool.and_eq_true,decide_eq_true_eq] at h
 exact ⟨h.1.1.1.1,h.1.1.1.2,h.1.1.2,h.1.2,h.2⟩
theorem qon {p:List UInt8→Bool} {s:List UInt8} (h:q6u p s=true):s.length≤30:=by
 unfold q6u at h
 simp only [Bool.or_eq_true,Bool.and_eq_true,decide_eq_true_eq] at h
 rcases h with rfl|h
 ·simp
 ·exact h.1
def q3n (s:List UInt8):List UInt8:=if s.head? = some 118 then s.drop 1 else s
def qe2 (v:VD) (l:Int):VD×Int :=
 if q0y v=true∧1≤l∧l≤3 then
  if v.2.2.2.1 ≠ []∧(2≤l→v.2.2.1=0)∧(l=3→v.2.1=0) then ((v.1,(v.2.1,(v.2.2.1,([],[])))),0)
  else if l=1∧v.2.2.1<999999999 then ((v.1,(v.2.1,(v.2.2.1+1,([],[])))),0)
  else if l≤2∧v.2.1<999999999 then ((v.1,(v.2.1+1,(0,([],[])))),0)
  else if v.1<999999999 then ((v.1+1,(0,(0,([],[])))),0)
  else (v0,15)
 else (v0,1)
end Go.Proofs.YtggoebaobojmjaaGreatDoor.AM
namespace Go.Proofs
open Go.RowKit Go.Shelf Go.Lib
shelf_lay LaysM.n171 Nm 171 at Tryz as Tryz.laysItoa
shelf_lay LaysC.n172 Nm 172 at Tryz as Tryz.laysAtoi
set_option linter.unusedVariables false
set_option linter.unusedSimpArgs false
namespace YtggoebaobojmjaaGreatDoor.AM
structure Inv (w:World):Prop where
 maxLen : ∃ m,w.cell? ⟨Tryz.laysIndex_ren.g 1,0,none⟩=some (.int .i64 m)
 tab:Lib.TabIs Tryz.prog w "internal/strconv.uint64pow10" .u64 Lib.pow10Tab
 syn : ∃ tp p,w.cell? ⟨Tryz.laysAtoi_ren.g 15,0,none⟩=some (.iface tp p)
 rng : ∃ tp p,w.cell? ⟨Tryz.laysAtoi_ren.g 16,0,none⟩=some (.iface tp p)
theorem gTab:(Tryz.prog.globalNamed "internal/strconv.uint64pow10").isSome=true:=by kernel_rfl
theorem Inv.below {w w':World} (h:Inv w) (hb:Below w.heap.size w w'):Inv w':=by
 obtain ⟨⟨m,hm⟩,ht,⟨t1,p1,h1⟩,⟨t2,p2,h2⟩⟩:=h
 refine ⟨⟨m,(hb.cell (p:=⟨_,0,none⟩) (World.block_lt_of_cell? _ _ hm)).trans hm⟩,?_,⟨t1,p1,(hb.cell (p:=⟨_,0,none⟩) (World.block_lt_of_cell? _ _ h1)).trans h1⟩,⟨t2,p2,(hb.cell (p:=⟨_,0,none⟩) (World.block_lt_of_cell? _ _ h2)).trans h2⟩⟩
 obtain ⟨g,hg⟩:=Option.isSome_iff_exists.1 gTab
 refine var?_below hb hg ?_ ht
 have hv:w.var? Tryz.prog "internal/strconv.uint64pow10" = some _:=ht
 unfold World.var? at hv
 rw [hg] at hv
 simp only [Option.bind_some] at hv
 split at hv
 ·rename_i h5;exact (Array.getElem?_eq_some_iff.1 h5).1
 ·cases hv
theorem q1d:Know Inv Inv:=⟨fun w w' h hb=>h.below hb,fun _ h=>h⟩
variable {P:Program}
theorem qff {Pc:Nat→Nat→Prop} {w w':World} {v:Value} {d:D} {e:Ending} (he:e = .returned v) (hb:Below w.heap.size w w') (hv:q16 (q1m Pc) q2m w' v d) :
  ∃ v' Pc',e = .returned v'∧Below w.heap.size w w'∧(∀ b o,Pc b o→Pc' b o)∧(∀ b o,Pc' b o→Pc b o∨(w.heap.size≤b∧b<w'.heap.size))∧q16 (q1m Pc') q2m w' v' d :=
 ⟨v,Pc,he,hb,fun _ _ h=>h,fun _ _ h=>Or.inl h,hv⟩
abbrev jfg:SD:=.one (.c (.d .str))
abbrev intA:SD:=.one (.c (.d (.int .i64)))
abbrev js1:SD:=.one (.c (.d .bool))
end YtggoebaobojmjaaGreatDoor.AM
end Go.Proofs
namespace Go.Proofs
open Go.RowKit Go.Shelf Go.Lib
shelf_lay LaysM.n146 Nm 146 at Tryz as Tryz.laysSplit
shelf_lay Lays.n106 Nm 106 at Tryz as Tryz.laysCompare
set_option linter.unusedVariables false
set_option linter.unusedSimpArgs false
namespace YtggoebaobojmjaaGreatDoor.AM
variable {P:Program}
def qw1:FC:={ f:=153,args:=[jfg,jfg],res:=intA,F:=fun p=>some (Lib.compareBytes p.1 p.2) }
def qhs (a b:List UInt8):Option Int:=some (Lib.compareBytes a b)
theorem jfk:q0f Inv Tryz.prog qw1:=fun G hG=>⟨⟨by kernel_rfl,fun a r h=>by
 obtain ⟨s,t⟩:=a
 have hr:Lib.compareBytes s t=r:=Option.some.inj h
 intro Pc w vs hg hlt hv
 obtain ⟨l⟩:=vs
 match l,hv with
 | [x,y],⟨h1,h2,_⟩ =>
  obtain rfl:x = .string (ba s):=q07 h1
  obtain rfl:y = .string (ba t):=q07 h2
  have e1:(ba s).data.toList=s:=by simp [ba]
  have e2:(ba t).data.toList=t:=by simp [ba]
  have hh:=Any.strings_Compare Tryz.laysCompare (ba s) (ba t) w
  rw [e1,e2,hr] at hh
  refine hh.mono ?_
  rintro e w' ⟨rfl,rfl⟩
  exact qff rfl (Below.refl _ _) (q06 _)⟩,rfl⟩
theorem jyl:Tryz.laysSplit_ren.g 1=Tryz.laysIndex_ren.g 1:=by kernel_rfl
def qev (s sep:List UInt8):Option (List (List UInt8)):=match sep with
 | [c]=>if s.length<4294967281 then some (spl c [] s) else none
 | _=>none
def jcm:FC:={ f:=130,args:=[jfg,jfg],res:=.one (.c (.d (.lst .str))),F:=fun p=>qev p.1 p.2 }
theorem jqm:q0f Inv Tryz.prog jcm:=fun G hG=>⟨⟨by kernel_rfl,fun a r h=>by
 obtain ⟨s,sep⟩:=a
 have h':qev s sep=some r:=h
 unfold qev at h'
 split at h'
 case h_2=>cases h'
 rename_i c
 split at h'
 case isFalse=>cases h'
 rename_i hc
 have hr:(Lib.splitB (ba [c]) 0 (Lib.countB (ba s) (ba [c])) (ba s)).map unB=r:=(jhs c s).trans (Option.some.inj h')
 intro Pc w vs hg hlt hv
 obtain ⟨m,hm⟩:=(hG.im w hg).maxLen
 obtain ⟨l⟩:=vs
 match l,hv with
 | [x,y],⟨h1,h2,_⟩ =>
  obtain rfl:x = .string (ba s):=q07 h1
  obtain rfl:y = .string (ba [c]):=q07 h2
  have b1:1≤(ba [c]).size:=by rw [q3h];exact Nat.le_refl _
  have hlen:(Lib.splitB (ba [c]) 0 (Lib.countB (ba s) (ba [c])) (ba s)).length=Lib.countB (ba s) (ba [c])+1:=Lib.splitB_all (ba [c]) b1 0 _ (ba s) rfl
  refine (Any.strings_Split { Tryz.laysSplit with } Tryz.laysSplit.i9 (ba s) (ba [c]) m w (by rw [q3h];exact hc) (by rw [jyl];exact hm) b1).mono ?_
  rintro e w' ⟨rfl,rfl⟩
  generalize hL:Lib.splitB (ba [c]) 0 (Lib.countB (ba s) (ba [c])) (ba s)=L at hlen hr
  refine ⟨_,fun b o=>Pc b o∨b=w.heap.size,rfl,(Below.refl _ _).alloc (Nat.le_refl _) _,fun b o hp=>Or.inl hp,?_,?_⟩
  ·rintro b o (hp|rfl)
   ·exact Or.inl hp
   ·exact Or.inr ⟨Nat.le_refl _,by simp⟩
  ·show DatRep _ _ _ (.lst 1 (r.map (q03 .str)))
   have hr2:r.map (q03 .str)=L.map fun x=>[Dat.v (.string x)]:=by
    rw [← hr,List.map_map]
    exact List.map_congr_left fun x _=>by show [Dat.v (.string (ba (unB x)))]=_;rw [jkt]
   rw [hr2,← hlen]
   have hmax:L.length≤maxLen:=by
    have:=Lib.countB_le (ba [c]) b1 (ba s).size (ba s) (Nat.le_refl _)
    rw [q3h] at this
    have hM:maxLen=9223372036854775807:=by decide
    omega
   refine .lst _ _ _ 1 _ w.heap.size 0 (fun k j=>.string (L.getD k ⟨#[]⟩)) (by simp) (Nat.le_refl _) hmax (fun x hx=>?_) (fun _=>rfl) (fun k j hk hj=>⟨Or.inr rfl,?_,rfl⟩) (fun k j hk hj=>?_)
   ·obtain ⟨y,_,rfl⟩:=List.mem_map.1 hx;rfl
   ·have hk':k<L.length:=by simpa using hk
    have hj0:j=0:=by omega
    subst hj0
    rw [World.cell?_alloc_new]
    simp [List.getD,hk']
   ·have hk':k<L.length:=by simpa using hk
    have hj0:j=0:=by simp at hj;exact hj
    subst hj0
    simp [List.getD,hk']
    exact .v _⟩,rfl⟩
end YtggoebaobojmjaaGreatDoor.AM
end Go.Proofs
namespace Go.Proofs.YtggoebaobojmjaaGreatDoor.AM
open Go.RowKit
set_option linter.unusedVariables false
set_option maxRecDepth 20000
def qrz (n:Nat):List LC:=[]
def q4m (n:Nat) (a1:Int):Option (Bool) :=
 (bif decide ((48:Int)≤a1) then some (decide (a1≤(57:Int))) else some false)
def q67 (n:Nat):FC:={ f:=154,args:=[.one (.c (.d (.int .u8)))],res:=.one (.c (.d .bool)),F:=fun p=>q4m n p }
def qxl (n:Nat):List FC:=[]
theorem j3a (n:Nat) {G:World→Prop} (hG:Know Inv G) : ∀ c∈qxl n,q0z Tryz.prog G c∧q0a c.args=true:=(fun _ h=>by cases h)
def qvf:q09:=[]
theorem jhx:drB qvf (q00 Tryz.f154)=true:=by kernel_rfl
theorem jic (n:Nat) : ∀ a,(q67 n).F a=main Tryz.prog 9 (qxl n) (qrz n) qvf (q00 Tryz.f154) [.tmp 2] (q67 n).args (q67 n).res a:=by intro a;kernel_rfl
theorem qw7 (n:Nat):q0f Inv Tryz.prog (q67 n):=fun G hG=>⟨⟨by kernel_rfl,fun a r h=>q05 (c:=q00 Tryz.f154) Tryz.func154 (by kernel_rfl) (by kernel_rfl) (Nat.le_of_ble_eq_true (by kernel_rfl)) hG.st (by kernel_rfl) (rs:=[.tmp 2]) (by kernel_rfl) (j3a n hG) (lts:=qrz n) (fun F hF hFG=>have hK:Know Inv F.G:=hFG ▸ hG;(q02 fun j L h1 h2 h3=>absurd h2 (Nat.not_lt.2 (Nat.le_trans (by decide +kernel) h1)))) jhx ((jic n a).symm.trans h)⟩,rfl⟩
def qxw (n:Nat):List LC:=[]
def qoc (n:Nat) (a1:Int):Option (Bool) :=
 (bif decide ((97:Int)≤a1) then (bif decide (a1≤(122:Int)) then some true else (bif decide ((65:Int)≤a1) then (bif decide (a1≤(90:Int)) then some true else (q4m n a1).bind fun (r1:Bool)=>(bif r1 then some true else some (decide (a1=(45:Int))))) else (q4m n a1).bind fun (r2:Bool)=>(bif r2 then some true else some (decide (a1=(45:Int)))))) else (bif decide ((65:Int)≤a1) then (bif decide (a1≤(90:Int)) then some true else (q4m n a1).bind fun (r3:Bool)=>(bif r3 then some true else some (decide (a1=(45:Int))))) else (q4m n a1).bind fun (r4:Bool)=>(bif r4 then some true else some (decide (a1=(45:Int))))))
def qck (n:Nat):FC:={ f:=134,args:=[.one (.c (.d (.int .u8)))],res:=.one (.c (.d .bool)),F:=fun p=>qoc n p }
def j54 (n:Nat):List FC:=[q67 n]
theorem j98 (n:Nat) {G:World→Prop} (hG:Know Inv G) : ∀ c∈j54 n,q0z Tryz.prog G c∧q0a c.args=true:=List.forall_mem_cons.2 ⟨qw7 n G hG,(fun _ h=>by cases h)⟩
def j2a:q09:=[]
theorem jl0:drB j2a (q00 Tryz.f134)=true:=by kernel_rfl
theorem jjs (n:Nat) : ∀ a,(qck n).F a=main Tryz.prog 25 (j54 n) (qxw n) j2a (q00 Tryz.f134) [.tmp 2] (qck n).args (qck n).res a:=by intro a;kernel_rfl
theorem jmi (n:Nat):q0f Inv Tryz.prog (qck n):=fun G hG=>⟨⟨by kernel_rfl,fun a r h=>q05 (c:=q00 Tryz.f134) Tryz.func134 (by kernel_rfl) (by kernel_rfl) (Nat.le_of_ble_eq_true (by kernel_rfl)) hG.st (by kernel_rfl) (rs:=[.tmp 2]) (by kernel_rfl) (j98 n hG) (lts:=qxw n) (fun F hF hFG=>have hK:Know Inv F.G:=hFG ▸ hG;(q02 fun j L h1 h2 h3=>absurd h2 (Nat.not_lt.2 (Nat.le_trans (by decide +kernel) h1)))) jl0 ((jjs n a).symm.trans h)⟩,rfl⟩
@[reducible] def qcq:SSt:=⟨[(0,.one (.c (.d .str))),(1,.one (.c (.fn 134 []))),(7,.one (.c (.d (.int .i64)))),(8,.one (.c (.d (.int .i64))))],[],[]⟩
@[reducible] def q7s:List (Exit×SSt):=[(.ret,⟨[(4,.one (.c (.d .bool)))],[],[]⟩),(.exit 0,⟨[(0,.one (.c (.d .str)))],[],[]⟩)]
def qqp (n:Nat) (rec:(List UInt8)→Int→Int→Option (((Bool×(Unit))×(Unit)×(Unit))⊕(((List UInt8)×(Unit))×(Unit)×(Unit)))) (a1:List UInt8) (a2:Int) (a3:Int):Option (((Bool×(Unit))×(Unit)×(Unit))⊕(((List UInt8)×(Unit))×(Unit)×(Unit))) :=
 (bif decide (a3<a2) then (sAt a1 a3).bind fun (c1:Int)=>(qoc n c1).bind fun (r2:Bool)=>(bif !r2 then some (Sum.inl ((false,()),((),()))) else q0d (IntKind.wrap .i64 (a3+(1:Int))) fun (n3:Int)=>rec a1 a2 n3) else some (Sum.inr (((a1,()),((),())))))
def qqx (n:Nat) (rec:pSt qcq→Option (q0b q7s)) (p:pSt qcq):Option (q0b q7s):=qqp n (fun a1 a2 a3=>rec ((a1,((),(a2,(a3,())))),((),()))) p.1.1 p.1.2.2.1 p.1.2.2.2.1
def q81 (n m:Nat) (a1:List UInt8) (a2:Int) (a3:Int):Option (((Bool×(Unit))×(Unit)×(Unit))⊕(((List UInt8)×(Unit))×(Unit)×(Unit))):=q0c (qqx n) m ((a1,((),(a2,(a3,())))),((),()))
theorem qlb (n m:Nat) (a1:List UInt8) (a2:Int) (a3:Int):q81 n (m+1) a1 a2 a3=qqp n (fun a1 a2 a3=>q81 n m a1 a2 a3) a1 a2 a3:=rfl
def j4r (n:Nat):LC:={ sh:=qcq,outs:=q7s,F:=q0c (qqx n) n }
def ql9 (n:Nat):List LC:=[j4r n]
def qo9 (n:Nat) (a1:List UInt8) (a2:Unit):Option (Bool) :=
 (q81 n n a1 ((List.length a1:Nat):Int) (0:Int)).bind fun (o4:((Bool×(Unit))×(Unit)×(Unit))⊕(((List UInt8)×(Unit))×(Unit)×(Unit)))=>Sum.elim (fun (q5:(Bool×(Unit))×(Unit)×(Unit))=>some q5.1.1) (fun (q6:((List UInt8)×(Unit))×(Unit)×(Unit))=>some (!decide (q6.1.1=([]:List UInt8)))) o4
def qbb (n:Nat):FC:={ f:=133,args:=[.one (.c (.d .str)),.one (.c (.fn 134 []))],res:=.one (.c (.d .bool)),F:=fun p=>qo9 n p.1 p.2 }
def qpm (n:Nat):List FC:=[qck n]
theorem qtg (n:Nat) {G:World→Prop} (hG:Know Inv G) : ∀ c∈qpm n,q0z Tryz.prog G c∧q0a c.args=true:=List.forall_mem_cons.2 ⟨jmi n G hG,(fun _ h=>by cases h)⟩
def qsz:q09:=[]
theorem j6o:drB qsz (q00 Tryz.f133)=true:=by kernel_rfl
theorem jiw (n:Nat) : ∀ rec p,qqx n rec p=round Tryz.prog 20 (qpm n) (ql9 n) qsz 1 qcq q7s (q01 0 0 (q00 Tryz.f133)) rec p:=by intro rec p;kernel_rfl
theorem ja0 (n:Nat) {F:Fr} (hF:F.n=20) (hK:Know Inv F.G):q57 Tryz.prog F (j4r n) (q01 0 0 (q00 Tryz.f133)) :=
 q0e hF (by kernel_rfl) (qtg n hK) (jiw n) (fuel:=n) (fun _=>rfl) (q02 fun j L h1 h2 h3=>absurd h2 (Nat.not_lt.2 (Nat.le_trans (by decide +kernel) h1))) (q0j j6o)
theorem jju (n:Nat) : ∀ a,(qbb n).F a=main Tryz.prog 20 (qpm n) (ql9 n) qsz (q00 Tryz.f133) [.tmp 4] (qbb n).args (qbb n).res a:=by intro a;kernel_rfl
theorem jk9 (n:Nat):q0f Inv Tryz.prog (qbb n):=fun G hG=>⟨⟨by kernel_rfl,fun a r h=>q05 (c:=q00 Tryz.f133) Tryz.func133 (by kernel_rfl) (by kernel_rfl) (Nat.le_of_ble_eq_true (by kernel_rfl)) hG.st (by kernel_rfl) (rs:=[.tmp 4]) (by kernel_rfl) (qtg n hG) (lts:=ql9 n) (fun F hF hFG=>have hK:Know Inv F.G:=hFG ▸ hG;(q02 (c:=(q00 Tryz.f133)) (fun j L h1 h2 h3=>by
  have h2':j<1:=Nat.lt_of_lt_of_le h2 (by decide +kernel)
  match j,h1,h2',h3 with
  | 0,_,_,h3=>obtain rfl:=Option.some.inj h3;exact (show q01 0 0 (q00 Tryz.f133)=q01 0 0 (q00 Tryz.f133) by kernel_rfl) ▸ ja0 n hF hK
  | j+1,_,h2',_=>exact absurd h2' (by omega)))) j6o ((jju n a).symm.trans h)⟩,rfl⟩
@[reducible] def qdi:SSt:=⟨[(0,.one (.c (.d .str))),(1,.one (.c (.fn 154 []))),(7,.one (.c (.d (.int .i64)))),(8,.one (.c (.d (.int .i64))))],[],[]⟩
@[reducible] def q71:List (Exit×SSt):=[(.ret,⟨[(4,.one (.c (.d .bool)))],[],[]⟩),(.exit 0,⟨[(0,.one (.c (.d .str)))],[],[]⟩)]
def qu5 (n:Nat) (rec:(List UInt8)→Int→Int→Option (((Bool×(Unit))×(Unit)×(Unit))⊕(((List UInt8)×(Unit))×(Unit)×(Unit)))) (a1:List UInt8) (a2:Int) (a3:Int):Option (((Bool×(Unit))×(Unit)×(Unit))⊕(((List UInt8)×(Unit))×(Unit)×(Unit))) :=
 (bif decide (a3<a2) then (sAt a1 a3).bind fun (c1:Int)=>(q4m n c1).bind fun (r2:Bool)=>(bif !r2 then some (Sum.inl ((false,()),((),()))) else q0d (IntKind.wrap .i64 (a3+(1:Int))) fun (n3:Int)=>rec a1 a2 n3) else some (Sum.inr (((a1,()),((),())))))
def qqq (n:Nat) (rec:pSt qdi→Option (q0b q71)) (p:pSt qdi):Option (q0b q71):=qu5 n (fun a1 a2 a3=>rec ((a1,((),(a2,(a3,())))),((),()))) p.1.1 p.1.2.2.1 p.1.2.2.2.1
def q7o (n m:Nat) (a1:List UInt8) (a2:Int) (a3:Int):Option (((Bool×(Unit))×(Unit)×(Unit))⊕(((List UInt8)×(Unit))×(Unit)×(Unit))):=q0c (qqq n) m ((a1,((),(a2,(a3,())))),((),()))
theorem qjp (n m:Nat) (a1:List UInt8) (a2:Int) (a3:Int):q7o n (m+1) a1 a2 a3=qu5 n (fun a1 a2 a3=>q7o n m a1 a2 a3) a1 a2 a3:=rfl
def j51 (n:Nat):LC:={ sh:=qdi,outs:=q71,F:=q0c (qqq n) n }
def qk8 (n:Nat):List LC:=[j51 n]
def qol (n:Nat) (a1:List UInt8) (a2:Unit):Option (Bool) :=
 (q7o n n a1 ((List.length a1:Nat):Int) (0:Int)).bind fun (o4:((Bool×(Unit))×(Unit)×(Unit))⊕(((List UInt8)×(Unit))×(Unit)×(Unit)))=>Sum.elim (fun (q5:(Bool×(Unit))×(Unit)×(Unit))=>some q5.1.1) (fun (q6:((List UInt8)×(Unit))×(Unit)×(Unit))=>some (!decide (q6.1.1=([]:List UInt8)))) o4
def qbf (n:Nat):FC:={ f:=133,args:=[.one (.c (.d .str)),.one (.c (.fn 154 []))],res:=.one (.c (.d .bool)),F:=fun p=>qol n p.1 p.2 }
def qta (n:Nat):List FC:=[q67 n]
theorem qt4 (n:Nat) {G:World→Prop} (hG:Know Inv G) : ∀ c∈qta n,q0z Tryz.prog G c∧q0a c.args=true:=List.forall_mem_cons.2 ⟨qw7 n G hG,(fun _ h=>by cases h)⟩
def qrq:q09:=[]
theorem j5v:drB qrq (q00 Tryz.f133)=true:=by kernel_rfl
theorem jgo (n:Nat) : ∀ rec p,qqq n rec p=round Tryz.prog 20 (qta n) (qk8 n) qrq 1 qdi q71 (q01 0 0 (q00 Tryz.f133)) rec p:=by intro rec p;kernel_rfl
theorem jb7 (n:Nat) {F:Fr} (hF:F.n=20) (hK:Know Inv F.G):q57 Tryz.prog F (j51 n) (q01 0 0 (q00 Tryz.f133)) :=
 q0e hF (by kernel_rfl) (qt4 n hK) (jgo n) (fuel:=n) (fun _=>rfl) (q02 fun j L h1 h2 h3=>absurd h2 (Nat.not_lt.2 (Nat.le_trans (by decide +kernel) h1))) (q0j j5v)
theorem jn9 (n:Nat) : ∀ a,(qbf n).F a=main Tryz.prog 20 (qta n) (qk8 n) qrq (q00 Tryz.f133) [.tmp 4] (qbf n).args (qbf n).res a:=by intro a;kernel_rfl
theorem jpz (n:Nat):q0f Inv Tryz.prog (qbf n):=fun G hG=>⟨⟨by kernel_rfl,fun a r h=>q05 (c:=q00 Tryz.f133) Tryz.func133 (by kernel_rfl) (by kernel_rfl) (Nat.le_of_ble_eq_true (by kernel_rfl)) hG.st (by kernel_rfl) (rs:=[.tmp 4]) (by kernel_rfl) (qt4 n hG) (lts:=qk8 n) (fun F hF hFG=>have hK:Know Inv F.G:=hFG ▸ hG;(q02 (c:=(q00 Tryz.f133)) (fun j L h1 h2 h3=>by
  have h2':j<1:=Nat.lt_of_lt_of_le h2 (by decide +kernel)
  match j,h1,h2',h3 with
  | 0,_,_,h3=>obtain rfl:=Option.some.inj h3;exact (show q01 0 0 (q00 Tryz.f133)=q01 0 0 (q00 Tryz.f133) by kernel_rfl) ▸ jb7 n hF hK
  | j+1,_,h2',_=>exact absurd h2' (by omega)))) j5v ((jn9 n a).symm.trans h)⟩,rfl⟩
def qwi (n:Nat):List LC:=[]
def qop (n:Nat) (a1:List UInt8):Option (Bool) :=
 (qo9 n a1 ()).bind fun (r1:Bool)=>some r1
def qbs (n:Nat):FC:={ f:=103,args:=[.one (.c (.d .str))],res:=.one (.c (.d .bool)),F:=fun p=>qop n p }
def j6i (n:Nat):List FC:=[qbb n]
theorem j8l (n:Nat) {G:World→Prop} (hG:Know Inv G) : ∀ c∈j6i n,q0z Tryz.prog G c∧q0a c.args=true:=List.forall_mem_cons.2 ⟨jk9 n G hG,(fun _ h=>by cases h)⟩
def j4l:q09:=[]
theorem jno:drB j4l (q00 Tryz.f103)=true:=by kernel_rfl
theorem jkk (n:Nat) : ∀ a,(qbs n).F a=main Tryz.prog 5 (j6i n) (qwi n) j4l (q00 Tryz.f103) [.tmp 2] (qbs n).args (qbs n).res a:=by intro a;kernel_rfl
theorem j3r (n:Nat):q0f Inv Tryz.prog (qbs n):=fun G hG=>⟨⟨by kernel_rfl,fun a r h=>q05 (c:=q00 Tryz.f103) Tryz.func103 (by kernel_rfl) (by kernel_rfl) (Nat.le_of_ble_eq_true (by kernel_rfl)) hG.st (by kernel_rfl) (rs:=[.tmp 2]) (by kernel_rfl) (j8l n hG) (lts:=qwi n) (fun F hF hFG=>have hK:Know Inv F.G:=hFG ▸ hG;(q02 fun j L h1 h2 h3=>absurd h2 (Nat.not_lt.2 (Nat.le_trans (by decide +kernel) h1)))) jno ((jkk n a).symm.trans h)⟩,rfl⟩
def qmf (n:Nat):List LC:=[]
def q66 (n:Nat) (a1:List UInt8):Option (Bool) :=
 (qol n a1 ()).bind fun (r1:Bool)=>some r1
def q40 (n:Nat):FC:={ f:=132,args:=[.one (.c (.d .str))],res:=.one (.c (.d .bool)),F:=fun p=>q66 n p }
def qsr (n:Nat):List FC:=[qbf n]
theorem j0a (n:Nat) {G:World→Prop} (hG:Know Inv G) : ∀ c∈qsr n,q0z Tryz.prog G c∧q0a c.args=true:=List.forall_mem_cons.2 ⟨jpz n G hG,(fun _ h=>by cases h)⟩
def qph:q09:=[]
theorem jal:drB qph (q00 Tryz.f132)=true:=by kernel_rfl
theorem j7u (n:Nat) : ∀ a,(q40 n).F a=main Tryz.prog 5 (qsr n) (qmf n) qph (q00 Tryz.f132) [.tmp 2] (q40 n).args (q40 n).res a:=by intro a;kernel_rfl
theorem qst (n:Nat):q0f Inv Tryz.prog (q40 n):=fun G hG=>⟨⟨by kernel_rfl,fun a r h=>q05 (c:=q00 Tryz.f132) Tryz.func132 (by kernel_rfl) (by kernel_rfl) (Nat.le_of_ble_eq_true (by kernel_rfl)) hG.st (by kernel_rfl) (rs:=[.tmp 2]) (by kernel_rfl) (j0a n hG) (lts:=qmf n) (fun F hF hFG=>have hK:Know Inv F.G:=hFG ▸ hG;(q02 fun j L h1 h2 h3=>absurd h2 (Nat.not_lt.2 (Nat.le_trans (by decide +kernel) h1)))) jal ((j7u n a).symm.trans h)⟩,rfl⟩
def qgy (n:Nat):List LC:=[]
def qf0 (n:Nat) (a1:List UInt8):Option (Bool) :=
 (qop n a1).bind fun (r1:Bool)=>(bif r1 then (bif decide (a1=([48]:List UInt8)) then some true else (sAt a1 (0:Int)).bind fun (c2:Int)=>(bif !decide (c2=(48:Int)) then some true else (q66 n a1).bind fun (r3:Bool)=>some (!r3))) else some false)
def q6x (n:Nat):FC:={ f:=102,args:=[.one (.c (.d .str))],res:=.one (.c (.d .bool)),F:=fun p=>qf0 n p }
def qmt (n:Nat):List FC:=[qbs n,q40 n]
theorem qub (n:Nat) {G:World→Prop} (hG:Know Inv G) : ∀ c∈qmt n,q0z Tryz.prog G c∧q0a c.args=true:=List.forall_mem_cons.2 ⟨j3r n G hG,List.forall_mem_cons.2 ⟨qst n G hG,(fun _ h=>by cases h)⟩⟩
def qmb:q09:=[]
theorem j5p:drB qmb (q00 Tryz.f102)=true:=by kernel_rfl
theorem j2z (n:Nat) : ∀ a,(q6x n).F a=main Tryz.prog 19 (qmt n) (qgy n) qmb (q00 Tryz.f102) [.tmp 2] (q6x n).args (q6x n).res a:=by intro a;kernel_rfl
theorem j5b (n:Nat):q0f Inv Tryz.prog (q6x n):=fun G hG=>⟨⟨by kernel_rfl,fun a r h=>q05 (c:=q00 Tryz.f102) Tryz.func102 (by kernel_rfl) (by kernel_rfl) (Nat.le_of_ble_eq_true (by kernel_rfl)) hG.st (by kernel_rfl) (rs:=[.tmp 2]) (by kernel_rfl) (qub n hG) (lts:=qgy n) (fun F hF hFG=>have hK:Know Inv F.G:=hFG ▸ hG;(q02 fun j L h1 h2 h3=>absurd h2 (Nat.not_lt.2 (Nat.le_trans (by decide +kernel) h1)))) j5p ((j2z n a).symm.trans h)⟩,rfl⟩
end Go.Proofs.YtggoebaobojmjaaGreatDoor.AM
namespace Go.Proofs.YtggoebaobojmjaaGreatDoor.AM
open Go.RowKit
set_option linter.unusedVariables false
theorem jpb {β:Type} {l:List β} {j:Nat} (h:j<l.length):nth l j=some l[j]:=by rw [q7k,List.getElem?_eq_getElem h]
theorem q0m {β:Type} {l:List β} {j:Nat} (h:j<l.length):q1a l (j:Int)=some l[j]:=by
 unfold q1a;rw [if_pos (by omega),Int.toNat_natCast,jpb h]
theorem q6e {s:List UInt8} {j:Nat} (h:j<s.length):sAt s (j:Int)=some ((s[j].toNat:Nat):Int):=by
 unfold sAt;rw [q0m h];rfl
theorem sub_le {β:Type} {l:List β} {a b:Nat} (h1:a≤b) (h2:b≤l.length):qv2 l (a:Int) (b:Int)=some ((l.drop a).take (b - a)):=by
 unfold qv2;rw [if_pos ⟨by omega,by omega,by omega⟩,Int.toNat_natCast,Int.toNat_natCast]
theorem sub_zero {β:Type} {l:List β} {b:Nat} (h2:b≤l.length):qv2 l (0:Int) (b:Int)=some (l.take b):=by
 have:=sub_le (l:=l) (a:=0) (b:=b) (Nat.zero_le _) h2
 simpa using this
theorem qce {β:Type} {k:Nat} {xs ys:List β} (h:(xs.length+ys.length)*k≤140737488355328):qxh k xs ys=some (xs++ys):=by
 unfold qxh;rw [if_pos h]
theorem q04 {i:Nat} (h:i<4611686018427387904):IntKind.wrap .i64 ((i:Int)+1)=((i+1:Nat):Int):=by rw [wrap64 (by omega) (by omega)];rfl
end Go.Proofs.YtggoebaobojmjaaGreatDoor.AM
namespace Go.Proofs.YtggoebaobojmjaaGreatDoor.AM
open Go.RowKit
set_option linter.unusedVariables false
set_option linter.unusedSimpArgs false
theorem jd8 (n:Nat) (c:UInt8):q4m n ((c.toNat:Nat):Int)=some (q1n c):=by
 unfold q4m q1n
 have h1:decide ((48:Int)≤((c.toNat:Nat):Int))=decide (48≤c.toNat):=decide_eq_decide.2 (by omega)
 have h2:decide (((c.toNat:Nat):Int)≤(57:Int))=decide (c.toNat≤57):=decide_eq_decide.2 (by omega)
 rw [h1,h2]
 cases decide (48≤c.toNat)<;>cases decide (c.toNat≤57)<;>rfl
theorem jv8 (n:Nat) (c:UInt8):qoc n ((c.toNat:Nat):Int)=some (jiq c):=by
 unfold qoc jiq
 have h1:decide ((97:Int)≤((c.toNat:Nat):Int))=decide (97≤c.toNat):=decide_eq_decide.2 (by omega)
 have h2:decide (((c.toNat:Nat):Int)≤(122:Int))=decide (c.toNat≤122):=decide_eq_decide.2 (by omega)
 have h3:decide ((65:Int)≤((c.toNat:Nat):Int))=decide (65≤c.toNat):=decide_eq_decide.2 (by omega)
 have h4:decide (((c.toNat:Nat):Int)≤(90:Int))=decide (c.toNat≤90):=decide_eq_decide.2 (by omega)
 have h5:decide (((c.toNat:Nat):Int)=(45:Int))=decide (c.toNat=45):=decide_eq_decide.2 (by omega)
 rw [h1,h2,h3,h4,h5,jd8]
 cases decide (97≤c.toNat)<;>cases decide (c.toNat≤122)<;>cases decide (65≤c.toNat)<;>cases decide (c.toNat≤90)<;>cases q1n c<;>rfl
theorem qpa (n:Nat) (s:List UInt8) (hL:s.length≤1000000) : ∀ m j:Nat,j≤s.length→s.length - j<m→q81 n m s ((s.length:Nat):Int) (j:Int)=some (if (s.drop j).all jiq=true then Sum.inr ((s,()),((),())) else Sum.inl ((false,()),((),())))
 | 0,j,_,h=>absurd h (Nat.not_lt_zero _)
 | m+1,j,hj,h=>by
  rw [qlb]
  unfold qqp
  by_cases c0:j<s.length
  ·have c0':((j:Nat):Int)<((s.length:Nat):Int):=by omega
   have ih:=qpa n s hL m (j+1) (by omega) (by omega)
   have hd:s.drop j=s[j]::s.drop (j+1):=(List.drop_eq_getElem_cons c0)
   simp only [c0',decide_true,cond_true,q6e c0,Option.bind_some,jv8,q0d,q04 (show j<4611686018427387904 by omega),ih,hd,List.all_cons]
   cases jiq s[j]<;>simp
  ·have c0' : ¬ ((j:Nat):Int)<((s.length:Nat):Int):=by omega
   have:s.drop j = []:=List.drop_eq_nil_of_le (by omega)
   simp [c0',this]
theorem j8n (n:Nat) (s:List UInt8) (hL:s.length≤1000000) (hn:s.length<n):qo9 n s ()=some (s.all jiq && !decide (s = [])):=by
 unfold qo9
 have:=qpa n s hL n 0 (Nat.zero_le _) (by omega)
 rw [show ((0:Nat):Int)=(0:Int) from rfl] at this
 rw [this,List.drop_zero]
 cases s.all jiq<;>rfl
theorem qq5 (n:Nat) (s:List UInt8) (hL:s.length≤1000000) : ∀ m j:Nat,j≤s.length→s.length - j<m→q7o n m s ((s.length:Nat):Int) (j:Int)=some (if (s.drop j).all q1n=true then Sum.inr ((s,()),((),())) else Sum.inl ((false,()),((),())))
 | 0,j,_,h=>absurd h (Nat.not_lt_zero _)
 | m+1,j,hj,h=>by
  rw [qjp]
  unfold qu5
  by_cases c0:j<s.length
  ·have c0':((j:Nat):Int)<((s.length:Nat):Int):=by omega
   have ih:=qq5 n s hL m (j+1) (by omega) (by omega)
   have hd:s.drop j=s[j]::s.drop (j+1):=(List.drop_eq_getElem_cons c0)
   simp only [c0',decide_true,cond_true,q6e c0,Option.bind_some,jd8,q0d,q04 (show j<4611686018427387904 by omega),ih,hd,List.all_cons]
   cases q1n s[j]<;>simp
  ·have c0' : ¬ ((j:Nat):Int)<((s.length:Nat):Int):=by omega
   have:s.drop j = []:=List.drop_eq_nil_of_le (by omega)
   simp [c0',this]
theorem ja7 (n:Nat) (s:List UInt8) (hL:s.length≤1000000) (hn:s.length<n):qol n s ()=some (s.all q1n && !decide (s = [])):=by
 unfold qol
 have:=qq5 n s hL n 0 (Nat.zero_le _) (by omega)
 rw [show ((0:Nat):Int)=(0:Int) from rfl] at this
 rw [this,List.drop_zero]
 cases s.all q1n<;>rfl
theorem qt5 (n:Nat) (s:List UInt8) (hL:s.length≤1000000) (hn:s.length<n):qop n s=some (q2d s):=by
 unfold qop;rw [j8n n s hL hn];rfl
theorem qa0 (n:Nat) (s:List UInt8) (hL:s.length≤1000000) (hn:s.length<n):q66 n s=some (q2y s):=by
 unfold q66;rw [ja7 n s hL hn];rfl
theorem jiu (n:Nat) (s:List UInt8) (hL:s.length≤1000000) (hn:s.length<n):qf0 n s=some (q5d s):=by
 unfold qf0 q5d
 rw [qt5 n s hL hn,qa0 n s hL hn]
 simp only [Option.bind_some]
 cases hp:q2d s with
 | false=>rfl
 | true =>
  cases s with
  | nil=>simp [q2d] at hp
  | cons c r =>
   have h0:sAt (c::r) (0:Int)=some ((c.toNat:Nat):Int):=q6e (s:=c::r) (j:=0) (by simp)
   have h1:decide (((c.toNat:Nat):Int)=(48:Int))=decide ((c::r).head? = some 48):=decide_eq_decide.2 (by
    simp only [List.head?_cons,Option.some.injEq]
    constructor
    ·intro h;exact UInt8.toNat_inj.1 (by have e48:(48:UInt8).toNat=48:=rfl;rw [e48];omega)
    ·rintro rfl;rfl)
   simp only [cond_true,h0,Option.bind_some,h1,Bool.true_and]
   cases decide (c::r = [48])<;>cases decide ((c::r).head? = some 48)<;>cases q2y (c::r)<;>rfl
end Go.Proofs.YtggoebaobojmjaaGreatDoor.AM
namespace Go.Proofs
open Go.RowKit Go.Shelf Go.Lib
attribute [local go_sem] Oper.semAt_some
set_option linter.unusedVariables false
set_option linter.unusedSimpArgs false
namespace YtggoebaobojmjaaGreatDoor.AM
theorem q2j {P:Program} {fn:Func} {p:Tmp} {ty:TypeId} {b:Nat} {v:Value} {tmps:Array Value} {w:World} (h:fn.results = #[.cell p ty]) (hp:tmps.getD p undef = .pointer (some ⟨b,0,none⟩)) (ha:qom P ty=some false)
  (hc:w.cell? ⟨b,0,none⟩=some v):(results fn tmps).run P w = .ok v w:=by
 have hp':tmps[p]?.getD undef = .pointer (some ⟨b,0,none⟩):=by simpa using hp
 simp only [results,h]
 simp [Sem.run_bind,hp',asAddr,loadVar,q1e ha w,go_sem,hc]
theorem q1z {W W':World} {a:Addr} {v:Value} (hb:Below W.heap.size W W') (h:W.cell? a=some v):W'.cell? a=some v:=by
 obtain ⟨o,ho,hc⟩:=cells_of_cell h
 exact (World.cell?_of_block ((hb.block _ (Array.getElem?_eq_some_iff.1 ho).1).trans ho |>.trans ho.symm)).trans h
theorem q37 {W W':World} {a:Addr} {v:Value} (hb:Below W.heap.size W W') (h:W.cell? a=some v):W'.frozen? a=W.frozen? a:=by
 obtain ⟨o,ho,hc⟩:=cells_of_cell h
 exact World.frozen?_of_block ((hb.block _ (Array.getElem?_eq_some_iff.1 ho).1).trans ho |>.trans ho.symm)
theorem q1r {W W':World} (hb:Below W.heap.size W W'):KeepsOthers W W':=⟨hb.size,fun k o h _=>(hb.block k (Array.getElem?_eq_some_iff.1 h).1).trans h⟩
theorem qcr {pS:Nat} {r:List UInt8} {W W':World} (h:Left pS r W) (hb:Below W.heap.size W W'):Left pS r W':=⟨q1z hb h.1,(q37 hb h.1).trans h.2⟩
theorem q0r {w:World} {b:Nat} {v:Value} {t:TypeId} (h:w.heap[b]? = some (.cells #[v] t (0,0))):w.cell? ⟨b,0,none⟩=some v∧w.frozen? ⟨b,0,none⟩=false:=by
 constructor
 ·simp [World.cell?,h]
 ·simp [World.frozen?,h]
theorem five (w:World) (o0 o1 o2 o3 o4:Obj) : ∃ W,(((((w.alloc o0).alloc o1).alloc o2).alloc o3).alloc o4)=W∧W.heap.size=w.heap.size+5∧Below w.heap.size w W∧W.heap[w.heap.size]? = some o0∧W.heap[w.heap.size+1]? = some o1∧W.heap[w.heap.size+1+1]? = some o2∧W.heap[w.heap.size+1+1+1]? = some o3∧W.heap[w.heap.size+1+1+2]? = some o4:=by
 have al : ∀ (w:World) (o:Obj) (k:Nat),k<w.heap.size→(w.alloc o).heap[k]? = w.heap[k]?:=fun w o k h=>Below.heap_alloc _ _ _ h
 refine ⟨_,rfl,by simp,(((((Below.refl _ w).alloc (Nat.le_refl _) _).alloc (by simp) _).alloc (by simp;omega) _).alloc (by simp;omega) _).alloc (by simp;omega) _,?_,?_,?_,?_,?_⟩
 ·rw [al _ _ _ (by simp<;>omega),al _ _ _ (by simp<;>omega),al _ _ _ (by simp<;>omega),al _ _ _ (by simp),World.alloc_heap_new]
 ·rw [al _ _ _ (by simp<;>omega),al _ _ _ (by simp<;>omega),al _ _ _ (by simp)]
  have:=World.alloc_heap_new (w.alloc o0) o1
  rw [World.size_alloc] at this;exact this
 ·rw [al _ _ _ (by simp<;>omega),al _ _ _ (by simp)]
  have:=World.alloc_heap_new ((w.alloc o0).alloc o1) o2
  rw [World.size_alloc,World.size_alloc] at this;exact this
 ·rw [al _ _ _ (by simp)]
  have:=World.alloc_heap_new (((w.alloc o0).alloc o1).alloc o2) o3
  rw [World.size_alloc,World.size_alloc,World.size_alloc] at this;exact this
 ·have:=World.alloc_heap_new ((((w.alloc o0).alloc o1).alloc o2).alloc o3) o4
  rw [World.size_alloc,World.size_alloc,World.size_alloc,World.size_alloc] at this;exact this
theorem hag:qom Tryz.prog 4=some false:=by kernel_rfl
structure Rng (fv:Value) (pF pR:Nat) (pP pC:Nat) (c:UInt8) (w0:World) (pred:List UInt8→Bool) (pre:List (List UInt8)) (W:World):Prop where
 fn:W.cell? ⟨pF,0,none⟩=some fv
 res:W.cell? ⟨pR,0,none⟩=some (.bool false)
 frz:W.frozen? ⟨pR,0,none⟩=false
 cP:W.cell? ⟨pP,0,none⟩=some (.string (ba [c]))
 cC:W.cell? ⟨pC,0,none⟩=some (.int .i64 0)
 below:Below w0.heap.size w0 W
 all:pre.all pred=true
structure RngX (pR:Nat) (w0:World) (pred:List UInt8→Bool) (pre:List (List UInt8)) (W:World):Prop where
 res:W.cell? ⟨pR,0,none⟩=some (.bool false)
 below:Below w0.heap.size w0 W
 no:pre.all pred=false
theorem qyo {fv:Value} {pF pR pP pC:Nat} {c:UInt8} {w0:World} {pred:List UInt8→Bool} {B:Nat} (hB:w0.heap.size≤B):OwnFrom B (Rng fv pF pR pP pC c w0 pred):=fun s W W' row h hg hr =>
 ⟨qaz h.fn hg hr,qaz h.res hg hr,(frozen_kept h.res hg (fun r e=>(hr r e).2)).trans h.frz,qaz h.cP hg hr,qaz h.cC hg hr,h.below.grown hg h.below.size (fun k e=>Nat.le_trans hB (hr k e).1),h.all⟩
theorem j0c {pR:Nat} {w0:World} {pred:List UInt8→Bool} {B:Nat} (hB:w0.heap.size≤B):OwnFrom B (RngX pR w0 pred):=fun s W W' row h hg hr =>
 ⟨qaz h.res hg hr,h.below.grown hg h.below.size (fun k e=>Nat.le_trans hB (hr k e).1),h.no⟩
theorem qi7 {fv:Value} {pF pR pP pC:Nat} {c:UInt8} {w0:World} {pred:List UInt8→Bool} {pre:List (List UInt8)} {x:List UInt8} {W W':World} (h:Rng fv pF pR pP pC c w0 pred pre W) (hb:Below W.heap.size W W') (hx:pred x=true):Rng fv pF pR pP pC c w0 pred (pre ++ [x]) W' :=
 ⟨q1z hb h.fn,q1z hb h.res,(q37 hb h.res).trans h.frz,q1z hb h.cP,q1z hb h.cC,h.below.trans (hb.mono h.below.size),by rw [List.all_append,h.all];simp [hx]⟩
theorem qyx {fv:Value} {pF pR pP pC:Nat} {c:UInt8} {w0:World} {pred:List UInt8→Bool} {pre:List (List UInt8)} {W:World} {q:Nat} (v:Value) (h:Rng fv pF pR pP pC c w0 pred pre W) (h0:w0.heap.size≤q) (h1:q≠pF) (h2:q≠pR) (h3:q≠pP) (h4:q≠pC):Rng fv pF pR pP pC c w0 pred pre (W.setCell ⟨q,0,none⟩ v):=by
 have ne : ∀ p:Nat,q≠p→(W.setCell ⟨q,0,none⟩ v).cell? ⟨p,0,none⟩=W.cell? ⟨p,0,none⟩:=fun p hp=>World.cell?_setCell_other _ _ _ _ (by intro e;exact hp (by injection e with e))
 exact ⟨(ne _ h1).trans h.fn,(ne _ h2).trans h.res,by rw [World.frozen?_setCell];exact h.frz,(ne _ h3).trans h.cP,(ne _ h4).trans h.cC,h.below.setCell (by simpa using h0) _,h.all⟩
theorem four (w:World) (o0 o1 o2 o3:Obj) : ∃ W,((((w.alloc o0).alloc o1).alloc o2).alloc o3)=W∧W.heap.size=w.heap.size+4∧Below w.heap.size w W∧W.heap[w.heap.size]? = some o0∧W.heap[w.heap.size+1]? = some o1∧W.heap[w.heap.size+1+1]? = some o2∧W.heap[w.heap.size+1+2]? = some o3:=by
 have al : ∀ (w:World) (o:Obj) (k:Nat),k<w.heap.size→(w.alloc o).heap[k]? = w.heap[k]?:=fun w o k h=>Below.heap_alloc _ _ _ h
 refine ⟨_,rfl,by simp,((((Below.refl _ w).alloc (Nat.le_refl _) _).alloc (by simp) _).alloc (by simp;omega) _).alloc (by simp;omega) _,?_,?_,?_,?_⟩
 ·rw [al _ _ _ (by simp<;>omega),al _ _ _ (by simp<;>omega),al _ _ _ (by simp),World.alloc_heap_new]
 ·rw [al _ _ _ (by simp<;>omega),al _ _ _ (by simp)]
  have:=World.alloc_heap_new (w.alloc o0) o1
  rw [World.size_alloc] at this;exact this
 ·rw [al _ _ _ (by simp)]
  have:=World.alloc_heap_new ((w.alloc o0).alloc o1) o2
  rw [World.size_alloc,World.size_alloc] at this;exact this
 ·have:=World.alloc_heap_new (((w.alloc o0).alloc o1).alloc o2) o3
  rw [World.size_alloc,World.size_alloc,World.size_alloc] at this;exact this
structure RngY (pR:Nat) (w0:World) (pred:List UInt8→Bool) (pre:List (List UInt8)) (W:World):Prop where
 res:W.cell? ⟨pR,0,none⟩=some (.bool true)
 below:Below w0.heap.size w0 W
 no:pre.all pred=false
theorem jtm {pR:Nat} {w0:World} {pred:List UInt8→Bool} {B:Nat} (hB:w0.heap.size≤B):OwnFrom B (RngY pR w0 pred):=fun s W W' row h hg hr =>
 ⟨qaz h.res hg hr,h.below.grown hg h.below.size (fun k e=>Nat.le_trans hB (hr k e).1),h.no⟩
theorem jd1 {pred:List UInt8→Bool} {s x:List UInt8} {pre t:List (List UInt8)} (hsp:spl 47 [] s=pre++x::t) (hn:(pre ++ [x]).all pred=false):(spl 47 [] s).all pred=false:=by
 rw [List.all_append,Bool.and_eq_false_iff] at hn
 rw [hsp,List.all_append,Bool.and_eq_false_iff]
 rcases hn with hn|hn
 ·exact Or.inl hn
 ·refine Or.inr ?_
  simp only [List.all_cons,List.all_nil,Bool.and_true] at hn
  rw [List.all_cons,hn];rfl
end YtggoebaobojmjaaGreatDoor.AM
end Go.Proofs
