
import Derived.Test.YtggoebaobojmjaaGreatDoorBq8
import Derived.Lib.ItoaNum
import Derived.Lib.AtoiAll
import Derived.Shelf.LaysC
import Derived.Shelf.Strconv.Itoa3
import Derived.Shelf.Strconv.AtoiAll
import Derived.Shelf.Small.Strs
import Derived.Shelf.Strings.SplitShaped
import Derived.Lib.LaidTab
import Derived.Lib.AppendIntMem
import Derived.Stop.LaidErr
import Derived.WalkSmall
namespace Go.Proofs.YtggoebaobojmjaaGreatDoor.AM
open Go.RowKit
set_option linter.unusedVariables false
set_option linter.unusedSimpArgs false
abbrev VD:=Int×(Int×(Int×(List UInt8×List UInt8)))
abbrev v0:VD:=(0,(0,(0,([],[]))))
def q1v (c:UInt8):Bool:=decide (48≤c.toNat)&&decide (c.toNat≤57)
def jsf (c:UInt8):Bool:=(decide (97≤c.toNat)&&decide (c.toNat≤122))||(decide (65≤c.toNat)&&decide (c.toNat≤90))||q1v c||decide (c.toNat=45)
def q3h (s:List UInt8):Bool:=s.all q1v && !decide (s = [])
def q2l (s:List UInt8):Bool:=s.all jsf && !decide (s = [])
def q6q (s:List UInt8):Bool:=q2l s&&(decide (s = [48]) || !decide (s.head? = some 48) || !q3h s)
def q8s (p:List UInt8→Bool) (s:List UInt8):Bool:=decide (s = [])||(decide (s.length≤30)&&(spl 46 [] s).all p)
def jfq (n:Int):Bool:=decide (0≤n)&&decide (n≤999999999)
def q0y (v:VD):Bool:=jfq v.1&&jfq v.2.1&&jfq v.2.2.1&&q8s q6q v.2.2.2.1&&q8s q2l v.2.2.2.2
def k4q (w:List UInt8):Int×(Int×List UInt8):=if q3h w then (0,(w.length,w)) else (1,(0,w))
def jta (x y:List UInt8):Int:=qld q6d (qld q6d (cmpL jvm)) (k4q x) (k4q y)
def jt0 (p:List UInt8):Int×List (List UInt8):=(if p = [] then 1 else 0,spl 46 [] p)
def qbh (a b:List UInt8):Int:=qld q6d (cmpL jta) (jt0 a) (jt0 b)
def core (v:VD):Int×(Int×(Int×List UInt8)):=(v.1,(v.2.1,(v.2.2.1,v.2.2.2.1)))
def k8a (x y:Int×(Int×(Int×List UInt8))):Int:=qld q6d (qld q6d (qld q6d qbh)) x y
def qsv (v w:VD):Int:=if q0y v&&q0y w then k8a (core v) (core w) else 0
theorem k2u (x y:List UInt8) (h:k4q x=k4q y):x=y:=by
 unfold k4q at h
 split at h<;>split at h<;>simp at h<;>first|exact h.2|exact h
theorem k0m:Cmp jta:=(j6b q9j (j6b q9j (qnw qvp))).key k4q k2u
def k35 (c:UInt8):List (List UInt8)→List UInt8
 | []=>[]
 | [x]=>x
 | x::y::t=>x++c::k35 c (y::t)
theorem k44 (c:UInt8) (l cur:List UInt8):spl c cur l ≠ []:=fun h=>by have:=(q89 c l cur).1;rw [h] at this;simp at this
theorem qmx (c:UInt8) : ∀ (l cur:List UInt8),k35 c (spl c cur l)=cur++l
 | [],cur=>by simp [spl,k35]
 | b::l,cur=>by
  rw [spl]
  split
  ·rename_i h;subst h
   have ih:=qmx b l []
   cases hs:spl b [] l with
   | nil=>exact absurd hs (k44 b l [])
   | cons y t=>rw [hs] at ih;rw [k35,ih];simp
  ·rw [qmx c l];simp
theorem k7i (c:UInt8) (x y:List UInt8) (h:spl c [] x=spl c [] y):x=y:=by
 have h1:=qmx c x []
 have h2:=qmx c y []
 rw [h] at h1
 simpa using h1.symm.trans h2
theorem k2m (x y:List UInt8) (h:jt0 x=jt0 y):x=y:=k7i 46 x y (congrArg Prod.snd h)
theorem j55:Cmp qbh:=(j6b q9j (qnw k0m)).key jt0 k2m
theorem qxz {d:Nat} (h:d<10):q1v (UInt8.ofNat (48+d))=true:=by
 unfold q1v
 have:(UInt8.ofNat (48+d)).toNat=48+d:=by rw [UInt8.toNat_ofNat'];omega
 rw [this];simp;omega
theorem jxt (n:Nat):(Lib.decDigits n).all q1v=true∧Lib.decDigits n ≠ []:=by
 induction n using Nat.strongRecOn with
 | _ n ih =>
  rw [Lib.decDigits]
  split
  ·rename_i h;exact ⟨by rw [List.all_cons,qxz h];rfl,by simp⟩
  ·rename_i h
   have:=ih (n / 10) (by omega)
   exact ⟨by rw [List.all_append,this.1,List.all_cons,qxz (show n % 10<10 by omega)];rfl,by simp⟩
theorem juj : ∀ (k n:Nat),n<10 ^ (k+1)→(Lib.decDigits n).length≤k+1
 | 0,n,h=>by rw [Lib.decDigits,dif_pos (by omega)];simp
 | k+1,n,h=>by
  rw [Lib.decDigits]
  split
  ·simp
  ·have:=juj k (n / 10) (by rw [Nat.pow_succ] at h;omega)
   simp;omega
theorem jd5 : ∀ (l r:List UInt8) (a:Nat) (u:Nat),Lib.parseUint10 a l = .ok u→Lib.parseUint10 a (l++r)=Lib.parseUint10 u r
 | [],r,a,u,h=>by simp only [Lib.parseUint10] at h;injection h with h;subst h;rfl
 | c::l,r,a,u,h=>by
  rw [List.cons_append]
  conv=>lhs;unfold Lib.parseUint10
  unfold Lib.parseUint10 at h
  split at h
  ·rename_i h1
   rw [if_pos h1]
   split at h
   ·cases h
   ·rename_i h2
    rw [if_neg h2]
    split at h
    ·cases h
    ·rename_i h3
     rw [if_neg h3]
     exact jd5 l r _ u h
  ·cases h
theorem jxf (n:Nat) (h:n<1000000000000000000):Lib.parseUint10 0 (Lib.decDigits n) = .ok n:=by
 induction n using Nat.strongRecOn with
 | _ n ih =>
  have t1 : ∀ d,d<10→(UInt8.ofNat (48+d)).toNat=48+d:=fun d hd=>by rw [UInt8.toNat_ofNat'];omega
  rw [Lib.decDigits]
  split
  ·rename_i h1
   unfold Lib.parseUint10 Lib.parseUint10
   rw [t1 n h1,if_pos (by omega),if_neg (by omega),if_neg (by omega)]
   congr 1;omega
  ·rename_i h1
   have h2:=ih (n / 10) (by omega) (by omega)
   rw [jd5 _ _ _ _ h2]
   unfold Lib.parseUint10 Lib.parseUint10
   rw [t1 _ (show n % 10<10 by omega),if_pos (by omega),if_neg (by omega),if_neg (by omega)]
   congr 1;omega
theorem qvd {n:Int} (h:0≤n):Lib.itoa n=Lib.decDigits n.toNat:=by unfold Lib.itoa;rw [if_neg (by omega)]
theorem jxw {n:Int} (h0:0≤n) (h1:n≤999999999):Lib.atoiAll (Lib.itoa n) = .ok n:=by
 rw [qvd h0]
 have hd:=jxt n.toNat
 have hp:=jxf n.toNat (by omega)
 generalize Lib.decDigits n.toNat=l at hd hp
 cases l with
 | nil=>exact absurd rfl hd.2
 | cons c r =>
  have hc:q1v c=true:=by have:=hd.1;simp at this;exact this.1
  unfold q1v at hc
  simp at hc
  unfold Lib.atoiAll
  have c43 : ¬ c.toNat=43:=by omega
  have c45 : ¬ c.toNat=45:=by omega
  simp only [c43,or_self,if_false,c45,not_false_eq_true,true_and,false_and]
  unfold Lib.parseMag
  rw [if_neg (by simp),hp]
  simp only
  rw [if_neg (by omega)]
  congr 1;omega
def qht (a:Int):List UInt8→Int
 | []=>a
 | c::l=>qht (10*a+c.toNat - 48) l
theorem j90 : ∀ (l r:List UInt8) (a:Int),qht a (l++r)=qht (qht a l) r
 | [],r,a=>rfl
 | c::l,r,a=>by rw [List.cons_append,qht,qht,j90 l]
theorem k13 (n:Nat):qht 0 (Lib.decDigits n)=n:=by
 induction n using Nat.strongRecOn with
 | _ n ih =>
  have t1 : ∀ d,d<10→(UInt8.ofNat (48+d)).toNat=48+d:=fun d hd=>by rw [UInt8.toNat_ofNat'];omega
  rw [Lib.decDigits]
  split
  ·rename_i h1
   unfold qht qht
   rw [t1 n h1];omega
  ·rename_i h1
   rw [j90,ih (n / 10) (by omega)]
   unfold qht qht
   rw [t1 _ (show n % 10<10 by omega)];omega
theorem qpm : ∀ (l:List UInt8) (a:Int),0≤a→l.all q1v=true→0≤qht a l∧qht a l<(a+1)*10 ^ l.length
 | [],a,h,_=>by simp [qht];omega
 | c::l,a,h,hd=>by
  simp at hd
  have hc:=hd.1
  unfold q1v at hc
  simp at hc
  have ih:=qpm l (10*a+c.toNat - 48) (by omega) (by simp;exact hd.2)
  rw [qht]
  refine ⟨ih.1,Int.lt_of_lt_of_le ih.2 ?_⟩
  have e1:(10:Int) ^ (c::l).length=10*10 ^ l.length:=by rw [List.length_cons,Int.pow_succ];omega
  rw [e1,← Int.mul_assoc]
  have hp:(0:Int)≤10 ^ l.length:=Int.le_of_lt (Int.pow_pos (by decide))
  exact Int.mul_le_mul_of_nonneg_right (by omega) hp
theorem jd4 (c:UInt8) (x:List UInt8) (h:c ∉ x):spl c [] x = [x]:=by
 have:=jnf c x [] [] h
 simpa [spl] using this
theorem q2n {v:VD} (h:q0y v=true):(0≤v.1∧v.1≤999999999)∧(0≤v.2.1∧v.2.1≤999999999)∧(0≤v.2.2.1∧v.2.2.1≤999999999)∧q8s q6q v.2.2.2.1=true∧q8s q2l v.2.2.2.2=true:=by
 unfold q0y jfq at h
 simp only [Bool.and_eq_true,decide_eq_true_eq] at h
 exact ⟨h.1.1.1.1,h.1.1.1.2,h.1.1.2,h.1.2,h.2⟩
theorem qux {p:List UInt8→Bool} {s:List UInt8} (h:q8s p s=true):s.length≤30:=by
 unfold q8s at h
 simp only [Bool.or_eq_true,Bool.and_eq_true,decide_eq_true_eq] at h
 rcases h with rfl|h
 ·simp
 ·exact h.1
def q4m (s:List UInt8):List UInt8:=if s.head? = some 118 then s.drop 1 else s
def qhr (v:VD) (l:Int):VD×Int :=
 if q0y v=true∧1≤l∧l≤3 then
  if v.2.2.2.1 ≠ []∧(2≤l→v.2.2.1=0)∧(l=3→v.2.1=0) then ((v.1,(v.2.1,(v.2.2.1,([],[])))),0)
  else if l=1∧v.2.2.1<999999999 then ((v.1,(v.2.1,(v.2.2.1+1,([],[])))),0)
  else if l≤2∧v.2.1<999999999 then ((v.1,(v.2.1+1,(0,([],[])))),0)
  else if v.1<999999999 then ((v.1+1,(0,(0,([],[])))),0)
  else (v0,15)
 else (v0,1)
end Go.Proofs.YtggoebaobojmjaaGreatDoor.AM
namespace Go.Proofs
open Go.RowKit Go.Shelf Go.Lib
shelf_lay LaysM.n171 Nm 171 at Tryz as Tryz.laysItoa
shelf_lay LaysC.n172 Nm 172 at Tryz as Tryz.laysAtoi
set_option linter.unusedVariables false
set_option linter.unusedSimpArgs false
namespace YtggoebaobojmjaaGreatDoor.AM
structure Inv (w:World):Prop where
 maxLen : ∃ m,w.cell? ⟨Tryz.laysIndex_ren.g 1,0,none⟩=some (.int .i64 m)
 tab:Lib.TabIs Tryz.prog w "internal/strconv.uint64pow10" .u64 Lib.pow10Tab
 syn : ∃ tp p,w.cell? ⟨Tryz.laysAtoi_ren.g 15,0,none⟩=some (.iface tp p)
 rng : ∃ tp p,w.cell? ⟨Tryz.laysAtoi_ren.g 16,0,none⟩=some (.iface tp p)
theorem gTab:(Tryz.prog.globalNamed "internal/strconv.uint64pow10").isSome=true:=by kernel_rfl
theorem Inv.below {w w':World} (h:Inv w) (hb:Below w.heap.size w w'):Inv w':=by
 obtain ⟨⟨m,hm⟩,ht,⟨t1,p1,h1⟩,⟨t2,p2,h2⟩⟩:=h
 refine ⟨⟨m,(hb.cell (p:=⟨_,0,none⟩) (World.block_lt_of_cell? _ _ hm)).trans hm⟩,?_,⟨t1,p1,(hb.cell (p:=⟨_,0,none⟩) (World.block_lt_of_cell? _ _ h1)).trans h1⟩,⟨t2,p2,(hb.cell (p:=⟨_,0,none⟩) (World.block_lt_of_cell? _ _ h2)).trans h2⟩⟩
 obtain ⟨g,hg⟩:=Option.isSome_iff_exists.1 gTab
 refine var?_below hb hg ?_ ht
 have hv:w.var? Tryz.prog "internal/strconv.uint64pow10" = some _:=ht
 unfold World.var? at hv
 rw [hg] at hv
 simp only [Option.bind_some] at hv
 split at hv
 ·rename_i h5;exact (Array.getElem?_eq_some_iff.1 h5).1
 ·cases hv
theorem q1j:Know Inv Inv:=⟨fun w w' h hb=>h.below hb,fun _ h=>h⟩
variable {P:Program}
theorem qiw {Pc:Nat→Nat→Prop} {w w':World} {v:Value} {d:D} {e:Ending} (he:e = .returned v) (hb:Below w.heap.size w w') (hv:q1a (q20 Pc) q38 w' v d) :
  ∃ v' Pc',e = .returned v'∧Below w.heap.size w w'∧(∀ b o,Pc b o→Pc' b o)∧(∀ b o,Pc' b o→Pc b o∨(w.heap.size≤b∧b<w'.heap.size))∧q1a (q20 Pc') q38 w' v' d :=
 ⟨v,Pc,he,hb,fun _ _ h=>h,fun _ _ h=>Or.inl h,hv⟩
abbrev job:SD:=.one (.c (.d .str))
abbrev intA:SD:=.one (.c (.d (.int .i64)))
abbrev k2e:SD:=.one (.c (.d .bool))
end YtggoebaobojmjaaGreatDoor.AM
end Go.Proofs
namespace Go.Proofs
open Go.RowKit Go.Shelf Go.Lib
shelf_lay LaysM.n146 Nm 146 at Tryz as Tryz.laysSplit
shelf_lay Lays.n106 Nm 106 at Tryz as Tryz.laysCompare
set_option linter.unusedVariables false
set_option linter.unusedSimpArgs false
namespace YtggoebaobojmjaaGreatDoor.AM
variable {P:Program}
def j41:FC:={ f:=153,args:=[job,job],res:=intA,F:=fun p=>some (Lib.compareBytes p.1 p.2) }
def qm9 (a b:List UInt8):Option Int:=some (Lib.compareBytes a b)
theorem jpc:q0h Inv Tryz.prog j41:=fun G hG=>⟨⟨by kernel_rfl,fun a r h=>by
 obtain ⟨s,t⟩:=a
 have hr:Lib.compareBytes s t=r:=Option.some.inj h
 intro Pc w vs hg hlt hv
 obtain ⟨l⟩:=vs
 match l,hv with
 | [x,y],⟨h1,h2,_⟩ =>
  obtain rfl:x = .string (ba s):=q0d h1
  obtain rfl:y = .string (ba t):=q0d h2
  have e1:(ba s).data.toList=s:=by simp [ba]
  have e2:(ba t).data.toList=t:=by simp [ba]
  have hh:=Any.strings_Compare Tryz.laysCompare (ba s) (ba t) w
  rw [e1,e2,hr] at hh
  refine hh.mono ?_
  rintro e w' ⟨rfl,rfl⟩
  exact qiw rfl (Below.refl _ _) (q07 _)⟩,rfl⟩
theorem k8x:Tryz.laysSplit_ren.g 1=Tryz.laysIndex_ren.g 1:=by kernel_rfl
def qjd (s sep:List UInt8):Option (List (List UInt8)):=match sep with
 | [c]=>if s.length<4294967281 then some (spl c [] s) else none
 | _=>none
def jny:FC:={ f:=130,args:=[job,job],res:=.one (.c (.d (.lst .str))),F:=fun p=>qjd p.1 p.2 }
theorem k0l:q0h Inv Tryz.prog jny:=fun G hG=>⟨⟨by kernel_rfl,fun a r h=>by
 obtain ⟨s,sep⟩:=a
 have h':qjd s sep=some r:=h
 unfold qjd at h'
 split at h'
 case h_2=>cases h'
 rename_i c
 split at h'
 case isFalse=>cases h'
 rename_i hc
 have hr:(Lib.splitB (ba [c]) 0 (Lib.countB (ba s) (ba [c])) (ba s)).map unB=r:=(jp5 c s).trans (Option.some.inj h')
 intro Pc w vs hg hlt hv
 obtain ⟨m,hm⟩:=(hG.im w hg).maxLen
 obtain ⟨l⟩:=vs
 match l,hv with
 | [x,y],⟨h1,h2,_⟩ =>
  obtain rfl:x = .string (ba s):=q0d h1
  obtain rfl:y = .string (ba [c]):=q0d h2
  have b1:1≤(ba [c]).size:=by rw [q4i];exact Nat.le_refl _
  have hlen:(Lib.splitB (ba [c]) 0 (Lib.countB (ba s) (ba [c])) (ba s)).length=Lib.countB (ba s) (ba [c])+1:=Lib.splitB_all (ba [c]) b1 0 _ (ba s) rfl
  refine (Any.strings_Split { Tryz.laysSplit with } Tryz.laysSplit.i9 (ba s) (ba [c]) m w (by rw [q4i];exact hc) (by rw [k8x];exact hm) b1).mono ?_
  rintro e w' ⟨rfl,rfl⟩
  generalize hL:Lib.splitB (ba [c]) 0 (Lib.countB (ba s) (ba [c])) (ba s)=L at hlen hr
  refine ⟨_,fun b o=>Pc b o∨b=w.heap.size,rfl,(Below.refl _ _).alloc (Nat.le_refl _) _,fun b o hp=>Or.inl hp,?_,?_⟩
  ·rintro b o (hp|rfl)
   ·exact Or.inl hp
   ·exact Or.inr ⟨Nat.le_refl _,by simp⟩
  ·show DatRep _ _ _ (.lst 1 (r.map (q04 .str)))
   have hr2:r.map (q04 .str)=L.map fun x=>[Dat.v (.string x)]:=by
    rw [← hr,List.map_map]
    exact List.map_congr_left fun x _=>by show [Dat.v (.string (ba (unB x)))]=_;rw [k4r]
   rw [hr2,← hlen]
   have hmax:L.length≤maxLen:=by
    have:=Lib.countB_le (ba [c]) b1 (ba s).size (ba s) (Nat.le_refl _)
    rw [q4i] at this
    have hM:maxLen=9223372036854775807:=by decide
    omega
   refine .lst _ _ _ 1 _ w.heap.size 0 (fun k j=>.string (L.getD k ⟨#[]⟩)) (by simp) (Nat.le_refl _) hmax (fun x hx=>?_) (fun _=>rfl) (fun k j hk hj=>⟨Or.inr rfl,?_,rfl⟩) (fun k j hk hj=>?_)
   ·obtain ⟨y,_,rfl⟩:=List.mem_map.1 hx;rfl
   ·have hk':k<L.length:=by simpa using hk
    have hj0:j=0:=by omega
    subst hj0
    rw [World.cell?_alloc_new]
    simp [List.getD,hk']
   ·have hk':k<L.length:=by simpa using hk
    have hj0:j=0:=by simp at hj;exact hj
    subst hj0
    simp [List.getD,hk']
    exact .v _⟩,rfl⟩
end YtggoebaobojmjaaGreatDoor.AM
end Go.Proofs
namespace Go.Proofs.YtggoebaobojmjaaGreatDoor.AM
open Go.RowKit
set_option linter.unusedVariables false
set_option maxRecDepth 20000
def qzd (n:Nat):List LC:=[]
def q63 (n:Nat) (a1:Int):Option (Bool) :=
 (bif decide (48≤a1) then some (decide (a1≤57)) else some false)
def q7v (n:Nat):FC:={ f:=154,args:=[.one (.c (.d (.int .u8)))],res:=.one (.c (.d .bool)),F:=fun p=>q63 n p }
def j4b (n:Nat):List FC:=[]
theorem jbu (n:Nat) {G:World→Prop} (hG:Know Inv G) : ∀ c∈j4b n,q0t Tryz.prog G c∧q0c c.args=true:=(fun _ h=>by cases h)
def j5j:q0b:=[]
theorem jql:drB j5j (q00 Tryz.f154)=true:=by kernel_rfl
theorem jpu (n:Nat) : ∀ a,(q7v n).F a=main Tryz.prog 9 (j4b n) (qzd n) j5j (q00 Tryz.f154) [.tmp 2] (q7v n).args (q7v n).res a:=by intro a;kernel_rfl
theorem j2v (n:Nat):q0h Inv Tryz.prog (q7v n):=fun G hG=>⟨⟨by kernel_rfl,fun a r h=>q05 (c:=q00 Tryz.f154) Tryz.func154 (by kernel_rfl) (by kernel_rfl) (Nat.le_of_ble_eq_true (by kernel_rfl)) hG.st (by kernel_rfl) (rs:=[.tmp 2]) (by kernel_rfl) (jbu n hG) (lts:=qzd n) (fun F hF hFG=>have hK:Know Inv F.G:=hFG ▸ hG;(q02 fun j L h1 h2 h3=>absurd h2 (Nat.not_lt.2 (Nat.le_trans (by decide +kernel) h1)))) jql ((jpu n a).symm.trans h)⟩,rfl⟩
def j56 (n:Nat):List LC:=[]
def qv4 (n:Nat) (a1:Int):Option (Bool) :=
 (bif decide (97≤a1) then (bif decide (a1≤122) then some true else (bif decide (65≤a1) then (bif decide (a1≤90) then some true else (q63 n a1).bind fun r1=>(bif r1 then some true else some (decide (a1=45)))) else (q63 n a1).bind fun r2=>(bif r2 then some true else some (decide (a1=45))))) else (bif decide (65≤a1) then (bif decide (a1≤90) then some true else (q63 n a1).bind fun r3=>(bif r3 then some true else some (decide (a1=45)))) else (q63 n a1).bind fun r4=>(bif r4 then some true else some (decide (a1=45)))))
def qfs (n:Nat):FC:={ f:=134,args:=[.one (.c (.d (.int .u8)))],res:=.one (.c (.d .bool)),F:=fun p=>qv4 n p }
def jbr (n:Nat):List FC:=[q7v n]
theorem jho (n:Nat) {G:World→Prop} (hG:Know Inv G) : ∀ c∈jbr n,q0t Tryz.prog G c∧q0c c.args=true:=List.forall_mem_cons.2 ⟨j2v n G hG,(fun _ h=>by cases h)⟩
def jbx:q0b:=[]
theorem jus:drB jbx (q00 Tryz.f134)=true:=by kernel_rfl
theorem jwz (n:Nat) : ∀ a,(qfs n).F a=main Tryz.prog 25 (jbr n) (j56 n) jbx (q00 Tryz.f134) [.tmp 2] (qfs n).args (qfs n).res a:=by intro a;kernel_rfl
theorem jy2 (n:Nat):q0h Inv Tryz.prog (qfs n):=fun G hG=>⟨⟨by kernel_rfl,fun a r h=>q05 (c:=q00 Tryz.f134) Tryz.func134 (by kernel_rfl) (by kernel_rfl) (Nat.le_of_ble_eq_true (by kernel_rfl)) hG.st (by kernel_rfl) (rs:=[.tmp 2]) (by kernel_rfl) (jho n hG) (lts:=j56 n) (fun F hF hFG=>have hK:Know Inv F.G:=hFG ▸ hG;(q02 fun j L h1 h2 h3=>absurd h2 (Nat.not_lt.2 (Nat.le_trans (by decide +kernel) h1)))) jus ((jwz n a).symm.trans h)⟩,rfl⟩
@[reducible] def qhi:SSt:=⟨[(0,.one (.c (.d .str))),(1,.one (.c (.fn 134 []))),(7,.one (.c (.d (.int .i64)))),(8,.one (.c (.d (.int .i64))))],[],[]⟩
@[reducible] def q8z:List (Exit×SSt):=[(.ret,⟨[(4,.one (.c (.d .bool)))],[],[]⟩),(.exit 0,⟨[(0,.one (.c (.d .str)))],[],[]⟩)]
def j19 (n:Nat) (rec:(List UInt8)→Int→Int→Option (((Bool×Unit)×Unit×Unit)⊕(((List UInt8)×Unit)×Unit×Unit))) (a1:List UInt8) (a2:Int) (a3:Int):Option (((Bool×Unit)×Unit×Unit)⊕(((List UInt8)×Unit)×Unit×Unit)) :=
 (bif decide (a3<a2) then (sAt a1 a3).bind fun c1=>(qv4 n c1).bind fun r2=>(bif !r2 then some (Sum.inl ((false,()),((),()))) else q0f (IntKind.wrap .i64 (a3+1)) fun n3=>rec a1 a2 n3) else some (Sum.inr (((a1,()),((),())))))
def qyh (n:Nat) (rec:pSt qhi→Option (q06 q8z)) (p:pSt qhi):Option (q06 q8z):=j19 n (fun a1 a2 a3=>rec ((a1,((),(a2,(a3,())))),((),()))) p.1.1 p.1.2.2.1 p.1.2.2.2.1
def q9p (n m:Nat) (a1:List UInt8) (a2:Int) (a3:Int):Option (((Bool×Unit)×Unit×Unit)⊕(((List UInt8)×Unit)×Unit×Unit)):=q08 (qyh n) m ((a1,((),(a2,(a3,())))),((),()))
theorem qq8 (n m:Nat) (a1 a2 a3):q9p n (m+1) a1 a2 a3=j19 n (fun a1 a2 a3=>q9p n m a1 a2 a3) a1 a2 a3:=rfl
def jbf (n:Nat):LC:={ sh:=qhi,outs:=q8z,F:=q08 (qyh n) n }
def qpx (n:Nat):List LC:=[jbf n]
def quj (n:Nat) (a1:List UInt8) (a2:Unit):Option (Bool) :=
 (q9p n n a1 (a1.length:Int) (0:Int)).bind fun o4=>Sum.elim (fun (q5:(Bool×Unit)×Unit×Unit)=>some q5.1.1) (fun (q6:((List UInt8)×Unit)×Unit×Unit)=>some (!decide (q6.1.1=([]:List UInt8)))) o4
def qek (n:Nat):FC:={ f:=133,args:=[.one (.c (.d .str)),.one (.c (.fn 134 []))],res:=.one (.c (.d .bool)),F:=fun p=>quj n p.1 p.2 }
def qy7 (n:Nat):List FC:=[qfs n]
theorem j0y (n:Nat) {G:World→Prop} (hG:Know Inv G) : ∀ c∈qy7 n,q0t Tryz.prog G c∧q0c c.args=true:=List.forall_mem_cons.2 ⟨jy2 n G hG,(fun _ h=>by cases h)⟩
def qxh:q0b:=[]
theorem je5:drB qxh (q00 Tryz.f133)=true:=by kernel_rfl
theorem jpa (n:Nat) : ∀ rec p,qyh n rec p=round Tryz.prog 20 (qy7 n) (qpx n) qxh 1 qhi q8z (q01 0 0 (q00 Tryz.f133)) rec p:=by intro rec p;kernel_rfl
theorem ji3 (n:Nat) {F:Fr} (hF:F.n=20) (hK:Know Inv F.G):q2h Tryz.prog F (jbf n) (q01 0 0 (q00 Tryz.f133)) :=
 q09 hF (by kernel_rfl) (j0y n hK) (jpa n) (fuel:=n) (fun _=>rfl) (q02 fun j L h1 h2 h3=>absurd h2 (Nat.not_lt.2 (Nat.le_trans (by decide +kernel) h1))) (q0g je5)
theorem jyr (n:Nat) : ∀ a,(qek n).F a=main Tryz.prog 20 (qy7 n) (qpx n) qxh (q00 Tryz.f133) [.tmp 4] (qek n).args (qek n).res a:=by intro a;kernel_rfl
theorem jty (n:Nat):q0h Inv Tryz.prog (qek n):=fun G hG=>⟨⟨by kernel_rfl,fun a r h=>q05 (c:=q00 Tryz.f133) Tryz.func133 (by kernel_rfl) (by kernel_rfl) (Nat.le_of_ble_eq_true (by kernel_rfl)) hG.st (by kernel_rfl) (rs:=[.tmp 4]) (by kernel_rfl) (j0y n hG) (lts:=qpx n) (fun F hF hFG=>have hK:Know Inv F.G:=hFG ▸ hG;(q02 (c:=(q00 Tryz.f133)) (fun j L h1 h2 h3=>by
  have h2':j<1:=Nat.lt_of_lt_of_le h2 (by decide +kernel)
  match j,h1,h2',h3 with
  | 0,_,_,h3=>obtain rfl:=Option.some.inj h3;exact (show q01 0 0 (q00 Tryz.f133)=q01 0 0 (q00 Tryz.f133) by kernel_rfl) ▸ ji3 n hF hK
  | j+1,_,h2',_=>exact absurd h2' (by omega)))) je5 ((jyr n a).symm.trans h)⟩,rfl⟩
@[reducible] def qhh:SSt:=⟨[(0,.one (.c (.d .str))),(1,.one (.c (.fn 154 []))),(7,.one (.c (.d (.int .i64)))),(8,.one (.c (.d (.int .i64))))],[],[]⟩
@[reducible] def q8x:List (Exit×SSt):=[(.ret,⟨[(4,.one (.c (.d .bool)))],[],[]⟩),(.exit 0,⟨[(0,.one (.c (.d .str)))],[],[]⟩)]
def j1m (n:Nat) (rec:(List UInt8)→Int→Int→Option (((Bool×Unit)×Unit×Unit)⊕(((List UInt8)×Unit)×Unit×Unit))) (a1:List UInt8) (a2:Int) (a3:Int):Option (((Bool×Unit)×Unit×Unit)⊕(((List UInt8)×Unit)×Unit×Unit)) :=
 (bif decide (a3<a2) then (sAt a1 a3).bind fun c1=>(q63 n c1).bind fun r2=>(bif !r2 then some (Sum.inl ((false,()),((),()))) else q0f (IntKind.wrap .i64 (a3+1)) fun n3=>rec a1 a2 n3) else some (Sum.inr (((a1,()),((),())))))
def qy9 (n:Nat) (rec:pSt qhh→Option (q06 q8x)) (p:pSt qhh):Option (q06 q8x):=j1m n (fun a1 a2 a3=>rec ((a1,((),(a2,(a3,())))),((),()))) p.1.1 p.1.2.2.1 p.1.2.2.2.1
def qa8 (n m:Nat) (a1:List UInt8) (a2:Int) (a3:Int):Option (((Bool×Unit)×Unit×Unit)⊕(((List UInt8)×Unit)×Unit×Unit)):=q08 (qy9 n) m ((a1,((),(a2,(a3,())))),((),()))
theorem qpa (n m:Nat) (a1 a2 a3):qa8 n (m+1) a1 a2 a3=j1m n (fun a1 a2 a3=>qa8 n m a1 a2 a3) a1 a2 a3:=rfl
def je4 (n:Nat):LC:={ sh:=qhh,outs:=q8x,F:=q08 (qy9 n) n }
def qru (n:Nat):List LC:=[je4 n]
def qvf (n:Nat) (a1:List UInt8) (a2:Unit):Option (Bool) :=
 (qa8 n n a1 (a1.length:Int) (0:Int)).bind fun o4=>Sum.elim (fun (q5:(Bool×Unit)×Unit×Unit)=>some q5.1.1) (fun (q6:((List UInt8)×Unit)×Unit×Unit)=>some (!decide (q6.1.1=([]:List UInt8)))) o4
def qey (n:Nat):FC:={ f:=133,args:=[.one (.c (.d .str)),.one (.c (.fn 154 []))],res:=.one (.c (.d .bool)),F:=fun p=>qvf n p.1 p.2 }
def qxb (n:Nat):List FC:=[q7v n]
theorem qyq (n:Nat) {G:World→Prop} (hG:Know Inv G) : ∀ c∈qxb n,q0t Tryz.prog G c∧q0c c.args=true:=List.forall_mem_cons.2 ⟨j2v n G hG,(fun _ h=>by cases h)⟩
def qvt:q0b:=[]
theorem jfc:drB qvt (q00 Tryz.f133)=true:=by kernel_rfl
theorem jp6 (n:Nat) : ∀ rec p,qy9 n rec p=round Tryz.prog 20 (qxb n) (qru n) qvt 1 qhh q8x (q01 0 0 (q00 Tryz.f133)) rec p:=by intro rec p;kernel_rfl
theorem jh8 (n:Nat) {F:Fr} (hF:F.n=20) (hK:Know Inv F.G):q2h Tryz.prog F (je4 n) (q01 0 0 (q00 Tryz.f133)) :=
 q09 hF (by kernel_rfl) (qyq n hK) (jp6 n) (fuel:=n) (fun _=>rfl) (q02 fun j L h1 h2 h3=>absurd h2 (Nat.not_lt.2 (Nat.le_trans (by decide +kernel) h1))) (q0g jfc)
theorem jtx (n:Nat) : ∀ a,(qey n).F a=main Tryz.prog 20 (qxb n) (qru n) qvt (q00 Tryz.f133) [.tmp 4] (qey n).args (qey n).res a:=by intro a;kernel_rfl
theorem jw0 (n:Nat):q0h Inv Tryz.prog (qey n):=fun G hG=>⟨⟨by kernel_rfl,fun a r h=>q05 (c:=q00 Tryz.f133) Tryz.func133 (by kernel_rfl) (by kernel_rfl) (Nat.le_of_ble_eq_true (by kernel_rfl)) hG.st (by kernel_rfl) (rs:=[.tmp 4]) (by kernel_rfl) (qyq n hG) (lts:=qru n) (fun F hF hFG=>have hK:Know Inv F.G:=hFG ▸ hG;(q02 (c:=(q00 Tryz.f133)) (fun j L h1 h2 h3=>by
  have h2':j<1:=Nat.lt_of_lt_of_le h2 (by decide +kernel)
  match j,h1,h2',h3 with
  | 0,_,_,h3=>obtain rfl:=Option.some.inj h3;exact (show q01 0 0 (q00 Tryz.f133)=q01 0 0 (q00 Tryz.f133) by kernel_rfl) ▸ jh8 n hF hK
  | j+1,_,h2',_=>exact absurd h2' (by omega)))) jfc ((jtx n a).symm.trans h)⟩,rfl⟩
def j5m (n:Nat):List LC:=[]
def qum (n:Nat) (a1:List UInt8):Option (Bool) :=
 (quj n a1 ()).bind fun r1=>some r1
def qfc (n:Nat):FC:={ f:=103,args:=[.one (.c (.d .str))],res:=.one (.c (.d .bool)),F:=fun p=>qum n p }
def jei (n:Nat):List FC:=[qek n]
theorem jgq (n:Nat) {G:World→Prop} (hG:Know Inv G) : ∀ c∈jei n,q0t Tryz.prog G c∧q0c c.args=true:=List.forall_mem_cons.2 ⟨jty n G hG,(fun _ h=>by cases h)⟩
def jfh:q0b:=[]
theorem jzo:drB jfh (q00 Tryz.f103)=true:=by kernel_rfl
theorem jzt (n:Nat) : ∀ a,(qfc n).F a=main Tryz.prog 5 (jei n) (j5m n) jfh (q00 Tryz.f103) [.tmp 2] (qfc n).args (qfc n).res a:=by intro a;kernel_rfl
theorem jai (n:Nat):q0h Inv Tryz.prog (qfc n):=fun G hG=>⟨⟨by kernel_rfl,fun a r h=>q05 (c:=q00 Tryz.f103) Tryz.func103 (by kernel_rfl) (by kernel_rfl) (Nat.le_of_ble_eq_true (by kernel_rfl)) hG.st (by kernel_rfl) (rs:=[.tmp 2]) (by kernel_rfl) (jgq n hG) (lts:=j5m n) (fun F hF hFG=>have hK:Know Inv F.G:=hFG ▸ hG;(q02 fun j L h1 h2 h3=>absurd h2 (Nat.not_lt.2 (Nat.le_trans (by decide +kernel) h1)))) jzo ((jzt n a).symm.trans h)⟩,rfl⟩
def qsn (n:Nat):List LC:=[]
def q7s (n:Nat) (a1:List UInt8):Option (Bool) :=
 (qvf n a1 ()).bind fun r1=>some r1
def q4x (n:Nat):FC:={ f:=132,args:=[.one (.c (.d .str))],res:=.one (.c (.d .bool)),F:=fun p=>q7s n p }
def j0u (n:Nat):List FC:=[qey n]
theorem j8b (n:Nat) {G:World→Prop} (hG:Know Inv G) : ∀ c∈j0u n,q0t Tryz.prog G c∧q0c c.args=true:=List.forall_mem_cons.2 ⟨jw0 n G hG,(fun _ h=>by cases h)⟩
def j1a:q0b:=[]
theorem jiq:drB j1a (q00 Tryz.f132)=true:=by kernel_rfl
theorem jg6 (n:Nat) : ∀ a,(q4x n).F a=main Tryz.prog 5 (j0u n) (qsn n) j1a (q00 Tryz.f132) [.tmp 2] (q4x n).args (q4x n).res a:=by intro a;kernel_rfl
theorem j1f (n:Nat):q0h Inv Tryz.prog (q4x n):=fun G hG=>⟨⟨by kernel_rfl,fun a r h=>q05 (c:=q00 Tryz.f132) Tryz.func132 (by kernel_rfl) (by kernel_rfl) (Nat.le_of_ble_eq_true (by kernel_rfl)) hG.st (by kernel_rfl) (rs:=[.tmp 2]) (by kernel_rfl) (j8b n hG) (lts:=qsn n) (fun F hF hFG=>have hK:Know Inv F.G:=hFG ▸ hG;(q02 fun j L h1 h2 h3=>absurd h2 (Nat.not_lt.2 (Nat.le_trans (by decide +kernel) h1)))) jiq ((jg6 n a).symm.trans h)⟩,rfl⟩
def qlj (n:Nat):List LC:=[]
def qkk (n:Nat) (a1:List UInt8):Option (Bool) :=
 (qum n a1).bind fun r1=>(bif r1 then (bif decide (a1=([48]:List UInt8)) then some true else (sAt a1 (0:Int)).bind fun c2=>(bif !decide (c2=48) then some true else (q7s n a1).bind fun r3=>some (!r3))) else some false)
def q96 (n:Nat):FC:={ f:=102,args:=[.one (.c (.d .str))],res:=.one (.c (.d .bool)),F:=fun p=>qkk n p }
def qs5 (n:Nat):List FC:=[qfc n,q4x n]
theorem j2c (n:Nat) {G:World→Prop} (hG:Know Inv G) : ∀ c∈qs5 n,q0t Tryz.prog G c∧q0c c.args=true:=List.forall_mem_cons.2 ⟨jai n G hG,List.forall_mem_cons.2 ⟨j1f n G hG,(fun _ h=>by cases h)⟩⟩
def qtr:q0b:=[]
theorem ja5:drB qtr (q00 Tryz.f102)=true:=by kernel_rfl
theorem jdf (n:Nat) : ∀ a,(q96 n).F a=main Tryz.prog 19 (qs5 n) (qlj n) qtr (q00 Tryz.f102) [.tmp 2] (q96 n).args (q96 n).res a:=by intro a;kernel_rfl
theorem jaf (n:Nat):q0h Inv Tryz.prog (q96 n):=fun G hG=>⟨⟨by kernel_rfl,fun a r h=>q05 (c:=q00 Tryz.f102) Tryz.func102 (by kernel_rfl) (by kernel_rfl) (Nat.le_of_ble_eq_true (by kernel_rfl)) hG.st (by kernel_rfl) (rs:=[.tmp 2]) (by kernel_rfl) (j2c n hG) (lts:=qlj n) (fun F hF hFG=>have hK:Know Inv F.G:=hFG ▸ hG;(q02 fun j L h1 h2 h3=>absurd h2 (Nat.not_lt.2 (Nat.le_trans (by decide +kernel) h1)))) ja5 ((jdf n a).symm.trans h)⟩,rfl⟩
end Go.Proofs.YtggoebaobojmjaaGreatDoor.AM
namespace Go.Proofs.YtggoebaobojmjaaGreatDoor.AM
open Go.RowKit
set_option linter.unusedVariables false
theorem jci {β:Type} {l:List β} {j:Nat} (h:j<l.length):nth l j=some l[j]:=by rw [qaa,List.getElem?_eq_getElem h]
theorem q0i {β:Type} {l:List β} {j:Nat} (h:j<l.length):q0s l (j:Int)=some l[j]:=by
 unfold q0s;rw [if_pos (by omega),Int.toNat_natCast,jci h]
theorem q8j {s:List UInt8} {j:Nat} (h:j<s.length):sAt s (j:Int)=some ((s[j].toNat:Nat):Int):=by
 unfold sAt;rw [q0i h];rfl
theorem sub_le {β:Type} {l:List β} {a b:Nat} (h1:a≤b) (h2:b≤l.length):j2i l (a:Int) (b:Int)=some ((l.drop a).take (b - a)):=by
 unfold j2i;rw [if_pos ⟨by omega,by omega,by omega⟩,Int.toNat_natCast,Int.toNat_natCast]
theorem sub_zero {β:Type} {l:List β} {b:Nat} (h2:b≤l.length):j2i l (0:Int) (b:Int)=some (l.take b):=by
 have:=sub_le (l:=l) (a:=0) (b:=b) (Nat.zero_le _) h2
 simpa using this
theorem q3u {β:Type} {k:Nat} {xs ys:List β} (h:(xs.length+ys.length)*k≤140737488355328):ql1 k xs ys=some (xs++ys):=by
 unfold ql1;rw [if_pos h]
theorem q03 {i:Nat} (h:i<4611686018427387904):IntKind.wrap .i64 ((i:Int)+1)=((i+1:Nat):Int):=by rw [wrap64 (by omega) (by omega)];rfl
end Go.Proofs.YtggoebaobojmjaaGreatDoor.AM
namespace Go.Proofs.YtggoebaobojmjaaGreatDoor.AM
open Go.RowKit
set_option linter.unusedVariables false
set_option linter.unusedSimpArgs false
theorem jmk (n:Nat) (c:UInt8):q63 n ((c.toNat:Nat):Int)=some (q1v c):=by
 unfold q63 q1v
 have h1:decide ((48:Int)≤((c.toNat:Nat):Int))=decide (48≤c.toNat):=decide_eq_decide.2 (by omega)
 have h2:decide (((c.toNat:Nat):Int)≤(57:Int))=decide (c.toNat≤57):=decide_eq_decide.2 (by omega)
 rw [h1,h2]
 cases decide (48≤c.toNat)<;>cases decide (c.toNat≤57)<;>rfl
theorem k5g (n:Nat) (c:UInt8):qv4 n ((c.toNat:Nat):Int)=some (jsf c):=by
 unfold qv4 jsf
 have h1:decide ((97:Int)≤((c.toNat:Nat):Int))=decide (97≤c.toNat):=decide_eq_decide.2 (by omega)
 have h2:decide (((c.toNat:Nat):Int)≤(122:Int))=decide (c.toNat≤122):=decide_eq_decide.2 (by omega)
 have h3:decide ((65:Int)≤((c.toNat:Nat):Int))=decide (65≤c.toNat):=decide_eq_decide.2 (by omega)
 have h4:decide (((c.toNat:Nat):Int)≤(90:Int))=decide (c.toNat≤90):=decide_eq_decide.2 (by omega)
 have h5:decide (((c.toNat:Nat):Int)=(45:Int))=decide (c.toNat=45):=decide_eq_decide.2 (by omega)
 rw [h1,h2,h3,h4,h5,jmk]
 cases decide (97≤c.toNat)<;>cases decide (c.toNat≤122)<;>cases decide (65≤c.toNat)<;>cases decide (c.toNat≤90)<;>cases q1v c<;>rfl
theorem qzg (n:Nat) (s:List UInt8) (hL:s.length≤1000000) : ∀ m j:Nat,j≤s.length→s.length - j<m→q9p n m s ((s.length:Nat):Int) (j:Int)=some (if (s.drop j).all jsf=true then Sum.inr ((s,()),((),())) else Sum.inl ((false,()),((),())))
 | 0,j,_,h=>absurd h (Nat.not_lt_zero _)
 | m+1,j,hj,h=>by
  rw [qq8]
  unfold j19
  by_cases c0:j<s.length
  ·have c0':((j:Nat):Int)<((s.length:Nat):Int):=by omega
   have ih:=qzg n s hL m (j+1) (by omega) (by omega)
   have hd:s.drop j=s[j]::s.drop (j+1):=(List.drop_eq_getElem_cons c0)
   simp only [c0',decide_true,cond_true,q8j c0,Option.bind_some,k5g,q0f,q03 (show j<4611686018427387904 by omega),ih,hd,List.all_cons]
   cases jsf s[j]<;>simp
  ·have c0' : ¬ ((j:Nat):Int)<((s.length:Nat):Int):=by omega
   have:s.drop j = []:=List.drop_eq_nil_of_le (by omega)
   simp [c0',this]
theorem jie (n:Nat) (s:List UInt8) (hL:s.length≤1000000) (hn:s.length<n):quj n s ()=some (s.all jsf && !decide (s = [])):=by
 unfold quj
 have:=qzg n s hL n 0 (Nat.zero_le _) (by omega)
 rw [show ((0:Nat):Int)=(0:Int) from rfl] at this
 rw [this,List.drop_zero]
 cases s.all jsf<;>rfl
theorem qxf (n:Nat) (s:List UInt8) (hL:s.length≤1000000) : ∀ m j:Nat,j≤s.length→s.length - j<m→qa8 n m s ((s.length:Nat):Int) (j:Int)=some (if (s.drop j).all q1v=true then Sum.inr ((s,()),((),())) else Sum.inl ((false,()),((),())))
 | 0,j,_,h=>absurd h (Nat.not_lt_zero _)
 | m+1,j,hj,h=>by
  rw [qpa]
  unfold j1m
  by_cases c0:j<s.length
  ·have c0':((j:Nat):Int)<((s.length:Nat):Int):=by omega
   have ih:=qxf n s hL m (j+1) (by omega) (by omega)
   have hd:s.drop j=s[j]::s.drop (j+1):=(List.drop_eq_getElem_cons c0)
   simp only [c0',decide_true,cond_true,q8j c0,Option.bind_some,jmk,q0f,q03 (show j<4611686018427387904 by omega),ih,hd,List.all_cons]
   cases q1v s[j]<;>simp
  ·have c0' : ¬ ((j:Nat):Int)<((s.length:Nat):Int):=by omega
   have:s.drop j = []:=List.drop_eq_nil_of_le (by omega)
   simp [c0',this]
theorem jke (n:Nat) (s:List UInt8) (hL:s.length≤1000000) (hn:s.length<n):qvf n s ()=some (s.all q1v && !decide (s = [])):=by
 unfold qvf
 have:=qxf n s hL n 0 (Nat.zero_le _) (by omega)
 rw [show ((0:Nat):Int)=(0:Int) from rfl] at this
 rw [this,List.drop_zero]
 cases s.all q1v<;>rfl
theorem j0t (n:Nat) (s:List UInt8) (hL:s.length≤1000000) (hn:s.length<n):qum n s=some (q2l s):=by
 unfold qum;rw [jie n s hL hn];rfl
theorem qcw (n:Nat) (s:List UInt8) (hL:s.length≤1000000) (hn:s.length<n):q7s n s=some (q3h s):=by
 unfold q7s;rw [jke n s hL hn];rfl
theorem jq4 (n:Nat) (s:List UInt8) (hL:s.length≤1000000) (hn:s.length<n):qkk n s=some (q6q s):=by
 unfold qkk q6q
 rw [j0t n s hL hn,qcw n s hL hn]
 simp only [Option.bind_some]
 cases hp:q2l s with
 | false=>rfl
 | true =>
  cases s with
  | nil=>simp [q2l] at hp
  | cons c r =>
   have h0:sAt (c::r) (0:Int)=some ((c.toNat:Nat):Int):=q8j (s:=c::r) (j:=0) (by simp)
   have h1:decide (((c.toNat:Nat):Int)=(48:Int))=decide ((c::r).head? = some 48):=decide_eq_decide.2 (by
    simp only [List.head?_cons,Option.some.injEq]
    constructor
    ·intro h;exact UInt8.toNat_inj.1 (by have e48:(48:UInt8).toNat=48:=rfl;rw [e48];omega)
    ·rintro rfl;rfl)
   simp only [cond_true,h0,Option.bind_some,h1,Bool.true_and]
   cases decide (c::r = [48])<;>cases decide ((c::r).head? = some 48)<;>cases q3h (c::r)<;>rfl
end Go.Proofs.YtggoebaobojmjaaGreatDoor.AM
namespace Go.Proofs
open Go.RowKit Go.Shelf Go.Lib
attribute [local go_sem] Oper.semAt_some
set_option linter.unusedVariables false
set_option linter.unusedSimpArgs false
namespace YtggoebaobojmjaaGreatDoor.AM
theorem q2v {P:Program} {fn:Func} {p:Tmp} {ty:TypeId} {b:Nat} {v:Value} {tmps:Array Value} {w:World} (h:fn.results = #[.cell p ty]) (hp:tmps.getD p undef = .pointer (some ⟨b,0,none⟩)) (ha:quk P ty=some false)
  (hc:w.cell? ⟨b,0,none⟩=some v):(results fn tmps).run P w = .ok v w:=by
 have hp':tmps[p]?.getD undef = .pointer (some ⟨b,0,none⟩):=by simpa using hp
 simp only [results,h]
 simp [Sem.run_bind,hp',asAddr,loadVar,q1f ha w,go_sem,hc]
theorem q2a {W W':World} {a:Addr} {v:Value} (hb:Below W.heap.size W W') (h:W.cell? a=some v):W'.cell? a=some v:=by
 obtain ⟨o,ho,hc⟩:=cells_of_cell h
 exact (World.cell?_of_block ((hb.block _ (Array.getElem?_eq_some_iff.1 ho).1).trans ho |>.trans ho.symm)).trans h
theorem q3y {W W':World} {a:Addr} {v:Value} (hb:Below W.heap.size W W') (h:W.cell? a=some v):W'.frozen? a=W.frozen? a:=by
 obtain ⟨o,ho,hc⟩:=cells_of_cell h
 exact World.frozen?_of_block ((hb.block _ (Array.getElem?_eq_some_iff.1 ho).1).trans ho |>.trans ho.symm)
theorem q1y {W W':World} (hb:Below W.heap.size W W'):KeepsOthers W W':=⟨hb.size,fun k o h _=>(hb.block k (Array.getElem?_eq_some_iff.1 h).1).trans h⟩
theorem qhq {pS:Nat} {r:List UInt8} {W W':World} (h:Left pS r W) (hb:Below W.heap.size W W'):Left pS r W':=⟨q2a hb h.1,(q3y hb h.1).trans h.2⟩
theorem q0q {w:World} {b:Nat} {v:Value} {t:TypeId} (h:w.heap[b]? = some (.cells #[v] t (0,0))):w.cell? ⟨b,0,none⟩=some v∧w.frozen? ⟨b,0,none⟩=false:=by
 constructor
 ·simp [World.cell?,h]
 ·simp [World.frozen?,h]
theorem five (w:World) (o0 o1 o2 o3 o4:Obj) : ∃ W,(((((w.alloc o0).alloc o1).alloc o2).alloc o3).alloc o4)=W∧W.heap.size=w.heap.size+5∧Below w.heap.size w W∧W.heap[w.heap.size]? = some o0∧W.heap[w.heap.size+1]? = some o1∧W.heap[w.heap.size+1+1]? = some o2∧W.heap[w.heap.size+1+1+1]? = some o3∧W.heap[w.heap.size+1+1+2]? = some o4:=by
 have al : ∀ (w:World) (o:Obj) (k:Nat),k<w.heap.size→(w.alloc o).heap[k]? = w.heap[k]?:=fun w o k h=>Below.heap_alloc _ _ _ h
 refine ⟨_,rfl,by simp,(((((Below.refl _ w).alloc (Nat.le_refl _) _).alloc (by simp) _).alloc (by simp;omega) _).alloc (by simp;omega) _).alloc (by simp;omega) _,?_,?_,?_,?_,?_⟩
 ·rw [al _ _ _ (by simp<;>omega),al _ _ _ (by simp<;>omega),al _ _ _ (by simp<;>omega),al _ _ _ (by simp),World.alloc_heap_new]
 ·rw [al _ _ _ (by simp<;>omega),al _ _ _ (by simp<;>omega),al _ _ _ (by simp)]
  have:=World.alloc_heap_new (w.alloc o0) o1
  rw [World.size_alloc] at this;exact this
 ·rw [al _ _ _ (by simp<;>omega),al _ _ _ (by simp)]
  have:=World.alloc_heap_new ((w.alloc o0).alloc o1) o2
  rw [World.size_alloc,World.size_alloc] at this;exact this
 ·rw [al _ _ _ (by simp)]
  have:=World.alloc_heap_new (((w.alloc o0).alloc o1).alloc o2) o3
  rw [World.size_alloc,World.size_alloc,World.size_alloc] at this;exact this
 ·have:=World.alloc_heap_new ((((w.alloc o0).alloc o1).alloc o2).alloc o3) o4
  rw [World.size_alloc,World.size_alloc,World.size_alloc,World.size_alloc] at this;exact this
theorem hag:quk Tryz.prog 4=some false:=by kernel_rfl
structure Rng (fv:Value) (pF pR:Nat) (pP pC:Nat) (c:UInt8) (w0:World) (pred:List UInt8→Bool) (pre:List (List UInt8)) (W:World):Prop where
 fn:W.cell? ⟨pF,0,none⟩=some fv
 res:W.cell? ⟨pR,0,none⟩=some (.bool false)
 frz:W.frozen? ⟨pR,0,none⟩=false
 cP:W.cell? ⟨pP,0,none⟩=some (.string (ba [c]))
 cC:W.cell? ⟨pC,0,none⟩=some (.int .i64 0)
 below:Below w0.heap.size w0 W
 all:pre.all pred=true
structure RngX (pR:Nat) (w0:World) (pred:List UInt8→Bool) (pre:List (List UInt8)) (W:World):Prop where
 res:W.cell? ⟨pR,0,none⟩=some (.bool false)
 below:Below w0.heap.size w0 W
 no:pre.all pred=false
theorem j7t {fv:Value} {pF pR pP pC:Nat} {c:UInt8} {w0:World} {pred:List UInt8→Bool} {B:Nat} (hB:w0.heap.size≤B):OwnFrom B (Rng fv pF pR pP pC c w0 pred):=fun s W W' row h hg hr =>
 ⟨qe2 h.fn hg hr,qe2 h.res hg hr,(frozen_kept h.res hg (fun r e=>(hr r e).2)).trans h.frz,qe2 h.cP hg hr,qe2 h.cC hg hr,h.below.grown hg h.below.size (fun k e=>Nat.le_trans hB (hr k e).1),h.all⟩
theorem j8t {pR:Nat} {w0:World} {pred:List UInt8→Bool} {B:Nat} (hB:w0.heap.size≤B):OwnFrom B (RngX pR w0 pred):=fun s W W' row h hg hr =>
 ⟨qe2 h.res hg hr,h.below.grown hg h.below.size (fun k e=>Nat.le_trans hB (hr k e).1),h.no⟩
theorem qmn {fv:Value} {pF pR pP pC:Nat} {c:UInt8} {w0:World} {pred:List UInt8→Bool} {pre:List (List UInt8)} {x:List UInt8} {W W':World} (h:Rng fv pF pR pP pC c w0 pred pre W) (hb:Below W.heap.size W W') (hx:pred x=true):Rng fv pF pR pP pC c w0 pred (pre ++ [x]) W' :=
 ⟨q2a hb h.fn,q2a hb h.res,(q3y hb h.res).trans h.frz,q2a hb h.cP,q2a hb h.cC,h.below.trans (hb.mono h.below.size),by rw [List.all_append,h.all];simp [hx]⟩
theorem j9q {fv:Value} {pF pR pP pC:Nat} {c:UInt8} {w0:World} {pred:List UInt8→Bool} {pre:List (List UInt8)} {W:World} {q:Nat} (v:Value) (h:Rng fv pF pR pP pC c w0 pred pre W) (h0:w0.heap.size≤q) (h1:q≠pF) (h2:q≠pR) (h3:q≠pP) (h4:q≠pC):Rng fv pF pR pP pC c w0 pred pre (W.setCell ⟨q,0,none⟩ v):=by
 have ne : ∀ p:Nat,q≠p→(W.setCell ⟨q,0,none⟩ v).cell? ⟨p,0,none⟩=W.cell? ⟨p,0,none⟩:=fun p hp=>World.cell?_setCell_other _ _ _ _ (by intro e;exact hp (by injection e with e))
 exact ⟨(ne _ h1).trans h.fn,(ne _ h2).trans h.res,by rw [World.frozen?_setCell];exact h.frz,(ne _ h3).trans h.cP,(ne _ h4).trans h.cC,h.below.setCell (by simpa using h0) _,h.all⟩
theorem four (w:World) (o0 o1 o2 o3:Obj) : ∃ W,((((w.alloc o0).alloc o1).alloc o2).alloc o3)=W∧W.heap.size=w.heap.size+4∧Below w.heap.size w W∧W.heap[w.heap.size]? = some o0∧W.heap[w.heap.size+1]? = some o1∧W.heap[w.heap.size+1+1]? = some o2∧W.heap[w.heap.size+1+2]? = some o3:=by
 have al : ∀ (w:World) (o:Obj) (k:Nat),k<w.heap.size→(w.alloc o).heap[k]? = w.heap[k]?:=fun w o k h=>Below.heap_alloc _ _ _ h
 refine ⟨_,rfl,by simp,((((Below.refl _ w).alloc (Nat.le_refl _) _).alloc (by simp) _).alloc (by simp;omega) _).alloc (by simp;omega) _,?_,?_,?_,?_⟩
 ·rw [al _ _ _ (by simp<;>omega),al _ _ _ (by simp<;>omega),al _ _ _ (by simp),World.alloc_heap_new]
 ·rw [al _ _ _ (by simp<;>omega),al _ _ _ (by simp)]
  have:=World.alloc_heap_new (w.alloc o0) o1
  rw [World.size_alloc] at this;exact this
 ·rw [al _ _ _ (by simp)]
  have:=World.alloc_heap_new ((w.alloc o0).alloc o1) o2
  rw [World.size_alloc,World.size_alloc] at this;exact this
 ·have:=World.alloc_heap_new (((w.alloc o0).alloc o1).alloc o2) o3
  rw [World.size_alloc,World.size_alloc,World.size_alloc] at this;exact this
structure RngY (pR:Nat) (w0:World) (pred:List UInt8→Bool) (pre:List (List UInt8)) (W:World):Prop where
 res:W.cell? ⟨pR,0,none⟩=some (.bool true)
 below:Below w0.heap.size w0 W
 no:pre.all pred=false
theorem k3o {pR:Nat} {w0:World} {pred:List UInt8→Bool} {B:Nat} (hB:w0.heap.size≤B):OwnFrom B (RngY pR w0 pred):=fun s W W' row h hg hr =>
 ⟨qe2 h.res hg hr,h.below.grown hg h.below.size (fun k e=>Nat.le_trans hB (hr k e).1),h.no⟩
theorem joj {pred:List UInt8→Bool} {s x:List UInt8} {pre t:List (List UInt8)} (hsp:spl 47 [] s=pre++x::t) (hn:(pre ++ [x]).all pred=false):(spl 47 [] s).all pred=false:=by
 rw [List.all_append,Bool.and_eq_false_iff] at hn
 rw [hsp,List.all_append,Bool.and_eq_false_iff]
 rcases hn with hn|hn
 ·exact Or.inl hn
 ·refine Or.inr ?_
  simp only [List.all_cons,List.all_nil,Bool.and_true] at hn
  rw [List.all_cons,hn];rfl
end YtggoebaobojmjaaGreatDoor.AM
end Go.Proofs
