
import Derived.Test.YtlmjgghohipipaaGreatDoorLc8
import Derived.Lib.ItoaNum
import Derived.Lib.AtoiAll
import Derived.Shelf.LaysC
import Derived.Shelf.Strconv.Itoa3
import Derived.Shelf.Strconv.AtoiAll
import Derived.Shelf.Small.Strs
import Derived.Shelf.Strings.SplitShaped
import Derived.Lib.LaidTab
import Derived.Lib.AppendIntMem
import Derived.Stop.LaidErr
import Derived.WalkSmall
namespace Go.Proofs.YtlmjgghohipipaaGreatDoor.AM
open Go.RowKit
set_option linter.unusedVariables false
set_option linter.unusedSimpArgs false
abbrev VD:=Int×(Int×(Int×(List UInt8×List UInt8)))
abbrev v0:VD:=(0,(0,(0,([],[]))))
def q23 (c:UInt8):Bool:=decide (48≤c.toNat)&&decide (c.toNat≤57)
def qrb (c:UInt8):Bool:=(decide (97≤c.toNat)&&decide (c.toNat≤122))||(decide (65≤c.toNat)&&decide (c.toNat≤90))||q23 c||decide (c.toNat=45)
def qa5 (s:List UInt8):Bool:=s.all q23 && !decide (s = [])
def q1r (s:List UInt8):Bool:=s.all qrb && !decide (s = [])
def q4e (s:List UInt8):Bool:=q1r s&&(decide (s = [48]) || !decide (s.head? = some 48) || !qa5 s)
def q3k (p:List UInt8→Bool) (s:List UInt8):Bool:=decide (s = [])||(decide (s.length≤30)&&(spl 46 [] s).all p)
def j5r (n:Int):Bool:=decide (0≤n)&&decide (n≤999999999)
def q0n (v:VD):Bool:=j5r v.1&&j5r v.2.1&&j5r v.2.2.1&&q3k q4e v.2.2.2.1&&q3k q1r v.2.2.2.2
def q3m (c:UInt8) (s:List UInt8):List UInt8:=if s = [] then [] else c::s
def j7v (v:VD):List UInt8:=118::(Lib.itoa v.1++46::(Lib.itoa v.2.1++46::(Lib.itoa v.2.2.1++(q3m 45 v.2.2.2.1++q3m 43 v.2.2.2.2))))
def q5b (v:VD):List UInt8:=if q0n v then j7v v else []
def jah (w:List UInt8):Int×(Int×List UInt8):=if qa5 w then (0,(w.length,w)) else (1,(0,w))
def jb1 (x y:List UInt8):Int:=qi0 qmy (qi0 qmy (cmpL cmpB)) (jah x) (jah y)
def j8i (p:List UInt8):Int×List (List UInt8):=(if p = [] then 1 else 0,spl 46 [] p)
def qih (a b:List UInt8):Int:=qi0 qmy (cmpL jb1) (j8i a) (j8i b)
def core (v:VD):Int×(Int×(Int×List UInt8)):=(v.1,(v.2.1,(v.2.2.1,v.2.2.2.1)))
def cmpC (x y:Int×(Int×(Int×List UInt8))):Int:=qi0 qmy (qi0 qmy (qi0 qmy qih)) x y
def qd6 (v w:VD):Int:=if q0n v&&q0n w then cmpC (core v) (core w) else 0
theorem j6o (x y:List UInt8) (h:jah x=jah y):x=y:=by
 unfold jah at h
 split at h<;>split at h<;>simp at h<;>first|exact h.2|exact h
theorem j6i:Cmp jb1:=(q7c q5g (q7c q5g (qwe j56))).key jah j6o
def j5w (c:UInt8):List (List UInt8)→List UInt8
 | []=>[]
 | [x]=>x
 | x::y::t=>x++c::j5w c (y::t)
theorem jdn (c:UInt8) (l cur:List UInt8):spl c cur l ≠ []:=fun h=>by have:=(qbb c l cur).1;rw [h] at this;simp at this
theorem q8o (c:UInt8) : ∀ (l cur:List UInt8),j5w c (spl c cur l)=cur++l
 | [],cur=>by simp [spl,j5w]
 | b::l,cur=>by
  rw [spl]
  split
  ·rename_i h;subst h
   have ih:=q8o b l []
   cases hs:spl b [] l with
   | nil=>exact absurd hs (jdn b l [])
   | cons y t=>rw [hs] at ih;rw [j5w,ih];simp
  ·rw [q8o c l];simp
theorem j9w (c:UInt8) (x y:List UInt8) (h:spl c [] x=spl c [] y):x=y:=by
 have h1:=q8o c x []
 have h2:=q8o c y []
 rw [h] at h1
 simpa using h1.symm.trans h2
theorem j6b (x y:List UInt8) (h:j8i x=j8i y):x=y:=j9w 46 x y (congrArg Prod.snd h)
theorem qic:Cmp qih:=(q7c q5g (qwe j6i)).key j8i j6b
theorem quu:Cmp cmpC:=q7c q5g (q7c q5g (q7c q5g qic))
theorem qmv (c:UInt8) (p:UInt8→Bool) : ∀ (l cur:List UInt8),(spl c cur l).all (fun w=>w.all p)=true↔(cur.all p=true∧∀ b∈l,b=c∨p b=true)
 | [],cur=>by simp [spl]
 | b::l,cur=>by
  rw [spl]
  split
  ·rename_i h;subst h
   rw [List.all_cons,Bool.and_eq_true,qmv b p l []]
   simp
  ·rename_i h
   rw [qmv c p l]
   simp only [List.all_append,List.all_cons,List.all_nil,Bool.and_true,Bool.and_eq_true,List.mem_cons,forall_eq_or_imp,h,false_or,and_assoc]
theorem qen {d:Nat} (h:d<10):q23 (UInt8.ofNat (48+d))=true:=by
 unfold q23
 have:(UInt8.ofNat (48+d)).toNat=48+d:=by rw [UInt8.toNat_ofNat'];omega
 rw [this];simp;omega
theorem j25 (n:Nat):(Lib.decDigits n).all q23=true∧Lib.decDigits n ≠ []:=by
 induction n using Nat.strongRecOn with
 | _ n ih =>
  rw [Lib.decDigits]
  split
  ·rename_i h;exact ⟨by rw [List.all_cons,qen h];rfl,by simp⟩
  ·rename_i h
   have:=ih (n / 10) (by omega)
   exact ⟨by rw [List.all_append,this.1,List.all_cons,qen (show n % 10<10 by omega)];rfl,by simp⟩
theorem qeu : ∀ (k n:Nat),n<10 ^ (k+1)→(Lib.decDigits n).length≤k+1
 | 0,n,h=>by rw [Lib.decDigits,dif_pos (by omega)];simp
 | k+1,n,h=>by
  rw [Lib.decDigits]
  split
  ·simp
  ·have:=qeu k (n / 10) (by rw [Nat.pow_succ] at h;omega)
   simp;omega
theorem qqk : ∀ (l r:List UInt8) (a:Nat) (u:Nat),Lib.parseUint10 a l = .ok u→Lib.parseUint10 a (l++r)=Lib.parseUint10 u r
 | [],r,a,u,h=>by simp only [Lib.parseUint10] at h;injection h with h;subst h;rfl
 | c::l,r,a,u,h=>by
  rw [List.cons_append]
  conv=>lhs;unfold Lib.parseUint10
  unfold Lib.parseUint10 at h
  split at h
  ·rename_i h1
   rw [if_pos h1]
   split at h
   ·cases h
   ·rename_i h2
    rw [if_neg h2]
    split at h
    ·cases h
    ·rename_i h3
     rw [if_neg h3]
     exact qqk l r _ u h
  ·cases h
theorem j0z (n:Nat) (h:n<1000000000000000000):Lib.parseUint10 0 (Lib.decDigits n) = .ok n:=by
 induction n using Nat.strongRecOn with
 | _ n ih =>
  have t1 : ∀ d,d<10→(UInt8.ofNat (48+d)).toNat=48+d:=fun d hd=>by rw [UInt8.toNat_ofNat'];omega
  rw [Lib.decDigits]
  split
  ·rename_i h1
   unfold Lib.parseUint10 Lib.parseUint10
   rw [t1 n h1,if_pos (by omega),if_neg (by omega),if_neg (by omega)]
   congr 1;omega
  ·rename_i h1
   have h2:=ih (n / 10) (by omega) (by omega)
   rw [qqk _ _ _ _ h2]
   unfold Lib.parseUint10 Lib.parseUint10
   rw [t1 _ (show n % 10<10 by omega),if_pos (by omega),if_neg (by omega),if_neg (by omega)]
   congr 1;omega
theorem q1g {n:Int} (h:0≤n):Lib.itoa n=Lib.decDigits n.toNat:=by unfold Lib.itoa;rw [if_neg (by omega)]
theorem qf4 {n:Int} (h0:0≤n) (h1:n≤999999999):Lib.atoiAll (Lib.itoa n) = .ok n:=by
 rw [q1g h0]
 have hd:=j25 n.toNat
 have hp:=j0z n.toNat (by omega)
 generalize Lib.decDigits n.toNat=l at hd hp
 cases l with
 | nil=>exact absurd rfl hd.2
 | cons c r =>
  have hc:q23 c=true:=by have:=hd.1;simp at this;exact this.1
  unfold q23 at hc
  simp at hc
  unfold Lib.atoiAll
  have c43 : ¬ c.toNat=43:=by omega
  have c45 : ¬ c.toNat=45:=by omega
  simp only [c43,or_self,if_false,c45,not_false_eq_true,true_and,false_and]
  unfold Lib.parseMag
  rw [if_neg (by simp),hp]
  simp only
  rw [if_neg (by omega)]
  congr 1;omega
theorem qif (c:UInt8) : ∀ l:List UInt8,c ∉ l→Lib.index l [c] = -1
 | [],_=>by simp [Lib.index]
 | b::l,h=>by
  have h1:b≠c:=fun e=>h (by simp [e])
  have ih:=qif c l (fun e=>h (by simp [e]))
  rw [qmw h1,ih];rfl
theorem index_hit (c:UInt8) : ∀ (l r:List UInt8),c ∉ l→Lib.index (l++c::r) [c]=((l.length:Nat):Int)
 | [],r,_=>index_self c r
 | b::l,r,h=>by
  have h1:b≠c:=fun e=>h (by simp [e])
  have ih:=index_hit c l r (fun e=>h (by simp [e]))
  rw [List.cons_append,qmw h1,ih]
  have:((((l.length:Nat):Int) == -1)=true)=False:=by simp
  simp only [this,if_false,List.length_cons];omega
def q1x (c:UInt8) (s:List UInt8):List UInt8:=if Lib.index s [c] = -1 then s else s.take (Lib.index s [c]).toNat
def q9z (c:UInt8) (s:List UInt8):List UInt8:=if Lib.index s [c] = -1 then [] else s.drop ((Lib.index s [c]).toNat+1)
theorem quz (c:UInt8) (x t:List UInt8) (h:c ∉ x):q1x c (x++q3m c t)=x∧q9z c (x++q3m c t)=t:=by
 unfold q3m q1x q9z
 split
 ·rename_i e;subst e
  rw [List.append_nil,qif c x h];exact ⟨rfl,rfl⟩
 ·rw [index_hit c x t h]
  have n1 : ¬ ((x.length:Nat):Int) = -1:=by omega
  simp only [n1,if_false,Int.toNat_natCast]
  simp
theorem j0s (c:UInt8) (x t:List UInt8) (h:c ∉ x):q1x c (x++c::t)=x∧q9z c (x++c::t)=t:=by
 unfold q1x q9z
 rw [index_hit c x t h]
 have n1 : ¬ ((x.length:Nat):Int) = -1:=by omega
 simp only [n1,if_false,Int.toNat_natCast]
 simp
theorem qm1 (c:UInt8) (x t:List UInt8) (h:c ∉ x):spl c [] (x++c::t)=x::spl c [] t:=by
 rw [qlr c x [] _ h,List.nil_append,spl,if_pos rfl]
theorem qov (c:UInt8) (x:List UInt8) (h:c ∉ x):spl c [] x = [x]:=by
 have:=qlr c x [] [] h
 simpa [spl] using this
theorem qm7 {p:List UInt8→Bool} (hp : ∀ w,p w=true→w.all qrb=true) {s:List UInt8} (h:q3k p s=true) : ∀ b∈s,b=46∨qrb b=true:=by
 unfold q3k at h
 simp only [Bool.or_eq_true,Bool.and_eq_true,decide_eq_true_eq] at h
 rcases h with rfl|⟨_,h⟩
 ·intro b hb;cases hb
 ·exact ((qmv 46 qrb s []).1 (List.all_eq_true.2 fun w hw=>hp w (List.all_eq_true.1 h w hw))).2
theorem qij (w:List UInt8) (h:q1r w=true):w.all qrb=true:=by unfold q1r at h;simp only [Bool.and_eq_true] at h;exact h.1
theorem qqe (w:List UInt8) (h:q4e w=true):w.all qrb=true:=by unfold q4e at h;simp only [Bool.and_eq_true] at h;exact qij w h.1
theorem qlm {c:UInt8} (hc:q23 c=false) (n:Nat):c ∉ Lib.decDigits n:=fun h=>by
 have:=List.all_eq_true.1 (j25 n).1 c h
 rw [hc] at this;cases this
theorem sg43:qrb 43=false:=by decide
theorem q1p {v:VD} (h:q0n v=true):(0≤v.1∧v.1≤999999999)∧(0≤v.2.1∧v.2.1≤999999999)∧(0≤v.2.2.1∧v.2.2.1≤999999999)∧q3k q4e v.2.2.2.1=true∧q3k q1r v.2.2.2.2=true:=by
 unfold q0n j5r at h
 simp only [Bool.and_eq_true,decide_eq_true_eq] at h
 exact ⟨h.1.1.1.1,h.1.1.1.2,h.1.1.2,h.1.2,h.2⟩
theorem q79 {p:List UInt8→Bool} {s:List UInt8} (h:q3k p s=true):s.length≤30:=by
 unfold q3k at h
 simp only [Bool.or_eq_true,Bool.and_eq_true,decide_eq_true_eq] at h
 rcases h with rfl|h
 ·simp
 ·exact h.1
def q9x (s:List UInt8):Int:=match Lib.atoiAll s with
 | .ok v=>v
 | _=>-1
def q0o (s:List UInt8):List UInt8:=if s.head? = some 118 then s.drop 1 else s
def qyj (s:List UInt8):VD:=(q9x (q1x 46 (q0o (q1x 45 (q1x 43 s)))),(q9x (q1x 46 (q9z 46 (q0o (q1x 45 (q1x 43 s))))),(q9x (q9z 46 (q9z 46 (q0o (q1x 45 (q1x 43 s))))),(q9z 45 (q1x 43 s),q9z 43 s))))
theorem j8z {v:VD} (h:q0n v=true) : ∀ pf:List UInt8,43 ∉ pf→45 ∉ pf →
  q1x 43 (pf++(Lib.itoa v.1++46::(Lib.itoa v.2.1++46::(Lib.itoa v.2.2.1++(q3m 45 v.2.2.2.1++q3m 43 v.2.2.2.2)))))=pf++(Lib.itoa v.1++46::(Lib.itoa v.2.1++46::(Lib.itoa v.2.2.1++q3m 45 v.2.2.2.1))) ∧
  q9z 43 (pf++(Lib.itoa v.1++46::(Lib.itoa v.2.1++46::(Lib.itoa v.2.2.1++(q3m 45 v.2.2.2.1++q3m 43 v.2.2.2.2)))))=v.2.2.2.2 ∧
  q1x 45 (pf++(Lib.itoa v.1++46::(Lib.itoa v.2.1++46::(Lib.itoa v.2.2.1++q3m 45 v.2.2.2.1))))=pf++(Lib.itoa v.1++46::(Lib.itoa v.2.1++46::Lib.itoa v.2.2.1)) ∧
  q9z 45 (pf++(Lib.itoa v.1++46::(Lib.itoa v.2.1++46::(Lib.itoa v.2.2.1++q3m 45 v.2.2.2.1))))=v.2.2.2.1:=by
 intro pf p1 p2
 obtain ⟨h1,h2,h3,h4,h5⟩:=q1p h
 have d43:q23 43=false:=by decide
 have d45:q23 45=false:=by decide
 have t43:(43:UInt8) ∉ q3m 45 v.2.2.2.1:=by
  unfold q3m
  split
  ·simp
  ·intro hm
   rcases List.mem_cons.1 hm with hm|hm
   ·cases hm
   ·rcases qm7 qqe h4 _ hm with hm|hm
    ·cases hm
    ·rw [sg43] at hm;cases hm
 rw [q1g h1.1,q1g h2.1,q1g h3.1]
 have m43:=fun n=>qlm d43 n
 have m45:=fun n=>qlm d45 n
 have a1:=quz 43 (pf++(Lib.decDigits v.1.toNat++46::(Lib.decDigits v.2.1.toNat++46::(Lib.decDigits v.2.2.1.toNat++q3m 45 v.2.2.2.1)))) v.2.2.2.2 (by simp [m43,t43,p1])
 have a2:=quz 45 (pf++(Lib.decDigits v.1.toNat++46::(Lib.decDigits v.2.1.toNat++46::Lib.decDigits v.2.2.1.toNat))) v.2.2.2.1 (by simp [m45,p2])
 simp only [List.append_assoc,List.cons_append] at a1 a2
 exact ⟨a1.1,a1.2,a2.1,a2.2⟩
theorem j09 {v:VD} (h:q0n v=true):qyj (j7v v)=v:=by
 obtain ⟨h1,h2,h3,h4,h5⟩:=q1p h
 have d46:q23 46=false:=by decide
 have m46:=fun n=>qlm d46 n
 have e0:j7v v = [118]++(Lib.itoa v.1++46::(Lib.itoa v.2.1++46::(Lib.itoa v.2.2.1++(q3m 45 v.2.2.2.1++q3m 43 v.2.2.2.2)))):=rfl
 obtain ⟨k1,k2,k3,k4⟩:=j8z h [118] (by decide) (by decide)
 unfold qyj
 rw [e0,k1,k2,k3,k4]
 have e1:q0o ([118]++(Lib.itoa v.1++46::(Lib.itoa v.2.1++46::Lib.itoa v.2.2.1)))=Lib.itoa v.1++46::(Lib.itoa v.2.1++46::Lib.itoa v.2.2.1):=rfl
 rw [e1]
 have c1:=j0s 46 (Lib.itoa v.1) (Lib.itoa v.2.1++46::Lib.itoa v.2.2.1) (by rw [q1g h1.1];exact m46 _)
 have c2:=j0s 46 (Lib.itoa v.2.1) (Lib.itoa v.2.2.1) (by rw [q1g h2.1];exact m46 _)
 rw [c1.1,c1.2,c2.1,c2.2]
 unfold q9x
 rw [qf4 h1.1 h1.2,qf4 h2.1 h2.2,qf4 h3.1 h3.2]
theorem j9m {v:VD} (h:q0n v=true):(j7v v).length≤92:=by
 obtain ⟨h1,h2,h3,h4,h5⟩:=q1p h
 have l1:=qeu 8 v.1.toNat (by omega)
 have l2:=qeu 8 v.2.1.toNat (by omega)
 have l3:=qeu 8 v.2.2.1.toNat (by omega)
 have t1:=q79 h4
 have t2:=q79 h5
 have tt : ∀ (c:UInt8) (s:List UInt8),(q3m c s).length≤s.length+1:=fun c s=>by unfold q3m;split<;>simp
 have u1:=tt 45 v.2.2.2.1
 have u2:=tt 43 v.2.2.2.2
 unfold j7v
 rw [q1g h1.1,q1g h2.1,q1g h3.1]
 simp only [List.length_cons,List.length_append]
 omega
def q19 (s:List UInt8):VD×Bool:=if q0n (qyj s)&&decide (q5b (qyj s)=s) then (qyj s,true) else (v0,false)
theorem j73 {s:List UInt8} {v:VD} (h:q0n v=true) (ht:q5b v=s):q19 s=(v,true):=by
 have e1:s=j7v v:=by rw [← ht];unfold q5b;rw [if_pos h]
 subst e1
 unfold q19
 rw [j09 h,if_pos (by simp [h,ht])]
theorem qxu {s:List UInt8} (h:(q19 s).2=true):q0n (q19 s).1=true∧q5b (q19 s).1=s:=by
 unfold q19 at *
 split at h
 ·rename_i h1
  rw [if_pos h1]
  simp only [Bool.and_eq_true,decide_eq_true_eq] at h1
  exact h1
 ·cases h
end Go.Proofs.YtlmjgghohipipaaGreatDoor.AM
namespace Go.Proofs
open Go.RowKit Go.Shelf Go.Lib
shelf_lay LaysM.n171 Nm 171 at Tryz as Tryz.laysItoa
shelf_lay LaysC.n172 Nm 172 at Tryz as Tryz.laysAtoi
set_option linter.unusedVariables false
set_option linter.unusedSimpArgs false
namespace YtlmjgghohipipaaGreatDoor.AM
structure Inv (w:World):Prop where
 maxLen : ∃ m,w.cell? ⟨Tryz.laysIndex_ren.g 1,0,none⟩=some (.int .i64 m)
 tab:Lib.TabIs Tryz.prog w "internal/strconv.uint64pow10" .u64 Lib.pow10Tab
 syn : ∃ tp p,w.cell? ⟨Tryz.laysAtoi_ren.g 15,0,none⟩=some (.iface tp p)
 rng : ∃ tp p,w.cell? ⟨Tryz.laysAtoi_ren.g 16,0,none⟩=some (.iface tp p)
theorem gTab:(Tryz.prog.globalNamed "internal/strconv.uint64pow10").isSome=true:=by kernel_rfl
theorem Inv.below {w w':World} (h:Inv w) (hb:Below w.heap.size w w'):Inv w':=by
 obtain ⟨⟨m,hm⟩,ht,⟨t1,p1,h1⟩,⟨t2,p2,h2⟩⟩:=h
 refine ⟨⟨m,(hb.cell (p:=⟨_,0,none⟩) (World.block_lt_of_cell? _ _ hm)).trans hm⟩,?_,⟨t1,p1,(hb.cell (p:=⟨_,0,none⟩) (World.block_lt_of_cell? _ _ h1)).trans h1⟩,⟨t2,p2,(hb.cell (p:=⟨_,0,none⟩) (World.block_lt_of_cell? _ _ h2)).trans h2⟩⟩
 obtain ⟨g,hg⟩:=Option.isSome_iff_exists.1 gTab
 refine var?_below hb hg ?_ ht
 have hv:w.var? Tryz.prog "internal/strconv.uint64pow10" = some _:=ht
 unfold World.var? at hv
 rw [hg] at hv
 simp only [Option.bind_some] at hv
 split at hv
 ·rename_i h5;exact (Array.getElem?_eq_some_iff.1 h5).1
 ·cases hv
theorem q34:Know Inv Inv:=⟨fun w w' h hb=>h.below hb,fun _ h=>h⟩
variable {P:Program}
theorem q2x {Pc:Nat→Nat→Prop} {w w':World} {v:Value} {d:D} {e:Ending} (he:e = .returned v) (hb:Below w.heap.size w w') (hv:q0v (q37 Pc) q6b w' v d) :
  ∃ v' Pc',e = .returned v'∧Below w.heap.size w w'∧(∀ b o,Pc b o→Pc' b o)∧(∀ b o,Pc' b o→Pc b o∨(w.heap.size≤b∧b<w'.heap.size))∧q0v (q37 Pc') q6b w' v' d :=
 ⟨v,Pc,he,hb,fun _ _ h=>h,fun _ _ h=>Or.inl h,hv⟩
abbrev qhk:SD:=.one (.c (.d .str))
abbrev intA:SD:=.one (.c (.d (.int .i64)))
abbrev j5q:SD:=.one (.c (.d .bool))
def qf8 (s sep:List UInt8):Option Int:=match sep with
 | [c]=>if s.length<4294967281 then some (Lib.index s [c]) else none
 | _=>none
def qwx:FC:={ f:=115,args:=[qhk,qhk],res:=intA,F:=fun p=>qf8 p.1 p.2 }
theorem j6l:q0d Inv Tryz.prog qwx:=fun G hG=>⟨⟨by kernel_rfl,fun a r h=>by
 obtain ⟨s,sep⟩:=a
 have h':qf8 s sep=some r:=h
 unfold qf8 at h'
 split at h'
 case h_2=>cases h'
 rename_i c
 split at h'
 case isFalse=>cases h'
 rename_i hc
 have hr:Lib.index s [c]=r:=Option.some.inj h'
 intro Pc w vs hg hlt hv
 obtain ⟨m,hm⟩:=(hG.im w hg).maxLen
 obtain ⟨l⟩:=vs
 match l,hv with
 | [x,y],⟨h1,h2,_⟩ =>
  obtain rfl:x = .string (ba s):=q05 h1
  obtain rfl:y = .string (ba [c]):=q05 h2
  have e1:(ba s).data.toList=s:=by simp [ba]
  have e2:(ba [c]).data.toList = [c]:=by simp [ba]
  have hh:=Any.stringslite_Index { Tryz.laysIndex with } (ba s) (ba [c]) m w (by rw [q0p];exact hc) hm
  rw [e1,e2,hr] at hh
  refine hh.mono ?_
  rintro e w' ⟨rfl,rfl⟩
  exact q2x rfl (Below.refl _ _) (q02 _)⟩,rfl⟩
def qew (n:Int):Option (List UInt8):=if -9223372036854775808≤n∧n≤9223372036854775807 then some (Lib.itoa n) else none
def j2e:FC:={ f:=94,args:=[intA],res:=qhk,F:=fun p=>qew p }
theorem jar:q0d Inv Tryz.prog j2e:=fun G hG=>⟨⟨by kernel_rfl,fun (n:Int) r h=>by
 have h':qew n=some r:=h
 unfold qew at h'
 split at h'
 case isFalse=>cases h'
 rename_i hc
 have hr:Lib.itoa n=r:=Option.some.inj h'
 intro Pc w vs hg hlt hv
 obtain ⟨l⟩:=vs
 match l,hv with
 | [x],⟨h1,_⟩ =>
  obtain rfl:x = .int .i64 n:=q05 h1
  refine (Any.strconv_Itoa Tryz.laysItoa n hc.1 hc.2 w (hG.im w hg).tab).mono ?_
  rintro e w' ⟨rfl,k,os,rfl⟩
  subst hr
  exact q2x rfl (Lib.below_grow _ w (Nat.le_refl _) k os) (q02 (.string (ba (Lib.itoa n))))⟩,rfl⟩
end YtlmjgghohipipaaGreatDoor.AM
end Go.Proofs
namespace Go.Proofs
open Go.RowKit Go.Shelf Go.Lib
shelf_lay LaysM.n146 Nm 146 at Tryz as Tryz.laysSplit
shelf_lay Lays.n106 Nm 106 at Tryz as Tryz.laysCompare
set_option linter.unusedVariables false
set_option linter.unusedSimpArgs false
namespace YtlmjgghohipipaaGreatDoor.AM
variable {P:Program}
def qig:FC:={ f:=111,args:=[qhk,qhk],res:=intA,F:=fun p=>some (Lib.compareBytes p.1 p.2) }
def qac (a b:List UInt8):Option Int:=some (Lib.compareBytes a b)
theorem qxt:q0d Inv Tryz.prog qig:=fun G hG=>⟨⟨by kernel_rfl,fun a r h=>by
 obtain ⟨s,t⟩:=a
 have hr:Lib.compareBytes s t=r:=Option.some.inj h
 intro Pc w vs hg hlt hv
 obtain ⟨l⟩:=vs
 match l,hv with
 | [x,y],⟨h1,h2,_⟩ =>
  obtain rfl:x = .string (ba s):=q05 h1
  obtain rfl:y = .string (ba t):=q05 h2
  have e1:(ba s).data.toList=s:=by simp [ba]
  have e2:(ba t).data.toList=t:=by simp [ba]
  have hh:=Any.strings_Compare Tryz.laysCompare (ba s) (ba t) w
  rw [e1,e2,hr] at hh
  refine hh.mono ?_
  rintro e w' ⟨rfl,rfl⟩
  exact q2x rfl (Below.refl _ _) (q02 _)⟩,rfl⟩
theorem qq3 (s:List UInt8) (w:World) (hI:Inv w) (hlim:s.length≤281474976710656):Calls Tryz.prog 73 #[.string (ba s)] w fun e w'=>e = .returned (.int .i64 (q9x s))∧Below w.heap.size w w':=by
 have e1:(ba s).data.toList=s:=by simp [ba]
 have hl:(ba s).size≤281474976710656:=by rw [q0p];exact hlim
 obtain ⟨ts,ps,hs⟩:=hI.syn
 obtain ⟨tr,pr,hr⟩:=hI.rng
 go_enter Tryz.func73,Tryz.ntmps73
 unfold q9x
 cases h:Lib.atoiAll s with
 | ok v =>
  go_wp2_with (go_at_call 93;refine (Any.strconv_Atoi_ok Tryz.laysAtoi (ba s) (by omega) v (by rw [e1];exact h) w).mono ?_)
  rintro e w' ⟨rfl,hw⟩
  go_wp2
  go_ret
  refine ⟨rfl,?_⟩
  rcases hw with rfl|⟨t,rfl⟩
  ·exact Below.refl _ _
  ·exact Lib.bytesWorld_below _ _ _
 | «syntax» =>
  go_wp2_with (go_at_call 93;refine (Any.strconv_Atoi_syntax Tryz.laysAtoi (ba s) hl (by rw [e1];exact h) _ w hs (Or.inr ⟨_,_,rfl⟩)).mono ?_)
  rintro e w' ⟨N,rfl,hN,hc,hb⟩
  go_wp2
  go_ret
  exact ⟨rfl,hb⟩
 | range =>
  go_wp2_with (go_at_call 93;refine (Any.strconv_Atoi_range Tryz.laysAtoi (ba s) hl (by rw [e1];exact h) _ w hr (Or.inr ⟨_,_,rfl⟩)).mono ?_)
  rintro e w' ⟨N,rfl,hN,hc,hb⟩
  go_wp2
  go_ret
  exact ⟨rfl,hb⟩
def q36 (s:List UInt8):Option Int:=if s.length≤281474976710656 then some (q9x s) else none
def qod:FC:={ f:=73,args:=[qhk],res:=intA,F:=fun p=>q36 p }
theorem j0m:q0d Inv Tryz.prog qod:=fun G hG=>⟨⟨by kernel_rfl,fun (s:List UInt8) r h=>by
 have h':q36 s=some r:=h
 unfold q36 at h'
 split at h'
 case isFalse=>cases h'
 rename_i hc
 have hr:q9x s=r:=Option.some.inj h'
 intro Pc w vs hg hlt hv
 obtain ⟨l⟩:=vs
 match l,hv with
 | [x],⟨h1,_⟩ =>
  obtain rfl:x = .string (ba s):=q05 h1
  refine (qq3 s w (hG.im w hg) hc).mono ?_
  rintro e w' ⟨rfl,hb⟩
  subst hr
  exact q2x rfl hb (q02 _)⟩,rfl⟩
theorem jc0:Tryz.laysSplit_ren.g 1=Tryz.laysIndex_ren.g 1:=by kernel_rfl
def q49 (s sep:List UInt8):Option (List (List UInt8)):=match sep with
 | [c]=>if s.length<4294967281 then some (spl c [] s) else none
 | _=>none
def qdl:FC:={ f:=41,args:=[qhk,qhk],res:=.one (.c (.d (.lst .str))),F:=fun p=>q49 p.1 p.2 }
theorem qkk:q0d Inv Tryz.prog qdl:=fun G hG=>⟨⟨by kernel_rfl,fun a r h=>by
 obtain ⟨s,sep⟩:=a
 have h':q49 s sep=some r:=h
 unfold q49 at h'
 split at h'
 case h_2=>cases h'
 rename_i c
 split at h'
 case isFalse=>cases h'
 rename_i hc
 have hr:(Lib.splitB (ba [c]) 0 (Lib.countB (ba s) (ba [c])) (ba s)).map unB=r:=(qy6 c s).trans (Option.some.inj h')
 intro Pc w vs hg hlt hv
 obtain ⟨m,hm⟩:=(hG.im w hg).maxLen
 obtain ⟨l⟩:=vs
 match l,hv with
 | [x,y],⟨h1,h2,_⟩ =>
  obtain rfl:x = .string (ba s):=q05 h1
  obtain rfl:y = .string (ba [c]):=q05 h2
  have b1:1≤(ba [c]).size:=by rw [q0p];exact Nat.le_refl _
  have hlen:(Lib.splitB (ba [c]) 0 (Lib.countB (ba s) (ba [c])) (ba s)).length=Lib.countB (ba s) (ba [c])+1:=Lib.splitB_all (ba [c]) b1 0 _ (ba s) rfl
  refine (Any.strings_Split { Tryz.laysSplit with } Tryz.laysSplit.i9 (ba s) (ba [c]) m w (by rw [q0p];exact hc) (by rw [jc0];exact hm) b1).mono ?_
  rintro e w' ⟨rfl,rfl⟩
  generalize hL:Lib.splitB (ba [c]) 0 (Lib.countB (ba s) (ba [c])) (ba s)=L at hlen hr
  refine ⟨_,fun b o=>Pc b o∨b=w.heap.size,rfl,(Below.refl _ _).alloc (Nat.le_refl _) _,fun b o hp=>Or.inl hp,?_,?_⟩
  ·rintro b o (hp|rfl)
   ·exact Or.inl hp
   ·exact Or.inr ⟨Nat.le_refl _,by simp⟩
  ·show DatRep _ _ _ (.lst 1 (r.map (q01 .str)))
   have hr2:r.map (q01 .str)=L.map fun x=>[Dat.v (.string x)]:=by
    rw [← hr,List.map_map]
    exact List.map_congr_left fun x _=>by show [Dat.v (.string (ba (unB x)))]=_;rw [j0y]
   rw [hr2,← hlen]
   have hmax:L.length≤maxLen:=by
    have:=Lib.countB_le (ba [c]) b1 (ba s).size (ba s) (Nat.le_refl _)
    rw [q0p] at this
    have hM:maxLen=9223372036854775807:=by decide
    omega
   refine .lst _ _ _ 1 _ w.heap.size 0 (fun k j=>.string (L.getD k ⟨#[]⟩)) (by simp) (Nat.le_refl _) hmax (fun x hx=>?_) (fun _=>rfl) (fun k j hk hj=>⟨Or.inr rfl,?_,rfl⟩) (fun k j hk hj=>?_)
   ·obtain ⟨y,_,rfl⟩:=List.mem_map.1 hx;rfl
   ·have hk':k<L.length:=by simpa using hk
    have hj0:j=0:=by omega
    subst hj0
    rw [World.cell?_alloc_new]
    simp [List.getD,hk']
   ·have hk':k<L.length:=by simpa using hk
    have hj0:j=0:=by simp at hj;exact hj
    subst hj0
    simp [List.getD,hk']
    exact .v _⟩,rfl⟩
end YtlmjgghohipipaaGreatDoor.AM
end Go.Proofs
namespace Go.Proofs.YtlmjgghohipipaaGreatDoor.AM
open Go.RowKit
set_option linter.unusedVariables false
set_option maxRecDepth 20000
def qem (n:Nat):List LC:=[]
def q2l (n:Nat) (a1:Int):Option (Bool) :=
 (bif decide ((48:Int)≤a1) then some (decide (a1≤(57:Int))) else some false)
def q3a (n:Nat):FC:={ f:=124,args:=[.one (.c (.d (.int .u8)))],res:=.one (.c (.d .bool)),F:=fun p=>q2l n p }
def qju (n:Nat):List FC:=[]
theorem qoq (n:Nat) {G:World→Prop} (hG:Know Inv G) : ∀ c∈qju n,q1b Tryz.prog G c∧q0i c.args=true:=(fun _ h=>by cases h)
def qiv:q0f:=[]
theorem qy9:drB qiv (q00 Tryz.f124)=true:=by kernel_rfl
theorem qxg (n:Nat) : ∀ a,(q3a n).F a=main Tryz.prog 9 (qju n) (qem n) qiv (q00 Tryz.f124) [.tmp 2] (q3a n).args (q3a n).res a:=by intro a;kernel_rfl
theorem qjt (n:Nat):q0d Inv Tryz.prog (q3a n):=fun G hG=>⟨⟨by kernel_rfl,fun a r h=>q06 (c:=q00 Tryz.f124) Tryz.func124 (by kernel_rfl) (by kernel_rfl) (Nat.le_of_ble_eq_true (by kernel_rfl)) hG.st (by kernel_rfl) (rs:=[.tmp 2]) (by kernel_rfl) (qoq n hG) (lts:=qem n) (fun F hF hFG=>have hK:Know Inv F.G:=hFG ▸ hG;(q07 fun j L h1 h2 h3=>absurd h2 (Nat.not_lt.2 (Nat.le_trans (by decide +kernel) h1)))) qy9 ((qxg n a).symm.trans h)⟩,rfl⟩
def qjb (n:Nat):List LC:=[]
def qde (n:Nat) (a1:Int):Option (Bool) :=
 (bif decide ((97:Int)≤a1) then (bif decide (a1≤(122:Int)) then some true else (bif decide ((65:Int)≤a1) then (bif decide (a1≤(90:Int)) then some true else (q2l n a1).bind fun (r1:Bool)=>(bif r1 then some true else some (decide (a1=(45:Int))))) else (q2l n a1).bind fun (r2:Bool)=>(bif r2 then some true else some (decide (a1=(45:Int)))))) else (bif decide ((65:Int)≤a1) then (bif decide (a1≤(90:Int)) then some true else (q2l n a1).bind fun (r3:Bool)=>(bif r3 then some true else some (decide (a1=(45:Int))))) else (q2l n a1).bind fun (r4:Bool)=>(bif r4 then some true else some (decide (a1=(45:Int))))))
def q6w (n:Nat):FC:={ f:=106,args:=[.one (.c (.d (.int .u8)))],res:=.one (.c (.d .bool)),F:=fun p=>qde n p }
def qou (n:Nat):List FC:=[q3a n]
theorem qsc (n:Nat) {G:World→Prop} (hG:Know Inv G) : ∀ c∈qou n,q1b Tryz.prog G c∧q0i c.args=true:=List.forall_mem_cons.2 ⟨qjt n G hG,(fun _ h=>by cases h)⟩
def qno:q0f:=[]
theorem j4b:drB qno (q00 Tryz.f106)=true:=by kernel_rfl
theorem j2c (n:Nat) : ∀ a,(q6w n).F a=main Tryz.prog 25 (qou n) (qjb n) qno (q00 Tryz.f106) [.tmp 2] (q6w n).args (q6w n).res a:=by intro a;kernel_rfl
theorem j0w (n:Nat):q0d Inv Tryz.prog (q6w n):=fun G hG=>⟨⟨by kernel_rfl,fun a r h=>q06 (c:=q00 Tryz.f106) Tryz.func106 (by kernel_rfl) (by kernel_rfl) (Nat.le_of_ble_eq_true (by kernel_rfl)) hG.st (by kernel_rfl) (rs:=[.tmp 2]) (by kernel_rfl) (qsc n hG) (lts:=qjb n) (fun F hF hFG=>have hK:Know Inv F.G:=hFG ▸ hG;(q07 fun j L h1 h2 h3=>absurd h2 (Nat.not_lt.2 (Nat.le_trans (by decide +kernel) h1)))) j4b ((j2c n a).symm.trans h)⟩,rfl⟩
@[reducible] def q7k:SSt:=⟨[(0,.one (.c (.d .str))),(1,.one (.c (.fn 106 []))),(7,.one (.c (.d (.int .i64)))),(8,.one (.c (.d (.int .i64))))],[],[]⟩
@[reducible] def q42:List (Exit×SSt):=[(.ret,⟨[(4,.one (.c (.d .bool)))],[],[]⟩),(.exit 0,⟨[(0,.one (.c (.d .str)))],[],[]⟩)]
def qex (n:Nat) (rec:(List UInt8)→Int→Int→Option (((Bool×(Unit))×(Unit)×(Unit))⊕(((List UInt8)×(Unit))×(Unit)×(Unit)))) (a1:List UInt8) (a2:Int) (a3:Int):Option (((Bool×(Unit))×(Unit)×(Unit))⊕(((List UInt8)×(Unit))×(Unit)×(Unit))) :=
 (bif decide (a3<a2) then (sAt a1 a3).bind fun (c1:Int)=>(qde n c1).bind fun (r2:Bool)=>(bif !r2 then some (Sum.inl ((false,()),((),()))) else q2f (IntKind.wrap .i64 (a3+(1:Int))) fun (n3:Int)=>rec a1 a2 n3) else some (Sum.inr (((a1,()),((),())))))
def qgj (n:Nat) (rec:pSt q7k→Option (q0t q42)) (p:pSt q7k):Option (q0t q42):=qex n (fun a1 a2 a3=>rec ((a1,((),(a2,(a3,())))),((),()))) p.1.1 p.1.2.2.1 p.1.2.2.2.1
def q3o (n m:Nat) (a1:List UInt8) (a2:Int) (a3:Int):Option (((Bool×(Unit))×(Unit)×(Unit))⊕(((List UInt8)×(Unit))×(Unit)×(Unit))):=q10 (qgj n) m ((a1,((),(a2,(a3,())))),((),()))
theorem qax (n m:Nat) (a1:List UInt8) (a2:Int) (a3:Int):q3o n (m+1) a1 a2 a3=qex n (fun a1 a2 a3=>q3o n m a1 a2 a3) a1 a2 a3:=rfl
def qq1 (n:Nat):LC:={ sh:=q7k,outs:=q42,F:=q10 (qgj n) n }
def qas (n:Nat):List LC:=[qq1 n]
def qdd (n:Nat) (a1:List UInt8) (a2:Unit):Option (Bool) :=
 (q3o n n a1 ((List.length a1:Nat):Int) (0:Int)).bind fun (o4:((Bool×(Unit))×(Unit)×(Unit))⊕(((List UInt8)×(Unit))×(Unit)×(Unit)))=>Sum.elim (fun (q5:(Bool×(Unit))×(Unit)×(Unit))=>some q5.1.1) (fun (q6:((List UInt8)×(Unit))×(Unit)×(Unit))=>some (!decide (q6.1.1=([]:List UInt8)))) o4
def q69 (n:Nat):FC:={ f:=105,args:=[.one (.c (.d .str)),.one (.c (.fn 106 []))],res:=.one (.c (.d .bool)),F:=fun p=>qdd n p.1 p.2 }
def qgk (n:Nat):List FC:=[q6w n]
theorem qe2 (n:Nat) {G:World→Prop} (hG:Know Inv G) : ∀ c∈qgk n,q1b Tryz.prog G c∧q0i c.args=true:=List.forall_mem_cons.2 ⟨j0w n G hG,(fun _ h=>by cases h)⟩
def qha:q0f:=[]
theorem qoh:drB qha (q00 Tryz.f105)=true:=by kernel_rfl
theorem qzj (n:Nat) : ∀ rec p,qgj n rec p=round Tryz.prog 20 (qgk n) (qas n) qha 1 q7k q42 (q03 0 0 (q00 Tryz.f105)) rec p:=by intro rec p;kernel_rfl
theorem qt7 (n:Nat) {F:Fr} (hF:F.n=20) (hK:Know Inv F.G):qk3 Tryz.prog F (qq1 n) (q03 0 0 (q00 Tryz.f105)) :=
 q1a hF (by kernel_rfl) (qe2 n hK) (qzj n) (fuel:=n) (fun _=>rfl) (q07 fun j L h1 h2 h3=>absurd h2 (Nat.not_lt.2 (Nat.le_trans (by decide +kernel) h1))) (q2t qoh)
theorem j40 (n:Nat) : ∀ a,(q69 n).F a=main Tryz.prog 20 (qgk n) (qas n) qha (q00 Tryz.f105) [.tmp 4] (q69 n).args (q69 n).res a:=by intro a;kernel_rfl
theorem j12 (n:Nat):q0d Inv Tryz.prog (q69 n):=fun G hG=>⟨⟨by kernel_rfl,fun a r h=>q06 (c:=q00 Tryz.f105) Tryz.func105 (by kernel_rfl) (by kernel_rfl) (Nat.le_of_ble_eq_true (by kernel_rfl)) hG.st (by kernel_rfl) (rs:=[.tmp 4]) (by kernel_rfl) (qe2 n hG) (lts:=qas n) (fun F hF hFG=>have hK:Know Inv F.G:=hFG ▸ hG;(q07 (c:=(q00 Tryz.f105)) (fun j L h1 h2 h3=>by
  have h2':j<1:=Nat.lt_of_lt_of_le h2 (by decide +kernel)
  match j,h1,h2',h3 with
  | 0,_,_,h3=>obtain rfl:=Option.some.inj h3;exact (show q03 0 0 (q00 Tryz.f105)=q03 0 0 (q00 Tryz.f105) by kernel_rfl) ▸ qt7 n hF hK
  | j+1,_,h2',_=>exact absurd h2' (by omega)))) qoh ((j40 n a).symm.trans h)⟩,rfl⟩
@[reducible] def q74:SSt:=⟨[(0,.one (.c (.d .str))),(1,.one (.c (.fn 124 []))),(7,.one (.c (.d (.int .i64)))),(8,.one (.c (.d (.int .i64))))],[],[]⟩
@[reducible] def q3v:List (Exit×SSt):=[(.ret,⟨[(4,.one (.c (.d .bool)))],[],[]⟩),(.exit 0,⟨[(0,.one (.c (.d .str)))],[],[]⟩)]
def qg5 (n:Nat) (rec:(List UInt8)→Int→Int→Option (((Bool×(Unit))×(Unit)×(Unit))⊕(((List UInt8)×(Unit))×(Unit)×(Unit)))) (a1:List UInt8) (a2:Int) (a3:Int):Option (((Bool×(Unit))×(Unit)×(Unit))⊕(((List UInt8)×(Unit))×(Unit)×(Unit))) :=
 (bif decide (a3<a2) then (sAt a1 a3).bind fun (c1:Int)=>(q2l n c1).bind fun (r2:Bool)=>(bif !r2 then some (Sum.inl ((false,()),((),()))) else q2f (IntKind.wrap .i64 (a3+(1:Int))) fun (n3:Int)=>rec a1 a2 n3) else some (Sum.inr (((a1,()),((),())))))
def qef (n:Nat) (rec:pSt q74→Option (q0t q3v)) (p:pSt q74):Option (q0t q3v):=qg5 n (fun a1 a2 a3=>rec ((a1,((),(a2,(a3,())))),((),()))) p.1.1 p.1.2.2.1 p.1.2.2.2.1
def q46 (n m:Nat) (a1:List UInt8) (a2:Int) (a3:Int):Option (((Bool×(Unit))×(Unit)×(Unit))⊕(((List UInt8)×(Unit))×(Unit)×(Unit))):=q10 (qef n) m ((a1,((),(a2,(a3,())))),((),()))
theorem qbh (n m:Nat) (a1:List UInt8) (a2:Int) (a3:Int):q46 n (m+1) a1 a2 a3=qg5 n (fun a1 a2 a3=>q46 n m a1 a2 a3) a1 a2 a3:=rfl
def qq4 (n:Nat):LC:={ sh:=q74,outs:=q3v,F:=q10 (qef n) n }
def qb6 (n:Nat):List LC:=[qq4 n]
def qd7 (n:Nat) (a1:List UInt8) (a2:Unit):Option (Bool) :=
 (q46 n n a1 ((List.length a1:Nat):Int) (0:Int)).bind fun (o4:((Bool×(Unit))×(Unit)×(Unit))⊕(((List UInt8)×(Unit))×(Unit)×(Unit)))=>Sum.elim (fun (q5:(Bool×(Unit))×(Unit)×(Unit))=>some q5.1.1) (fun (q6:((List UInt8)×(Unit))×(Unit)×(Unit))=>some (!decide (q6.1.1=([]:List UInt8)))) o4
def q6n (n:Nat):FC:={ f:=105,args:=[.one (.c (.d .str)),.one (.c (.fn 124 []))],res:=.one (.c (.d .bool)),F:=fun p=>qd7 n p.1 p.2 }
def qgh (n:Nat):List FC:=[q3a n]
theorem qhd (n:Nat) {G:World→Prop} (hG:Know Inv G) : ∀ c∈qgh n,q1b Tryz.prog G c∧q0i c.args=true:=List.forall_mem_cons.2 ⟨qjt n G hG,(fun _ h=>by cases h)⟩
def qg4:q0f:=[]
theorem qn8:drB qg4 (q00 Tryz.f105)=true:=by kernel_rfl
theorem qyu (n:Nat) : ∀ rec p,qef n rec p=round Tryz.prog 20 (qgh n) (qb6 n) qg4 1 q74 q3v (q03 0 0 (q00 Tryz.f105)) rec p:=by intro rec p;kernel_rfl
theorem qto (n:Nat) {F:Fr} (hF:F.n=20) (hK:Know Inv F.G):qk3 Tryz.prog F (qq4 n) (q03 0 0 (q00 Tryz.f105)) :=
 q1a hF (by kernel_rfl) (qhd n hK) (qyu n) (fuel:=n) (fun _=>rfl) (q07 fun j L h1 h2 h3=>absurd h2 (Nat.not_lt.2 (Nat.le_trans (by decide +kernel) h1))) (q2t qn8)
theorem j0c (n:Nat) : ∀ a,(q6n n).F a=main Tryz.prog 20 (qgh n) (qb6 n) qg4 (q00 Tryz.f105) [.tmp 4] (q6n n).args (q6n n).res a:=by intro a;kernel_rfl
theorem j2q (n:Nat):q0d Inv Tryz.prog (q6n n):=fun G hG=>⟨⟨by kernel_rfl,fun a r h=>q06 (c:=q00 Tryz.f105) Tryz.func105 (by kernel_rfl) (by kernel_rfl) (Nat.le_of_ble_eq_true (by kernel_rfl)) hG.st (by kernel_rfl) (rs:=[.tmp 4]) (by kernel_rfl) (qhd n hG) (lts:=qb6 n) (fun F hF hFG=>have hK:Know Inv F.G:=hFG ▸ hG;(q07 (c:=(q00 Tryz.f105)) (fun j L h1 h2 h3=>by
  have h2':j<1:=Nat.lt_of_lt_of_le h2 (by decide +kernel)
  match j,h1,h2',h3 with
  | 0,_,_,h3=>obtain rfl:=Option.some.inj h3;exact (show q03 0 0 (q00 Tryz.f105)=q03 0 0 (q00 Tryz.f105) by kernel_rfl) ▸ qto n hF hK
  | j+1,_,h2',_=>exact absurd h2' (by omega)))) qn8 ((j0c n a).symm.trans h)⟩,rfl⟩
def qjv (n:Nat):List LC:=[]
def qdj (n:Nat) (a1:List UInt8):Option (Bool) :=
 (qdd n a1 ()).bind fun (r1:Bool)=>some r1
def q6s (n:Nat):FC:={ f:=81,args:=[.one (.c (.d .str))],res:=.one (.c (.d .bool)),F:=fun p=>qdj n p }
def qp5 (n:Nat):List FC:=[q69 n]
theorem qtp (n:Nat) {G:World→Prop} (hG:Know Inv G) : ∀ c∈qp5 n,q1b Tryz.prog G c∧q0i c.args=true:=List.forall_mem_cons.2 ⟨j12 n G hG,(fun _ h=>by cases h)⟩
def qqb:q0f:=[]
theorem j1v:drB qqb (q00 Tryz.f81)=true:=by kernel_rfl
theorem j4m (n:Nat) : ∀ a,(q6s n).F a=main Tryz.prog 5 (qp5 n) (qjv n) qqb (q00 Tryz.f81) [.tmp 2] (q6s n).args (q6s n).res a:=by intro a;kernel_rfl
theorem qnb (n:Nat):q0d Inv Tryz.prog (q6s n):=fun G hG=>⟨⟨by kernel_rfl,fun a r h=>q06 (c:=q00 Tryz.f81) Tryz.func81 (by kernel_rfl) (by kernel_rfl) (Nat.le_of_ble_eq_true (by kernel_rfl)) hG.st (by kernel_rfl) (rs:=[.tmp 2]) (by kernel_rfl) (qtp n hG) (lts:=qjv n) (fun F hF hFG=>have hK:Know Inv F.G:=hFG ▸ hG;(q07 fun j L h1 h2 h3=>absurd h2 (Nat.not_lt.2 (Nat.le_trans (by decide +kernel) h1)))) j1v ((j4m n a).symm.trans h)⟩,rfl⟩
def qbz (n:Nat):List LC:=[]
def q39 (n:Nat) (a1:List UInt8):Option (Bool) :=
 (qd7 n a1 ()).bind fun (r1:Bool)=>some r1
def q2g (n:Nat):FC:={ f:=104,args:=[.one (.c (.d .str))],res:=.one (.c (.d .bool)),F:=fun p=>q39 n p }
def qhg (n:Nat):List FC:=[q6n n]
theorem qm8 (n:Nat) {G:World→Prop} (hG:Know Inv G) : ∀ c∈qhg n,q1b Tryz.prog G c∧q0i c.args=true:=List.forall_mem_cons.2 ⟨j2q n G hG,(fun _ h=>by cases h)⟩
def qf9:q0f:=[]
theorem qtk:drB qf9 (q00 Tryz.f104)=true:=by kernel_rfl
theorem qud (n:Nat) : ∀ a,(q2g n).F a=main Tryz.prog 5 (qhg n) (qbz n) qf9 (q00 Tryz.f104) [.tmp 2] (q2g n).args (q2g n).res a:=by intro a;kernel_rfl
theorem qh0 (n:Nat):q0d Inv Tryz.prog (q2g n):=fun G hG=>⟨⟨by kernel_rfl,fun a r h=>q06 (c:=q00 Tryz.f104) Tryz.func104 (by kernel_rfl) (by kernel_rfl) (Nat.le_of_ble_eq_true (by kernel_rfl)) hG.st (by kernel_rfl) (rs:=[.tmp 2]) (by kernel_rfl) (qm8 n hG) (lts:=qbz n) (fun F hF hFG=>have hK:Know Inv F.G:=hFG ▸ hG;(q07 fun j L h1 h2 h3=>absurd h2 (Nat.not_lt.2 (Nat.le_trans (by decide +kernel) h1)))) qtk ((qud n a).symm.trans h)⟩,rfl⟩
def q8w (n:Nat):List LC:=[]
def q8c (n:Nat) (a1:List UInt8):Option (Bool) :=
 (qdj n a1).bind fun (r1:Bool)=>(bif r1 then (bif decide (a1=([48]:List UInt8)) then some true else (sAt a1 (0:Int)).bind fun (c2:Int)=>(bif !decide (c2=(48:Int)) then some true else (q39 n a1).bind fun (r3:Bool)=>some (!r3))) else some false)
def q45 (n:Nat):FC:={ f:=80,args:=[.one (.c (.d .str))],res:=.one (.c (.d .bool)),F:=fun p=>q8c n p }
def qc7 (n:Nat):List FC:=[q6s n,q2g n]
theorem qi9 (n:Nat) {G:World→Prop} (hG:Know Inv G) : ∀ c∈qc7 n,q1b Tryz.prog G c∧q0i c.args=true:=List.forall_mem_cons.2 ⟨qnb n G hG,List.forall_mem_cons.2 ⟨qh0 n G hG,(fun _ h=>by cases h)⟩⟩
def qcj:q0f:=[]
theorem qqc:drB qcj (q00 Tryz.f80)=true:=by kernel_rfl
theorem qp1 (n:Nat) : ∀ a,(q45 n).F a=main Tryz.prog 19 (qc7 n) (q8w n) qcj (q00 Tryz.f80) [.tmp 2] (q45 n).args (q45 n).res a:=by intro a;kernel_rfl
theorem qnc (n:Nat):q0d Inv Tryz.prog (q45 n):=fun G hG=>⟨⟨by kernel_rfl,fun a r h=>q06 (c:=q00 Tryz.f80) Tryz.func80 (by kernel_rfl) (by kernel_rfl) (Nat.le_of_ble_eq_true (by kernel_rfl)) hG.st (by kernel_rfl) (rs:=[.tmp 2]) (by kernel_rfl) (qi9 n hG) (lts:=q8w n) (fun F hF hFG=>have hK:Know Inv F.G:=hFG ▸ hG;(q07 fun j L h1 h2 h3=>absurd h2 (Nat.not_lt.2 (Nat.le_trans (by decide +kernel) h1)))) qqc ((qp1 n a).symm.trans h)⟩,rfl⟩
end Go.Proofs.YtlmjgghohipipaaGreatDoor.AM
namespace Go.Proofs.YtlmjgghohipipaaGreatDoor.AM
open Go.RowKit
set_option linter.unusedVariables false
theorem jbv {β:Type} {l:List β} {j:Nat} (h:j<l.length):nth l j=some l[j]:=by rw [q3w,List.getElem?_eq_getElem h]
theorem q66 {β:Type} {l:List β} {j:Nat} (h:j<l.length):q67 l (j:Int)=some l[j]:=by
 unfold q67;rw [if_pos (by omega),Int.toNat_natCast,jbv h]
theorem qe0 {s:List UInt8} {j:Nat} (h:j<s.length):sAt s (j:Int)=some ((s[j].toNat:Nat):Int):=by
 unfold sAt;rw [q66 h];rfl
theorem sub_le {β:Type} {l:List β} {a b:Nat} (h1:a≤b) (h2:b≤l.length):q5y l (a:Int) (b:Int)=some ((l.drop a).take (b - a)):=by
 unfold q5y;rw [if_pos ⟨by omega,by omega,by omega⟩,Int.toNat_natCast,Int.toNat_natCast]
theorem sub_zero {β:Type} {l:List β} {b:Nat} (h2:b≤l.length):q5y l (0:Int) (b:Int)=some (l.take b):=by
 have:=sub_le (l:=l) (a:=0) (b:=b) (Nat.zero_le _) h2
 simpa using this
theorem j1e {β:Type} {k:Nat} {xs ys:List β} (h:(xs.length+ys.length)*k≤140737488355328):qrc k xs ys=some (xs++ys):=by
 unfold qrc;rw [if_pos h]
theorem q12 {i:Nat} (h:i<4611686018427387904):IntKind.wrap .i64 ((i:Int)+1)=((i+1:Nat):Int):=by rw [wrap64 (by omega) (by omega)];rfl
theorem j5m {i:Nat} (h:i<4611686018427387904):IntKind.wrap .i64 (i:Int)=(i:Int):=by rw [wrap64 (by omega) (by omega)]
end Go.Proofs.YtlmjgghohipipaaGreatDoor.AM
namespace Go.Proofs.YtlmjgghohipipaaGreatDoor.AM
open Go.RowKit
set_option linter.unusedVariables false
set_option linter.unusedSimpArgs false
theorem qwj (n:Nat) (c:UInt8):q2l n ((c.toNat:Nat):Int)=some (q23 c):=by
 unfold q2l q23
 have h1:decide ((48:Int)≤((c.toNat:Nat):Int))=decide (48≤c.toNat):=decide_eq_decide.2 (by omega)
 have h2:decide (((c.toNat:Nat):Int)≤(57:Int))=decide (c.toNat≤57):=decide_eq_decide.2 (by omega)
 rw [h1,h2]
 cases decide (48≤c.toNat)<;>cases decide (c.toNat≤57)<;>rfl
theorem j98 (n:Nat) (c:UInt8):qde n ((c.toNat:Nat):Int)=some (qrb c):=by
 unfold qde qrb
 have h1:decide ((97:Int)≤((c.toNat:Nat):Int))=decide (97≤c.toNat):=decide_eq_decide.2 (by omega)
 have h2:decide (((c.toNat:Nat):Int)≤(122:Int))=decide (c.toNat≤122):=decide_eq_decide.2 (by omega)
 have h3:decide ((65:Int)≤((c.toNat:Nat):Int))=decide (65≤c.toNat):=decide_eq_decide.2 (by omega)
 have h4:decide (((c.toNat:Nat):Int)≤(90:Int))=decide (c.toNat≤90):=decide_eq_decide.2 (by omega)
 have h5:decide (((c.toNat:Nat):Int)=(45:Int))=decide (c.toNat=45):=decide_eq_decide.2 (by omega)
 rw [h1,h2,h3,h4,h5,qwj]
 cases decide (97≤c.toNat)<;>cases decide (c.toNat≤122)<;>cases decide (65≤c.toNat)<;>cases decide (c.toNat≤90)<;>cases q23 c<;>rfl
theorem qg0 (n:Nat) (s:List UInt8) (hL:s.length≤1000000) : ∀ m j:Nat,j≤s.length→s.length - j<m→q3o n m s ((s.length:Nat):Int) (j:Int)=some (if (s.drop j).all qrb=true then Sum.inr ((s,()),((),())) else Sum.inl ((false,()),((),())))
 | 0,j,_,h=>absurd h (Nat.not_lt_zero _)
 | m+1,j,hj,h=>by
  rw [qax]
  unfold qex
  by_cases c0:j<s.length
  ·have c0':((j:Nat):Int)<((s.length:Nat):Int):=by omega
   have ih:=qg0 n s hL m (j+1) (by omega) (by omega)
   have hd:s.drop j=s[j]::s.drop (j+1):=(List.drop_eq_getElem_cons c0)
   simp only [c0',decide_true,cond_true,qe0 c0,Option.bind_some,j98,q2f,q12 (show j<4611686018427387904 by omega),ih,hd,List.all_cons]
   cases qrb s[j]<;>simp
  ·have c0' : ¬ ((j:Nat):Int)<((s.length:Nat):Int):=by omega
   have:s.drop j = []:=List.drop_eq_nil_of_le (by omega)
   simp [c0',this]
theorem qsx (n:Nat) (s:List UInt8) (hL:s.length≤1000000) (hn:s.length<n):qdd n s ()=some (s.all qrb && !decide (s = [])):=by
 unfold qdd
 have:=qg0 n s hL n 0 (Nat.zero_le _) (by omega)
 rw [show ((0:Nat):Int)=(0:Int) from rfl] at this
 rw [this,List.drop_zero]
 cases s.all qrb<;>rfl
theorem qgz (n:Nat) (s:List UInt8) (hL:s.length≤1000000) : ∀ m j:Nat,j≤s.length→s.length - j<m→q46 n m s ((s.length:Nat):Int) (j:Int)=some (if (s.drop j).all q23=true then Sum.inr ((s,()),((),())) else Sum.inl ((false,()),((),())))
 | 0,j,_,h=>absurd h (Nat.not_lt_zero _)
 | m+1,j,hj,h=>by
  rw [qbh]
  unfold qg5
  by_cases c0:j<s.length
  ·have c0':((j:Nat):Int)<((s.length:Nat):Int):=by omega
   have ih:=qgz n s hL m (j+1) (by omega) (by omega)
   have hd:s.drop j=s[j]::s.drop (j+1):=(List.drop_eq_getElem_cons c0)
   simp only [c0',decide_true,cond_true,qe0 c0,Option.bind_some,qwj,q2f,q12 (show j<4611686018427387904 by omega),ih,hd,List.all_cons]
   cases q23 s[j]<;>simp
  ·have c0' : ¬ ((j:Nat):Int)<((s.length:Nat):Int):=by omega
   have:s.drop j = []:=List.drop_eq_nil_of_le (by omega)
   simp [c0',this]
theorem qrv (n:Nat) (s:List UInt8) (hL:s.length≤1000000) (hn:s.length<n):qd7 n s ()=some (s.all q23 && !decide (s = [])):=by
 unfold qd7
 have:=qgz n s hL n 0 (Nat.zero_le _) (by omega)
 rw [show ((0:Nat):Int)=(0:Int) from rfl] at this
 rw [this,List.drop_zero]
 cases s.all q23<;>rfl
theorem qgi (n:Nat) (s:List UInt8) (hL:s.length≤1000000) (hn:s.length<n):qdj n s=some (q1r s):=by
 unfold qdj;rw [qsx n s hL hn];rfl
theorem q5n (n:Nat) (s:List UInt8) (hL:s.length≤1000000) (hn:s.length<n):q39 n s=some (qa5 s):=by
 unfold q39;rw [qrv n s hL hn];rfl
theorem qzm (n:Nat) (s:List UInt8) (hL:s.length≤1000000) (hn:s.length<n):q8c n s=some (q4e s):=by
 unfold q8c q4e
 rw [qgi n s hL hn,q5n n s hL hn]
 simp only [Option.bind_some]
 cases hp:q1r s with
 | false=>rfl
 | true =>
  cases s with
  | nil=>simp [q1r] at hp
  | cons c r =>
   have h0:sAt (c::r) (0:Int)=some ((c.toNat:Nat):Int):=qe0 (s:=c::r) (j:=0) (by simp)
   have h1:decide (((c.toNat:Nat):Int)=(48:Int))=decide ((c::r).head? = some 48):=decide_eq_decide.2 (by
    simp only [List.head?_cons,Option.some.injEq]
    constructor
    ·intro h;exact UInt8.toNat_inj.1 (by have e48:(48:UInt8).toNat=48:=rfl;rw [e48];omega)
    ·rintro rfl;rfl)
   simp only [cond_true,h0,Option.bind_some,h1,Bool.true_and]
   cases decide (c::r = [48])<;>cases decide ((c::r).head? = some 48)<;>cases qa5 (c::r)<;>rfl
end Go.Proofs.YtlmjgghohipipaaGreatDoor.AM
namespace Go.Proofs
open Go.RowKit Go.Shelf Go.Lib
attribute [local go_sem] Oper.semAt_some
set_option linter.unusedVariables false
set_option linter.unusedSimpArgs false
namespace YtlmjgghohipipaaGreatDoor.AM
theorem q1f {P:Program} {fn:Func} {p:Tmp} {ty:TypeId} {b:Nat} {v:Value} {tmps:Array Value} {w:World} (h:fn.results = #[.cell p ty]) (hp:tmps.getD p undef = .pointer (some ⟨b,0,none⟩)) (ha:qj7 P ty=some false)
  (hc:w.cell? ⟨b,0,none⟩=some v):(results fn tmps).run P w = .ok v w:=by
 have hp':tmps[p]?.getD undef = .pointer (some ⟨b,0,none⟩):=by simpa using hp
 simp only [results,h]
 simp [Sem.run_bind,hp',asAddr,loadVar,q0u ha w,go_sem,hc]
theorem q1d {W W':World} {a:Addr} {v:Value} (hb:Below W.heap.size W W') (h:W.cell? a=some v):W'.cell? a=some v:=by
 obtain ⟨o,ho,hc⟩:=cells_of_cell h
 exact (World.cell?_of_block ((hb.block _ (Array.getElem?_eq_some_iff.1 ho).1).trans ho |>.trans ho.symm)).trans h
theorem q1w {W W':World} {a:Addr} {v:Value} (hb:Below W.heap.size W W') (h:W.cell? a=some v):W'.frozen? a=W.frozen? a:=by
 obtain ⟨o,ho,hc⟩:=cells_of_cell h
 exact World.frozen?_of_block ((hb.block _ (Array.getElem?_eq_some_iff.1 ho).1).trans ho |>.trans ho.symm)
theorem q18 {W W':World} (hb:Below W.heap.size W W'):KeepsOthers W W':=⟨hb.size,fun k o h _=>(hb.block k (Array.getElem?_eq_some_iff.1 h).1).trans h⟩
theorem q71 {pS:Nat} {r:List UInt8} {W W':World} (h:Left pS r W) (hb:Below W.heap.size W W'):Left pS r W':=⟨q1d hb h.1,(q1w hb h.1).trans h.2⟩
theorem q0h {w:World} {b:Nat} {v:Value} {t:TypeId} (h:w.heap[b]? = some (.cells #[v] t (0,0))):w.cell? ⟨b,0,none⟩=some v∧w.frozen? ⟨b,0,none⟩=false:=by
 constructor
 ·simp [World.cell?,h]
 ·simp [World.frozen?,h]
theorem five (w:World) (o0 o1 o2 o3 o4:Obj) : ∃ W,(((((w.alloc o0).alloc o1).alloc o2).alloc o3).alloc o4)=W∧W.heap.size=w.heap.size+5∧Below w.heap.size w W∧W.heap[w.heap.size]? = some o0∧W.heap[w.heap.size+1]? = some o1∧W.heap[w.heap.size+1+1]? = some o2∧W.heap[w.heap.size+1+1+1]? = some o3∧W.heap[w.heap.size+1+1+2]? = some o4:=by
 have al : ∀ (w:World) (o:Obj) (k:Nat),k<w.heap.size→(w.alloc o).heap[k]? = w.heap[k]?:=fun w o k h=>Below.heap_alloc _ _ _ h
 refine ⟨_,rfl,by simp,(((((Below.refl _ w).alloc (Nat.le_refl _) _).alloc (by simp) _).alloc (by simp;omega) _).alloc (by simp;omega) _).alloc (by simp;omega) _,?_,?_,?_,?_,?_⟩
 ·rw [al _ _ _ (by simp<;>omega),al _ _ _ (by simp<;>omega),al _ _ _ (by simp<;>omega),al _ _ _ (by simp),World.alloc_heap_new]
 ·rw [al _ _ _ (by simp<;>omega),al _ _ _ (by simp<;>omega),al _ _ _ (by simp)]
  have:=World.alloc_heap_new (w.alloc o0) o1
  rw [World.size_alloc] at this;exact this
 ·rw [al _ _ _ (by simp<;>omega),al _ _ _ (by simp)]
  have:=World.alloc_heap_new ((w.alloc o0).alloc o1) o2
  rw [World.size_alloc,World.size_alloc] at this;exact this
 ·rw [al _ _ _ (by simp)]
  have:=World.alloc_heap_new (((w.alloc o0).alloc o1).alloc o2) o3
  rw [World.size_alloc,World.size_alloc,World.size_alloc] at this;exact this
 ·have:=World.alloc_heap_new ((((w.alloc o0).alloc o1).alloc o2).alloc o3) o4
  rw [World.size_alloc,World.size_alloc,World.size_alloc,World.size_alloc] at this;exact this
theorem hag:qj7 Tryz.prog 4=some false:=by kernel_rfl
structure Rng (fv:Value) (pF pR:Nat) (pP pC:Nat) (c:UInt8) (w0:World) (pred:List UInt8→Bool) (pre:List (List UInt8)) (W:World):Prop where
 fn:W.cell? ⟨pF,0,none⟩=some fv
 res:W.cell? ⟨pR,0,none⟩=some (.bool false)
 frz:W.frozen? ⟨pR,0,none⟩=false
 cP:W.cell? ⟨pP,0,none⟩=some (.string (ba [c]))
 cC:W.cell? ⟨pC,0,none⟩=some (.int .i64 0)
 below:Below w0.heap.size w0 W
 all:pre.all pred=true
structure RngX (pR:Nat) (w0:World) (pred:List UInt8→Bool) (pre:List (List UInt8)) (W:World):Prop where
 res:W.cell? ⟨pR,0,none⟩=some (.bool false)
 below:Below w0.heap.size w0 W
 no:pre.all pred=false
theorem qlc {fv:Value} {pF pR pP pC:Nat} {c:UInt8} {w0:World} {pred:List UInt8→Bool} {B:Nat} (hB:w0.heap.size≤B):OwnFrom B (Rng fv pF pR pP pC c w0 pred):=fun s W W' row h hg hr =>
 ⟨q54 h.fn hg hr,q54 h.res hg hr,(frozen_kept h.res hg (fun r e=>(hr r e).2)).trans h.frz,q54 h.cP hg hr,q54 h.cC hg hr,h.below.grown hg h.below.size (fun k e=>Nat.le_trans hB (hr k e).1),h.all⟩
theorem qmq {pR:Nat} {w0:World} {pred:List UInt8→Bool} {B:Nat} (hB:w0.heap.size≤B):OwnFrom B (RngX pR w0 pred):=fun s W W' row h hg hr =>
 ⟨q54 h.res hg hr,h.below.grown hg h.below.size (fun k e=>Nat.le_trans hB (hr k e).1),h.no⟩
theorem q8y {fv:Value} {pF pR pP pC:Nat} {c:UInt8} {w0:World} {pred:List UInt8→Bool} {pre:List (List UInt8)} {x:List UInt8} {W W':World} (h:Rng fv pF pR pP pC c w0 pred pre W) (hb:Below W.heap.size W W') (hx:pred x=true):Rng fv pF pR pP pC c w0 pred (pre ++ [x]) W' :=
 ⟨q1d hb h.fn,q1d hb h.res,(q1w hb h.res).trans h.frz,q1d hb h.cP,q1d hb h.cC,h.below.trans (hb.mono h.below.size),by rw [List.all_append,h.all];simp [hx]⟩
theorem qms {fv:Value} {pF pR pP pC:Nat} {c:UInt8} {w0:World} {pred:List UInt8→Bool} {pre:List (List UInt8)} {W:World} {q:Nat} (v:Value) (h:Rng fv pF pR pP pC c w0 pred pre W) (h0:w0.heap.size≤q) (h1:q≠pF) (h2:q≠pR) (h3:q≠pP) (h4:q≠pC):Rng fv pF pR pP pC c w0 pred pre (W.setCell ⟨q,0,none⟩ v):=by
 have ne : ∀ p:Nat,q≠p→(W.setCell ⟨q,0,none⟩ v).cell? ⟨p,0,none⟩=W.cell? ⟨p,0,none⟩:=fun p hp=>World.cell?_setCell_other _ _ _ _ (by intro e;exact hp (by injection e with e))
 exact ⟨(ne _ h1).trans h.fn,(ne _ h2).trans h.res,by rw [World.frozen?_setCell];exact h.frz,(ne _ h3).trans h.cP,(ne _ h4).trans h.cC,h.below.setCell (by simpa using h0) _,h.all⟩
theorem four (w:World) (o0 o1 o2 o3:Obj) : ∃ W,((((w.alloc o0).alloc o1).alloc o2).alloc o3)=W∧W.heap.size=w.heap.size+4∧Below w.heap.size w W∧W.heap[w.heap.size]? = some o0∧W.heap[w.heap.size+1]? = some o1∧W.heap[w.heap.size+1+1]? = some o2∧W.heap[w.heap.size+1+2]? = some o3:=by
 have al : ∀ (w:World) (o:Obj) (k:Nat),k<w.heap.size→(w.alloc o).heap[k]? = w.heap[k]?:=fun w o k h=>Below.heap_alloc _ _ _ h
 refine ⟨_,rfl,by simp,((((Below.refl _ w).alloc (Nat.le_refl _) _).alloc (by simp) _).alloc (by simp;omega) _).alloc (by simp;omega) _,?_,?_,?_,?_⟩
 ·rw [al _ _ _ (by simp<;>omega),al _ _ _ (by simp<;>omega),al _ _ _ (by simp),World.alloc_heap_new]
 ·rw [al _ _ _ (by simp<;>omega),al _ _ _ (by simp)]
  have:=World.alloc_heap_new (w.alloc o0) o1
  rw [World.size_alloc] at this;exact this
 ·rw [al _ _ _ (by simp)]
  have:=World.alloc_heap_new ((w.alloc o0).alloc o1) o2
  rw [World.size_alloc,World.size_alloc] at this;exact this
 ·have:=World.alloc_heap_new (((w.alloc o0).alloc o1).alloc o2) o3
  rw [World.size_alloc,World.size_alloc,World.size_alloc] at this;exact this
structure RngY (pR:Nat) (w0:World) (pred:List UInt8→Bool) (pre:List (List UInt8)) (W:World):Prop where
 res:W.cell? ⟨pR,0,none⟩=some (.bool true)
 below:Below w0.heap.size w0 W
 no:pre.all pred=false
theorem j5k {pR:Nat} {w0:World} {pred:List UInt8→Bool} {B:Nat} (hB:w0.heap.size≤B):OwnFrom B (RngY pR w0 pred):=fun s W W' row h hg hr =>
 ⟨q54 h.res hg hr,h.below.grown hg h.below.size (fun k e=>Nat.le_trans hB (hr k e).1),h.no⟩
theorem qwq {pred:List UInt8→Bool} {s x:List UInt8} {pre t:List (List UInt8)} (hsp:spl 47 [] s=pre++x::t) (hn:(pre ++ [x]).all pred=false):(spl 47 [] s).all pred=false:=by
 rw [List.all_append,Bool.and_eq_false_iff] at hn
 rw [hsp,List.all_append,Bool.and_eq_false_iff]
 rcases hn with hn|hn
 ·exact Or.inl hn
 ·refine Or.inr ?_
  simp only [List.all_cons,List.all_nil,Bool.and_true] at hn
  rw [List.all_cons,hn];rfl
end YtlmjgghohipipaaGreatDoor.AM
end Go.Proofs
namespace Go.Proofs
open Go.RowKit Go.Shelf Go.Lib
attribute [local go_sem] Oper.semAt_some
set_option linter.unusedVariables false
set_option linter.unusedSimpArgs false
namespace YtlmjgghohipipaaGreatDoor.AM
set_option maxHeartbeats 2000000 in
theorem qi8 (pred:List UInt8→Bool) (hp : ∀ (x:List UInt8) (w:World),Inv w→x.length≤30→Calls Tryz.prog 81 #[.string (ba x)] w fun e w'=>e = .returned (.bool (pred x))∧Below w.heap.size w w')
  (s:List UInt8) (w:World) (hI:Inv w) :
  Calls Tryz.prog 79 #[.string (ba s),.func (.func 81) #[] #[]] w fun e w'=>e = .returned (.bool (q3k pred s))∧Below w.heap.size w w':=by
 refine (callsIn_wide (n:=9)).1 ?_
 refine callsIn_of_wp_marks Tryz.func79 rfl trivial ?_ rfl
 simp only [Tryz.ntmps79,List.size_toArray,List.length_cons,List.length_nil,Nat.reduceAdd,Nat.reduceSub,Array.replicate_succ,Array.replicate_zero,List.push_toArray,List.append_toArray,List.nil_append,List.cons_append]
 have hsz:(ba s).size=s.length:=q0p s
 by_cases h1:s = []
 ·subst h1
  have he:(ba []).toList.isEmpty=true:=by rw [q4p];rfl
  gi_wp2
  refine ⟨_,q1f (b:=w.heap.size+1) (v:=.bool true) rfl rfl hag (by simp),rfl,?_⟩
  exact ((Below.refl _ w).alloc (Nat.le_refl _) _).alloc (by simp) _
 have he:(ba s).toList.isEmpty=false:=by rw [q4p];simpa using h1
 by_cases h2:s.length≤30
 ·gi_wp2_with (refine ⟨trivial,?_⟩;gi_at_call 103;refine (callsIn_wide.2 (q2j _ _ _)).mono ?_;rintro e w' ⟨rfl,rfl⟩)
  obtain ⟨W0,hW0,hs0,hb0,g0,g1,g2,g3,g4⟩:=five w (Obj.cells #[Value.func (Fn.func 81) #[] #[]] 28) (Obj.cells #[Value.bool false] 4) (Obj.cells #[Value.string (ba s)] 9) (Obj.cells #[Value.string { data:=#[46] }] 9) (Obj.cells #[Value.int IntKind.i64 0] 3)
  rw [hW0]
  clear hW0
  obtain ⟨c0,f0⟩:=q0h g0
  obtain ⟨c1,f1⟩:=q0h g1
  obtain ⟨c2,f2⟩:=q0h g2
  obtain ⟨c3,f3⟩:=q0h g3
  obtain ⟨c4,f4⟩:=q0h g4
  refine range_split (n:=9) (by omega) 46 (w.heap.size+1+1) (w.heap.size+1+1+1) (w.heap.size+1+1+2) s (by omega) rfl ⟨c2,f2⟩
   (Rng (.func (.func 81) #[] #[]) w.heap.size (w.heap.size+1) (w.heap.size+1+1+1) (w.heap.size+1+1+2) 46 w pred) (RngX (w.heap.size+1) w pred) (qlc (by omega)) (qmq (by omega))
   (fun pre W h=>⟨h.cP,h.cC,(hI.below h.below).maxLen⟩) (fun pre W v h=>qms v h (by omega) (by omega) (by omega) (by omega) (by omega)) ⟨c0,c1,f1,c3,c4,hb0,rfl⟩
   (fun x=>{ tmps:=#[.string (ba s),.func (.func 81) #[] #[],undef,.pointer (some ⟨w.heap.size,0,none⟩),.pointer (some ⟨w.heap.size+1,0,none⟩),.string (ba x),.string (ba s),.bool false,.string (ba s),.int .i64 s.length,.bool (decide ((30:Int)<s.length)),.string (ba s),
    .func (.func 150) #[] #[.pointer (some ⟨w.heap.size+1+1+1,0,none⟩),.pointer (some ⟨w.heap.size+1+1,0,none⟩),.pointer (some ⟨w.heap.size+1+1+2,0,none⟩)],.string (ba x),undef,undef,undef,undef],defers:=[] }) ?assign ?body ?done ?stop
  case assign =>
   intro l x W K hK
   gi_wp2
   exact hK
  case body =>
   intro l pre x r W hi hL hx
   have k0:=hi.fn
   have k1:=hi.res
   have k2:=hi.frz
   have hc:=hp x W (hI.below hi.below) (by omega)
   cases hpx:pred x with
   | true =>
    rw [hpx] at hc
    gi_wp2_with (refine ⟨trivial,?_⟩;gi_at_call 81;refine (CallsIn.inRound l (callsIn_wide.2 hc)).mono ?_;rintro e w' ⟨rfl,hb'⟩)
    exact ⟨q18 hb',q8y hi hb' hpx,q71 hL hb'⟩
   | false =>
    rw [hpx] at hc
    gi_wp2_with (refine ⟨trivial,?_⟩;gi_at_call 81;refine (CallsIn.inRound l (callsIn_wide.2 hc)).mono ?_;rintro e w' ⟨rfl,hb'⟩;have k3:=q1d hb' hi.res;have k4:=(q1w hb' hi.res).trans hi.frz)
    exact ⟨(q18 hb').trans (KeepsOthers.setCell _ _ _),World.cell?_setCell_same' _ _ _ (by rw [k3];rfl),(hi.below.trans (hb'.mono hi.below.size)).setCell (by simp) _,by simp [hpx]⟩
  case done =>
   intro D W hD hi hK
   have k1:=hi.res
   have k2:=hi.frz
   gi_wp2
   have hK':=(KeepsOthers.setCell W ⟨w.heap.size+1,0,none⟩ (.bool true)).same D _ hK rfl
   have hW':Below w.heap.size w (W.setCell ⟨w.heap.size+1,0,none⟩ (.bool true)):=hi.below.setCell (by simp) _
   have k5:(W.setCell ⟨w.heap.size+1,0,none⟩ (.bool true)).cell? ⟨w.heap.size+1,0,none⟩=some (.bool true):=World.cell?_setCell_same' _ _ _ (by rw [k1];rfl)
   generalize W.setCell ⟨w.heap.size+1,0,none⟩ (.bool true)=W2 at hK' hW' k5
   refine ⟨by simp,.inl ⟨_,_,rfl,run_takeDeferred hK',?_⟩⟩
   have hg:=grownBy_putObj' W2 D (.deferred none)
   refine ⟨_,q1f (b:=w.heap.size+1) (v:=.bool true) rfl rfl hag (cell_kept k5 hg (fun r e=>by cases e;exact ⟨_,hK',rfl⟩)),?_,?_⟩
   ·unfold q3k;simp [h1,h2,hi.all]
   ·exact hW'.grown hg hW'.size (fun k e=>by cases e;omega)
  case stop =>
   intro D pre x t W hD hsp hi hK
   refine ⟨by simp,.inl ⟨_,_,rfl,run_takeDeferred hK,?_⟩⟩
   have hg:=grownBy_putObj' W D (.deferred none)
   refine ⟨_,q1f (b:=w.heap.size+1) (v:=.bool false) rfl rfl hag (cell_kept hi.res hg (fun r e=>by cases e;exact ⟨_,hK,rfl⟩)),?_,?_⟩
   ·have hn:=hi.no
    rw [List.all_append,Bool.and_eq_false_iff] at hn
    have ha:(spl 46 [] s).all pred=false:=by
     rw [hsp,List.all_append,Bool.and_eq_false_iff]
     rcases hn with hn|hn
     ·exact Or.inl hn
     ·refine Or.inr ?_
      simp only [List.all_cons,List.all_nil,Bool.and_true] at hn
      rw [List.all_cons,hn];rfl
    unfold q3k;simp [h1,ha]
   ·exact hi.below.grown hg hi.below.size (fun k e=>by cases e;omega)
 ·gi_wp2
  refine ⟨_,q1f (b:=w.heap.size+1) (v:=.bool false) rfl rfl hag (by simp),?_,?_⟩
  ·unfold q3k;simp [h1,h2]
  ·exact ((Below.refl _ w).alloc (Nat.le_refl _) _).alloc (by simp) _
set_option maxHeartbeats 2000000 in
theorem qm6 (pred:List UInt8→Bool) (hp : ∀ (x:List UInt8) (w:World),Inv w→x.length≤30→Calls Tryz.prog 80 #[.string (ba x)] w fun e w'=>e = .returned (.bool (pred x))∧Below w.heap.size w w')
  (s:List UInt8) (w:World) (hI:Inv w) :
  Calls Tryz.prog 79 #[.string (ba s),.func (.func 80) #[] #[]] w fun e w'=>e = .returned (.bool (q3k pred s))∧Below w.heap.size w w':=by
 refine (callsIn_wide (n:=9)).1 ?_
 refine callsIn_of_wp_marks Tryz.func79 rfl trivial ?_ rfl
 simp only [Tryz.ntmps79,List.size_toArray,List.length_cons,List.length_nil,Nat.reduceAdd,Nat.reduceSub,Array.replicate_succ,Array.replicate_zero,List.push_toArray,List.append_toArray,List.nil_append,List.cons_append]
 have hsz:(ba s).size=s.length:=q0p s
 by_cases h1:s = []
 ·subst h1
  have he:(ba []).toList.isEmpty=true:=by rw [q4p];rfl
  gi_wp2
  refine ⟨_,q1f (b:=w.heap.size+1) (v:=.bool true) rfl rfl hag (by simp),rfl,?_⟩
  exact ((Below.refl _ w).alloc (Nat.le_refl _) _).alloc (by simp) _
 have he:(ba s).toList.isEmpty=false:=by rw [q4p];simpa using h1
 by_cases h2:s.length≤30
 ·gi_wp2_with (refine ⟨trivial,?_⟩;gi_at_call 103;refine (callsIn_wide.2 (q2j _ _ _)).mono ?_;rintro e w' ⟨rfl,rfl⟩)
  obtain ⟨W0,hW0,hs0,hb0,g0,g1,g2,g3,g4⟩:=five w (Obj.cells #[Value.func (Fn.func 80) #[] #[]] 28) (Obj.cells #[Value.bool false] 4) (Obj.cells #[Value.string (ba s)] 9) (Obj.cells #[Value.string { data:=#[46] }] 9) (Obj.cells #[Value.int IntKind.i64 0] 3)
  rw [hW0]
  clear hW0
  obtain ⟨c0,f0⟩:=q0h g0
  obtain ⟨c1,f1⟩:=q0h g1
  obtain ⟨c2,f2⟩:=q0h g2
  obtain ⟨c3,f3⟩:=q0h g3
  obtain ⟨c4,f4⟩:=q0h g4
  refine range_split (n:=9) (by omega) 46 (w.heap.size+1+1) (w.heap.size+1+1+1) (w.heap.size+1+1+2) s (by omega) rfl ⟨c2,f2⟩
   (Rng (.func (.func 80) #[] #[]) w.heap.size (w.heap.size+1) (w.heap.size+1+1+1) (w.heap.size+1+1+2) 46 w pred) (RngX (w.heap.size+1) w pred) (qlc (by omega)) (qmq (by omega))
   (fun pre W h=>⟨h.cP,h.cC,(hI.below h.below).maxLen⟩) (fun pre W v h=>qms v h (by omega) (by omega) (by omega) (by omega) (by omega)) ⟨c0,c1,f1,c3,c4,hb0,rfl⟩
   (fun x=>{ tmps:=#[.string (ba s),.func (.func 80) #[] #[],undef,.pointer (some ⟨w.heap.size,0,none⟩),.pointer (some ⟨w.heap.size+1,0,none⟩),.string (ba x),.string (ba s),.bool false,.string (ba s),.int .i64 s.length,.bool (decide ((30:Int)<s.length)),.string (ba s),
    .func (.func 150) #[] #[.pointer (some ⟨w.heap.size+1+1+1,0,none⟩),.pointer (some ⟨w.heap.size+1+1,0,none⟩),.pointer (some ⟨w.heap.size+1+1+2,0,none⟩)],.string (ba x),undef,undef,undef,undef],defers:=[] }) ?assign ?body ?done ?stop
  case assign =>
   intro l x W K hK
   gi_wp2
   exact hK
  case body =>
   intro l pre x r W hi hL hx
   have k0:=hi.fn
   have k1:=hi.res
   have k2:=hi.frz
   have hc:=hp x W (hI.below hi.below) (by omega)
   cases hpx:pred x with
   | true =>
    rw [hpx] at hc
    gi_wp2_with (refine ⟨trivial,?_⟩;gi_at_call 80;refine (CallsIn.inRound l (callsIn_wide.2 hc)).mono ?_;rintro e w' ⟨rfl,hb'⟩)
    exact ⟨q18 hb',q8y hi hb' hpx,q71 hL hb'⟩
   | false =>
    rw [hpx] at hc
    gi_wp2_with (refine ⟨trivial,?_⟩;gi_at_call 80;refine (CallsIn.inRound l (callsIn_wide.2 hc)).mono ?_;rintro e w' ⟨rfl,hb'⟩;have k3:=q1d hb' hi.res;have k4:=(q1w hb' hi.res).trans hi.frz)
    exact ⟨(q18 hb').trans (KeepsOthers.setCell _ _ _),World.cell?_setCell_same' _ _ _ (by rw [k3];rfl),(hi.below.trans (hb'.mono hi.below.size)).setCell (by simp) _,by simp [hpx]⟩
  case done =>
   intro D W hD hi hK
   have k1:=hi.res
   have k2:=hi.frz
   gi_wp2
   have hK':=(KeepsOthers.setCell W ⟨w.heap.size+1,0,none⟩ (.bool true)).same D _ hK rfl
   have hW':Below w.heap.size w (W.setCell ⟨w.heap.size+1,0,none⟩ (.bool true)):=hi.below.setCell (by simp) _
   have k5:(W.setCell ⟨w.heap.size+1,0,none⟩ (.bool true)).cell? ⟨w.heap.size+1,0,none⟩=some (.bool true):=World.cell?_setCell_same' _ _ _ (by rw [k1];rfl)
   generalize W.setCell ⟨w.heap.size+1,0,none⟩ (.bool true)=W2 at hK' hW' k5
   refine ⟨by simp,.inl ⟨_,_,rfl,run_takeDeferred hK',?_⟩⟩
   have hg:=grownBy_putObj' W2 D (.deferred none)
   refine ⟨_,q1f (b:=w.heap.size+1) (v:=.bool true) rfl rfl hag (cell_kept k5 hg (fun r e=>by cases e;exact ⟨_,hK',rfl⟩)),?_,?_⟩
   ·unfold q3k;simp [h1,h2,hi.all]
   ·exact hW'.grown hg hW'.size (fun k e=>by cases e;omega)
  case stop =>
   intro D pre x t W hD hsp hi hK
   refine ⟨by simp,.inl ⟨_,_,rfl,run_takeDeferred hK,?_⟩⟩
   have hg:=grownBy_putObj' W D (.deferred none)
   refine ⟨_,q1f (b:=w.heap.size+1) (v:=.bool false) rfl rfl hag (cell_kept hi.res hg (fun r e=>by cases e;exact ⟨_,hK,rfl⟩)),?_,?_⟩
   ·have hn:=hi.no
    rw [List.all_append,Bool.and_eq_false_iff] at hn
    have ha:(spl 46 [] s).all pred=false:=by
     rw [hsp,List.all_append,Bool.and_eq_false_iff]
     rcases hn with hn|hn
     ·exact Or.inl hn
     ·refine Or.inr ?_
      simp only [List.all_cons,List.all_nil,Bool.and_true] at hn
      rw [List.all_cons,hn];rfl
    unfold q3k;simp [h1,ha]
   ·exact hi.below.grown hg hi.below.size (fun k e=>by cases e;omega)
 ·gi_wp2
  refine ⟨_,q1f (b:=w.heap.size+1) (v:=.bool false) rfl rfl hag (by simp),?_,?_⟩
  ·unfold q3k;simp [h1,h2]
  ·exact ((Below.refl _ w).alloc (Nat.le_refl _) _).alloc (by simp) _
theorem qpe (x:List UInt8) (w:World) (hI:Inv w) (hx:x.length≤30):Calls Tryz.prog 81 #[.string (ba x)] w fun e w'=>e = .returned (.bool (q1r x))∧Below w.heap.size w w':=by
 have h:=(qnb 100 Inv q34).1.2 x (q1r x) (qgi 100 x (by omega) (by omega))
 refine (h (fun _ _=>False) w #[.string (ba x)] hI (fun b o h=>h.elim) ⟨q02 _,trivial⟩).mono ?_
 rintro e w' ⟨v,Pc,rfl,hb,_,_,hv⟩
 have hv':v = .bool (q1r x):=q05 hv
 rw [hv']
 exact ⟨rfl,hb⟩
def qbk (s:List UInt8) (u:Unit):Option Bool:=some (q3k q1r s)
def qgn:FC:={ f:=79,args:=[qhk,.one (.c (.fn 81 []))],res:=j5q,F:=fun p=>qbk p.1 p.2 }
theorem qs2:q0d Inv Tryz.prog qgn:=fun G hG=>⟨⟨by kernel_rfl,fun a r h=>by
 obtain ⟨s,u⟩:=a
 have hr:q3k q1r s=r:=Option.some.inj h
 intro Pc w vs hg hlt hv
 obtain ⟨l⟩:=vs
 match l,hv with
 | [x,y],⟨h1,h2,_⟩ =>
  obtain rfl:x = .string (ba s):=q05 h1
  obtain rfl:y = .func (.func 81) #[] #[]:=q05 h2
  refine (qi8 q1r qpe s w (hG.im w hg)).mono ?_
  rintro e w' ⟨rfl,hb⟩
  subst hr
  exact q2x rfl hb (q02 _)⟩,rfl⟩
theorem qu3 (x:List UInt8) (w:World) (hI:Inv w) (hx:x.length≤30):Calls Tryz.prog 80 #[.string (ba x)] w fun e w'=>e = .returned (.bool (q4e x))∧Below w.heap.size w w':=by
 have h:=(qnc 100 Inv q34).1.2 x (q4e x) (qzm 100 x (by omega) (by omega))
 refine (h (fun _ _=>False) w #[.string (ba x)] hI (fun b o h=>h.elim) ⟨q02 _,trivial⟩).mono ?_
 rintro e w' ⟨v,Pc,rfl,hb,_,_,hv⟩
 have hv':v = .bool (q4e x):=q05 hv
 rw [hv']
 exact ⟨rfl,hb⟩
def qgm (s:List UInt8) (u:Unit):Option Bool:=some (q3k q4e s)
def qjk:FC:={ f:=79,args:=[qhk,.one (.c (.fn 80 []))],res:=j5q,F:=fun p=>qgm p.1 p.2 }
theorem qxk:q0d Inv Tryz.prog qjk:=fun G hG=>⟨⟨by kernel_rfl,fun a r h=>by
 obtain ⟨s,u⟩:=a
 have hr:q3k q4e s=r:=Option.some.inj h
 intro Pc w vs hg hlt hv
 obtain ⟨l⟩:=vs
 match l,hv with
 | [x,y],⟨h1,h2,_⟩ =>
  obtain rfl:x = .string (ba s):=q05 h1
  obtain rfl:y = .func (.func 80) #[] #[]:=q05 h2
  refine (qm6 q4e qu3 s w (hG.im w hg)).mono ?_
  rintro e w' ⟨rfl,hb⟩
  subst hr
  exact q2x rfl hb (q02 _)⟩,rfl⟩
end YtlmjgghohipipaaGreatDoor.AM
end Go.Proofs
