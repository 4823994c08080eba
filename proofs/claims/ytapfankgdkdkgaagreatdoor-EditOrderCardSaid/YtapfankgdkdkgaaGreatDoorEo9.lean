
import Derived.Test.YtapfankgdkdkgaaGreatDoorEo8
import Derived.Lib.ItoaNum
import Derived.Lib.AtoiAll
import Derived.Shelf.LaysC
import Derived.Shelf.Strconv.Itoa3
import Derived.Shelf.Strconv.AtoiAll
import Derived.Shelf.Small.Strs
import Derived.Shelf.Strings.SplitShaped
import Derived.Lib.LaidTab
import Derived.Lib.AppendIntMem
import Derived.Stop.LaidErr
import Derived.WalkSmall
set_option linter.unusedVariables false
set_option linter.unusedSimpArgs false
namespace Go.Proofs.YtapfankgdkdkgaaGreatDoor.AM
open Go.RowKit
abbrev Z1:=((Bool×Unit)×Unit×Unit)⊕((Yy×Unit)×Unit×Unit)
abbrev VD:=Vv
abbrev v0:VD:=(0,(0,(0,([],[]))))
def q29 (c:UInt8):Bool:=decide (48≤c.toNat)&&decide (c.toNat≤57)
def qs7 (c:UInt8):Bool:=(decide (97≤c.toNat)&&decide (c.toNat≤122))||(decide (65≤c.toNat)&&decide (c.toNat≤90))||q29 c||decide (c.toNat=45)
def qc5 (s:Yy):Bool:=s.all q29 && !decide (s = [])
def q2v (s:Yy):Bool:=s.all qs7 && !decide (s = [])
def q6a (s:Yy):Bool:=q2v s&&(decide (s = [48]) || !decide (s.head? = some 48) || !qc5 s)
def q50 (p:Yy→Bool) (s:Yy):Bool:=decide (s = [])||(decide (s.length≤30)&&(spl 46 [] s).all p)
def jfd (n:Int):Bool:=decide (0≤n)&&decide (n≤999999999)
def q1g (v:VD):Bool:=jfd v.1&&jfd v.2.1&&jfd v.2.2.1&&q50 q6a v.2.2.2.1&&q50 q2v v.2.2.2.2
def q5d (c:UInt8) (s:Yy):Yy:=if s = [] then [] else c::s
def jj1 (v:VD):Yy:=118::(Lib.itoa v.1++46::(Lib.itoa v.2.1++46::(Lib.itoa v.2.2.1++(q5d 45 v.2.2.2.1++q5d 43 v.2.2.2.2))))
def q08 (v:VD):Yy:=if q1g v then jj1 v else []
def jlp (w:Yy):Int×(Int×Yy):=if qc5 w then (0,(w.length,w)) else (1,(0,w))
def jm9 (x y:Yy):Int:=qn1 qsq (qn1 qsq (cmpL cmpB)) (jlp x) (jlp y)
def jjp (p:Yy):Int×List (Yy):=(if p = [] then 1 else 0,spl 46 [] p)
def qom (a b:Yy):Int:=qn1 qsq (cmpL jm9) (jjp a) (jjp b)
def core (v:VD):Int×(Int×(Int×Yy)):=(v.1,(v.2.1,(v.2.2.1,v.2.2.2.1)))
def cmpC (x y:Int×(Int×(Int×Yy))):Int:=qn1 qsq (qn1 qsq (qn1 qsq qom)) x y
def jjl (v w:VD):Int:=if q1g v&&q1g w then cmpC (core v) (core w) else 0
theorem jgg (x y:Yy) (h:jlp x=jlp y):x=y:=by
 unfold jlp at h
 split at h<;>split at h<;>simp at h<;>first|exact h.2|exact h
theorem jgc:Cmp jm9:=(qrx qh1 (qrx qh1 (j3x jhh))).key jlp jgg
def qa9 (c:UInt8):List (Yy)→Yy
 | []=>[]
 | [x]=>x
 | x::y::t=>x++c::qa9 c (y::t)
theorem j85 (c:UInt8) (l cur:Yy):spl c cur l ≠ []:=fun h=>by have:=(qem c l cur).1;rw [h] at this;simp at this
theorem q6p (c:UInt8) : ∀ (l cur:Yy),qa9 c (spl c cur l)=cur++l
 | [],cur=>by simp [spl,qa9]
 | b::l,cur=>by
  rw [spl]
  split
  ·rename_i h;subst h
   have ih:=q6p b l []
   cases hs:spl b [] l with
   | nil=>exact absurd hs (j85 b l [])
   | cons y t=>rw [hs] at ih;rw [qa9,ih];simp
  ·rw [q6p c l];simp
theorem jlo (c:UInt8) (x y:Yy) (h:spl c [] x=spl c [] y):x=y:=by
 have h1:=q6p c x []
 have h2:=q6p c y []
 rw [h] at h1
 simpa using h1.symm.trans h2
theorem jg0 (x y:Yy) (h:jjp x=jjp y):x=y:=jlo 46 x y (congrArg Prod.snd h)
theorem j7o:Cmp qom:=(qrx qh1 (j3x jgc)).key jjp jg0
theorem qki (c:UInt8) (p:UInt8→Bool) : ∀ (l cur:Yy),(spl c cur l).all (fun w=>w.all p)=true↔(cur.all p=true∧∀ b∈l,b=c∨p b=true)
 | [],cur=>by simp [spl]
 | b::l,cur=>by
  rw [spl]
  split
  ·rename_i h;subst h
   rw [List.all_cons,Bool.and_eq_true,qki b p l []]
   simp
  ·rename_i h
   rw [qki c p l]
   simp only [List.all_append,List.all_cons,List.all_nil,Bool.and_true,Bool.and_eq_true,List.mem_cons,forall_eq_or_imp,h,false_or,and_assoc]
theorem qiy {d:Nat} (h:d<10):q29 (UInt8.ofNat (48+d))=true:=by
 unfold q29
 have:(UInt8.ofNat (48+d)).toNat=48+d:=by rw [UInt8.toNat_ofNat'];omega
 rw [this];simp;omega
theorem qyq (n:Nat):(Lib.decDigits n).all q29=true∧Lib.decDigits n ≠ []:=by
 induction n using Nat.strongRecOn with
 | _ n ih =>
  rw [Lib.decDigits]
  split
  ·rename_i h;exact ⟨by rw [List.all_cons,qiy h];rfl,by simp⟩
  ·rename_i h
   have:=ih (n / 10) (by omega)
   exact ⟨by rw [List.all_append,this.1,List.all_cons,qiy (show n % 10<10 by omega)];rfl,by simp⟩
theorem qme : ∀ (k n:Nat),n<10 ^ (k+1)→(Lib.decDigits n).length≤k+1
 | 0,n,h=>by rw [Lib.decDigits,dif_pos (by omega)];simp
 | k+1,n,h=>by
  rw [Lib.decDigits]
  split
  ·simp
  ·have:=qme k (n / 10) (by rw [Nat.pow_succ] at h;omega)
   simp;omega
theorem qvp : ∀ (l r:Yy) (a:Nat) (u:Nat),Lib.parseUint10 a l = .ok u→Lib.parseUint10 a (l++r)=Lib.parseUint10 u r
 | [],r,a,u,h=>by simp only [Lib.parseUint10] at h;injection h with h;subst h;rfl
 | c::l,r,a,u,h=>by
  rw [List.cons_append]
  conv=>lhs;unfold Lib.parseUint10
  unfold Lib.parseUint10 at h
  split at h
  ·rename_i h1
   rw [if_pos h1]
   split at h
   ·cases h
   ·rename_i h2
    rw [if_neg h2]
    split at h
    ·cases h
    ·rename_i h3
     rw [if_neg h3]
     exact qvp l r _ u h
  ·cases h
theorem j8j (n:Nat) (h:n<1000000000000000000):Lib.parseUint10 0 (Lib.decDigits n) = .ok n:=by
 induction n using Nat.strongRecOn with
 | _ n ih =>
  have t1 : ∀ d,d<10→(UInt8.ofNat (48+d)).toNat=48+d:=fun d hd=>by rw [UInt8.toNat_ofNat'];omega
  rw [Lib.decDigits]
  split
  ·rename_i h1
   unfold Lib.parseUint10 Lib.parseUint10
   rw [t1 n h1,if_pos (by omega),if_neg (by omega),if_neg (by omega)]
   congr 1;omega
  ·rename_i h1
   have h2:=ih (n / 10) (by omega) (by omega)
   rw [qvp _ _ _ _ h2]
   unfold Lib.parseUint10 Lib.parseUint10
   rw [t1 _ (show n % 10<10 by omega),if_pos (by omega),if_neg (by omega),if_neg (by omega)]
   congr 1;omega
theorem q3g {n:Int} (h:0≤n):Lib.itoa n=Lib.decDigits n.toNat:=by unfold Lib.itoa;rw [if_neg (by omega)]
theorem qj3 {n:Int} (h0:0≤n) (h1:n≤999999999):Lib.atoiAll (Lib.itoa n) = .ok n:=by
 rw [q3g h0]
 have hd:=qyq n.toNat
 have hp:=j8j n.toNat (by omega)
 generalize Lib.decDigits n.toNat=l at hd hp
 cases l with
 | nil=>exact absurd rfl hd.2
 | cons c r =>
  have hc:q29 c=true:=by have:=hd.1;simp at this;exact this.1
  unfold q29 at hc
  simp at hc
  unfold Lib.atoiAll
  have c43 : ¬ c.toNat=43:=by omega
  have c45 : ¬ c.toNat=45:=by omega
  simp only [c43,or_self,if_false,c45,not_false_eq_true,true_and,false_and]
  unfold Lib.parseMag
  rw [if_neg (by simp),hp]
  simp only
  rw [if_neg (by omega)]
  congr 1;omega
theorem qei (c:UInt8) : ∀ l:Yy,c ∉ l→Lib.index l [c] = -1
 | [],_=>by simp [Lib.index]
 | b::l,h=>by
  have h1:b≠c:=fun e=>h (by simp [e])
  have ih:=qei c l (fun e=>h (by simp [e]))
  rw [qr5 h1,ih];rfl
theorem index_hit (c:UInt8) : ∀ (l r:Yy),c ∉ l→Lib.index (l++c::r) [c]=((l.length:Nat):Int)
 | [],r,_=>index_self c r
 | b::l,r,h=>by
  have h1:b≠c:=fun e=>h (by simp [e])
  have ih:=index_hit c l r (fun e=>h (by simp [e]))
  rw [List.cons_append,qr5 h1,ih]
  have:((((l.length:Nat):Int) == -1)=true)=False:=by simp
  simp only [this,if_false,List.length_cons];omega
def q2j (c:UInt8) (s:Yy):Yy:=if Lib.index s [c] = -1 then s else s.take (Lib.index s [c]).toNat
def qaa (c:UInt8) (s:Yy):Yy:=if Lib.index s [c] = -1 then [] else s.drop ((Lib.index s [c]).toNat+1)
theorem j39 (c:UInt8) (x t:Yy) (h:c ∉ x):q2j c (x++q5d c t)=x∧qaa c (x++q5d c t)=t:=by
 unfold q5d q2j qaa
 split
 ·rename_i e;subst e
  rw [List.append_nil,qei c x h];exact ⟨rfl,rfl⟩
 ·rw [index_hit c x t h]
  have n1 : ¬ ((x.length:Nat):Int) = -1:=by omega
  simp only [n1,if_false,Int.toNat_natCast]
  simp
theorem j1d (c:UInt8) (x t:Yy) (h:c ∉ x):q2j c (x++c::t)=x∧qaa c (x++c::t)=t:=by
 unfold q2j qaa
 rw [index_hit c x t h]
 have n1 : ¬ ((x.length:Nat):Int) = -1:=by omega
 simp only [n1,if_false,Int.toNat_natCast]
 simp
theorem jgi (c:UInt8) (x t:Yy) (h:c ∉ x):spl c [] (x++c::t)=x::spl c [] t:=by
 rw [qd2 c x [] _ h,List.nil_append,spl,if_pos rfl]
theorem j8a (c:UInt8) (x:Yy) (h:c ∉ x):spl c [] x = [x]:=by
 have:=qd2 c x [] [] h
 simpa [spl] using this
theorem j1n {p:Yy→Bool} (hp : ∀ w,p w=true→w.all qs7=true) {s:Yy} (h:q50 p s=true) : ∀ b∈s,b=46∨qs7 b=true:=by
 unfold q50 at h
 simp only [Bool.or_eq_true,Bool.and_eq_true,decide_eq_true_eq] at h
 rcases h with rfl|⟨_,h⟩
 ·intro b hb;cases hb
 ·exact ((qki 46 qs7 s []).1 (List.all_eq_true.2 fun w hw=>hp w (List.all_eq_true.1 h w hw))).2
theorem qpl (w:Yy) (h:q2v w=true):w.all qs7=true:=by unfold q2v at h;simp only [Bool.and_eq_true] at h;exact h.1
theorem qun (w:Yy) (h:q6a w=true):w.all qs7=true:=by unfold q6a at h;simp only [Bool.and_eq_true] at h;exact qpl w h.1
theorem j0k {c:UInt8} (hc:q29 c=false) (n:Nat):c ∉ Lib.decDigits n:=fun h=>by
 have:=List.all_eq_true.1 (qyq n).1 c h
 rw [hc] at this;cases this
theorem sg43:qs7 43=false:=by decide
theorem q2t {v:VD} (h:q1g v=true):(0≤v.1∧v.1≤999999999)∧(0≤v.2.1∧v.2.1≤999999999)∧(0≤v.2.2.1∧v.2.2.1≤999999999)∧q50 q6a v.2.2.2.1=true∧q50 q2v v.2.2.2.2=true:=by
 unfold q1g jfd at h
 simp only [Bool.and_eq_true,decide_eq_true_eq] at h
 exact ⟨h.1.1.1.1,h.1.1.1.2,h.1.1.2,h.1.2,h.2⟩
theorem q9o {p:Yy→Bool} {s:Yy} (h:q50 p s=true):s.length≤30:=by
 unfold q50 at h
 simp only [Bool.or_eq_true,Bool.and_eq_true,decide_eq_true_eq] at h
 rcases h with rfl|h
 ·simp
 ·exact h.1
def qbb (s:Yy):Int:=match Lib.atoiAll s with
 | .ok v=>v
 | _=>-1
def q1c (s:Yy):Yy:=if s.head? = some 118 then s.drop 1 else s
def j7a (s:Yy):VD:=(qbb (q2j 46 (q1c (q2j 45 (q2j 43 s)))),(qbb (q2j 46 (qaa 46 (q1c (q2j 45 (q2j 43 s))))),(qbb (qaa 46 (qaa 46 (q1c (q2j 45 (q2j 43 s))))),(qaa 45 (q2j 43 s),qaa 43 s))))
theorem jmw {v:VD} (h:q1g v=true) : ∀ pf:Yy,43 ∉ pf→45 ∉ pf →
  q2j 43 (pf++(Lib.itoa v.1++46::(Lib.itoa v.2.1++46::(Lib.itoa v.2.2.1++(q5d 45 v.2.2.2.1++q5d 43 v.2.2.2.2)))))=pf++(Lib.itoa v.1++46::(Lib.itoa v.2.1++46::(Lib.itoa v.2.2.1++q5d 45 v.2.2.2.1))) ∧
  qaa 43 (pf++(Lib.itoa v.1++46::(Lib.itoa v.2.1++46::(Lib.itoa v.2.2.1++(q5d 45 v.2.2.2.1++q5d 43 v.2.2.2.2)))))=v.2.2.2.2 ∧
  q2j 45 (pf++(Lib.itoa v.1++46::(Lib.itoa v.2.1++46::(Lib.itoa v.2.2.1++q5d 45 v.2.2.2.1))))=pf++(Lib.itoa v.1++46::(Lib.itoa v.2.1++46::Lib.itoa v.2.2.1)) ∧
  qaa 45 (pf++(Lib.itoa v.1++46::(Lib.itoa v.2.1++46::(Lib.itoa v.2.2.1++q5d 45 v.2.2.2.1))))=v.2.2.2.1:=by
 intro pf p1 p2
 obtain ⟨h1,h2,h3,h4,h5⟩:=q2t h
 have d43:q29 43=false:=by decide
 have d45:q29 45=false:=by decide
 have t43:(43:UInt8) ∉ q5d 45 v.2.2.2.1:=by
  unfold q5d
  split
  ·simp
  ·intro hm
   rcases List.mem_cons.1 hm with hm|hm
   ·cases hm
   ·rcases j1n qun h4 _ hm with hm|hm
    ·cases hm
    ·rw [sg43] at hm;cases hm
 rw [q3g h1.1,q3g h2.1,q3g h3.1]
 have m43:=fun n=>j0k d43 n
 have m45:=fun n=>j0k d45 n
 have a1:=j39 43 (pf++(Lib.decDigits v.1.toNat++46::(Lib.decDigits v.2.1.toNat++46::(Lib.decDigits v.2.2.1.toNat++q5d 45 v.2.2.2.1)))) v.2.2.2.2 (by simp [m43,t43,p1])
 have a2:=j39 45 (pf++(Lib.decDigits v.1.toNat++46::(Lib.decDigits v.2.1.toNat++46::Lib.decDigits v.2.2.1.toNat))) v.2.2.2.1 (by simp [m45,p2])
 simp only [List.append_assoc,List.cons_append] at a1 a2
 exact ⟨a1.1,a1.2,a2.1,a2.2⟩
theorem j98 {v:VD} (h:q1g v=true):j7a (jj1 v)=v:=by
 obtain ⟨h1,h2,h3,h4,h5⟩:=q2t h
 have d46:q29 46=false:=by decide
 have m46:=fun n=>j0k d46 n
 have e0:jj1 v = [118]++(Lib.itoa v.1++46::(Lib.itoa v.2.1++46::(Lib.itoa v.2.2.1++(q5d 45 v.2.2.2.1++q5d 43 v.2.2.2.2)))):=rfl
 obtain ⟨k1,k2,k3,k4⟩:=jmw h [118] (by decide) (by decide)
 unfold j7a
 rw [e0,k1,k2,k3,k4]
 have e1:q1c ([118]++(Lib.itoa v.1++46::(Lib.itoa v.2.1++46::Lib.itoa v.2.2.1)))=Lib.itoa v.1++46::(Lib.itoa v.2.1++46::Lib.itoa v.2.2.1):=rfl
 rw [e1]
 have c1:=j1d 46 (Lib.itoa v.1) (Lib.itoa v.2.1++46::Lib.itoa v.2.2.1) (by rw [q3g h1.1];exact m46 _)
 have c2:=j1d 46 (Lib.itoa v.2.1) (Lib.itoa v.2.2.1) (by rw [q3g h2.1];exact m46 _)
 rw [c1.1,c1.2,c2.1,c2.2]
 unfold qbb
 rw [qj3 h1.1 h1.2,qj3 h2.1 h2.2,qj3 h3.1 h3.2]
theorem jmo {v:VD} (h:q1g v=true):(jj1 v).length≤92:=by
 obtain ⟨h1,h2,h3,h4,h5⟩:=q2t h
 have l1:=qme 8 v.1.toNat (by omega)
 have l2:=qme 8 v.2.1.toNat (by omega)
 have l3:=qme 8 v.2.2.1.toNat (by omega)
 have t1:=q9o h4
 have t2:=q9o h5
 have tt : ∀ (c:UInt8) (s:Yy),(q5d c s).length≤s.length+1:=fun c s=>by unfold q5d;split<;>simp
 have u1:=tt 45 v.2.2.2.1
 have u2:=tt 43 v.2.2.2.2
 unfold jj1
 rw [q3g h1.1,q3g h2.1,q3g h3.1]
 simp only [List.length_cons,List.length_append]
 omega
def q0r (s:Yy):VD×Bool:=if q1g (j7a s)&&decide (q08 (j7a s)=s) then (j7a s,true) else (v0,false)
theorem jfu {s:Yy} {v:VD} (h:q1g v=true) (ht:q08 v=s):q0r s=(v,true):=by
 have e1:s=jj1 v:=by rw [← ht];unfold q08;rw [if_pos h]
 subst e1
 unfold q0r
 rw [j98 h,if_pos (by simp [h,ht])]
theorem qe6 {s:Yy} (h:(q0r s).2=true):q1g (q0r s).1=true∧q08 (q0r s).1=s:=by
 unfold q0r at *
 split at h
 ·rename_i h1
  rw [if_pos h1]
  simp only [Bool.and_eq_true,decide_eq_true_eq] at h1
  exact h1
 ·cases h
end Go.Proofs.YtapfankgdkdkgaaGreatDoor.AM
namespace Go.Proofs
open Go.RowKit Go.Shelf Go.Lib
shelf_lay LaysM.n171 Nm 171 at Tryz as Tryz.laysItoa
shelf_lay LaysC.n172 Nm 172 at Tryz as Tryz.laysAtoi
namespace YtapfankgdkdkgaaGreatDoor.AM
structure Inv (w:World):Prop where
 errT:w.cell? ⟨0,0,none⟩=some (.iface 196 (.agg #[.pointer (some ⟨9,82,none⟩)]))
 maxLen : ∃ m,w.cell? ⟨Tryz.laysIndex_ren.g 1,0,none⟩=some (.int .i64 m)
 tab:Lib.TabIs Tryz.prog w "internal/strconv.uint64pow10" .u64 Lib.pow10Tab
 syn : ∃ tp p,w.cell? ⟨Tryz.laysAtoi_ren.g 15,0,none⟩=some (.iface tp p)
 rng : ∃ tp p,w.cell? ⟨Tryz.laysAtoi_ren.g 16,0,none⟩=some (.iface tp p)
theorem gTab:(Tryz.prog.globalNamed "internal/strconv.uint64pow10").isSome=true:=by kernel_rfl
theorem Inv.below {w w':World} (h:Inv w) (hb:Below w.heap.size w w'):Inv w':=by
 obtain ⟨he,⟨m,hm⟩,ht,⟨t1,p1,h1⟩,⟨t2,p2,h2⟩⟩:=h
 refine ⟨(hb.cell (p:=⟨_,0,none⟩) (World.block_lt_of_cell? _ _ he)).trans he,⟨m,(hb.cell (p:=⟨_,0,none⟩) (World.block_lt_of_cell? _ _ hm)).trans hm⟩,?_,⟨t1,p1,(hb.cell (p:=⟨_,0,none⟩) (World.block_lt_of_cell? _ _ h1)).trans h1⟩,⟨t2,p2,(hb.cell (p:=⟨_,0,none⟩) (World.block_lt_of_cell? _ _ h2)).trans h2⟩⟩
 obtain ⟨g,hg⟩:=Option.isSome_iff_exists.1 gTab
 refine var?_below hb hg ?_ ht
 have hv:w.var? Tryz.prog "internal/strconv.uint64pow10" = some _:=ht
 unfold World.var? at hv
 rw [hg] at hv
 simp only [Option.bind_some] at hv
 split at hv
 ·rename_i h5;exact (Array.getElem?_eq_some_iff.1 h5).1
 ·cases hv
theorem q79:Know Inv Inv:=⟨fun w w' h hb=>h.below hb,fun _ h=>h⟩
variable {P:Program}
theorem q3p {Pc:Nat→Nat→Prop} {w w':World} {v:Value} {d:D} {e:Ending} (he:e = .returned v) (hb:Below w.heap.size w w') (hv:q1k (q4j Pc) qgt w' v d) :
  ∃ v' Pc',e = .returned v'∧Below w.heap.size w w'∧(∀ b o,Pc b o→Pc' b o)∧(∀ b o,Pc' b o→Pc b o∨(w.heap.size≤b∧b<w'.heap.size))∧q1k (q4j Pc') qgt w' v' d :=
 ⟨v,Pc,he,hb,fun _ _ h=>h,fun _ _ h=>Or.inl h,hv⟩
abbrev qp8:SD:=.one (.c (.d .str))
abbrev intA:SD:=.one (.c (.d (.int .i64)))
abbrev jgl:SD:=.one (.c (.d .bool))
def qlz (s sep:List UInt8):Option Int:=match sep with
 | [c]=>if s.length<4294967281 then some (Lib.index s [c]) else none
 | _=>none
def j25:FC:={ f:=111,args:=[qp8,qp8],res:=intA,F:=fun p=>qlz p.1 p.2 }
theorem jfq:q0g Inv Tryz.prog j25:=fun G hG=>⟨⟨by kernel_rfl,fun a r h=>by
 obtain ⟨s,sep⟩:=a
 have h':qlz s sep=some r:=h
 unfold qlz at h'
 split at h'
 case h_2=>cases h'
 rename_i c
 split at h'
 case isFalse=>cases h'
 rename_i hc
 have hr:Lib.index s [c]=r:=Option.some.inj h'
 intro Pc w vs hg hlt hv
 obtain ⟨m,hm⟩:=(hG.im w hg).maxLen
 obtain ⟨l⟩:=vs
 match l,hv with
 | [x,y],⟨h1,h2,_⟩ =>
  obtain rfl:x = .string (ba s):=q09 h1
  obtain rfl:y = .string (ba [c]):=q09 h2
  have e1:(ba s).data.toList=s:=by simp [ba]
  have e2:(ba [c]).data.toList = [c]:=by simp [ba]
  have hh:=Any.stringslite_Index { Tryz.laysIndex with } (ba s) (ba [c]) m w (by rw [q2k];exact hc) hm
  rw [e1,e2,hr] at hh
  refine hh.mono ?_
  rintro e w' ⟨rfl,rfl⟩
  exact q3p rfl (Below.refl _ _) (q06 _)⟩,rfl⟩
def qj6 (n:Int):Option (List UInt8):=if -9223372036854775808≤n∧n≤9223372036854775807 then some (Lib.itoa n) else none
def jed:FC:={ f:=76,args:=[intA],res:=qp8,F:=fun p=>qj6 p }
theorem jl9:q0g Inv Tryz.prog jed:=fun G hG=>⟨⟨by kernel_rfl,fun (n:Int) r h=>by
 have h':qj6 n=some r:=h
 unfold qj6 at h'
 split at h'
 case isFalse=>cases h'
 rename_i hc
 have hr:Lib.itoa n=r:=Option.some.inj h'
 intro Pc w vs hg hlt hv
 obtain ⟨l⟩:=vs
 match l,hv with
 | [x],⟨h1,_⟩ =>
  obtain rfl:x = .int .i64 n:=q09 h1
  refine (Any.strconv_Itoa Tryz.laysItoa n hc.1 hc.2 w (hG.im w hg).tab).mono ?_
  rintro e w' ⟨rfl,k,os,rfl⟩
  subst hr
  exact q3p rfl (Lib.below_grow _ w (Nat.le_refl _) k os) (q06 (.string (ba (Lib.itoa n))))⟩,rfl⟩
end YtapfankgdkdkgaaGreatDoor.AM
end Go.Proofs
namespace Go.Proofs
open Go.RowKit Go.Shelf Go.Lib
shelf_lay LaysM.n146 Nm 146 at Tryz as Tryz.laysSplit
shelf_lay Lays.n106 Nm 106 at Tryz as Tryz.laysCompare
namespace YtapfankgdkdkgaaGreatDoor.AM
variable {P:Program}
def qpe:FC:={ f:=211,args:=[qp8,qp8],res:=intA,F:=fun p=>some (Lib.compareBytes p.1 p.2) }
def qcl (a b:List UInt8):Option Int:=some (Lib.compareBytes a b)
theorem j7u:q0g Inv Tryz.prog qpe:=fun G hG=>⟨⟨by kernel_rfl,fun a r h=>by
 obtain ⟨s,t⟩:=a
 have hr:Lib.compareBytes s t=r:=Option.some.inj h
 intro Pc w vs hg hlt hv
 obtain ⟨l⟩:=vs
 match l,hv with
 | [x,y],⟨h1,h2,_⟩ =>
  obtain rfl:x = .string (ba s):=q09 h1
  obtain rfl:y = .string (ba t):=q09 h2
  have e1:(ba s).data.toList=s:=by simp [ba]
  have e2:(ba t).data.toList=t:=by simp [ba]
  have hh:=Any.strings_Compare Tryz.laysCompare (ba s) (ba t) w
  rw [e1,e2,hr] at hh
  refine hh.mono ?_
  rintro e w' ⟨rfl,rfl⟩
  exact q3p rfl (Below.refl _ _) (q06 _)⟩,rfl⟩
theorem qvm (s:List UInt8) (w:World) (hI:Inv w) (hlim:s.length≤281474976710656):Calls Tryz.prog 156 #[.string (ba s)] w fun e w'=>e = .returned (.int .i64 (qbb s))∧Below w.heap.size w w':=by
 have e1:(ba s).data.toList=s:=by simp [ba]
 have hl:(ba s).size≤281474976710656:=by rw [q2k];exact hlim
 obtain ⟨ts,ps,hs⟩:=hI.syn
 obtain ⟨tr,pr,hr⟩:=hI.rng
 go_enter Tryz.func156,Tryz.ntmps156
 unfold qbb
 cases h:Lib.atoiAll s with
 | ok v =>
  go_wp2_with (go_at_call 167;refine (Any.strconv_Atoi_ok Tryz.laysAtoi (ba s) (by omega) v (by rw [e1];exact h) w).mono ?_)
  rintro e w' ⟨rfl,hw⟩
  go_wp2
  go_ret
  refine ⟨rfl,?_⟩
  rcases hw with rfl|⟨t,rfl⟩
  ·exact Below.refl _ _
  ·exact Lib.bytesWorld_below _ _ _
 | «syntax» =>
  go_wp2_with (go_at_call 167;refine (Any.strconv_Atoi_syntax Tryz.laysAtoi (ba s) hl (by rw [e1];exact h) _ w hs (Or.inr ⟨_,_,rfl⟩)).mono ?_)
  rintro e w' ⟨N,rfl,hN,hc,hb⟩
  go_wp2
  go_ret
  exact ⟨rfl,hb⟩
 | range =>
  go_wp2_with (go_at_call 167;refine (Any.strconv_Atoi_range Tryz.laysAtoi (ba s) hl (by rw [e1];exact h) _ w hr (Or.inr ⟨_,_,rfl⟩)).mono ?_)
  rintro e w' ⟨N,rfl,hN,hc,hb⟩
  go_wp2
  go_ret
  exact ⟨rfl,hb⟩
def q4h (s:List UInt8):Option Int:=if s.length≤281474976710656 then some (qbb s) else none
def qww:FC:={ f:=156,args:=[qp8],res:=intA,F:=fun p=>q4h p }
theorem jda:q0g Inv Tryz.prog qww:=fun G hG=>⟨⟨by kernel_rfl,fun (s:List UInt8) r h=>by
 have h':q4h s=some r:=h
 unfold q4h at h'
 split at h'
 case isFalse=>cases h'
 rename_i hc
 have hr:qbb s=r:=Option.some.inj h'
 intro Pc w vs hg hlt hv
 obtain ⟨l⟩:=vs
 match l,hv with
 | [x],⟨h1,_⟩ =>
  obtain rfl:x = .string (ba s):=q09 h1
  refine (qvm s w (hG.im w hg) hc).mono ?_
  rintro e w' ⟨rfl,hb⟩
  subst hr
  exact q3p rfl hb (q06 _)⟩,rfl⟩
theorem jpb:Tryz.laysSplit_ren.g 1=Tryz.laysIndex_ren.g 1:=by kernel_rfl
def q7h (s sep:List UInt8):Option (List (List UInt8)):=match sep with
 | [c]=>if s.length<4294967281 then some (spl c [] s) else none
 | _=>none
def qrr:FC:={ f:=93,args:=[qp8,qp8],res:=.one (.c (.d (.lst .str))),F:=fun p=>q7h p.1 p.2 }
theorem j5b:q0g Inv Tryz.prog qrr:=fun G hG=>⟨⟨by kernel_rfl,fun a r h=>by
 obtain ⟨s,sep⟩:=a
 have h':q7h s sep=some r:=h
 unfold q7h at h'
 split at h'
 case h_2=>cases h'
 rename_i c
 split at h'
 case isFalse=>cases h'
 rename_i hc
 have hr:(Lib.splitB (ba [c]) 0 (Lib.countB (ba s) (ba [c])) (ba s)).map unB=r:=(j6g c s).trans (Option.some.inj h')
 intro Pc w vs hg hlt hv
 obtain ⟨m,hm⟩:=(hG.im w hg).maxLen
 obtain ⟨l⟩:=vs
 match l,hv with
 | [x,y],⟨h1,h2,_⟩ =>
  obtain rfl:x = .string (ba s):=q09 h1
  obtain rfl:y = .string (ba [c]):=q09 h2
  have b1:1≤(ba [c]).size:=by rw [q2k];exact Nat.le_refl _
  have hlen:(Lib.splitB (ba [c]) 0 (Lib.countB (ba s) (ba [c])) (ba s)).length=Lib.countB (ba s) (ba [c])+1:=Lib.splitB_all (ba [c]) b1 0 _ (ba s) rfl
  refine (Any.strings_Split { Tryz.laysSplit with } Tryz.laysSplit.i9 (ba s) (ba [c]) m w (by rw [q2k];exact hc) (by rw [jpb];exact hm) b1).mono ?_
  rintro e w' ⟨rfl,rfl⟩
  generalize hL:Lib.splitB (ba [c]) 0 (Lib.countB (ba s) (ba [c])) (ba s)=L at hlen hr
  refine ⟨_,fun b o=>Pc b o∨b=w.heap.size,rfl,(Below.refl _ _).alloc (Nat.le_refl _) _,fun b o hp=>Or.inl hp,?_,?_⟩
  ·rintro b o (hp|rfl)
   ·exact Or.inl hp
   ·exact Or.inr ⟨Nat.le_refl _,by simp⟩
  ·show DatRep _ _ _ (.lst 1 (r.map (q01 .str)))
   have hr2:r.map (q01 .str)=L.map fun x=>[Dat.v (.string x)]:=by
    rw [← hr,List.map_map]
    exact List.map_congr_left fun x _=>by show [Dat.v (.string (ba (unB x)))]=_;rw [jbf]
   rw [hr2,← hlen]
   have hmax:L.length≤maxLen:=by
    have:=Lib.countB_le (ba [c]) b1 (ba s).size (ba s) (Nat.le_refl _)
    rw [q2k] at this
    have hM:maxLen=9223372036854775807:=by decide
    omega
   refine .lst _ _ _ 1 _ w.heap.size 0 (fun k j=>.string (L.getD k ⟨#[]⟩)) (by simp) (Nat.le_refl _) hmax (fun x hx=>?_) (fun _=>rfl) (fun k j hk hj=>⟨Or.inr rfl,?_,rfl⟩) (fun k j hk hj=>?_)
   ·obtain ⟨y,_,rfl⟩:=List.mem_map.1 hx;rfl
   ·have hk':k<L.length:=by simpa using hk
    have hj0:j=0:=by omega
    subst hj0
    rw [World.cell?_alloc_new]
    simp [List.getD,hk']
   ·have hk':k<L.length:=by simpa using hk
    have hj0:j=0:=by simp at hj;exact hj
    subst hj0
    simp [List.getD,hk']
    exact .v _⟩,rfl⟩
end YtapfankgdkdkgaaGreatDoor.AM
end Go.Proofs
namespace Go.Proofs.YtapfankgdkdkgaaGreatDoor.AM
open Go.RowKit
set_option maxRecDepth 20000
def qhf (n:Nat):List LC:=[]
def q41 (n:Nat) (a1:Int):Option (Bool) :=
 (bif decide (48≤a1) then some (decide (a1≤57)) else some false)
def q4r (n:Nat):FC:={ f:=169,args:=[.one (.c (.d (.int .u8)))],res:=.one (.c (.d .bool)),F:=fun p=>q41 n p }
def qnt (n:Nat):List FC:=[]
theorem qwp (n:Nat) {G:World→Prop} (hG:Know Inv G) : ∀ c∈qnt n,q14 Tryz.prog G c∧q0c c.args=true:=(fun _ h=>by cases h)
def qpk:q0b:=[]
theorem j6x:drB qpk (q00 Tryz.f169)=true:=by kernel_rfl
theorem j5i (n:Nat) : ∀ a,(q4r n).F a=main Tryz.prog 9 (qnt n) (qhf n) qpk (q00 Tryz.f169) [.tmp 2] (q4r n).args (q4r n).res a:=by intro a;kernel_rfl
theorem qo9 (n:Nat):q0g Inv Tryz.prog (q4r n):=fun G hG=>⟨⟨by kernel_rfl,fun a r h=>q04 (c:=q00 Tryz.f169) Tryz.func169 (by kernel_rfl) (by kernel_rfl) (Nat.le_of_ble_eq_true (by kernel_rfl)) hG.st (by kernel_rfl) (rs:=[.tmp 2]) (by kernel_rfl) (qwp n hG) (lts:=qhf n) (fun F hF hFG=>have hK:Know Inv F.G:=hFG ▸ hG;(q03 fun j L h1 h2 h3=>absurd h2 (Nat.not_lt.2 (Nat.le_trans (by decide +kernel) h1)))) j6x ((j5i n a).symm.trans h)⟩,rfl⟩
def qos (n:Nat):List LC:=[]
def qgh (n:Nat) (a1:Int):Option (Bool) :=
 (bif decide (97≤a1) then (bif decide (a1≤122) then some true else (bif decide (65≤a1) then (bif decide (a1≤90) then some true else (q41 n a1).bind fun r1=>(bif r1 then some true else some (decide (a1=45)))) else (q41 n a1).bind fun r2=>(bif r2 then some true else some (decide (a1=45))))) else (bif decide (65≤a1) then (bif decide (a1≤90) then some true else (q41 n a1).bind fun r3=>(bif r3 then some true else some (decide (a1=45)))) else (q41 n a1).bind fun r4=>(bif r4 then some true else some (decide (a1=45)))))
def q8b (n:Nat):FC:={ f:=139,args:=[.one (.c (.d (.int .u8)))],res:=.one (.c (.d .bool)),F:=fun p=>qgh n p }
def qud (n:Nat):List FC:=[q4r n]
theorem qyi (n:Nat) {G:World→Prop} (hG:Know Inv G) : ∀ c∈qud n,q14 Tryz.prog G c∧q0c c.args=true:=List.forall_mem_cons.2 ⟨qo9 n G hG,(fun _ h=>by cases h)⟩
def qwf:q0b:=[]
theorem jd2:drB qwf (q00 Tryz.f139)=true:=by kernel_rfl
theorem jcb (n:Nat) : ∀ a,(q8b n).F a=main Tryz.prog 25 (qud n) (qos n) qwf (q00 Tryz.f139) [.tmp 2] (q8b n).args (q8b n).res a:=by intro a;kernel_rfl
theorem jaz (n:Nat):q0g Inv Tryz.prog (q8b n):=fun G hG=>⟨⟨by kernel_rfl,fun a r h=>q04 (c:=q00 Tryz.f139) Tryz.func139 (by kernel_rfl) (by kernel_rfl) (Nat.le_of_ble_eq_true (by kernel_rfl)) hG.st (by kernel_rfl) (rs:=[.tmp 2]) (by kernel_rfl) (qyi n hG) (lts:=qos n) (fun F hF hFG=>have hK:Know Inv F.G:=hFG ▸ hG;(q03 fun j L h1 h2 h3=>absurd h2 (Nat.not_lt.2 (Nat.le_trans (by decide +kernel) h1)))) jd2 ((jcb n a).symm.trans h)⟩,rfl⟩
@[reducible] def qa0:SSt:=⟨[(0,.one (.c (.d .str))),(1,.one (.c (.fn 139 []))),(7,.one (.c (.d (.int .i64)))),(8,.one (.c (.d (.int .i64))))],[],[]⟩
@[reducible] def q63:List (Exit×SSt):=[(.ret,⟨[(4,.one (.c (.d .bool)))],[],[]⟩),(.exit 0,⟨[(0,.one (.c (.d .str)))],[],[]⟩)]
def qjt (n:Nat) (rec:(Yy)→Int→Int→Option Z1) (a1:Yy) (a2:Int) (a3:Int):Option Z1 :=
 (bif decide (a3<a2) then (sAt a1 a3).bind fun c1=>(qgh n c1).bind fun r2=>(bif !r2 then some (Sum.inl ((false,()),((),()))) else q0h (IntKind.wrap .i64 (a3+1)) fun n3=>rec a1 a2 n3) else some (Sum.inr (((a1,()),((),())))))
def qip (n:Nat) (rec:pSt qa0→Option (q1e q63)) (p:pSt qa0):Option (q1e q63):=qjt n (fun a1 a2 a3=>rec ((a1,((),(a2,(a3,())))),((),()))) p.1.1 p.1.2.2.1 p.1.2.2.2.1
def q60 (n m:Nat) (a1:Yy) (a2:Int) (a3:Int):Option Z1:=q1n (qip n) m ((a1,((),(a2,(a3,())))),((),()))
theorem qdr (n m:Nat) (a1 a2 a3):q60 n (m+1) a1 a2 a3=qjt n (fun a1 a2 a3=>q60 n m a1 a2 a3) a1 a2 a3:=rfl
def qv7 (n:Nat):LC:={ sh:=qa0,outs:=q63,F:=q1n (qip n) n }
def qdn (n:Nat):List LC:=[qv7 n]
def qgp (n:Nat) (a1:Yy) (a2:Unit):Option (Bool) :=
 (q60 n n a1 (a1.length:Int) (0:Int)).bind fun o4=>Sum.elim (fun (q5:(Bool×Unit)×Unit×Unit)=>some q5.1.1) (fun (q6:(Yy×Unit)×Unit×Unit)=>some (!decide (q6.1.1=([]:Yy)))) o4
def q8a (n:Nat):FC:={ f:=138,args:=[.one (.c (.d .str)),.one (.c (.fn 139 []))],res:=.one (.c (.d .bool)),F:=fun p=>qgp n p.1 p.2 }
def qm6 (n:Nat):List FC:=[q8b n]
theorem qia (n:Nat) {G:World→Prop} (hG:Know Inv G) : ∀ c∈qm6 n,q14 Tryz.prog G c∧q0c c.args=true:=List.forall_mem_cons.2 ⟨jaz n G hG,(fun _ h=>by cases h)⟩
def qko:q0b:=[]
theorem qvh:drB qko (q00 Tryz.f138)=true:=by kernel_rfl
theorem j7n (n:Nat) : ∀ rec p,qip n rec p=round Tryz.prog 20 (qm6 n) (qdn n) qko 1 qa0 q63 (q05 0 0 (q00 Tryz.f138)) rec p:=by intro rec p;kernel_rfl
theorem j0q (n:Nat) {F:Fr} (hF:F.n=20) (hK:Know Inv F.G):qne Tryz.prog F (qv7 n) (q05 0 0 (q00 Tryz.f138)) :=
 q1w hF (by kernel_rfl) (qia n hK) (j7n n) (fuel:=n) (fun _=>rfl) (q03 fun j L h1 h2 h3=>absurd h2 (Nat.not_lt.2 (Nat.le_trans (by decide +kernel) h1))) (q3i qvh)
theorem jcr (n:Nat) : ∀ a,(q8a n).F a=main Tryz.prog 20 (qm6 n) (qdn n) qko (q00 Tryz.f138) [.tmp 4] (q8a n).args (q8a n).res a:=by intro a;kernel_rfl
theorem jdj (n:Nat):q0g Inv Tryz.prog (q8a n):=fun G hG=>⟨⟨by kernel_rfl,fun a r h=>q04 (c:=q00 Tryz.f138) Tryz.func138 (by kernel_rfl) (by kernel_rfl) (Nat.le_of_ble_eq_true (by kernel_rfl)) hG.st (by kernel_rfl) (rs:=[.tmp 4]) (by kernel_rfl) (qia n hG) (lts:=qdn n) (fun F hF hFG=>have hK:Know Inv F.G:=hFG ▸ hG;(q03 (c:=(q00 Tryz.f138)) (fun j L h1 h2 h3=>by
  have h2':j<1:=Nat.lt_of_lt_of_le h2 (by decide +kernel)
  match j,h1,h2',h3 with
  | 0,_,_,h3=>obtain rfl:=Option.some.inj h3;exact (show q05 0 0 (q00 Tryz.f138)=q05 0 0 (q00 Tryz.f138) by kernel_rfl) ▸ j0q n hF hK
  | j+1,_,h2',_=>exact absurd h2' (by omega)))) qvh ((jcr n a).symm.trans h)⟩,rfl⟩
@[reducible] def qa2:SSt:=⟨[(0,.one (.c (.d .str))),(1,.one (.c (.fn 169 []))),(7,.one (.c (.d (.int .i64)))),(8,.one (.c (.d (.int .i64))))],[],[]⟩
@[reducible] def q5r:List (Exit×SSt):=[(.ret,⟨[(4,.one (.c (.d .bool)))],[],[]⟩),(.exit 0,⟨[(0,.one (.c (.d .str)))],[],[]⟩)]
def qlj (n:Nat) (rec:(Yy)→Int→Int→Option Z1) (a1:Yy) (a2:Int) (a3:Int):Option Z1 :=
 (bif decide (a3<a2) then (sAt a1 a3).bind fun c1=>(q41 n c1).bind fun r2=>(bif !r2 then some (Sum.inl ((false,()),((),()))) else q0h (IntKind.wrap .i64 (a3+1)) fun n3=>rec a1 a2 n3) else some (Sum.inr (((a1,()),((),())))))
def qju (n:Nat) (rec:pSt qa2→Option (q1e q5r)) (p:pSt qa2):Option (q1e q5r):=qlj n (fun a1 a2 a3=>rec ((a1,((),(a2,(a3,())))),((),()))) p.1.1 p.1.2.2.1 p.1.2.2.2.1
def q5e (n m:Nat) (a1:Yy) (a2:Int) (a3:Int):Option Z1:=q1n (qju n) m ((a1,((),(a2,(a3,())))),((),()))
theorem qe5 (n m:Nat) (a1 a2 a3):q5e n (m+1) a1 a2 a3=qlj n (fun a1 a2 a3=>q5e n m a1 a2 a3) a1 a2 a3:=rfl
def qwj (n:Nat):LC:={ sh:=qa2,outs:=q5r,F:=q1n (qju n) n }
def qeg (n:Nat):List LC:=[qwj n]
def qgf (n:Nat) (a1:Yy) (a2:Unit):Option (Bool) :=
 (q5e n n a1 (a1.length:Int) (0:Int)).bind fun o4=>Sum.elim (fun (q5:(Bool×Unit)×Unit×Unit)=>some q5.1.1) (fun (q6:(Yy×Unit)×Unit×Unit)=>some (!decide (q6.1.1=([]:Yy)))) o4
def q8c (n:Nat):FC:={ f:=138,args:=[.one (.c (.d .str)),.one (.c (.fn 169 []))],res:=.one (.c (.d .bool)),F:=fun p=>qgf n p.1 p.2 }
def qiq (n:Nat):List FC:=[q4r n]
theorem qjv (n:Nat) {G:World→Prop} (hG:Know Inv G) : ∀ c∈qiq n,q14 Tryz.prog G c∧q0c c.args=true:=List.forall_mem_cons.2 ⟨qo9 n G hG,(fun _ h=>by cases h)⟩
def qhg:q0b:=[]
theorem qwr:drB qhg (q00 Tryz.f138)=true:=by kernel_rfl
theorem j5f (n:Nat) : ∀ rec p,qju n rec p=round Tryz.prog 20 (qiq n) (qeg n) qhg 1 qa2 q5r (q05 0 0 (q00 Tryz.f138)) rec p:=by intro rec p;kernel_rfl
theorem j0d (n:Nat) {F:Fr} (hF:F.n=20) (hK:Know Inv F.G):qne Tryz.prog F (qwj n) (q05 0 0 (q00 Tryz.f138)) :=
 q1w hF (by kernel_rfl) (qjv n hK) (j5f n) (fuel:=n) (fun _=>rfl) (q03 fun j L h1 h2 h3=>absurd h2 (Nat.not_lt.2 (Nat.le_trans (by decide +kernel) h1))) (q3i qwr)
theorem jeh (n:Nat) : ∀ a,(q8c n).F a=main Tryz.prog 20 (qiq n) (qeg n) qhg (q00 Tryz.f138) [.tmp 4] (q8c n).args (q8c n).res a:=by intro a;kernel_rfl
theorem jc1 (n:Nat):q0g Inv Tryz.prog (q8c n):=fun G hG=>⟨⟨by kernel_rfl,fun a r h=>q04 (c:=q00 Tryz.f138) Tryz.func138 (by kernel_rfl) (by kernel_rfl) (Nat.le_of_ble_eq_true (by kernel_rfl)) hG.st (by kernel_rfl) (rs:=[.tmp 4]) (by kernel_rfl) (qjv n hG) (lts:=qeg n) (fun F hF hFG=>have hK:Know Inv F.G:=hFG ▸ hG;(q03 (c:=(q00 Tryz.f138)) (fun j L h1 h2 h3=>by
  have h2':j<1:=Nat.lt_of_lt_of_le h2 (by decide +kernel)
  match j,h1,h2',h3 with
  | 0,_,_,h3=>obtain rfl:=Option.some.inj h3;exact (show q05 0 0 (q00 Tryz.f138)=q05 0 0 (q00 Tryz.f138) by kernel_rfl) ▸ j0d n hF hK
  | j+1,_,h2',_=>exact absurd h2' (by omega)))) qwr ((jeh n a).symm.trans h)⟩,rfl⟩
def qp4 (n:Nat):List LC:=[]
def qh8 (n:Nat) (a1:Yy):Option (Bool) :=
 (qgp n a1 ()).bind fun r1=>some r1
def q91 (n:Nat):FC:={ f:=107,args:=[.one (.c (.d .str))],res:=.one (.c (.d .bool)),F:=fun p=>qh8 n p }
def qxp (n:Nat):List FC:=[q8a n]
theorem qzm (n:Nat) {G:World→Prop} (hG:Know Inv G) : ∀ c∈qxp n,q14 Tryz.prog G c∧q0c c.args=true:=List.forall_mem_cons.2 ⟨jdj n G hG,(fun _ h=>by cases h)⟩
def qu6:q0b:=[]
theorem jd3:drB qu6 (q00 Tryz.f107)=true:=by kernel_rfl
theorem j96 (n:Nat) : ∀ a,(q91 n).F a=main Tryz.prog 5 (qxp n) (qp4 n) qu6 (q00 Tryz.f107) [.tmp 2] (q91 n).args (q91 n).res a:=by intro a;kernel_rfl
theorem qvw (n:Nat):q0g Inv Tryz.prog (q91 n):=fun G hG=>⟨⟨by kernel_rfl,fun a r h=>q04 (c:=q00 Tryz.f107) Tryz.func107 (by kernel_rfl) (by kernel_rfl) (Nat.le_of_ble_eq_true (by kernel_rfl)) hG.st (by kernel_rfl) (rs:=[.tmp 2]) (by kernel_rfl) (qzm n hG) (lts:=qp4 n) (fun F hF hFG=>have hK:Know Inv F.G:=hFG ▸ hG;(q03 fun j L h1 h2 h3=>absurd h2 (Nat.not_lt.2 (Nat.le_trans (by decide +kernel) h1)))) jd3 ((j96 n a).symm.trans h)⟩,rfl⟩
def qff (n:Nat):List LC:=[]
def q4q (n:Nat) (a1:Yy):Option (Bool) :=
 (qgf n a1 ()).bind fun r1=>some r1
def q3o (n:Nat):FC:={ f:=137,args:=[.one (.c (.d .str))],res:=.one (.c (.d .bool)),F:=fun p=>q4q n p }
def qls (n:Nat):List FC:=[q8c n]
theorem qqt (n:Nat) {G:World→Prop} (hG:Know Inv G) : ∀ c∈qls n,q14 Tryz.prog G c∧q0c c.args=true:=List.forall_mem_cons.2 ⟨jc1 n G hG,(fun _ h=>by cases h)⟩
def qjo:q0b:=[]
theorem qyu:drB qjo (q00 Tryz.f137)=true:=by kernel_rfl
theorem qyc (n:Nat) : ∀ a,(q3o n).F a=main Tryz.prog 5 (qls n) (qff n) qjo (q00 Tryz.f137) [.tmp 2] (q3o n).args (q3o n).res a:=by intro a;kernel_rfl
theorem qm4 (n:Nat):q0g Inv Tryz.prog (q3o n):=fun G hG=>⟨⟨by kernel_rfl,fun a r h=>q04 (c:=q00 Tryz.f137) Tryz.func137 (by kernel_rfl) (by kernel_rfl) (Nat.le_of_ble_eq_true (by kernel_rfl)) hG.st (by kernel_rfl) (rs:=[.tmp 2]) (by kernel_rfl) (qqt n hG) (lts:=qff n) (fun F hF hFG=>have hK:Know Inv F.G:=hFG ▸ hG;(q03 fun j L h1 h2 h3=>absurd h2 (Nat.not_lt.2 (Nat.le_trans (by decide +kernel) h1)))) qyu ((qyc n a).symm.trans h)⟩,rfl⟩
def qdd (n:Nat):List LC:=[]
def qb8 (n:Nat) (a1:Yy):Option (Bool) :=
 (qh8 n a1).bind fun r1=>(bif r1 then (bif decide (a1=([48]:Yy)) then some true else (sAt a1 (0:Int)).bind fun c2=>(bif !decide (c2=48) then some true else (q4q n a1).bind fun r3=>some (!r3))) else some false)
def q5t (n:Nat):FC:={ f:=106,args:=[.one (.c (.d .str))],res:=.one (.c (.d .bool)),F:=fun p=>qb8 n p }
def qfx (n:Nat):List FC:=[q91 n,q3o n]
theorem qmz (n:Nat) {G:World→Prop} (hG:Know Inv G) : ∀ c∈qfx n,q14 Tryz.prog G c∧q0c c.args=true:=List.forall_mem_cons.2 ⟨qvw n G hG,List.forall_mem_cons.2 ⟨qm4 n G hG,(fun _ h=>by cases h)⟩⟩
def qey:q0b:=[]
theorem qws:drB qey (q00 Tryz.f106)=true:=by kernel_rfl
theorem qv1 (n:Nat) : ∀ a,(q5t n).F a=main Tryz.prog 19 (qfx n) (qdd n) qey (q00 Tryz.f106) [.tmp 2] (q5t n).args (q5t n).res a:=by intro a;kernel_rfl
theorem qvf (n:Nat):q0g Inv Tryz.prog (q5t n):=fun G hG=>⟨⟨by kernel_rfl,fun a r h=>q04 (c:=q00 Tryz.f106) Tryz.func106 (by kernel_rfl) (by kernel_rfl) (Nat.le_of_ble_eq_true (by kernel_rfl)) hG.st (by kernel_rfl) (rs:=[.tmp 2]) (by kernel_rfl) (qmz n hG) (lts:=qdd n) (fun F hF hFG=>have hK:Know Inv F.G:=hFG ▸ hG;(q03 fun j L h1 h2 h3=>absurd h2 (Nat.not_lt.2 (Nat.le_trans (by decide +kernel) h1)))) qws ((qv1 n a).symm.trans h)⟩,rfl⟩
end Go.Proofs.YtapfankgdkdkgaaGreatDoor.AM
namespace Go.Proofs.YtapfankgdkdkgaaGreatDoor.AM
open Go.RowKit
theorem je5 {β:Type} {l:List β} {j:Nat} (h:j<l.length):nth l j=some l[j]:=by rw [q4f,List.getElem?_eq_getElem h]
theorem q37 {β:Type} {l:List β} {j:Nat} (h:j<l.length):q2g l (j:Int)=some l[j]:=by
 unfold q2g;rw [if_pos (by omega),Int.toNat_natCast,je5 h]
theorem qcn {s:Yy} {j:Nat} (h:j<s.length):sAt s (j:Int)=some ((s[j].toNat:Nat):Int):=by
 unfold sAt;rw [q37 h];rfl
theorem sub_le {β:Type} {l:List β} {a b:Nat} (h1:a≤b) (h2:b≤l.length):q20 l (a:Int) (b:Int)=some ((l.drop a).take (b - a)):=by
 unfold q20;rw [if_pos ⟨by omega,by omega,by omega⟩,Int.toNat_natCast,Int.toNat_natCast]
theorem sub_zero {β:Type} {l:List β} {b:Nat} (h2:b≤l.length):q20 l (0:Int) (b:Int)=some (l.take b):=by
 have:=sub_le (l:=l) (a:=0) (b:=b) (Nat.zero_le _) h2
 simpa using this
theorem qao {β:Type} {k:Nat} {xs ys:List β} (h:(xs.length+ys.length)*k≤140737488355328):q7g k xs ys=some (xs++ys):=by
 unfold q7g;rw [if_pos h]
theorem q1f {i:Nat} (h:i<4611686018427387904):IntKind.wrap .i64 ((i:Int)+1)=((i+1:Nat):Int):=by rw [wrap64 (by omega) (by omega)];rfl
theorem qr6 {i:Nat} (h:i<4611686018427387904):IntKind.wrap .i64 (i:Int)=(i:Int):=by rw [wrap64 (by omega) (by omega)]
end Go.Proofs.YtapfankgdkdkgaaGreatDoor.AM
namespace Go.Proofs.YtapfankgdkdkgaaGreatDoor.AM
open Go.RowKit
theorem j41 (n:Nat) (c:UInt8):q41 n ((c.toNat:Nat):Int)=some (q29 c):=by
 unfold q41 q29
 have h1:decide ((48:Int)≤((c.toNat:Nat):Int))=decide (48≤c.toNat):=decide_eq_decide.2 (by omega)
 have h2:decide (((c.toNat:Nat):Int)≤(57:Int))=decide (c.toNat≤57):=decide_eq_decide.2 (by omega)
 rw [h1,h2]
 cases decide (48≤c.toNat)<;>cases decide (c.toNat≤57)<;>rfl
theorem jn4 (n:Nat) (c:UInt8):qgh n ((c.toNat:Nat):Int)=some (qs7 c):=by
 unfold qgh qs7
 have h1:decide ((97:Int)≤((c.toNat:Nat):Int))=decide (97≤c.toNat):=decide_eq_decide.2 (by omega)
 have h2:decide (((c.toNat:Nat):Int)≤(122:Int))=decide (c.toNat≤122):=decide_eq_decide.2 (by omega)
 have h3:decide ((65:Int)≤((c.toNat:Nat):Int))=decide (65≤c.toNat):=decide_eq_decide.2 (by omega)
 have h4:decide (((c.toNat:Nat):Int)≤(90:Int))=decide (c.toNat≤90):=decide_eq_decide.2 (by omega)
 have h5:decide (((c.toNat:Nat):Int)=(45:Int))=decide (c.toNat=45):=decide_eq_decide.2 (by omega)
 rw [h1,h2,h3,h4,h5,j41]
 cases decide (97≤c.toNat)<;>cases decide (c.toNat≤122)<;>cases decide (65≤c.toNat)<;>cases decide (c.toNat≤90)<;>cases q29 c<;>rfl
theorem qi8 (n:Nat) (s:Yy) (hL:s.length≤1000000) : ∀ m j:Nat,j≤s.length→s.length - j<m→q60 n m s ((s.length:Nat):Int) (j:Int)=some (if (s.drop j).all qs7=true then Sum.inr ((s,()),((),())) else Sum.inl ((false,()),((),())))
 | 0,j,_,h=>absurd h (Nat.not_lt_zero _)
 | m+1,j,hj,h=>by
  rw [qdr]
  unfold qjt
  by_cases c0:j<s.length
  ·have c0':((j:Nat):Int)<((s.length:Nat):Int):=by omega
   have ih:=qi8 n s hL m (j+1) (by omega) (by omega)
   have hd:s.drop j=s[j]::s.drop (j+1):=(List.drop_eq_getElem_cons c0)
   simp only [c0',decide_true,cond_true,qcn c0,Option.bind_some,jn4,q0h,q1f (show j<4611686018427387904 by omega),ih,hd,List.all_cons]
   cases qs7 s[j]<;>simp
  ·have c0' : ¬ ((j:Nat):Int)<((s.length:Nat):Int):=by omega
   have:s.drop j = []:=List.drop_eq_nil_of_le (by omega)
   simp [c0',this]
theorem qyk (n:Nat) (s:Yy) (hL:s.length≤1000000) (hn:s.length<n):qgp n s ()=some (s.all qs7 && !decide (s = [])):=by
 unfold qgp
 have:=qi8 n s hL n 0 (Nat.zero_le _) (by omega)
 rw [show ((0:Nat):Int)=(0:Int) from rfl] at this
 rw [this,List.drop_zero]
 cases s.all qs7<;>rfl
theorem ql0 (n:Nat) (s:Yy) (hL:s.length≤1000000) : ∀ m j:Nat,j≤s.length→s.length - j<m→q5e n m s ((s.length:Nat):Int) (j:Int)=some (if (s.drop j).all q29=true then Sum.inr ((s,()),((),())) else Sum.inl ((false,()),((),())))
 | 0,j,_,h=>absurd h (Nat.not_lt_zero _)
 | m+1,j,hj,h=>by
  rw [qe5]
  unfold qlj
  by_cases c0:j<s.length
  ·have c0':((j:Nat):Int)<((s.length:Nat):Int):=by omega
   have ih:=ql0 n s hL m (j+1) (by omega) (by omega)
   have hd:s.drop j=s[j]::s.drop (j+1):=(List.drop_eq_getElem_cons c0)
   simp only [c0',decide_true,cond_true,qcn c0,Option.bind_some,j41,q0h,q1f (show j<4611686018427387904 by omega),ih,hd,List.all_cons]
   cases q29 s[j]<;>simp
  ·have c0' : ¬ ((j:Nat):Int)<((s.length:Nat):Int):=by omega
   have:s.drop j = []:=List.drop_eq_nil_of_le (by omega)
   simp [c0',this]
theorem j16 (n:Nat) (s:Yy) (hL:s.length≤1000000) (hn:s.length<n):qgf n s ()=some (s.all q29 && !decide (s = [])):=by
 unfold qgf
 have:=ql0 n s hL n 0 (Nat.zero_le _) (by omega)
 rw [show ((0:Nat):Int)=(0:Int) from rfl] at this
 rw [this,List.drop_zero]
 cases s.all q29<;>rfl
theorem qlh (n:Nat) (s:Yy) (hL:s.length≤1000000) (hn:s.length<n):qh8 n s=some (q2v s):=by
 unfold qh8;rw [qyk n s hL hn];rfl
theorem q78 (n:Nat) (s:Yy) (hL:s.length≤1000000) (hn:s.length<n):q4q n s=some (qc5 s):=by
 unfold q4q;rw [j16 n s hL hn];rfl
theorem j7s (n:Nat) (s:Yy) (hL:s.length≤1000000) (hn:s.length<n):qb8 n s=some (q6a s):=by
 unfold qb8 q6a
 rw [qlh n s hL hn,q78 n s hL hn]
 simp only [Option.bind_some]
 cases hp:q2v s with
 | false=>rfl
 | true =>
  cases s with
  | nil=>simp [q2v] at hp
  | cons c r =>
   have h0:sAt (c::r) (0:Int)=some ((c.toNat:Nat):Int):=qcn (s:=c::r) (j:=0) (by simp)
   have h1:decide (((c.toNat:Nat):Int)=(48:Int))=decide ((c::r).head? = some 48):=decide_eq_decide.2 (by
    simp only [List.head?_cons,Option.some.injEq]
    constructor
    ·intro h;exact UInt8.toNat_inj.1 (by have e48:(48:UInt8).toNat=48:=rfl;rw [e48];omega)
    ·rintro rfl;rfl)
   simp only [cond_true,h0,Option.bind_some,h1,Bool.true_and]
   cases decide (c::r = [48])<;>cases decide ((c::r).head? = some 48)<;>cases qc5 (c::r)<;>rfl
end Go.Proofs.YtapfankgdkdkgaaGreatDoor.AM
namespace Go.Proofs
open Go.RowKit Go.Shelf Go.Lib
attribute [local go_sem] Oper.semAt_some
namespace YtapfankgdkdkgaaGreatDoor.AM
theorem q2b {P:Program} {fn:Func} {p:Tmp} {ty:TypeId} {b:Nat} {v:Value} {tmps:Array Value} {w:World} (h:fn.results = #[.cell p ty]) (hp:tmps.getD p undef = .pointer (some ⟨b,0,none⟩)) (ha:qo6 P ty=some false)
  (hc:w.cell? ⟨b,0,none⟩=some v):(results fn tmps).run P w = .ok v w:=by
 have hp':tmps[p]?.getD undef = .pointer (some ⟨b,0,none⟩):=by simpa using hp
 simp only [results,h]
 simp [Sem.run_bind,hp',asAddr,loadVar,q1b ha w,go_sem,hc]
theorem q2c {W W':World} {a:Addr} {v:Value} (hb:Below W.heap.size W W') (h:W.cell? a=some v):W'.cell? a=some v:=by
 obtain ⟨o,ho,hc⟩:=cells_of_cell h
 exact (World.cell?_of_block ((hb.block _ (Array.getElem?_eq_some_iff.1 ho).1).trans ho |>.trans ho.symm)).trans h
theorem q2y {W W':World} {a:Addr} {v:Value} (hb:Below W.heap.size W W') (h:W.cell? a=some v):W'.frozen? a=W.frozen? a:=by
 obtain ⟨o,ho,hc⟩:=cells_of_cell h
 exact World.frozen?_of_block ((hb.block _ (Array.getElem?_eq_some_iff.1 ho).1).trans ho |>.trans ho.symm)
theorem q25 {W W':World} (hb:Below W.heap.size W W'):KeepsOthers W W':=⟨hb.size,fun k o h _=>(hb.block k (Array.getElem?_eq_some_iff.1 h).1).trans h⟩
theorem q9n {pS:Nat} {r:List UInt8} {W W':World} (h:Left pS r W) (hb:Below W.heap.size W W'):Left pS r W':=⟨q2c hb h.1,(q2y hb h.1).trans h.2⟩
theorem q0m {w:World} {b:Nat} {v:Value} {t:TypeId} (h:w.heap[b]? = some (.cells #[v] t (0,0))):w.cell? ⟨b,0,none⟩=some v∧w.frozen? ⟨b,0,none⟩=false:=by
 constructor
 ·simp [World.cell?,h]
 ·simp [World.frozen?,h]
theorem five (w:World) (o0 o1 o2 o3 o4:Obj) : ∃ W,(((((w.alloc o0).alloc o1).alloc o2).alloc o3).alloc o4)=W∧W.heap.size=w.heap.size+5∧Below w.heap.size w W∧W.heap[w.heap.size]? = some o0∧W.heap[w.heap.size+1]? = some o1∧W.heap[w.heap.size+1+1]? = some o2∧W.heap[w.heap.size+1+1+1]? = some o3∧W.heap[w.heap.size+1+1+2]? = some o4:=by
 have al : ∀ (w:World) (o:Obj) (k:Nat),k<w.heap.size→(w.alloc o).heap[k]? = w.heap[k]?:=fun w o k h=>Below.heap_alloc _ _ _ h
 refine ⟨_,rfl,by simp,(((((Below.refl _ w).alloc (Nat.le_refl _) _).alloc (by simp) _).alloc (by simp;omega) _).alloc (by simp;omega) _).alloc (by simp;omega) _,?_,?_,?_,?_,?_⟩
 ·rw [al _ _ _ (by simp<;>omega),al _ _ _ (by simp<;>omega),al _ _ _ (by simp<;>omega),al _ _ _ (by simp),World.alloc_heap_new]
 ·rw [al _ _ _ (by simp<;>omega),al _ _ _ (by simp<;>omega),al _ _ _ (by simp)]
  have:=World.alloc_heap_new (w.alloc o0) o1
  rw [World.size_alloc] at this;exact this
 ·rw [al _ _ _ (by simp<;>omega),al _ _ _ (by simp)]
  have:=World.alloc_heap_new ((w.alloc o0).alloc o1) o2
  rw [World.size_alloc,World.size_alloc] at this;exact this
 ·rw [al _ _ _ (by simp)]
  have:=World.alloc_heap_new (((w.alloc o0).alloc o1).alloc o2) o3
  rw [World.size_alloc,World.size_alloc,World.size_alloc] at this;exact this
 ·have:=World.alloc_heap_new ((((w.alloc o0).alloc o1).alloc o2).alloc o3) o4
  rw [World.size_alloc,World.size_alloc,World.size_alloc,World.size_alloc] at this;exact this
theorem hag:qo6 Tryz.prog 4=some false:=by kernel_rfl
structure Rng (fv:Value) (pF pR:Nat) (pP pC:Nat) (c:UInt8) (w0:World) (pred:List UInt8→Bool) (pre:List (List UInt8)) (W:World):Prop where
 fn:W.cell? ⟨pF,0,none⟩=some fv
 res:W.cell? ⟨pR,0,none⟩=some (.bool false)
 frz:W.frozen? ⟨pR,0,none⟩=false
 cP:W.cell? ⟨pP,0,none⟩=some (.string (ba [c]))
 cC:W.cell? ⟨pC,0,none⟩=some (.int .i64 0)
 below:Below w0.heap.size w0 W
 all:pre.all pred=true
structure RngX (pR:Nat) (w0:World) (pred:List UInt8→Bool) (pre:List (List UInt8)) (W:World):Prop where
 res:W.cell? ⟨pR,0,none⟩=some (.bool false)
 below:Below w0.heap.size w0 W
 no:pre.all pred=false
theorem qsf {fv:Value} {pF pR pP pC:Nat} {c:UInt8} {w0:World} {pred:List UInt8→Bool} {B:Nat} (hB:w0.heap.size≤B):OwnFrom B (Rng fv pF pR pP pC c w0 pred):=fun s W W' row h hg hr =>
 ⟨q7m h.fn hg hr,q7m h.res hg hr,(frozen_kept h.res hg (fun r e=>(hr r e).2)).trans h.frz,q7m h.cP hg hr,q7m h.cC hg hr,h.below.grown hg h.below.size (fun k e=>Nat.le_trans hB (hr k e).1),h.all⟩
theorem qrd {pR:Nat} {w0:World} {pred:List UInt8→Bool} {B:Nat} (hB:w0.heap.size≤B):OwnFrom B (RngX pR w0 pred):=fun s W W' row h hg hr =>
 ⟨q7m h.res hg hr,h.below.grown hg h.below.size (fun k e=>Nat.le_trans hB (hr k e).1),h.no⟩
theorem qbl {fv:Value} {pF pR pP pC:Nat} {c:UInt8} {w0:World} {pred:List UInt8→Bool} {pre:List (List UInt8)} {x:List UInt8} {W W':World} (h:Rng fv pF pR pP pC c w0 pred pre W) (hb:Below W.heap.size W W') (hx:pred x=true):Rng fv pF pR pP pC c w0 pred (pre ++ [x]) W' :=
 ⟨q2c hb h.fn,q2c hb h.res,(q2y hb h.res).trans h.frz,q2c hb h.cP,q2c hb h.cC,h.below.trans (hb.mono h.below.size),by rw [List.all_append,h.all];simp [hx]⟩
theorem qrm {fv:Value} {pF pR pP pC:Nat} {c:UInt8} {w0:World} {pred:List UInt8→Bool} {pre:List (List UInt8)} {W:World} {q:Nat} (v:Value) (h:Rng fv pF pR pP pC c w0 pred pre W) (h0:w0.heap.size≤q) (h1:q≠pF) (h2:q≠pR) (h3:q≠pP) (h4:q≠pC):Rng fv pF pR pP pC c w0 pred pre (W.setCell ⟨q,0,none⟩ v):=by
 have ne : ∀ p:Nat,q≠p→(W.setCell ⟨q,0,none⟩ v).cell? ⟨p,0,none⟩=W.cell? ⟨p,0,none⟩:=fun p hp=>World.cell?_setCell_other _ _ _ _ (by intro e;exact hp (by injection e with e))
 exact ⟨(ne _ h1).trans h.fn,(ne _ h2).trans h.res,by rw [World.frozen?_setCell];exact h.frz,(ne _ h3).trans h.cP,(ne _ h4).trans h.cC,h.below.setCell (by simpa using h0) _,h.all⟩
theorem four (w:World) (o0 o1 o2 o3:Obj) : ∃ W,((((w.alloc o0).alloc o1).alloc o2).alloc o3)=W∧W.heap.size=w.heap.size+4∧Below w.heap.size w W∧W.heap[w.heap.size]? = some o0∧W.heap[w.heap.size+1]? = some o1∧W.heap[w.heap.size+1+1]? = some o2∧W.heap[w.heap.size+1+2]? = some o3:=by
 have al : ∀ (w:World) (o:Obj) (k:Nat),k<w.heap.size→(w.alloc o).heap[k]? = w.heap[k]?:=fun w o k h=>Below.heap_alloc _ _ _ h
 refine ⟨_,rfl,by simp,((((Below.refl _ w).alloc (Nat.le_refl _) _).alloc (by simp) _).alloc (by simp;omega) _).alloc (by simp;omega) _,?_,?_,?_,?_⟩
 ·rw [al _ _ _ (by simp<;>omega),al _ _ _ (by simp<;>omega),al _ _ _ (by simp),World.alloc_heap_new]
 ·rw [al _ _ _ (by simp<;>omega),al _ _ _ (by simp)]
  have:=World.alloc_heap_new (w.alloc o0) o1
  rw [World.size_alloc] at this;exact this
 ·rw [al _ _ _ (by simp)]
  have:=World.alloc_heap_new ((w.alloc o0).alloc o1) o2
  rw [World.size_alloc,World.size_alloc] at this;exact this
 ·have:=World.alloc_heap_new (((w.alloc o0).alloc o1).alloc o2) o3
  rw [World.size_alloc,World.size_alloc,World.size_alloc] at this;exact this
structure RngY (pR:Nat) (w0:World) (pred:List UInt8→Bool) (pre:List (List UInt8)) (W:World):Prop where
 res:W.cell? ⟨pR,0,none⟩=some (.bool true)
 below:Below w0.heap.size w0 W
 no:pre.all pred=false
theorem jgw {pR:Nat} {w0:World} {pred:List UInt8→Bool} {B:Nat} (hB:w0.heap.size≤B):OwnFrom B (RngY pR w0 pred):=fun s W W' row h hg hr =>
 ⟨q7m h.res hg hr,h.below.grown hg h.below.size (fun k e=>Nat.le_trans hB (hr k e).1),h.no⟩
theorem j3k {pred:List UInt8→Bool} {s x:List UInt8} {pre t:List (List UInt8)} (hsp:spl 47 [] s=pre++x::t) (hn:(pre ++ [x]).all pred=false):(spl 47 [] s).all pred=false:=by
 rw [List.all_append,Bool.and_eq_false_iff] at hn
 rw [hsp,List.all_append,Bool.and_eq_false_iff]
 rcases hn with hn|hn
 ·exact Or.inl hn
 ·refine Or.inr ?_
  simp only [List.all_cons,List.all_nil,Bool.and_true] at hn
  rw [List.all_cons,hn];rfl
end YtapfankgdkdkgaaGreatDoor.AM
end Go.Proofs
namespace Go.Proofs
open Go.RowKit Go.Shelf Go.Lib
attribute [local go_sem] Oper.semAt_some
namespace YtapfankgdkdkgaaGreatDoor.AM
set_option maxHeartbeats 2000000 in
theorem qmq (pred:List UInt8→Bool) (hp : ∀ (x:List UInt8) (w:World),Inv w→x.length≤30→Calls Tryz.prog 107 #[.string (ba x)] w fun e w'=>e = .returned (.bool (pred x))∧Below w.heap.size w w')
  (s:List UInt8) (w:World) (hI:Inv w) :
  Calls Tryz.prog 105 #[.string (ba s),.func (.func 107) #[] #[]] w fun e w'=>e = .returned (.bool (q50 pred s))∧Below w.heap.size w w':=by
 refine (callsIn_wide (n:=9)).1 ?_
 refine callsIn_of_wp_marks Tryz.func105 rfl trivial ?_ rfl
 simp only [Tryz.ntmps105,List.size_toArray,List.length_cons,List.length_nil,Nat.reduceAdd,Nat.reduceSub,Array.replicate_succ,Array.replicate_zero,List.push_toArray,List.append_toArray,List.nil_append,List.cons_append]
 have hsz:(ba s).size=s.length:=q2k s
 by_cases h1:s = []
 ·subst h1
  have he:(ba []).toList.isEmpty=true:=by rw [q6c];rfl
  gi_wp2
  refine ⟨_,q2b (b:=w.heap.size+1) (v:=.bool true) rfl rfl hag (by simp),rfl,?_⟩
  exact ((Below.refl _ w).alloc (Nat.le_refl _) _).alloc (by simp) _
 have he:(ba s).toList.isEmpty=false:=by rw [q6c];simpa using h1
 by_cases h2:s.length≤30
 ·gi_wp2_with (refine ⟨trivial,?_⟩;gi_at_call 136;refine (callsIn_wide.2 (q3q _ _ _)).mono ?_;rintro e w' ⟨rfl,rfl⟩)
  obtain ⟨W0,hW0,hs0,hb0,g0,g1,g2,g3,g4⟩:=five w (Obj.cells #[Value.func (Fn.func 107) #[] #[]] 140) (Obj.cells #[Value.bool false] 4) (Obj.cells #[Value.string (ba s)] 9) (Obj.cells #[Value.string { data:=#[46] }] 9) (Obj.cells #[Value.int IntKind.i64 0] 3)
  rw [hW0]
  clear hW0
  obtain ⟨c0,f0⟩:=q0m g0
  obtain ⟨c1,f1⟩:=q0m g1
  obtain ⟨c2,f2⟩:=q0m g2
  obtain ⟨c3,f3⟩:=q0m g3
  obtain ⟨c4,f4⟩:=q0m g4
  refine range_split (n:=9) (by omega) 46 (w.heap.size+1+1) (w.heap.size+1+1+1) (w.heap.size+1+1+2) s (by omega) rfl ⟨c2,f2⟩
   (Rng (.func (.func 107) #[] #[]) w.heap.size (w.heap.size+1) (w.heap.size+1+1+1) (w.heap.size+1+1+2) 46 w pred) (RngX (w.heap.size+1) w pred) (qsf (by omega)) (qrd (by omega))
   (fun pre W h=>⟨h.cP,h.cC,(hI.below h.below).maxLen⟩) (fun pre W v h=>qrm v h (by omega) (by omega) (by omega) (by omega) (by omega)) ⟨c0,c1,f1,c3,c4,hb0,rfl⟩
   (fun x=>{ tmps:=#[.string (ba s),.func (.func 107) #[] #[],undef,.pointer (some ⟨w.heap.size,0,none⟩),.pointer (some ⟨w.heap.size+1,0,none⟩),.string (ba x),.string (ba s),.bool false,.string (ba s),.int .i64 s.length,.bool (decide ((30:Int)<s.length)),.string (ba s),
    .func (.func 200) #[] #[.pointer (some ⟨w.heap.size+1+1+1,0,none⟩),.pointer (some ⟨w.heap.size+1+1,0,none⟩),.pointer (some ⟨w.heap.size+1+1+2,0,none⟩)],.string (ba x),undef,undef,undef,undef],defers:=[] }) ?assign ?body ?done ?stop
  case assign =>
   intro l x W K hK
   gi_wp2
   exact hK
  case body =>
   intro l pre x r W hi hL hx
   have k0:=hi.fn
   have k1:=hi.res
   have k2:=hi.frz
   have hc:=hp x W (hI.below hi.below) (by omega)
   cases hpx:pred x with
   | true =>
    rw [hpx] at hc
    gi_wp2_with (refine ⟨trivial,?_⟩;gi_at_call 107;refine (CallsIn.inRound l (callsIn_wide.2 hc)).mono ?_;rintro e w' ⟨rfl,hb'⟩)
    exact ⟨q25 hb',qbl hi hb' hpx,q9n hL hb'⟩
   | false =>
    rw [hpx] at hc
    gi_wp2_with (refine ⟨trivial,?_⟩;gi_at_call 107;refine (CallsIn.inRound l (callsIn_wide.2 hc)).mono ?_;rintro e w' ⟨rfl,hb'⟩;have k3:=q2c hb' hi.res;have k4:=(q2y hb' hi.res).trans hi.frz)
    exact ⟨(q25 hb').trans (KeepsOthers.setCell _ _ _),World.cell?_setCell_same' _ _ _ (by rw [k3];rfl),(hi.below.trans (hb'.mono hi.below.size)).setCell (by simp) _,by simp [hpx]⟩
  case done =>
   intro D W hD hi hK
   have k1:=hi.res
   have k2:=hi.frz
   gi_wp2
   have hK':=(KeepsOthers.setCell W ⟨w.heap.size+1,0,none⟩ (.bool true)).same D _ hK rfl
   have hW':Below w.heap.size w (W.setCell ⟨w.heap.size+1,0,none⟩ (.bool true)):=hi.below.setCell (by simp) _
   have k5:(W.setCell ⟨w.heap.size+1,0,none⟩ (.bool true)).cell? ⟨w.heap.size+1,0,none⟩=some (.bool true):=World.cell?_setCell_same' _ _ _ (by rw [k1];rfl)
   generalize W.setCell ⟨w.heap.size+1,0,none⟩ (.bool true)=W2 at hK' hW' k5
   refine ⟨by simp,.inl ⟨_,_,rfl,run_takeDeferred hK',?_⟩⟩
   have hg:=grownBy_putObj' W2 D (.deferred none)
   refine ⟨_,q2b (b:=w.heap.size+1) (v:=.bool true) rfl rfl hag (cell_kept k5 hg (fun r e=>by cases e;exact ⟨_,hK',rfl⟩)),?_,?_⟩
   ·unfold q50;simp [h1,h2,hi.all]
   ·exact hW'.grown hg hW'.size (fun k e=>by cases e;omega)
  case stop =>
   intro D pre x t W hD hsp hi hK
   refine ⟨by simp,.inl ⟨_,_,rfl,run_takeDeferred hK,?_⟩⟩
   have hg:=grownBy_putObj' W D (.deferred none)
   refine ⟨_,q2b (b:=w.heap.size+1) (v:=.bool false) rfl rfl hag (cell_kept hi.res hg (fun r e=>by cases e;exact ⟨_,hK,rfl⟩)),?_,?_⟩
   ·have hn:=hi.no
    rw [List.all_append,Bool.and_eq_false_iff] at hn
    have ha:(spl 46 [] s).all pred=false:=by
     rw [hsp,List.all_append,Bool.and_eq_false_iff]
     rcases hn with hn|hn
     ·exact Or.inl hn
     ·refine Or.inr ?_
      simp only [List.all_cons,List.all_nil,Bool.and_true] at hn
      rw [List.all_cons,hn];rfl
    unfold q50;simp [h1,ha]
   ·exact hi.below.grown hg hi.below.size (fun k e=>by cases e;omega)
 ·gi_wp2
  refine ⟨_,q2b (b:=w.heap.size+1) (v:=.bool false) rfl rfl hag (by simp),?_,?_⟩
  ·unfold q50;simp [h1,h2]
  ·exact ((Below.refl _ w).alloc (Nat.le_refl _) _).alloc (by simp) _
set_option maxHeartbeats 2000000 in
theorem qru (pred:List UInt8→Bool) (hp : ∀ (x:List UInt8) (w:World),Inv w→x.length≤30→Calls Tryz.prog 106 #[.string (ba x)] w fun e w'=>e = .returned (.bool (pred x))∧Below w.heap.size w w')
  (s:List UInt8) (w:World) (hI:Inv w) :
  Calls Tryz.prog 105 #[.string (ba s),.func (.func 106) #[] #[]] w fun e w'=>e = .returned (.bool (q50 pred s))∧Below w.heap.size w w':=by
 refine (callsIn_wide (n:=9)).1 ?_
 refine callsIn_of_wp_marks Tryz.func105 rfl trivial ?_ rfl
 simp only [Tryz.ntmps105,List.size_toArray,List.length_cons,List.length_nil,Nat.reduceAdd,Nat.reduceSub,Array.replicate_succ,Array.replicate_zero,List.push_toArray,List.append_toArray,List.nil_append,List.cons_append]
 have hsz:(ba s).size=s.length:=q2k s
 by_cases h1:s = []
 ·subst h1
  have he:(ba []).toList.isEmpty=true:=by rw [q6c];rfl
  gi_wp2
  refine ⟨_,q2b (b:=w.heap.size+1) (v:=.bool true) rfl rfl hag (by simp),rfl,?_⟩
  exact ((Below.refl _ w).alloc (Nat.le_refl _) _).alloc (by simp) _
 have he:(ba s).toList.isEmpty=false:=by rw [q6c];simpa using h1
 by_cases h2:s.length≤30
 ·gi_wp2_with (refine ⟨trivial,?_⟩;gi_at_call 136;refine (callsIn_wide.2 (q3q _ _ _)).mono ?_;rintro e w' ⟨rfl,rfl⟩)
  obtain ⟨W0,hW0,hs0,hb0,g0,g1,g2,g3,g4⟩:=five w (Obj.cells #[Value.func (Fn.func 106) #[] #[]] 140) (Obj.cells #[Value.bool false] 4) (Obj.cells #[Value.string (ba s)] 9) (Obj.cells #[Value.string { data:=#[46] }] 9) (Obj.cells #[Value.int IntKind.i64 0] 3)
  rw [hW0]
  clear hW0
  obtain ⟨c0,f0⟩:=q0m g0
  obtain ⟨c1,f1⟩:=q0m g1
  obtain ⟨c2,f2⟩:=q0m g2
  obtain ⟨c3,f3⟩:=q0m g3
  obtain ⟨c4,f4⟩:=q0m g4
  refine range_split (n:=9) (by omega) 46 (w.heap.size+1+1) (w.heap.size+1+1+1) (w.heap.size+1+1+2) s (by omega) rfl ⟨c2,f2⟩
   (Rng (.func (.func 106) #[] #[]) w.heap.size (w.heap.size+1) (w.heap.size+1+1+1) (w.heap.size+1+1+2) 46 w pred) (RngX (w.heap.size+1) w pred) (qsf (by omega)) (qrd (by omega))
   (fun pre W h=>⟨h.cP,h.cC,(hI.below h.below).maxLen⟩) (fun pre W v h=>qrm v h (by omega) (by omega) (by omega) (by omega) (by omega)) ⟨c0,c1,f1,c3,c4,hb0,rfl⟩
   (fun x=>{ tmps:=#[.string (ba s),.func (.func 106) #[] #[],undef,.pointer (some ⟨w.heap.size,0,none⟩),.pointer (some ⟨w.heap.size+1,0,none⟩),.string (ba x),.string (ba s),.bool false,.string (ba s),.int .i64 s.length,.bool (decide ((30:Int)<s.length)),.string (ba s),
    .func (.func 200) #[] #[.pointer (some ⟨w.heap.size+1+1+1,0,none⟩),.pointer (some ⟨w.heap.size+1+1,0,none⟩),.pointer (some ⟨w.heap.size+1+1+2,0,none⟩)],.string (ba x),undef,undef,undef,undef],defers:=[] }) ?assign ?body ?done ?stop
  case assign =>
   intro l x W K hK
   gi_wp2
   exact hK
  case body =>
   intro l pre x r W hi hL hx
   have k0:=hi.fn
   have k1:=hi.res
   have k2:=hi.frz
   have hc:=hp x W (hI.below hi.below) (by omega)
   cases hpx:pred x with
   | true =>
    rw [hpx] at hc
    gi_wp2_with (refine ⟨trivial,?_⟩;gi_at_call 106;refine (CallsIn.inRound l (callsIn_wide.2 hc)).mono ?_;rintro e w' ⟨rfl,hb'⟩)
    exact ⟨q25 hb',qbl hi hb' hpx,q9n hL hb'⟩
   | false =>
    rw [hpx] at hc
    gi_wp2_with (refine ⟨trivial,?_⟩;gi_at_call 106;refine (CallsIn.inRound l (callsIn_wide.2 hc)).mono ?_;rintro e w' ⟨rfl,hb'⟩;have k3:=q2c hb' hi.res;have k4:=(q2y hb' hi.res).trans hi.frz)
    exact ⟨(q25 hb').trans (KeepsOthers.setCell _ _ _),World.cell?_setCell_same' _ _ _ (by rw [k3];rfl),(hi.below.trans (hb'.mono hi.below.size)).setCell (by simp) _,by simp [hpx]⟩
  case done =>
   intro D W hD hi hK
   have k1:=hi.res
   have k2:=hi.frz
   gi_wp2
   have hK':=(KeepsOthers.setCell W ⟨w.heap.size+1,0,none⟩ (.bool true)).same D _ hK rfl
   have hW':Below w.heap.size w (W.setCell ⟨w.heap.size+1,0,none⟩ (.bool true)):=hi.below.setCell (by simp) _
   have k5:(W.setCell ⟨w.heap.size+1,0,none⟩ (.bool true)).cell? ⟨w.heap.size+1,0,none⟩=some (.bool true):=World.cell?_setCell_same' _ _ _ (by rw [k1];rfl)
   generalize W.setCell ⟨w.heap.size+1,0,none⟩ (.bool true)=W2 at hK' hW' k5
   refine ⟨by simp,.inl ⟨_,_,rfl,run_takeDeferred hK',?_⟩⟩
   have hg:=grownBy_putObj' W2 D (.deferred none)
   refine ⟨_,q2b (b:=w.heap.size+1) (v:=.bool true) rfl rfl hag (cell_kept k5 hg (fun r e=>by cases e;exact ⟨_,hK',rfl⟩)),?_,?_⟩
   ·unfold q50;simp [h1,h2,hi.all]
   ·exact hW'.grown hg hW'.size (fun k e=>by cases e;omega)
  case stop =>
   intro D pre x t W hD hsp hi hK
   refine ⟨by simp,.inl ⟨_,_,rfl,run_takeDeferred hK,?_⟩⟩
   have hg:=grownBy_putObj' W D (.deferred none)
   refine ⟨_,q2b (b:=w.heap.size+1) (v:=.bool false) rfl rfl hag (cell_kept hi.res hg (fun r e=>by cases e;exact ⟨_,hK,rfl⟩)),?_,?_⟩
   ·have hn:=hi.no
    rw [List.all_append,Bool.and_eq_false_iff] at hn
    have ha:(spl 46 [] s).all pred=false:=by
     rw [hsp,List.all_append,Bool.and_eq_false_iff]
     rcases hn with hn|hn
     ·exact Or.inl hn
     ·refine Or.inr ?_
      simp only [List.all_cons,List.all_nil,Bool.and_true] at hn
      rw [List.all_cons,hn];rfl
    unfold q50;simp [h1,ha]
   ·exact hi.below.grown hg hi.below.size (fun k e=>by cases e;omega)
 ·gi_wp2
  refine ⟨_,q2b (b:=w.heap.size+1) (v:=.bool false) rfl rfl hag (by simp),?_,?_⟩
  ·unfold q50;simp [h1,h2]
  ·exact ((Below.refl _ w).alloc (Nat.le_refl _) _).alloc (by simp) _
theorem qx6 (x:List UInt8) (w:World) (hI:Inv w) (hx:x.length≤30):Calls Tryz.prog 107 #[.string (ba x)] w fun e w'=>e = .returned (.bool (q2v x))∧Below w.heap.size w w':=by
 have h:=(qvw 100 Inv q79).1.2 x (q2v x) (qlh 100 x (by omega) (by omega))
 refine (h (fun _ _=>False) w #[.string (ba x)] hI (fun b o h=>h.elim) ⟨q06 _,trivial⟩).mono ?_
 rintro e w' ⟨v,Pc,rfl,hb,_,_,hv⟩
 have hv':v = .bool (q2v x):=q09 hv
 rw [hv']
 exact ⟨rfl,hb⟩
def qew (s:List UInt8) (u:Unit):Option Bool:=some (q50 q2v s)
def qm0:FC:={ f:=105,args:=[qp8,.one (.c (.fn 107 []))],res:=jgl,F:=fun p=>qew p.1 p.2 }
theorem j0r:q0g Inv Tryz.prog qm0:=fun G hG=>⟨⟨by kernel_rfl,fun a r h=>by
 obtain ⟨s,u⟩:=a
 have hr:q50 q2v s=r:=Option.some.inj h
 intro Pc w vs hg hlt hv
 obtain ⟨l⟩:=vs
 match l,hv with
 | [x,y],⟨h1,h2,_⟩ =>
  obtain rfl:x = .string (ba s):=q09 h1
  obtain rfl:y = .func (.func 107) #[] #[]:=q09 h2
  refine (qmq q2v qx6 s w (hG.im w hg)).mono ?_
  rintro e w' ⟨rfl,hb⟩
  subst hr
  exact q3p rfl hb (q06 _)⟩,rfl⟩
theorem qz7 (x:List UInt8) (w:World) (hI:Inv w) (hx:x.length≤30):Calls Tryz.prog 106 #[.string (ba x)] w fun e w'=>e = .returned (.bool (q6a x))∧Below w.heap.size w w':=by
 have h:=(qvf 100 Inv q79).1.2 x (q6a x) (j7s 100 x (by omega) (by omega))
 refine (h (fun _ _=>False) w #[.string (ba x)] hI (fun b o h=>h.elim) ⟨q06 _,trivial⟩).mono ?_
 rintro e w' ⟨v,Pc,rfl,hb,_,_,hv⟩
 have hv':v = .bool (q6a x):=q09 hv
 rw [hv']
 exact ⟨rfl,hb⟩
def qhn (s:List UInt8) (u:Unit):Option Bool:=some (q50 q6a s)
def qpg:FC:={ f:=105,args:=[qp8,.one (.c (.fn 106 []))],res:=jgl,F:=fun p=>qhn p.1 p.2 }
theorem j6s:q0g Inv Tryz.prog qpg:=fun G hG=>⟨⟨by kernel_rfl,fun a r h=>by
 obtain ⟨s,u⟩:=a
 have hr:q50 q6a s=r:=Option.some.inj h
 intro Pc w vs hg hlt hv
 obtain ⟨l⟩:=vs
 match l,hv with
 | [x,y],⟨h1,h2,_⟩ =>
  obtain rfl:x = .string (ba s):=q09 h1
  obtain rfl:y = .func (.func 106) #[] #[]:=q09 h2
  refine (qru q6a qz7 s w (hG.im w hg)).mono ?_
  rintro e w' ⟨rfl,hb⟩
  subst hr
  exact q3p rfl hb (q06 _)⟩,rfl⟩
end YtapfankgdkdkgaaGreatDoor.AM
end Go.Proofs
