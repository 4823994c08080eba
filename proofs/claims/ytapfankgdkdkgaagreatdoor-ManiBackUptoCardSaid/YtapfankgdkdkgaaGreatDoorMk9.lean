
import Derived.Test.YtapfankgdkdkgaaGreatDoorMk8
import Derived.Lib.ItoaNum
import Derived.Lib.AtoiAll
import Derived.Shelf.LaysC
import Derived.Shelf.Strconv.Itoa3
import Derived.Shelf.Strconv.AtoiAll
import Derived.Shelf.Small.Strs
import Derived.Shelf.Strings.SplitShaped
import Derived.Lib.LaidTab
import Derived.Lib.AppendIntMem
import Derived.Stop.LaidErr
import Derived.WalkSmall
namespace Go.Proofs.YtapfankgdkdkgaaGreatDoor.AM
open Go.RowKit
set_option linter.unusedVariables false
set_option linter.unusedSimpArgs false
abbrev VD:=Int×(Int×(Int×(List UInt8×List UInt8)))
abbrev v0:VD:=(0,(0,(0,([],[]))))
def q26 (c:UInt8):Bool:=decide (48≤c.toNat)&&decide (c.toNat≤57)
def qmu (c:UInt8):Bool:=(decide (97≤c.toNat)&&decide (c.toNat≤122))||(decide (65≤c.toNat)&&decide (c.toNat≤90))||q26 c||decide (c.toNat=45)
def q6v (s:List UInt8):Bool:=s.all q26 && !decide (s = [])
def q29 (s:List UInt8):Bool:=s.all qmu && !decide (s = [])
def q41 (s:List UInt8):Bool:=q29 s&&(decide (s = [48]) || !decide (s.head? = some 48) || !q6v s)
def q5w (p:List UInt8→Bool) (s:List UInt8):Bool:=decide (s = [])||(decide (s.length≤30)&&(spl 46 [] s).all p)
def je1 (n:Int):Bool:=decide (0≤n)&&decide (n≤999999999)
def q10 (v:VD):Bool:=je1 v.1&&je1 v.2.1&&je1 v.2.2.1&&q5w q41 v.2.2.2.1&&q5w q29 v.2.2.2.2
def q6u (c:UInt8) (s:List UInt8):List UInt8:=if s = [] then [] else c::s
def jra (v:VD):List UInt8:=118::(Lib.itoa v.1++46::(Lib.itoa v.2.1++46::(Lib.itoa v.2.2.1++(q6u 45 v.2.2.2.1++q6u 43 v.2.2.2.2))))
def q0n (v:VD):List UInt8:=if q10 v then jra v else []
def jvu (w:List UInt8):Int×(Int×List UInt8):=if q6v w then (0,(w.length,w)) else (1,(0,w))
def juo (x y:List UInt8):Int:=qub j0c (qub j0c (cmpL cmpB)) (jvu x) (jvu y)
def jt7 (p:List UInt8):Int×List (List UInt8):=(if p = [] then 1 else 0,spl 46 [] p)
def qvy (a b:List UInt8):Int:=qub j0c (cmpL juo) (jt7 a) (jt7 b)
def core (v:VD):Int×(Int×(Int×List UInt8)):=(v.1,(v.2.1,(v.2.2.1,v.2.2.2.1)))
def cmpC (x y:Int×(Int×(Int×List UInt8))):Int:=qub j0c (qub j0c (qub j0c qvy)) x y
def jo7 (v w:VD):Int:=if q10 v&&q10 w then cmpC (core v) (core w) else 0
theorem jrs (x y:List UInt8) (h:jvu x=jvu y):x=y:=by
 unfold jvu at h
 split at h<;>split at h<;>simp at h<;>first|exact h.2|exact h
theorem jqw:Cmp juo:=(qzr qmo (qzr qmo (je3 jof))).key jvu jrs
def joh (c:UInt8):List (List UInt8)→List UInt8
 | []=>[]
 | [x]=>x
 | x::y::t=>x++c::joh c (y::t)
theorem jz2 (c:UInt8) (l cur:List UInt8):spl c cur l ≠ []:=fun h=>by have:=(qf5 c l cur).1;rw [h] at this;simp at this
theorem qi5 (c:UInt8) : ∀ (l cur:List UInt8),joh c (spl c cur l)=cur++l
 | [],cur=>by simp [spl,joh]
 | b::l,cur=>by
  rw [spl]
  split
  ·rename_i h;subst h
   have ih:=qi5 b l []
   cases hs:spl b [] l with
   | nil=>exact absurd hs (jz2 b l [])
   | cons y t=>rw [hs] at ih;rw [joh,ih];simp
  ·rw [qi5 c l];simp
theorem jtm (c:UInt8) (x y:List UInt8) (h:spl c [] x=spl c [] y):x=y:=by
 have h1:=qi5 c x []
 have h2:=qi5 c y []
 rw [h] at h1
 simpa using h1.symm.trans h2
theorem jq1 (x y:List UInt8) (h:jt7 x=jt7 y):x=y:=jtm 46 x y (congrArg Prod.snd h)
theorem jge:Cmp qvy:=(qzr qmo (je3 jqw)).key jt7 jq1
theorem qqj (c:UInt8) (p:UInt8→Bool) : ∀ (l cur:List UInt8),(spl c cur l).all (fun w=>w.all p)=true↔(cur.all p=true∧∀ b∈l,b=c∨p b=true)
 | [],cur=>by simp [spl]
 | b::l,cur=>by
  rw [spl]
  split
  ·rename_i h;subst h
   rw [List.all_cons,Bool.and_eq_true,qqj b p l []]
   simp
  ·rename_i h
   rw [qqj c p l]
   simp only [List.all_append,List.all_cons,List.all_nil,Bool.and_true,Bool.and_eq_true,List.mem_cons,forall_eq_or_imp,h,false_or,and_assoc]
theorem qqa {d:Nat} (h:d<10):q26 (UInt8.ofNat (48+d))=true:=by
 unfold q26
 have:(UInt8.ofNat (48+d)).toNat=48+d:=by rw [UInt8.toNat_ofNat'];omega
 rw [this];simp;omega
theorem ja1 (n:Nat):(Lib.decDigits n).all q26=true∧Lib.decDigits n ≠ []:=by
 induction n using Nat.strongRecOn with
 | _ n ih =>
  rw [Lib.decDigits]
  split
  ·rename_i h;exact ⟨by rw [List.all_cons,qqa h];rfl,by simp⟩
  ·rename_i h
   have:=ih (n / 10) (by omega)
   exact ⟨by rw [List.all_append,this.1,List.all_cons,qqa (show n % 10<10 by omega)];rfl,by simp⟩
theorem qkh : ∀ (k n:Nat),n<10 ^ (k+1)→(Lib.decDigits n).length≤k+1
 | 0,n,h=>by rw [Lib.decDigits,dif_pos (by omega)];simp
 | k+1,n,h=>by
  rw [Lib.decDigits]
  split
  ·simp
  ·have:=qkh k (n / 10) (by rw [Nat.pow_succ] at h;omega)
   simp;omega
theorem j4b : ∀ (l r:List UInt8) (a:Nat) (u:Nat),Lib.parseUint10 a l = .ok u→Lib.parseUint10 a (l++r)=Lib.parseUint10 u r
 | [],r,a,u,h=>by simp only [Lib.parseUint10] at h;injection h with h;subst h;rfl
 | c::l,r,a,u,h=>by
  rw [List.cons_append]
  conv=>lhs;unfold Lib.parseUint10
  unfold Lib.parseUint10 at h
  split at h
  ·rename_i h1
   rw [if_pos h1]
   split at h
   ·cases h
   ·rename_i h2
    rw [if_neg h2]
    split at h
    ·cases h
    ·rename_i h3
     rw [if_neg h3]
     exact j4b l r _ u h
  ·cases h
theorem jng (n:Nat) (h:n<1000000000000000000):Lib.parseUint10 0 (Lib.decDigits n) = .ok n:=by
 induction n using Nat.strongRecOn with
 | _ n ih =>
  have t1 : ∀ d,d<10→(UInt8.ofNat (48+d)).toNat=48+d:=fun d hd=>by rw [UInt8.toNat_ofNat'];omega
  rw [Lib.decDigits]
  split
  ·rename_i h1
   unfold Lib.parseUint10 Lib.parseUint10
   rw [t1 n h1,if_pos (by omega),if_neg (by omega),if_neg (by omega)]
   congr 1;omega
  ·rename_i h1
   have h2:=ih (n / 10) (by omega) (by omega)
   rw [j4b _ _ _ _ h2]
   unfold Lib.parseUint10 Lib.parseUint10
   rw [t1 _ (show n % 10<10 by omega),if_pos (by omega),if_neg (by omega),if_neg (by omega)]
   congr 1;omega
theorem q2h {n:Int} (h:0≤n):Lib.itoa n=Lib.decDigits n.toNat:=by unfold Lib.itoa;rw [if_neg (by omega)]
theorem qpj {n:Int} (h0:0≤n) (h1:n≤999999999):Lib.atoiAll (Lib.itoa n) = .ok n:=by
 rw [q2h h0]
 have hd:=ja1 n.toNat
 have hp:=jng n.toNat (by omega)
 generalize Lib.decDigits n.toNat=l at hd hp
 cases l with
 | nil=>exact absurd rfl hd.2
 | cons c r =>
  have hc:q26 c=true:=by have:=hd.1;simp at this;exact this.1
  unfold q26 at hc
  simp at hc
  unfold Lib.atoiAll
  have c43 : ¬ c.toNat=43:=by omega
  have c45 : ¬ c.toNat=45:=by omega
  simp only [c43,or_self,if_false,c45,not_false_eq_true,true_and,false_and]
  unfold Lib.parseMag
  rw [if_neg (by simp),hp]
  simp only
  rw [if_neg (by omega)]
  congr 1;omega
theorem qip (c:UInt8) : ∀ l:List UInt8,c ∉ l→Lib.index l [c] = -1
 | [],_=>by simp [Lib.index]
 | b::l,h=>by
  have h1:b≠c:=fun e=>h (by simp [e])
  have ih:=qip c l (fun e=>h (by simp [e]))
  rw [qxe h1,ih];rfl
theorem index_hit (c:UInt8) : ∀ (l r:List UInt8),c ∉ l→Lib.index (l++c::r) [c]=((l.length:Nat):Int)
 | [],r,_=>index_self c r
 | b::l,r,h=>by
  have h1:b≠c:=fun e=>h (by simp [e])
  have ih:=index_hit c l r (fun e=>h (by simp [e]))
  rw [List.cons_append,qxe h1,ih]
  have:((((l.length:Nat):Int) == -1)=true)=False:=by simp
  simp only [this,if_false,List.length_cons];omega
def q38 (c:UInt8) (s:List UInt8):List UInt8:=if Lib.index s [c] = -1 then s else s.take (Lib.index s [c]).toNat
def qdv (c:UInt8) (s:List UInt8):List UInt8:=if Lib.index s [c] = -1 then [] else s.drop ((Lib.index s [c]).toNat+1)
theorem jb1 (c:UInt8) (x t:List UInt8) (h:c ∉ x):q38 c (x++q6u c t)=x∧qdv c (x++q6u c t)=t:=by
 unfold q6u q38 qdv
 split
 ·rename_i e;subst e
  rw [List.append_nil,qip c x h];exact ⟨rfl,rfl⟩
 ·rw [index_hit c x t h]
  have n1 : ¬ ((x.length:Nat):Int) = -1:=by omega
  simp only [n1,if_false,Int.toNat_natCast]
  simp
theorem j7u (c:UInt8) (x t:List UInt8) (h:c ∉ x):q38 c (x++c::t)=x∧qdv c (x++c::t)=t:=by
 unfold q38 qdv
 rw [index_hit c x t h]
 have n1 : ¬ ((x.length:Nat):Int) = -1:=by omega
 simp only [n1,if_false,Int.toNat_natCast]
 simp
theorem jcs {p:List UInt8→Bool} (hp : ∀ w,p w=true→w.all qmu=true) {s:List UInt8} (h:q5w p s=true) : ∀ b∈s,b=46∨qmu b=true:=by
 unfold q5w at h
 simp only [Bool.or_eq_true,Bool.and_eq_true,decide_eq_true_eq] at h
 rcases h with rfl|⟨_,h⟩
 ·intro b hb;cases hb
 ·exact ((qqj 46 qmu s []).1 (List.all_eq_true.2 fun w hw=>hp w (List.all_eq_true.1 h w hw))).2
theorem qx4 (w:List UInt8) (h:q29 w=true):w.all qmu=true:=by unfold q29 at h;simp only [Bool.and_eq_true] at h;exact h.1
theorem j0i (w:List UInt8) (h:q41 w=true):w.all qmu=true:=by unfold q41 at h;simp only [Bool.and_eq_true] at h;exact qx4 w h.1
theorem j7c {c:UInt8} (hc:q26 c=false) (n:Nat):c ∉ Lib.decDigits n:=fun h=>by
 have:=List.all_eq_true.1 (ja1 n).1 c h
 rw [hc] at this;cases this
theorem sg43:qmu 43=false:=by decide
theorem q2m {v:VD} (h:q10 v=true):(0≤v.1∧v.1≤999999999)∧(0≤v.2.1∧v.2.1≤999999999)∧(0≤v.2.2.1∧v.2.2.1≤999999999)∧q5w q41 v.2.2.2.1=true∧q5w q29 v.2.2.2.2=true:=by
 unfold q10 je1 at h
 simp only [Bool.and_eq_true,decide_eq_true_eq] at h
 exact ⟨h.1.1.1.1,h.1.1.1.2,h.1.1.2,h.1.2,h.2⟩
theorem q7u {p:List UInt8→Bool} {s:List UInt8} (h:q5w p s=true):s.length≤30:=by
 unfold q5w at h
 simp only [Bool.or_eq_true,Bool.and_eq_true,decide_eq_true_eq] at h
 rcases h with rfl|h
 ·simp
 ·exact h.1
def qfr (s:List UInt8):Int:=match Lib.atoiAll s with
 | .ok v=>v
 | _=>-1
def q1m (s:List UInt8):List UInt8:=if s.head? = some 118 then s.drop 1 else s
def jg4 (s:List UInt8):VD:=(qfr (q38 46 (q1m (q38 45 (q38 43 s)))),(qfr (q38 46 (qdv 46 (q1m (q38 45 (q38 43 s))))),(qfr (qdv 46 (qdv 46 (q1m (q38 45 (q38 43 s))))),(qdv 45 (q38 43 s),qdv 43 s))))
theorem jtu {v:VD} (h:q10 v=true) : ∀ pf:List UInt8,43 ∉ pf→45 ∉ pf →
  q38 43 (pf++(Lib.itoa v.1++46::(Lib.itoa v.2.1++46::(Lib.itoa v.2.2.1++(q6u 45 v.2.2.2.1++q6u 43 v.2.2.2.2)))))=pf++(Lib.itoa v.1++46::(Lib.itoa v.2.1++46::(Lib.itoa v.2.2.1++q6u 45 v.2.2.2.1))) ∧
  qdv 43 (pf++(Lib.itoa v.1++46::(Lib.itoa v.2.1++46::(Lib.itoa v.2.2.1++(q6u 45 v.2.2.2.1++q6u 43 v.2.2.2.2)))))=v.2.2.2.2 ∧
  q38 45 (pf++(Lib.itoa v.1++46::(Lib.itoa v.2.1++46::(Lib.itoa v.2.2.1++q6u 45 v.2.2.2.1))))=pf++(Lib.itoa v.1++46::(Lib.itoa v.2.1++46::Lib.itoa v.2.2.1)) ∧
  qdv 45 (pf++(Lib.itoa v.1++46::(Lib.itoa v.2.1++46::(Lib.itoa v.2.2.1++q6u 45 v.2.2.2.1))))=v.2.2.2.1:=by
 intro pf p1 p2
 obtain ⟨h1,h2,h3,h4,h5⟩:=q2m h
 have d43:q26 43=false:=by decide
 have d45:q26 45=false:=by decide
 have t43:(43:UInt8) ∉ q6u 45 v.2.2.2.1:=by
  unfold q6u
  split
  ·simp
  ·intro hm
   rcases List.mem_cons.1 hm with hm|hm
   ·cases hm
   ·rcases jcs j0i h4 _ hm with hm|hm
    ·cases hm
    ·rw [sg43] at hm;cases hm
 rw [q2h h1.1,q2h h2.1,q2h h3.1]
 have m43:=fun n=>j7c d43 n
 have m45:=fun n=>j7c d45 n
 have a1:=jb1 43 (pf++(Lib.decDigits v.1.toNat++46::(Lib.decDigits v.2.1.toNat++46::(Lib.decDigits v.2.2.1.toNat++q6u 45 v.2.2.2.1)))) v.2.2.2.2 (by simp [m43,t43,p1])
 have a2:=jb1 45 (pf++(Lib.decDigits v.1.toNat++46::(Lib.decDigits v.2.1.toNat++46::Lib.decDigits v.2.2.1.toNat))) v.2.2.2.1 (by simp [m45,p2])
 simp only [List.append_assoc,List.cons_append] at a1 a2
 exact ⟨a1.1,a1.2,a2.1,a2.2⟩
theorem jl4 {v:VD} (h:q10 v=true):jg4 (jra v)=v:=by
 obtain ⟨h1,h2,h3,h4,h5⟩:=q2m h
 have d46:q26 46=false:=by decide
 have m46:=fun n=>j7c d46 n
 have e0:jra v = [118]++(Lib.itoa v.1++46::(Lib.itoa v.2.1++46::(Lib.itoa v.2.2.1++(q6u 45 v.2.2.2.1++q6u 43 v.2.2.2.2)))):=rfl
 obtain ⟨k1,k2,k3,k4⟩:=jtu h [118] (by decide) (by decide)
 unfold jg4
 rw [e0,k1,k2,k3,k4]
 have e1:q1m ([118]++(Lib.itoa v.1++46::(Lib.itoa v.2.1++46::Lib.itoa v.2.2.1)))=Lib.itoa v.1++46::(Lib.itoa v.2.1++46::Lib.itoa v.2.2.1):=rfl
 rw [e1]
 have c1:=j7u 46 (Lib.itoa v.1) (Lib.itoa v.2.1++46::Lib.itoa v.2.2.1) (by rw [q2h h1.1];exact m46 _)
 have c2:=j7u 46 (Lib.itoa v.2.1) (Lib.itoa v.2.2.1) (by rw [q2h h2.1];exact m46 _)
 rw [c1.1,c1.2,c2.1,c2.2]
 unfold qfr
 rw [qpj h1.1 h1.2,qpj h2.1 h2.2,qpj h3.1 h3.2]
theorem jwc {v:VD} (h:q10 v=true):(jra v).length≤92:=by
 obtain ⟨h1,h2,h3,h4,h5⟩:=q2m h
 have l1:=qkh 8 v.1.toNat (by omega)
 have l2:=qkh 8 v.2.1.toNat (by omega)
 have l3:=qkh 8 v.2.2.1.toNat (by omega)
 have t1:=q7u h4
 have t2:=q7u h5
 have tt : ∀ (c:UInt8) (s:List UInt8),(q6u c s).length≤s.length+1:=fun c s=>by unfold q6u;split<;>simp
 have u1:=tt 45 v.2.2.2.1
 have u2:=tt 43 v.2.2.2.2
 unfold jra
 rw [q2h h1.1,q2h h2.1,q2h h3.1]
 simp only [List.length_cons,List.length_append]
 omega
def q0v (s:List UInt8):VD×Bool:=if q10 (jg4 s)&&decide (q0n (jg4 s)=s) then (jg4 s,true) else (v0,false)
theorem jrq {s:List UInt8} {v:VD} (h:q10 v=true) (ht:q0n v=s):q0v s=(v,true):=by
 have e1:s=jra v:=by rw [← ht];unfold q0n;rw [if_pos h]
 subst e1
 unfold q0v
 rw [jl4 h,if_pos (by simp [h,ht])]
theorem qij {s:List UInt8} (h:(q0v s).2=true):q10 (q0v s).1=true∧q0n (q0v s).1=s:=by
 unfold q0v at *
 split at h
 ·rename_i h1
  rw [if_pos h1]
  simp only [Bool.and_eq_true,decide_eq_true_eq] at h1
  exact h1
 ·cases h
end Go.Proofs.YtapfankgdkdkgaaGreatDoor.AM
namespace Go.Proofs
open Go.RowKit Go.Shelf Go.Lib
shelf_lay LaysM.n171 Nm 171 at Tryz as Tryz.laysItoa
shelf_lay LaysC.n172 Nm 172 at Tryz as Tryz.laysAtoi
set_option linter.unusedVariables false
set_option linter.unusedSimpArgs false
namespace YtapfankgdkdkgaaGreatDoor.AM
structure Inv (w:World):Prop where
 errT:w.cell? ⟨0,0,none⟩=some (.iface 196 (.agg #[.pointer (some ⟨9,82,none⟩)]))
 maxLen : ∃ m,w.cell? ⟨Tryz.laysIndex_ren.g 1,0,none⟩=some (.int .i64 m)
 tab:Lib.TabIs Tryz.prog w "internal/strconv.uint64pow10" .u64 Lib.pow10Tab
 syn : ∃ tp p,w.cell? ⟨Tryz.laysAtoi_ren.g 15,0,none⟩=some (.iface tp p)
 rng : ∃ tp p,w.cell? ⟨Tryz.laysAtoi_ren.g 16,0,none⟩=some (.iface tp p)
theorem gTab:(Tryz.prog.globalNamed "internal/strconv.uint64pow10").isSome=true:=by kernel_rfl
theorem Inv.below {w w':World} (h:Inv w) (hb:Below w.heap.size w w'):Inv w':=by
 obtain ⟨he,⟨m,hm⟩,ht,⟨t1,p1,h1⟩,⟨t2,p2,h2⟩⟩:=h
 refine ⟨(hb.cell (p:=⟨_,0,none⟩) (World.block_lt_of_cell? _ _ he)).trans he,⟨m,(hb.cell (p:=⟨_,0,none⟩) (World.block_lt_of_cell? _ _ hm)).trans hm⟩,?_,⟨t1,p1,(hb.cell (p:=⟨_,0,none⟩) (World.block_lt_of_cell? _ _ h1)).trans h1⟩,⟨t2,p2,(hb.cell (p:=⟨_,0,none⟩) (World.block_lt_of_cell? _ _ h2)).trans h2⟩⟩
 obtain ⟨g,hg⟩:=Option.isSome_iff_exists.1 gTab
 refine var?_below hb hg ?_ ht
 have hv:w.var? Tryz.prog "internal/strconv.uint64pow10" = some _:=ht
 unfold World.var? at hv
 rw [hg] at hv
 simp only [Option.bind_some] at hv
 split at hv
 ·rename_i h5;exact (Array.getElem?_eq_some_iff.1 h5).1
 ·cases hv
theorem q9p:Know Inv Inv:=⟨fun w w' h hb=>h.below hb,fun _ h=>h⟩
variable {P:Program}
theorem q4c {Pc:Nat→Nat→Prop} {w w':World} {v:Value} {d:D} {e:Ending} (he:e = .returned v) (hb:Below w.heap.size w w') (hv:q1u (q6x Pc) qt7 w' v d) :
  ∃ v' Pc',e = .returned v'∧Below w.heap.size w w'∧(∀ b o,Pc b o→Pc' b o)∧(∀ b o,Pc' b o→Pc b o∨(w.heap.size≤b∧b<w'.heap.size))∧q1u (q6x Pc') qt7 w' v' d :=
 ⟨v,Pc,he,hb,fun _ _ h=>h,fun _ _ h=>Or.inl h,hv⟩
abbrev qv7:SD:=.one (.c (.d .str))
abbrev intA:SD:=.one (.c (.d (.int .i64)))
abbrev jqu:SD:=.one (.c (.d .bool))
def qph (s sep:List UInt8):Option Int:=match sep with
 | [c]=>if s.length<4294967281 then some (Lib.index s [c]) else none
 | _=>none
def jdc:FC:={ f:=111,args:=[qv7,qv7],res:=intA,F:=fun p=>qph p.1 p.2 }
theorem jry:q0d Inv Tryz.prog jdc:=fun G hG=>⟨⟨by kernel_rfl,fun a r h=>by
 obtain ⟨s,sep⟩:=a
 have h':qph s sep=some r:=h
 unfold qph at h'
 split at h'
 case h_2=>cases h'
 rename_i c
 split at h'
 case isFalse=>cases h'
 rename_i hc
 have hr:Lib.index s [c]=r:=Option.some.inj h'
 intro Pc w vs hg hlt hv
 obtain ⟨m,hm⟩:=(hG.im w hg).maxLen
 obtain ⟨l⟩:=vs
 match l,hv with
 | [x,y],⟨h1,h2,_⟩ =>
  obtain rfl:x = .string (ba s):=q09 h1
  obtain rfl:y = .string (ba [c]):=q09 h2
  have e1:(ba s).data.toList=s:=by simp [ba]
  have e2:(ba [c]).data.toList = [c]:=by simp [ba]
  have hh:=Any.stringslite_Index { Tryz.laysIndex with } (ba s) (ba [c]) m w (by rw [q2y];exact hc) hm
  rw [e1,e2,hr] at hh
  refine hh.mono ?_
  rintro e w' ⟨rfl,rfl⟩
  exact q4c rfl (Below.refl _ _) (q05 _)⟩,rfl⟩
def qpy (n:Int):Option (List UInt8):=if -9223372036854775808≤n∧n≤9223372036854775807 then some (Lib.itoa n) else none
def jj3:FC:={ f:=76,args:=[intA],res:=qv7,F:=fun p=>qpy p }
theorem jv6:q0d Inv Tryz.prog jj3:=fun G hG=>⟨⟨by kernel_rfl,fun (n:Int) r h=>by
 have h':qpy n=some r:=h
 unfold qpy at h'
 split at h'
 case isFalse=>cases h'
 rename_i hc
 have hr:Lib.itoa n=r:=Option.some.inj h'
 intro Pc w vs hg hlt hv
 obtain ⟨l⟩:=vs
 match l,hv with
 | [x],⟨h1,_⟩ =>
  obtain rfl:x = .int .i64 n:=q09 h1
  refine (Any.strconv_Itoa Tryz.laysItoa n hc.1 hc.2 w (hG.im w hg).tab).mono ?_
  rintro e w' ⟨rfl,k,os,rfl⟩
  subst hr
  exact q4c rfl (Lib.below_grow _ w (Nat.le_refl _) k os) (q05 (.string (ba (Lib.itoa n))))⟩,rfl⟩
end YtapfankgdkdkgaaGreatDoor.AM
end Go.Proofs
namespace Go.Proofs
open Go.RowKit Go.Shelf Go.Lib
shelf_lay LaysM.n146 Nm 146 at Tryz as Tryz.laysSplit
shelf_lay Lays.n106 Nm 106 at Tryz as Tryz.laysCompare
set_option linter.unusedVariables false
set_option linter.unusedSimpArgs false
namespace YtapfankgdkdkgaaGreatDoor.AM
variable {P:Program}
def qx2:FC:={ f:=211,args:=[qv7,qv7],res:=intA,F:=fun p=>some (Lib.compareBytes p.1 p.2) }
def qhf (a b:List UInt8):Option Int:=some (Lib.compareBytes a b)
theorem jfc:q0d Inv Tryz.prog qx2:=fun G hG=>⟨⟨by kernel_rfl,fun a r h=>by
 obtain ⟨s,t⟩:=a
 have hr:Lib.compareBytes s t=r:=Option.some.inj h
 intro Pc w vs hg hlt hv
 obtain ⟨l⟩:=vs
 match l,hv with
 | [x,y],⟨h1,h2,_⟩ =>
  obtain rfl:x = .string (ba s):=q09 h1
  obtain rfl:y = .string (ba t):=q09 h2
  have e1:(ba s).data.toList=s:=by simp [ba]
  have e2:(ba t).data.toList=t:=by simp [ba]
  have hh:=Any.strings_Compare Tryz.laysCompare (ba s) (ba t) w
  rw [e1,e2,hr] at hh
  refine hh.mono ?_
  rintro e w' ⟨rfl,rfl⟩
  exact q4c rfl (Below.refl _ _) (q05 _)⟩,rfl⟩
theorem j1q (s:List UInt8) (w:World) (hI:Inv w) (hlim:s.length≤281474976710656):Calls Tryz.prog 156 #[.string (ba s)] w fun e w'=>e = .returned (.int .i64 (qfr s))∧Below w.heap.size w w':=by
 have e1:(ba s).data.toList=s:=by simp [ba]
 have hl:(ba s).size≤281474976710656:=by rw [q2y];exact hlim
 obtain ⟨ts,ps,hs⟩:=hI.syn
 obtain ⟨tr,pr,hr⟩:=hI.rng
 go_enter Tryz.func156,Tryz.ntmps156
 unfold qfr
 cases h:Lib.atoiAll s with
 | ok v =>
  go_wp2_with (go_at_call 167;refine (Any.strconv_Atoi_ok Tryz.laysAtoi (ba s) (by omega) v (by rw [e1];exact h) w).mono ?_)
  rintro e w' ⟨rfl,hw⟩
  go_wp2
  go_ret
  refine ⟨rfl,?_⟩
  rcases hw with rfl|⟨t,rfl⟩
  ·exact Below.refl _ _
  ·exact Lib.bytesWorld_below _ _ _
 | «syntax» =>
  go_wp2_with (go_at_call 167;refine (Any.strconv_Atoi_syntax Tryz.laysAtoi (ba s) hl (by rw [e1];exact h) _ w hs (Or.inr ⟨_,_,rfl⟩)).mono ?_)
  rintro e w' ⟨N,rfl,hN,hc,hb⟩
  go_wp2
  go_ret
  exact ⟨rfl,hb⟩
 | range =>
  go_wp2_with (go_at_call 167;refine (Any.strconv_Atoi_range Tryz.laysAtoi (ba s) hl (by rw [e1];exact h) _ w hr (Or.inr ⟨_,_,rfl⟩)).mono ?_)
  rintro e w' ⟨N,rfl,hN,hc,hb⟩
  go_wp2
  go_ret
  exact ⟨rfl,hb⟩
def q5q (s:List UInt8):Option Int:=if s.length≤281474976710656 then some (qfr s) else none
def j49:FC:={ f:=156,args:=[qv7],res:=intA,F:=fun p=>q5q p }
theorem jjp:q0d Inv Tryz.prog j49:=fun G hG=>⟨⟨by kernel_rfl,fun (s:List UInt8) r h=>by
 have h':q5q s=some r:=h
 unfold q5q at h'
 split at h'
 case isFalse=>cases h'
 rename_i hc
 have hr:qfr s=r:=Option.some.inj h'
 intro Pc w vs hg hlt hv
 obtain ⟨l⟩:=vs
 match l,hv with
 | [x],⟨h1,_⟩ =>
  obtain rfl:x = .string (ba s):=q09 h1
  refine (j1q s w (hG.im w hg) hc).mono ?_
  rintro e w' ⟨rfl,hb⟩
  subst hr
  exact q4c rfl hb (q05 _)⟩,rfl⟩
theorem jys:Tryz.laysSplit_ren.g 1=Tryz.laysIndex_ren.g 1:=by kernel_rfl
def qa6 (s sep:List UInt8):Option (List (List UInt8)):=match sep with
 | [c]=>if s.length<4294967281 then some (spl c [] s) else none
 | _=>none
def qzx:FC:={ f:=93,args:=[qv7,qv7],res:=.one (.c (.d (.lst .str))),F:=fun p=>qa6 p.1 p.2 }
theorem jbd:q0d Inv Tryz.prog qzx:=fun G hG=>⟨⟨by kernel_rfl,fun a r h=>by
 obtain ⟨s,sep⟩:=a
 have h':qa6 s sep=some r:=h
 unfold qa6 at h'
 split at h'
 case h_2=>cases h'
 rename_i c
 split at h'
 case isFalse=>cases h'
 rename_i hc
 have hr:(Lib.splitB (ba [c]) 0 (Lib.countB (ba s) (ba [c])) (ba s)).map unB=r:=(jfq c s).trans (Option.some.inj h')
 intro Pc w vs hg hlt hv
 obtain ⟨m,hm⟩:=(hG.im w hg).maxLen
 obtain ⟨l⟩:=vs
 match l,hv with
 | [x,y],⟨h1,h2,_⟩ =>
  obtain rfl:x = .string (ba s):=q09 h1
  obtain rfl:y = .string (ba [c]):=q09 h2
  have b1:1≤(ba [c]).size:=by rw [q2y];exact Nat.le_refl _
  have hlen:(Lib.splitB (ba [c]) 0 (Lib.countB (ba s) (ba [c])) (ba s)).length=Lib.countB (ba s) (ba [c])+1:=Lib.splitB_all (ba [c]) b1 0 _ (ba s) rfl
  refine (Any.strings_Split { Tryz.laysSplit with } Tryz.laysSplit.i9 (ba s) (ba [c]) m w (by rw [q2y];exact hc) (by rw [jys];exact hm) b1).mono ?_
  rintro e w' ⟨rfl,rfl⟩
  generalize hL:Lib.splitB (ba [c]) 0 (Lib.countB (ba s) (ba [c])) (ba s)=L at hlen hr
  refine ⟨_,fun b o=>Pc b o∨b=w.heap.size,rfl,(Below.refl _ _).alloc (Nat.le_refl _) _,fun b o hp=>Or.inl hp,?_,?_⟩
  ·rintro b o (hp|rfl)
   ·exact Or.inl hp
   ·exact Or.inr ⟨Nat.le_refl _,by simp⟩
  ·show DatRep _ _ _ (.lst 1 (r.map (q03 .str)))
   have hr2:r.map (q03 .str)=L.map fun x=>[Dat.v (.string x)]:=by
    rw [← hr,List.map_map]
    exact List.map_congr_left fun x _=>by show [Dat.v (.string (ba (unB x)))]=_;rw [jns]
   rw [hr2,← hlen]
   have hmax:L.length≤maxLen:=by
    have:=Lib.countB_le (ba [c]) b1 (ba s).size (ba s) (Nat.le_refl _)
    rw [q2y] at this
    have hM:maxLen=9223372036854775807:=by decide
    omega
   refine .lst _ _ _ 1 _ w.heap.size 0 (fun k j=>.string (L.getD k ⟨#[]⟩)) (by simp) (Nat.le_refl _) hmax (fun x hx=>?_) (fun _=>rfl) (fun k j hk hj=>⟨Or.inr rfl,?_,rfl⟩) (fun k j hk hj=>?_)
   ·obtain ⟨y,_,rfl⟩:=List.mem_map.1 hx;rfl
   ·have hk':k<L.length:=by simpa using hk
    have hj0:j=0:=by omega
    subst hj0
    rw [World.cell?_alloc_new]
    simp [List.getD,hk']
   ·have hk':k<L.length:=by simpa using hk
    have hj0:j=0:=by simp at hj;exact hj
    subst hj0
    simp [List.getD,hk']
    exact .v _⟩,rfl⟩
end YtapfankgdkdkgaaGreatDoor.AM
end Go.Proofs
namespace Go.Proofs.YtapfankgdkdkgaaGreatDoor.AM
open Go.RowKit
set_option linter.unusedVariables false
set_option maxRecDepth 20000
def qog (n:Nat):List LC:=[]
def q4p (n:Nat) (a1:Int):Option (Bool) :=
 (bif decide (48≤a1) then some (decide (a1≤57)) else some false)
def q63 (n:Nat):FC:={ f:=169,args:=[.one (.c (.d (.int .u8)))],res:=.one (.c (.d .bool)),F:=fun p=>q4p n p }
def qws (n:Nat):List FC:=[]
theorem j2w (n:Nat) {G:World→Prop} (hG:Know Inv G) : ∀ c∈qws n,q17 Tryz.prog G c∧q0b c.args=true:=(fun _ h=>by cases h)
def qv5:q0a:=[]
theorem jh3:drB qv5 (q00 Tryz.f169)=true:=by kernel_rfl
theorem jg3 (n:Nat) : ∀ a,(q63 n).F a=main Tryz.prog 9 (qws n) (qog n) qv5 (q00 Tryz.f169) [.tmp 2] (q63 n).args (q63 n).res a:=by intro a;kernel_rfl
theorem qwz (n:Nat):q0d Inv Tryz.prog (q63 n):=fun G hG=>⟨⟨by kernel_rfl,fun a r h=>q04 (c:=q00 Tryz.f169) Tryz.func169 (by kernel_rfl) (by kernel_rfl) (Nat.le_of_ble_eq_true (by kernel_rfl)) hG.st (by kernel_rfl) (rs:=[.tmp 2]) (by kernel_rfl) (j2w n hG) (lts:=qog n) (fun F hF hFG=>have hK:Know Inv F.G:=hFG ▸ hG;(q02 fun j L h1 h2 h3=>absurd h2 (Nat.not_lt.2 (Nat.le_trans (by decide +kernel) h1)))) jh3 ((jg3 n a).symm.trans h)⟩,rfl⟩
def qvp (n:Nat):List LC:=[]
def qng (n:Nat) (a1:Int):Option (Bool) :=
 (bif decide (97≤a1) then (bif decide (a1≤122) then some true else (bif decide (65≤a1) then (bif decide (a1≤90) then some true else (q4p n a1).bind fun r1=>(bif r1 then some true else some (decide (a1=45)))) else (q4p n a1).bind fun r2=>(bif r2 then some true else some (decide (a1=45))))) else (bif decide (65≤a1) then (bif decide (a1≤90) then some true else (q4p n a1).bind fun r3=>(bif r3 then some true else some (decide (a1=45)))) else (q4p n a1).bind fun r4=>(bif r4 then some true else some (decide (a1=45)))))
def qb3 (n:Nat):FC:={ f:=139,args:=[.one (.c (.d (.int .u8)))],res:=.one (.c (.d .bool)),F:=fun p=>qng n p }
def j5b (n:Nat):List FC:=[q63 n]
theorem jaj (n:Nat) {G:World→Prop} (hG:Know Inv G) : ∀ c∈j5b n,q17 Tryz.prog G c∧q0b c.args=true:=List.forall_mem_cons.2 ⟨qwz n G hG,(fun _ h=>by cases h)⟩
def j5w:q0a:=[]
theorem jiz:drB j5w (q00 Tryz.f139)=true:=by kernel_rfl
theorem ji9 (n:Nat) : ∀ a,(qb3 n).F a=main Tryz.prog 25 (j5b n) (qvp n) j5w (q00 Tryz.f139) [.tmp 2] (qb3 n).args (qb3 n).res a:=by intro a;kernel_rfl
theorem jic (n:Nat):q0d Inv Tryz.prog (qb3 n):=fun G hG=>⟨⟨by kernel_rfl,fun a r h=>q04 (c:=q00 Tryz.f139) Tryz.func139 (by kernel_rfl) (by kernel_rfl) (Nat.le_of_ble_eq_true (by kernel_rfl)) hG.st (by kernel_rfl) (rs:=[.tmp 2]) (by kernel_rfl) (jaj n hG) (lts:=qvp n) (fun F hF hFG=>have hK:Know Inv F.G:=hFG ▸ hG;(q02 fun j L h1 h2 h3=>absurd h2 (Nat.not_lt.2 (Nat.le_trans (by decide +kernel) h1)))) jiz ((ji9 n a).symm.trans h)⟩,rfl⟩
@[reducible] def qda:SSt:=⟨[(0,.one (.c (.d .str))),(1,.one (.c (.fn 139 []))),(7,.one (.c (.d (.int .i64)))),(8,.one (.c (.d (.int .i64))))],[],[]⟩
@[reducible] def q7g:List (Exit×SSt):=[(.ret,⟨[(4,.one (.c (.d .bool)))],[],[]⟩),(.exit 0,⟨[(0,.one (.c (.d .str)))],[],[]⟩)]
def qsi (n:Nat) (rec:(List UInt8)→Int→Int→Option (((Bool×Unit)×Unit×Unit)⊕(((List UInt8)×Unit)×Unit×Unit))) (a1:List UInt8) (a2:Int) (a3:Int):Option (((Bool×Unit)×Unit×Unit)⊕(((List UInt8)×Unit)×Unit×Unit)) :=
 (bif decide (a3<a2) then (sAt a1 a3).bind fun c1=>(qng n c1).bind fun r2=>(bif !r2 then some (Sum.inl ((false,()),((),()))) else q08 (IntKind.wrap .i64 (a3+1)) fun n3=>rec a1 a2 n3) else some (Sum.inr (((a1,()),((),())))))
def qs5 (n:Nat) (rec:pSt qda→Option (q0e q7g)) (p:pSt qda):Option (q0e q7g):=qsi n (fun a1 a2 a3=>rec ((a1,((),(a2,(a3,())))),((),()))) p.1.1 p.1.2.2.1 p.1.2.2.2.1
def q74 (n m:Nat) (a1:List UInt8) (a2:Int) (a3:Int):Option (((Bool×Unit)×Unit×Unit)⊕(((List UInt8)×Unit)×Unit×Unit)):=q0g (qs5 n) m ((a1,((),(a2,(a3,())))),((),()))
theorem qkl (n m:Nat) (a1 a2 a3):q74 n (m+1) a1 a2 a3=qsi n (fun a1 a2 a3=>q74 n m a1 a2 a3) a1 a2 a3:=rfl
def j45 (n:Nat):LC:={ sh:=qda,outs:=q7g,F:=q0g (qs5 n) n }
def qiw (n:Nat):List LC:=[j45 n]
def qmv (n:Nat) (a1:List UInt8) (a2:Unit):Option (Bool) :=
 (q74 n n a1 (a1.length:Int) (0:Int)).bind fun o4=>Sum.elim (fun (q5:(Bool×Unit)×Unit×Unit)=>some q5.1.1) (fun (q6:((List UInt8)×Unit)×Unit×Unit)=>some (!decide (q6.1.1=([]:List UInt8)))) o4
def qbh (n:Nat):FC:={ f:=138,args:=[.one (.c (.d .str)),.one (.c (.fn 139 []))],res:=.one (.c (.d .bool)),F:=fun p=>qmv n p.1 p.2 }
def qtj (n:Nat):List FC:=[qb3 n]
theorem qtc (n:Nat) {G:World→Prop} (hG:Know Inv G) : ∀ c∈qtj n,q17 Tryz.prog G c∧q0b c.args=true:=List.forall_mem_cons.2 ⟨jic n G hG,(fun _ h=>by cases h)⟩
def qon:q0a:=[]
theorem j1m:drB qon (q00 Tryz.f138)=true:=by kernel_rfl
theorem jei (n:Nat) : ∀ rec p,qs5 n rec p=round Tryz.prog 20 (qtj n) (qiw n) qon 1 qda q7g (q01 0 0 (q00 Tryz.f138)) rec p:=by intro rec p;kernel_rfl
theorem j83 (n:Nat) {F:Fr} (hF:F.n=20) (hK:Know Inv F.G):q8a Tryz.prog F (j45 n) (q01 0 0 (q00 Tryz.f138)) :=
 q0h hF (by kernel_rfl) (qtc n hK) (jei n) (fuel:=n) (fun _=>rfl) (q02 fun j L h1 h2 h3=>absurd h2 (Nat.not_lt.2 (Nat.le_trans (by decide +kernel) h1))) (q0w j1m)
theorem jim (n:Nat) : ∀ a,(qbh n).F a=main Tryz.prog 20 (qtj n) (qiw n) qon (q00 Tryz.f138) [.tmp 4] (qbh n).args (qbh n).res a:=by intro a;kernel_rfl
theorem jme (n:Nat):q0d Inv Tryz.prog (qbh n):=fun G hG=>⟨⟨by kernel_rfl,fun a r h=>q04 (c:=q00 Tryz.f138) Tryz.func138 (by kernel_rfl) (by kernel_rfl) (Nat.le_of_ble_eq_true (by kernel_rfl)) hG.st (by kernel_rfl) (rs:=[.tmp 4]) (by kernel_rfl) (qtc n hG) (lts:=qiw n) (fun F hF hFG=>have hK:Know Inv F.G:=hFG ▸ hG;(q02 (c:=(q00 Tryz.f138)) (fun j L h1 h2 h3=>by
  have h2':j<1:=Nat.lt_of_lt_of_le h2 (by decide +kernel)
  match j,h1,h2',h3 with
  | 0,_,_,h3=>obtain rfl:=Option.some.inj h3;exact (show q01 0 0 (q00 Tryz.f138)=q01 0 0 (q00 Tryz.f138) by kernel_rfl) ▸ j83 n hF hK
  | j+1,_,h2',_=>exact absurd h2' (by omega)))) j1m ((jim n a).symm.trans h)⟩,rfl⟩
@[reducible] def qcr:SSt:=⟨[(0,.one (.c (.d .str))),(1,.one (.c (.fn 169 []))),(7,.one (.c (.d (.int .i64)))),(8,.one (.c (.d (.int .i64))))],[],[]⟩
@[reducible] def q7a:List (Exit×SSt):=[(.ret,⟨[(4,.one (.c (.d .bool)))],[],[]⟩),(.exit 0,⟨[(0,.one (.c (.d .str)))],[],[]⟩)]
def qpo (n:Nat) (rec:(List UInt8)→Int→Int→Option (((Bool×Unit)×Unit×Unit)⊕(((List UInt8)×Unit)×Unit×Unit))) (a1:List UInt8) (a2:Int) (a3:Int):Option (((Bool×Unit)×Unit×Unit)⊕(((List UInt8)×Unit)×Unit×Unit)) :=
 (bif decide (a3<a2) then (sAt a1 a3).bind fun c1=>(q4p n c1).bind fun r2=>(bif !r2 then some (Sum.inl ((false,()),((),()))) else q08 (IntKind.wrap .i64 (a3+1)) fun n3=>rec a1 a2 n3) else some (Sum.inr (((a1,()),((),())))))
def qr8 (n:Nat) (rec:pSt qcr→Option (q0e q7a)) (p:pSt qcr):Option (q0e q7a):=qpo n (fun a1 a2 a3=>rec ((a1,((),(a2,(a3,())))),((),()))) p.1.1 p.1.2.2.1 p.1.2.2.2.1
def q7x (n m:Nat) (a1:List UInt8) (a2:Int) (a3:Int):Option (((Bool×Unit)×Unit×Unit)⊕(((List UInt8)×Unit)×Unit×Unit)):=q0g (qr8 n) m ((a1,((),(a2,(a3,())))),((),()))
theorem qjt (n m:Nat) (a1 a2 a3):q7x n (m+1) a1 a2 a3=qpo n (fun a1 a2 a3=>q7x n m a1 a2 a3) a1 a2 a3:=rfl
def j5j (n:Nat):LC:={ sh:=qcr,outs:=q7a,F:=q0g (qr8 n) n }
def qk2 (n:Nat):List LC:=[j5j n]
def qmz (n:Nat) (a1:List UInt8) (a2:Unit):Option (Bool) :=
 (q7x n n a1 (a1.length:Int) (0:Int)).bind fun o4=>Sum.elim (fun (q5:(Bool×Unit)×Unit×Unit)=>some q5.1.1) (fun (q6:((List UInt8)×Unit)×Unit×Unit)=>some (!decide (q6.1.1=([]:List UInt8)))) o4
def qb7 (n:Nat):FC:={ f:=138,args:=[.one (.c (.d .str)),.one (.c (.fn 169 []))],res:=.one (.c (.d .bool)),F:=fun p=>qmz n p.1 p.2 }
def qr3 (n:Nat):List FC:=[q63 n]
theorem qrq (n:Nat) {G:World→Prop} (hG:Know Inv G) : ∀ c∈qr3 n,q17 Tryz.prog G c∧q0b c.args=true:=List.forall_mem_cons.2 ⟨qwz n G hG,(fun _ h=>by cases h)⟩
def qs0:q0a:=[]
theorem j65:drB qs0 (q00 Tryz.f138)=true:=by kernel_rfl
theorem jh6 (n:Nat) : ∀ rec p,qr8 n rec p=round Tryz.prog 20 (qr3 n) (qk2 n) qs0 1 qcr q7a (q01 0 0 (q00 Tryz.f138)) rec p:=by intro rec p;kernel_rfl
theorem jaa (n:Nat) {F:Fr} (hF:F.n=20) (hK:Know Inv F.G):q8a Tryz.prog F (j5j n) (q01 0 0 (q00 Tryz.f138)) :=
 q0h hF (by kernel_rfl) (qrq n hK) (jh6 n) (fuel:=n) (fun _=>rfl) (q02 fun j L h1 h2 h3=>absurd h2 (Nat.not_lt.2 (Nat.le_trans (by decide +kernel) h1))) (q0w j65)
theorem jig (n:Nat) : ∀ a,(qb7 n).F a=main Tryz.prog 20 (qr3 n) (qk2 n) qs0 (q00 Tryz.f138) [.tmp 4] (qb7 n).args (qb7 n).res a:=by intro a;kernel_rfl
theorem jnh (n:Nat):q0d Inv Tryz.prog (qb7 n):=fun G hG=>⟨⟨by kernel_rfl,fun a r h=>q04 (c:=q00 Tryz.f138) Tryz.func138 (by kernel_rfl) (by kernel_rfl) (Nat.le_of_ble_eq_true (by kernel_rfl)) hG.st (by kernel_rfl) (rs:=[.tmp 4]) (by kernel_rfl) (qrq n hG) (lts:=qk2 n) (fun F hF hFG=>have hK:Know Inv F.G:=hFG ▸ hG;(q02 (c:=(q00 Tryz.f138)) (fun j L h1 h2 h3=>by
  have h2':j<1:=Nat.lt_of_lt_of_le h2 (by decide +kernel)
  match j,h1,h2',h3 with
  | 0,_,_,h3=>obtain rfl:=Option.some.inj h3;exact (show q01 0 0 (q00 Tryz.f138)=q01 0 0 (q00 Tryz.f138) by kernel_rfl) ▸ jaa n hF hK
  | j+1,_,h2',_=>exact absurd h2' (by omega)))) j65 ((jig n a).symm.trans h)⟩,rfl⟩
def quv (n:Nat):List LC:=[]
def qn6 (n:Nat) (a1:List UInt8):Option (Bool) :=
 (qmv n a1 ()).bind fun r1=>some r1
def qbo (n:Nat):FC:={ f:=107,args:=[.one (.c (.d .str))],res:=.one (.c (.d .bool)),F:=fun p=>qn6 n p }
def j0j (n:Nat):List FC:=[qbh n]
theorem j7d (n:Nat) {G:World→Prop} (hG:Know Inv G) : ∀ c∈j0j n,q17 Tryz.prog G c∧q0b c.args=true:=List.forall_mem_cons.2 ⟨jme n G hG,(fun _ h=>by cases h)⟩
def j1e:q0a:=[]
theorem jk6:drB j1e (q00 Tryz.f107)=true:=by kernel_rfl
theorem jle (n:Nat) : ∀ a,(qbo n).F a=main Tryz.prog 5 (j0j n) (quv n) j1e (q00 Tryz.f107) [.tmp 2] (qbo n).args (qbo n).res a:=by intro a;kernel_rfl
theorem j59 (n:Nat):q0d Inv Tryz.prog (qbo n):=fun G hG=>⟨⟨by kernel_rfl,fun a r h=>q04 (c:=q00 Tryz.f107) Tryz.func107 (by kernel_rfl) (by kernel_rfl) (Nat.le_of_ble_eq_true (by kernel_rfl)) hG.st (by kernel_rfl) (rs:=[.tmp 2]) (by kernel_rfl) (j7d n hG) (lts:=quv n) (fun F hF hFG=>have hK:Know Inv F.G:=hFG ▸ hG;(q02 fun j L h1 h2 h3=>absurd h2 (Nat.not_lt.2 (Nat.le_trans (by decide +kernel) h1)))) jk6 ((jle n a).symm.trans h)⟩,rfl⟩
def qma (n:Nat):List LC:=[]
def q60 (n:Nat) (a1:List UInt8):Option (Bool) :=
 (qmz n a1 ()).bind fun r1=>some r1
def q45 (n:Nat):FC:={ f:=137,args:=[.one (.c (.d .str))],res:=.one (.c (.d .bool)),F:=fun p=>q60 n p }
def qtm (n:Nat):List FC:=[qb7 n]
theorem qze (n:Nat) {G:World→Prop} (hG:Know Inv G) : ∀ c∈qtm n,q17 Tryz.prog G c∧q0b c.args=true:=List.forall_mem_cons.2 ⟨jnh n G hG,(fun _ h=>by cases h)⟩
def qox:q0a:=[]
theorem j8r:drB qox (q00 Tryz.f137)=true:=by kernel_rfl
theorem j75 (n:Nat) : ∀ a,(q45 n).F a=main Tryz.prog 5 (qtm n) (qma n) qox (q00 Tryz.f137) [.tmp 2] (q45 n).args (q45 n).res a:=by intro a;kernel_rfl
theorem qp6 (n:Nat):q0d Inv Tryz.prog (q45 n):=fun G hG=>⟨⟨by kernel_rfl,fun a r h=>q04 (c:=q00 Tryz.f137) Tryz.func137 (by kernel_rfl) (by kernel_rfl) (Nat.le_of_ble_eq_true (by kernel_rfl)) hG.st (by kernel_rfl) (rs:=[.tmp 2]) (by kernel_rfl) (qze n hG) (lts:=qma n) (fun F hF hFG=>have hK:Know Inv F.G:=hFG ▸ hG;(q02 fun j L h1 h2 h3=>absurd h2 (Nat.not_lt.2 (Nat.le_trans (by decide +kernel) h1)))) j8r ((j75 n a).symm.trans h)⟩,rfl⟩
def qg3 (n:Nat):List LC:=[]
def qff (n:Nat) (a1:List UInt8):Option (Bool) :=
 (qn6 n a1).bind fun r1=>(bif r1 then (bif decide (a1=([48]:List UInt8)) then some true else (sAt a1 (0:Int)).bind fun c2=>(bif !decide (c2=48) then some true else (q60 n a1).bind fun r3=>some (!r3))) else some false)
def q73 (n:Nat):FC:={ f:=106,args:=[.one (.c (.d .str))],res:=.one (.c (.d .bool)),F:=fun p=>qff n p }
def qlr (n:Nat):List FC:=[qbo n,q45 n]
theorem qum (n:Nat) {G:World→Prop} (hG:Know Inv G) : ∀ c∈qlr n,q17 Tryz.prog G c∧q0b c.args=true:=List.forall_mem_cons.2 ⟨j59 n G hG,List.forall_mem_cons.2 ⟨qp6 n G hG,(fun _ h=>by cases h)⟩⟩
def qkz:q0a:=[]
theorem j3g:drB qkz (q00 Tryz.f106)=true:=by kernel_rfl
theorem j5r (n:Nat) : ∀ a,(q73 n).F a=main Tryz.prog 19 (qlr n) (qg3 n) qkz (q00 Tryz.f106) [.tmp 2] (q73 n).args (q73 n).res a:=by intro a;kernel_rfl
theorem j3s (n:Nat):q0d Inv Tryz.prog (q73 n):=fun G hG=>⟨⟨by kernel_rfl,fun a r h=>q04 (c:=q00 Tryz.f106) Tryz.func106 (by kernel_rfl) (by kernel_rfl) (Nat.le_of_ble_eq_true (by kernel_rfl)) hG.st (by kernel_rfl) (rs:=[.tmp 2]) (by kernel_rfl) (qum n hG) (lts:=qg3 n) (fun F hF hFG=>have hK:Know Inv F.G:=hFG ▸ hG;(q02 fun j L h1 h2 h3=>absurd h2 (Nat.not_lt.2 (Nat.le_trans (by decide +kernel) h1)))) j3g ((j5r n a).symm.trans h)⟩,rfl⟩
end Go.Proofs.YtapfankgdkdkgaaGreatDoor.AM
namespace Go.Proofs.YtapfankgdkdkgaaGreatDoor.AM
open Go.RowKit
set_option linter.unusedVariables false
theorem jna {β:Type} {l:List β} {j:Nat} (h:j<l.length):nth l j=some l[j]:=by rw [q57,List.getElem?_eq_getElem h]
theorem q0o {β:Type} {l:List β} {j:Nat} (h:j<l.length):q1b l (j:Int)=some l[j]:=by
 unfold q1b;rw [if_pos (by omega),Int.toNat_natCast,jna h]
theorem q7j {s:List UInt8} {j:Nat} (h:j<s.length):sAt s (j:Int)=some ((s[j].toNat:Nat):Int):=by
 unfold sAt;rw [q0o h];rfl
theorem sub_le {β:Type} {l:List β} {a b:Nat} (h1:a≤b) (h2:b≤l.length):q2i l (a:Int) (b:Int)=some ((l.drop a).take (b - a)):=by
 unfold q2i;rw [if_pos ⟨by omega,by omega,by omega⟩,Int.toNat_natCast,Int.toNat_natCast]
theorem sub_zero {β:Type} {l:List β} {b:Nat} (h2:b≤l.length):q2i l (0:Int) (b:Int)=some (l.take b):=by
 have:=sub_le (l:=l) (a:=0) (b:=b) (Nat.zero_le _) h2
 simpa using this
theorem q37 {β:Type} {k:Nat} {xs ys:List β} (h:(xs.length+ys.length)*k≤140737488355328):q3e k xs ys=some (xs++ys):=by
 unfold q3e;rw [if_pos h]
theorem q07 {i:Nat} (h:i<4611686018427387904):IntKind.wrap .i64 ((i:Int)+1)=((i+1:Nat):Int):=by rw [wrap64 (by omega) (by omega)];rfl
theorem qzn {i:Nat} (h:i<4611686018427387904):IntKind.wrap .i64 (i:Int)=(i:Int):=by rw [wrap64 (by omega) (by omega)]
end Go.Proofs.YtapfankgdkdkgaaGreatDoor.AM
namespace Go.Proofs.YtapfankgdkdkgaaGreatDoor.AM
open Go.RowKit
set_option linter.unusedVariables false
set_option linter.unusedSimpArgs false
theorem jb0 (n:Nat) (c:UInt8):q4p n ((c.toNat:Nat):Int)=some (q26 c):=by
 unfold q4p q26
 have h1:decide ((48:Int)≤((c.toNat:Nat):Int))=decide (48≤c.toNat):=decide_eq_decide.2 (by omega)
 have h2:decide (((c.toNat:Nat):Int)≤(57:Int))=decide (c.toNat≤57):=decide_eq_decide.2 (by omega)
 rw [h1,h2]
 cases decide (48≤c.toNat)<;>cases decide (c.toNat≤57)<;>rfl
theorem jtq (n:Nat) (c:UInt8):qng n ((c.toNat:Nat):Int)=some (qmu c):=by
 unfold qng qmu
 have h1:decide ((97:Int)≤((c.toNat:Nat):Int))=decide (97≤c.toNat):=decide_eq_decide.2 (by omega)
 have h2:decide (((c.toNat:Nat):Int)≤(122:Int))=decide (c.toNat≤122):=decide_eq_decide.2 (by omega)
 have h3:decide ((65:Int)≤((c.toNat:Nat):Int))=decide (65≤c.toNat):=decide_eq_decide.2 (by omega)
 have h4:decide (((c.toNat:Nat):Int)≤(90:Int))=decide (c.toNat≤90):=decide_eq_decide.2 (by omega)
 have h5:decide (((c.toNat:Nat):Int)=(45:Int))=decide (c.toNat=45):=decide_eq_decide.2 (by omega)
 rw [h1,h2,h3,h4,h5,jb0]
 cases decide (97≤c.toNat)<;>cases decide (c.toNat≤122)<;>cases decide (65≤c.toNat)<;>cases decide (c.toNat≤90)<;>cases q26 c<;>rfl
theorem qrk (n:Nat) (s:List UInt8) (hL:s.length≤1000000) : ∀ m j:Nat,j≤s.length→s.length - j<m→q74 n m s ((s.length:Nat):Int) (j:Int)=some (if (s.drop j).all qmu=true then Sum.inr ((s,()),((),())) else Sum.inl ((false,()),((),())))
 | 0,j,_,h=>absurd h (Nat.not_lt_zero _)
 | m+1,j,hj,h=>by
  rw [qkl]
  unfold qsi
  by_cases c0:j<s.length
  ·have c0':((j:Nat):Int)<((s.length:Nat):Int):=by omega
   have ih:=qrk n s hL m (j+1) (by omega) (by omega)
   have hd:s.drop j=s[j]::s.drop (j+1):=(List.drop_eq_getElem_cons c0)
   simp only [c0',decide_true,cond_true,q7j c0,Option.bind_some,jtq,q08,q07 (show j<4611686018427387904 by omega),ih,hd,List.all_cons]
   cases qmu s[j]<;>simp
  ·have c0' : ¬ ((j:Nat):Int)<((s.length:Nat):Int):=by omega
   have:s.drop j = []:=List.drop_eq_nil_of_le (by omega)
   simp [c0',this]
theorem j95 (n:Nat) (s:List UInt8) (hL:s.length≤1000000) (hn:s.length<n):qmv n s ()=some (s.all qmu && !decide (s = [])):=by
 unfold qmv
 have:=qrk n s hL n 0 (Nat.zero_le _) (by omega)
 rw [show ((0:Nat):Int)=(0:Int) from rfl] at this
 rw [this,List.drop_zero]
 cases s.all qmu<;>rfl
theorem qtb (n:Nat) (s:List UInt8) (hL:s.length≤1000000) : ∀ m j:Nat,j≤s.length→s.length - j<m→q7x n m s ((s.length:Nat):Int) (j:Int)=some (if (s.drop j).all q26=true then Sum.inr ((s,()),((),())) else Sum.inl ((false,()),((),())))
 | 0,j,_,h=>absurd h (Nat.not_lt_zero _)
 | m+1,j,hj,h=>by
  rw [qjt]
  unfold qpo
  by_cases c0:j<s.length
  ·have c0':((j:Nat):Int)<((s.length:Nat):Int):=by omega
   have ih:=qtb n s hL m (j+1) (by omega) (by omega)
   have hd:s.drop j=s[j]::s.drop (j+1):=(List.drop_eq_getElem_cons c0)
   simp only [c0',decide_true,cond_true,q7j c0,Option.bind_some,jb0,q08,q07 (show j<4611686018427387904 by omega),ih,hd,List.all_cons]
   cases q26 s[j]<;>simp
  ·have c0' : ¬ ((j:Nat):Int)<((s.length:Nat):Int):=by omega
   have:s.drop j = []:=List.drop_eq_nil_of_le (by omega)
   simp [c0',this]
theorem j8o (n:Nat) (s:List UInt8) (hL:s.length≤1000000) (hn:s.length<n):qmz n s ()=some (s.all q26 && !decide (s = [])):=by
 unfold qmz
 have:=qtb n s hL n 0 (Nat.zero_le _) (by omega)
 rw [show ((0:Nat):Int)=(0:Int) from rfl] at this
 rw [this,List.drop_zero]
 cases s.all q26<;>rfl
theorem qse (n:Nat) (s:List UInt8) (hL:s.length≤1000000) (hn:s.length<n):qn6 n s=some (q29 s):=by
 unfold qn6;rw [j95 n s hL hn];rfl
theorem qac (n:Nat) (s:List UInt8) (hL:s.length≤1000000) (hn:s.length<n):q60 n s=some (q6v s):=by
 unfold q60;rw [j8o n s hL hn];rfl
theorem jfb (n:Nat) (s:List UInt8) (hL:s.length≤1000000) (hn:s.length<n):qff n s=some (q41 s):=by
 unfold qff q41
 rw [qse n s hL hn,qac n s hL hn]
 simp only [Option.bind_some]
 cases hp:q29 s with
 | false=>rfl
 | true =>
  cases s with
  | nil=>simp [q29] at hp
  | cons c r =>
   have h0:sAt (c::r) (0:Int)=some ((c.toNat:Nat):Int):=q7j (s:=c::r) (j:=0) (by simp)
   have h1:decide (((c.toNat:Nat):Int)=(48:Int))=decide ((c::r).head? = some 48):=decide_eq_decide.2 (by
    simp only [List.head?_cons,Option.some.injEq]
    constructor
    ·intro h;exact UInt8.toNat_inj.1 (by have e48:(48:UInt8).toNat=48:=rfl;rw [e48];omega)
    ·rintro rfl;rfl)
   simp only [cond_true,h0,Option.bind_some,h1,Bool.true_and]
   cases decide (c::r = [48])<;>cases decide ((c::r).head? = some 48)<;>cases q6v (c::r)<;>rfl
end Go.Proofs.YtapfankgdkdkgaaGreatDoor.AM
namespace Go.Proofs
open Go.RowKit Go.Shelf Go.Lib
attribute [local go_sem] Oper.semAt_some
set_option linter.unusedVariables false
set_option linter.unusedSimpArgs false
namespace YtapfankgdkdkgaaGreatDoor.AM
theorem q2r {P:Program} {fn:Func} {p:Tmp} {ty:TypeId} {b:Nat} {v:Value} {tmps:Array Value} {w:World} (h:fn.results = #[.cell p ty]) (hp:tmps.getD p undef = .pointer (some ⟨b,0,none⟩)) (ha:qwq P ty=some false)
  (hc:w.cell? ⟨b,0,none⟩=some v):(results fn tmps).run P w = .ok v w:=by
 have hp':tmps[p]?.getD undef = .pointer (some ⟨b,0,none⟩):=by simpa using hp
 simp only [results,h]
 simp [Sem.run_bind,hp',asAddr,loadVar,q1l ha w,go_sem,hc]
theorem q2w {W W':World} {a:Addr} {v:Value} (hb:Below W.heap.size W W') (h:W.cell? a=some v):W'.cell? a=some v:=by
 obtain ⟨o,ho,hc⟩:=cells_of_cell h
 exact (World.cell?_of_block ((hb.block _ (Array.getElem?_eq_some_iff.1 ho).1).trans ho |>.trans ho.symm)).trans h
theorem q3k {W W':World} {a:Addr} {v:Value} (hb:Below W.heap.size W W') (h:W.cell? a=some v):W'.frozen? a=W.frozen? a:=by
 obtain ⟨o,ho,hc⟩:=cells_of_cell h
 exact World.frozen?_of_block ((hb.block _ (Array.getElem?_eq_some_iff.1 ho).1).trans ho |>.trans ho.symm)
theorem q2p {W W':World} (hb:Below W.heap.size W W'):KeepsOthers W W':=⟨hb.size,fun k o h _=>(hb.block k (Array.getElem?_eq_some_iff.1 h).1).trans h⟩
theorem qck {pS:Nat} {r:List UInt8} {W W':World} (h:Left pS r W) (hb:Below W.heap.size W W'):Left pS r W':=⟨q2w hb h.1,(q3k hb h.1).trans h.2⟩
theorem q0q {w:World} {b:Nat} {v:Value} {t:TypeId} (h:w.heap[b]? = some (.cells #[v] t (0,0))):w.cell? ⟨b,0,none⟩=some v∧w.frozen? ⟨b,0,none⟩=false:=by
 constructor
 ·simp [World.cell?,h]
 ·simp [World.frozen?,h]
theorem five (w:World) (o0 o1 o2 o3 o4:Obj) : ∃ W,(((((w.alloc o0).alloc o1).alloc o2).alloc o3).alloc o4)=W∧W.heap.size=w.heap.size+5∧Below w.heap.size w W∧W.heap[w.heap.size]? = some o0∧W.heap[w.heap.size+1]? = some o1∧W.heap[w.heap.size+1+1]? = some o2∧W.heap[w.heap.size+1+1+1]? = some o3∧W.heap[w.heap.size+1+1+2]? = some o4:=by
 have al : ∀ (w:World) (o:Obj) (k:Nat),k<w.heap.size→(w.alloc o).heap[k]? = w.heap[k]?:=fun w o k h=>Below.heap_alloc _ _ _ h
 refine ⟨_,rfl,by simp,(((((Below.refl _ w).alloc (Nat.le_refl _) _).alloc (by simp) _).alloc (by simp;omega) _).alloc (by simp;omega) _).alloc (by simp;omega) _,?_,?_,?_,?_,?_⟩
 ·rw [al _ _ _ (by simp<;>omega),al _ _ _ (by simp<;>omega),al _ _ _ (by simp<;>omega),al _ _ _ (by simp),World.alloc_heap_new]
 ·rw [al _ _ _ (by simp<;>omega),al _ _ _ (by simp<;>omega),al _ _ _ (by simp)]
  have:=World.alloc_heap_new (w.alloc o0) o1
  rw [World.size_alloc] at this;exact this
 ·rw [al _ _ _ (by simp<;>omega),al _ _ _ (by simp)]
  have:=World.alloc_heap_new ((w.alloc o0).alloc o1) o2
  rw [World.size_alloc,World.size_alloc] at this;exact this
 ·rw [al _ _ _ (by simp)]
  have:=World.alloc_heap_new (((w.alloc o0).alloc o1).alloc o2) o3
  rw [World.size_alloc,World.size_alloc,World.size_alloc] at this;exact this
 ·have:=World.alloc_heap_new ((((w.alloc o0).alloc o1).alloc o2).alloc o3) o4
  rw [World.size_alloc,World.size_alloc,World.size_alloc,World.size_alloc] at this;exact this
theorem hag:qwq Tryz.prog 4=some false:=by kernel_rfl
structure Rng (fv:Value) (pF pR:Nat) (pP pC:Nat) (c:UInt8) (w0:World) (pred:List UInt8→Bool) (pre:List (List UInt8)) (W:World):Prop where
 fn:W.cell? ⟨pF,0,none⟩=some fv
 res:W.cell? ⟨pR,0,none⟩=some (.bool false)
 frz:W.frozen? ⟨pR,0,none⟩=false
 cP:W.cell? ⟨pP,0,none⟩=some (.string (ba [c]))
 cC:W.cell? ⟨pC,0,none⟩=some (.int .i64 0)
 below:Below w0.heap.size w0 W
 all:pre.all pred=true
structure RngX (pR:Nat) (w0:World) (pred:List UInt8→Bool) (pre:List (List UInt8)) (W:World):Prop where
 res:W.cell? ⟨pR,0,none⟩=some (.bool false)
 below:Below w0.heap.size w0 W
 no:pre.all pred=false
theorem j08 {fv:Value} {pF pR pP pC:Nat} {c:UInt8} {w0:World} {pred:List UInt8→Bool} {B:Nat} (hB:w0.heap.size≤B):OwnFrom B (Rng fv pF pR pP pC c w0 pred):=fun s W W' row h hg hr =>
 ⟨qaf h.fn hg hr,qaf h.res hg hr,(frozen_kept h.res hg (fun r e=>(hr r e).2)).trans h.frz,qaf h.cP hg hr,qaf h.cC hg hr,h.below.grown hg h.below.size (fun k e=>Nat.le_trans hB (hr k e).1),h.all⟩
theorem qy2 {pR:Nat} {w0:World} {pred:List UInt8→Bool} {B:Nat} (hB:w0.heap.size≤B):OwnFrom B (RngX pR w0 pred):=fun s W W' row h hg hr =>
 ⟨qaf h.res hg hr,h.below.grown hg h.below.size (fun k e=>Nat.le_trans hB (hr k e).1),h.no⟩
theorem qg7 {fv:Value} {pF pR pP pC:Nat} {c:UInt8} {w0:World} {pred:List UInt8→Bool} {pre:List (List UInt8)} {x:List UInt8} {W W':World} (h:Rng fv pF pR pP pC c w0 pred pre W) (hb:Below W.heap.size W W') (hx:pred x=true):Rng fv pF pR pP pC c w0 pred (pre ++ [x]) W' :=
 ⟨q2w hb h.fn,q2w hb h.res,(q3k hb h.res).trans h.frz,q2w hb h.cP,q2w hb h.cC,h.below.trans (hb.mono h.below.size),by rw [List.all_append,h.all];simp [hx]⟩
theorem qyi {fv:Value} {pF pR pP pC:Nat} {c:UInt8} {w0:World} {pred:List UInt8→Bool} {pre:List (List UInt8)} {W:World} {q:Nat} (v:Value) (h:Rng fv pF pR pP pC c w0 pred pre W) (h0:w0.heap.size≤q) (h1:q≠pF) (h2:q≠pR) (h3:q≠pP) (h4:q≠pC):Rng fv pF pR pP pC c w0 pred pre (W.setCell ⟨q,0,none⟩ v):=by
 have ne : ∀ p:Nat,q≠p→(W.setCell ⟨q,0,none⟩ v).cell? ⟨p,0,none⟩=W.cell? ⟨p,0,none⟩:=fun p hp=>World.cell?_setCell_other _ _ _ _ (by intro e;exact hp (by injection e with e))
 exact ⟨(ne _ h1).trans h.fn,(ne _ h2).trans h.res,by rw [World.frozen?_setCell];exact h.frz,(ne _ h3).trans h.cP,(ne _ h4).trans h.cC,h.below.setCell (by simpa using h0) _,h.all⟩
theorem four (w:World) (o0 o1 o2 o3:Obj) : ∃ W,((((w.alloc o0).alloc o1).alloc o2).alloc o3)=W∧W.heap.size=w.heap.size+4∧Below w.heap.size w W∧W.heap[w.heap.size]? = some o0∧W.heap[w.heap.size+1]? = some o1∧W.heap[w.heap.size+1+1]? = some o2∧W.heap[w.heap.size+1+2]? = some o3:=by
 have al : ∀ (w:World) (o:Obj) (k:Nat),k<w.heap.size→(w.alloc o).heap[k]? = w.heap[k]?:=fun w o k h=>Below.heap_alloc _ _ _ h
 refine ⟨_,rfl,by simp,((((Below.refl _ w).alloc (Nat.le_refl _) _).alloc (by simp) _).alloc (by simp;omega) _).alloc (by simp;omega) _,?_,?_,?_,?_⟩
 ·rw [al _ _ _ (by simp<;>omega),al _ _ _ (by simp<;>omega),al _ _ _ (by simp),World.alloc_heap_new]
 ·rw [al _ _ _ (by simp<;>omega),al _ _ _ (by simp)]
  have:=World.alloc_heap_new (w.alloc o0) o1
  rw [World.size_alloc] at this;exact this
 ·rw [al _ _ _ (by simp)]
  have:=World.alloc_heap_new ((w.alloc o0).alloc o1) o2
  rw [World.size_alloc,World.size_alloc] at this;exact this
 ·have:=World.alloc_heap_new (((w.alloc o0).alloc o1).alloc o2) o3
  rw [World.size_alloc,World.size_alloc,World.size_alloc] at this;exact this
structure RngY (pR:Nat) (w0:World) (pred:List UInt8→Bool) (pre:List (List UInt8)) (W:World):Prop where
 res:W.cell? ⟨pR,0,none⟩=some (.bool true)
 below:Below w0.heap.size w0 W
 no:pre.all pred=false
theorem joi {pR:Nat} {w0:World} {pred:List UInt8→Bool} {B:Nat} (hB:w0.heap.size≤B):OwnFrom B (RngY pR w0 pred):=fun s W W' row h hg hr =>
 ⟨qaf h.res hg hr,h.below.grown hg h.below.size (fun k e=>Nat.le_trans hB (hr k e).1),h.no⟩
theorem jbh {pred:List UInt8→Bool} {s x:List UInt8} {pre t:List (List UInt8)} (hsp:spl 47 [] s=pre++x::t) (hn:(pre ++ [x]).all pred=false):(spl 47 [] s).all pred=false:=by
 rw [List.all_append,Bool.and_eq_false_iff] at hn
 rw [hsp,List.all_append,Bool.and_eq_false_iff]
 rcases hn with hn|hn
 ·exact Or.inl hn
 ·refine Or.inr ?_
  simp only [List.all_cons,List.all_nil,Bool.and_true] at hn
  rw [List.all_cons,hn];rfl
end YtapfankgdkdkgaaGreatDoor.AM
end Go.Proofs
namespace Go.Proofs
open Go.RowKit Go.Shelf Go.Lib
attribute [local go_sem] Oper.semAt_some
set_option linter.unusedVariables false
set_option linter.unusedSimpArgs false
namespace YtapfankgdkdkgaaGreatDoor.AM
set_option maxHeartbeats 2000000 in
theorem qui (pred:List UInt8→Bool) (hp : ∀ (x:List UInt8) (w:World),Inv w→x.length≤30→Calls Tryz.prog 107 #[.string (ba x)] w fun e w'=>e = .returned (.bool (pred x))∧Below w.heap.size w w')
  (s:List UInt8) (w:World) (hI:Inv w) :
  Calls Tryz.prog 105 #[.string (ba s),.func (.func 107) #[] #[]] w fun e w'=>e = .returned (.bool (q5w pred s))∧Below w.heap.size w w':=by
 refine (callsIn_wide (n:=9)).1 ?_
 refine callsIn_of_wp_marks Tryz.func105 rfl trivial ?_ rfl
 simp only [Tryz.ntmps105,List.size_toArray,List.length_cons,List.length_nil,Nat.reduceAdd,Nat.reduceSub,Array.replicate_succ,Array.replicate_zero,List.push_toArray,List.append_toArray,List.nil_append,List.cons_append]
 have hsz:(ba s).size=s.length:=q2y s
 by_cases h1:s = []
 ·subst h1
  have he:(ba []).toList.isEmpty=true:=by rw [q90];rfl
  gi_wp2
  refine ⟨_,q2r (b:=w.heap.size+1) (v:=.bool true) rfl rfl hag (by simp),rfl,?_⟩
  exact ((Below.refl _ w).alloc (Nat.le_refl _) _).alloc (by simp) _
 have he:(ba s).toList.isEmpty=false:=by rw [q90];simpa using h1
 by_cases h2:s.length≤30
 ·gi_wp2_with (refine ⟨trivial,?_⟩;gi_at_call 136;refine (callsIn_wide.2 (q4n _ _ _)).mono ?_;rintro e w' ⟨rfl,rfl⟩)
  obtain ⟨W0,hW0,hs0,hb0,g0,g1,g2,g3,g4⟩:=five w (Obj.cells #[Value.func (Fn.func 107) #[] #[]] 140) (Obj.cells #[Value.bool false] 4) (Obj.cells #[Value.string (ba s)] 9) (Obj.cells #[Value.string { data:=#[46] }] 9) (Obj.cells #[Value.int IntKind.i64 0] 3)
  rw [hW0]
  clear hW0
  obtain ⟨c0,f0⟩:=q0q g0
  obtain ⟨c1,f1⟩:=q0q g1
  obtain ⟨c2,f2⟩:=q0q g2
  obtain ⟨c3,f3⟩:=q0q g3
  obtain ⟨c4,f4⟩:=q0q g4
  refine range_split (n:=9) (by omega) 46 (w.heap.size+1+1) (w.heap.size+1+1+1) (w.heap.size+1+1+2) s (by omega) rfl ⟨c2,f2⟩
   (Rng (.func (.func 107) #[] #[]) w.heap.size (w.heap.size+1) (w.heap.size+1+1+1) (w.heap.size+1+1+2) 46 w pred) (RngX (w.heap.size+1) w pred) (j08 (by omega)) (qy2 (by omega))
   (fun pre W h=>⟨h.cP,h.cC,(hI.below h.below).maxLen⟩) (fun pre W v h=>qyi v h (by omega) (by omega) (by omega) (by omega) (by omega)) ⟨c0,c1,f1,c3,c4,hb0,rfl⟩
   (fun x=>{ tmps:=#[.string (ba s),.func (.func 107) #[] #[],undef,.pointer (some ⟨w.heap.size,0,none⟩),.pointer (some ⟨w.heap.size+1,0,none⟩),.string (ba x),.string (ba s),.bool false,.string (ba s),.int .i64 s.length,.bool (decide ((30:Int)<s.length)),.string (ba s),
    .func (.func 200) #[] #[.pointer (some ⟨w.heap.size+1+1+1,0,none⟩),.pointer (some ⟨w.heap.size+1+1,0,none⟩),.pointer (some ⟨w.heap.size+1+1+2,0,none⟩)],.string (ba x),undef,undef,undef,undef],defers:=[] }) ?assign ?body ?done ?stop
  case assign =>
   intro l x W K hK
   gi_wp2
   exact hK
  case body =>
   intro l pre x r W hi hL hx
   have k0:=hi.fn
   have k1:=hi.res
   have k2:=hi.frz
   have hc:=hp x W (hI.below hi.below) (by omega)
   cases hpx:pred x with
   | true =>
    rw [hpx] at hc
    gi_wp2_with (refine ⟨trivial,?_⟩;gi_at_call 107;refine (CallsIn.inRound l (callsIn_wide.2 hc)).mono ?_;rintro e w' ⟨rfl,hb'⟩)
    exact ⟨q2p hb',qg7 hi hb' hpx,qck hL hb'⟩
   | false =>
    rw [hpx] at hc
    gi_wp2_with (refine ⟨trivial,?_⟩;gi_at_call 107;refine (CallsIn.inRound l (callsIn_wide.2 hc)).mono ?_;rintro e w' ⟨rfl,hb'⟩;have k3:=q2w hb' hi.res;have k4:=(q3k hb' hi.res).trans hi.frz)
    exact ⟨(q2p hb').trans (KeepsOthers.setCell _ _ _),World.cell?_setCell_same' _ _ _ (by rw [k3];rfl),(hi.below.trans (hb'.mono hi.below.size)).setCell (by simp) _,by simp [hpx]⟩
  case done =>
   intro D W hD hi hK
   have k1:=hi.res
   have k2:=hi.frz
   gi_wp2
   have hK':=(KeepsOthers.setCell W ⟨w.heap.size+1,0,none⟩ (.bool true)).same D _ hK rfl
   have hW':Below w.heap.size w (W.setCell ⟨w.heap.size+1,0,none⟩ (.bool true)):=hi.below.setCell (by simp) _
   have k5:(W.setCell ⟨w.heap.size+1,0,none⟩ (.bool true)).cell? ⟨w.heap.size+1,0,none⟩=some (.bool true):=World.cell?_setCell_same' _ _ _ (by rw [k1];rfl)
   generalize W.setCell ⟨w.heap.size+1,0,none⟩ (.bool true)=W2 at hK' hW' k5
   refine ⟨by simp,.inl ⟨_,_,rfl,run_takeDeferred hK',?_⟩⟩
   have hg:=grownBy_putObj' W2 D (.deferred none)
   refine ⟨_,q2r (b:=w.heap.size+1) (v:=.bool true) rfl rfl hag (cell_kept k5 hg (fun r e=>by cases e;exact ⟨_,hK',rfl⟩)),?_,?_⟩
   ·unfold q5w;simp [h1,h2,hi.all]
   ·exact hW'.grown hg hW'.size (fun k e=>by cases e;omega)
  case stop =>
   intro D pre x t W hD hsp hi hK
   refine ⟨by simp,.inl ⟨_,_,rfl,run_takeDeferred hK,?_⟩⟩
   have hg:=grownBy_putObj' W D (.deferred none)
   refine ⟨_,q2r (b:=w.heap.size+1) (v:=.bool false) rfl rfl hag (cell_kept hi.res hg (fun r e=>by cases e;exact ⟨_,hK,rfl⟩)),?_,?_⟩
   ·have hn:=hi.no
    rw [List.all_append,Bool.and_eq_false_iff] at hn
    have ha:(spl 46 [] s).all pred=false:=by
     rw [hsp,List.all_append,Bool.and_eq_false_iff]
     rcases hn with hn|hn
     ·exact Or.inl hn
     ·refine Or.inr ?_
      simp only [List.all_cons,List.all_nil,Bool.and_true] at hn
      rw [List.all_cons,hn];rfl
    unfold q5w;simp [h1,ha]
   ·exact hi.below.grown hg hi.below.size (fun k e=>by cases e;omega)
 ·gi_wp2
  refine ⟨_,q2r (b:=w.heap.size+1) (v:=.bool false) rfl rfl hag (by simp),?_,?_⟩
  ·unfold q5w;simp [h1,h2]
  ·exact ((Below.refl _ w).alloc (Nat.le_refl _) _).alloc (by simp) _
set_option maxHeartbeats 2000000 in
theorem qz8 (pred:List UInt8→Bool) (hp : ∀ (x:List UInt8) (w:World),Inv w→x.length≤30→Calls Tryz.prog 106 #[.string (ba x)] w fun e w'=>e = .returned (.bool (pred x))∧Below w.heap.size w w')
  (s:List UInt8) (w:World) (hI:Inv w) :
  Calls Tryz.prog 105 #[.string (ba s),.func (.func 106) #[] #[]] w fun e w'=>e = .returned (.bool (q5w pred s))∧Below w.heap.size w w':=by
 refine (callsIn_wide (n:=9)).1 ?_
 refine callsIn_of_wp_marks Tryz.func105 rfl trivial ?_ rfl
 simp only [Tryz.ntmps105,List.size_toArray,List.length_cons,List.length_nil,Nat.reduceAdd,Nat.reduceSub,Array.replicate_succ,Array.replicate_zero,List.push_toArray,List.append_toArray,List.nil_append,List.cons_append]
 have hsz:(ba s).size=s.length:=q2y s
 by_cases h1:s = []
 ·subst h1
  have he:(ba []).toList.isEmpty=true:=by rw [q90];rfl
  gi_wp2
  refine ⟨_,q2r (b:=w.heap.size+1) (v:=.bool true) rfl rfl hag (by simp),rfl,?_⟩
  exact ((Below.refl _ w).alloc (Nat.le_refl _) _).alloc (by simp) _
 have he:(ba s).toList.isEmpty=false:=by rw [q90];simpa using h1
 by_cases h2:s.length≤30
 ·gi_wp2_with (refine ⟨trivial,?_⟩;gi_at_call 136;refine (callsIn_wide.2 (q4n _ _ _)).mono ?_;rintro e w' ⟨rfl,rfl⟩)
  obtain ⟨W0,hW0,hs0,hb0,g0,g1,g2,g3,g4⟩:=five w (Obj.cells #[Value.func (Fn.func 106) #[] #[]] 140) (Obj.cells #[Value.bool false] 4) (Obj.cells #[Value.string (ba s)] 9) (Obj.cells #[Value.string { data:=#[46] }] 9) (Obj.cells #[Value.int IntKind.i64 0] 3)
  rw [hW0]
  clear hW0
  obtain ⟨c0,f0⟩:=q0q g0
  obtain ⟨c1,f1⟩:=q0q g1
  obtain ⟨c2,f2⟩:=q0q g2
  obtain ⟨c3,f3⟩:=q0q g3
  obtain ⟨c4,f4⟩:=q0q g4
  refine range_split (n:=9) (by omega) 46 (w.heap.size+1+1) (w.heap.size+1+1+1) (w.heap.size+1+1+2) s (by omega) rfl ⟨c2,f2⟩
   (Rng (.func (.func 106) #[] #[]) w.heap.size (w.heap.size+1) (w.heap.size+1+1+1) (w.heap.size+1+1+2) 46 w pred) (RngX (w.heap.size+1) w pred) (j08 (by omega)) (qy2 (by omega))
   (fun pre W h=>⟨h.cP,h.cC,(hI.below h.below).maxLen⟩) (fun pre W v h=>qyi v h (by omega) (by omega) (by omega) (by omega) (by omega)) ⟨c0,c1,f1,c3,c4,hb0,rfl⟩
   (fun x=>{ tmps:=#[.string (ba s),.func (.func 106) #[] #[],undef,.pointer (some ⟨w.heap.size,0,none⟩),.pointer (some ⟨w.heap.size+1,0,none⟩),.string (ba x),.string (ba s),.bool false,.string (ba s),.int .i64 s.length,.bool (decide ((30:Int)<s.length)),.string (ba s),
    .func (.func 200) #[] #[.pointer (some ⟨w.heap.size+1+1+1,0,none⟩),.pointer (some ⟨w.heap.size+1+1,0,none⟩),.pointer (some ⟨w.heap.size+1+1+2,0,none⟩)],.string (ba x),undef,undef,undef,undef],defers:=[] }) ?assign ?body ?done ?stop
  case assign =>
   intro l x W K hK
   gi_wp2
   exact hK
  case body =>
   intro l pre x r W hi hL hx
   have k0:=hi.fn
   have k1:=hi.res
   have k2:=hi.frz
   have hc:=hp x W (hI.below hi.below) (by omega)
   cases hpx:pred x with
   | true =>
    rw [hpx] at hc
    gi_wp2_with (refine ⟨trivial,?_⟩;gi_at_call 106;refine (CallsIn.inRound l (callsIn_wide.2 hc)).mono ?_;rintro e w' ⟨rfl,hb'⟩)
    exact ⟨q2p hb',qg7 hi hb' hpx,qck hL hb'⟩
   | false =>
    rw [hpx] at hc
    gi_wp2_with (refine ⟨trivial,?_⟩;gi_at_call 106;refine (CallsIn.inRound l (callsIn_wide.2 hc)).mono ?_;rintro e w' ⟨rfl,hb'⟩;have k3:=q2w hb' hi.res;have k4:=(q3k hb' hi.res).trans hi.frz)
    exact ⟨(q2p hb').trans (KeepsOthers.setCell _ _ _),World.cell?_setCell_same' _ _ _ (by rw [k3];rfl),(hi.below.trans (hb'.mono hi.below.size)).setCell (by simp) _,by simp [hpx]⟩
  case done =>
   intro D W hD hi hK
   have k1:=hi.res
   have k2:=hi.frz
   gi_wp2
   have hK':=(KeepsOthers.setCell W ⟨w.heap.size+1,0,none⟩ (.bool true)).same D _ hK rfl
   have hW':Below w.heap.size w (W.setCell ⟨w.heap.size+1,0,none⟩ (.bool true)):=hi.below.setCell (by simp) _
   have k5:(W.setCell ⟨w.heap.size+1,0,none⟩ (.bool true)).cell? ⟨w.heap.size+1,0,none⟩=some (.bool true):=World.cell?_setCell_same' _ _ _ (by rw [k1];rfl)
   generalize W.setCell ⟨w.heap.size+1,0,none⟩ (.bool true)=W2 at hK' hW' k5
   refine ⟨by simp,.inl ⟨_,_,rfl,run_takeDeferred hK',?_⟩⟩
   have hg:=grownBy_putObj' W2 D (.deferred none)
   refine ⟨_,q2r (b:=w.heap.size+1) (v:=.bool true) rfl rfl hag (cell_kept k5 hg (fun r e=>by cases e;exact ⟨_,hK',rfl⟩)),?_,?_⟩
   ·unfold q5w;simp [h1,h2,hi.all]
   ·exact hW'.grown hg hW'.size (fun k e=>by cases e;omega)
  case stop =>
   intro D pre x t W hD hsp hi hK
   refine ⟨by simp,.inl ⟨_,_,rfl,run_takeDeferred hK,?_⟩⟩
   have hg:=grownBy_putObj' W D (.deferred none)
   refine ⟨_,q2r (b:=w.heap.size+1) (v:=.bool false) rfl rfl hag (cell_kept hi.res hg (fun r e=>by cases e;exact ⟨_,hK,rfl⟩)),?_,?_⟩
   ·have hn:=hi.no
    rw [List.all_append,Bool.and_eq_false_iff] at hn
    have ha:(spl 46 [] s).all pred=false:=by
     rw [hsp,List.all_append,Bool.and_eq_false_iff]
     rcases hn with hn|hn
     ·exact Or.inl hn
     ·refine Or.inr ?_
      simp only [List.all_cons,List.all_nil,Bool.and_true] at hn
      rw [List.all_cons,hn];rfl
    unfold q5w;simp [h1,ha]
   ·exact hi.below.grown hg hi.below.size (fun k e=>by cases e;omega)
 ·gi_wp2
  refine ⟨_,q2r (b:=w.heap.size+1) (v:=.bool false) rfl rfl hag (by simp),?_,?_⟩
  ·unfold q5w;simp [h1,h2]
  ·exact ((Below.refl _ w).alloc (Nat.le_refl _) _).alloc (by simp) _
theorem j6e (x:List UInt8) (w:World) (hI:Inv w) (hx:x.length≤30):Calls Tryz.prog 107 #[.string (ba x)] w fun e w'=>e = .returned (.bool (q29 x))∧Below w.heap.size w w':=by
 have h:=(j59 100 Inv q9p).1.2 x (q29 x) (qse 100 x (by omega) (by omega))
 refine (h (fun _ _=>False) w #[.string (ba x)] hI (fun b o h=>h.elim) ⟨q05 _,trivial⟩).mono ?_
 rintro e w' ⟨v,Pc,rfl,hb,_,_,hv⟩
 have hv':v = .bool (q29 x):=q09 hv
 rw [hv']
 exact ⟨rfl,hb⟩
def qj6 (s:List UInt8) (u:Unit):Option Bool:=some (q5w q29 s)
def qsh:FC:={ f:=105,args:=[qv7,.one (.c (.fn 107 []))],res:=jqu,F:=fun p=>qj6 p.1 p.2 }
theorem j7p:q0d Inv Tryz.prog qsh:=fun G hG=>⟨⟨by kernel_rfl,fun a r h=>by
 obtain ⟨s,u⟩:=a
 have hr:q5w q29 s=r:=Option.some.inj h
 intro Pc w vs hg hlt hv
 obtain ⟨l⟩:=vs
 match l,hv with
 | [x,y],⟨h1,h2,_⟩ =>
  obtain rfl:x = .string (ba s):=q09 h1
  obtain rfl:y = .func (.func 107) #[] #[]:=q09 h2
  refine (qui q29 j6e s w (hG.im w hg)).mono ?_
  rintro e w' ⟨rfl,hb⟩
  subst hr
  exact q4c rfl hb (q05 _)⟩,rfl⟩
theorem j6t (x:List UInt8) (w:World) (hI:Inv w) (hx:x.length≤30):Calls Tryz.prog 106 #[.string (ba x)] w fun e w'=>e = .returned (.bool (q41 x))∧Below w.heap.size w w':=by
 have h:=(j3s 100 Inv q9p).1.2 x (q41 x) (jfb 100 x (by omega) (by omega))
 refine (h (fun _ _=>False) w #[.string (ba x)] hI (fun b o h=>h.elim) ⟨q05 _,trivial⟩).mono ?_
 rintro e w' ⟨v,Pc,rfl,hb,_,_,hv⟩
 have hv':v = .bool (q41 x):=q09 hv
 rw [hv']
 exact ⟨rfl,hb⟩
def qsl (s:List UInt8) (u:Unit):Option Bool:=some (q5w q41 s)
def qwt:FC:={ f:=105,args:=[qv7,.one (.c (.fn 106 []))],res:=jqu,F:=fun p=>qsl p.1 p.2 }
theorem jew:q0d Inv Tryz.prog qwt:=fun G hG=>⟨⟨by kernel_rfl,fun a r h=>by
 obtain ⟨s,u⟩:=a
 have hr:q5w q41 s=r:=Option.some.inj h
 intro Pc w vs hg hlt hv
 obtain ⟨l⟩:=vs
 match l,hv with
 | [x,y],⟨h1,h2,_⟩ =>
  obtain rfl:x = .string (ba s):=q09 h1
  obtain rfl:y = .func (.func 106) #[] #[]:=q09 h2
  refine (qz8 q41 j6t s w (hG.im w hg)).mono ?_
  rintro e w' ⟨rfl,hb⟩
  subst hr
  exact q4c rfl hb (q05 _)⟩,rfl⟩
end YtapfankgdkdkgaaGreatDoor.AM
end Go.Proofs
