
import Derived.Test.YtapfankgdkdkgaaGreatDoorEb9
import Derived.Lib.ItoaNum
import Derived.Lib.AtoiAll
import Derived.Shelf.LaysC
import Derived.Shelf.Strconv.Itoa3
import Derived.Shelf.Strconv.AtoiAll
import Derived.Shelf.Small.Strs
import Derived.Shelf.Strings.SplitShaped
import Derived.Lib.LaidTab
import Derived.Lib.AppendIntMem
import Derived.Stop.LaidErr
import Derived.WalkSmall
set_option linter.unusedVariables false
set_option linter.unusedSimpArgs false
namespace Go.Proofs.YtapfankgdkdkgaaGreatDoor.AM
open Go.RowKit
abbrev VD:=Vv
abbrev v0:VD:=(0,(0,(0,([],[]))))
def q1e (c:UInt8):Bool:=decide (48≤c.toNat)&&decide (c.toNat≤57)
def qqm (c:UInt8):Bool:=(decide (97≤c.toNat)&&decide (c.toNat≤122))||(decide (65≤c.toNat)&&decide (c.toNat≤90))||q1e c||decide (c.toNat=45)
def q2q (s:Yy):Bool:=s.all q1e && !decide (s = [])
def q2l (s:Yy):Bool:=s.all qqm && !decide (s = [])
def q4v (s:Yy):Bool:=q2l s&&(decide (s = [48]) || !decide (s.head? = some 48) || !q2q s)
def q69 (p:Yy→Bool) (s:Yy):Bool:=decide (s = [])||(decide (s.length≤30)&&(spl 46 [] s).all p)
def jjn (n:Int):Bool:=decide (0≤n)&&decide (n≤999999999)
def q1b (v:VD):Bool:=jjn v.1&&jjn v.2.1&&jjn v.2.2.1&&q69 q4v v.2.2.2.1&&q69 q2l v.2.2.2.2
def q64 (c:UInt8) (s:Yy):Yy:=if s = [] then [] else c::s
def jpd (v:VD):Yy:=118::(Lib.itoa v.1++46::(Lib.itoa v.2.1++46::(Lib.itoa v.2.2.1++(q64 45 v.2.2.2.1++q64 43 v.2.2.2.2))))
def q1g (v:VD):Yy:=if q1b v then jpd v else []
def k2v (w:Yy):Int×(Int×Yy):=if q2q w then (0,(w.length,w)) else (1,(0,w))
def jpq (x y:Yy):Int:=ql0 qbh (ql0 qbh (cmpL jrc)) (k2v x) (k2v y)
def jq2 (p:Yy):Int×List (Yy):=(if p = [] then 1 else 0,spl 46 [] p)
def qcw (a b:Yy):Int:=ql0 qbh (cmpL jpq) (jq2 a) (jq2 b)
def core (v:VD):Int×(Int×(Int×Yy)):=(v.1,(v.2.1,(v.2.2.1,v.2.2.2.1)))
def cmpC (x y:Int×(Int×(Int×Yy))):Int:=ql0 qbh (ql0 qbh (ql0 qbh qcw)) x y
def jpc (v w:VD):Int:=if q1b v&&q1b w then cmpC (core v) (core w) else 0
theorem k08 (x y:Yy) (h:k2v x=k2v y):x=y:=by
 unfold k2v at h
 split at h<;>split at h<;>simp at h<;>first|exact h.2|exact h
theorem k1g:Cmp jpq:=(j2h qbs (j2h qbs (qi3 qqo))).key k2v k08
def jyo (c:UInt8):List (Yy)→Yy
 | []=>[]
 | [x]=>x
 | x::y::t=>x++c::jyo c (y::t)
theorem jpr (c:UInt8) (l cur:Yy):spl c cur l ≠ []:=fun h=>by have:=(q4y c l cur).1;rw [h] at this;simp at this
theorem qjg (c:UInt8) : ∀ (l cur:Yy),jyo c (spl c cur l)=cur++l
 | [],cur=>by simp [spl,jyo]
 | b::l,cur=>by
  rw [spl]
  split
  ·rename_i h;subst h
   have ih:=qjg b l []
   cases hs:spl b [] l with
   | nil=>exact absurd hs (jpr b l [])
   | cons y t=>rw [hs] at ih;rw [jyo,ih];simp
  ·rw [qjg c l];simp
theorem k5l (c:UInt8) (x y:Yy) (h:spl c [] x=spl c [] y):x=y:=by
 have h1:=qjg c x []
 have h2:=qjg c y []
 rw [h] at h1
 simpa using h1.symm.trans h2
theorem k01 (x y:Yy) (h:jq2 x=jq2 y):x=y:=k5l 46 x y (congrArg Prod.snd h)
theorem jm7:Cmp qcw:=(j2h qbs (qi3 k1g)).key jq2 k01
theorem j55 (c:UInt8) (p:UInt8→Bool) : ∀ (l cur:Yy),(spl c cur l).all (fun w=>w.all p)=true↔(cur.all p=true∧∀ b∈l,b=c∨p b=true)
 | [],cur=>by simp [spl]
 | b::l,cur=>by
  rw [spl]
  split
  ·rename_i h;subst h
   rw [List.all_cons,Bool.and_eq_true,j55 b p l []]
   simp
  ·rename_i h
   rw [j55 c p l]
   simp only [List.all_append,List.all_cons,List.all_nil,Bool.and_true,Bool.and_eq_true,List.mem_cons,forall_eq_or_imp,h,false_or,and_assoc]
theorem qrh {d:Nat} (h:d<10):q1e (UInt8.ofNat (48+d))=true:=by
 unfold q1e
 have:(UInt8.ofNat (48+d)).toNat=48+d:=by rw [UInt8.toNat_ofNat'];omega
 rw [this];simp;omega
theorem qsh (n:Nat):(Lib.decDigits n).all q1e=true∧Lib.decDigits n ≠ []:=by
 induction n using Nat.strongRecOn with
 | _ n ih =>
  rw [Lib.decDigits]
  split
  ·rename_i h;exact ⟨by rw [List.all_cons,qrh h];rfl,by simp⟩
  ·rename_i h
   have:=ih (n / 10) (by omega)
   exact ⟨by rw [List.all_append,this.1,List.all_cons,qrh (show n % 10<10 by omega)];rfl,by simp⟩
theorem qhc : ∀ (k n:Nat),n<10 ^ (k+1)→(Lib.decDigits n).length≤k+1
 | 0,n,h=>by rw [Lib.decDigits,dif_pos (by omega)];simp
 | k+1,n,h=>by
  rw [Lib.decDigits]
  split
  ·simp
  ·have:=qhc k (n / 10) (by rw [Nat.pow_succ] at h;omega)
   simp;omega
theorem j9z : ∀ (l r:Yy) (a:Nat) (u:Nat),Lib.parseUint10 a l = .ok u→Lib.parseUint10 a (l++r)=Lib.parseUint10 u r
 | [],r,a,u,h=>by simp only [Lib.parseUint10] at h;injection h with h;subst h;rfl
 | c::l,r,a,u,h=>by
  rw [List.cons_append]
  conv=>lhs;unfold Lib.parseUint10
  unfold Lib.parseUint10 at h
  split at h
  ·rename_i h1
   rw [if_pos h1]
   split at h
   ·cases h
   ·rename_i h2
    rw [if_neg h2]
    split at h
    ·cases h
    ·rename_i h3
     rw [if_neg h3]
     exact j9z l r _ u h
  ·cases h
theorem jqp (n:Nat) (h:n<1000000000000000000):Lib.parseUint10 0 (Lib.decDigits n) = .ok n:=by
 induction n using Nat.strongRecOn with
 | _ n ih =>
  have t1 : ∀ d,d<10→(UInt8.ofNat (48+d)).toNat=48+d:=fun d hd=>by rw [UInt8.toNat_ofNat'];omega
  rw [Lib.decDigits]
  split
  ·rename_i h1
   unfold Lib.parseUint10 Lib.parseUint10
   rw [t1 n h1,if_pos (by omega),if_neg (by omega),if_neg (by omega)]
   congr 1;omega
  ·rename_i h1
   have h2:=ih (n / 10) (by omega) (by omega)
   rw [j9z _ _ _ _ h2]
   unfold Lib.parseUint10 Lib.parseUint10
   rw [t1 _ (show n % 10<10 by omega),if_pos (by omega),if_neg (by omega),if_neg (by omega)]
   congr 1;omega
theorem q1j {n:Int} (h:0≤n):Lib.itoa n=Lib.decDigits n.toNat:=by unfold Lib.itoa;rw [if_neg (by omega)]
theorem qic {n:Int} (h0:0≤n) (h1:n≤999999999):Lib.atoiAll (Lib.itoa n) = .ok n:=by
 rw [q1j h0]
 have hd:=qsh n.toNat
 have hp:=jqp n.toNat (by omega)
 generalize Lib.decDigits n.toNat=l at hd hp
 cases l with
 | nil=>exact absurd rfl hd.2
 | cons c r =>
  have hc:q1e c=true:=by have:=hd.1;simp at this;exact this.1
  unfold q1e at hc
  simp at hc
  unfold Lib.atoiAll
  have c43 : ¬ c.toNat=43:=by omega
  have c45 : ¬ c.toNat=45:=by omega
  simp only [c43,or_self,if_false,c45,not_false_eq_true,true_and,false_and]
  unfold Lib.parseMag
  rw [if_neg (by simp),hp]
  simp only
  rw [if_neg (by omega)]
  congr 1;omega
def qcp (a:Int):Yy→Int
 | []=>a
 | c::l=>qcp (10*a+c.toNat - 48) l
theorem j22 : ∀ (l r:Yy) (a:Int),qcp a (l++r)=qcp (qcp a l) r
 | [],r,a=>rfl
 | c::l,r,a=>by rw [List.cons_append,qcp,qcp,j22 l]
theorem jiz (n:Nat):qcp 0 (Lib.decDigits n)=n:=by
 induction n using Nat.strongRecOn with
 | _ n ih =>
  have t1 : ∀ d,d<10→(UInt8.ofNat (48+d)).toNat=48+d:=fun d hd=>by rw [UInt8.toNat_ofNat'];omega
  rw [Lib.decDigits]
  split
  ·rename_i h1
   unfold qcp qcp
   rw [t1 n h1];omega
  ·rename_i h1
   rw [j22,ih (n / 10) (by omega)]
   unfold qcp qcp
   rw [t1 _ (show n % 10<10 by omega)];omega
theorem ql5 : ∀ (l:Yy) (a:Int),0≤a→l.all q1e=true→0≤qcp a l∧qcp a l<(a+1)*10 ^ l.length
 | [],a,h,_=>by simp [qcp];omega
 | c::l,a,h,hd=>by
  simp at hd
  have hc:=hd.1
  unfold q1e at hc
  simp at hc
  have ih:=ql5 l (10*a+c.toNat - 48) (by omega) (by simp;exact hd.2)
  rw [qcp]
  refine ⟨ih.1,Int.lt_of_lt_of_le ih.2 ?_⟩
  have e1:(10:Int) ^ (c::l).length=10*10 ^ l.length:=by rw [List.length_cons,Int.pow_succ];omega
  rw [e1,← Int.mul_assoc]
  have hp:(0:Int)≤10 ^ l.length:=Int.le_of_lt (Int.pow_pos (by decide))
  exact Int.mul_le_mul_of_nonneg_right (by omega) hp
theorem qaf (c:UInt8) : ∀ l:Yy,c ∉ l→Lib.index l [c] = -1
 | [],_=>by simp [Lib.index]
 | b::l,h=>by
  have h1:b≠c:=fun e=>h (by simp [e])
  have ih:=qaf c l (fun e=>h (by simp [e]))
  rw [qqw h1,ih];rfl
theorem index_hit (c:UInt8) : ∀ (l r:Yy),c ∉ l→Lib.index (l++c::r) [c]=((l.length:Nat):Int)
 | [],r,_=>index_self c r
 | b::l,r,h=>by
  have h1:b≠c:=fun e=>h (by simp [e])
  have ih:=index_hit c l r (fun e=>h (by simp [e]))
  rw [List.cons_append,qqw h1,ih]
  have:((((l.length:Nat):Int) == -1)=true)=False:=by simp
  simp only [this,if_false,List.length_cons];omega
def q2s (c:UInt8) (s:Yy):Yy:=if Lib.index s [c] = -1 then s else s.take (Lib.index s [c]).toNat
def q7t (c:UInt8) (s:Yy):Yy:=if Lib.index s [c] = -1 then [] else s.drop ((Lib.index s [c]).toNat+1)
theorem jlf (c:UInt8) (x t:Yy) (h:c ∉ x):q2s c (x++q64 c t)=x∧q7t c (x++q64 c t)=t:=by
 unfold q64 q2s q7t
 split
 ·rename_i e;subst e
  rw [List.append_nil,qaf c x h];exact ⟨rfl,rfl⟩
 ·rw [index_hit c x t h]
  have n1 : ¬ ((x.length:Nat):Int) = -1:=by omega
  simp only [n1,if_false,Int.toNat_natCast]
  simp
theorem j2n (c:UInt8) (x t:Yy) (h:c ∉ x):q2s c (x++c::t)=x∧q7t c (x++c::t)=t:=by
 unfold q2s q7t
 rw [index_hit c x t h]
 have n1 : ¬ ((x.length:Nat):Int) = -1:=by omega
 simp only [n1,if_false,Int.toNat_natCast]
 simp
theorem qpw (c:UInt8) (x t:Yy) (h:c ∉ x):spl c [] (x++c::t)=x::spl c [] t:=by
 rw [qjm c x [] _ h,List.nil_append,spl,if_pos rfl]
theorem qdr (c:UInt8) (x:Yy) (h:c ∉ x):spl c [] x = [x]:=by
 have:=qjm c x [] [] h
 simpa [spl] using this
theorem jhl {p:Yy→Bool} (hp : ∀ w,p w=true→w.all qqm=true) {s:Yy} (h:q69 p s=true) : ∀ b∈s,b=46∨qqm b=true:=by
 unfold q69 at h
 simp only [Bool.or_eq_true,Bool.and_eq_true,decide_eq_true_eq] at h
 rcases h with rfl|⟨_,h⟩
 ·intro b hb;cases hb
 ·exact ((j55 46 qqm s []).1 (List.all_eq_true.2 fun w hw=>hp w (List.all_eq_true.1 h w hw))).2
theorem j0r (w:Yy) (h:q2l w=true):w.all qqm=true:=by unfold q2l at h;simp only [Bool.and_eq_true] at h;exact h.1
theorem jbn (w:Yy) (h:q4v w=true):w.all qqm=true:=by unfold q4v at h;simp only [Bool.and_eq_true] at h;exact j0r w h.1
theorem j29 {c:UInt8} (hc:q1e c=false) (n:Nat):c ∉ Lib.decDigits n:=fun h=>by
 have:=List.all_eq_true.1 (qsh n).1 c h
 rw [hc] at this;cases this
theorem sg43:qqm 43=false:=by decide
theorem q1k {v:VD} (h:q1b v=true):(0≤v.1∧v.1≤999999999)∧(0≤v.2.1∧v.2.1≤999999999)∧(0≤v.2.2.1∧v.2.2.1≤999999999)∧q69 q4v v.2.2.2.1=true∧q69 q2l v.2.2.2.2=true:=by
 unfold q1b jjn at h
 simp only [Bool.and_eq_true,decide_eq_true_eq] at h
 exact ⟨h.1.1.1.1,h.1.1.1.2,h.1.1.2,h.1.2,h.2⟩
theorem q5b {p:Yy→Bool} {s:Yy} (h:q69 p s=true):s.length≤30:=by
 unfold q69 at h
 simp only [Bool.or_eq_true,Bool.and_eq_true,decide_eq_true_eq] at h
 rcases h with rfl|h
 ·simp
 ·exact h.1
def qk7 (s:Yy):Int:=match Lib.atoiAll s with
 | .ok v=>v
 | _=>-1
def q1y (s:Yy):Yy:=if s.head? = some 118 then s.drop 1 else s
def jmz (s:Yy):VD:=(qk7 (q2s 46 (q1y (q2s 45 (q2s 43 s)))),(qk7 (q2s 46 (q7t 46 (q1y (q2s 45 (q2s 43 s))))),(qk7 (q7t 46 (q7t 46 (q1y (q2s 45 (q2s 43 s))))),(q7t 45 (q2s 43 s),q7t 43 s))))
def qg9 (s:Yy):Int:=if q2q s&&decide (s.length≤9) then qcp 0 s else -1
def k45 (r:Yy):Option VD:=match spl 46 [] (q2s 45 (q2s 43 r)) with
 | [a,b,c]=>some (qg9 a,(qg9 b,(qg9 c,(q7t 45 (q2s 43 r),q7t 43 r))))
 | _=>none
theorem juh {v:VD} (h:q1b v=true) : ∀ pf:Yy,43 ∉ pf→45 ∉ pf →
  q2s 43 (pf++(Lib.itoa v.1++46::(Lib.itoa v.2.1++46::(Lib.itoa v.2.2.1++(q64 45 v.2.2.2.1++q64 43 v.2.2.2.2)))))=pf++(Lib.itoa v.1++46::(Lib.itoa v.2.1++46::(Lib.itoa v.2.2.1++q64 45 v.2.2.2.1))) ∧
  q7t 43 (pf++(Lib.itoa v.1++46::(Lib.itoa v.2.1++46::(Lib.itoa v.2.2.1++(q64 45 v.2.2.2.1++q64 43 v.2.2.2.2)))))=v.2.2.2.2 ∧
  q2s 45 (pf++(Lib.itoa v.1++46::(Lib.itoa v.2.1++46::(Lib.itoa v.2.2.1++q64 45 v.2.2.2.1))))=pf++(Lib.itoa v.1++46::(Lib.itoa v.2.1++46::Lib.itoa v.2.2.1)) ∧
  q7t 45 (pf++(Lib.itoa v.1++46::(Lib.itoa v.2.1++46::(Lib.itoa v.2.2.1++q64 45 v.2.2.2.1))))=v.2.2.2.1:=by
 intro pf p1 p2
 obtain ⟨h1,h2,h3,h4,h5⟩:=q1k h
 have d43:q1e 43=false:=by decide
 have d45:q1e 45=false:=by decide
 have t43:(43:UInt8) ∉ q64 45 v.2.2.2.1:=by
  unfold q64
  split
  ·simp
  ·intro hm
   rcases List.mem_cons.1 hm with hm|hm
   ·cases hm
   ·rcases jhl jbn h4 _ hm with hm|hm
    ·cases hm
    ·rw [sg43] at hm;cases hm
 rw [q1j h1.1,q1j h2.1,q1j h3.1]
 have m43:=fun n=>j29 d43 n
 have m45:=fun n=>j29 d45 n
 have a1:=jlf 43 (pf++(Lib.decDigits v.1.toNat++46::(Lib.decDigits v.2.1.toNat++46::(Lib.decDigits v.2.2.1.toNat++q64 45 v.2.2.2.1)))) v.2.2.2.2 (by simp [m43,t43,p1])
 have a2:=jlf 45 (pf++(Lib.decDigits v.1.toNat++46::(Lib.decDigits v.2.1.toNat++46::Lib.decDigits v.2.2.1.toNat))) v.2.2.2.1 (by simp [m45,p2])
 simp only [List.append_assoc,List.cons_append] at a1 a2
 exact ⟨a1.1,a1.2,a2.1,a2.2⟩
theorem jtm {v:VD} (h:q1b v=true):jmz (jpd v)=v:=by
 obtain ⟨h1,h2,h3,h4,h5⟩:=q1k h
 have d46:q1e 46=false:=by decide
 have m46:=fun n=>j29 d46 n
 have e0:jpd v = [118]++(Lib.itoa v.1++46::(Lib.itoa v.2.1++46::(Lib.itoa v.2.2.1++(q64 45 v.2.2.2.1++q64 43 v.2.2.2.2)))):=rfl
 obtain ⟨k1,k2,k3,k4⟩:=juh h [118] (by decide) (by decide)
 unfold jmz
 rw [e0,k1,k2,k3,k4]
 have e1:q1y ([118]++(Lib.itoa v.1++46::(Lib.itoa v.2.1++46::Lib.itoa v.2.2.1)))=Lib.itoa v.1++46::(Lib.itoa v.2.1++46::Lib.itoa v.2.2.1):=rfl
 rw [e1]
 have c1:=j2n 46 (Lib.itoa v.1) (Lib.itoa v.2.1++46::Lib.itoa v.2.2.1) (by rw [q1j h1.1];exact m46 _)
 have c2:=j2n 46 (Lib.itoa v.2.1) (Lib.itoa v.2.2.1) (by rw [q1j h2.1];exact m46 _)
 rw [c1.1,c1.2,c2.1,c2.2]
 unfold qk7
 rw [qic h1.1 h1.2,qic h2.1 h2.2,qic h3.1 h3.2]
theorem qu4 {n:Int} (h0:0≤n) (h1:n≤999999999):qg9 (Lib.itoa n)=n:=by
 rw [q1j h0]
 have hd:=qsh n.toNat
 have hl:=qhc 8 n.toNat (by omega)
 unfold qg9 q2q
 rw [if_pos (by simp [hd.1,hd.2,hl]),jiz];omega
theorem jrd {v:VD} (h:q1b v=true):k45 ((jpd v).drop 1)=some v:=by
 obtain ⟨h1,h2,h3,h4,h5⟩:=q1k h
 have d46:q1e 46=false:=by decide
 have m46:=fun n=>j29 d46 n
 obtain ⟨k1,k2,k3,k4⟩:=juh h [] (by simp) (by simp)
 simp only [List.nil_append] at k1 k2 k3 k4
 have e0:(jpd v).drop 1=Lib.itoa v.1++46::(Lib.itoa v.2.1++46::(Lib.itoa v.2.2.1++(q64 45 v.2.2.2.1++q64 43 v.2.2.2.2))):=rfl
 unfold k45
 rw [e0,k1,k2,k3,k4]
 rw [qpw 46 (Lib.itoa v.1) _ (by rw [q1j h1.1];exact m46 _),qpw 46 (Lib.itoa v.2.1) _ (by rw [q1j h2.1];exact m46 _),qdr 46 (Lib.itoa v.2.2.1) (by rw [q1j h3.1];exact m46 _)]
 simp only [qu4 h1.1 h1.2,qu4 h2.1 h2.2,qu4 h3.1 h3.2]
theorem jx8 {v:VD} (h:q1b v=true):(jpd v).length≤92:=by
 obtain ⟨h1,h2,h3,h4,h5⟩:=q1k h
 have l1:=qhc 8 v.1.toNat (by omega)
 have l2:=qhc 8 v.2.1.toNat (by omega)
 have l3:=qhc 8 v.2.2.1.toNat (by omega)
 have t1:=q5b h4
 have t2:=q5b h5
 have tt : ∀ (c:UInt8) (s:Yy),(q64 c s).length≤s.length+1:=fun c s=>by unfold q64;split<;>simp
 have u1:=tt 45 v.2.2.2.1
 have u2:=tt 43 v.2.2.2.2
 unfold jpd
 rw [q1j h1.1,q1j h2.1,q1j h3.1]
 simp only [List.length_cons,List.length_append]
 omega
def q0e (s:Yy):VD×Bool:=if q1b (jmz s)&&decide (q1g (jmz s)=s) then (jmz s,true) else (v0,false)
theorem k06 {s:Yy} {v:VD} (h:q1b v=true) (ht:q1g v=s):q0e s=(v,true):=by
 have e1:s=jpd v:=by rw [← ht];unfold q1g;rw [if_pos h]
 subst e1
 unfold q0e
 rw [jtm h,if_pos (by simp [h,ht])]
theorem qn6 {s:Yy} (h:(q0e s).2=true):q1b (q0e s).1=true∧q1g (q0e s).1=s:=by
 unfold q0e at *
 split at h
 ·rename_i h1
  rw [if_pos h1]
  simp only [Bool.and_eq_true,decide_eq_true_eq] at h1
  exact h1
 ·cases h
theorem j0k {s:Yy} (h : ∀ v,q1b v=true→q1g v≠s):q0e s=(v0,false):=by
 unfold q0e
 rw [if_neg]
 simp only [Bool.and_eq_true,decide_eq_true_eq]
 exact fun h1=>h _ h1.1 h1.2
end Go.Proofs.YtapfankgdkdkgaaGreatDoor.AM
namespace Go.Proofs
open Go.RowKit Go.Shelf Go.Lib
shelf_lay LaysM.n171 Nm 171 at Tryz as Tryz.laysItoa
shelf_lay LaysC.n172 Nm 172 at Tryz as Tryz.laysAtoi
namespace YtapfankgdkdkgaaGreatDoor.AM
structure Inv (w:World):Prop where
 errT:w.cell? ⟨0,0,none⟩=some (.iface 196 (.agg #[.pointer (some ⟨9,82,none⟩)]))
 maxLen : ∃ m,w.cell? ⟨Tryz.laysIndex_ren.g 1,0,none⟩=some (.int .i64 m)
 tab:Lib.TabIs Tryz.prog w "internal/strconv.uint64pow10" .u64 Lib.pow10Tab
 syn : ∃ tp p,w.cell? ⟨Tryz.laysAtoi_ren.g 15,0,none⟩=some (.iface tp p)
 rng : ∃ tp p,w.cell? ⟨Tryz.laysAtoi_ren.g 16,0,none⟩=some (.iface tp p)
theorem gTab:(Tryz.prog.globalNamed "internal/strconv.uint64pow10").isSome=true:=by kernel_rfl
theorem Inv.below {w w':World} (h:Inv w) (hb:Below w.heap.size w w'):Inv w':=by
 obtain ⟨he,⟨m,hm⟩,ht,⟨t1,p1,h1⟩,⟨t2,p2,h2⟩⟩:=h
 refine ⟨(hb.cell (p:=⟨_,0,none⟩) (World.block_lt_of_cell? _ _ he)).trans he,⟨m,(hb.cell (p:=⟨_,0,none⟩) (World.block_lt_of_cell? _ _ hm)).trans hm⟩,?_,⟨t1,p1,(hb.cell (p:=⟨_,0,none⟩) (World.block_lt_of_cell? _ _ h1)).trans h1⟩,⟨t2,p2,(hb.cell (p:=⟨_,0,none⟩) (World.block_lt_of_cell? _ _ h2)).trans h2⟩⟩
 obtain ⟨g,hg⟩:=Option.isSome_iff_exists.1 gTab
 refine var?_below hb hg ?_ ht
 have hv:w.var? Tryz.prog "internal/strconv.uint64pow10" = some _:=ht
 unfold World.var? at hv
 rw [hg] at hv
 simp only [Option.bind_some] at hv
 split at hv
 ·rename_i h5;exact (Array.getElem?_eq_some_iff.1 h5).1
 ·cases hv
theorem qba:Know Inv Inv:=⟨fun w w' h hb=>h.below hb,fun _ h=>h⟩
variable {P:Program}
theorem q58 {Pc:Nat→Nat→Prop} {w w':World} {v:Value} {d:D} {e:Ending} (he:e = .returned v) (hb:Below w.heap.size w w') (hv:q2a (q6u Pc) qq0 w' v d) :
  ∃ v' Pc',e = .returned v'∧Below w.heap.size w w'∧(∀ b o,Pc b o→Pc' b o)∧(∀ b o,Pc' b o→Pc b o∨(w.heap.size≤b∧b<w'.heap.size))∧q2a (q6u Pc') qq0 w' v' d :=
 ⟨v,Pc,he,hb,fun _ _ h=>h,fun _ _ h=>Or.inl h,hv⟩
abbrev qyy:SD:=.one (.c (.d .str))
abbrev intA:SD:=.one (.c (.d (.int .i64)))
abbrev jya:SD:=.one (.c (.d .bool))
def qs1 (s sep:List UInt8):Option Int:=match sep with
 | [c]=>if s.length<4294967281 then some (Lib.index s [c]) else none
 | _=>none
def jjz:FC:={ f:=111,args:=[qyy,qyy],res:=intA,F:=fun p=>qs1 p.1 p.2 }
theorem jzo:q09 Inv Tryz.prog jjz:=fun G hG=>⟨⟨by kernel_rfl,fun a r h=>by
 obtain ⟨s,sep⟩:=a
 have h':qs1 s sep=some r:=h
 unfold qs1 at h'
 split at h'
 case h_2=>cases h'
 rename_i c
 split at h'
 case isFalse=>cases h'
 rename_i hc
 have hr:Lib.index s [c]=r:=Option.some.inj h'
 intro Pc w vs hg hlt hv
 obtain ⟨m,hm⟩:=(hG.im w hg).maxLen
 obtain ⟨l⟩:=vs
 match l,hv with
 | [x,y],⟨h1,h2,_⟩ =>
  obtain rfl:x = .string (ba s):=q0d h1
  obtain rfl:y = .string (ba [c]):=q0d h2
  have e1:(ba s).data.toList=s:=by simp [ba]
  have e2:(ba [c]).data.toList = [c]:=by simp [ba]
  have hh:=Any.stringslite_Index { Tryz.laysIndex with } (ba s) (ba [c]) m w (by rw [q3m];exact hc) hm
  rw [e1,e2,hr] at hh
  refine hh.mono ?_
  rintro e w' ⟨rfl,rfl⟩
  exact q58 rfl (Below.refl _ _) (q08 _)⟩,rfl⟩
def qxs (n:Int):Option (List UInt8):=if -9223372036854775808≤n∧n≤9223372036854775807 then some (Lib.itoa n) else none
def jug:FC:={ f:=76,args:=[intA],res:=qyy,F:=fun p=>qxs p }
theorem k3w:q09 Inv Tryz.prog jug:=fun G hG=>⟨⟨by kernel_rfl,fun (n:Int) r h=>by
 have h':qxs n=some r:=h
 unfold qxs at h'
 split at h'
 case isFalse=>cases h'
 rename_i hc
 have hr:Lib.itoa n=r:=Option.some.inj h'
 intro Pc w vs hg hlt hv
 obtain ⟨l⟩:=vs
 match l,hv with
 | [x],⟨h1,_⟩ =>
  obtain rfl:x = .int .i64 n:=q0d h1
  refine (Any.strconv_Itoa Tryz.laysItoa n hc.1 hc.2 w (hG.im w hg).tab).mono ?_
  rintro e w' ⟨rfl,k,os,rfl⟩
  subst hr
  exact q58 rfl (Lib.below_grow _ w (Nat.le_refl _) k os) (q08 (.string (ba (Lib.itoa n))))⟩,rfl⟩
end YtapfankgdkdkgaaGreatDoor.AM
end Go.Proofs
namespace Go.Proofs
open Go.RowKit Go.Shelf Go.Lib
shelf_lay LaysM.n146 Nm 146 at Tryz as Tryz.laysSplit
shelf_lay Lays.n106 Nm 106 at Tryz as Tryz.laysCompare
namespace YtapfankgdkdkgaaGreatDoor.AM
variable {P:Program}
def qzc:FC:={ f:=211,args:=[qyy,qyy],res:=intA,F:=fun p=>some (Lib.compareBytes p.1 p.2) }
def qih (a b:List UInt8):Option Int:=some (Lib.compareBytes a b)
theorem jlu:q09 Inv Tryz.prog qzc:=fun G hG=>⟨⟨by kernel_rfl,fun a r h=>by
 obtain ⟨s,t⟩:=a
 have hr:Lib.compareBytes s t=r:=Option.some.inj h
 intro Pc w vs hg hlt hv
 obtain ⟨l⟩:=vs
 match l,hv with
 | [x,y],⟨h1,h2,_⟩ =>
  obtain rfl:x = .string (ba s):=q0d h1
  obtain rfl:y = .string (ba t):=q0d h2
  have e1:(ba s).data.toList=s:=by simp [ba]
  have e2:(ba t).data.toList=t:=by simp [ba]
  have hh:=Any.strings_Compare Tryz.laysCompare (ba s) (ba t) w
  rw [e1,e2,hr] at hh
  refine hh.mono ?_
  rintro e w' ⟨rfl,rfl⟩
  exact q58 rfl (Below.refl _ _) (q08 _)⟩,rfl⟩
theorem jaz (s:List UInt8) (w:World) (hI:Inv w) (hlim:s.length≤281474976710656):Calls Tryz.prog 156 #[.string (ba s)] w fun e w'=>e = .returned (.int .i64 (qk7 s))∧Below w.heap.size w w':=by
 have e1:(ba s).data.toList=s:=by simp [ba]
 have hl:(ba s).size≤281474976710656:=by rw [q3m];exact hlim
 obtain ⟨ts,ps,hs⟩:=hI.syn
 obtain ⟨tr,pr,hr⟩:=hI.rng
 go_enter Tryz.func156,Tryz.ntmps156
 unfold qk7
 cases h:Lib.atoiAll s with
 | ok v =>
  go_wp2_with (go_at_call 167;refine (Any.strconv_Atoi_ok Tryz.laysAtoi (ba s) (by omega) v (by rw [e1];exact h) w).mono ?_)
  rintro e w' ⟨rfl,hw⟩
  go_wp2
  go_ret
  refine ⟨rfl,?_⟩
  rcases hw with rfl|⟨t,rfl⟩
  ·exact Below.refl _ _
  ·exact Lib.bytesWorld_below _ _ _
 | «syntax» =>
  go_wp2_with (go_at_call 167;refine (Any.strconv_Atoi_syntax Tryz.laysAtoi (ba s) hl (by rw [e1];exact h) _ w hs (Or.inr ⟨_,_,rfl⟩)).mono ?_)
  rintro e w' ⟨N,rfl,hN,hc,hb⟩
  go_wp2
  go_ret
  exact ⟨rfl,hb⟩
 | range =>
  go_wp2_with (go_at_call 167;refine (Any.strconv_Atoi_range Tryz.laysAtoi (ba s) hl (by rw [e1];exact h) _ w hr (Or.inr ⟨_,_,rfl⟩)).mono ?_)
  rintro e w' ⟨N,rfl,hN,hc,hb⟩
  go_wp2
  go_ret
  exact ⟨rfl,hb⟩
def q6n (s:List UInt8):Option Int:=if s.length≤281474976710656 then some (qk7 s) else none
def jce:FC:={ f:=156,args:=[qyy],res:=intA,F:=fun p=>q6n p }
theorem jwc:q09 Inv Tryz.prog jce:=fun G hG=>⟨⟨by kernel_rfl,fun (s:List UInt8) r h=>by
 have h':q6n s=some r:=h
 unfold q6n at h'
 split at h'
 case isFalse=>cases h'
 rename_i hc
 have hr:qk7 s=r:=Option.some.inj h'
 intro Pc w vs hg hlt hv
 obtain ⟨l⟩:=vs
 match l,hv with
 | [x],⟨h1,_⟩ =>
  obtain rfl:x = .string (ba s):=q0d h1
  refine (jaz s w (hG.im w hg) hc).mono ?_
  rintro e w' ⟨rfl,hb⟩
  subst hr
  exact q58 rfl hb (q08 _)⟩,rfl⟩
theorem k7y:Tryz.laysSplit_ren.g 1=Tryz.laysIndex_ren.g 1:=by kernel_rfl
def qak (s sep:List UInt8):Option (List (List UInt8)):=match sep with
 | [c]=>if s.length<4294967281 then some (spl c [] s) else none
 | _=>none
def j33:FC:={ f:=93,args:=[qyy,qyy],res:=.one (.c (.d (.lst .str))),F:=fun p=>qak p.1 p.2 }
theorem jlc:q09 Inv Tryz.prog j33:=fun G hG=>⟨⟨by kernel_rfl,fun a r h=>by
 obtain ⟨s,sep⟩:=a
 have h':qak s sep=some r:=h
 unfold qak at h'
 split at h'
 case h_2=>cases h'
 rename_i c
 split at h'
 case isFalse=>cases h'
 rename_i hc
 have hr:(Lib.splitB (ba [c]) 0 (Lib.countB (ba s) (ba [c])) (ba s)).map unB=r:=(jmi c s).trans (Option.some.inj h')
 intro Pc w vs hg hlt hv
 obtain ⟨m,hm⟩:=(hG.im w hg).maxLen
 obtain ⟨l⟩:=vs
 match l,hv with
 | [x,y],⟨h1,h2,_⟩ =>
  obtain rfl:x = .string (ba s):=q0d h1
  obtain rfl:y = .string (ba [c]):=q0d h2
  have b1:1≤(ba [c]).size:=by rw [q3m];exact Nat.le_refl _
  have hlen:(Lib.splitB (ba [c]) 0 (Lib.countB (ba s) (ba [c])) (ba s)).length=Lib.countB (ba s) (ba [c])+1:=Lib.splitB_all (ba [c]) b1 0 _ (ba s) rfl
  refine (Any.strings_Split { Tryz.laysSplit with } Tryz.laysSplit.i9 (ba s) (ba [c]) m w (by rw [q3m];exact hc) (by rw [k7y];exact hm) b1).mono ?_
  rintro e w' ⟨rfl,rfl⟩
  generalize hL:Lib.splitB (ba [c]) 0 (Lib.countB (ba s) (ba [c])) (ba s)=L at hlen hr
  refine ⟨_,fun b o=>Pc b o∨b=w.heap.size,rfl,(Below.refl _ _).alloc (Nat.le_refl _) _,fun b o hp=>Or.inl hp,?_,?_⟩
  ·rintro b o (hp|rfl)
   ·exact Or.inl hp
   ·exact Or.inr ⟨Nat.le_refl _,by simp⟩
  ·show DatRep _ _ _ (.lst 1 (r.map (q05 .str)))
   have hr2:r.map (q05 .str)=L.map fun x=>[Dat.v (.string x)]:=by
    rw [← hr,List.map_map]
    exact List.map_congr_left fun x _=>by show [Dat.v (.string (ba (unB x)))]=_;rw [jwv]
   rw [hr2,← hlen]
   have hmax:L.length≤maxLen:=by
    have:=Lib.countB_le (ba [c]) b1 (ba s).size (ba s) (Nat.le_refl _)
    rw [q3m] at this
    have hM:maxLen=9223372036854775807:=by decide
    omega
   refine .lst _ _ _ 1 _ w.heap.size 0 (fun k j=>.string (L.getD k ⟨#[]⟩)) (by simp) (Nat.le_refl _) hmax (fun x hx=>?_) (fun _=>rfl) (fun k j hk hj=>⟨Or.inr rfl,?_,rfl⟩) (fun k j hk hj=>?_)
   ·obtain ⟨y,_,rfl⟩:=List.mem_map.1 hx;rfl
   ·have hk':k<L.length:=by simpa using hk
    have hj0:j=0:=by omega
    subst hj0
    rw [World.cell?_alloc_new]
    simp [List.getD,hk']
   ·have hk':k<L.length:=by simpa using hk
    have hj0:j=0:=by simp at hj;exact hj
    subst hj0
    simp [List.getD,hk']
    exact .v _⟩,rfl⟩
end YtapfankgdkdkgaaGreatDoor.AM
end Go.Proofs
namespace Go.Proofs.YtapfankgdkdkgaaGreatDoor.AM
open Go.RowKit
set_option maxRecDepth 20000
def qtl (n:Nat):List LC:=[]
def q5s (n:Nat) (a1:Int):Option (Bool) :=
 (bif decide (48≤a1) then some (decide (a1≤57)) else some false)
def q6z (n:Nat):FC:={ f:=169,args:=[.one (.c (.d (.int .u8)))],res:=.one (.c (.d .bool)),F:=fun p=>q5s n p }
def j1q (n:Nat):List FC:=[]
theorem jb5 (n:Nat) {G:World→Prop} (hG:Know Inv G) : ∀ c∈j1q n,q0p Tryz.prog G c∧q07 c.args=true:=(fun _ h=>by cases h)
def j1g:q06:=[]
theorem jm1:drB j1g (q00 Tryz.f169)=true:=by kernel_rfl
theorem jno (n:Nat) : ∀ a,(q6z n).F a=main Tryz.prog 9 (j1q n) (qtl n) j1g (q00 Tryz.f169) [.tmp 2] (q6z n).args (q6z n).res a:=by intro a;kernel_rfl
theorem j16 (n:Nat):q09 Inv Tryz.prog (q6z n):=fun G hG=>⟨⟨by kernel_rfl,fun a r h=>q03 (c:=q00 Tryz.f169) Tryz.func169 (by kernel_rfl) (by kernel_rfl) (Nat.le_of_ble_eq_true (by kernel_rfl)) hG.st (by kernel_rfl) (rs:=[.tmp 2]) (by kernel_rfl) (jb5 n hG) (lts:=qtl n) (fun F hF hFG=>have hK:Know Inv F.G:=hFG ▸ hG;(q02 fun j L h1 h2 h3=>absurd h2 (Nat.not_lt.2 (Nat.le_trans (by decide +kernel) h1)))) jm1 ((jno n a).symm.trans h)⟩,rfl⟩
def j0l (n:Nat):List LC:=[]
def qql (n:Nat) (a1:Int):Option (Bool) :=
 (bif decide (97≤a1) then (bif decide (a1≤122) then some true else (bif decide (65≤a1) then (bif decide (a1≤90) then some true else (q5s n a1).bind fun r1=>(bif r1 then some true else some (decide (a1=45)))) else (q5s n a1).bind fun r2=>(bif r2 then some true else some (decide (a1=45))))) else (bif decide (65≤a1) then (bif decide (a1≤90) then some true else (q5s n a1).bind fun r3=>(bif r3 then some true else some (decide (a1=45)))) else (q5s n a1).bind fun r4=>(bif r4 then some true else some (decide (a1=45)))))
def qej (n:Nat):FC:={ f:=139,args:=[.one (.c (.d (.int .u8)))],res:=.one (.c (.d .bool)),F:=fun p=>qql n p }
def j7d (n:Nat):List FC:=[q6z n]
theorem jfr (n:Nat) {G:World→Prop} (hG:Know Inv G) : ∀ c∈j7d n,q0p Tryz.prog G c∧q07 c.args=true:=List.forall_mem_cons.2 ⟨j16 n G hG,(fun _ h=>by cases h)⟩
def jb9:q06:=[]
theorem ju4:drB jb9 (q00 Tryz.f139)=true:=by kernel_rfl
theorem jwq (n:Nat) : ∀ a,(qej n).F a=main Tryz.prog 25 (j7d n) (j0l n) jb9 (q00 Tryz.f139) [.tmp 2] (qej n).args (qej n).res a:=by intro a;kernel_rfl
theorem jqz (n:Nat):q09 Inv Tryz.prog (qej n):=fun G hG=>⟨⟨by kernel_rfl,fun a r h=>q03 (c:=q00 Tryz.f139) Tryz.func139 (by kernel_rfl) (by kernel_rfl) (Nat.le_of_ble_eq_true (by kernel_rfl)) hG.st (by kernel_rfl) (rs:=[.tmp 2]) (by kernel_rfl) (jfr n hG) (lts:=j0l n) (fun F hF hFG=>have hK:Know Inv F.G:=hFG ▸ hG;(q02 fun j L h1 h2 h3=>absurd h2 (Nat.not_lt.2 (Nat.le_trans (by decide +kernel) h1)))) ju4 ((jwq n a).symm.trans h)⟩,rfl⟩
@[reducible] def qfv:SSt:=⟨[(0,.one (.c (.d .str))),(1,.one (.c (.fn 139 []))),(7,.one (.c (.d (.int .i64)))),(8,.one (.c (.d (.int .i64))))],[],[]⟩
@[reducible] def q8o:List (Exit×SSt):=[(.ret,⟨[(4,.one (.c (.d .bool)))],[],[]⟩),(.exit 0,⟨[(0,.one (.c (.d .str)))],[],[]⟩)]
def qt8 (n:Nat) (rec:(Yy)→Int→Int→Option (((Bool×Unit)×Unit×Unit)⊕((Yy×Unit)×Unit×Unit))) (a1:Yy) (a2:Int) (a3:Int):Option (((Bool×Unit)×Unit×Unit)⊕((Yy×Unit)×Unit×Unit)) :=
 (bif decide (a3<a2) then (sAt a1 a3).bind fun c1=>(qql n c1).bind fun r2=>(bif !r2 then some (Sum.inl ((false,()),((),()))) else q04 (IntKind.wrap .i64 (a3+1)) fun n3=>rec a1 a2 n3) else some (Sum.inr (((a1,()),((),())))))
def qsp (n:Nat) (rec:pSt qfv→Option (q0f q8o)) (p:pSt qfv):Option (q0f q8o):=qt8 n (fun a1 a2 a3=>rec ((a1,((),(a2,(a3,())))),((),()))) p.1.1 p.1.2.2.1 p.1.2.2.2.1
def q7w (n m:Nat) (a1:Yy) (a2:Int) (a3:Int):Option (((Bool×Unit)×Unit×Unit)⊕((Yy×Unit)×Unit×Unit)):=q0g (qsp n) m ((a1,((),(a2,(a3,())))),((),()))
theorem qmj (n m:Nat) (a1 a2 a3):q7w n (m+1) a1 a2 a3=qt8 n (fun a1 a2 a3=>q7w n m a1 a2 a3) a1 a2 a3:=rfl
def j7g (n:Nat):LC:={ sh:=qfv,outs:=q8o,F:=q0g (qsp n) n }
def qm0 (n:Nat):List LC:=[j7g n]
def qqe (n:Nat) (a1:Yy) (a2:Unit):Option (Bool) :=
 (q7w n n a1 (a1.length:Int) (0:Int)).bind fun o4=>Sum.elim (fun (q5:(Bool×Unit)×Unit×Unit)=>some q5.1.1) (fun (q6:(Yy×Unit)×Unit×Unit)=>some (!decide (q6.1.1=([]:Yy)))) o4
def qd2 (n:Nat):FC:={ f:=138,args:=[.one (.c (.d .str)),.one (.c (.fn 139 []))],res:=.one (.c (.d .bool)),F:=fun p=>qqe n p.1 p.2 }
def qwb (n:Nat):List FC:=[qej n]
theorem qwq (n:Nat) {G:World→Prop} (hG:Know Inv G) : ∀ c∈qwb n,q0p Tryz.prog G c∧q07 c.args=true:=List.forall_mem_cons.2 ⟨jqz n G hG,(fun _ h=>by cases h)⟩
def qr5:q06:=[]
theorem j7q:drB qr5 (q00 Tryz.f138)=true:=by kernel_rfl
theorem jls (n:Nat) : ∀ rec p,qsp n rec p=round Tryz.prog 20 (qwb n) (qm0 n) qr5 1 qfv q8o (q01 0 0 (q00 Tryz.f138)) rec p:=by intro rec p;kernel_rfl
theorem jew (n:Nat) {F:Fr} (hF:F.n=20) (hK:Know Inv F.G):q75 Tryz.prog F (j7g n) (q01 0 0 (q00 Tryz.f138)) :=
 q0i hF (by kernel_rfl) (qwq n hK) (jls n) (fuel:=n) (fun _=>rfl) (q02 fun j L h1 h2 h3=>absurd h2 (Nat.not_lt.2 (Nat.le_trans (by decide +kernel) h1))) (q0t j7q)
theorem jtr (n:Nat) : ∀ a,(qd2 n).F a=main Tryz.prog 20 (qwb n) (qm0 n) qr5 (q00 Tryz.f138) [.tmp 4] (qd2 n).args (qd2 n).res a:=by intro a;kernel_rfl
theorem jwt (n:Nat):q09 Inv Tryz.prog (qd2 n):=fun G hG=>⟨⟨by kernel_rfl,fun a r h=>q03 (c:=q00 Tryz.f138) Tryz.func138 (by kernel_rfl) (by kernel_rfl) (Nat.le_of_ble_eq_true (by kernel_rfl)) hG.st (by kernel_rfl) (rs:=[.tmp 4]) (by kernel_rfl) (qwq n hG) (lts:=qm0 n) (fun F hF hFG=>have hK:Know Inv F.G:=hFG ▸ hG;(q02 (c:=(q00 Tryz.f138)) (fun j L h1 h2 h3=>by
  have h2':j<1:=Nat.lt_of_lt_of_le h2 (by decide +kernel)
  match j,h1,h2',h3 with
  | 0,_,_,h3=>obtain rfl:=Option.some.inj h3;exact (show q01 0 0 (q00 Tryz.f138)=q01 0 0 (q00 Tryz.f138) by kernel_rfl) ▸ jew n hF hK
  | j+1,_,h2',_=>exact absurd h2' (by omega)))) j7q ((jtr n a).symm.trans h)⟩,rfl⟩
@[reducible] def qfo:SSt:=⟨[(0,.one (.c (.d .str))),(1,.one (.c (.fn 169 []))),(7,.one (.c (.d (.int .i64)))),(8,.one (.c (.d (.int .i64))))],[],[]⟩
@[reducible] def q82:List (Exit×SSt):=[(.ret,⟨[(4,.one (.c (.d .bool)))],[],[]⟩),(.exit 0,⟨[(0,.one (.c (.d .str)))],[],[]⟩)]
def qvi (n:Nat) (rec:(Yy)→Int→Int→Option (((Bool×Unit)×Unit×Unit)⊕((Yy×Unit)×Unit×Unit))) (a1:Yy) (a2:Int) (a3:Int):Option (((Bool×Unit)×Unit×Unit)⊕((Yy×Unit)×Unit×Unit)) :=
 (bif decide (a3<a2) then (sAt a1 a3).bind fun c1=>(q5s n c1).bind fun r2=>(bif !r2 then some (Sum.inl ((false,()),((),()))) else q04 (IntKind.wrap .i64 (a3+1)) fun n3=>rec a1 a2 n3) else some (Sum.inr (((a1,()),((),())))))
def qu5 (n:Nat) (rec:pSt qfo→Option (q0f q82)) (p:pSt qfo):Option (q0f q82):=qvi n (fun a1 a2 a3=>rec ((a1,((),(a2,(a3,())))),((),()))) p.1.1 p.1.2.2.1 p.1.2.2.2.1
def q80 (n m:Nat) (a1:Yy) (a2:Int) (a3:Int):Option (((Bool×Unit)×Unit×Unit)⊕((Yy×Unit)×Unit×Unit)):=q0g (qu5 n) m ((a1,((),(a2,(a3,())))),((),()))
theorem qnp (n m:Nat) (a1 a2 a3):q80 n (m+1) a1 a2 a3=qvi n (fun a1 a2 a3=>q80 n m a1 a2 a3) a1 a2 a3:=rfl
def jc9 (n:Nat):LC:={ sh:=qfo,outs:=q82,F:=q0g (qu5 n) n }
def ql7 (n:Nat):List LC:=[jc9 n]
def qq7 (n:Nat) (a1:Yy) (a2:Unit):Option (Bool) :=
 (q80 n n a1 (a1.length:Int) (0:Int)).bind fun o4=>Sum.elim (fun (q5:(Bool×Unit)×Unit×Unit)=>some q5.1.1) (fun (q6:(Yy×Unit)×Unit×Unit)=>some (!decide (q6.1.1=([]:Yy)))) o4
def qdc (n:Nat):FC:={ f:=138,args:=[.one (.c (.d .str)),.one (.c (.fn 169 []))],res:=.one (.c (.d .bool)),F:=fun p=>qq7 n p.1 p.2 }
def qub (n:Nat):List FC:=[q6z n]
theorem qva (n:Nat) {G:World→Prop} (hG:Know Inv G) : ∀ c∈qub n,q0p Tryz.prog G c∧q07 c.args=true:=List.forall_mem_cons.2 ⟨j16 n G hG,(fun _ h=>by cases h)⟩
def qxb:q06:=[]
theorem j8j:drB qxb (q00 Tryz.f138)=true:=by kernel_rfl
theorem joc (n:Nat) : ∀ rec p,qu5 n rec p=round Tryz.prog 20 (qub n) (ql7 n) qxb 1 qfo q82 (q01 0 0 (q00 Tryz.f138)) rec p:=by intro rec p;kernel_rfl
theorem jdx (n:Nat) {F:Fr} (hF:F.n=20) (hK:Know Inv F.G):q75 Tryz.prog F (jc9 n) (q01 0 0 (q00 Tryz.f138)) :=
 q0i hF (by kernel_rfl) (qva n hK) (joc n) (fuel:=n) (fun _=>rfl) (q02 fun j L h1 h2 h3=>absurd h2 (Nat.not_lt.2 (Nat.le_trans (by decide +kernel) h1))) (q0t j8j)
theorem jqs (n:Nat) : ∀ a,(qdc n).F a=main Tryz.prog 20 (qub n) (ql7 n) qxb (q00 Tryz.f138) [.tmp 4] (qdc n).args (qdc n).res a:=by intro a;kernel_rfl
theorem jqy (n:Nat):q09 Inv Tryz.prog (qdc n):=fun G hG=>⟨⟨by kernel_rfl,fun a r h=>q03 (c:=q00 Tryz.f138) Tryz.func138 (by kernel_rfl) (by kernel_rfl) (Nat.le_of_ble_eq_true (by kernel_rfl)) hG.st (by kernel_rfl) (rs:=[.tmp 4]) (by kernel_rfl) (qva n hG) (lts:=ql7 n) (fun F hF hFG=>have hK:Know Inv F.G:=hFG ▸ hG;(q02 (c:=(q00 Tryz.f138)) (fun j L h1 h2 h3=>by
  have h2':j<1:=Nat.lt_of_lt_of_le h2 (by decide +kernel)
  match j,h1,h2',h3 with
  | 0,_,_,h3=>obtain rfl:=Option.some.inj h3;exact (show q01 0 0 (q00 Tryz.f138)=q01 0 0 (q00 Tryz.f138) by kernel_rfl) ▸ jdx n hF hK
  | j+1,_,h2',_=>exact absurd h2' (by omega)))) j8j ((jqs n a).symm.trans h)⟩,rfl⟩
def j1o (n:Nat):List LC:=[]
def qq1 (n:Nat) (a1:Yy):Option (Bool) :=
 (qqe n a1 ()).bind fun r1=>some r1
def qda (n:Nat):FC:={ f:=107,args:=[.one (.c (.d .str))],res:=.one (.c (.d .bool)),F:=fun p=>qq1 n p }
def j9t (n:Nat):List FC:=[qd2 n]
theorem jgu (n:Nat) {G:World→Prop} (hG:Know Inv G) : ∀ c∈j9t n,q0p Tryz.prog G c∧q07 c.args=true:=List.forall_mem_cons.2 ⟨jwt n G hG,(fun _ h=>by cases h)⟩
def jbd:q06:=[]
theorem jvp:drB jbd (q00 Tryz.f107)=true:=by kernel_rfl
theorem juj (n:Nat) : ∀ a,(qda n).F a=main Tryz.prog 5 (j9t n) (j1o n) jbd (q00 Tryz.f107) [.tmp 2] (qda n).args (qda n).res a:=by intro a;kernel_rfl
theorem j6u (n:Nat):q09 Inv Tryz.prog (qda n):=fun G hG=>⟨⟨by kernel_rfl,fun a r h=>q03 (c:=q00 Tryz.f107) Tryz.func107 (by kernel_rfl) (by kernel_rfl) (Nat.le_of_ble_eq_true (by kernel_rfl)) hG.st (by kernel_rfl) (rs:=[.tmp 2]) (by kernel_rfl) (jgu n hG) (lts:=j1o n) (fun F hF hFG=>have hK:Know Inv F.G:=hFG ▸ hG;(q02 fun j L h1 h2 h3=>absurd h2 (Nat.not_lt.2 (Nat.le_trans (by decide +kernel) h1)))) jvp ((juj n a).symm.trans h)⟩,rfl⟩
def qoz (n:Nat):List LC:=[]
def q6x (n:Nat) (a1:Yy):Option (Bool) :=
 (qq7 n a1 ()).bind fun r1=>some r1
def q55 (n:Nat):FC:={ f:=137,args:=[.one (.c (.d .str))],res:=.one (.c (.d .bool)),F:=fun p=>q6x n p }
def que (n:Nat):List FC:=[qdc n]
theorem j5e (n:Nat) {G:World→Prop} (hG:Know Inv G) : ∀ c∈que n,q0p Tryz.prog G c∧q07 c.args=true:=List.forall_mem_cons.2 ⟨jqy n G hG,(fun _ h=>by cases h)⟩
def qsy:q06:=[]
theorem jhd:drB qsy (q00 Tryz.f137)=true:=by kernel_rfl
theorem jfw (n:Nat) : ∀ a,(q55 n).F a=main Tryz.prog 5 (que n) (qoz n) qsy (q00 Tryz.f137) [.tmp 2] (q55 n).args (q55 n).res a:=by intro a;kernel_rfl
theorem qur (n:Nat):q09 Inv Tryz.prog (q55 n):=fun G hG=>⟨⟨by kernel_rfl,fun a r h=>q03 (c:=q00 Tryz.f137) Tryz.func137 (by kernel_rfl) (by kernel_rfl) (Nat.le_of_ble_eq_true (by kernel_rfl)) hG.st (by kernel_rfl) (rs:=[.tmp 2]) (by kernel_rfl) (j5e n hG) (lts:=qoz n) (fun F hF hFG=>have hK:Know Inv F.G:=hFG ▸ hG;(q02 fun j L h1 h2 h3=>absurd h2 (Nat.not_lt.2 (Nat.le_trans (by decide +kernel) h1)))) jhd ((jfw n a).symm.trans h)⟩,rfl⟩
def qjb (n:Nat):List LC:=[]
def qh9 (n:Nat) (a1:Yy):Option (Bool) :=
 (qq1 n a1).bind fun r1=>(bif r1 then (bif decide (a1=([48]:Yy)) then some true else (sAt a1 (0:Int)).bind fun c2=>(bif !decide (c2=48) then some true else (q6x n a1).bind fun r3=>some (!r3))) else some false)
def q8b (n:Nat):FC:={ f:=106,args:=[.one (.c (.d .str))],res:=.one (.c (.d .bool)),F:=fun p=>qh9 n p }
def qo4 (n:Nat):List FC:=[qda n,q55 n]
theorem qyr (n:Nat) {G:World→Prop} (hG:Know Inv G) : ∀ c∈qo4 n,q0p Tryz.prog G c∧q07 c.args=true:=List.forall_mem_cons.2 ⟨j6u n G hG,List.forall_mem_cons.2 ⟨qur n G hG,(fun _ h=>by cases h)⟩⟩
def qoq:q06:=[]
theorem jah:drB qoq (q00 Tryz.f106)=true:=by kernel_rfl
theorem j8l (n:Nat) : ∀ a,(q8b n).F a=main Tryz.prog 19 (qo4 n) (qjb n) qoq (q00 Tryz.f106) [.tmp 2] (q8b n).args (q8b n).res a:=by intro a;kernel_rfl
theorem j5q (n:Nat):q09 Inv Tryz.prog (q8b n):=fun G hG=>⟨⟨by kernel_rfl,fun a r h=>q03 (c:=q00 Tryz.f106) Tryz.func106 (by kernel_rfl) (by kernel_rfl) (Nat.le_of_ble_eq_true (by kernel_rfl)) hG.st (by kernel_rfl) (rs:=[.tmp 2]) (by kernel_rfl) (qyr n hG) (lts:=qjb n) (fun F hF hFG=>have hK:Know Inv F.G:=hFG ▸ hG;(q02 fun j L h1 h2 h3=>absurd h2 (Nat.not_lt.2 (Nat.le_trans (by decide +kernel) h1)))) jah ((j8l n a).symm.trans h)⟩,rfl⟩
end Go.Proofs.YtapfankgdkdkgaaGreatDoor.AM
namespace Go.Proofs.YtapfankgdkdkgaaGreatDoor.AM
open Go.RowKit
theorem jtw {β:Type} {l:List β} {j:Nat} (h:j<l.length):nth l j=some l[j]:=by rw [q68,List.getElem?_eq_getElem h]
theorem q1c {β:Type} {l:List β} {j:Nat} (h:j<l.length):q0n l (j:Int)=some l[j]:=by
 unfold q0n;rw [if_pos (by omega),Int.toNat_natCast,jtw h]
theorem q1l {s:Yy} {j:Nat} (h:j<s.length):sAt s (j:Int)=some ((s[j].toNat:Nat):Int):=by
 unfold sAt;rw [q1c h];rfl
theorem sub_le {β:Type} {l:List β} {a b:Nat} (h1:a≤b) (h2:b≤l.length):q1d l (a:Int) (b:Int)=some ((l.drop a).take (b - a)):=by
 unfold q1d;rw [if_pos ⟨by omega,by omega,by omega⟩,Int.toNat_natCast,Int.toNat_natCast]
theorem sub_zero {β:Type} {l:List β} {b:Nat} (h2:b≤l.length):q1d l (0:Int) (b:Int)=some (l.take b):=by
 have:=sub_le (l:=l) (a:=0) (b:=b) (Nat.zero_le _) h2
 simpa using this
theorem q2i {β:Type} {k:Nat} {xs ys:List β} (h:(xs.length+ys.length)*k≤140737488355328):q2g k xs ys=some (xs++ys):=by
 unfold q2g;rw [if_pos h]
theorem q0a {i:Nat} (h:i<4611686018427387904):IntKind.wrap .i64 ((i:Int)+1)=((i+1:Nat):Int):=by rw [wrap64 (by omega) (by omega)];rfl
theorem qjd {i:Nat} (h:i<4611686018427387904):IntKind.wrap .i64 (i:Int)=(i:Int):=by rw [wrap64 (by omega) (by omega)]
end Go.Proofs.YtapfankgdkdkgaaGreatDoor.AM
namespace Go.Proofs.YtapfankgdkdkgaaGreatDoor.AM
open Go.RowKit
theorem jhw (n:Nat) (c:UInt8):q5s n ((c.toNat:Nat):Int)=some (q1e c):=by
 unfold q5s q1e
 have h1:decide ((48:Int)≤((c.toNat:Nat):Int))=decide (48≤c.toNat):=decide_eq_decide.2 (by omega)
 have h2:decide (((c.toNat:Nat):Int)≤(57:Int))=decide (c.toNat≤57):=decide_eq_decide.2 (by omega)
 rw [h1,h2]
 cases decide (48≤c.toNat)<;>cases decide (c.toNat≤57)<;>rfl
theorem k5q (n:Nat) (c:UInt8):qql n ((c.toNat:Nat):Int)=some (qqm c):=by
 unfold qql qqm
 have h1:decide ((97:Int)≤((c.toNat:Nat):Int))=decide (97≤c.toNat):=decide_eq_decide.2 (by omega)
 have h2:decide (((c.toNat:Nat):Int)≤(122:Int))=decide (c.toNat≤122):=decide_eq_decide.2 (by omega)
 have h3:decide ((65:Int)≤((c.toNat:Nat):Int))=decide (65≤c.toNat):=decide_eq_decide.2 (by omega)
 have h4:decide (((c.toNat:Nat):Int)≤(90:Int))=decide (c.toNat≤90):=decide_eq_decide.2 (by omega)
 have h5:decide (((c.toNat:Nat):Int)=(45:Int))=decide (c.toNat=45):=decide_eq_decide.2 (by omega)
 rw [h1,h2,h3,h4,h5,jhw]
 cases decide (97≤c.toNat)<;>cases decide (c.toNat≤122)<;>cases decide (65≤c.toNat)<;>cases decide (c.toNat≤90)<;>cases q1e c<;>rfl
theorem qt9 (n:Nat) (s:Yy) (hL:s.length≤1000000) : ∀ m j:Nat,j≤s.length→s.length - j<m→q7w n m s ((s.length:Nat):Int) (j:Int)=some (if (s.drop j).all qqm=true then Sum.inr ((s,()),((),())) else Sum.inl ((false,()),((),())))
 | 0,j,_,h=>absurd h (Nat.not_lt_zero _)
 | m+1,j,hj,h=>by
  rw [qmj]
  unfold qt8
  by_cases c0:j<s.length
  ·have c0':((j:Nat):Int)<((s.length:Nat):Int):=by omega
   have ih:=qt9 n s hL m (j+1) (by omega) (by omega)
   have hd:s.drop j=s[j]::s.drop (j+1):=(List.drop_eq_getElem_cons c0)
   simp only [c0',decide_true,cond_true,q1l c0,Option.bind_some,k5q,q04,q0a (show j<4611686018427387904 by omega),ih,hd,List.all_cons]
   cases qqm s[j]<;>simp
  ·have c0' : ¬ ((j:Nat):Int)<((s.length:Nat):Int):=by omega
   have:s.drop j = []:=List.drop_eq_nil_of_le (by omega)
   simp [c0',this]
theorem jfx (n:Nat) (s:Yy) (hL:s.length≤1000000) (hn:s.length<n):qqe n s ()=some (s.all qqm && !decide (s = [])):=by
 unfold qqe
 have:=qt9 n s hL n 0 (Nat.zero_le _) (by omega)
 rw [show ((0:Nat):Int)=(0:Int) from rfl] at this
 rw [this,List.drop_zero]
 cases s.all qqm<;>rfl
theorem qvc (n:Nat) (s:Yy) (hL:s.length≤1000000) : ∀ m j:Nat,j≤s.length→s.length - j<m→q80 n m s ((s.length:Nat):Int) (j:Int)=some (if (s.drop j).all q1e=true then Sum.inr ((s,()),((),())) else Sum.inl ((false,()),((),())))
 | 0,j,_,h=>absurd h (Nat.not_lt_zero _)
 | m+1,j,hj,h=>by
  rw [qnp]
  unfold qvi
  by_cases c0:j<s.length
  ·have c0':((j:Nat):Int)<((s.length:Nat):Int):=by omega
   have ih:=qvc n s hL m (j+1) (by omega) (by omega)
   have hd:s.drop j=s[j]::s.drop (j+1):=(List.drop_eq_getElem_cons c0)
   simp only [c0',decide_true,cond_true,q1l c0,Option.bind_some,jhw,q04,q0a (show j<4611686018427387904 by omega),ih,hd,List.all_cons]
   cases q1e s[j]<;>simp
  ·have c0' : ¬ ((j:Nat):Int)<((s.length:Nat):Int):=by omega
   have:s.drop j = []:=List.drop_eq_nil_of_le (by omega)
   simp [c0',this]
theorem jdq (n:Nat) (s:Yy) (hL:s.length≤1000000) (hn:s.length<n):qq7 n s ()=some (s.all q1e && !decide (s = [])):=by
 unfold qq7
 have:=qvc n s hL n 0 (Nat.zero_le _) (by omega)
 rw [show ((0:Nat):Int)=(0:Int) from rfl] at this
 rw [this,List.drop_zero]
 cases s.all q1e<;>rfl
theorem qvy (n:Nat) (s:Yy) (hL:s.length≤1000000) (hn:s.length<n):qq1 n s=some (q2l s):=by
 unfold qq1;rw [jfx n s hL hn];rfl
theorem qam (n:Nat) (s:Yy) (hL:s.length≤1000000) (hn:s.length<n):q6x n s=some (q2q s):=by
 unfold q6x;rw [jdq n s hL hn];rfl
theorem jn0 (n:Nat) (s:Yy) (hL:s.length≤1000000) (hn:s.length<n):qh9 n s=some (q4v s):=by
 unfold qh9 q4v
 rw [qvy n s hL hn,qam n s hL hn]
 simp only [Option.bind_some]
 cases hp:q2l s with
 | false=>rfl
 | true =>
  cases s with
  | nil=>simp [q2l] at hp
  | cons c r =>
   have h0:sAt (c::r) (0:Int)=some ((c.toNat:Nat):Int):=q1l (s:=c::r) (j:=0) (by simp)
   have h1:decide (((c.toNat:Nat):Int)=(48:Int))=decide ((c::r).head? = some 48):=decide_eq_decide.2 (by
    simp only [List.head?_cons,Option.some.injEq]
    constructor
    ·intro h;exact UInt8.toNat_inj.1 (by have e48:(48:UInt8).toNat=48:=rfl;rw [e48];omega)
    ·rintro rfl;rfl)
   simp only [cond_true,h0,Option.bind_some,h1,Bool.true_and]
   cases decide (c::r = [48])<;>cases decide ((c::r).head? = some 48)<;>cases q2q (c::r)<;>rfl
end Go.Proofs.YtapfankgdkdkgaaGreatDoor.AM
namespace Go.Proofs
open Go.RowKit Go.Shelf Go.Lib
attribute [local go_sem] Oper.semAt_some
namespace YtapfankgdkdkgaaGreatDoor.AM
theorem q3h {P:Program} {fn:Func} {p:Tmp} {ty:TypeId} {b:Nat} {v:Value} {tmps:Array Value} {w:World} (h:fn.results = #[.cell p ty]) (hp:tmps.getD p undef = .pointer (some ⟨b,0,none⟩)) (ha:j10 P ty=some false)
  (hc:w.cell? ⟨b,0,none⟩=some v):(results fn tmps).run P w = .ok v w:=by
 have hp':tmps[p]?.getD undef = .pointer (some ⟨b,0,none⟩):=by simpa using hp
 simp only [results,h]
 simp [Sem.run_bind,hp',asAddr,loadVar,q1w ha w,go_sem,hc]
theorem q3e {W W':World} {a:Addr} {v:Value} (hb:Below W.heap.size W W') (h:W.cell? a=some v):W'.cell? a=some v:=by
 obtain ⟨o,ho,hc⟩:=cells_of_cell h
 exact (World.cell?_of_block ((hb.block _ (Array.getElem?_eq_some_iff.1 ho).1).trans ho |>.trans ho.symm)).trans h
theorem q46 {W W':World} {a:Addr} {v:Value} (hb:Below W.heap.size W W') (h:W.cell? a=some v):W'.frozen? a=W.frozen? a:=by
 obtain ⟨o,ho,hc⟩:=cells_of_cell h
 exact World.frozen?_of_block ((hb.block _ (Array.getElem?_eq_some_iff.1 ho).1).trans ho |>.trans ho.symm)
theorem q2z {W W':World} (hb:Below W.heap.size W W'):KeepsOthers W W':=⟨hb.size,fun k o h _=>(hb.block k (Array.getElem?_eq_some_iff.1 h).1).trans h⟩
theorem qfc {pS:Nat} {r:List UInt8} {W W':World} (h:Left pS r W) (hb:Below W.heap.size W W'):Left pS r W':=⟨q3e hb h.1,(q46 hb h.1).trans h.2⟩
theorem q0v {w:World} {b:Nat} {v:Value} {t:TypeId} (h:w.heap[b]? = some (.cells #[v] t (0,0))):w.cell? ⟨b,0,none⟩=some v∧w.frozen? ⟨b,0,none⟩=false:=by
 constructor
 ·simp [World.cell?,h]
 ·simp [World.frozen?,h]
theorem five (w:World) (o0 o1 o2 o3 o4:Obj) : ∃ W,(((((w.alloc o0).alloc o1).alloc o2).alloc o3).alloc o4)=W∧W.heap.size=w.heap.size+5∧Below w.heap.size w W∧W.heap[w.heap.size]? = some o0∧W.heap[w.heap.size+1]? = some o1∧W.heap[w.heap.size+1+1]? = some o2∧W.heap[w.heap.size+1+1+1]? = some o3∧W.heap[w.heap.size+1+1+2]? = some o4:=by
 have al : ∀ (w:World) (o:Obj) (k:Nat),k<w.heap.size→(w.alloc o).heap[k]? = w.heap[k]?:=fun w o k h=>Below.heap_alloc _ _ _ h
 refine ⟨_,rfl,by simp,(((((Below.refl _ w).alloc (Nat.le_refl _) _).alloc (by simp) _).alloc (by simp;omega) _).alloc (by simp;omega) _).alloc (by simp;omega) _,?_,?_,?_,?_,?_⟩
 ·rw [al _ _ _ (by simp<;>omega),al _ _ _ (by simp<;>omega),al _ _ _ (by simp<;>omega),al _ _ _ (by simp),World.alloc_heap_new]
 ·rw [al _ _ _ (by simp<;>omega),al _ _ _ (by simp<;>omega),al _ _ _ (by simp)]
  have:=World.alloc_heap_new (w.alloc o0) o1
  rw [World.size_alloc] at this;exact this
 ·rw [al _ _ _ (by simp<;>omega),al _ _ _ (by simp)]
  have:=World.alloc_heap_new ((w.alloc o0).alloc o1) o2
  rw [World.size_alloc,World.size_alloc] at this;exact this
 ·rw [al _ _ _ (by simp)]
  have:=World.alloc_heap_new (((w.alloc o0).alloc o1).alloc o2) o3
  rw [World.size_alloc,World.size_alloc,World.size_alloc] at this;exact this
 ·have:=World.alloc_heap_new ((((w.alloc o0).alloc o1).alloc o2).alloc o3) o4
  rw [World.size_alloc,World.size_alloc,World.size_alloc,World.size_alloc] at this;exact this
theorem hag:j10 Tryz.prog 4=some false:=by kernel_rfl
structure Rng (fv:Value) (pF pR:Nat) (pP pC:Nat) (c:UInt8) (w0:World) (pred:List UInt8→Bool) (pre:List (List UInt8)) (W:World):Prop where
 fn:W.cell? ⟨pF,0,none⟩=some fv
 res:W.cell? ⟨pR,0,none⟩=some (.bool false)
 frz:W.frozen? ⟨pR,0,none⟩=false
 cP:W.cell? ⟨pP,0,none⟩=some (.string (ba [c]))
 cC:W.cell? ⟨pC,0,none⟩=some (.int .i64 0)
 below:Below w0.heap.size w0 W
 all:pre.all pred=true
structure RngX (pR:Nat) (w0:World) (pred:List UInt8→Bool) (pre:List (List UInt8)) (W:World):Prop where
 res:W.cell? ⟨pR,0,none⟩=some (.bool false)
 below:Below w0.heap.size w0 W
 no:pre.all pred=false
theorem j37 {fv:Value} {pF pR pP pC:Nat} {c:UInt8} {w0:World} {pred:List UInt8→Bool} {B:Nat} (hB:w0.heap.size≤B):OwnFrom B (Rng fv pF pR pP pC c w0 pred):=fun s W W' row h hg hr =>
 ⟨qav h.fn hg hr,qav h.res hg hr,(frozen_kept h.res hg (fun r e=>(hr r e).2)).trans h.frz,qav h.cP hg hr,qav h.cC hg hr,h.below.grown hg h.below.size (fun k e=>Nat.le_trans hB (hr k e).1),h.all⟩
theorem j4w {pR:Nat} {w0:World} {pred:List UInt8→Bool} {B:Nat} (hB:w0.heap.size≤B):OwnFrom B (RngX pR w0 pred):=fun s W W' row h hg hr =>
 ⟨qav h.res hg hr,h.below.grown hg h.below.size (fun k e=>Nat.le_trans hB (hr k e).1),h.no⟩
theorem qkg {fv:Value} {pF pR pP pC:Nat} {c:UInt8} {w0:World} {pred:List UInt8→Bool} {pre:List (List UInt8)} {x:List UInt8} {W W':World} (h:Rng fv pF pR pP pC c w0 pred pre W) (hb:Below W.heap.size W W') (hx:pred x=true):Rng fv pF pR pP pC c w0 pred (pre ++ [x]) W' :=
 ⟨q3e hb h.fn,q3e hb h.res,(q46 hb h.res).trans h.frz,q3e hb h.cP,q3e hb h.cC,h.below.trans (hb.mono h.below.size),by rw [List.all_append,h.all];simp [hx]⟩
theorem j5c {fv:Value} {pF pR pP pC:Nat} {c:UInt8} {w0:World} {pred:List UInt8→Bool} {pre:List (List UInt8)} {W:World} {q:Nat} (v:Value) (h:Rng fv pF pR pP pC c w0 pred pre W) (h0:w0.heap.size≤q) (h1:q≠pF) (h2:q≠pR) (h3:q≠pP) (h4:q≠pC):Rng fv pF pR pP pC c w0 pred pre (W.setCell ⟨q,0,none⟩ v):=by
 have ne : ∀ p:Nat,q≠p→(W.setCell ⟨q,0,none⟩ v).cell? ⟨p,0,none⟩=W.cell? ⟨p,0,none⟩:=fun p hp=>World.cell?_setCell_other _ _ _ _ (by intro e;exact hp (by injection e with e))
 exact ⟨(ne _ h1).trans h.fn,(ne _ h2).trans h.res,by rw [World.frozen?_setCell];exact h.frz,(ne _ h3).trans h.cP,(ne _ h4).trans h.cC,h.below.setCell (by simpa using h0) _,h.all⟩
theorem four (w:World) (o0 o1 o2 o3:Obj) : ∃ W,((((w.alloc o0).alloc o1).alloc o2).alloc o3)=W∧W.heap.size=w.heap.size+4∧Below w.heap.size w W∧W.heap[w.heap.size]? = some o0∧W.heap[w.heap.size+1]? = some o1∧W.heap[w.heap.size+1+1]? = some o2∧W.heap[w.heap.size+1+2]? = some o3:=by
 have al : ∀ (w:World) (o:Obj) (k:Nat),k<w.heap.size→(w.alloc o).heap[k]? = w.heap[k]?:=fun w o k h=>Below.heap_alloc _ _ _ h
 refine ⟨_,rfl,by simp,((((Below.refl _ w).alloc (Nat.le_refl _) _).alloc (by simp) _).alloc (by simp;omega) _).alloc (by simp;omega) _,?_,?_,?_,?_⟩
 ·rw [al _ _ _ (by simp<;>omega),al _ _ _ (by simp<;>omega),al _ _ _ (by simp),World.alloc_heap_new]
 ·rw [al _ _ _ (by simp<;>omega),al _ _ _ (by simp)]
  have:=World.alloc_heap_new (w.alloc o0) o1
  rw [World.size_alloc] at this;exact this
 ·rw [al _ _ _ (by simp)]
  have:=World.alloc_heap_new ((w.alloc o0).alloc o1) o2
  rw [World.size_alloc,World.size_alloc] at this;exact this
 ·have:=World.alloc_heap_new (((w.alloc o0).alloc o1).alloc o2) o3
  rw [World.size_alloc,World.size_alloc,World.size_alloc] at this;exact this
structure RngY (pR:Nat) (w0:World) (pred:List UInt8→Bool) (pre:List (List UInt8)) (W:World):Prop where
 res:W.cell? ⟨pR,0,none⟩=some (.bool true)
 below:Below w0.heap.size w0 W
 no:pre.all pred=false
theorem jzx {pR:Nat} {w0:World} {pred:List UInt8→Bool} {B:Nat} (hB:w0.heap.size≤B):OwnFrom B (RngY pR w0 pred):=fun s W W' row h hg hr =>
 ⟨qav h.res hg hr,h.below.grown hg h.below.size (fun k e=>Nat.le_trans hB (hr k e).1),h.no⟩
theorem jli {pred:List UInt8→Bool} {s x:List UInt8} {pre t:List (List UInt8)} (hsp:spl 47 [] s=pre++x::t) (hn:(pre ++ [x]).all pred=false):(spl 47 [] s).all pred=false:=by
 rw [List.all_append,Bool.and_eq_false_iff] at hn
 rw [hsp,List.all_append,Bool.and_eq_false_iff]
 rcases hn with hn|hn
 ·exact Or.inl hn
 ·refine Or.inr ?_
  simp only [List.all_cons,List.all_nil,Bool.and_true] at hn
  rw [List.all_cons,hn];rfl
end YtapfankgdkdkgaaGreatDoor.AM
end Go.Proofs
namespace Go.Proofs
open Go.RowKit Go.Shelf Go.Lib
attribute [local go_sem] Oper.semAt_some
namespace YtapfankgdkdkgaaGreatDoor.AM
set_option maxHeartbeats 2000000 in
theorem qye (pred:List UInt8→Bool) (hp : ∀ (x:List UInt8) (w:World),Inv w→x.length≤30→Calls Tryz.prog 107 #[.string (ba x)] w fun e w'=>e = .returned (.bool (pred x))∧Below w.heap.size w w')
  (s:List UInt8) (w:World) (hI:Inv w) :
  Calls Tryz.prog 105 #[.string (ba s),.func (.func 107) #[] #[]] w fun e w'=>e = .returned (.bool (q69 pred s))∧Below w.heap.size w w':=by
 refine (callsIn_wide (n:=9)).1 ?_
 refine callsIn_of_wp_marks Tryz.func105 rfl trivial ?_ rfl
 simp only [Tryz.ntmps105,List.size_toArray,List.length_cons,List.length_nil,Nat.reduceAdd,Nat.reduceSub,Array.replicate_succ,Array.replicate_zero,List.push_toArray,List.append_toArray,List.nil_append,List.cons_append]
 have hsz:(ba s).size=s.length:=q3m s
 by_cases h1:s = []
 ·subst h1
  have he:(ba []).toList.isEmpty=true:=by rw [qaa];rfl
  gi_wp2
  refine ⟨_,q3h (b:=w.heap.size+1) (v:=.bool true) rfl rfl hag (by simp),rfl,?_⟩
  exact ((Below.refl _ w).alloc (Nat.le_refl _) _).alloc (by simp) _
 have he:(ba s).toList.isEmpty=false:=by rw [qaa];simpa using h1
 by_cases h2:s.length≤30
 ·gi_wp2_with (refine ⟨trivial,?_⟩;gi_at_call 136;refine (callsIn_wide.2 (q5f _ _ _)).mono ?_;rintro e w' ⟨rfl,rfl⟩)
  obtain ⟨W0,hW0,hs0,hb0,g0,g1,g2,g3,g4⟩:=five w (Obj.cells #[Value.func (Fn.func 107) #[] #[]] 140) (Obj.cells #[Value.bool false] 4) (Obj.cells #[Value.string (ba s)] 9) (Obj.cells #[Value.string { data:=#[46] }] 9) (Obj.cells #[Value.int IntKind.i64 0] 3)
  rw [hW0]
  clear hW0
  obtain ⟨c0,f0⟩:=q0v g0
  obtain ⟨c1,f1⟩:=q0v g1
  obtain ⟨c2,f2⟩:=q0v g2
  obtain ⟨c3,f3⟩:=q0v g3
  obtain ⟨c4,f4⟩:=q0v g4
  refine range_split (n:=9) (by omega) 46 (w.heap.size+1+1) (w.heap.size+1+1+1) (w.heap.size+1+1+2) s (by omega) rfl ⟨c2,f2⟩
   (Rng (.func (.func 107) #[] #[]) w.heap.size (w.heap.size+1) (w.heap.size+1+1+1) (w.heap.size+1+1+2) 46 w pred) (RngX (w.heap.size+1) w pred) (j37 (by omega)) (j4w (by omega))
   (fun pre W h=>⟨h.cP,h.cC,(hI.below h.below).maxLen⟩) (fun pre W v h=>j5c v h (by omega) (by omega) (by omega) (by omega) (by omega)) ⟨c0,c1,f1,c3,c4,hb0,rfl⟩
   (fun x=>{ tmps:=#[.string (ba s),.func (.func 107) #[] #[],undef,.pointer (some ⟨w.heap.size,0,none⟩),.pointer (some ⟨w.heap.size+1,0,none⟩),.string (ba x),.string (ba s),.bool false,.string (ba s),.int .i64 s.length,.bool (decide ((30:Int)<s.length)),.string (ba s),
    .func (.func 200) #[] #[.pointer (some ⟨w.heap.size+1+1+1,0,none⟩),.pointer (some ⟨w.heap.size+1+1,0,none⟩),.pointer (some ⟨w.heap.size+1+1+2,0,none⟩)],.string (ba x),undef,undef,undef,undef],defers:=[] }) ?assign ?body ?done ?stop
  case assign =>
   intro l x W K hK
   gi_wp2
   exact hK
  case body =>
   intro l pre x r W hi hL hx
   have k0:=hi.fn
   have k1:=hi.res
   have k2:=hi.frz
   have hc:=hp x W (hI.below hi.below) (by omega)
   cases hpx:pred x with
   | true =>
    rw [hpx] at hc
    gi_wp2_with (refine ⟨trivial,?_⟩;gi_at_call 107;refine (CallsIn.inRound l (callsIn_wide.2 hc)).mono ?_;rintro e w' ⟨rfl,hb'⟩)
    exact ⟨q2z hb',qkg hi hb' hpx,qfc hL hb'⟩
   | false =>
    rw [hpx] at hc
    gi_wp2_with (refine ⟨trivial,?_⟩;gi_at_call 107;refine (CallsIn.inRound l (callsIn_wide.2 hc)).mono ?_;rintro e w' ⟨rfl,hb'⟩;have k3:=q3e hb' hi.res;have k4:=(q46 hb' hi.res).trans hi.frz)
    exact ⟨(q2z hb').trans (KeepsOthers.setCell _ _ _),World.cell?_setCell_same' _ _ _ (by rw [k3];rfl),(hi.below.trans (hb'.mono hi.below.size)).setCell (by simp) _,by simp [hpx]⟩
  case done =>
   intro D W hD hi hK
   have k1:=hi.res
   have k2:=hi.frz
   gi_wp2
   have hK':=(KeepsOthers.setCell W ⟨w.heap.size+1,0,none⟩ (.bool true)).same D _ hK rfl
   have hW':Below w.heap.size w (W.setCell ⟨w.heap.size+1,0,none⟩ (.bool true)):=hi.below.setCell (by simp) _
   have k5:(W.setCell ⟨w.heap.size+1,0,none⟩ (.bool true)).cell? ⟨w.heap.size+1,0,none⟩=some (.bool true):=World.cell?_setCell_same' _ _ _ (by rw [k1];rfl)
   generalize W.setCell ⟨w.heap.size+1,0,none⟩ (.bool true)=W2 at hK' hW' k5
   refine ⟨by simp,.inl ⟨_,_,rfl,run_takeDeferred hK',?_⟩⟩
   have hg:=grownBy_putObj' W2 D (.deferred none)
   refine ⟨_,q3h (b:=w.heap.size+1) (v:=.bool true) rfl rfl hag (cell_kept k5 hg (fun r e=>by cases e;exact ⟨_,hK',rfl⟩)),?_,?_⟩
   ·unfold q69;simp [h1,h2,hi.all]
   ·exact hW'.grown hg hW'.size (fun k e=>by cases e;omega)
  case stop =>
   intro D pre x t W hD hsp hi hK
   refine ⟨by simp,.inl ⟨_,_,rfl,run_takeDeferred hK,?_⟩⟩
   have hg:=grownBy_putObj' W D (.deferred none)
   refine ⟨_,q3h (b:=w.heap.size+1) (v:=.bool false) rfl rfl hag (cell_kept hi.res hg (fun r e=>by cases e;exact ⟨_,hK,rfl⟩)),?_,?_⟩
   ·have hn:=hi.no
    rw [List.all_append,Bool.and_eq_false_iff] at hn
    have ha:(spl 46 [] s).all pred=false:=by
     rw [hsp,List.all_append,Bool.and_eq_false_iff]
     rcases hn with hn|hn
     ·exact Or.inl hn
     ·refine Or.inr ?_
      simp only [List.all_cons,List.all_nil,Bool.and_true] at hn
      rw [List.all_cons,hn];rfl
    unfold q69;simp [h1,ha]
   ·exact hi.below.grown hg hi.below.size (fun k e=>by cases e;omega)
 ·gi_wp2
  refine ⟨_,q3h (b:=w.heap.size+1) (v:=.bool false) rfl rfl hag (by simp),?_,?_⟩
  ·unfold q69;simp [h1,h2]
  ·exact ((Below.refl _ w).alloc (Nat.le_refl _) _).alloc (by simp) _
set_option maxHeartbeats 2000000 in
theorem j53 (pred:List UInt8→Bool) (hp : ∀ (x:List UInt8) (w:World),Inv w→x.length≤30→Calls Tryz.prog 106 #[.string (ba x)] w fun e w'=>e = .returned (.bool (pred x))∧Below w.heap.size w w')
  (s:List UInt8) (w:World) (hI:Inv w) :
  Calls Tryz.prog 105 #[.string (ba s),.func (.func 106) #[] #[]] w fun e w'=>e = .returned (.bool (q69 pred s))∧Below w.heap.size w w':=by
 refine (callsIn_wide (n:=9)).1 ?_
 refine callsIn_of_wp_marks Tryz.func105 rfl trivial ?_ rfl
 simp only [Tryz.ntmps105,List.size_toArray,List.length_cons,List.length_nil,Nat.reduceAdd,Nat.reduceSub,Array.replicate_succ,Array.replicate_zero,List.push_toArray,List.append_toArray,List.nil_append,List.cons_append]
 have hsz:(ba s).size=s.length:=q3m s
 by_cases h1:s = []
 ·subst h1
  have he:(ba []).toList.isEmpty=true:=by rw [qaa];rfl
  gi_wp2
  refine ⟨_,q3h (b:=w.heap.size+1) (v:=.bool true) rfl rfl hag (by simp),rfl,?_⟩
  exact ((Below.refl _ w).alloc (Nat.le_refl _) _).alloc (by simp) _
 have he:(ba s).toList.isEmpty=false:=by rw [qaa];simpa using h1
 by_cases h2:s.length≤30
 ·gi_wp2_with (refine ⟨trivial,?_⟩;gi_at_call 136;refine (callsIn_wide.2 (q5f _ _ _)).mono ?_;rintro e w' ⟨rfl,rfl⟩)
  obtain ⟨W0,hW0,hs0,hb0,g0,g1,g2,g3,g4⟩:=five w (Obj.cells #[Value.func (Fn.func 106) #[] #[]] 140) (Obj.cells #[Value.bool false] 4) (Obj.cells #[Value.string (ba s)] 9) (Obj.cells #[Value.string { data:=#[46] }] 9) (Obj.cells #[Value.int IntKind.i64 0] 3)
  rw [hW0]
  clear hW0
  obtain ⟨c0,f0⟩:=q0v g0
  obtain ⟨c1,f1⟩:=q0v g1
  obtain ⟨c2,f2⟩:=q0v g2
  obtain ⟨c3,f3⟩:=q0v g3
  obtain ⟨c4,f4⟩:=q0v g4
  refine range_split (n:=9) (by omega) 46 (w.heap.size+1+1) (w.heap.size+1+1+1) (w.heap.size+1+1+2) s (by omega) rfl ⟨c2,f2⟩
   (Rng (.func (.func 106) #[] #[]) w.heap.size (w.heap.size+1) (w.heap.size+1+1+1) (w.heap.size+1+1+2) 46 w pred) (RngX (w.heap.size+1) w pred) (j37 (by omega)) (j4w (by omega))
   (fun pre W h=>⟨h.cP,h.cC,(hI.below h.below).maxLen⟩) (fun pre W v h=>j5c v h (by omega) (by omega) (by omega) (by omega) (by omega)) ⟨c0,c1,f1,c3,c4,hb0,rfl⟩
   (fun x=>{ tmps:=#[.string (ba s),.func (.func 106) #[] #[],undef,.pointer (some ⟨w.heap.size,0,none⟩),.pointer (some ⟨w.heap.size+1,0,none⟩),.string (ba x),.string (ba s),.bool false,.string (ba s),.int .i64 s.length,.bool (decide ((30:Int)<s.length)),.string (ba s),
    .func (.func 200) #[] #[.pointer (some ⟨w.heap.size+1+1+1,0,none⟩),.pointer (some ⟨w.heap.size+1+1,0,none⟩),.pointer (some ⟨w.heap.size+1+1+2,0,none⟩)],.string (ba x),undef,undef,undef,undef],defers:=[] }) ?assign ?body ?done ?stop
  case assign =>
   intro l x W K hK
   gi_wp2
   exact hK
  case body =>
   intro l pre x r W hi hL hx
   have k0:=hi.fn
   have k1:=hi.res
   have k2:=hi.frz
   have hc:=hp x W (hI.below hi.below) (by omega)
   cases hpx:pred x with
   | true =>
    rw [hpx] at hc
    gi_wp2_with (refine ⟨trivial,?_⟩;gi_at_call 106;refine (CallsIn.inRound l (callsIn_wide.2 hc)).mono ?_;rintro e w' ⟨rfl,hb'⟩)
    exact ⟨q2z hb',qkg hi hb' hpx,qfc hL hb'⟩
   | false =>
    rw [hpx] at hc
    gi_wp2_with (refine ⟨trivial,?_⟩;gi_at_call 106;refine (CallsIn.inRound l (callsIn_wide.2 hc)).mono ?_;rintro e w' ⟨rfl,hb'⟩;have k3:=q3e hb' hi.res;have k4:=(q46 hb' hi.res).trans hi.frz)
    exact ⟨(q2z hb').trans (KeepsOthers.setCell _ _ _),World.cell?_setCell_same' _ _ _ (by rw [k3];rfl),(hi.below.trans (hb'.mono hi.below.size)).setCell (by simp) _,by simp [hpx]⟩
  case done =>
   intro D W hD hi hK
   have k1:=hi.res
   have k2:=hi.frz
   gi_wp2
   have hK':=(KeepsOthers.setCell W ⟨w.heap.size+1,0,none⟩ (.bool true)).same D _ hK rfl
   have hW':Below w.heap.size w (W.setCell ⟨w.heap.size+1,0,none⟩ (.bool true)):=hi.below.setCell (by simp) _
   have k5:(W.setCell ⟨w.heap.size+1,0,none⟩ (.bool true)).cell? ⟨w.heap.size+1,0,none⟩=some (.bool true):=World.cell?_setCell_same' _ _ _ (by rw [k1];rfl)
   generalize W.setCell ⟨w.heap.size+1,0,none⟩ (.bool true)=W2 at hK' hW' k5
   refine ⟨by simp,.inl ⟨_,_,rfl,run_takeDeferred hK',?_⟩⟩
   have hg:=grownBy_putObj' W2 D (.deferred none)
   refine ⟨_,q3h (b:=w.heap.size+1) (v:=.bool true) rfl rfl hag (cell_kept k5 hg (fun r e=>by cases e;exact ⟨_,hK',rfl⟩)),?_,?_⟩
   ·unfold q69;simp [h1,h2,hi.all]
   ·exact hW'.grown hg hW'.size (fun k e=>by cases e;omega)
  case stop =>
   intro D pre x t W hD hsp hi hK
   refine ⟨by simp,.inl ⟨_,_,rfl,run_takeDeferred hK,?_⟩⟩
   have hg:=grownBy_putObj' W D (.deferred none)
   refine ⟨_,q3h (b:=w.heap.size+1) (v:=.bool false) rfl rfl hag (cell_kept hi.res hg (fun r e=>by cases e;exact ⟨_,hK,rfl⟩)),?_,?_⟩
   ·have hn:=hi.no
    rw [List.all_append,Bool.and_eq_false_iff] at hn
    have ha:(spl 46 [] s).all pred=false:=by
     rw [hsp,List.all_append,Bool.and_eq_false_iff]
     rcases hn with hn|hn
     ·exact Or.inl hn
     ·refine Or.inr ?_
      simp only [List.all_cons,List.all_nil,Bool.and_true] at hn
      rw [List.all_cons,hn];rfl
    unfold q69;simp [h1,ha]
   ·exact hi.below.grown hg hi.below.size (fun k e=>by cases e;omega)
 ·gi_wp2
  refine ⟨_,q3h (b:=w.heap.size+1) (v:=.bool false) rfl rfl hag (by simp),?_,?_⟩
  ·unfold q69;simp [h1,h2]
  ·exact ((Below.refl _ w).alloc (Nat.le_refl _) _).alloc (by simp) _
theorem j9s (x:List UInt8) (w:World) (hI:Inv w) (hx:x.length≤30):Calls Tryz.prog 107 #[.string (ba x)] w fun e w'=>e = .returned (.bool (q2l x))∧Below w.heap.size w w':=by
 have h:=(j6u 100 Inv qba).1.2 x (q2l x) (qvy 100 x (by omega) (by omega))
 refine (h (fun _ _=>False) w #[.string (ba x)] hI (fun b o h=>h.elim) ⟨q08 _,trivial⟩).mono ?_
 rintro e w' ⟨v,Pc,rfl,hb,_,_,hv⟩
 have hv':v = .bool (q2l x):=q0d hv
 rw [hv']
 exact ⟨rfl,hb⟩
def qlu (s:List UInt8) (u:Unit):Option Bool:=some (q69 q2l s)
def qvz:FC:={ f:=105,args:=[qyy,.one (.c (.fn 107 []))],res:=jya,F:=fun p=>qlu p.1 p.2 }
theorem jdz:q09 Inv Tryz.prog qvz:=fun G hG=>⟨⟨by kernel_rfl,fun a r h=>by
 obtain ⟨s,u⟩:=a
 have hr:q69 q2l s=r:=Option.some.inj h
 intro Pc w vs hg hlt hv
 obtain ⟨l⟩:=vs
 match l,hv with
 | [x,y],⟨h1,h2,_⟩ =>
  obtain rfl:x = .string (ba s):=q0d h1
  obtain rfl:y = .func (.func 107) #[] #[]:=q0d h2
  refine (qye q2l j9s s w (hG.im w hg)).mono ?_
  rintro e w' ⟨rfl,hb⟩
  subst hr
  exact q58 rfl hb (q08 _)⟩,rfl⟩
theorem jdv (x:List UInt8) (w:World) (hI:Inv w) (hx:x.length≤30):Calls Tryz.prog 106 #[.string (ba x)] w fun e w'=>e = .returned (.bool (q4v x))∧Below w.heap.size w w':=by
 have h:=(j5q 100 Inv qba).1.2 x (q4v x) (jn0 100 x (by omega) (by omega))
 refine (h (fun _ _=>False) w #[.string (ba x)] hI (fun b o h=>h.elim) ⟨q08 _,trivial⟩).mono ?_
 rintro e w' ⟨v,Pc,rfl,hb,_,_,hv⟩
 have hv':v = .bool (q4v x):=q0d hv
 rw [hv']
 exact ⟨rfl,hb⟩
def qvk (s:List UInt8) (u:Unit):Option Bool:=some (q69 q4v s)
def j0m:FC:={ f:=105,args:=[qyy,.one (.c (.fn 106 []))],res:=jya,F:=fun p=>qvk p.1 p.2 }
theorem jnb:q09 Inv Tryz.prog j0m:=fun G hG=>⟨⟨by kernel_rfl,fun a r h=>by
 obtain ⟨s,u⟩:=a
 have hr:q69 q4v s=r:=Option.some.inj h
 intro Pc w vs hg hlt hv
 obtain ⟨l⟩:=vs
 match l,hv with
 | [x,y],⟨h1,h2,_⟩ =>
  obtain rfl:x = .string (ba s):=q0d h1
  obtain rfl:y = .func (.func 106) #[] #[]:=q0d h2
  refine (j53 q4v jdv s w (hG.im w hg)).mono ?_
  rintro e w' ⟨rfl,hb⟩
  subst hr
  exact q58 rfl hb (q08 _)⟩,rfl⟩
end YtapfankgdkdkgaaGreatDoor.AM
end Go.Proofs
