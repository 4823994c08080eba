
import Derived.Test.YtcdjkibiggjdoaaGreatDoorLp8
import Derived.Lib.ItoaNum
import Derived.Lib.AtoiAll
import Derived.Shelf.LaysC
import Derived.Shelf.Strconv.Itoa3
import Derived.Shelf.Strconv.AtoiAll
import Derived.Shelf.Small.Strs
import Derived.Shelf.Strings.SplitShaped
import Derived.Lib.LaidTab
import Derived.Lib.AppendIntMem
import Derived.Stop.LaidErr
import Derived.WalkSmall
namespace Go.Proofs.YtcdjkibiggjdoaaGreatDoor.AM
open Go.RowKit
set_option linter.unusedVariables false
set_option linter.unusedSimpArgs false
abbrev VD:=Int×(Int×(Int×(List UInt8×List UInt8)))
abbrev v0:VD:=(0,(0,(0,([],[]))))
def q1i (c:UInt8):Bool:=decide (48≤c.toNat)&&decide (c.toNat≤57)
def qux (c:UInt8):Bool:=(decide (97≤c.toNat)&&decide (c.toNat≤122))||(decide (65≤c.toNat)&&decide (c.toNat≤90))||q1i c||decide (c.toNat=45)
def q2a (s:List UInt8):Bool:=s.all q1i && !decide (s = [])
def q25 (s:List UInt8):Bool:=s.all qux && !decide (s = [])
def q4h (s:List UInt8):Bool:=q25 s&&(decide (s = [48]) || !decide (s.head? = some 48) || !q2a s)
def q7d (p:List UInt8→Bool) (s:List UInt8):Bool:=decide (s = [])||(decide (s.length≤30)&&(spl 46 [] s).all p)
def jeg (n:Int):Bool:=decide (0≤n)&&decide (n≤999999999)
def q0u (v:VD):Bool:=jeg v.1&&jeg v.2.1&&jeg v.2.2.1&&q7d q4h v.2.2.2.1&&q7d q25 v.2.2.2.2
def q5t (c:UInt8) (s:List UInt8):List UInt8:=if s = [] then [] else c::s
def jiq (v:VD):List UInt8:=118::(Lib.itoa v.1++46::(Lib.itoa v.2.1++46::(Lib.itoa v.2.2.1++(q5t 45 v.2.2.2.1++q5t 43 v.2.2.2.2))))
def q3f (v:VD):List UInt8:=if q0u v then jiq v else []
def jtj (w:List UInt8):Int×(Int×List UInt8):=if q2a w then (0,(w.length,w)) else (1,(0,w))
def jl9 (x y:List UInt8):Int:=qjt qaw (qjt qaw (cmpL jnj)) (jtj x) (jtj y)
def jl0 (p:List UInt8):Int×List (List UInt8):=(if p = [] then 1 else 0,spl 46 [] p)
def qbx (a b:List UInt8):Int:=qjt qaw (cmpL jl9) (jl0 a) (jl0 b)
def core (v:VD):Int×(Int×(Int×List UInt8)):=(v.1,(v.2.1,(v.2.2.1,v.2.2.2.1)))
def cmpC (x y:Int×(Int×(Int×List UInt8))):Int:=qjt qaw (qjt qaw (qjt qaw qbx)) x y
def q8w (v w:VD):Int:=if q0u v&&q0u w then cmpC (core v) (core w) else 0
theorem jqj (x y:List UInt8) (h:jtj x=jtj y):x=y:=by
 unfold jtj at h
 split at h<;>split at h<;>simp at h<;>first|exact h.2|exact h
theorem jrm:Cmp jl9:=(qei q53 (qei q53 (qjp qoj))).key jtj jqj
def js1 (c:UInt8):List (List UInt8)→List UInt8
 | []=>[]
 | [x]=>x
 | x::y::t=>x++c::js1 c (y::t)
theorem jis (c:UInt8) (l cur:List UInt8):spl c cur l ≠ []:=fun h=>by have:=(q4s c l cur).1;rw [h] at this;simp at this
theorem qif (c:UInt8) : ∀ (l cur:List UInt8),js1 c (spl c cur l)=cur++l
 | [],cur=>by simp [spl,js1]
 | b::l,cur=>by
  rw [spl]
  split
  ·rename_i h;subst h
   have ih:=qif b l []
   cases hs:spl b [] l with
   | nil=>exact absurd hs (jis b l [])
   | cons y t=>rw [hs] at ih;rw [js1,ih];simp
  ·rw [qif c l];simp
theorem jbi (c:UInt8) (x y:List UInt8) (h:spl c [] x=spl c [] y):x=y:=by
 have h1:=qif c x []
 have h2:=qif c y []
 rw [h] at h1
 simpa using h1.symm.trans h2
theorem jr8 (x y:List UInt8) (h:jl0 x=jl0 y):x=y:=jbi 46 x y (congrArg Prod.snd h)
theorem qyo:Cmp qbx:=(qei q53 (qjp jrm)).key jl0 jr8
theorem qz4:Cmp cmpC:=qei q53 (qei q53 (qei q53 qyo))
theorem qsb (c:UInt8) (p:UInt8→Bool) : ∀ (l cur:List UInt8),(spl c cur l).all (fun w=>w.all p)=true↔(cur.all p=true∧∀ b∈l,b=c∨p b=true)
 | [],cur=>by simp [spl]
 | b::l,cur=>by
  rw [spl]
  split
  ·rename_i h;subst h
   rw [List.all_cons,Bool.and_eq_true,qsb b p l []]
   simp
  ·rename_i h
   rw [qsb c p l]
   simp only [List.all_append,List.all_cons,List.all_nil,Bool.and_true,Bool.and_eq_true,List.mem_cons,forall_eq_or_imp,h,false_or,and_assoc]
theorem qps {d:Nat} (h:d<10):q1i (UInt8.ofNat (48+d))=true:=by
 unfold q1i
 have:(UInt8.ofNat (48+d)).toNat=48+d:=by rw [UInt8.toNat_ofNat'];omega
 rw [this];simp;omega
theorem j0p (n:Nat):(Lib.decDigits n).all q1i=true∧Lib.decDigits n ≠ []:=by
 induction n using Nat.strongRecOn with
 | _ n ih =>
  rw [Lib.decDigits]
  split
  ·rename_i h;exact ⟨by rw [List.all_cons,qps h];rfl,by simp⟩
  ·rename_i h
   have:=ih (n / 10) (by omega)
   exact ⟨by rw [List.all_append,this.1,List.all_cons,qps (show n % 10<10 by omega)];rfl,by simp⟩
theorem qfp : ∀ (k n:Nat),n<10 ^ (k+1)→(Lib.decDigits n).length≤k+1
 | 0,n,h=>by rw [Lib.decDigits,dif_pos (by omega)];simp
 | k+1,n,h=>by
  rw [Lib.decDigits]
  split
  ·simp
  ·have:=qfp k (n / 10) (by rw [Nat.pow_succ] at h;omega)
   simp;omega
theorem j3h : ∀ (l r:List UInt8) (a:Nat) (u:Nat),Lib.parseUint10 a l = .ok u→Lib.parseUint10 a (l++r)=Lib.parseUint10 u r
 | [],r,a,u,h=>by simp only [Lib.parseUint10] at h;injection h with h;subst h;rfl
 | c::l,r,a,u,h=>by
  rw [List.cons_append]
  conv=>lhs;unfold Lib.parseUint10
  unfold Lib.parseUint10 at h
  split at h
  ·rename_i h1
   rw [if_pos h1]
   split at h
   ·cases h
   ·rename_i h2
    rw [if_neg h2]
    split at h
    ·cases h
    ·rename_i h3
     rw [if_neg h3]
     exact j3h l r _ u h
  ·cases h
theorem jiu (n:Nat) (h:n<1000000000000000000):Lib.parseUint10 0 (Lib.decDigits n) = .ok n:=by
 induction n using Nat.strongRecOn with
 | _ n ih =>
  have t1 : ∀ d,d<10→(UInt8.ofNat (48+d)).toNat=48+d:=fun d hd=>by rw [UInt8.toNat_ofNat'];omega
  rw [Lib.decDigits]
  split
  ·rename_i h1
   unfold Lib.parseUint10 Lib.parseUint10
   rw [t1 n h1,if_pos (by omega),if_neg (by omega),if_neg (by omega)]
   congr 1;omega
  ·rename_i h1
   have h2:=ih (n / 10) (by omega) (by omega)
   rw [j3h _ _ _ _ h2]
   unfold Lib.parseUint10 Lib.parseUint10
   rw [t1 _ (show n % 10<10 by omega),if_pos (by omega),if_neg (by omega),if_neg (by omega)]
   congr 1;omega
theorem q0z {n:Int} (h:0≤n):Lib.itoa n=Lib.decDigits n.toNat:=by unfold Lib.itoa;rw [if_neg (by omega)]
theorem qhi {n:Int} (h0:0≤n) (h1:n≤999999999):Lib.atoiAll (Lib.itoa n) = .ok n:=by
 rw [q0z h0]
 have hd:=j0p n.toNat
 have hp:=jiu n.toNat (by omega)
 generalize Lib.decDigits n.toNat=l at hd hp
 cases l with
 | nil=>exact absurd rfl hd.2
 | cons c r =>
  have hc:q1i c=true:=by have:=hd.1;simp at this;exact this.1
  unfold q1i at hc
  simp at hc
  unfold Lib.atoiAll
  have c43 : ¬ c.toNat=43:=by omega
  have c45 : ¬ c.toNat=45:=by omega
  simp only [c43,or_self,if_false,c45,not_false_eq_true,true_and,false_and]
  unfold Lib.parseMag
  rw [if_neg (by simp),hp]
  simp only
  rw [if_neg (by omega)]
  congr 1;omega
def qbo (a:Int):List UInt8→Int
 | []=>a
 | c::l=>qbo (10*a+c.toNat - 48) l
theorem j2c : ∀ (l r:List UInt8) (a:Int),qbo a (l++r)=qbo (qbo a l) r
 | [],r,a=>rfl
 | c::l,r,a=>by rw [List.cons_append,qbo,qbo,j2c l]
theorem jeu (n:Nat):qbo 0 (Lib.decDigits n)=n:=by
 induction n using Nat.strongRecOn with
 | _ n ih =>
  have t1 : ∀ d,d<10→(UInt8.ofNat (48+d)).toNat=48+d:=fun d hd=>by rw [UInt8.toNat_ofNat'];omega
  rw [Lib.decDigits]
  split
  ·rename_i h1
   unfold qbo qbo
   rw [t1 n h1];omega
  ·rename_i h1
   rw [j2c,ih (n / 10) (by omega)]
   unfold qbo qbo
   rw [t1 _ (show n % 10<10 by omega)];omega
theorem qke : ∀ (l:List UInt8) (a:Int),0≤a→l.all q1i=true→0≤qbo a l∧qbo a l<(a+1)*10 ^ l.length
 | [],a,h,_=>by simp [qbo];omega
 | c::l,a,h,hd=>by
  simp at hd
  have hc:=hd.1
  unfold q1i at hc
  simp at hc
  have ih:=qke l (10*a+c.toNat - 48) (by omega) (by simp;exact hd.2)
  rw [qbo]
  refine ⟨ih.1,Int.lt_of_lt_of_le ih.2 ?_⟩
  have e1:(10:Int) ^ (c::l).length=10*10 ^ l.length:=by rw [List.length_cons,Int.pow_succ];omega
  rw [e1,← Int.mul_assoc]
  have hp:(0:Int)≤10 ^ l.length:=Int.le_of_lt (Int.pow_pos (by decide))
  exact Int.mul_le_mul_of_nonneg_right (by omega) hp
theorem qlb (c:UInt8) : ∀ l:List UInt8,c ∉ l→Lib.index l [c] = -1
 | [],_=>by simp [Lib.index]
 | b::l,h=>by
  have h1:b≠c:=fun e=>h (by simp [e])
  have ih:=qlb c l (fun e=>h (by simp [e]))
  rw [qog h1,ih];rfl
theorem index_hit (c:UInt8) : ∀ (l r:List UInt8),c ∉ l→Lib.index (l++c::r) [c]=((l.length:Nat):Int)
 | [],r,_=>index_self c r
 | b::l,r,h=>by
  have h1:b≠c:=fun e=>h (by simp [e])
  have ih:=index_hit c l r (fun e=>h (by simp [e]))
  rw [List.cons_append,qog h1,ih]
  have:((((l.length:Nat):Int) == -1)=true)=False:=by simp
  simp only [this,if_false,List.length_cons];omega
def q2h (c:UInt8) (s:List UInt8):List UInt8:=if Lib.index s [c] = -1 then s else s.take (Lib.index s [c]).toNat
def qav (c:UInt8) (s:List UInt8):List UInt8:=if Lib.index s [c] = -1 then [] else s.drop ((Lib.index s [c]).toNat+1)
theorem jf2 (c:UInt8) (x t:List UInt8) (h:c ∉ x):q2h c (x++q5t c t)=x∧qav c (x++q5t c t)=t:=by
 unfold q5t q2h qav
 split
 ·rename_i e;subst e
  rw [List.append_nil,qlb c x h];exact ⟨rfl,rfl⟩
 ·rw [index_hit c x t h]
  have n1 : ¬ ((x.length:Nat):Int) = -1:=by omega
  simp only [n1,if_false,Int.toNat_natCast]
  simp
theorem jmw (c:UInt8) (x t:List UInt8) (h:c ∉ x):q2h c (x++c::t)=x∧qav c (x++c::t)=t:=by
 unfold q2h qav
 rw [index_hit c x t h]
 have n1 : ¬ ((x.length:Nat):Int) = -1:=by omega
 simp only [n1,if_false,Int.toNat_natCast]
 simp
theorem qak (c:UInt8) (x t:List UInt8) (h:c ∉ x):spl c [] (x++c::t)=x::spl c [] t:=by
 rw [qz9 c x [] _ h,List.nil_append,spl,if_pos rfl]
theorem q96 (c:UInt8) (x:List UInt8) (h:c ∉ x):spl c [] x = [x]:=by
 have:=qz9 c x [] [] h
 simpa [spl] using this
theorem qzd {p:List UInt8→Bool} (hp : ∀ w,p w=true→w.all qux=true) {s:List UInt8} (h:q7d p s=true) : ∀ b∈s,b=46∨qux b=true:=by
 unfold q7d at h
 simp only [Bool.or_eq_true,Bool.and_eq_true,decide_eq_true_eq] at h
 rcases h with rfl|⟨_,h⟩
 ·intro b hb;cases hb
 ·exact ((qsb 46 qux s []).1 (List.all_eq_true.2 fun w hw=>hp w (List.all_eq_true.1 h w hw))).2
theorem qy1 (w:List UInt8) (h:q25 w=true):w.all qux=true:=by unfold q25 at h;simp only [Bool.and_eq_true] at h;exact h.1
theorem j7a (w:List UInt8) (h:q4h w=true):w.all qux=true:=by unfold q4h at h;simp only [Bool.and_eq_true] at h;exact qy1 w h.1
theorem qsy {c:UInt8} (hc:q1i c=false) (n:Nat):c ∉ Lib.decDigits n:=fun h=>by
 have:=List.all_eq_true.1 (j0p n).1 c h
 rw [hc] at this;cases this
theorem sg43:qux 43=false:=by decide
theorem q1g {v:VD} (h:q0u v=true):(0≤v.1∧v.1≤999999999)∧(0≤v.2.1∧v.2.1≤999999999)∧(0≤v.2.2.1∧v.2.2.1≤999999999)∧q7d q4h v.2.2.2.1=true∧q7d q25 v.2.2.2.2=true:=by
 unfold q0u jeg at h
 simp only [Bool.and_eq_true,decide_eq_true_eq] at h
 exact ⟨h.1.1.1.1,h.1.1.1.2,h.1.1.2,h.1.2,h.2⟩
theorem q4v {p:List UInt8→Bool} {s:List UInt8} (h:q7d p s=true):s.length≤30:=by
 unfold q7d at h
 simp only [Bool.or_eq_true,Bool.and_eq_true,decide_eq_true_eq] at h
 rcases h with rfl|h
 ·simp
 ·exact h.1
def qj3 (s:List UInt8):Int:=match Lib.atoiAll s with
 | .ok v=>v
 | _=>-1
def q1m (s:List UInt8):List UInt8:=if s.head? = some 118 then s.drop 1 else s
def ji2 (s:List UInt8):VD:=(qj3 (q2h 46 (q1m (q2h 45 (q2h 43 s)))),(qj3 (q2h 46 (qav 46 (q1m (q2h 45 (q2h 43 s))))),(qj3 (qav 46 (qav 46 (q1m (q2h 45 (q2h 43 s))))),(qav 45 (q2h 43 s),qav 43 s))))
def qez (s:List UInt8):Int:=if q2a s&&decide (s.length≤9) then qbo 0 s else -1
def jv7 (r:List UInt8):Option VD:=match spl 46 [] (q2h 45 (q2h 43 r)) with
 | [a,b,c]=>some (qez a,(qez b,(qez c,(qav 45 (q2h 43 r),qav 43 r))))
 | _=>none
theorem jjz {v:VD} (h:q0u v=true) : ∀ pf:List UInt8,43 ∉ pf→45 ∉ pf →
  q2h 43 (pf++(Lib.itoa v.1++46::(Lib.itoa v.2.1++46::(Lib.itoa v.2.2.1++(q5t 45 v.2.2.2.1++q5t 43 v.2.2.2.2)))))=pf++(Lib.itoa v.1++46::(Lib.itoa v.2.1++46::(Lib.itoa v.2.2.1++q5t 45 v.2.2.2.1))) ∧
  qav 43 (pf++(Lib.itoa v.1++46::(Lib.itoa v.2.1++46::(Lib.itoa v.2.2.1++(q5t 45 v.2.2.2.1++q5t 43 v.2.2.2.2)))))=v.2.2.2.2 ∧
  q2h 45 (pf++(Lib.itoa v.1++46::(Lib.itoa v.2.1++46::(Lib.itoa v.2.2.1++q5t 45 v.2.2.2.1))))=pf++(Lib.itoa v.1++46::(Lib.itoa v.2.1++46::Lib.itoa v.2.2.1)) ∧
  qav 45 (pf++(Lib.itoa v.1++46::(Lib.itoa v.2.1++46::(Lib.itoa v.2.2.1++q5t 45 v.2.2.2.1))))=v.2.2.2.1:=by
 intro pf p1 p2
 obtain ⟨h1,h2,h3,h4,h5⟩:=q1g h
 have d43:q1i 43=false:=by decide
 have d45:q1i 45=false:=by decide
 have t43:(43:UInt8) ∉ q5t 45 v.2.2.2.1:=by
  unfold q5t
  split
  ·simp
  ·intro hm
   rcases List.mem_cons.1 hm with hm|hm
   ·cases hm
   ·rcases qzd j7a h4 _ hm with hm|hm
    ·cases hm
    ·rw [sg43] at hm;cases hm
 rw [q0z h1.1,q0z h2.1,q0z h3.1]
 have m43:=fun n=>qsy d43 n
 have m45:=fun n=>qsy d45 n
 have a1:=jf2 43 (pf++(Lib.decDigits v.1.toNat++46::(Lib.decDigits v.2.1.toNat++46::(Lib.decDigits v.2.2.1.toNat++q5t 45 v.2.2.2.1)))) v.2.2.2.2 (by simp [m43,t43,p1])
 have a2:=jf2 45 (pf++(Lib.decDigits v.1.toNat++46::(Lib.decDigits v.2.1.toNat++46::Lib.decDigits v.2.2.1.toNat))) v.2.2.2.1 (by simp [m45,p2])
 simp only [List.append_assoc,List.cons_append] at a1 a2
 exact ⟨a1.1,a1.2,a2.1,a2.2⟩
theorem jmr {v:VD} (h:q0u v=true):ji2 (jiq v)=v:=by
 obtain ⟨h1,h2,h3,h4,h5⟩:=q1g h
 have d46:q1i 46=false:=by decide
 have m46:=fun n=>qsy d46 n
 have e0:jiq v = [118]++(Lib.itoa v.1++46::(Lib.itoa v.2.1++46::(Lib.itoa v.2.2.1++(q5t 45 v.2.2.2.1++q5t 43 v.2.2.2.2)))):=rfl
 obtain ⟨k1,k2,k3,k4⟩:=jjz h [118] (by decide) (by decide)
 unfold ji2
 rw [e0,k1,k2,k3,k4]
 have e1:q1m ([118]++(Lib.itoa v.1++46::(Lib.itoa v.2.1++46::Lib.itoa v.2.2.1)))=Lib.itoa v.1++46::(Lib.itoa v.2.1++46::Lib.itoa v.2.2.1):=rfl
 rw [e1]
 have c1:=jmw 46 (Lib.itoa v.1) (Lib.itoa v.2.1++46::Lib.itoa v.2.2.1) (by rw [q0z h1.1];exact m46 _)
 have c2:=jmw 46 (Lib.itoa v.2.1) (Lib.itoa v.2.2.1) (by rw [q0z h2.1];exact m46 _)
 rw [c1.1,c1.2,c2.1,c2.2]
 unfold qj3
 rw [qhi h1.1 h1.2,qhi h2.1 h2.2,qhi h3.1 h3.2]
theorem qrn {n:Int} (h0:0≤n) (h1:n≤999999999):qez (Lib.itoa n)=n:=by
 rw [q0z h0]
 have hd:=j0p n.toNat
 have hl:=qfp 8 n.toNat (by omega)
 unfold qez q2a
 rw [if_pos (by simp [hd.1,hd.2,hl]),jeu];omega
theorem jmg {v:VD} (h:q0u v=true):jv7 ((jiq v).drop 1)=some v:=by
 obtain ⟨h1,h2,h3,h4,h5⟩:=q1g h
 have d46:q1i 46=false:=by decide
 have m46:=fun n=>qsy d46 n
 obtain ⟨k1,k2,k3,k4⟩:=jjz h [] (by simp) (by simp)
 simp only [List.nil_append] at k1 k2 k3 k4
 have e0:(jiq v).drop 1=Lib.itoa v.1++46::(Lib.itoa v.2.1++46::(Lib.itoa v.2.2.1++(q5t 45 v.2.2.2.1++q5t 43 v.2.2.2.2))):=rfl
 unfold jv7
 rw [e0,k1,k2,k3,k4]
 rw [qak 46 (Lib.itoa v.1) _ (by rw [q0z h1.1];exact m46 _),qak 46 (Lib.itoa v.2.1) _ (by rw [q0z h2.1];exact m46 _),q96 46 (Lib.itoa v.2.2.1) (by rw [q0z h3.1];exact m46 _)]
 simp only [qrn h1.1 h1.2,qrn h2.1 h2.2,qrn h3.1 h3.2]
theorem jok {v:VD} (h:q0u v=true):(jiq v).length≤92:=by
 obtain ⟨h1,h2,h3,h4,h5⟩:=q1g h
 have l1:=qfp 8 v.1.toNat (by omega)
 have l2:=qfp 8 v.2.1.toNat (by omega)
 have l3:=qfp 8 v.2.2.1.toNat (by omega)
 have t1:=q4v h4
 have t2:=q4v h5
 have tt : ∀ (c:UInt8) (s:List UInt8),(q5t c s).length≤s.length+1:=fun c s=>by unfold q5t;split<;>simp
 have u1:=tt 45 v.2.2.2.1
 have u2:=tt 43 v.2.2.2.2
 unfold jiq
 rw [q0z h1.1,q0z h2.1,q0z h3.1]
 simp only [List.length_cons,List.length_append]
 omega
def q19 (s:List UInt8):VD×Bool:=if q0u (ji2 s)&&decide (q3f (ji2 s)=s) then (ji2 s,true) else (v0,false)
theorem jdk {s:List UInt8} {v:VD} (h:q0u v=true) (ht:q3f v=s):q19 s=(v,true):=by
 have e1:s=jiq v:=by rw [← ht];unfold q3f;rw [if_pos h]
 subst e1
 unfold q19
 rw [jmr h,if_pos (by simp [h,ht])]
theorem qyn {s:List UInt8} (h:(q19 s).2=true):q0u (q19 s).1=true∧q3f (q19 s).1=s:=by
 unfold q19 at *
 split at h
 ·rename_i h1
  rw [if_pos h1]
  simp only [Bool.and_eq_true,decide_eq_true_eq] at h1
  exact h1
 ·cases h
theorem jgc {s:List UInt8} (h : ∀ v,q0u v=true→q3f v≠s):q19 s=(v0,false):=by
 unfold q19
 rw [if_neg]
 simp only [Bool.and_eq_true,decide_eq_true_eq]
 exact fun h1=>h _ h1.1 h1.2
end Go.Proofs.YtcdjkibiggjdoaaGreatDoor.AM
namespace Go.Proofs
open Go.RowKit Go.Shelf Go.Lib
shelf_lay LaysM.n171 Nm 171 at Tryz as Tryz.laysItoa
shelf_lay LaysC.n172 Nm 172 at Tryz as Tryz.laysAtoi
set_option linter.unusedVariables false
set_option linter.unusedSimpArgs false
namespace YtcdjkibiggjdoaaGreatDoor.AM
structure Inv (w:World):Prop where
 maxLen : ∃ m,w.cell? ⟨Tryz.laysIndex_ren.g 1,0,none⟩=some (.int .i64 m)
 tab:Lib.TabIs Tryz.prog w "internal/strconv.uint64pow10" .u64 Lib.pow10Tab
 syn : ∃ tp p,w.cell? ⟨Tryz.laysAtoi_ren.g 15,0,none⟩=some (.iface tp p)
 rng : ∃ tp p,w.cell? ⟨Tryz.laysAtoi_ren.g 16,0,none⟩=some (.iface tp p)
theorem gTab:(Tryz.prog.globalNamed "internal/strconv.uint64pow10").isSome=true:=by kernel_rfl
theorem Inv.below {w w':World} (h:Inv w) (hb:Below w.heap.size w w'):Inv w':=by
 obtain ⟨⟨m,hm⟩,ht,⟨t1,p1,h1⟩,⟨t2,p2,h2⟩⟩:=h
 refine ⟨⟨m,(hb.cell (p:=⟨_,0,none⟩) (World.block_lt_of_cell? _ _ hm)).trans hm⟩,?_,⟨t1,p1,(hb.cell (p:=⟨_,0,none⟩) (World.block_lt_of_cell? _ _ h1)).trans h1⟩,⟨t2,p2,(hb.cell (p:=⟨_,0,none⟩) (World.block_lt_of_cell? _ _ h2)).trans h2⟩⟩
 obtain ⟨g,hg⟩:=Option.isSome_iff_exists.1 gTab
 refine var?_below hb hg ?_ ht
 have hv:w.var? Tryz.prog "internal/strconv.uint64pow10" = some _:=ht
 unfold World.var? at hv
 rw [hg] at hv
 simp only [Option.bind_some] at hv
 split at hv
 ·rename_i h5;exact (Array.getElem?_eq_some_iff.1 h5).1
 ·cases hv
theorem q2r:Know Inv Inv:=⟨fun w w' h hb=>h.below hb,fun _ h=>h⟩
variable {P:Program}
theorem q5r {Pc:Nat→Nat→Prop} {w w':World} {v:Value} {d:D} {e:Ending} (he:e = .returned v) (hb:Below w.heap.size w w') (hv:q1w (q54 Pc) qbm w' v d) :
  ∃ v' Pc',e = .returned v'∧Below w.heap.size w w'∧(∀ b o,Pc b o→Pc' b o)∧(∀ b o,Pc' b o→Pc b o∨(w.heap.size≤b∧b<w'.heap.size))∧q1w (q54 Pc') qbm w' v' d :=
 ⟨v,Pc,he,hb,fun _ _ h=>h,fun _ _ h=>Or.inl h,hv⟩
abbrev quw:SD:=.one (.c (.d .str))
abbrev intA:SD:=.one (.c (.d (.int .i64)))
abbrev jqf:SD:=.one (.c (.d .bool))
def qrb (s sep:List UInt8):Option Int:=match sep with
 | [c]=>if s.length<4294967281 then some (Lib.index s [c]) else none
 | _=>none
def je2:FC:={ f:=115,args:=[quw,quw],res:=intA,F:=fun p=>qrb p.1 p.2 }
theorem jpu:q0a Inv Tryz.prog je2:=fun G hG=>⟨⟨by kernel_rfl,fun a r h=>by
 obtain ⟨s,sep⟩:=a
 have h':qrb s sep=some r:=h
 unfold qrb at h'
 split at h'
 case h_2=>cases h'
 rename_i c
 split at h'
 case isFalse=>cases h'
 rename_i hc
 have hr:Lib.index s [c]=r:=Option.some.inj h'
 intro Pc w vs hg hlt hv
 obtain ⟨m,hm⟩:=(hG.im w hg).maxLen
 obtain ⟨l⟩:=vs
 match l,hv with
 | [x,y],⟨h1,h2,_⟩ =>
  obtain rfl:x = .string (ba s):=q07 h1
  obtain rfl:y = .string (ba [c]):=q07 h2
  have e1:(ba s).data.toList=s:=by simp [ba]
  have e2:(ba [c]).data.toList = [c]:=by simp [ba]
  have hh:=Any.stringslite_Index { Tryz.laysIndex with } (ba s) (ba [c]) m w (by rw [q1o];exact hc) hm
  rw [e1,e2,hr] at hh
  refine hh.mono ?_
  rintro e w' ⟨rfl,rfl⟩
  exact q5r rfl (Below.refl _ _) (q05 _)⟩,rfl⟩
def qpt (n:Int):Option (List UInt8):=if -9223372036854775808≤n∧n≤9223372036854775807 then some (Lib.itoa n) else none
def jlr:FC:={ f:=94,args:=[intA],res:=quw,F:=fun p=>qpt p }
theorem jw0:q0a Inv Tryz.prog jlr:=fun G hG=>⟨⟨by kernel_rfl,fun (n:Int) r h=>by
 have h':qpt n=some r:=h
 unfold qpt at h'
 split at h'
 case isFalse=>cases h'
 rename_i hc
 have hr:Lib.itoa n=r:=Option.some.inj h'
 intro Pc w vs hg hlt hv
 obtain ⟨l⟩:=vs
 match l,hv with
 | [x],⟨h1,_⟩ =>
  obtain rfl:x = .int .i64 n:=q07 h1
  refine (Any.strconv_Itoa Tryz.laysItoa n hc.1 hc.2 w (hG.im w hg).tab).mono ?_
  rintro e w' ⟨rfl,k,os,rfl⟩
  subst hr
  exact q5r rfl (Lib.below_grow _ w (Nat.le_refl _) k os) (q05 (.string (ba (Lib.itoa n))))⟩,rfl⟩
end YtcdjkibiggjdoaaGreatDoor.AM
end Go.Proofs
namespace Go.Proofs
open Go.RowKit Go.Shelf Go.Lib
shelf_lay LaysM.n146 Nm 146 at Tryz as Tryz.laysSplit
shelf_lay Lays.n106 Nm 106 at Tryz as Tryz.laysCompare
set_option linter.unusedVariables false
set_option linter.unusedSimpArgs false
namespace YtcdjkibiggjdoaaGreatDoor.AM
variable {P:Program}
def qyi:FC:={ f:=111,args:=[quw,quw],res:=intA,F:=fun p=>some (Lib.compareBytes p.1 p.2) }
def qhy (a b:List UInt8):Option Int:=some (Lib.compareBytes a b)
theorem jin:q0a Inv Tryz.prog qyi:=fun G hG=>⟨⟨by kernel_rfl,fun a r h=>by
 obtain ⟨s,t⟩:=a
 have hr:Lib.compareBytes s t=r:=Option.some.inj h
 intro Pc w vs hg hlt hv
 obtain ⟨l⟩:=vs
 match l,hv with
 | [x,y],⟨h1,h2,_⟩ =>
  obtain rfl:x = .string (ba s):=q07 h1
  obtain rfl:y = .string (ba t):=q07 h2
  have e1:(ba s).data.toList=s:=by simp [ba]
  have e2:(ba t).data.toList=t:=by simp [ba]
  have hh:=Any.strings_Compare Tryz.laysCompare (ba s) (ba t) w
  rw [e1,e2,hr] at hh
  refine hh.mono ?_
  rintro e w' ⟨rfl,rfl⟩
  exact q5r rfl (Below.refl _ _) (q05 _)⟩,rfl⟩
theorem j3t (s:List UInt8) (w:World) (hI:Inv w) (hlim:s.length≤281474976710656):Calls Tryz.prog 73 #[.string (ba s)] w fun e w'=>e = .returned (.int .i64 (qj3 s))∧Below w.heap.size w w':=by
 have e1:(ba s).data.toList=s:=by simp [ba]
 have hl:(ba s).size≤281474976710656:=by rw [q1o];exact hlim
 obtain ⟨ts,ps,hs⟩:=hI.syn
 obtain ⟨tr,pr,hr⟩:=hI.rng
 go_enter Tryz.func73,Tryz.ntmps73
 unfold qj3
 cases h:Lib.atoiAll s with
 | ok v =>
  go_wp2_with (go_at_call 93;refine (Any.strconv_Atoi_ok Tryz.laysAtoi (ba s) (by omega) v (by rw [e1];exact h) w).mono ?_)
  rintro e w' ⟨rfl,hw⟩
  go_wp2
  go_ret
  refine ⟨rfl,?_⟩
  rcases hw with rfl|⟨t,rfl⟩
  ·exact Below.refl _ _
  ·exact Lib.bytesWorld_below _ _ _
 | «syntax» =>
  go_wp2_with (go_at_call 93;refine (Any.strconv_Atoi_syntax Tryz.laysAtoi (ba s) hl (by rw [e1];exact h) _ w hs (Or.inr ⟨_,_,rfl⟩)).mono ?_)
  rintro e w' ⟨N,rfl,hN,hc,hb⟩
  go_wp2
  go_ret
  exact ⟨rfl,hb⟩
 | range =>
  go_wp2_with (go_at_call 93;refine (Any.strconv_Atoi_range Tryz.laysAtoi (ba s) hl (by rw [e1];exact h) _ w hr (Or.inr ⟨_,_,rfl⟩)).mono ?_)
  rintro e w' ⟨N,rfl,hN,hc,hb⟩
  go_wp2
  go_ret
  exact ⟨rfl,hb⟩
def q6d (s:List UInt8):Option Int:=if s.length≤281474976710656 then some (qj3 s) else none
def j2m:FC:={ f:=73,args:=[quw],res:=intA,F:=fun p=>q6d p }
theorem jnm:q0a Inv Tryz.prog j2m:=fun G hG=>⟨⟨by kernel_rfl,fun (s:List UInt8) r h=>by
 have h':q6d s=some r:=h
 unfold q6d at h'
 split at h'
 case isFalse=>cases h'
 rename_i hc
 have hr:qj3 s=r:=Option.some.inj h'
 intro Pc w vs hg hlt hv
 obtain ⟨l⟩:=vs
 match l,hv with
 | [x],⟨h1,_⟩ =>
  obtain rfl:x = .string (ba s):=q07 h1
  refine (j3t s w (hG.im w hg) hc).mono ?_
  rintro e w' ⟨rfl,hb⟩
  subst hr
  exact q5r rfl hb (q05 _)⟩,rfl⟩
theorem jwv:Tryz.laysSplit_ren.g 1=Tryz.laysIndex_ren.g 1:=by kernel_rfl
def q8v (s sep:List UInt8):Option (List (List UInt8)):=match sep with
 | [c]=>if s.length<4294967281 then some (spl c [] s) else none
 | _=>none
def qoz:FC:={ f:=41,args:=[quw,quw],res:=.one (.c (.d (.lst .str))),F:=fun p=>q8v p.1 p.2 }
theorem qzn:q0a Inv Tryz.prog qoz:=fun G hG=>⟨⟨by kernel_rfl,fun a r h=>by
 obtain ⟨s,sep⟩:=a
 have h':q8v s sep=some r:=h
 unfold q8v at h'
 split at h'
 case h_2=>cases h'
 rename_i c
 split at h'
 case isFalse=>cases h'
 rename_i hc
 have hr:(Lib.splitB (ba [c]) 0 (Lib.countB (ba s) (ba [c])) (ba s)).map unB=r:=(jg0 c s).trans (Option.some.inj h')
 intro Pc w vs hg hlt hv
 obtain ⟨m,hm⟩:=(hG.im w hg).maxLen
 obtain ⟨l⟩:=vs
 match l,hv with
 | [x,y],⟨h1,h2,_⟩ =>
  obtain rfl:x = .string (ba s):=q07 h1
  obtain rfl:y = .string (ba [c]):=q07 h2
  have b1:1≤(ba [c]).size:=by rw [q1o];exact Nat.le_refl _
  have hlen:(Lib.splitB (ba [c]) 0 (Lib.countB (ba s) (ba [c])) (ba s)).length=Lib.countB (ba s) (ba [c])+1:=Lib.splitB_all (ba [c]) b1 0 _ (ba s) rfl
  refine (Any.strings_Split { Tryz.laysSplit with } Tryz.laysSplit.i9 (ba s) (ba [c]) m w (by rw [q1o];exact hc) (by rw [jwv];exact hm) b1).mono ?_
  rintro e w' ⟨rfl,rfl⟩
  generalize hL:Lib.splitB (ba [c]) 0 (Lib.countB (ba s) (ba [c])) (ba s)=L at hlen hr
  refine ⟨_,fun b o=>Pc b o∨b=w.heap.size,rfl,(Below.refl _ _).alloc (Nat.le_refl _) _,fun b o hp=>Or.inl hp,?_,?_⟩
  ·rintro b o (hp|rfl)
   ·exact Or.inl hp
   ·exact Or.inr ⟨Nat.le_refl _,by simp⟩
  ·show DatRep _ _ _ (.lst 1 (r.map (q04 .str)))
   have hr2:r.map (q04 .str)=L.map fun x=>[Dat.v (.string x)]:=by
    rw [← hr,List.map_map]
    exact List.map_congr_left fun x _=>by show [Dat.v (.string (ba (unB x)))]=_;rw [jdc]
   rw [hr2,← hlen]
   have hmax:L.length≤maxLen:=by
    have:=Lib.countB_le (ba [c]) b1 (ba s).size (ba s) (Nat.le_refl _)
    rw [q1o] at this
    have hM:maxLen=9223372036854775807:=by decide
    omega
   refine .lst _ _ _ 1 _ w.heap.size 0 (fun k j=>.string (L.getD k ⟨#[]⟩)) (by simp) (Nat.le_refl _) hmax (fun x hx=>?_) (fun _=>rfl) (fun k j hk hj=>⟨Or.inr rfl,?_,rfl⟩) (fun k j hk hj=>?_)
   ·obtain ⟨y,_,rfl⟩:=List.mem_map.1 hx;rfl
   ·have hk':k<L.length:=by simpa using hk
    have hj0:j=0:=by omega
    subst hj0
    rw [World.cell?_alloc_new]
    simp [List.getD,hk']
   ·have hk':k<L.length:=by simpa using hk
    have hj0:j=0:=by simp at hj;exact hj
    subst hj0
    simp [List.getD,hk']
    exact .v _⟩,rfl⟩
end YtcdjkibiggjdoaaGreatDoor.AM
end Go.Proofs
namespace Go.Proofs.YtcdjkibiggjdoaaGreatDoor.AM
open Go.RowKit
set_option linter.unusedVariables false
set_option maxRecDepth 20000
def qtu (n:Nat):List LC:=[]
def q55 (n:Nat) (a1:Int):Option (Bool) :=
 (bif decide ((48:Int)≤a1) then some (decide (a1≤(57:Int))) else some false)
def q6z (n:Nat):FC:={ f:=124,args:=[.one (.c (.d (.int .u8)))],res:=.one (.c (.d .bool)),F:=fun p=>q55 n p }
def qwq (n:Nat):List FC:=[]
theorem j76 (n:Nat) {G:World→Prop} (hG:Know Inv G) : ∀ c∈qwq n,q1b Tryz.prog G c∧q0e c.args=true:=(fun _ h=>by cases h)
def qx0:q0c:=[]
theorem jgu:drB qx0 (q00 Tryz.f124)=true:=by kernel_rfl
theorem jhh (n:Nat) : ∀ a,(q6z n).F a=main Tryz.prog 9 (qwq n) (qtu n) qx0 (q00 Tryz.f124) [.tmp 2] (q6z n).args (q6z n).res a:=by intro a;kernel_rfl
theorem qxz (n:Nat):q0a Inv Tryz.prog (q6z n):=fun G hG=>⟨⟨by kernel_rfl,fun a r h=>q03 (c:=q00 Tryz.f124) Tryz.func124 (by kernel_rfl) (by kernel_rfl) (Nat.le_of_ble_eq_true (by kernel_rfl)) hG.st (by kernel_rfl) (rs:=[.tmp 2]) (by kernel_rfl) (j76 n hG) (lts:=qtu n) (fun F hF hFG=>have hK:Know Inv F.G:=hFG ▸ hG;(q02 fun j L h1 h2 h3=>absurd h2 (Nat.not_lt.2 (Nat.le_trans (by decide +kernel) h1)))) jgu ((jhh n a).symm.trans h)⟩,rfl⟩
def qy6 (n:Nat):List LC:=[]
def qot (n:Nat) (a1:Int):Option (Bool) :=
 (bif decide ((97:Int)≤a1) then (bif decide (a1≤(122:Int)) then some true else (bif decide ((65:Int)≤a1) then (bif decide (a1≤(90:Int)) then some true else (q55 n a1).bind fun (r1:Bool)=>(bif r1 then some true else some (decide (a1=(45:Int))))) else (q55 n a1).bind fun (r2:Bool)=>(bif r2 then some true else some (decide (a1=(45:Int)))))) else (bif decide ((65:Int)≤a1) then (bif decide (a1≤(90:Int)) then some true else (q55 n a1).bind fun (r3:Bool)=>(bif r3 then some true else some (decide (a1=(45:Int))))) else (q55 n a1).bind fun (r4:Bool)=>(bif r4 then some true else some (decide (a1=(45:Int))))))
def qdj (n:Nat):FC:={ f:=106,args:=[.one (.c (.d (.int .u8)))],res:=.one (.c (.d .bool)),F:=fun p=>qot n p }
def j6s (n:Nat):List FC:=[q6z n]
theorem jb5 (n:Nat) {G:World→Prop} (hG:Know Inv G) : ∀ c∈j6s n,q1b Tryz.prog G c∧q0e c.args=true:=List.forall_mem_cons.2 ⟨qxz n G hG,(fun _ h=>by cases h)⟩
def j34:q0c:=[]
theorem jkv:drB j34 (q00 Tryz.f106)=true:=by kernel_rfl
theorem jp1 (n:Nat) : ∀ a,(qdj n).F a=main Tryz.prog 25 (j6s n) (qy6 n) j34 (q00 Tryz.f106) [.tmp 2] (qdj n).args (qdj n).res a:=by intro a;kernel_rfl
theorem jk5 (n:Nat):q0a Inv Tryz.prog (qdj n):=fun G hG=>⟨⟨by kernel_rfl,fun a r h=>q03 (c:=q00 Tryz.f106) Tryz.func106 (by kernel_rfl) (by kernel_rfl) (Nat.le_of_ble_eq_true (by kernel_rfl)) hG.st (by kernel_rfl) (rs:=[.tmp 2]) (by kernel_rfl) (jb5 n hG) (lts:=qy6 n) (fun F hF hFG=>have hK:Know Inv F.G:=hFG ▸ hG;(q02 fun j L h1 h2 h3=>absurd h2 (Nat.not_lt.2 (Nat.le_trans (by decide +kernel) h1)))) jkv ((jp1 n a).symm.trans h)⟩,rfl⟩
@[reducible] def qer:SSt:=⟨[(0,.one (.c (.d .str))),(1,.one (.c (.fn 106 []))),(7,.one (.c (.d (.int .i64)))),(8,.one (.c (.d (.int .i64))))],[],[]⟩
@[reducible] def q7s:List (Exit×SSt):=[(.ret,⟨[(4,.one (.c (.d .bool)))],[],[]⟩),(.exit 0,⟨[(0,.one (.c (.d .str)))],[],[]⟩)]
def qse (n:Nat) (rec:(List UInt8)→Int→Int→Option (((Bool×(Unit))×(Unit)×(Unit))⊕(((List UInt8)×(Unit))×(Unit)×(Unit)))) (a1:List UInt8) (a2:Int) (a3:Int):Option (((Bool×(Unit))×(Unit)×(Unit))⊕(((List UInt8)×(Unit))×(Unit)×(Unit))) :=
 (bif decide (a3<a2) then (sAt a1 a3).bind fun (c1:Int)=>(qot n c1).bind fun (r2:Bool)=>(bif !r2 then some (Sum.inl ((false,()),((),()))) else q0b (IntKind.wrap .i64 (a3+(1:Int))) fun (n3:Int)=>rec a1 a2 n3) else some (Sum.inr (((a1,()),((),())))))
def qsj (n:Nat) (rec:pSt qer→Option (q0f q7s)) (p:pSt qer):Option (q0f q7s):=qse n (fun a1 a2 a3=>rec ((a1,((),(a2,(a3,())))),((),()))) p.1.1 p.1.2.2.1 p.1.2.2.2.1
def q85 (n m:Nat) (a1:List UInt8) (a2:Int) (a3:Int):Option (((Bool×(Unit))×(Unit)×(Unit))⊕(((List UInt8)×(Unit))×(Unit)×(Unit))):=q0g (qsj n) m ((a1,((),(a2,(a3,())))),((),()))
theorem qkl (n m:Nat) (a1:List UInt8) (a2:Int) (a3:Int):q85 n (m+1) a1 a2 a3=qse n (fun a1 a2 a3=>q85 n m a1 a2 a3) a1 a2 a3:=rfl
def j6g (n:Nat):LC:={ sh:=qer,outs:=q7s,F:=q0g (qsj n) n }
def ql6 (n:Nat):List LC:=[j6g n]
def qp4 (n:Nat) (a1:List UInt8) (a2:Unit):Option (Bool) :=
 (q85 n n a1 ((List.length a1:Nat):Int) (0:Int)).bind fun (o4:((Bool×(Unit))×(Unit)×(Unit))⊕(((List UInt8)×(Unit))×(Unit)×(Unit)))=>Sum.elim (fun (q5:(Bool×(Unit))×(Unit)×(Unit))=>some q5.1.1) (fun (q6:((List UInt8)×(Unit))×(Unit)×(Unit))=>some (!decide (q6.1.1=([]:List UInt8)))) o4
def qdl (n:Nat):FC:={ f:=105,args:=[.one (.c (.d .str)),.one (.c (.fn 106 []))],res:=.one (.c (.d .bool)),F:=fun p=>qp4 n p.1 p.2 }
def quj (n:Nat):List FC:=[qdj n]
theorem qpm (n:Nat) {G:World→Prop} (hG:Know Inv G) : ∀ c∈quj n,q1b Tryz.prog G c∧q0e c.args=true:=List.forall_mem_cons.2 ⟨jk5 n G hG,(fun _ h=>by cases h)⟩
def qui:q0c:=[]
theorem j4k:drB qui (q00 Tryz.f105)=true:=by kernel_rfl
theorem jhq (n:Nat) : ∀ rec p,qsj n rec p=round Tryz.prog 20 (quj n) (ql6 n) qui 1 qer q7s (q01 0 0 (q00 Tryz.f105)) rec p:=by intro rec p;kernel_rfl
theorem jc2 (n:Nat) {F:Fr} (hF:F.n=20) (hK:Know Inv F.G):q71 Tryz.prog F (j6g n) (q01 0 0 (q00 Tryz.f105)) :=
 q0h hF (by kernel_rfl) (qpm n hK) (jhq n) (fuel:=n) (fun _=>rfl) (q02 fun j L h1 h2 h3=>absurd h2 (Nat.not_lt.2 (Nat.le_trans (by decide +kernel) h1))) (q0r j4k)
theorem jn0 (n:Nat) : ∀ a,(qdl n).F a=main Tryz.prog 20 (quj n) (ql6 n) qui (q00 Tryz.f105) [.tmp 4] (qdl n).args (qdl n).res a:=by intro a;kernel_rfl
theorem jkp (n:Nat):q0a Inv Tryz.prog (qdl n):=fun G hG=>⟨⟨by kernel_rfl,fun a r h=>q03 (c:=q00 Tryz.f105) Tryz.func105 (by kernel_rfl) (by kernel_rfl) (Nat.le_of_ble_eq_true (by kernel_rfl)) hG.st (by kernel_rfl) (rs:=[.tmp 4]) (by kernel_rfl) (qpm n hG) (lts:=ql6 n) (fun F hF hFG=>have hK:Know Inv F.G:=hFG ▸ hG;(q02 (c:=(q00 Tryz.f105)) (fun j L h1 h2 h3=>by
  have h2':j<1:=Nat.lt_of_lt_of_le h2 (by decide +kernel)
  match j,h1,h2',h3 with
  | 0,_,_,h3=>obtain rfl:=Option.some.inj h3;exact (show q01 0 0 (q00 Tryz.f105)=q01 0 0 (q00 Tryz.f105) by kernel_rfl) ▸ jc2 n hF hK
  | j+1,_,h2',_=>exact absurd h2' (by omega)))) j4k ((jn0 n a).symm.trans h)⟩,rfl⟩
@[reducible] def qek:SSt:=⟨[(0,.one (.c (.d .str))),(1,.one (.c (.fn 124 []))),(7,.one (.c (.d (.int .i64)))),(8,.one (.c (.d (.int .i64))))],[],[]⟩
@[reducible] def q7z:List (Exit×SSt):=[(.ret,⟨[(4,.one (.c (.d .bool)))],[],[]⟩),(.exit 0,⟨[(0,.one (.c (.d .str)))],[],[]⟩)]
def qpw (n:Nat) (rec:(List UInt8)→Int→Int→Option (((Bool×(Unit))×(Unit)×(Unit))⊕(((List UInt8)×(Unit))×(Unit)×(Unit)))) (a1:List UInt8) (a2:Int) (a3:Int):Option (((Bool×(Unit))×(Unit)×(Unit))⊕(((List UInt8)×(Unit))×(Unit)×(Unit))) :=
 (bif decide (a3<a2) then (sAt a1 a3).bind fun (c1:Int)=>(q55 n c1).bind fun (r2:Bool)=>(bif !r2 then some (Sum.inl ((false,()),((),()))) else q0b (IntKind.wrap .i64 (a3+(1:Int))) fun (n3:Int)=>rec a1 a2 n3) else some (Sum.inr (((a1,()),((),())))))
def qtb (n:Nat) (rec:pSt qek→Option (q0f q7z)) (p:pSt qek):Option (q0f q7z):=qpw n (fun a1 a2 a3=>rec ((a1,((),(a2,(a3,())))),((),()))) p.1.1 p.1.2.2.1 p.1.2.2.2.1
def q82 (n m:Nat) (a1:List UInt8) (a2:Int) (a3:Int):Option (((Bool×(Unit))×(Unit)×(Unit))⊕(((List UInt8)×(Unit))×(Unit)×(Unit))):=q0g (qtb n) m ((a1,((),(a2,(a3,())))),((),()))
theorem qk6 (n m:Nat) (a1:List UInt8) (a2:Int) (a3:Int):q82 n (m+1) a1 a2 a3=qpw n (fun a1 a2 a3=>q82 n m a1 a2 a3) a1 a2 a3:=rfl
def j5f (n:Nat):LC:={ sh:=qek,outs:=q7z,F:=q0g (qtb n) n }
def qku (n:Nat):List LC:=[j5f n]
def qp5 (n:Nat) (a1:List UInt8) (a2:Unit):Option (Bool) :=
 (q82 n n a1 ((List.length a1:Nat):Int) (0:Int)).bind fun (o4:((Bool×(Unit))×(Unit)×(Unit))⊕(((List UInt8)×(Unit))×(Unit)×(Unit)))=>Sum.elim (fun (q5:(Bool×(Unit))×(Unit)×(Unit))=>some q5.1.1) (fun (q6:((List UInt8)×(Unit))×(Unit)×(Unit))=>some (!decide (q6.1.1=([]:List UInt8)))) o4
def qc2 (n:Nat):FC:={ f:=105,args:=[.one (.c (.d .str)),.one (.c (.fn 124 []))],res:=.one (.c (.d .bool)),F:=fun p=>qp5 n p.1 p.2 }
def qqs (n:Nat):List FC:=[q6z n]
theorem qsf (n:Nat) {G:World→Prop} (hG:Know Inv G) : ∀ c∈qqs n,q1b Tryz.prog G c∧q0e c.args=true:=List.forall_mem_cons.2 ⟨qxz n G hG,(fun _ h=>by cases h)⟩
def qpi:q0c:=[]
theorem j3a:drB qpi (q00 Tryz.f105)=true:=by kernel_rfl
theorem ji7 (n:Nat) : ∀ rec p,qtb n rec p=round Tryz.prog 20 (qqs n) (qku n) qpi 1 qek q7z (q01 0 0 (q00 Tryz.f105)) rec p:=by intro rec p;kernel_rfl
theorem j8b (n:Nat) {F:Fr} (hF:F.n=20) (hK:Know Inv F.G):q71 Tryz.prog F (j5f n) (q01 0 0 (q00 Tryz.f105)) :=
 q0h hF (by kernel_rfl) (qsf n hK) (ji7 n) (fuel:=n) (fun _=>rfl) (q02 fun j L h1 h2 h3=>absurd h2 (Nat.not_lt.2 (Nat.le_trans (by decide +kernel) h1))) (q0r j3a)
theorem jo6 (n:Nat) : ∀ a,(qc2 n).F a=main Tryz.prog 20 (qqs n) (qku n) qpi (q00 Tryz.f105) [.tmp 4] (qc2 n).args (qc2 n).res a:=by intro a;kernel_rfl
theorem jos (n:Nat):q0a Inv Tryz.prog (qc2 n):=fun G hG=>⟨⟨by kernel_rfl,fun a r h=>q03 (c:=q00 Tryz.f105) Tryz.func105 (by kernel_rfl) (by kernel_rfl) (Nat.le_of_ble_eq_true (by kernel_rfl)) hG.st (by kernel_rfl) (rs:=[.tmp 4]) (by kernel_rfl) (qsf n hG) (lts:=qku n) (fun F hF hFG=>have hK:Know Inv F.G:=hFG ▸ hG;(q02 (c:=(q00 Tryz.f105)) (fun j L h1 h2 h3=>by
  have h2':j<1:=Nat.lt_of_lt_of_le h2 (by decide +kernel)
  match j,h1,h2',h3 with
  | 0,_,_,h3=>obtain rfl:=Option.some.inj h3;exact (show q01 0 0 (q00 Tryz.f105)=q01 0 0 (q00 Tryz.f105) by kernel_rfl) ▸ j8b n hF hK
  | j+1,_,h2',_=>exact absurd h2' (by omega)))) j3a ((jo6 n a).symm.trans h)⟩,rfl⟩
def qyq (n:Nat):List LC:=[]
def qov (n:Nat) (a1:List UInt8):Option (Bool) :=
 (qp4 n a1 ()).bind fun (r1:Bool)=>some r1
def qck (n:Nat):FC:={ f:=81,args:=[.one (.c (.d .str))],res:=.one (.c (.d .bool)),F:=fun p=>qov n p }
def j3y (n:Nat):List FC:=[qdl n]
theorem jbb (n:Nat) {G:World→Prop} (hG:Know Inv G) : ∀ c∈j3y n,q1b Tryz.prog G c∧q0e c.args=true:=List.forall_mem_cons.2 ⟨jkp n G hG,(fun _ h=>by cases h)⟩
def j7y:q0c:=[]
theorem jkt:drB j7y (q00 Tryz.f81)=true:=by kernel_rfl
theorem joi (n:Nat) : ∀ a,(qck n).F a=main Tryz.prog 5 (j3y n) (qyq n) j7y (q00 Tryz.f81) [.tmp 2] (qck n).args (qck n).res a:=by intro a;kernel_rfl
theorem j6x (n:Nat):q0a Inv Tryz.prog (qck n):=fun G hG=>⟨⟨by kernel_rfl,fun a r h=>q03 (c:=q00 Tryz.f81) Tryz.func81 (by kernel_rfl) (by kernel_rfl) (Nat.le_of_ble_eq_true (by kernel_rfl)) hG.st (by kernel_rfl) (rs:=[.tmp 2]) (by kernel_rfl) (jbb n hG) (lts:=qyq n) (fun F hF hFG=>have hK:Know Inv F.G:=hFG ▸ hG;(q02 fun j L h1 h2 h3=>absurd h2 (Nat.not_lt.2 (Nat.le_trans (by decide +kernel) h1)))) jkt ((joi n a).symm.trans h)⟩,rfl⟩
def qn6 (n:Nat):List LC:=[]
def q6u (n:Nat) (a1:List UInt8):Option (Bool) :=
 (qp5 n a1 ()).bind fun (r1:Bool)=>some r1
def q4n (n:Nat):FC:={ f:=104,args:=[.one (.c (.d .str))],res:=.one (.c (.d .bool)),F:=fun p=>q6u n p }
def qq5 (n:Nat):List FC:=[qc2 n]
theorem j23 (n:Nat) {G:World→Prop} (hG:Know Inv G) : ∀ c∈qq5 n,q1b Tryz.prog G c∧q0e c.args=true:=List.forall_mem_cons.2 ⟨jos n G hG,(fun _ h=>by cases h)⟩
def qul:q0c:=[]
theorem j9a:drB qul (q00 Tryz.f104)=true:=by kernel_rfl
theorem jbn (n:Nat) : ∀ a,(q4n n).F a=main Tryz.prog 5 (qq5 n) (qn6 n) qul (q00 Tryz.f104) [.tmp 2] (q4n n).args (q4n n).res a:=by intro a;kernel_rfl
theorem qrh (n:Nat):q0a Inv Tryz.prog (q4n n):=fun G hG=>⟨⟨by kernel_rfl,fun a r h=>q03 (c:=q00 Tryz.f104) Tryz.func104 (by kernel_rfl) (by kernel_rfl) (Nat.le_of_ble_eq_true (by kernel_rfl)) hG.st (by kernel_rfl) (rs:=[.tmp 2]) (by kernel_rfl) (j23 n hG) (lts:=qn6 n) (fun F hF hFG=>have hK:Know Inv F.G:=hFG ▸ hG;(q02 fun j L h1 h2 h3=>absurd h2 (Nat.not_lt.2 (Nat.le_trans (by decide +kernel) h1)))) j9a ((jbn n a).symm.trans h)⟩,rfl⟩
def qid (n:Nat):List LC:=[]
def qft (n:Nat) (a1:List UInt8):Option (Bool) :=
 (qov n a1).bind fun (r1:Bool)=>(bif r1 then (bif decide (a1=([48]:List UInt8)) then some true else (sAt a1 (0:Int)).bind fun (c2:Int)=>(bif !decide (c2=(48:Int)) then some true else (q6u n a1).bind fun (r3:Bool)=>some (!r3))) else some false)
def q8c (n:Nat):FC:={ f:=80,args:=[.one (.c (.d .str))],res:=.one (.c (.d .bool)),F:=fun p=>qft n p }
def qmh (n:Nat):List FC:=[qck n,q4n n]
theorem qvw (n:Nat) {G:World→Prop} (hG:Know Inv G) : ∀ c∈qmh n,q1b Tryz.prog G c∧q0e c.args=true:=List.forall_mem_cons.2 ⟨j6x n G hG,List.forall_mem_cons.2 ⟨qrh n G hG,(fun _ h=>by cases h)⟩⟩
def qmu:q0c:=[]
theorem j4g:drB qmu (q00 Tryz.f80)=true:=by kernel_rfl
theorem j3x (n:Nat) : ∀ a,(q8c n).F a=main Tryz.prog 19 (qmh n) (qid n) qmu (q00 Tryz.f80) [.tmp 2] (q8c n).args (q8c n).res a:=by intro a;kernel_rfl
theorem j7r (n:Nat):q0a Inv Tryz.prog (q8c n):=fun G hG=>⟨⟨by kernel_rfl,fun a r h=>q03 (c:=q00 Tryz.f80) Tryz.func80 (by kernel_rfl) (by kernel_rfl) (Nat.le_of_ble_eq_true (by kernel_rfl)) hG.st (by kernel_rfl) (rs:=[.tmp 2]) (by kernel_rfl) (qvw n hG) (lts:=qid n) (fun F hF hFG=>have hK:Know Inv F.G:=hFG ▸ hG;(q02 fun j L h1 h2 h3=>absurd h2 (Nat.not_lt.2 (Nat.le_trans (by decide +kernel) h1)))) j4g ((j3x n a).symm.trans h)⟩,rfl⟩
end Go.Proofs.YtcdjkibiggjdoaaGreatDoor.AM
namespace Go.Proofs.YtcdjkibiggjdoaaGreatDoor.AM
open Go.RowKit
set_option linter.unusedVariables false
theorem jyb {β:Type} {l:List β} {j:Nat} (h:j<l.length):nth l j=some l[j]:=by rw [q7v,List.getElem?_eq_getElem h]
theorem q1k {β:Type} {l:List β} {j:Nat} (h:j<l.length):q1a l (j:Int)=some l[j]:=by
 unfold q1a;rw [if_pos (by omega),Int.toNat_natCast,jyb h]
theorem q2z {s:List UInt8} {j:Nat} (h:j<s.length):sAt s (j:Int)=some ((s[j].toNat:Nat):Int):=by
 unfold sAt;rw [q1k h];rfl
theorem sub_le {β:Type} {l:List β} {a b:Nat} (h1:a≤b) (h2:b≤l.length):q7n l (a:Int) (b:Int)=some ((l.drop a).take (b - a)):=by
 unfold q7n;rw [if_pos ⟨by omega,by omega,by omega⟩,Int.toNat_natCast,Int.toNat_natCast]
theorem sub_zero {β:Type} {l:List β} {b:Nat} (h2:b≤l.length):q7n l (0:Int) (b:Int)=some (l.take b):=by
 have:=sub_le (l:=l) (a:=0) (b:=b) (Nat.zero_le _) h2
 simpa using this
theorem qdg {β:Type} {k:Nat} {xs ys:List β} (h:(xs.length+ys.length)*k≤140737488355328):qj6 k xs ys=some (xs++ys):=by
 unfold qj6;rw [if_pos h]
theorem q06 {i:Nat} (h:i<4611686018427387904):IntKind.wrap .i64 ((i:Int)+1)=((i+1:Nat):Int):=by rw [wrap64 (by omega) (by omega)];rfl
theorem qp6 {i:Nat} (h:i<4611686018427387904):IntKind.wrap .i64 (i:Int)=(i:Int):=by rw [wrap64 (by omega) (by omega)]
theorem wrap_add {i j:Nat} (h:i<1000000000000) (h2:j<1000000000000):IntKind.wrap .i64 ((i:Int)+(j:Int))=((i+j:Nat):Int):=by rw [wrap64 (by omega) (by omega)];omega
end Go.Proofs.YtcdjkibiggjdoaaGreatDoor.AM
namespace Go.Proofs.YtcdjkibiggjdoaaGreatDoor.AM
open Go.RowKit
set_option linter.unusedVariables false
set_option linter.unusedSimpArgs false
theorem jfe (n:Nat) (c:UInt8):q55 n ((c.toNat:Nat):Int)=some (q1i c):=by
 unfold q55 q1i
 have h1:decide ((48:Int)≤((c.toNat:Nat):Int))=decide (48≤c.toNat):=decide_eq_decide.2 (by omega)
 have h2:decide (((c.toNat:Nat):Int)≤(57:Int))=decide (c.toNat≤57):=decide_eq_decide.2 (by omega)
 rw [h1,h2]
 cases decide (48≤c.toNat)<;>cases decide (c.toNat≤57)<;>rfl
theorem jum (n:Nat) (c:UInt8):qot n ((c.toNat:Nat):Int)=some (qux c):=by
 unfold qot qux
 have h1:decide ((97:Int)≤((c.toNat:Nat):Int))=decide (97≤c.toNat):=decide_eq_decide.2 (by omega)
 have h2:decide (((c.toNat:Nat):Int)≤(122:Int))=decide (c.toNat≤122):=decide_eq_decide.2 (by omega)
 have h3:decide ((65:Int)≤((c.toNat:Nat):Int))=decide (65≤c.toNat):=decide_eq_decide.2 (by omega)
 have h4:decide (((c.toNat:Nat):Int)≤(90:Int))=decide (c.toNat≤90):=decide_eq_decide.2 (by omega)
 have h5:decide (((c.toNat:Nat):Int)=(45:Int))=decide (c.toNat=45):=decide_eq_decide.2 (by omega)
 rw [h1,h2,h3,h4,h5,jfe]
 cases decide (97≤c.toNat)<;>cases decide (c.toNat≤122)<;>cases decide (65≤c.toNat)<;>cases decide (c.toNat≤90)<;>cases q1i c<;>rfl
theorem qt0 (n:Nat) (s:List UInt8) (hL:s.length≤1000000) : ∀ m j:Nat,j≤s.length→s.length - j<m→q85 n m s ((s.length:Nat):Int) (j:Int)=some (if (s.drop j).all qux=true then Sum.inr ((s,()),((),())) else Sum.inl ((false,()),((),())))
 | 0,j,_,h=>absurd h (Nat.not_lt_zero _)
 | m+1,j,hj,h=>by
  rw [qkl]
  unfold qse
  by_cases c0:j<s.length
  ·have c0':((j:Nat):Int)<((s.length:Nat):Int):=by omega
   have ih:=qt0 n s hL m (j+1) (by omega) (by omega)
   have hd:s.drop j=s[j]::s.drop (j+1):=(List.drop_eq_getElem_cons c0)
   simp only [c0',decide_true,cond_true,q2z c0,Option.bind_some,jum,q0b,q06 (show j<4611686018427387904 by omega),ih,hd,List.all_cons]
   cases qux s[j]<;>simp
  ·have c0' : ¬ ((j:Nat):Int)<((s.length:Nat):Int):=by omega
   have:s.drop j = []:=List.drop_eq_nil_of_le (by omega)
   simp [c0',this]
theorem jb8 (n:Nat) (s:List UInt8) (hL:s.length≤1000000) (hn:s.length<n):qp4 n s ()=some (s.all qux && !decide (s = [])):=by
 unfold qp4
 have:=qt0 n s hL n 0 (Nat.zero_le _) (by omega)
 rw [show ((0:Nat):Int)=(0:Int) from rfl] at this
 rw [this,List.drop_zero]
 cases s.all qux<;>rfl
theorem qr6 (n:Nat) (s:List UInt8) (hL:s.length≤1000000) : ∀ m j:Nat,j≤s.length→s.length - j<m→q82 n m s ((s.length:Nat):Int) (j:Int)=some (if (s.drop j).all q1i=true then Sum.inr ((s,()),((),())) else Sum.inl ((false,()),((),())))
 | 0,j,_,h=>absurd h (Nat.not_lt_zero _)
 | m+1,j,hj,h=>by
  rw [qk6]
  unfold qpw
  by_cases c0:j<s.length
  ·have c0':((j:Nat):Int)<((s.length:Nat):Int):=by omega
   have ih:=qr6 n s hL m (j+1) (by omega) (by omega)
   have hd:s.drop j=s[j]::s.drop (j+1):=(List.drop_eq_getElem_cons c0)
   simp only [c0',decide_true,cond_true,q2z c0,Option.bind_some,jfe,q0b,q06 (show j<4611686018427387904 by omega),ih,hd,List.all_cons]
   cases q1i s[j]<;>simp
  ·have c0' : ¬ ((j:Nat):Int)<((s.length:Nat):Int):=by omega
   have:s.drop j = []:=List.drop_eq_nil_of_le (by omega)
   simp [c0',this]
theorem j9r (n:Nat) (s:List UInt8) (hL:s.length≤1000000) (hn:s.length<n):qp5 n s ()=some (s.all q1i && !decide (s = [])):=by
 unfold qp5
 have:=qr6 n s hL n 0 (Nat.zero_le _) (by omega)
 rw [show ((0:Nat):Int)=(0:Int) from rfl] at this
 rw [this,List.drop_zero]
 cases s.all q1i<;>rfl
theorem qqe (n:Nat) (s:List UInt8) (hL:s.length≤1000000) (hn:s.length<n):qov n s=some (q25 s):=by
 unfold qov;rw [jb8 n s hL hn];rfl
theorem q9v (n:Nat) (s:List UInt8) (hL:s.length≤1000000) (hn:s.length<n):q6u n s=some (q2a s):=by
 unfold q6u;rw [j9r n s hL hn];rfl
theorem jg6 (n:Nat) (s:List UInt8) (hL:s.length≤1000000) (hn:s.length<n):qft n s=some (q4h s):=by
 unfold qft q4h
 rw [qqe n s hL hn,q9v n s hL hn]
 simp only [Option.bind_some]
 cases hp:q25 s with
 | false=>rfl
 | true =>
  cases s with
  | nil=>simp [q25] at hp
  | cons c r =>
   have h0:sAt (c::r) (0:Int)=some ((c.toNat:Nat):Int):=q2z (s:=c::r) (j:=0) (by simp)
   have h1:decide (((c.toNat:Nat):Int)=(48:Int))=decide ((c::r).head? = some 48):=decide_eq_decide.2 (by
    simp only [List.head?_cons,Option.some.injEq]
    constructor
    ·intro h;exact UInt8.toNat_inj.1 (by have e48:(48:UInt8).toNat=48:=rfl;rw [e48];omega)
    ·rintro rfl;rfl)
   simp only [cond_true,h0,Option.bind_some,h1,Bool.true_and]
   cases decide (c::r = [48])<;>cases decide ((c::r).head? = some 48)<;>cases q2a (c::r)<;>rfl
end Go.Proofs.YtcdjkibiggjdoaaGreatDoor.AM
namespace Go.Proofs
open Go.RowKit Go.Shelf Go.Lib
attribute [local go_sem] Oper.semAt_some
set_option linter.unusedVariables false
set_option linter.unusedSimpArgs false
namespace YtcdjkibiggjdoaaGreatDoor.AM
theorem q2v {P:Program} {fn:Func} {p:Tmp} {ty:TypeId} {b:Nat} {v:Value} {tmps:Array Value} {w:World} (h:fn.results = #[.cell p ty]) (hp:tmps.getD p undef = .pointer (some ⟨b,0,none⟩)) (ha:qyt P ty=some false)
  (hc:w.cell? ⟨b,0,none⟩=some v):(results fn tmps).run P w = .ok v w:=by
 have hp':tmps[p]?.getD undef = .pointer (some ⟨b,0,none⟩):=by simpa using hp
 simp only [results,h]
 simp [Sem.run_bind,hp',asAddr,loadVar,q1x ha w,go_sem,hc]
theorem q2q {W W':World} {a:Addr} {v:Value} (hb:Below W.heap.size W W') (h:W.cell? a=some v):W'.cell? a=some v:=by
 obtain ⟨o,ho,hc⟩:=cells_of_cell h
 exact (World.cell?_of_block ((hb.block _ (Array.getElem?_eq_some_iff.1 ho).1).trans ho |>.trans ho.symm)).trans h
theorem q3h {W W':World} {a:Addr} {v:Value} (hb:Below W.heap.size W W') (h:W.cell? a=some v):W'.frozen? a=W.frozen? a:=by
 obtain ⟨o,ho,hc⟩:=cells_of_cell h
 exact World.frozen?_of_block ((hb.block _ (Array.getElem?_eq_some_iff.1 ho).1).trans ho |>.trans ho.symm)
theorem q2n {W W':World} (hb:Below W.heap.size W W'):KeepsOthers W W':=⟨hb.size,fun k o h _=>(hb.block k (Array.getElem?_eq_some_iff.1 h).1).trans h⟩
theorem qen {pS:Nat} {r:List UInt8} {W W':World} (h:Left pS r W) (hb:Below W.heap.size W W'):Left pS r W':=⟨q2q hb h.1,(q3h hb h.1).trans h.2⟩
theorem q0t {w:World} {b:Nat} {v:Value} {t:TypeId} (h:w.heap[b]? = some (.cells #[v] t (0,0))):w.cell? ⟨b,0,none⟩=some v∧w.frozen? ⟨b,0,none⟩=false:=by
 constructor
 ·simp [World.cell?,h]
 ·simp [World.frozen?,h]
theorem five (w:World) (o0 o1 o2 o3 o4:Obj) : ∃ W,(((((w.alloc o0).alloc o1).alloc o2).alloc o3).alloc o4)=W∧W.heap.size=w.heap.size+5∧Below w.heap.size w W∧W.heap[w.heap.size]? = some o0∧W.heap[w.heap.size+1]? = some o1∧W.heap[w.heap.size+1+1]? = some o2∧W.heap[w.heap.size+1+1+1]? = some o3∧W.heap[w.heap.size+1+1+2]? = some o4:=by
 have al : ∀ (w:World) (o:Obj) (k:Nat),k<w.heap.size→(w.alloc o).heap[k]? = w.heap[k]?:=fun w o k h=>Below.heap_alloc _ _ _ h
 refine ⟨_,rfl,by simp,(((((Below.refl _ w).alloc (Nat.le_refl _) _).alloc (by simp) _).alloc (by simp;omega) _).alloc (by simp;omega) _).alloc (by simp;omega) _,?_,?_,?_,?_,?_⟩
 ·rw [al _ _ _ (by simp<;>omega),al _ _ _ (by simp<;>omega),al _ _ _ (by simp<;>omega),al _ _ _ (by simp),World.alloc_heap_new]
 ·rw [al _ _ _ (by simp<;>omega),al _ _ _ (by simp<;>omega),al _ _ _ (by simp)]
  have:=World.alloc_heap_new (w.alloc o0) o1
  rw [World.size_alloc] at this;exact this
 ·rw [al _ _ _ (by simp<;>omega),al _ _ _ (by simp)]
  have:=World.alloc_heap_new ((w.alloc o0).alloc o1) o2
  rw [World.size_alloc,World.size_alloc] at this;exact this
 ·rw [al _ _ _ (by simp)]
  have:=World.alloc_heap_new (((w.alloc o0).alloc o1).alloc o2) o3
  rw [World.size_alloc,World.size_alloc,World.size_alloc] at this;exact this
 ·have:=World.alloc_heap_new ((((w.alloc o0).alloc o1).alloc o2).alloc o3) o4
  rw [World.size_alloc,World.size_alloc,World.size_alloc,World.size_alloc] at this;exact this
theorem hag:qyt Tryz.prog 4=some false:=by kernel_rfl
structure Rng (fv:Value) (pF pR:Nat) (pP pC:Nat) (c:UInt8) (w0:World) (pred:List UInt8→Bool) (pre:List (List UInt8)) (W:World):Prop where
 fn:W.cell? ⟨pF,0,none⟩=some fv
 res:W.cell? ⟨pR,0,none⟩=some (.bool false)
 frz:W.frozen? ⟨pR,0,none⟩=false
 cP:W.cell? ⟨pP,0,none⟩=some (.string (ba [c]))
 cC:W.cell? ⟨pC,0,none⟩=some (.int .i64 0)
 below:Below w0.heap.size w0 W
 all:pre.all pred=true
structure RngX (pR:Nat) (w0:World) (pred:List UInt8→Bool) (pre:List (List UInt8)) (W:World):Prop where
 res:W.cell? ⟨pR,0,none⟩=some (.bool false)
 below:Below w0.heap.size w0 W
 no:pre.all pred=false
theorem qzw {fv:Value} {pF pR pP pC:Nat} {c:UInt8} {w0:World} {pred:List UInt8→Bool} {B:Nat} (hB:w0.heap.size≤B):OwnFrom B (Rng fv pF pR pP pC c w0 pred):=fun s W W' row h hg hr =>
 ⟨qar h.fn hg hr,qar h.res hg hr,(frozen_kept h.res hg (fun r e=>(hr r e).2)).trans h.frz,qar h.cP hg hr,qar h.cC hg hr,h.below.grown hg h.below.size (fun k e=>Nat.le_trans hB (hr k e).1),h.all⟩
theorem j0d {pR:Nat} {w0:World} {pred:List UInt8→Bool} {B:Nat} (hB:w0.heap.size≤B):OwnFrom B (RngX pR w0 pred):=fun s W W' row h hg hr =>
 ⟨qar h.res hg hr,h.below.grown hg h.below.size (fun k e=>Nat.le_trans hB (hr k e).1),h.no⟩
theorem qhq {fv:Value} {pF pR pP pC:Nat} {c:UInt8} {w0:World} {pred:List UInt8→Bool} {pre:List (List UInt8)} {x:List UInt8} {W W':World} (h:Rng fv pF pR pP pC c w0 pred pre W) (hb:Below W.heap.size W W') (hx:pred x=true):Rng fv pF pR pP pC c w0 pred (pre ++ [x]) W' :=
 ⟨q2q hb h.fn,q2q hb h.res,(q3h hb h.res).trans h.frz,q2q hb h.cP,q2q hb h.cC,h.below.trans (hb.mono h.below.size),by rw [List.all_append,h.all];simp [hx]⟩
theorem qza {fv:Value} {pF pR pP pC:Nat} {c:UInt8} {w0:World} {pred:List UInt8→Bool} {pre:List (List UInt8)} {W:World} {q:Nat} (v:Value) (h:Rng fv pF pR pP pC c w0 pred pre W) (h0:w0.heap.size≤q) (h1:q≠pF) (h2:q≠pR) (h3:q≠pP) (h4:q≠pC):Rng fv pF pR pP pC c w0 pred pre (W.setCell ⟨q,0,none⟩ v):=by
 have ne : ∀ p:Nat,q≠p→(W.setCell ⟨q,0,none⟩ v).cell? ⟨p,0,none⟩=W.cell? ⟨p,0,none⟩:=fun p hp=>World.cell?_setCell_other _ _ _ _ (by intro e;exact hp (by injection e with e))
 exact ⟨(ne _ h1).trans h.fn,(ne _ h2).trans h.res,by rw [World.frozen?_setCell];exact h.frz,(ne _ h3).trans h.cP,(ne _ h4).trans h.cC,h.below.setCell (by simpa using h0) _,h.all⟩
theorem four (w:World) (o0 o1 o2 o3:Obj) : ∃ W,((((w.alloc o0).alloc o1).alloc o2).alloc o3)=W∧W.heap.size=w.heap.size+4∧Below w.heap.size w W∧W.heap[w.heap.size]? = some o0∧W.heap[w.heap.size+1]? = some o1∧W.heap[w.heap.size+1+1]? = some o2∧W.heap[w.heap.size+1+2]? = some o3:=by
 have al : ∀ (w:World) (o:Obj) (k:Nat),k<w.heap.size→(w.alloc o).heap[k]? = w.heap[k]?:=fun w o k h=>Below.heap_alloc _ _ _ h
 refine ⟨_,rfl,by simp,((((Below.refl _ w).alloc (Nat.le_refl _) _).alloc (by simp) _).alloc (by simp;omega) _).alloc (by simp;omega) _,?_,?_,?_,?_⟩
 ·rw [al _ _ _ (by simp<;>omega),al _ _ _ (by simp<;>omega),al _ _ _ (by simp),World.alloc_heap_new]
 ·rw [al _ _ _ (by simp<;>omega),al _ _ _ (by simp)]
  have:=World.alloc_heap_new (w.alloc o0) o1
  rw [World.size_alloc] at this;exact this
 ·rw [al _ _ _ (by simp)]
  have:=World.alloc_heap_new ((w.alloc o0).alloc o1) o2
  rw [World.size_alloc,World.size_alloc] at this;exact this
 ·have:=World.alloc_heap_new (((w.alloc o0).alloc o1).alloc o2) o3
  rw [World.size_alloc,World.size_alloc,World.size_alloc] at this;exact this
structure RngY (pR:Nat) (w0:World) (pred:List UInt8→Bool) (pre:List (List UInt8)) (W:World):Prop where
 res:W.cell? ⟨pR,0,none⟩=some (.bool true)
 below:Below w0.heap.size w0 W
 no:pre.all pred=false
theorem jsh {pR:Nat} {w0:World} {pred:List UInt8→Bool} {B:Nat} (hB:w0.heap.size≤B):OwnFrom B (RngY pR w0 pred):=fun s W W' row h hg hr =>
 ⟨qar h.res hg hr,h.below.grown hg h.below.size (fun k e=>Nat.le_trans hB (hr k e).1),h.no⟩
theorem jcq {pred:List UInt8→Bool} {s x:List UInt8} {pre t:List (List UInt8)} (hsp:spl 47 [] s=pre++x::t) (hn:(pre ++ [x]).all pred=false):(spl 47 [] s).all pred=false:=by
 rw [List.all_append,Bool.and_eq_false_iff] at hn
 rw [hsp,List.all_append,Bool.and_eq_false_iff]
 rcases hn with hn|hn
 ·exact Or.inl hn
 ·refine Or.inr ?_
  simp only [List.all_cons,List.all_nil,Bool.and_true] at hn
  rw [List.all_cons,hn];rfl
end YtcdjkibiggjdoaaGreatDoor.AM
end Go.Proofs
namespace Go.Proofs
open Go.RowKit Go.Shelf Go.Lib
attribute [local go_sem] Oper.semAt_some
set_option linter.unusedVariables false
set_option linter.unusedSimpArgs false
namespace YtcdjkibiggjdoaaGreatDoor.AM
set_option maxHeartbeats 2000000 in
theorem qvv (pred:List UInt8→Bool) (hp : ∀ (x:List UInt8) (w:World),Inv w→x.length≤30→Calls Tryz.prog 81 #[.string (ba x)] w fun e w'=>e = .returned (.bool (pred x))∧Below w.heap.size w w')
  (s:List UInt8) (w:World) (hI:Inv w) :
  Calls Tryz.prog 79 #[.string (ba s),.func (.func 81) #[] #[]] w fun e w'=>e = .returned (.bool (q7d pred s))∧Below w.heap.size w w':=by
 refine (callsIn_wide (n:=9)).1 ?_
 refine callsIn_of_wp_marks Tryz.func79 rfl trivial ?_ rfl
 simp only [Tryz.ntmps79,List.size_toArray,List.length_cons,List.length_nil,Nat.reduceAdd,Nat.reduceSub,Array.replicate_succ,Array.replicate_zero,List.push_toArray,List.append_toArray,List.nil_append,List.cons_append]
 have hsz:(ba s).size=s.length:=q1o s
 by_cases h1:s = []
 ·subst h1
  have he:(ba []).toList.isEmpty=true:=by rw [q9a];rfl
  gi_wp2
  refine ⟨_,q2v (b:=w.heap.size+1) (v:=.bool true) rfl rfl hag (by simp),rfl,?_⟩
  exact ((Below.refl _ w).alloc (Nat.le_refl _) _).alloc (by simp) _
 have he:(ba s).toList.isEmpty=false:=by rw [q9a];simpa using h1
 by_cases h2:s.length≤30
 ·gi_wp2_with (refine ⟨trivial,?_⟩;gi_at_call 103;refine (callsIn_wide.2 (q50 _ _ _)).mono ?_;rintro e w' ⟨rfl,rfl⟩)
  obtain ⟨W0,hW0,hs0,hb0,g0,g1,g2,g3,g4⟩:=five w (Obj.cells #[Value.func (Fn.func 81) #[] #[]] 28) (Obj.cells #[Value.bool false] 4) (Obj.cells #[Value.string (ba s)] 9) (Obj.cells #[Value.string { data:=#[46] }] 9) (Obj.cells #[Value.int IntKind.i64 0] 3)
  rw [hW0]
  clear hW0
  obtain ⟨c0,f0⟩:=q0t g0
  obtain ⟨c1,f1⟩:=q0t g1
  obtain ⟨c2,f2⟩:=q0t g2
  obtain ⟨c3,f3⟩:=q0t g3
  obtain ⟨c4,f4⟩:=q0t g4
  refine range_split (n:=9) (by omega) 46 (w.heap.size+1+1) (w.heap.size+1+1+1) (w.heap.size+1+1+2) s (by omega) rfl ⟨c2,f2⟩
   (Rng (.func (.func 81) #[] #[]) w.heap.size (w.heap.size+1) (w.heap.size+1+1+1) (w.heap.size+1+1+2) 46 w pred) (RngX (w.heap.size+1) w pred) (qzw (by omega)) (j0d (by omega))
   (fun pre W h=>⟨h.cP,h.cC,(hI.below h.below).maxLen⟩) (fun pre W v h=>qza v h (by omega) (by omega) (by omega) (by omega) (by omega)) ⟨c0,c1,f1,c3,c4,hb0,rfl⟩
   (fun x=>{ tmps:=#[.string (ba s),.func (.func 81) #[] #[],undef,.pointer (some ⟨w.heap.size,0,none⟩),.pointer (some ⟨w.heap.size+1,0,none⟩),.string (ba x),.string (ba s),.bool false,.string (ba s),.int .i64 s.length,.bool (decide ((30:Int)<s.length)),.string (ba s),
    .func (.func 150) #[] #[.pointer (some ⟨w.heap.size+1+1+1,0,none⟩),.pointer (some ⟨w.heap.size+1+1,0,none⟩),.pointer (some ⟨w.heap.size+1+1+2,0,none⟩)],.string (ba x),undef,undef,undef,undef],defers:=[] }) ?assign ?body ?done ?stop
  case assign =>
   intro l x W K hK
   gi_wp2
   exact hK
  case body =>
   intro l pre x r W hi hL hx
   have k0:=hi.fn
   have k1:=hi.res
   have k2:=hi.frz
   have hc:=hp x W (hI.below hi.below) (by omega)
   cases hpx:pred x with
   | true =>
    rw [hpx] at hc
    gi_wp2_with (refine ⟨trivial,?_⟩;gi_at_call 81;refine (CallsIn.inRound l (callsIn_wide.2 hc)).mono ?_;rintro e w' ⟨rfl,hb'⟩)
    exact ⟨q2n hb',qhq hi hb' hpx,qen hL hb'⟩
   | false =>
    rw [hpx] at hc
    gi_wp2_with (refine ⟨trivial,?_⟩;gi_at_call 81;refine (CallsIn.inRound l (callsIn_wide.2 hc)).mono ?_;rintro e w' ⟨rfl,hb'⟩;have k3:=q2q hb' hi.res;have k4:=(q3h hb' hi.res).trans hi.frz)
    exact ⟨(q2n hb').trans (KeepsOthers.setCell _ _ _),World.cell?_setCell_same' _ _ _ (by rw [k3];rfl),(hi.below.trans (hb'.mono hi.below.size)).setCell (by simp) _,by simp [hpx]⟩
  case done =>
   intro D W hD hi hK
   have k1:=hi.res
   have k2:=hi.frz
   gi_wp2
   have hK':=(KeepsOthers.setCell W ⟨w.heap.size+1,0,none⟩ (.bool true)).same D _ hK rfl
   have hW':Below w.heap.size w (W.setCell ⟨w.heap.size+1,0,none⟩ (.bool true)):=hi.below.setCell (by simp) _
   have k5:(W.setCell ⟨w.heap.size+1,0,none⟩ (.bool true)).cell? ⟨w.heap.size+1,0,none⟩=some (.bool true):=World.cell?_setCell_same' _ _ _ (by rw [k1];rfl)
   generalize W.setCell ⟨w.heap.size+1,0,none⟩ (.bool true)=W2 at hK' hW' k5
   refine ⟨by simp,.inl ⟨_,_,rfl,run_takeDeferred hK',?_⟩⟩
   have hg:=grownBy_putObj' W2 D (.deferred none)
   refine ⟨_,q2v (b:=w.heap.size+1) (v:=.bool true) rfl rfl hag (cell_kept k5 hg (fun r e=>by cases e;exact ⟨_,hK',rfl⟩)),?_,?_⟩
   ·unfold q7d;simp [h1,h2,hi.all]
   ·exact hW'.grown hg hW'.size (fun k e=>by cases e;omega)
  case stop =>
   intro D pre x t W hD hsp hi hK
   refine ⟨by simp,.inl ⟨_,_,rfl,run_takeDeferred hK,?_⟩⟩
   have hg:=grownBy_putObj' W D (.deferred none)
   refine ⟨_,q2v (b:=w.heap.size+1) (v:=.bool false) rfl rfl hag (cell_kept hi.res hg (fun r e=>by cases e;exact ⟨_,hK,rfl⟩)),?_,?_⟩
   ·have hn:=hi.no
    rw [List.all_append,Bool.and_eq_false_iff] at hn
    have ha:(spl 46 [] s).all pred=false:=by
     rw [hsp,List.all_append,Bool.and_eq_false_iff]
     rcases hn with hn|hn
     ·exact Or.inl hn
     ·refine Or.inr ?_
      simp only [List.all_cons,List.all_nil,Bool.and_true] at hn
      rw [List.all_cons,hn];rfl
    unfold q7d;simp [h1,ha]
   ·exact hi.below.grown hg hi.below.size (fun k e=>by cases e;omega)
 ·gi_wp2
  refine ⟨_,q2v (b:=w.heap.size+1) (v:=.bool false) rfl rfl hag (by simp),?_,?_⟩
  ·unfold q7d;simp [h1,h2]
  ·exact ((Below.refl _ w).alloc (Nat.le_refl _) _).alloc (by simp) _
set_option maxHeartbeats 2000000 in
theorem j1a (pred:List UInt8→Bool) (hp : ∀ (x:List UInt8) (w:World),Inv w→x.length≤30→Calls Tryz.prog 80 #[.string (ba x)] w fun e w'=>e = .returned (.bool (pred x))∧Below w.heap.size w w')
  (s:List UInt8) (w:World) (hI:Inv w) :
  Calls Tryz.prog 79 #[.string (ba s),.func (.func 80) #[] #[]] w fun e w'=>e = .returned (.bool (q7d pred s))∧Below w.heap.size w w':=by
 refine (callsIn_wide (n:=9)).1 ?_
 refine callsIn_of_wp_marks Tryz.func79 rfl trivial ?_ rfl
 simp only [Tryz.ntmps79,List.size_toArray,List.length_cons,List.length_nil,Nat.reduceAdd,Nat.reduceSub,Array.replicate_succ,Array.replicate_zero,List.push_toArray,List.append_toArray,List.nil_append,List.cons_append]
 have hsz:(ba s).size=s.length:=q1o s
 by_cases h1:s = []
 ·subst h1
  have he:(ba []).toList.isEmpty=true:=by rw [q9a];rfl
  gi_wp2
  refine ⟨_,q2v (b:=w.heap.size+1) (v:=.bool true) rfl rfl hag (by simp),rfl,?_⟩
  exact ((Below.refl _ w).alloc (Nat.le_refl _) _).alloc (by simp) _
 have he:(ba s).toList.isEmpty=false:=by rw [q9a];simpa using h1
 by_cases h2:s.length≤30
 ·gi_wp2_with (refine ⟨trivial,?_⟩;gi_at_call 103;refine (callsIn_wide.2 (q50 _ _ _)).mono ?_;rintro e w' ⟨rfl,rfl⟩)
  obtain ⟨W0,hW0,hs0,hb0,g0,g1,g2,g3,g4⟩:=five w (Obj.cells #[Value.func (Fn.func 80) #[] #[]] 28) (Obj.cells #[Value.bool false] 4) (Obj.cells #[Value.string (ba s)] 9) (Obj.cells #[Value.string { data:=#[46] }] 9) (Obj.cells #[Value.int IntKind.i64 0] 3)
  rw [hW0]
  clear hW0
  obtain ⟨c0,f0⟩:=q0t g0
  obtain ⟨c1,f1⟩:=q0t g1
  obtain ⟨c2,f2⟩:=q0t g2
  obtain ⟨c3,f3⟩:=q0t g3
  obtain ⟨c4,f4⟩:=q0t g4
  refine range_split (n:=9) (by omega) 46 (w.heap.size+1+1) (w.heap.size+1+1+1) (w.heap.size+1+1+2) s (by omega) rfl ⟨c2,f2⟩
   (Rng (.func (.func 80) #[] #[]) w.heap.size (w.heap.size+1) (w.heap.size+1+1+1) (w.heap.size+1+1+2) 46 w pred) (RngX (w.heap.size+1) w pred) (qzw (by omega)) (j0d (by omega))
   (fun pre W h=>⟨h.cP,h.cC,(hI.below h.below).maxLen⟩) (fun pre W v h=>qza v h (by omega) (by omega) (by omega) (by omega) (by omega)) ⟨c0,c1,f1,c3,c4,hb0,rfl⟩
   (fun x=>{ tmps:=#[.string (ba s),.func (.func 80) #[] #[],undef,.pointer (some ⟨w.heap.size,0,none⟩),.pointer (some ⟨w.heap.size+1,0,none⟩),.string (ba x),.string (ba s),.bool false,.string (ba s),.int .i64 s.length,.bool (decide ((30:Int)<s.length)),.string (ba s),
    .func (.func 150) #[] #[.pointer (some ⟨w.heap.size+1+1+1,0,none⟩),.pointer (some ⟨w.heap.size+1+1,0,none⟩),.pointer (some ⟨w.heap.size+1+1+2,0,none⟩)],.string (ba x),undef,undef,undef,undef],defers:=[] }) ?assign ?body ?done ?stop
  case assign =>
   intro l x W K hK
   gi_wp2
   exact hK
  case body =>
   intro l pre x r W hi hL hx
   have k0:=hi.fn
   have k1:=hi.res
   have k2:=hi.frz
   have hc:=hp x W (hI.below hi.below) (by omega)
   cases hpx:pred x with
   | true =>
    rw [hpx] at hc
    gi_wp2_with (refine ⟨trivial,?_⟩;gi_at_call 80;refine (CallsIn.inRound l (callsIn_wide.2 hc)).mono ?_;rintro e w' ⟨rfl,hb'⟩)
    exact ⟨q2n hb',qhq hi hb' hpx,qen hL hb'⟩
   | false =>
    rw [hpx] at hc
    gi_wp2_with (refine ⟨trivial,?_⟩;gi_at_call 80;refine (CallsIn.inRound l (callsIn_wide.2 hc)).mono ?_;rintro e w' ⟨rfl,hb'⟩;have k3:=q2q hb' hi.res;have k4:=(q3h hb' hi.res).trans hi.frz)
    exact ⟨(q2n hb').trans (KeepsOthers.setCell _ _ _),World.cell?_setCell_same' _ _ _ (by rw [k3];rfl),(hi.below.trans (hb'.mono hi.below.size)).setCell (by simp) _,by simp [hpx]⟩
  case done =>
   intro D W hD hi hK
   have k1:=hi.res
   have k2:=hi.frz
   gi_wp2
   have hK':=(KeepsOthers.setCell W ⟨w.heap.size+1,0,none⟩ (.bool true)).same D _ hK rfl
   have hW':Below w.heap.size w (W.setCell ⟨w.heap.size+1,0,none⟩ (.bool true)):=hi.below.setCell (by simp) _
   have k5:(W.setCell ⟨w.heap.size+1,0,none⟩ (.bool true)).cell? ⟨w.heap.size+1,0,none⟩=some (.bool true):=World.cell?_setCell_same' _ _ _ (by rw [k1];rfl)
   generalize W.setCell ⟨w.heap.size+1,0,none⟩ (.bool true)=W2 at hK' hW' k5
   refine ⟨by simp,.inl ⟨_,_,rfl,run_takeDeferred hK',?_⟩⟩
   have hg:=grownBy_putObj' W2 D (.deferred none)
   refine ⟨_,q2v (b:=w.heap.size+1) (v:=.bool true) rfl rfl hag (cell_kept k5 hg (fun r e=>by cases e;exact ⟨_,hK',rfl⟩)),?_,?_⟩
   ·unfold q7d;simp [h1,h2,hi.all]
   ·exact hW'.grown hg hW'.size (fun k e=>by cases e;omega)
  case stop =>
   intro D pre x t W hD hsp hi hK
   refine ⟨by simp,.inl ⟨_,_,rfl,run_takeDeferred hK,?_⟩⟩
   have hg:=grownBy_putObj' W D (.deferred none)
   refine ⟨_,q2v (b:=w.heap.size+1) (v:=.bool false) rfl rfl hag (cell_kept hi.res hg (fun r e=>by cases e;exact ⟨_,hK,rfl⟩)),?_,?_⟩
   ·have hn:=hi.no
    rw [List.all_append,Bool.and_eq_false_iff] at hn
    have ha:(spl 46 [] s).all pred=false:=by
     rw [hsp,List.all_append,Bool.and_eq_false_iff]
     rcases hn with hn|hn
     ·exact Or.inl hn
     ·refine Or.inr ?_
      simp only [List.all_cons,List.all_nil,Bool.and_true] at hn
      rw [List.all_cons,hn];rfl
    unfold q7d;simp [h1,ha]
   ·exact hi.below.grown hg hi.below.size (fun k e=>by cases e;omega)
 ·gi_wp2
  refine ⟨_,q2v (b:=w.heap.size+1) (v:=.bool false) rfl rfl hag (by simp),?_,?_⟩
  ·unfold q7d;simp [h1,h2]
  ·exact ((Below.refl _ w).alloc (Nat.le_refl _) _).alloc (by simp) _
theorem j3p (x:List UInt8) (w:World) (hI:Inv w) (hx:x.length≤30):Calls Tryz.prog 81 #[.string (ba x)] w fun e w'=>e = .returned (.bool (q25 x))∧Below w.heap.size w w':=by
 have h:=(j6x 100 Inv q2r).1.2 x (q25 x) (qqe 100 x (by omega) (by omega))
 refine (h (fun _ _=>False) w #[.string (ba x)] hI (fun b o h=>h.elim) ⟨q05 _,trivial⟩).mono ?_
 rintro e w' ⟨v,Pc,rfl,hb,_,_,hv⟩
 have hv':v = .bool (q25 x):=q07 hv
 rw [hv']
 exact ⟨rfl,hb⟩
def qlt (s:List UInt8) (u:Unit):Option Bool:=some (q7d q25 s)
def qss:FC:={ f:=79,args:=[quw,.one (.c (.fn 81 []))],res:=jqf,F:=fun p=>qlt p.1 p.2 }
theorem jbp:q0a Inv Tryz.prog qss:=fun G hG=>⟨⟨by kernel_rfl,fun a r h=>by
 obtain ⟨s,u⟩:=a
 have hr:q7d q25 s=r:=Option.some.inj h
 intro Pc w vs hg hlt hv
 obtain ⟨l⟩:=vs
 match l,hv with
 | [x,y],⟨h1,h2,_⟩ =>
  obtain rfl:x = .string (ba s):=q07 h1
  obtain rfl:y = .func (.func 81) #[] #[]:=q07 h2
  refine (qvv q25 j3p s w (hG.im w hg)).mono ?_
  rintro e w' ⟨rfl,hb⟩
  subst hr
  exact q5r rfl hb (q05 _)⟩,rfl⟩
theorem j86 (x:List UInt8) (w:World) (hI:Inv w) (hx:x.length≤30):Calls Tryz.prog 80 #[.string (ba x)] w fun e w'=>e = .returned (.bool (q4h x))∧Below w.heap.size w w':=by
 have h:=(j7r 100 Inv q2r).1.2 x (q4h x) (jg6 100 x (by omega) (by omega))
 refine (h (fun _ _=>False) w #[.string (ba x)] hI (fun b o h=>h.elim) ⟨q05 _,trivial⟩).mono ?_
 rintro e w' ⟨v,Pc,rfl,hb,_,_,hv⟩
 have hv':v = .bool (q4h x):=q07 hv
 rw [hv']
 exact ⟨rfl,hb⟩
def qrv (s:List UInt8) (u:Unit):Option Bool:=some (q7d q4h s)
def qxq:FC:={ f:=79,args:=[quw,.one (.c (.fn 80 []))],res:=jqf,F:=fun p=>qrv p.1 p.2 }
theorem jfx:q0a Inv Tryz.prog qxq:=fun G hG=>⟨⟨by kernel_rfl,fun a r h=>by
 obtain ⟨s,u⟩:=a
 have hr:q7d q4h s=r:=Option.some.inj h
 intro Pc w vs hg hlt hv
 obtain ⟨l⟩:=vs
 match l,hv with
 | [x,y],⟨h1,h2,_⟩ =>
  obtain rfl:x = .string (ba s):=q07 h1
  obtain rfl:y = .func (.func 80) #[] #[]:=q07 h2
  refine (j1a q4h j86 s w (hG.im w hg)).mono ?_
  rintro e w' ⟨rfl,hb⟩
  subst hr
  exact q5r rfl hb (q05 _)⟩,rfl⟩
end YtcdjkibiggjdoaaGreatDoor.AM
end Go.Proofs
