
import Derived.Lib.Bytealg
import GoSem.Op.String
import Derived.Test.YtapfankgdkdkgaaGreatDoorEc8
import Derived.Lib.ItoaNum
import Derived.Lib.AtoiAll
import Derived.Shelf.LaysC
import Derived.Shelf.Strconv.Itoa3
import Derived.Shelf.Strconv.AtoiAll
import Derived.Shelf.Small.Strs
import Derived.Shelf.Strings.SplitShaped
import Derived.Lib.LaidTab
import Derived.Lib.AppendIntMem
import Derived.Stop.LaidErr
import Derived.WalkSmall
set_option linter.unusedVariables false
set_option linter.unusedSimpArgs false
namespace Go.Proofs.YtapfankgdkdkgaaGreatDoor.AM
abbrev Z1:=((Bool×Unit)×Unit×Unit)⊕((Yy×Unit)×Unit×Unit)
structure Cmp {α:Type} (c:α→α→Int):Prop where
 rng : ∀ x y,c x y = -1∨c x y=0∨c x y=1
 anti : ∀ x y,c x y = - c y x
 tr : ∀ x y z,c x y≤0→c y z≤0→c x z≤0
 eq : ∀ x y,c x y=0→x=y
theorem Cmp.refl {α:Type} {c:α→α→Int} (h:Cmp c) (x:α):c x x=0:=by have:=h.anti x x;omega
theorem Cmp.zero {α:Type} {c:α→α→Int} (h:Cmp c) {x y:α} : c x y=0↔x=y:=⟨h.eq x y,fun e=>e ▸ h.refl x⟩
def q7p (a b:Int):Int:=if a<b then -1 else if b<a then 1 else 0
theorem q84:Cmp q7p:=by
 refine ⟨fun x y=>?_,fun x y=>?_,fun x y z=>?_,fun x y=>?_⟩<;>unfold q7p<;>repeat' split
 all_goals (try omega)
def or2 (x y:Int):Int:=if x=0 then y else x
def qe5 {α β:Type} (c:α→α→Int) (d:β→β→Int) (x y:α×β):Int:=or2 (c x.1 y.1) (d x.2 y.2)
theorem qrb {α β:Type} {c:α→α→Int} {d:β→β→Int} (hc:Cmp c) (hd:Cmp d):Cmp (qe5 c d):=by
 refine ⟨fun x y=>?_,fun x y=>?_,fun x y z h1 h2=>?_,fun x y h=>?_⟩
 ·unfold qe5 or2;split
  ·exact hd.rng _ _
  ·exact hc.rng _ _
 ·have a:=hc.anti x.1 y.1
  have b:=hd.anti x.2 y.2
  unfold qe5 or2;split<;>split<;>omega
 ·unfold qe5 or2 at *
  have t:=hc.tr x.1 y.1 z.1
  have t':=hc.tr z.1 x.1 y.1
  have t'':=hc.tr y.1 z.1 x.1
  have a1:=hc.anti x.1 y.1
  have a2:=hc.anti y.1 z.1
  have a3:=hc.anti x.1 z.1
  split at h1<;>split at h2
  ·rename_i e1 e2
   rw [hc.eq _ _ e1,hc.eq _ _ e2,hc.refl]
   rw [if_pos rfl]
   exact hd.tr _ _ _ h1 h2
  ·rename_i e1 e2
   rw [hc.eq _ _ e1,if_neg e2];exact h2
  ·rename_i e1 e2
   rw [← hc.eq _ _ e2,if_neg e1];exact h1
  ·rename_i e1 e2
   have t0:=t h1 h2
   split
   ·rename_i e3
    have e4:=hc.eq _ _ e3
    rw [← e4] at h2 e2 a2
    omega
   ·exact t0
 ·unfold qe5 or2 at h
  split at h
  ·rename_i e1
   exact Prod.ext (hc.eq _ _ e1) (hd.eq _ _ h)
  ·rename_i e1;exact absurd h e1
theorem Cmp.key {α β:Type} {c:β→β→Int} (hc:Cmp c) (f:α→β) (hf : ∀ x y,f x=f y→x=y):Cmp fun x y=>c (f x) (f y) :=
 ⟨fun x y=>hc.rng _ _,fun x y=>hc.anti _ _,fun x y z=>hc.tr _ _ _,fun x y h=>hf _ _ (hc.eq _ _ h)⟩
def cmpL {α:Type} (c:α→α→Int):List α→List α→Int
 | [],[]=>0
 | [],_::_=>-1
 | _::_,[]=>1
 | a::asx,b::bs=>or2 (c a b) (cmpL c asx bs)
theorem qdy {α:Type} {c:α→α→Int} (hc:Cmp c):Cmp (cmpL c):=by
 refine ⟨fun x=>?_,fun x=>?_,fun x=>?_,fun x=>?_⟩
 ·induction x with
  | nil=>intro y;cases y<;>simp [cmpL]
  | cons a asx ih=>intro y;cases y with
   | nil=>simp [cmpL]
   | cons b bs =>
    unfold cmpL or2;split
    ·exact ih bs
    ·exact hc.rng _ _
 ·induction x with
  | nil=>intro y;cases y<;>simp [cmpL]
  | cons a asx ih=>intro y;cases y with
   | nil=>simp [cmpL]
   | cons b bs =>
    have a1:=hc.anti a b
    have a2:=ih bs
    unfold cmpL or2;split<;>split<;>omega
 ·induction x with
  | nil=>intro y z;cases y<;>cases z<;>simp [cmpL]
  | cons a asx ih=>intro y z h1 h2;cases y with
   | nil=>simp [cmpL] at h1
   | cons b bs=>cases z with
    | nil=>simp [cmpL] at h2
    | cons d ds =>
     have h1':qe5 c (cmpL c) (a,asx) (b,bs)≤0:=h1
     have h2':qe5 c (cmpL c) (b,bs) (d,ds)≤0:=h2
     show or2 (c a d) (cmpL c asx ds)≤0
     unfold qe5 or2 at *
     dsimp only at *
     have t:=hc.tr a b d
     split at h1'<;>split at h2'
     ·rename_i e1 e2
      rw [hc.eq _ _ e1,hc.eq _ _ e2,hc.refl,if_pos rfl]
      exact ih bs ds h1' h2'
     ·rename_i e1 e2
      rw [hc.eq _ _ e1,if_neg e2];exact h2'
     ·rename_i e1 e2
      rw [← hc.eq _ _ e2,if_neg e1];exact h1'
     ·rename_i e1 e2
      have t0:=t h1' h2'
      split
      ·rename_i e3
       have e4:=hc.eq _ _ e3
       have a1:=hc.anti a b
       rw [← e4] at h2' e2
       omega
      ·exact t0
 ·induction x with
  | nil=>intro y;cases y<;>simp [cmpL]
  | cons a asx ih=>intro y h;cases y with
   | nil=>simp [cmpL] at h
   | cons b bs =>
    unfold cmpL or2 at h
    split at h
    ·rename_i e1
     rw [hc.eq _ _ e1,ih bs h]
    ·rename_i e1;exact absurd h e1
def j7o (a b:UInt8):Int:=q7p a.toNat b.toNat
theorem jco (a b:UInt8):j7o a b=if ((a.toNat:Nat):Int)<((b.toNat:Nat):Int) then -1 else if ((b.toNat:Nat):Int)<((a.toNat:Nat):Int) then 1 else 0:=rfl
theorem qhh:Cmp j7o:=q84.key (fun a:UInt8=>((a.toNat:Nat):Int)) fun x y h=>UInt8.toNat_inj.1 (by omega)
theorem q9d : ∀ a b:Yy,Lib.compareBytes a b=cmpL j7o a b
 | [],[]=>rfl
 | [],_::_=>rfl
 | _::_,[]=>rfl
 | a::asx,b::bs=>by
  unfold Lib.compareBytes cmpL or2
  rw [q9d asx bs,jco a b]
  have h1:a<b↔((a.toNat:Nat):Int)<((b.toNat:Nat):Int):=by rw [UInt8.lt_iff_toNat_lt];omega
  have h2:b<a↔((b.toNat:Nat):Int)<((a.toNat:Nat):Int):=by rw [UInt8.lt_iff_toNat_lt];omega
  simp only [h1,h2]
  split
  ·simp
  ·split
   ·simp
   ·simp
theorem qda : ∀ a b:Yy,Op.bytesLess a b=decide (cmpL j7o a b<0)
 | [],[]=>rfl
 | [],_::_=>rfl
 | _::_,[]=>rfl
 | a::asx,b::bs=>by
  unfold Op.bytesLess cmpL or2
  rw [qda asx bs,jco a b]
  have h1:a<b↔((a.toNat:Nat):Int)<((b.toNat:Nat):Int):=by rw [UInt8.lt_iff_toNat_lt];omega
  have h3:(a==b)=decide (((a.toNat:Nat):Int)=((b.toNat:Nat):Int)):=by
   by_cases h:a=b
   ·subst h;simp
   ·have : ¬ ((a.toNat:Nat):Int)=((b.toNat:Nat):Int):=fun e=>h (UInt8.toNat_inj.1 (by omega))
    simp [h,this]
  rw [h3]
  simp only [h1]
  by_cases c1:((a.toNat:Nat):Int)<((b.toNat:Nat):Int)
  ·simp [c1]
  ·by_cases c2:((b.toNat:Nat):Int)<((a.toNat:Nat):Int)
   ·have : ¬ ((a.toNat:Nat):Int)=((b.toNat:Nat):Int):=by omega
    simp [c1,c2,this]
   ·have:((a.toNat:Nat):Int)=((b.toNat:Nat):Int):=by omega
    simp [c1,c2,this]
abbrev VD:=Vv
abbrev v0:VD:=(0,(0,(0,([],[]))))
def q0u (c:UInt8):Bool:=decide (48≤c.toNat)&&decide (c.toNat≤57)
def qhg (c:UInt8):Bool:=(decide (97≤c.toNat)&&decide (c.toNat≤122))||(decide (65≤c.toNat)&&decide (c.toNat≤90))||q0u c||decide (c.toNat=45)
def q2b (s:Yy):Bool:=s.all q0u && !decide (s = [])
def q20 (s:Yy):Bool:=s.all qhg && !decide (s = [])
def q41 (s:Yy):Bool:=q20 s&&(decide (s = [48]) || !decide (s.head? = some 48) || !q2b s)
def q54 (p:Yy→Bool) (s:Yy):Bool:=decide (s = [])||(decide (s.length≤30)&&(spl 46 [] s).all p)
def j2z (n:Int):Bool:=decide (0≤n)&&decide (n≤999999999)
def q0r (v:VD):Bool:=j2z v.1&&j2z v.2.1&&j2z v.2.2.1&&q54 q41 v.2.2.2.1&&q54 q20 v.2.2.2.2
def q4h (c:UInt8) (s:Yy):Yy:=if s = [] then [] else c::s
def j6l (v:VD):Yy:=118::(Lib.itoa v.1++46::(Lib.itoa v.2.1++46::(Lib.itoa v.2.2.1++(q4h 45 v.2.2.2.1++q4h 43 v.2.2.2.2))))
def q08 (v:VD):Yy:=if q0r v then j6l v else []
def jik (w:Yy):Int×(Int×Yy):=if q2b w then (0,(w.length,w)) else (1,(0,w))
def jal (x y:Yy):Int:=qe5 q7p (qe5 q7p (cmpL j7o)) (jik x) (jik y)
def j96 (p:Yy):Int×List Yy:=(if p = [] then 1 else 0,spl 46 [] p)
def q9h (a b:Yy):Int:=qe5 q7p (cmpL jal) (j96 a) (j96 b)
def core (v:VD):Int×(Int×(Int×Yy)):=(v.1,(v.2.1,(v.2.2.1,v.2.2.2.1)))
def cmpC (x y:Int×(Int×(Int×Yy))):Int:=qe5 q7p (qe5 q7p (qe5 q7p q9h)) x y
def j5w (v w:VD):Int:=if q0r v&&q0r w then cmpC (core v) (core w) else 0
theorem jgk (x y:Yy) (h:jik x=jik y):x=y:=by
 unfold jik at h
 split at h<;>split at h<;>simp at h<;>first|exact h.2|exact h
theorem jfa:Cmp jal:=(qrb q84 (qrb q84 (qdy qhh))).key jik jgk
def qas (c:UInt8):List Yy→Yy
 | []=>[]
 | [x]=>x
 | x::y::t=>x++c::qas c (y::t)
theorem qtw (c:UInt8) (l cur:Yy):spl c cur l ≠ []:=fun h=>by have:=(q47 c l cur).1;rw [h] at this;simp at this
theorem q6s (c:UInt8) : ∀ (l cur:Yy),qas c (spl c cur l)=cur++l
 | [],cur=>by simp [spl,qas]
 | b::l,cur=>by
  rw [spl]
  split
  ·rename_i h;subst h
   have ih:=q6s b l []
   cases hs:spl b [] l with
   | nil=>exact absurd hs (qtw b l [])
   | cons y t=>rw [hs] at ih;rw [qas,ih];simp
  ·rw [q6s c l];simp
theorem jln (c:UInt8) (x y:Yy) (h:spl c [] x=spl c [] y):x=y:=by
 have h1:=q6s c x []
 have h2:=q6s c y []
 rw [h] at h1
 simpa using h1.symm.trans h2
theorem je5 (x y:Yy) (h:j96 x=j96 y):x=y:=jln 46 x y (congrArg Prod.snd h)
theorem j4x:Cmp q9h:=(qrb q84 (qdy jfa)).key j96 je5
theorem qk5 (c:UInt8) (p:UInt8→Bool) : ∀ (l cur:Yy),(spl c cur l).all (fun w=>w.all p)=true↔(cur.all p=true∧∀ b∈l,b=c∨p b=true)
 | [],cur=>by simp [spl]
 | b::l,cur=>by
  rw [spl]
  split
  ·rename_i h;subst h
   rw [List.all_cons,Bool.and_eq_true,qk5 b p l []]
   simp
  ·rename_i h
   rw [qk5 c p l]
   simp only [List.all_append,List.all_cons,List.all_nil,Bool.and_true,Bool.and_eq_true,List.mem_cons,forall_eq_or_imp,h,false_or,and_assoc]
theorem qlo {d:Nat} (h:d<10):q0u (UInt8.ofNat (48+d))=true:=by
 unfold q0u
 have:(UInt8.ofNat (48+d)).toNat=48+d:=by rw [UInt8.toNat_ofNat'];omega
 rw [this];simp;omega
theorem qhw (n:Nat):(Lib.decDigits n).all q0u=true∧Lib.decDigits n ≠ []:=by
 induction n using Nat.strongRecOn with
 | _ n ih =>
  rw [Lib.decDigits]
  split
  ·rename_i h;exact ⟨by rw [List.all_cons,qlo h];rfl,by simp⟩
  ·rename_i h
   have:=ih (n / 10) (by omega)
   exact ⟨by rw [List.all_append,this.1,List.all_cons,qlo (show n % 10<10 by omega)];rfl,by simp⟩
theorem qb5 : ∀ (k n:Nat),n<10 ^ (k+1)→(Lib.decDigits n).length≤k+1
 | 0,n,h=>by rw [Lib.decDigits,dif_pos (by omega)];simp
 | k+1,n,h=>by
  rw [Lib.decDigits]
  split
  ·simp
  ·have:=qb5 k (n / 10) (by rw [Nat.pow_succ] at h;omega)
   simp;omega
theorem qs3 : ∀ (l r:Yy) (a:Nat) (u:Nat),Lib.parseUint10 a l = .ok u→Lib.parseUint10 a (l++r)=Lib.parseUint10 u r
 | [],r,a,u,h=>by simp only [Lib.parseUint10] at h;injection h with h;subst h;rfl
 | c::l,r,a,u,h=>by
  rw [List.cons_append]
  conv=>lhs;unfold Lib.parseUint10
  unfold Lib.parseUint10 at h
  split at h
  ·rename_i h1
   rw [if_pos h1]
   split at h
   ·cases h
   ·rename_i h2
    rw [if_neg h2]
    split at h
    ·cases h
    ·rename_i h3
     rw [if_neg h3]
     exact qs3 l r _ u h
  ·cases h
theorem j6t (n:Nat) (h:n<1000000000000000000):Lib.parseUint10 0 (Lib.decDigits n) = .ok n:=by
 induction n using Nat.strongRecOn with
 | _ n ih =>
  have t1 : ∀ d,d<10→(UInt8.ofNat (48+d)).toNat=48+d:=fun d hd=>by rw [UInt8.toNat_ofNat'];omega
  rw [Lib.decDigits]
  split
  ·rename_i h1
   unfold Lib.parseUint10 Lib.parseUint10
   rw [t1 n h1,if_pos (by omega),if_neg (by omega),if_neg (by omega)]
   congr 1;omega
  ·rename_i h1
   have h2:=ih (n / 10) (by omega) (by omega)
   rw [qs3 _ _ _ _ h2]
   unfold Lib.parseUint10 Lib.parseUint10
   rw [t1 _ (show n % 10<10 by omega),if_pos (by omega),if_neg (by omega),if_neg (by omega)]
   congr 1;omega
theorem q0y {n:Int} (h:0≤n):Lib.itoa n=Lib.decDigits n.toNat:=by unfold Lib.itoa;rw [if_neg (by omega)]
theorem qcz {n:Int} (h0:0≤n) (h1:n≤999999999):Lib.atoiAll (Lib.itoa n) = .ok n:=by
 rw [q0y h0]
 have hd:=qhw n.toNat
 have hp:=j6t n.toNat (by omega)
 generalize Lib.decDigits n.toNat=l at hd hp
 cases l with
 | nil=>exact absurd rfl hd.2
 | cons c r =>
  have hc:q0u c=true:=by have:=hd.1;simp at this;exact this.1
  unfold q0u at hc
  simp at hc
  unfold Lib.atoiAll
  have c43 : ¬ c.toNat=43:=by omega
  have c45 : ¬ c.toNat=45:=by omega
  simp only [c43,or_self,if_false,c45,not_false_eq_true,true_and,false_and]
  unfold Lib.parseMag
  rw [if_neg (by simp),hp]
  simp only
  rw [if_neg (by omega)]
  congr 1;omega
def q8t (a:Int):Yy→Int
 | []=>a
 | c::l=>q8t (10*a+c.toNat - 48) l
theorem qp8 : ∀ (l r:Yy) (a:Int),q8t a (l++r)=q8t (q8t a l) r
 | [],r,a=>rfl
 | c::l,r,a=>by rw [List.cons_append,q8t,q8t,qp8 l]
theorem j22 (n:Nat):q8t 0 (Lib.decDigits n)=n:=by
 induction n using Nat.strongRecOn with
 | _ n ih =>
  have t1 : ∀ d,d<10→(UInt8.ofNat (48+d)).toNat=48+d:=fun d hd=>by rw [UInt8.toNat_ofNat'];omega
  rw [Lib.decDigits]
  split
  ·rename_i h1
   unfold q8t q8t
   rw [t1 n h1];omega
  ·rename_i h1
   rw [qp8,ih (n / 10) (by omega)]
   unfold q8t q8t
   rw [t1 _ (show n % 10<10 by omega)];omega
theorem qec : ∀ (l:Yy) (a:Int),0≤a→l.all q0u=true→0≤q8t a l∧q8t a l<(a+1)*10 ^ l.length
 | [],a,h,_=>by simp [q8t];omega
 | c::l,a,h,hd=>by
  simp at hd
  have hc:=hd.1
  unfold q0u at hc
  simp at hc
  have ih:=qec l (10*a+c.toNat - 48) (by omega) (by simp;exact hd.2)
  rw [q8t]
  refine ⟨ih.1,Int.lt_of_lt_of_le ih.2 ?_⟩
  have e1:(10:Int) ^ (c::l).length=10*10 ^ l.length:=by rw [List.length_cons,Int.pow_succ];omega
  rw [e1,← Int.mul_assoc]
  have hp:(0:Int)≤10 ^ l.length:=Int.le_of_lt (Int.pow_pos (by decide))
  exact Int.mul_le_mul_of_nonneg_right (by omega) hp
theorem q6z (c:UInt8) : ∀ l:Yy,c ∉ l→Lib.index l [c] = -1
 | [],_=>by simp [Lib.index]
 | b::l,h=>by
  have h1:b≠c:=fun e=>h (by simp [e])
  have ih:=q6z c l (fun e=>h (by simp [e]))
  rw [qhm h1,ih];rfl
theorem index_hit (c:UInt8) : ∀ (l r:Yy),c ∉ l→Lib.index (l++c::r) [c]=((l.length:Nat):Int)
 | [],r,_=>index_self c r
 | b::l,r,h=>by
  have h1:b≠c:=fun e=>h (by simp [e])
  have ih:=index_hit c l r (fun e=>h (by simp [e]))
  rw [List.cons_append,qhm h1,ih]
  have:((((l.length:Nat):Int) == -1)=true)=False:=by simp
  simp only [this,if_false,List.length_cons];omega
def q2e (c:UInt8) (s:Yy):Yy:=if Lib.index s [c] = -1 then s else s.take (Lib.index s [c]).toNat
def q5r (c:UInt8) (s:Yy):Yy:=if Lib.index s [c] = -1 then [] else s.drop ((Lib.index s [c]).toNat+1)
theorem j2l (c:UInt8) (x t:Yy) (h:c ∉ x):q2e c (x++q4h c t)=x∧q5r c (x++q4h c t)=t:=by
 unfold q4h q2e q5r
 split
 ·rename_i e;subst e
  rw [List.append_nil,q6z c x h];exact ⟨rfl,rfl⟩
 ·rw [index_hit c x t h]
  have n1 : ¬ ((x.length:Nat):Int) = -1:=by omega
  simp only [n1,if_false,Int.toNat_natCast]
  simp
theorem qr4 (c:UInt8) (x t:Yy) (h:c ∉ x):q2e c (x++c::t)=x∧q5r c (x++c::t)=t:=by
 unfold q2e q5r
 rw [index_hit c x t h]
 have n1 : ¬ ((x.length:Nat):Int) = -1:=by omega
 simp only [n1,if_false,Int.toNat_natCast]
 simp
theorem qdz (c:UInt8) (x t:Yy) (h:c ∉ x):spl c [] (x++c::t)=x::spl c [] t:=by
 rw [qe3 c x [] _ h,List.nil_append,spl,if_pos rfl]
theorem q70 (c:UInt8) (x:Yy) (h:c ∉ x):spl c [] x = [x]:=by
 have:=qe3 c x [] [] h
 simpa [spl] using this
theorem j1o {p:Yy→Bool} (hp : ∀ w,p w=true→w.all qhg=true) {s:Yy} (h:q54 p s=true) : ∀ b∈s,b=46∨qhg b=true:=by
 unfold q54 at h
 simp only [Bool.or_eq_true,Bool.and_eq_true,decide_eq_true_eq] at h
 rcases h with rfl|⟨_,h⟩
 ·intro b hb;cases hb
 ·exact ((qk5 46 qhg s []).1 (List.all_eq_true.2 fun w hw=>hp w (List.all_eq_true.1 h w hw))).2
theorem qnt (w:Yy) (h:q20 w=true):w.all qhg=true:=by unfold q20 at h;simp only [Bool.and_eq_true] at h;exact h.1
theorem qto (w:Yy) (h:q41 w=true):w.all qhg=true:=by unfold q41 at h;simp only [Bool.and_eq_true] at h;exact qnt w h.1
theorem qqr {c:UInt8} (hc:q0u c=false) (n:Nat):c ∉ Lib.decDigits n:=fun h=>by
 have:=List.all_eq_true.1 (qhw n).1 c h
 rw [hc] at this;cases this
theorem sg43:qhg 43=false:=by decide
theorem q19 {v:VD} (h:q0r v=true):(0≤v.1∧v.1≤999999999)∧(0≤v.2.1∧v.2.1≤999999999)∧(0≤v.2.2.1∧v.2.2.1≤999999999)∧q54 q41 v.2.2.2.1=true∧q54 q20 v.2.2.2.2=true:=by
 unfold q0r j2z at h
 simp only [Bool.and_eq_true,decide_eq_true_eq] at h
 exact ⟨h.1.1.1.1,h.1.1.1.2,h.1.1.2,h.1.2,h.2⟩
theorem q4a {p:Yy→Bool} {s:Yy} (h:q54 p s=true):s.length≤30:=by
 unfold q54 at h
 simp only [Bool.or_eq_true,Bool.and_eq_true,decide_eq_true_eq] at h
 rcases h with rfl|h
 ·simp
 ·exact h.1
def qd2 (s:Yy):Int:=match Lib.atoiAll s with
 | .ok v=>v
 | _=>-1
def q1k (s:Yy):Yy:=if s.head? = some 118 then s.drop 1 else s
def j59 (s:Yy):VD:=(qd2 (q2e 46 (q1k (q2e 45 (q2e 43 s)))),(qd2 (q2e 46 (q5r 46 (q1k (q2e 45 (q2e 43 s))))),(qd2 (q5r 46 (q5r 46 (q1k (q2e 45 (q2e 43 s))))),(q5r 45 (q2e 43 s),q5r 43 s))))
def qap (s:Yy):Int:=if q2b s&&decide (s.length≤9) then q8t 0 s else -1
def jk7 (r:Yy):Option VD:=match spl 46 [] (q2e 45 (q2e 43 r)) with
 | [a,b,c]=>some (qap a,(qap b,(qap c,(q5r 45 (q2e 43 r),q5r 43 r))))
 | _=>none
theorem jae {v:VD} (h:q0r v=true) : ∀ pf:Yy,43 ∉ pf→45 ∉ pf →
  q2e 43 (pf++(Lib.itoa v.1++46::(Lib.itoa v.2.1++46::(Lib.itoa v.2.2.1++(q4h 45 v.2.2.2.1++q4h 43 v.2.2.2.2)))))=pf++(Lib.itoa v.1++46::(Lib.itoa v.2.1++46::(Lib.itoa v.2.2.1++q4h 45 v.2.2.2.1))) ∧
  q5r 43 (pf++(Lib.itoa v.1++46::(Lib.itoa v.2.1++46::(Lib.itoa v.2.2.1++(q4h 45 v.2.2.2.1++q4h 43 v.2.2.2.2)))))=v.2.2.2.2 ∧
  q2e 45 (pf++(Lib.itoa v.1++46::(Lib.itoa v.2.1++46::(Lib.itoa v.2.2.1++q4h 45 v.2.2.2.1))))=pf++(Lib.itoa v.1++46::(Lib.itoa v.2.1++46::Lib.itoa v.2.2.1)) ∧
  q5r 45 (pf++(Lib.itoa v.1++46::(Lib.itoa v.2.1++46::(Lib.itoa v.2.2.1++q4h 45 v.2.2.2.1))))=v.2.2.2.1:=by
 intro pf p1 p2
 obtain ⟨h1,h2,h3,h4,h5⟩:=q19 h
 have d43:q0u 43=false:=by decide
 have d45:q0u 45=false:=by decide
 have t43:(43:UInt8) ∉ q4h 45 v.2.2.2.1:=by
  unfold q4h
  split
  ·simp
  ·intro hm
   rcases List.mem_cons.1 hm with hm|hm
   ·cases hm
   ·rcases j1o qto h4 _ hm with hm|hm
    ·cases hm
    ·rw [sg43] at hm;cases hm
 rw [q0y h1.1,q0y h2.1,q0y h3.1]
 have m43:=fun n=>qqr d43 n
 have m45:=fun n=>qqr d45 n
 have a1:=j2l 43 (pf++(Lib.decDigits v.1.toNat++46::(Lib.decDigits v.2.1.toNat++46::(Lib.decDigits v.2.2.1.toNat++q4h 45 v.2.2.2.1)))) v.2.2.2.2 (by simp [m43,t43,p1])
 have a2:=j2l 45 (pf++(Lib.decDigits v.1.toNat++46::(Lib.decDigits v.2.1.toNat++46::Lib.decDigits v.2.2.1.toNat))) v.2.2.2.1 (by simp [m45,p2])
 simp only [List.append_assoc,List.cons_append] at a1 a2
 exact ⟨a1.1,a1.2,a2.1,a2.2⟩
theorem j9l {v:VD} (h:q0r v=true):j59 (j6l v)=v:=by
 obtain ⟨h1,h2,h3,h4,h5⟩:=q19 h
 have d46:q0u 46=false:=by decide
 have m46:=fun n=>qqr d46 n
 have e0:j6l v = [118]++(Lib.itoa v.1++46::(Lib.itoa v.2.1++46::(Lib.itoa v.2.2.1++(q4h 45 v.2.2.2.1++q4h 43 v.2.2.2.2)))):=rfl
 obtain ⟨k1,k2,k3,k4⟩:=jae h [118] (by decide) (by decide)
 unfold j59
 rw [e0,k1,k2,k3,k4]
 have e1:q1k ([118]++(Lib.itoa v.1++46::(Lib.itoa v.2.1++46::Lib.itoa v.2.2.1)))=Lib.itoa v.1++46::(Lib.itoa v.2.1++46::Lib.itoa v.2.2.1):=rfl
 rw [e1]
 have c1:=qr4 46 (Lib.itoa v.1) (Lib.itoa v.2.1++46::Lib.itoa v.2.2.1) (by rw [q0y h1.1];exact m46 _)
 have c2:=qr4 46 (Lib.itoa v.2.1) (Lib.itoa v.2.2.1) (by rw [q0y h2.1];exact m46 _)
 rw [c1.1,c1.2,c2.1,c2.2]
 unfold qd2
 rw [qcz h1.1 h1.2,qcz h2.1 h2.2,qcz h3.1 h3.2]
theorem qjf {n:Int} (h0:0≤n) (h1:n≤999999999):qap (Lib.itoa n)=n:=by
 rw [q0y h0]
 have hd:=qhw n.toNat
 have hl:=qb5 8 n.toNat (by omega)
 unfold qap q2b
 rw [if_pos (by simp [hd.1,hd.2,hl]),j22];omega
theorem j75 {v:VD} (h:q0r v=true):jk7 ((j6l v).drop 1)=some v:=by
 obtain ⟨h1,h2,h3,h4,h5⟩:=q19 h
 have d46:q0u 46=false:=by decide
 have m46:=fun n=>qqr d46 n
 obtain ⟨k1,k2,k3,k4⟩:=jae h [] (by simp) (by simp)
 simp only [List.nil_append] at k1 k2 k3 k4
 have e0:(j6l v).drop 1=Lib.itoa v.1++46::(Lib.itoa v.2.1++46::(Lib.itoa v.2.2.1++(q4h 45 v.2.2.2.1++q4h 43 v.2.2.2.2))):=rfl
 unfold jk7
 rw [e0,k1,k2,k3,k4]
 rw [qdz 46 (Lib.itoa v.1) _ (by rw [q0y h1.1];exact m46 _),qdz 46 (Lib.itoa v.2.1) _ (by rw [q0y h2.1];exact m46 _),q70 46 (Lib.itoa v.2.2.1) (by rw [q0y h3.1];exact m46 _)]
 simp only [qjf h1.1 h1.2,qjf h2.1 h2.2,qjf h3.1 h3.2]
theorem j9e {v:VD} (h:q0r v=true):(j6l v).length≤92:=by
 obtain ⟨h1,h2,h3,h4,h5⟩:=q19 h
 have l1:=qb5 8 v.1.toNat (by omega)
 have l2:=qb5 8 v.2.1.toNat (by omega)
 have l3:=qb5 8 v.2.2.1.toNat (by omega)
 have t1:=q4a h4
 have t2:=q4a h5
 have tt : ∀ (c:UInt8) (s:Yy),(q4h c s).length≤s.length+1:=fun c s=>by unfold q4h;split<;>simp
 have u1:=tt 45 v.2.2.2.1
 have u2:=tt 43 v.2.2.2.2
 unfold j6l
 rw [q0y h1.1,q0y h2.1,q0y h3.1]
 simp only [List.length_cons,List.length_append]
 omega
def q09 (s:Yy):VD×Bool:=if q0r (j59 s)&&decide (q08 (j59 s)=s) then (j59 s,true) else (v0,false)
theorem j0h {s:Yy} {v:VD} (h:q0r v=true) (ht:q08 v=s):q09 s=(v,true):=by
 have e1:s=j6l v:=by rw [← ht];unfold q08;rw [if_pos h]
 subst e1
 unfold q09
 rw [j9l h,if_pos (by simp [h,ht])]
theorem qej {s:Yy} (h:(q09 s).2=true):q0r (q09 s).1=true∧q08 (q09 s).1=s:=by
 unfold q09 at *
 split at h
 ·rename_i h1
  rw [if_pos h1]
  simp only [Bool.and_eq_true,decide_eq_true_eq] at h1
  exact h1
 ·cases h
theorem qo1 {s:Yy} (h : ∀ v,q0r v=true→q08 v≠s):q09 s=(v0,false):=by
 unfold q09
 rw [if_neg]
 simp only [Bool.and_eq_true,decide_eq_true_eq]
 exact fun h1=>h _ h1.1 h1.2
end Go.Proofs.YtapfankgdkdkgaaGreatDoor.AM
namespace Go.Proofs
open Go.RowKit Go.Shelf Go.Lib
shelf_lay LaysM.n171 Nm 171 at Tryz as Tryz.laysItoa
shelf_lay LaysC.n172 Nm 172 at Tryz as Tryz.laysAtoi
namespace YtapfankgdkdkgaaGreatDoor.AM
structure Inv (w:World):Prop where
 errT:w.cell? ⟨0,0,none⟩=some (.iface 196 (.agg #[.pointer (some ⟨9,82,none⟩)]))
 maxLen : ∃ m,w.cell? ⟨Tryz.laysIndex_ren.g 1,0,none⟩=some (.int .i64 m)
 tab:Lib.TabIs Tryz.prog w "internal/strconv.uint64pow10" .u64 Lib.pow10Tab
 syn : ∃ tp p,w.cell? ⟨Tryz.laysAtoi_ren.g 15,0,none⟩=some (.iface tp p)
 rng : ∃ tp p,w.cell? ⟨Tryz.laysAtoi_ren.g 16,0,none⟩=some (.iface tp p)
theorem gTab:(Tryz.prog.globalNamed "internal/strconv.uint64pow10").isSome=true:=by kernel_rfl
theorem Inv.below {w w':World} (h:Inv w) (hb:Below w.heap.size w w'):Inv w':=by
 obtain ⟨he,⟨m,hm⟩,ht,⟨t1,p1,h1⟩,⟨t2,p2,h2⟩⟩:=h
 refine ⟨(hb.cell (p:=⟨_,0,none⟩) (World.block_lt_of_cell? _ _ he)).trans he,⟨m,(hb.cell (p:=⟨_,0,none⟩) (World.block_lt_of_cell? _ _ hm)).trans hm⟩,?_,⟨t1,p1,(hb.cell (p:=⟨_,0,none⟩) (World.block_lt_of_cell? _ _ h1)).trans h1⟩,⟨t2,p2,(hb.cell (p:=⟨_,0,none⟩) (World.block_lt_of_cell? _ _ h2)).trans h2⟩⟩
 obtain ⟨g,hg⟩:=Option.isSome_iff_exists.1 gTab
 refine var?_below hb hg ?_ ht
 have hv:w.var? Tryz.prog "internal/strconv.uint64pow10" = some _:=ht
 unfold World.var? at hv
 rw [hg] at hv
 simp only [Option.bind_some] at hv
 split at hv
 ·rename_i h5;exact (Array.getElem?_eq_some_iff.1 h5).1
 ·cases hv
theorem q7w:Know Inv Inv:=⟨fun w w' h hb=>h.below hb,fun _ h=>h⟩
variable {P:Program}
theorem q46 {Pc:Nat→Nat→Prop} {w w':World} {v:Value} {d:D} {e:Ending} (he:e = .returned v) (hb:Below w.heap.size w w') (hv:q1r (q4p Pc) qh1 w' v d) :
  ∃ v' Pc',e = .returned v'∧Below w.heap.size w w'∧(∀ b o,Pc b o→Pc' b o)∧(∀ b o,Pc' b o→Pc b o∨(w.heap.size≤b∧b<w'.heap.size))∧q1r (q4p Pc') qh1 w' v' d :=
 ⟨v,Pc,he,hb,fun _ _ h=>h,fun _ _ h=>Or.inl h,hv⟩
abbrev qmx:SD:=.one (.c (.d .str))
abbrev intA:SD:=.one (.c (.d (.int .i64)))
abbrev jf7:SD:=.one (.c (.d .bool))
def qlw (s sep:List UInt8):Option Int:=match sep with
 | [c]=>if s.length<4294967281 then some (Lib.index s [c]) else none
 | _=>none
def jg7:FC:={ f:=111,args:=[qmx,qmx],res:=intA,F:=fun p=>qlw p.1 p.2 }
theorem jf6:q05 Inv Tryz.prog jg7:=fun G hG=>⟨⟨by kernel_rfl,fun a r h=>by
 obtain ⟨s,sep⟩:=a
 have h':qlw s sep=some r:=h
 unfold qlw at h'
 split at h'
 case h_2=>cases h'
 rename_i c
 split at h'
 case isFalse=>cases h'
 rename_i hc
 have hr:Lib.index s [c]=r:=Option.some.inj h'
 intro Pc w vs hg hlt hv
 obtain ⟨m,hm⟩:=(hG.im w hg).maxLen
 obtain ⟨l⟩:=vs
 match l,hv with
 | [x,y],⟨h1,h2,_⟩ =>
  obtain rfl:x = .string (ba s):=q0b h1
  obtain rfl:y = .string (ba [c]):=q0b h2
  have e1:(ba s).data.toList=s:=by simp [ba]
  have e2:(ba [c]).data.toList = [c]:=by simp [ba]
  have hh:=Any.stringslite_Index { Tryz.laysIndex with } (ba s) (ba [c]) m w (by rw [q37];exact hc) hm
  rw [e1,e2,hr] at hh
  refine hh.mono ?_
  rintro e w' ⟨rfl,rfl⟩
  exact q46 rfl (Below.refl _ _) (q06 _)⟩,rfl⟩
def qkz (n:Int):Option (List UInt8):=if -9223372036854775808≤n∧n≤9223372036854775807 then some (Lib.itoa n) else none
def jkp:FC:={ f:=76,args:=[intA],res:=qmx,F:=fun p=>qkz p }
theorem jjj:q05 Inv Tryz.prog jkp:=fun G hG=>⟨⟨by kernel_rfl,fun (n:Int) r h=>by
 have h':qkz n=some r:=h
 unfold qkz at h'
 split at h'
 case isFalse=>cases h'
 rename_i hc
 have hr:Lib.itoa n=r:=Option.some.inj h'
 intro Pc w vs hg hlt hv
 obtain ⟨l⟩:=vs
 match l,hv with
 | [x],⟨h1,_⟩ =>
  obtain rfl:x = .int .i64 n:=q0b h1
  refine (Any.strconv_Itoa Tryz.laysItoa n hc.1 hc.2 w (hG.im w hg).tab).mono ?_
  rintro e w' ⟨rfl,k,os,rfl⟩
  subst hr
  exact q46 rfl (Lib.below_grow _ w (Nat.le_refl _) k os) (q06 (.string (ba (Lib.itoa n))))⟩,rfl⟩
end YtapfankgdkdkgaaGreatDoor.AM
end Go.Proofs
namespace Go.Proofs
open Go.RowKit Go.Shelf Go.Lib
shelf_lay LaysM.n146 Nm 146 at Tryz as Tryz.laysSplit
shelf_lay Lays.n106 Nm 106 at Tryz as Tryz.laysCompare
namespace YtapfankgdkdkgaaGreatDoor.AM
variable {P:Program}
def j6g:FC:={ f:=211,args:=[qmx,qmx],res:=intA,F:=fun p=>some (Lib.compareBytes p.1 p.2) }
def qbx (a b:List UInt8):Option Int:=some (Lib.compareBytes a b)
theorem j37:q05 Inv Tryz.prog j6g:=fun G hG=>⟨⟨by kernel_rfl,fun a r h=>by
 obtain ⟨s,t⟩:=a
 have hr:Lib.compareBytes s t=r:=Option.some.inj h
 intro Pc w vs hg hlt hv
 obtain ⟨l⟩:=vs
 match l,hv with
 | [x,y],⟨h1,h2,_⟩ =>
  obtain rfl:x = .string (ba s):=q0b h1
  obtain rfl:y = .string (ba t):=q0b h2
  have e1:(ba s).data.toList=s:=by simp [ba]
  have e2:(ba t).data.toList=t:=by simp [ba]
  have hh:=Any.strings_Compare Tryz.laysCompare (ba s) (ba t) w
  rw [e1,e2,hr] at hh
  refine hh.mono ?_
  rintro e w' ⟨rfl,rfl⟩
  exact q46 rfl (Below.refl _ _) (q06 _)⟩,rfl⟩
theorem qst (s:List UInt8) (w:World) (hI:Inv w) (hlim:s.length≤281474976710656):Calls Tryz.prog 156 #[.string (ba s)] w fun e w'=>e = .returned (.int .i64 (qd2 s))∧Below w.heap.size w w':=by
 have e1:(ba s).data.toList=s:=by simp [ba]
 have hl:(ba s).size≤281474976710656:=by rw [q37];exact hlim
 obtain ⟨ts,ps,hs⟩:=hI.syn
 obtain ⟨tr,pr,hr⟩:=hI.rng
 go_enter Tryz.func156,Tryz.ntmps156
 unfold qd2
 cases h:Lib.atoiAll s with
 | ok v =>
  go_wp2_with (go_at_call 167;refine (Any.strconv_Atoi_ok Tryz.laysAtoi (ba s) (by omega) v (by rw [e1];exact h) w).mono ?_)
  rintro e w' ⟨rfl,hw⟩
  go_wp2
  go_ret
  refine ⟨rfl,?_⟩
  rcases hw with rfl|⟨t,rfl⟩
  ·exact Below.refl _ _
  ·exact Lib.bytesWorld_below _ _ _
 | «syntax» =>
  go_wp2_with (go_at_call 167;refine (Any.strconv_Atoi_syntax Tryz.laysAtoi (ba s) hl (by rw [e1];exact h) _ w hs (Or.inr ⟨_,_,rfl⟩)).mono ?_)
  rintro e w' ⟨N,rfl,hN,hc,hb⟩
  go_wp2
  go_ret
  exact ⟨rfl,hb⟩
 | range =>
  go_wp2_with (go_at_call 167;refine (Any.strconv_Atoi_range Tryz.laysAtoi (ba s) hl (by rw [e1];exact h) _ w hr (Or.inr ⟨_,_,rfl⟩)).mono ?_)
  rintro e w' ⟨N,rfl,hN,hc,hb⟩
  go_wp2
  go_ret
  exact ⟨rfl,hb⟩
def q51 (s:List UInt8):Option Int:=if s.length≤281474976710656 then some (qd2 s) else none
def j7h:FC:={ f:=156,args:=[qmx],res:=intA,F:=fun p=>q51 p }
theorem jbs:q05 Inv Tryz.prog j7h:=fun G hG=>⟨⟨by kernel_rfl,fun (s:List UInt8) r h=>by
 have h':q51 s=some r:=h
 unfold q51 at h'
 split at h'
 case isFalse=>cases h'
 rename_i hc
 have hr:qd2 s=r:=Option.some.inj h'
 intro Pc w vs hg hlt hv
 obtain ⟨l⟩:=vs
 match l,hv with
 | [x],⟨h1,_⟩ =>
  obtain rfl:x = .string (ba s):=q0b h1
  refine (qst s w (hG.im w hg) hc).mono ?_
  rintro e w' ⟨rfl,hb⟩
  subst hr
  exact q46 rfl hb (q06 _)⟩,rfl⟩
theorem joq:Tryz.laysSplit_ren.g 1=Tryz.laysIndex_ren.g 1:=by kernel_rfl
def q82 (s sep:List UInt8):Option (List (List UInt8)):=match sep with
 | [c]=>if s.length<4294967281 then some (spl c [] s) else none
 | _=>none
def jf2:FC:={ f:=93,args:=[qmx,qmx],res:=.one (.c (.d (.lst .str))),F:=fun p=>q82 p.1 p.2 }
theorem j1j:q05 Inv Tryz.prog jf2:=fun G hG=>⟨⟨by kernel_rfl,fun a r h=>by
 obtain ⟨s,sep⟩:=a
 have h':q82 s sep=some r:=h
 unfold q82 at h'
 split at h'
 case h_2=>cases h'
 rename_i c
 split at h'
 case isFalse=>cases h'
 rename_i hc
 have hr:(Lib.splitB (ba [c]) 0 (Lib.countB (ba s) (ba [c])) (ba s)).map unB=r:=(j32 c s).trans (Option.some.inj h')
 intro Pc w vs hg hlt hv
 obtain ⟨m,hm⟩:=(hG.im w hg).maxLen
 obtain ⟨l⟩:=vs
 match l,hv with
 | [x,y],⟨h1,h2,_⟩ =>
  obtain rfl:x = .string (ba s):=q0b h1
  obtain rfl:y = .string (ba [c]):=q0b h2
  have b1:1≤(ba [c]).size:=by rw [q37];exact Nat.le_refl _
  have hlen:(Lib.splitB (ba [c]) 0 (Lib.countB (ba s) (ba [c])) (ba s)).length=Lib.countB (ba s) (ba [c])+1:=Lib.splitB_all (ba [c]) b1 0 _ (ba s) rfl
  refine (Any.strings_Split { Tryz.laysSplit with } Tryz.laysSplit.i9 (ba s) (ba [c]) m w (by rw [q37];exact hc) (by rw [joq];exact hm) b1).mono ?_
  rintro e w' ⟨rfl,rfl⟩
  generalize hL:Lib.splitB (ba [c]) 0 (Lib.countB (ba s) (ba [c])) (ba s)=L at hlen hr
  refine ⟨_,fun b o=>Pc b o∨b=w.heap.size,rfl,(Below.refl _ _).alloc (Nat.le_refl _) _,fun b o hp=>Or.inl hp,?_,?_⟩
  ·rintro b o (hp|rfl)
   ·exact Or.inl hp
   ·exact Or.inr ⟨Nat.le_refl _,by simp⟩
  ·show DatRep _ _ _ (.lst 1 (r.map (q01 .str)))
   have hr2:r.map (q01 .str)=L.map fun x=>[Dat.v (.string x)]:=by
    rw [← hr,List.map_map]
    exact List.map_congr_left fun x _=>by show [Dat.v (.string (ba (unB x)))]=_;rw [j8p]
   rw [hr2,← hlen]
   have hmax:L.length≤maxLen:=by
    have:=Lib.countB_le (ba [c]) b1 (ba s).size (ba s) (Nat.le_refl _)
    rw [q37] at this
    have hM:maxLen=9223372036854775807:=by decide
    omega
   refine .lst _ _ _ 1 _ w.heap.size 0 (fun k j=>.string (L.getD k ⟨#[]⟩)) (by simp) (Nat.le_refl _) hmax (fun x hx=>?_) (fun _=>rfl) (fun k j hk hj=>⟨Or.inr rfl,?_,rfl⟩) (fun k j hk hj=>?_)
   ·obtain ⟨y,_,rfl⟩:=List.mem_map.1 hx;rfl
   ·have hk':k<L.length:=by simpa using hk
    have hj0:j=0:=by omega
    subst hj0
    rw [World.cell?_alloc_new]
    simp [List.getD,hk']
   ·have hk':k<L.length:=by simpa using hk
    have hj0:j=0:=by simp at hj;exact hj
    subst hj0
    simp [List.getD,hk']
    exact .v _⟩,rfl⟩
end YtapfankgdkdkgaaGreatDoor.AM
end Go.Proofs
namespace Go.Proofs.YtapfankgdkdkgaaGreatDoor.AM
open Go.RowKit
set_option maxRecDepth 20000
def q4d (n:Nat) (a1:Int):Option Bool :=
 (bif decide (48≤a1) then some (decide (a1≤57)) else some false)
def j5i (n:Nat):FC:={ f:=169,args:=[.one (.c (.d (.int .u8)))],res:=.one (.c (.d .bool)),F:=fun p=>q4d n p }
theorem qnr (n:Nat):q05 Inv Tryz.prog (j5i n):=mkF Tryz.func169 [] [] (cn) (by kernel_rfl) trivial (by intro a;kernel_rfl)
def qhf (n:Nat) (a1:Int):Option Bool :=
 (bif decide (97≤a1) then (bif decide (a1≤122) then some true else (bif decide (65≤a1) then (bif decide (a1≤90) then some true else (q4d n a1).bind fun r1=>(bif r1 then some true else some (decide (a1=45)))) else (q4d n a1).bind fun r2=>(bif r2 then some true else some (decide (a1=45))))) else (bif decide (65≤a1) then (bif decide (a1≤90) then some true else (q4d n a1).bind fun r3=>(bif r3 then some true else some (decide (a1=45)))) else (q4d n a1).bind fun r4=>(bif r4 then some true else some (decide (a1=45)))))
def j74 (n:Nat):FC:={ f:=139,args:=[.one (.c (.d (.int .u8)))],res:=.one (.c (.d .bool)),F:=fun p=>qhf n p }
theorem jbp (n:Nat):q05 Inv Tryz.prog (j74 n):=mkF Tryz.func139 [] [] (cc (qnr n) <| cn) (by kernel_rfl) trivial (by intro a;kernel_rfl)
@[reducible] def j3f:SSt:=⟨[(0,.one (.c (.d .str))),(1,.one (.c (.fn 139 []))),(7,.one (.c (.d (.int .i64)))),(8,.one (.c (.d (.int .i64))))],[],[]⟩
@[reducible] def qwb:List (Exit×SSt):=[(.ret,⟨[(4,.one (.c (.d .bool)))],[],[]⟩),(.exit 0,⟨[(0,.one (.c (.d .str)))],[],[]⟩)]
def qkh (n:Nat) (rec:(Yy)→Int→Int→Option Z1) (a1:Yy) (a2:Int) (a3:Int):Option Z1 :=
 (bif decide (a3<a2) then (sAt a1 a3).bind fun c1=>(qhf n c1).bind fun r2=>(bif !r2 then some (Sum.inl ((false,()),((),()))) else q00 (IntKind.wrap .i64 (a3+1)) fun n3=>rec a1 a2 n3) else some (Sum.inr (((a1,()),((),())))))
def qvq (n:Nat):Stp j3f qwb:=fun rec p=>qkh n (fun a1 a2 a3=>rec ((a1,((),(a2,(a3,())))),((),()))) p.1.1 p.1.2.2.1 p.1.2.2.2.1
def q64 (n m:Nat) (a1:Yy) (a2:Int) (a3:Int):Option Z1:=q0v (qvq n) m ((a1,((),(a2,(a3,())))),((),()))
theorem qes (n m:Nat) (a1 a2 a3):q64 n (m+1) a1 a2 a3=qkh n (fun a1 a2 a3=>q64 n m a1 a2 a3) a1 a2 a3:=rfl
def qho (n:Nat) (a1:Yy) (a2:Unit):Option Bool :=
 (q64 n n a1 (a1.length:Int) (0:Int)).bind fun o4=>Sum.elim (fun (q5:(Bool×Unit)×Unit×Unit)=>some q5.1.1) (fun (q6:(Yy×Unit)×Unit×Unit)=>some (!decide (q6.1.1=([]:Yy)))) o4
def j8x (n:Nat):FC:={ f:=138,args:=[.one (.c (.d .str)),.one (.c (.fn 139 []))],res:=.one (.c (.d .bool)),F:=fun p=>qho n p.1 p.2 }
theorem j8c (n:Nat):q05 Inv Tryz.prog (j8x n):=mkF Tryz.func138 [] [q4o qvq n] (cc (jbp n) <| cn) (by kernel_rfl) ⟨ls (by intro rec p;kernel_rfl),trivial⟩ (by intro a;kernel_rfl)
@[reducible] def j5j:SSt:=⟨[(0,.one (.c (.d .str))),(1,.one (.c (.fn 169 []))),(7,.one (.c (.d (.int .i64)))),(8,.one (.c (.d (.int .i64))))],[],[]⟩
@[reducible] def qva:List (Exit×SSt):=[(.ret,⟨[(4,.one (.c (.d .bool)))],[],[]⟩),(.exit 0,⟨[(0,.one (.c (.d .str)))],[],[]⟩)]
def qjh (n:Nat) (rec:(Yy)→Int→Int→Option Z1) (a1:Yy) (a2:Int) (a3:Int):Option Z1 :=
 (bif decide (a3<a2) then (sAt a1 a3).bind fun c1=>(q4d n c1).bind fun r2=>(bif !r2 then some (Sum.inl ((false,()),((),()))) else q00 (IntKind.wrap .i64 (a3+1)) fun n3=>rec a1 a2 n3) else some (Sum.inr (((a1,()),((),())))))
def qvw (n:Nat):Stp j5j qva:=fun rec p=>qjh n (fun a1 a2 a3=>rec ((a1,((),(a2,(a3,())))),((),()))) p.1.1 p.1.2.2.1 p.1.2.2.2.1
def q69 (n m:Nat) (a1:Yy) (a2:Int) (a3:Int):Option Z1:=q0v (qvw n) m ((a1,((),(a2,(a3,())))),((),()))
theorem qfh (n m:Nat) (a1 a2 a3):q69 n (m+1) a1 a2 a3=qjh n (fun a1 a2 a3=>q69 n m a1 a2 a3) a1 a2 a3:=rfl
def qhq (n:Nat) (a1:Yy) (a2:Unit):Option Bool :=
 (q69 n n a1 (a1.length:Int) (0:Int)).bind fun o4=>Sum.elim (fun (q5:(Bool×Unit)×Unit×Unit)=>some q5.1.1) (fun (q6:(Yy×Unit)×Unit×Unit)=>some (!decide (q6.1.1=([]:Yy)))) o4
def jag (n:Nat):FC:={ f:=138,args:=[.one (.c (.d .str)),.one (.c (.fn 169 []))],res:=.one (.c (.d .bool)),F:=fun p=>qhq n p.1 p.2 }
theorem j8l (n:Nat):q05 Inv Tryz.prog (jag n):=mkF Tryz.func138 [] [q4o qvw n] (cc (qnr n) <| cn) (by kernel_rfl) ⟨ls (by intro rec p;kernel_rfl),trivial⟩ (by intro a;kernel_rfl)
def qha (n:Nat) (a1:Yy):Option Bool :=
 (qho n a1 ()).bind fun r1=>some r1
def j87 (n:Nat):FC:={ f:=107,args:=[.one (.c (.d .str))],res:=.one (.c (.d .bool)),F:=fun p=>qha n p }
theorem qtk (n:Nat):q05 Inv Tryz.prog (j87 n):=mkF Tryz.func107 [] [] (cc (j8c n) <| cn) (by kernel_rfl) trivial (by intro a;kernel_rfl)
def q59 (n:Nat) (a1:Yy):Option Bool :=
 (qhq n a1 ()).bind fun r1=>some r1
def qxc (n:Nat):FC:={ f:=137,args:=[.one (.c (.d .str))],res:=.one (.c (.d .bool)),F:=fun p=>q59 n p }
theorem qlq (n:Nat):q05 Inv Tryz.prog (qxc n):=mkF Tryz.func137 [] [] (cc (j8l n) <| cn) (by kernel_rfl) trivial (by intro a;kernel_rfl)
def qb6 (n:Nat) (a1:Yy):Option Bool :=
 (qha n a1).bind fun r1=>(bif r1 then (bif decide (a1=([48]:Yy)) then some true else (sAt a1 (0:Int)).bind fun c2=>(bif !decide (c2=48) then some true else (q59 n a1).bind fun r3=>some (!r3))) else some false)
def qvk (n:Nat):FC:={ f:=106,args:=[.one (.c (.d .str))],res:=.one (.c (.d .bool)),F:=fun p=>qb6 n p }
theorem qvi (n:Nat):q05 Inv Tryz.prog (qvk n):=mkF Tryz.func106 [] [] (cc (qtk n) <| cc (qlq n) <| cn) (by kernel_rfl) trivial (by intro a;kernel_rfl)
end Go.Proofs.YtapfankgdkdkgaaGreatDoor.AM
namespace Go.Proofs.YtapfankgdkdkgaaGreatDoor.AM
open Go.RowKit
theorem j9z {β:Type} {l:List β} {j:Nat} (h:j<l.length):nth l j=some l[j]:=by rw [q4m,List.getElem?_eq_getElem h]
theorem q0k {β:Type} {l:List β} {j:Nat} (h:j<l.length):q0d l (j:Int)=some l[j]:=by
 unfold q0d;rw [if_pos (by omega),Int.toNat_natCast,j9z h]
theorem q1g {s:Yy} {j:Nat} (h:j<s.length):sAt s (j:Int)=some ((s[j].toNat:Nat):Int):=by
 unfold sAt;rw [q0k h];rfl
theorem sub_le {β:Type} {l:List β} {a b:Nat} (h1:a≤b) (h2:b≤l.length):q1a l (a:Int) (b:Int)=some ((l.drop a).take (b - a)):=by
 unfold q1a;rw [if_pos ⟨by omega,by omega,by omega⟩,Int.toNat_natCast,Int.toNat_natCast]
theorem sub_zero {β:Type} {l:List β} {b:Nat} (h2:b≤l.length):q1a l (0:Int) (b:Int)=some (l.take b):=by
 have:=sub_le (l:=l) (a:=0) (b:=b) (Nat.zero_le _) h2
 simpa using this
theorem q1q {β:Type} {k:Nat} {xs ys:List β} (h:(xs.length+ys.length)*k≤140737488355328):q1s k xs ys=some (xs++ys):=by
 unfold q1s;rw [if_pos h]
theorem q03 {i:Nat} (h:i<4611686018427387904):IntKind.wrap .i64 ((i:Int)+1)=((i+1:Nat):Int):=by rw [wrap64 (by omega) (by omega)];rfl
theorem qd5 {i:Nat} (h:i<4611686018427387904):IntKind.wrap .i64 (i:Int)=(i:Int):=by rw [wrap64 (by omega) (by omega)]
theorem j2m (n:Nat) (c:UInt8):q4d n ((c.toNat:Nat):Int)=some (q0u c):=by
 unfold q4d q0u
 have h1:decide ((48:Int)≤((c.toNat:Nat):Int))=decide (48≤c.toNat):=decide_eq_decide.2 (by omega)
 have h2:decide (((c.toNat:Nat):Int)≤(57:Int))=decide (c.toNat≤57):=decide_eq_decide.2 (by omega)
 rw [h1,h2]
 cases decide (48≤c.toNat)<;>cases decide (c.toNat≤57)<;>rfl
theorem jm9 (n:Nat) (c:UInt8):qhf n ((c.toNat:Nat):Int)=some (qhg c):=by
 unfold qhf qhg
 have h1:decide ((97:Int)≤((c.toNat:Nat):Int))=decide (97≤c.toNat):=decide_eq_decide.2 (by omega)
 have h2:decide (((c.toNat:Nat):Int)≤(122:Int))=decide (c.toNat≤122):=decide_eq_decide.2 (by omega)
 have h3:decide ((65:Int)≤((c.toNat:Nat):Int))=decide (65≤c.toNat):=decide_eq_decide.2 (by omega)
 have h4:decide (((c.toNat:Nat):Int)≤(90:Int))=decide (c.toNat≤90):=decide_eq_decide.2 (by omega)
 have h5:decide (((c.toNat:Nat):Int)=(45:Int))=decide (c.toNat=45):=decide_eq_decide.2 (by omega)
 rw [h1,h2,h3,h4,h5,j2m]
 cases decide (97≤c.toNat)<;>cases decide (c.toNat≤122)<;>cases decide (65≤c.toNat)<;>cases decide (c.toNat≤90)<;>cases q0u c<;>rfl
theorem qil (n:Nat) (s:Yy) (hL:s.length≤1000000) : ∀ m j:Nat,j≤s.length→s.length - j<m→q64 n m s ((s.length:Nat):Int) (j:Int)=some (if (s.drop j).all qhg=true then Sum.inr ((s,()),((),())) else Sum.inl ((false,()),((),())))
 | 0,j,_,h=>absurd h (Nat.not_lt_zero _)
 | m+1,j,hj,h=>by
  rw [qes]
  unfold qkh
  by_cases c0:j<s.length
  ·have c0':((j:Nat):Int)<((s.length:Nat):Int):=by omega
   have ih:=qil n s hL m (j+1) (by omega) (by omega)
   have hd:s.drop j=s[j]::s.drop (j+1):=(List.drop_eq_getElem_cons c0)
   simp only [c0',decide_true,cond_true,q1g c0,Option.bind_some,jm9,q00,q03 (show j<4611686018427387904 by omega),ih,hd,List.all_cons]
   cases qhg s[j]<;>simp
  ·have c0' : ¬ ((j:Nat):Int)<((s.length:Nat):Int):=by omega
   have:s.drop j = []:=List.drop_eq_nil_of_le (by omega)
   simp [c0',this]
theorem qyw (n:Nat) (s:Yy) (hL:s.length≤1000000) (hn:s.length<n):qho n s ()=some (s.all qhg && !decide (s = [])):=by
 unfold qho
 have:=qil n s hL n 0 (Nat.zero_le _) (by omega)
 rw [show ((0:Nat):Int)=(0:Int) from rfl] at this
 rw [this,List.drop_zero]
 cases s.all qhg<;>rfl
theorem qjm (n:Nat) (s:Yy) (hL:s.length≤1000000) : ∀ m j:Nat,j≤s.length→s.length - j<m→q69 n m s ((s.length:Nat):Int) (j:Int)=some (if (s.drop j).all q0u=true then Sum.inr ((s,()),((),())) else Sum.inl ((false,()),((),())))
 | 0,j,_,h=>absurd h (Nat.not_lt_zero _)
 | m+1,j,hj,h=>by
  rw [qfh]
  unfold qjh
  by_cases c0:j<s.length
  ·have c0':((j:Nat):Int)<((s.length:Nat):Int):=by omega
   have ih:=qjm n s hL m (j+1) (by omega) (by omega)
   have hd:s.drop j=s[j]::s.drop (j+1):=(List.drop_eq_getElem_cons c0)
   simp only [c0',decide_true,cond_true,q1g c0,Option.bind_some,j2m,q00,q03 (show j<4611686018427387904 by omega),ih,hd,List.all_cons]
   cases q0u s[j]<;>simp
  ·have c0' : ¬ ((j:Nat):Int)<((s.length:Nat):Int):=by omega
   have:s.drop j = []:=List.drop_eq_nil_of_le (by omega)
   simp [c0',this]
theorem qwm (n:Nat) (s:Yy) (hL:s.length≤1000000) (hn:s.length<n):qhq n s ()=some (s.all q0u && !decide (s = [])):=by
 unfold qhq
 have:=qjm n s hL n 0 (Nat.zero_le _) (by omega)
 rw [show ((0:Nat):Int)=(0:Int) from rfl] at this
 rw [this,List.drop_zero]
 cases s.all q0u<;>rfl
theorem qkj (n:Nat) (s:Yy) (hL:s.length≤1000000) (hn:s.length<n):qha n s=some (q20 s):=by
 unfold qha;rw [qyw n s hL hn];rfl
theorem q8j (n:Nat) (s:Yy) (hL:s.length≤1000000) (hn:s.length<n):q59 n s=some (q2b s):=by
 unfold q59;rw [qwm n s hL hn];rfl
theorem j4m (n:Nat) (s:Yy) (hL:s.length≤1000000) (hn:s.length<n):qb6 n s=some (q41 s):=by
 unfold qb6 q41
 rw [qkj n s hL hn,q8j n s hL hn]
 simp only [Option.bind_some]
 cases hp:q20 s with
 | false=>rfl
 | true =>
  cases s with
  | nil=>simp [q20] at hp
  | cons c r =>
   have h0:sAt (c::r) (0:Int)=some ((c.toNat:Nat):Int):=q1g (s:=c::r) (j:=0) (by simp)
   have h1:decide (((c.toNat:Nat):Int)=(48:Int))=decide ((c::r).head? = some 48):=decide_eq_decide.2 (by
    simp only [List.head?_cons,Option.some.injEq]
    constructor
    ·intro h;exact UInt8.toNat_inj.1 (by have e48:(48:UInt8).toNat=48:=rfl;rw [e48];omega)
    ·rintro rfl;rfl)
   simp only [cond_true,h0,Option.bind_some,h1,Bool.true_and]
   cases decide (c::r = [48])<;>cases decide ((c::r).head? = some 48)<;>cases q2b (c::r)<;>rfl
end Go.Proofs.YtapfankgdkdkgaaGreatDoor.AM
namespace Go.Proofs
open Go.RowKit Go.Shelf Go.Lib
attribute [local go_sem] Oper.semAt_some
namespace YtapfankgdkdkgaaGreatDoor.AM
theorem q2r {P:Program} {fn:Func} {p:Tmp} {ty:TypeId} {b:Nat} {v:Value} {tmps:Array Value} {w:World} (h:fn.results = #[.cell p ty]) (hp:tmps.getD p undef = .pointer (some ⟨b,0,none⟩)) (ha:qnf P ty=some false)
  (hc:w.cell? ⟨b,0,none⟩=some v):(results fn tmps).run P w = .ok v w:=by
 have hp':tmps[p]?.getD undef = .pointer (some ⟨b,0,none⟩):=by simpa using hp
 simp only [results,h]
 simp [Sem.run_bind,hp',asAddr,loadVar,q1i ha w,go_sem,hc]
theorem q2u {W W':World} {a:Addr} {v:Value} (hb:Below W.heap.size W W') (h:W.cell? a=some v):W'.cell? a=some v:=by
 obtain ⟨o,ho,hc⟩:=cells_of_cell h
 exact (World.cell?_of_block ((hb.block _ (Array.getElem?_eq_some_iff.1 ho).1).trans ho |>.trans ho.symm)).trans h
theorem q3i {W W':World} {a:Addr} {v:Value} (hb:Below W.heap.size W W') (h:W.cell? a=some v):W'.frozen? a=W.frozen? a:=by
 obtain ⟨o,ho,hc⟩:=cells_of_cell h
 exact World.frozen?_of_block ((hb.block _ (Array.getElem?_eq_some_iff.1 ho).1).trans ho |>.trans ho.symm)
theorem q2k {W W':World} (hb:Below W.heap.size W W'):KeepsOthers W W':=⟨hb.size,fun k o h _=>(hb.block k (Array.getElem?_eq_some_iff.1 h).1).trans h⟩
theorem qa1 {pS:Nat} {r:List UInt8} {W W':World} (h:Left pS r W) (hb:Below W.heap.size W W'):Left pS r W':=⟨q2u hb h.1,(q3i hb h.1).trans h.2⟩
theorem q0j {w:World} {b:Nat} {v:Value} {t:TypeId} (h:w.heap[b]? = some (.cells #[v] t (0,0))):w.cell? ⟨b,0,none⟩=some v∧w.frozen? ⟨b,0,none⟩=false:=by
 constructor
 ·simp [World.cell?,h]
 ·simp [World.frozen?,h]
theorem five (w:World) (o0 o1 o2 o3 o4:Obj) : ∃ W,(((((w.alloc o0).alloc o1).alloc o2).alloc o3).alloc o4)=W∧W.heap.size=w.heap.size+5∧Below w.heap.size w W∧W.heap[w.heap.size]? = some o0∧W.heap[w.heap.size+1]? = some o1∧W.heap[w.heap.size+1+1]? = some o2∧W.heap[w.heap.size+1+1+1]? = some o3∧W.heap[w.heap.size+1+1+2]? = some o4:=by
 have al : ∀ (w:World) (o:Obj) (k:Nat),k<w.heap.size→(w.alloc o).heap[k]? = w.heap[k]?:=fun w o k h=>Below.heap_alloc _ _ _ h
 refine ⟨_,rfl,by simp,(((((Below.refl _ w).alloc (Nat.le_refl _) _).alloc (by simp) _).alloc (by simp;omega) _).alloc (by simp;omega) _).alloc (by simp;omega) _,?_,?_,?_,?_,?_⟩
 ·rw [al _ _ _ (by simp<;>omega),al _ _ _ (by simp<;>omega),al _ _ _ (by simp<;>omega),al _ _ _ (by simp),World.alloc_heap_new]
 ·rw [al _ _ _ (by simp<;>omega),al _ _ _ (by simp<;>omega),al _ _ _ (by simp)]
  have:=World.alloc_heap_new (w.alloc o0) o1
  rw [World.size_alloc] at this;exact this
 ·rw [al _ _ _ (by simp<;>omega),al _ _ _ (by simp)]
  have:=World.alloc_heap_new ((w.alloc o0).alloc o1) o2
  rw [World.size_alloc,World.size_alloc] at this;exact this
 ·rw [al _ _ _ (by simp)]
  have:=World.alloc_heap_new (((w.alloc o0).alloc o1).alloc o2) o3
  rw [World.size_alloc,World.size_alloc,World.size_alloc] at this;exact this
 ·have:=World.alloc_heap_new ((((w.alloc o0).alloc o1).alloc o2).alloc o3) o4
  rw [World.size_alloc,World.size_alloc,World.size_alloc,World.size_alloc] at this;exact this
theorem hag:qnf Tryz.prog 4=some false:=by kernel_rfl
structure Rng (fv:Value) (pF pR:Nat) (pP pC:Nat) (c:UInt8) (w0:World) (pred:List UInt8→Bool) (pre:List (List UInt8)) (W:World):Prop where
 fn:W.cell? ⟨pF,0,none⟩=some fv
 res:W.cell? ⟨pR,0,none⟩=some (.bool false)
 frz:W.frozen? ⟨pR,0,none⟩=false
 cP:W.cell? ⟨pP,0,none⟩=some (.string (ba [c]))
 cC:W.cell? ⟨pC,0,none⟩=some (.int .i64 0)
 below:Below w0.heap.size w0 W
 all:pre.all pred=true
structure RngX (pR:Nat) (w0:World) (pred:List UInt8→Bool) (pre:List (List UInt8)) (W:World):Prop where
 res:W.cell? ⟨pR,0,none⟩=some (.bool false)
 below:Below w0.heap.size w0 W
 no:pre.all pred=false
theorem qq0 {fv:Value} {pF pR pP pC:Nat} {c:UInt8} {w0:World} {pred:List UInt8→Bool} {B:Nat} (hB:w0.heap.size≤B):OwnFrom B (Rng fv pF pR pP pC c w0 pred):=fun s W W' row h hg hr =>
 ⟨q7s h.fn hg hr,q7s h.res hg hr,(frozen_kept h.res hg (fun r e=>(hr r e).2)).trans h.frz,q7s h.cP hg hr,q7s h.cC hg hr,h.below.grown hg h.below.size (fun k e=>Nat.le_trans hB (hr k e).1),h.all⟩
theorem qpq {pR:Nat} {w0:World} {pred:List UInt8→Bool} {B:Nat} (hB:w0.heap.size≤B):OwnFrom B (RngX pR w0 pred):=fun s W W' row h hg hr =>
 ⟨q7s h.res hg hr,h.below.grown hg h.below.size (fun k e=>Nat.le_trans hB (hr k e).1),h.no⟩
theorem qd6 {fv:Value} {pF pR pP pC:Nat} {c:UInt8} {w0:World} {pred:List UInt8→Bool} {pre:List (List UInt8)} {x:List UInt8} {W W':World} (h:Rng fv pF pR pP pC c w0 pred pre W) (hb:Below W.heap.size W W') (hx:pred x=true):Rng fv pF pR pP pC c w0 pred (pre ++ [x]) W' :=
 ⟨q2u hb h.fn,q2u hb h.res,(q3i hb h.res).trans h.frz,q2u hb h.cP,q2u hb h.cC,h.below.trans (hb.mono h.below.size),by rw [List.all_append,h.all];simp [hx]⟩
theorem qou {fv:Value} {pF pR pP pC:Nat} {c:UInt8} {w0:World} {pred:List UInt8→Bool} {pre:List (List UInt8)} {W:World} {q:Nat} (v:Value) (h:Rng fv pF pR pP pC c w0 pred pre W) (h0:w0.heap.size≤q) (h1:q≠pF) (h2:q≠pR) (h3:q≠pP) (h4:q≠pC):Rng fv pF pR pP pC c w0 pred pre (W.setCell ⟨q,0,none⟩ v):=by
 have ne : ∀ p:Nat,q≠p→(W.setCell ⟨q,0,none⟩ v).cell? ⟨p,0,none⟩=W.cell? ⟨p,0,none⟩:=fun p hp=>World.cell?_setCell_other _ _ _ _ (by intro e;exact hp (by injection e with e))
 exact ⟨(ne _ h1).trans h.fn,(ne _ h2).trans h.res,by rw [World.frozen?_setCell];exact h.frz,(ne _ h3).trans h.cP,(ne _ h4).trans h.cC,h.below.setCell (by simpa using h0) _,h.all⟩
theorem four (w:World) (o0 o1 o2 o3:Obj) : ∃ W,((((w.alloc o0).alloc o1).alloc o2).alloc o3)=W∧W.heap.size=w.heap.size+4∧Below w.heap.size w W∧W.heap[w.heap.size]? = some o0∧W.heap[w.heap.size+1]? = some o1∧W.heap[w.heap.size+1+1]? = some o2∧W.heap[w.heap.size+1+2]? = some o3:=by
 have al : ∀ (w:World) (o:Obj) (k:Nat),k<w.heap.size→(w.alloc o).heap[k]? = w.heap[k]?:=fun w o k h=>Below.heap_alloc _ _ _ h
 refine ⟨_,rfl,by simp,((((Below.refl _ w).alloc (Nat.le_refl _) _).alloc (by simp) _).alloc (by simp;omega) _).alloc (by simp;omega) _,?_,?_,?_,?_⟩
 ·rw [al _ _ _ (by simp<;>omega),al _ _ _ (by simp<;>omega),al _ _ _ (by simp),World.alloc_heap_new]
 ·rw [al _ _ _ (by simp<;>omega),al _ _ _ (by simp)]
  have:=World.alloc_heap_new (w.alloc o0) o1
  rw [World.size_alloc] at this;exact this
 ·rw [al _ _ _ (by simp)]
  have:=World.alloc_heap_new ((w.alloc o0).alloc o1) o2
  rw [World.size_alloc,World.size_alloc] at this;exact this
 ·have:=World.alloc_heap_new (((w.alloc o0).alloc o1).alloc o2) o3
  rw [World.size_alloc,World.size_alloc,World.size_alloc] at this;exact this
structure RngY (pR:Nat) (w0:World) (pred:List UInt8→Bool) (pre:List (List UInt8)) (W:World):Prop where
 res:W.cell? ⟨pR,0,none⟩=some (.bool true)
 below:Below w0.heap.size w0 W
 no:pre.all pred=false
theorem jhf {pR:Nat} {w0:World} {pred:List UInt8→Bool} {B:Nat} (hB:w0.heap.size≤B):OwnFrom B (RngY pR w0 pred):=fun s W W' row h hg hr =>
 ⟨q7s h.res hg hr,h.below.grown hg h.below.size (fun k e=>Nat.le_trans hB (hr k e).1),h.no⟩
theorem j0z {pred:List UInt8→Bool} {s x:List UInt8} {pre t:List (List UInt8)} (hsp:spl 47 [] s=pre++x::t) (hn:(pre ++ [x]).all pred=false):(spl 47 [] s).all pred=false:=by
 rw [List.all_append,Bool.and_eq_false_iff] at hn
 rw [hsp,List.all_append,Bool.and_eq_false_iff]
 rcases hn with hn|hn
 ·exact Or.inl hn
 ·refine Or.inr ?_
  simp only [List.all_cons,List.all_nil,Bool.and_true] at hn
  rw [List.all_cons,hn];rfl
end YtapfankgdkdkgaaGreatDoor.AM
end Go.Proofs
namespace Go.Proofs
open Go.RowKit Go.Shelf Go.Lib
attribute [local go_sem] Oper.semAt_some
namespace YtapfankgdkdkgaaGreatDoor.AM
set_option maxHeartbeats 2000000 in
theorem qmr (pred:List UInt8→Bool) (hp : ∀ (x:List UInt8) (w:World),Inv w→x.length≤30→Calls Tryz.prog 107 #[.string (ba x)] w fun e w'=>e = .returned (.bool (pred x))∧Below w.heap.size w w')
  (s:List UInt8) (w:World) (hI:Inv w) :
  Calls Tryz.prog 105 #[.string (ba s),.func (.func 107) #[] #[]] w fun e w'=>e = .returned (.bool (q54 pred s))∧Below w.heap.size w w':=by
 refine (callsIn_wide (n:=9)).1 ?_
 refine callsIn_of_wp_marks Tryz.func105 rfl trivial ?_ rfl
 simp only [Tryz.ntmps105,List.size_toArray,List.length_cons,List.length_nil,Nat.reduceAdd,Nat.reduceSub,Array.replicate_succ,Array.replicate_zero,List.push_toArray,List.append_toArray,List.nil_append,List.cons_append]
 have hsz:(ba s).size=s.length:=q37 s
 by_cases h1:s = []
 ·subst h1
  have he:(ba []).toList.isEmpty=true:=by rw [q77];rfl
  gi_wp2
  refine ⟨_,q2r (b:=w.heap.size+1) (v:=.bool true) rfl rfl hag (by simp),rfl,?_⟩
  exact ((Below.refl _ w).alloc (Nat.le_refl _) _).alloc (by simp) _
 have he:(ba s).toList.isEmpty=false:=by rw [q77];simpa using h1
 by_cases h2:s.length≤30
 ·gi_wp2_with (refine ⟨trivial,?_⟩;gi_at_call 136;refine (callsIn_wide.2 (q48 _ _ _)).mono ?_;rintro e w' ⟨rfl,rfl⟩)
  obtain ⟨W0,hW0,hs0,hb0,g0,g1,g2,g3,g4⟩:=five w (Obj.cells #[Value.func (Fn.func 107) #[] #[]] 140) (Obj.cells #[Value.bool false] 4) (Obj.cells #[Value.string (ba s)] 9) (Obj.cells #[Value.string { data:=#[46] }] 9) (Obj.cells #[Value.int IntKind.i64 0] 3)
  rw [hW0]
  clear hW0
  obtain ⟨c0,f0⟩:=q0j g0
  obtain ⟨c1,f1⟩:=q0j g1
  obtain ⟨c2,f2⟩:=q0j g2
  obtain ⟨c3,f3⟩:=q0j g3
  obtain ⟨c4,f4⟩:=q0j g4
  refine range_split (n:=9) (by omega) 46 (w.heap.size+1+1) (w.heap.size+1+1+1) (w.heap.size+1+1+2) s (by omega) rfl ⟨c2,f2⟩
   (Rng (.func (.func 107) #[] #[]) w.heap.size (w.heap.size+1) (w.heap.size+1+1+1) (w.heap.size+1+1+2) 46 w pred) (RngX (w.heap.size+1) w pred) (qq0 (by omega)) (qpq (by omega))
   (fun pre W h=>⟨h.cP,h.cC,(hI.below h.below).maxLen⟩) (fun pre W v h=>qou v h (by omega) (by omega) (by omega) (by omega) (by omega)) ⟨c0,c1,f1,c3,c4,hb0,rfl⟩
   (fun x=>{ tmps:=#[.string (ba s),.func (.func 107) #[] #[],undef,.pointer (some ⟨w.heap.size,0,none⟩),.pointer (some ⟨w.heap.size+1,0,none⟩),.string (ba x),.string (ba s),.bool false,.string (ba s),.int .i64 s.length,.bool (decide ((30:Int)<s.length)),.string (ba s),
    .func (.func 200) #[] #[.pointer (some ⟨w.heap.size+1+1+1,0,none⟩),.pointer (some ⟨w.heap.size+1+1,0,none⟩),.pointer (some ⟨w.heap.size+1+1+2,0,none⟩)],.string (ba x),undef,undef,undef,undef],defers:=[] }) ?assign ?body ?done ?stop
  case assign =>
   intro l x W K hK
   gi_wp2
   exact hK
  case body =>
   intro l pre x r W hi hL hx
   have k0:=hi.fn
   have k1:=hi.res
   have k2:=hi.frz
   have hc:=hp x W (hI.below hi.below) (by omega)
   cases hpx:pred x with
   | true =>
    rw [hpx] at hc
    gi_wp2_with (refine ⟨trivial,?_⟩;gi_at_call 107;refine (CallsIn.inRound l (callsIn_wide.2 hc)).mono ?_;rintro e w' ⟨rfl,hb'⟩)
    exact ⟨q2k hb',qd6 hi hb' hpx,qa1 hL hb'⟩
   | false =>
    rw [hpx] at hc
    gi_wp2_with (refine ⟨trivial,?_⟩;gi_at_call 107;refine (CallsIn.inRound l (callsIn_wide.2 hc)).mono ?_;rintro e w' ⟨rfl,hb'⟩;have k3:=q2u hb' hi.res;have k4:=(q3i hb' hi.res).trans hi.frz)
    exact ⟨(q2k hb').trans (KeepsOthers.setCell _ _ _),World.cell?_setCell_same' _ _ _ (by rw [k3];rfl),(hi.below.trans (hb'.mono hi.below.size)).setCell (by simp) _,by simp [hpx]⟩
  case done =>
   intro D W hD hi hK
   have k1:=hi.res
   have k2:=hi.frz
   gi_wp2
   have hK':=(KeepsOthers.setCell W ⟨w.heap.size+1,0,none⟩ (.bool true)).same D _ hK rfl
   have hW':Below w.heap.size w (W.setCell ⟨w.heap.size+1,0,none⟩ (.bool true)):=hi.below.setCell (by simp) _
   have k5:(W.setCell ⟨w.heap.size+1,0,none⟩ (.bool true)).cell? ⟨w.heap.size+1,0,none⟩=some (.bool true):=World.cell?_setCell_same' _ _ _ (by rw [k1];rfl)
   generalize W.setCell ⟨w.heap.size+1,0,none⟩ (.bool true)=W2 at hK' hW' k5
   refine ⟨by simp,.inl ⟨_,_,rfl,run_takeDeferred hK',?_⟩⟩
   have hg:=grownBy_putObj' W2 D (.deferred none)
   refine ⟨_,q2r (b:=w.heap.size+1) (v:=.bool true) rfl rfl hag (cell_kept k5 hg (fun r e=>by cases e;exact ⟨_,hK',rfl⟩)),?_,?_⟩
   ·unfold q54;simp [h1,h2,hi.all]
   ·exact hW'.grown hg hW'.size (fun k e=>by cases e;omega)
  case stop =>
   intro D pre x t W hD hsp hi hK
   refine ⟨by simp,.inl ⟨_,_,rfl,run_takeDeferred hK,?_⟩⟩
   have hg:=grownBy_putObj' W D (.deferred none)
   refine ⟨_,q2r (b:=w.heap.size+1) (v:=.bool false) rfl rfl hag (cell_kept hi.res hg (fun r e=>by cases e;exact ⟨_,hK,rfl⟩)),?_,?_⟩
   ·have hn:=hi.no
    rw [List.all_append,Bool.and_eq_false_iff] at hn
    have ha:(spl 46 [] s).all pred=false:=by
     rw [hsp,List.all_append,Bool.and_eq_false_iff]
     rcases hn with hn|hn
     ·exact Or.inl hn
     ·refine Or.inr ?_
      simp only [List.all_cons,List.all_nil,Bool.and_true] at hn
      rw [List.all_cons,hn];rfl
    unfold q54;simp [h1,ha]
   ·exact hi.below.grown hg hi.below.size (fun k e=>by cases e;omega)
 ·gi_wp2
  refine ⟨_,q2r (b:=w.heap.size+1) (v:=.bool false) rfl rfl hag (by simp),?_,?_⟩
  ·unfold q54;simp [h1,h2]
  ·exact ((Below.refl _ w).alloc (Nat.le_refl _) _).alloc (by simp) _
set_option maxHeartbeats 2000000 in
theorem qq6 (pred:List UInt8→Bool) (hp : ∀ (x:List UInt8) (w:World),Inv w→x.length≤30→Calls Tryz.prog 106 #[.string (ba x)] w fun e w'=>e = .returned (.bool (pred x))∧Below w.heap.size w w')
  (s:List UInt8) (w:World) (hI:Inv w) :
  Calls Tryz.prog 105 #[.string (ba s),.func (.func 106) #[] #[]] w fun e w'=>e = .returned (.bool (q54 pred s))∧Below w.heap.size w w':=by
 refine (callsIn_wide (n:=9)).1 ?_
 refine callsIn_of_wp_marks Tryz.func105 rfl trivial ?_ rfl
 simp only [Tryz.ntmps105,List.size_toArray,List.length_cons,List.length_nil,Nat.reduceAdd,Nat.reduceSub,Array.replicate_succ,Array.replicate_zero,List.push_toArray,List.append_toArray,List.nil_append,List.cons_append]
 have hsz:(ba s).size=s.length:=q37 s
 by_cases h1:s = []
 ·subst h1
  have he:(ba []).toList.isEmpty=true:=by rw [q77];rfl
  gi_wp2
  refine ⟨_,q2r (b:=w.heap.size+1) (v:=.bool true) rfl rfl hag (by simp),rfl,?_⟩
  exact ((Below.refl _ w).alloc (Nat.le_refl _) _).alloc (by simp) _
 have he:(ba s).toList.isEmpty=false:=by rw [q77];simpa using h1
 by_cases h2:s.length≤30
 ·gi_wp2_with (refine ⟨trivial,?_⟩;gi_at_call 136;refine (callsIn_wide.2 (q48 _ _ _)).mono ?_;rintro e w' ⟨rfl,rfl⟩)
  obtain ⟨W0,hW0,hs0,hb0,g0,g1,g2,g3,g4⟩:=five w (Obj.cells #[Value.func (Fn.func 106) #[] #[]] 140) (Obj.cells #[Value.bool false] 4) (Obj.cells #[Value.string (ba s)] 9) (Obj.cells #[Value.string { data:=#[46] }] 9) (Obj.cells #[Value.int IntKind.i64 0] 3)
  rw [hW0]
  clear hW0
  obtain ⟨c0,f0⟩:=q0j g0
  obtain ⟨c1,f1⟩:=q0j g1
  obtain ⟨c2,f2⟩:=q0j g2
  obtain ⟨c3,f3⟩:=q0j g3
  obtain ⟨c4,f4⟩:=q0j g4
  refine range_split (n:=9) (by omega) 46 (w.heap.size+1+1) (w.heap.size+1+1+1) (w.heap.size+1+1+2) s (by omega) rfl ⟨c2,f2⟩
   (Rng (.func (.func 106) #[] #[]) w.heap.size (w.heap.size+1) (w.heap.size+1+1+1) (w.heap.size+1+1+2) 46 w pred) (RngX (w.heap.size+1) w pred) (qq0 (by omega)) (qpq (by omega))
   (fun pre W h=>⟨h.cP,h.cC,(hI.below h.below).maxLen⟩) (fun pre W v h=>qou v h (by omega) (by omega) (by omega) (by omega) (by omega)) ⟨c0,c1,f1,c3,c4,hb0,rfl⟩
   (fun x=>{ tmps:=#[.string (ba s),.func (.func 106) #[] #[],undef,.pointer (some ⟨w.heap.size,0,none⟩),.pointer (some ⟨w.heap.size+1,0,none⟩),.string (ba x),.string (ba s),.bool false,.string (ba s),.int .i64 s.length,.bool (decide ((30:Int)<s.length)),.string (ba s),
    .func (.func 200) #[] #[.pointer (some ⟨w.heap.size+1+1+1,0,none⟩),.pointer (some ⟨w.heap.size+1+1,0,none⟩),.pointer (some ⟨w.heap.size+1+1+2,0,none⟩)],.string (ba x),undef,undef,undef,undef],defers:=[] }) ?assign ?body ?done ?stop
  case assign =>
   intro l x W K hK
   gi_wp2
   exact hK
  case body =>
   intro l pre x r W hi hL hx
   have k0:=hi.fn
   have k1:=hi.res
   have k2:=hi.frz
   have hc:=hp x W (hI.below hi.below) (by omega)
   cases hpx:pred x with
   | true =>
    rw [hpx] at hc
    gi_wp2_with (refine ⟨trivial,?_⟩;gi_at_call 106;refine (CallsIn.inRound l (callsIn_wide.2 hc)).mono ?_;rintro e w' ⟨rfl,hb'⟩)
    exact ⟨q2k hb',qd6 hi hb' hpx,qa1 hL hb'⟩
   | false =>
    rw [hpx] at hc
    gi_wp2_with (refine ⟨trivial,?_⟩;gi_at_call 106;refine (CallsIn.inRound l (callsIn_wide.2 hc)).mono ?_;rintro e w' ⟨rfl,hb'⟩;have k3:=q2u hb' hi.res;have k4:=(q3i hb' hi.res).trans hi.frz)
    exact ⟨(q2k hb').trans (KeepsOthers.setCell _ _ _),World.cell?_setCell_same' _ _ _ (by rw [k3];rfl),(hi.below.trans (hb'.mono hi.below.size)).setCell (by simp) _,by simp [hpx]⟩
  case done =>
   intro D W hD hi hK
   have k1:=hi.res
   have k2:=hi.frz
   gi_wp2
   have hK':=(KeepsOthers.setCell W ⟨w.heap.size+1,0,none⟩ (.bool true)).same D _ hK rfl
   have hW':Below w.heap.size w (W.setCell ⟨w.heap.size+1,0,none⟩ (.bool true)):=hi.below.setCell (by simp) _
   have k5:(W.setCell ⟨w.heap.size+1,0,none⟩ (.bool true)).cell? ⟨w.heap.size+1,0,none⟩=some (.bool true):=World.cell?_setCell_same' _ _ _ (by rw [k1];rfl)
   generalize W.setCell ⟨w.heap.size+1,0,none⟩ (.bool true)=W2 at hK' hW' k5
   refine ⟨by simp,.inl ⟨_,_,rfl,run_takeDeferred hK',?_⟩⟩
   have hg:=grownBy_putObj' W2 D (.deferred none)
   refine ⟨_,q2r (b:=w.heap.size+1) (v:=.bool true) rfl rfl hag (cell_kept k5 hg (fun r e=>by cases e;exact ⟨_,hK',rfl⟩)),?_,?_⟩
   ·unfold q54;simp [h1,h2,hi.all]
   ·exact hW'.grown hg hW'.size (fun k e=>by cases e;omega)
  case stop =>
   intro D pre x t W hD hsp hi hK
   refine ⟨by simp,.inl ⟨_,_,rfl,run_takeDeferred hK,?_⟩⟩
   have hg:=grownBy_putObj' W D (.deferred none)
   refine ⟨_,q2r (b:=w.heap.size+1) (v:=.bool false) rfl rfl hag (cell_kept hi.res hg (fun r e=>by cases e;exact ⟨_,hK,rfl⟩)),?_,?_⟩
   ·have hn:=hi.no
    rw [List.all_append,Bool.and_eq_false_iff] at hn
    have ha:(spl 46 [] s).all pred=false:=by
     rw [hsp,List.all_append,Bool.and_eq_false_iff]
     rcases hn with hn|hn
     ·exact Or.inl hn
     ·refine Or.inr ?_
      simp only [List.all_cons,List.all_nil,Bool.and_true] at hn
      rw [List.all_cons,hn];rfl
    unfold q54;simp [h1,ha]
   ·exact hi.below.grown hg hi.below.size (fun k e=>by cases e;omega)
 ·gi_wp2
  refine ⟨_,q2r (b:=w.heap.size+1) (v:=.bool false) rfl rfl hag (by simp),?_,?_⟩
  ·unfold q54;simp [h1,h2]
  ·exact ((Below.refl _ w).alloc (Nat.le_refl _) _).alloc (by simp) _
theorem qvb (x:List UInt8) (w:World) (hI:Inv w) (hx:x.length≤30):Calls Tryz.prog 107 #[.string (ba x)] w fun e w'=>e = .returned (.bool (q20 x))∧Below w.heap.size w w':=by
 have h:=(qtk 100 Inv q7w).1.2 x (q20 x) (qkj 100 x (by omega) (by omega))
 refine (h (fun _ _=>False) w #[.string (ba x)] hI (fun b o h=>h.elim) ⟨q06 _,trivial⟩).mono ?_
 rintro e w' ⟨v,Pc,rfl,hb,_,_,hv⟩
 have hv':v = .bool (q20 x):=q0b hv
 rw [hv']
 exact ⟨rfl,hb⟩
def qfd (s:List UInt8) (u:Unit):Option Bool:=some (q54 q20 s)
def qx4:FC:={ f:=105,args:=[qmx,.one (.c (.fn 107 []))],res:=jf7,F:=fun p=>qfd p.1 p.2 }
theorem qwx:q05 Inv Tryz.prog qx4:=fun G hG=>⟨⟨by kernel_rfl,fun a r h=>by
 obtain ⟨s,u⟩:=a
 have hr:q54 q20 s=r:=Option.some.inj h
 intro Pc w vs hg hlt hv
 obtain ⟨l⟩:=vs
 match l,hv with
 | [x,y],⟨h1,h2,_⟩ =>
  obtain rfl:x = .string (ba s):=q0b h1
  obtain rfl:y = .func (.func 107) #[] #[]:=q0b h2
  refine (qmr q20 qvb s w (hG.im w hg)).mono ?_
  rintro e w' ⟨rfl,hb⟩
  subst hr
  exact q46 rfl hb (q06 _)⟩,rfl⟩
theorem qxz (x:List UInt8) (w:World) (hI:Inv w) (hx:x.length≤30):Calls Tryz.prog 106 #[.string (ba x)] w fun e w'=>e = .returned (.bool (q41 x))∧Below w.heap.size w w':=by
 have h:=(qvi 100 Inv q7w).1.2 x (q41 x) (j4m 100 x (by omega) (by omega))
 refine (h (fun _ _=>False) w #[.string (ba x)] hI (fun b o h=>h.elim) ⟨q06 _,trivial⟩).mono ?_
 rintro e w' ⟨v,Pc,rfl,hb,_,_,hv⟩
 have hv':v = .bool (q41 x):=q0b hv
 rw [hv']
 exact ⟨rfl,hb⟩
def qkm (s:List UInt8) (u:Unit):Option Bool:=some (q54 q41 s)
def j52:FC:={ f:=105,args:=[qmx,.one (.c (.fn 106 []))],res:=jf7,F:=fun p=>qkm p.1 p.2 }
theorem j55:q05 Inv Tryz.prog j52:=fun G hG=>⟨⟨by kernel_rfl,fun a r h=>by
 obtain ⟨s,u⟩:=a
 have hr:q54 q41 s=r:=Option.some.inj h
 intro Pc w vs hg hlt hv
 obtain ⟨l⟩:=vs
 match l,hv with
 | [x,y],⟨h1,h2,_⟩ =>
  obtain rfl:x = .string (ba s):=q0b h1
  obtain rfl:y = .func (.func 106) #[] #[]:=q0b h2
  refine (qq6 q41 qxz s w (hG.im w hg)).mono ?_
  rintro e w' ⟨rfl,hb⟩
  subst hr
  exact q46 rfl hb (q06 _)⟩,rfl⟩
end YtapfankgdkdkgaaGreatDoor.AM
end Go.Proofs
