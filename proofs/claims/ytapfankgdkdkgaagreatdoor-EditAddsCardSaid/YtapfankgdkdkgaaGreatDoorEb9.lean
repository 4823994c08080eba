
import Derived.Lib.Bytealg
import GoSem.Op.String
import Derived.Test.YtapfankgdkdkgaaGreatDoorEb8
import Derived.Lib.ItoaNum
import Derived.Lib.AtoiAll
import Derived.Shelf.LaysC
import Derived.Shelf.Strconv.Itoa3
import Derived.Shelf.Strconv.AtoiAll
import Derived.Shelf.Small.Strs
import Derived.Shelf.Strings.SplitShaped
import Derived.Lib.LaidTab
import Derived.Lib.AppendIntMem
import Derived.Stop.LaidErr
import Derived.WalkSmall
set_option linter.unusedVariables false
set_option linter.unusedSimpArgs false
namespace Go.Proofs.YtapfankgdkdkgaaGreatDoor.AM
abbrev Z1:=((Bool×Unit)×Unit×Unit)⊕((Yy×Unit)×Unit×Unit)
structure Cmp {α:Type} (c:α→α→Int):Prop where
 rng : ∀ x y,c x y = -1∨c x y=0∨c x y=1
 anti : ∀ x y,c x y = - c y x
 tr : ∀ x y z,c x y≤0→c y z≤0→c x z≤0
 eq : ∀ x y,c x y=0→x=y
theorem Cmp.refl {α:Type} {c:α→α→Int} (h:Cmp c) (x:α):c x x=0:=by have:=h.anti x x;omega
theorem Cmp.zero {α:Type} {c:α→α→Int} (h:Cmp c) {x y:α} : c x y=0↔x=y:=⟨h.eq x y,fun e=>e ▸ h.refl x⟩
def q8l (a b:Int):Int:=if a<b then -1 else if b<a then 1 else 0
theorem q7x:Cmp q8l:=by
 refine ⟨fun x y=>?_,fun x y=>?_,fun x y z=>?_,fun x y=>?_⟩<;>unfold q8l<;>repeat' split
 all_goals (try omega)
def or2 (x y:Int):Int:=if x=0 then y else x
def qea {α β:Type} (c:α→α→Int) (d:β→β→Int) (x y:α×β):Int:=or2 (c x.1 y.1) (d x.2 y.2)
theorem qqj {α β:Type} {c:α→α→Int} {d:β→β→Int} (hc:Cmp c) (hd:Cmp d):Cmp (qea c d):=by
 refine ⟨fun x y=>?_,fun x y=>?_,fun x y z h1 h2=>?_,fun x y h=>?_⟩
 ·unfold qea or2;split
  ·exact hd.rng _ _
  ·exact hc.rng _ _
 ·have a:=hc.anti x.1 y.1
  have b:=hd.anti x.2 y.2
  unfold qea or2;split<;>split<;>omega
 ·unfold qea or2 at *
  have t:=hc.tr x.1 y.1 z.1
  have t':=hc.tr z.1 x.1 y.1
  have t'':=hc.tr y.1 z.1 x.1
  have a1:=hc.anti x.1 y.1
  have a2:=hc.anti y.1 z.1
  have a3:=hc.anti x.1 z.1
  split at h1<;>split at h2
  ·rename_i e1 e2
   rw [hc.eq _ _ e1,hc.eq _ _ e2,hc.refl]
   rw [if_pos rfl]
   exact hd.tr _ _ _ h1 h2
  ·rename_i e1 e2
   rw [hc.eq _ _ e1,if_neg e2];exact h2
  ·rename_i e1 e2
   rw [← hc.eq _ _ e2,if_neg e1];exact h1
  ·rename_i e1 e2
   have t0:=t h1 h2
   split
   ·rename_i e3
    have e4:=hc.eq _ _ e3
    rw [← e4] at h2 e2 a2
    omega
   ·exact t0
 ·unfold qea or2 at h
  split at h
  ·rename_i e1
   exact Prod.ext (hc.eq _ _ e1) (hd.eq _ _ h)
  ·rename_i e1;exact absurd h e1
theorem Cmp.key {α β:Type} {c:β→β→Int} (hc:Cmp c) (f:α→β) (hf : ∀ x y,f x=f y→x=y):Cmp fun x y=>c (f x) (f y) :=
 ⟨fun x y=>hc.rng _ _,fun x y=>hc.anti _ _,fun x y z=>hc.tr _ _ _,fun x y h=>hf _ _ (hc.eq _ _ h)⟩
def cmpL {α:Type} (c:α→α→Int):List α→List α→Int
 | [],[]=>0
 | [],_::_=>-1
 | _::_,[]=>1
 | a::asx,b::bs=>or2 (c a b) (cmpL c asx bs)
theorem qdf {α:Type} {c:α→α→Int} (hc:Cmp c):Cmp (cmpL c):=by
 refine ⟨fun x=>?_,fun x=>?_,fun x=>?_,fun x=>?_⟩
 ·induction x with
  | nil=>intro y;cases y<;>simp [cmpL]
  | cons a asx ih=>intro y;cases y with
   | nil=>simp [cmpL]
   | cons b bs =>
    unfold cmpL or2;split
    ·exact ih bs
    ·exact hc.rng _ _
 ·induction x with
  | nil=>intro y;cases y<;>simp [cmpL]
  | cons a asx ih=>intro y;cases y with
   | nil=>simp [cmpL]
   | cons b bs =>
    have a1:=hc.anti a b
    have a2:=ih bs
    unfold cmpL or2;split<;>split<;>omega
 ·induction x with
  | nil=>intro y z;cases y<;>cases z<;>simp [cmpL]
  | cons a asx ih=>intro y z h1 h2;cases y with
   | nil=>simp [cmpL] at h1
   | cons b bs=>cases z with
    | nil=>simp [cmpL] at h2
    | cons d ds =>
     have h1':qea c (cmpL c) (a,asx) (b,bs)≤0:=h1
     have h2':qea c (cmpL c) (b,bs) (d,ds)≤0:=h2
     show or2 (c a d) (cmpL c asx ds)≤0
     unfold qea or2 at *
     dsimp only at *
     have t:=hc.tr a b d
     split at h1'<;>split at h2'
     ·rename_i e1 e2
      rw [hc.eq _ _ e1,hc.eq _ _ e2,hc.refl,if_pos rfl]
      exact ih bs ds h1' h2'
     ·rename_i e1 e2
      rw [hc.eq _ _ e1,if_neg e2];exact h2'
     ·rename_i e1 e2
      rw [← hc.eq _ _ e2,if_neg e1];exact h1'
     ·rename_i e1 e2
      have t0:=t h1' h2'
      split
      ·rename_i e3
       have e4:=hc.eq _ _ e3
       have a1:=hc.anti a b
       rw [← e4] at h2' e2
       omega
      ·exact t0
 ·induction x with
  | nil=>intro y;cases y<;>simp [cmpL]
  | cons a asx ih=>intro y h;cases y with
   | nil=>simp [cmpL] at h
   | cons b bs =>
    unfold cmpL or2 at h
    split at h
    ·rename_i e1
     rw [hc.eq _ _ e1,ih bs h]
    ·rename_i e1;exact absurd h e1
def j8v (a b:UInt8):Int:=q8l a.toNat b.toNat
theorem jd0 (a b:UInt8):j8v a b=if ((a.toNat:Nat):Int)<((b.toNat:Nat):Int) then -1 else if ((b.toNat:Nat):Int)<((a.toNat:Nat):Int) then 1 else 0:=rfl
theorem qhs:Cmp j8v:=q7x.key (fun a:UInt8=>((a.toNat:Nat):Int)) fun x y h=>UInt8.toNat_inj.1 (by omega)
theorem q9l : ∀ a b:Yy,Lib.compareBytes a b=cmpL j8v a b
 | [],[]=>rfl
 | [],_::_=>rfl
 | _::_,[]=>rfl
 | a::asx,b::bs=>by
  unfold Lib.compareBytes cmpL or2
  rw [q9l asx bs,jd0 a b]
  have h1:a<b↔((a.toNat:Nat):Int)<((b.toNat:Nat):Int):=by rw [UInt8.lt_iff_toNat_lt];omega
  have h2:b<a↔((b.toNat:Nat):Int)<((a.toNat:Nat):Int):=by rw [UInt8.lt_iff_toNat_lt];omega
  simp only [h1,h2]
  split
  ·simp
  ·split
   ·simp
   ·simp
theorem qe0 : ∀ a b:Yy,Op.bytesLess a b=decide (cmpL j8v a b<0)
 | [],[]=>rfl
 | [],_::_=>rfl
 | _::_,[]=>rfl
 | a::asx,b::bs=>by
  unfold Op.bytesLess cmpL or2
  rw [qe0 asx bs,jd0 a b]
  have h1:a<b↔((a.toNat:Nat):Int)<((b.toNat:Nat):Int):=by rw [UInt8.lt_iff_toNat_lt];omega
  have h3:(a==b)=decide (((a.toNat:Nat):Int)=((b.toNat:Nat):Int)):=by
   by_cases h:a=b
   ·subst h;simp
   ·have : ¬ ((a.toNat:Nat):Int)=((b.toNat:Nat):Int):=fun e=>h (UInt8.toNat_inj.1 (by omega))
    simp [h,this]
  rw [h3]
  simp only [h1]
  by_cases c1:((a.toNat:Nat):Int)<((b.toNat:Nat):Int)
  ·simp [c1]
  ·by_cases c2:((b.toNat:Nat):Int)<((a.toNat:Nat):Int)
   ·have : ¬ ((a.toNat:Nat):Int)=((b.toNat:Nat):Int):=by omega
    simp [c1,c2,this]
   ·have:((a.toNat:Nat):Int)=((b.toNat:Nat):Int):=by omega
    simp [c1,c2,this]
abbrev VD:=Vv
abbrev v0:VD:=(0,(0,(0,([],[]))))
def q0t (c:UInt8):Bool:=decide (48≤c.toNat)&&decide (c.toNat≤57)
def qhu (c:UInt8):Bool:=(decide (97≤c.toNat)&&decide (c.toNat≤122))||(decide (65≤c.toNat)&&decide (c.toNat≤90))||q0t c||decide (c.toNat=45)
def q29 (s:Yy):Bool:=s.all q0t && !decide (s = [])
def q26 (s:Yy):Bool:=s.all qhu && !decide (s = [])
def q43 (s:Yy):Bool:=q26 s&&(decide (s = [48]) || !decide (s.head? = some 48) || !q29 s)
def q57 (p:Yy→Bool) (s:Yy):Bool:=decide (s = [])||(decide (s.length≤30)&&(spl 46 [] s).all p)
def j0b (n:Int):Bool:=decide (0≤n)&&decide (n≤999999999)
def q0r (v:VD):Bool:=j0b v.1&&j0b v.2.1&&j0b v.2.2.1&&q57 q43 v.2.2.2.1&&q57 q26 v.2.2.2.2
def q4k (c:UInt8) (s:Yy):Yy:=if s = [] then [] else c::s
def j71 (v:VD):Yy:=118::(Lib.itoa v.1++46::(Lib.itoa v.2.1++46::(Lib.itoa v.2.2.1++(q4k 45 v.2.2.2.1++q4k 43 v.2.2.2.2))))
def q0b (v:VD):Yy:=if q0r v then j71 v else []
def jj5 (w:Yy):Int×(Int×Yy):=if q29 w then (0,(w.length,w)) else (1,(0,w))
def jd1 (x y:Yy):Int:=qea q8l (qea q8l (cmpL j8v)) (jj5 x) (jj5 y)
def j98 (p:Yy):Int×List Yy:=(if p = [] then 1 else 0,spl 46 [] p)
def qa1 (a b:Yy):Int:=qea q8l (cmpL jd1) (j98 a) (j98 b)
def core (v:VD):Int×(Int×(Int×Yy)):=(v.1,(v.2.1,(v.2.2.1,v.2.2.2.1)))
def cmpC (x y:Int×(Int×(Int×Yy))):Int:=qea q8l (qea q8l (qea q8l qa1)) x y
def j41 (v w:VD):Int:=if q0r v&&q0r w then cmpC (core v) (core w) else 0
theorem jgx (x y:Yy) (h:jj5 x=jj5 y):x=y:=by
 unfold jj5 at h
 split at h<;>split at h<;>simp at h<;>first|exact h.2|exact h
theorem jfh:Cmp jd1:=(qqj q7x (qqj q7x (qdf qhs))).key jj5 jgx
def q4x (c:UInt8):List Yy→Yy
 | []=>[]
 | [x]=>x
 | x::y::t=>x++c::q4x c (y::t)
theorem qtt (c:UInt8) (l cur:Yy):spl c cur l ≠ []:=fun h=>by have:=(q45 c l cur).1;rw [h] at this;simp at this
theorem q73 (c:UInt8) : ∀ (l cur:Yy),q4x c (spl c cur l)=cur++l
 | [],cur=>by simp [spl,q4x]
 | b::l,cur=>by
  rw [spl]
  split
  ·rename_i h;subst h
   have ih:=q73 b l []
   cases hs:spl b [] l with
   | nil=>exact absurd hs (qtt b l [])
   | cons y t=>rw [hs] at ih;rw [q4x,ih];simp
  ·rw [q73 c l];simp
theorem jke (c:UInt8) (x y:Yy) (h:spl c [] x=spl c [] y):x=y:=by
 have h1:=q73 c x []
 have h2:=q73 c y []
 rw [h] at h1
 simpa using h1.symm.trans h2
theorem jg6 (x y:Yy) (h:j98 x=j98 y):x=y:=jke 46 x y (congrArg Prod.snd h)
theorem j43:Cmp qa1:=(qqj q7x (qdf jfh)).key j98 jg6
theorem qmb (c:UInt8) (p:UInt8→Bool) : ∀ (l cur:Yy),(spl c cur l).all (fun w=>w.all p)=true↔(cur.all p=true∧∀ b∈l,b=c∨p b=true)
 | [],cur=>by simp [spl]
 | b::l,cur=>by
  rw [spl]
  split
  ·rename_i h;subst h
   rw [List.all_cons,Bool.and_eq_true,qmb b p l []]
   simp
  ·rename_i h
   rw [qmb c p l]
   simp only [List.all_append,List.all_cons,List.all_nil,Bool.and_true,Bool.and_eq_true,List.mem_cons,forall_eq_or_imp,h,false_or,and_assoc]
theorem qky {d:Nat} (h:d<10):q0t (UInt8.ofNat (48+d))=true:=by
 unfold q0t
 have:(UInt8.ofNat (48+d)).toNat=48+d:=by rw [UInt8.toNat_ofNat'];omega
 rw [this];simp;omega
theorem qjt (n:Nat):(Lib.decDigits n).all q0t=true∧Lib.decDigits n ≠ []:=by
 induction n using Nat.strongRecOn with
 | _ n ih =>
  rw [Lib.decDigits]
  split
  ·rename_i h;exact ⟨by rw [List.all_cons,qky h];rfl,by simp⟩
  ·rename_i h
   have:=ih (n / 10) (by omega)
   exact ⟨by rw [List.all_append,this.1,List.all_cons,qky (show n % 10<10 by omega)];rfl,by simp⟩
theorem qby : ∀ (k n:Nat),n<10 ^ (k+1)→(Lib.decDigits n).length≤k+1
 | 0,n,h=>by rw [Lib.decDigits,dif_pos (by omega)];simp
 | k+1,n,h=>by
  rw [Lib.decDigits]
  split
  ·simp
  ·have:=qby k (n / 10) (by rw [Nat.pow_succ] at h;omega)
   simp;omega
theorem qts : ∀ (l r:Yy) (a:Nat) (u:Nat),Lib.parseUint10 a l = .ok u→Lib.parseUint10 a (l++r)=Lib.parseUint10 u r
 | [],r,a,u,h=>by simp only [Lib.parseUint10] at h;injection h with h;subst h;rfl
 | c::l,r,a,u,h=>by
  rw [List.cons_append]
  conv=>lhs;unfold Lib.parseUint10
  unfold Lib.parseUint10 at h
  split at h
  ·rename_i h1
   rw [if_pos h1]
   split at h
   ·cases h
   ·rename_i h2
    rw [if_neg h2]
    split at h
    ·cases h
    ·rename_i h3
     rw [if_neg h3]
     exact qts l r _ u h
  ·cases h
theorem je3 (n:Nat) (h:n<1000000000000000000):Lib.parseUint10 0 (Lib.decDigits n) = .ok n:=by
 induction n using Nat.strongRecOn with
 | _ n ih =>
  have t1 : ∀ d,d<10→(UInt8.ofNat (48+d)).toNat=48+d:=fun d hd=>by rw [UInt8.toNat_ofNat'];omega
  rw [Lib.decDigits]
  split
  ·rename_i h1
   unfold Lib.parseUint10 Lib.parseUint10
   rw [t1 n h1,if_pos (by omega),if_neg (by omega),if_neg (by omega)]
   congr 1;omega
  ·rename_i h1
   have h2:=ih (n / 10) (by omega) (by omega)
   rw [qts _ _ _ _ h2]
   unfold Lib.parseUint10 Lib.parseUint10
   rw [t1 _ (show n % 10<10 by omega),if_pos (by omega),if_neg (by omega),if_neg (by omega)]
   congr 1;omega
theorem q0z {n:Int} (h:0≤n):Lib.itoa n=Lib.decDigits n.toNat:=by unfold Lib.itoa;rw [if_neg (by omega)]
theorem qdl {n:Int} (h0:0≤n) (h1:n≤999999999):Lib.atoiAll (Lib.itoa n) = .ok n:=by
 rw [q0z h0]
 have hd:=qjt n.toNat
 have hp:=je3 n.toNat (by omega)
 generalize Lib.decDigits n.toNat=l at hd hp
 cases l with
 | nil=>exact absurd rfl hd.2
 | cons c r =>
  have hc:q0t c=true:=by have:=hd.1;simp at this;exact this.1
  unfold q0t at hc
  simp at hc
  unfold Lib.atoiAll
  have c43 : ¬ c.toNat=43:=by omega
  have c45 : ¬ c.toNat=45:=by omega
  simp only [c43,or_self,if_false,c45,not_false_eq_true,true_and,false_and]
  unfold Lib.parseMag
  rw [if_neg (by simp),hp]
  simp only
  rw [if_neg (by omega)]
  congr 1;omega
def q90 (a:Int):Yy→Int
 | []=>a
 | c::l=>q90 (10*a+c.toNat - 48) l
theorem qpb : ∀ (l r:Yy) (a:Int),q90 a (l++r)=q90 (q90 a l) r
 | [],r,a=>rfl
 | c::l,r,a=>by rw [List.cons_append,q90,q90,qpb l]
theorem j1t (n:Nat):q90 0 (Lib.decDigits n)=n:=by
 induction n using Nat.strongRecOn with
 | _ n ih =>
  have t1 : ∀ d,d<10→(UInt8.ofNat (48+d)).toNat=48+d:=fun d hd=>by rw [UInt8.toNat_ofNat'];omega
  rw [Lib.decDigits]
  split
  ·rename_i h1
   unfold q90 q90
   rw [t1 n h1];omega
  ·rename_i h1
   rw [qpb,ih (n / 10) (by omega)]
   unfold q90 q90
   rw [t1 _ (show n % 10<10 by omega)];omega
theorem qek : ∀ (l:Yy) (a:Int),0≤a→l.all q0t=true→0≤q90 a l∧q90 a l<(a+1)*10 ^ l.length
 | [],a,h,_=>by simp [q90];omega
 | c::l,a,h,hd=>by
  simp at hd
  have hc:=hd.1
  unfold q0t at hc
  simp at hc
  have ih:=qek l (10*a+c.toNat - 48) (by omega) (by simp;exact hd.2)
  rw [q90]
  refine ⟨ih.1,Int.lt_of_lt_of_le ih.2 ?_⟩
  have e1:(10:Int) ^ (c::l).length=10*10 ^ l.length:=by rw [List.length_cons,Int.pow_succ];omega
  rw [e1,← Int.mul_assoc]
  have hp:(0:Int)≤10 ^ l.length:=Int.le_of_lt (Int.pow_pos (by decide))
  exact Int.mul_le_mul_of_nonneg_right (by omega) hp
theorem q5d (c:UInt8) : ∀ l:Yy,c ∉ l→Lib.index l [c] = -1
 | [],_=>by simp [Lib.index]
 | b::l,h=>by
  have h1:b≠c:=fun e=>h (by simp [e])
  have ih:=q5d c l (fun e=>h (by simp [e]))
  rw [qhc h1,ih];rfl
theorem index_hit (c:UInt8) : ∀ (l r:Yy),c ∉ l→Lib.index (l++c::r) [c]=((l.length:Nat):Int)
 | [],r,_=>index_self c r
 | b::l,r,h=>by
  have h1:b≠c:=fun e=>h (by simp [e])
  have ih:=index_hit c l r (fun e=>h (by simp [e]))
  rw [List.cons_append,qhc h1,ih]
  have:((((l.length:Nat):Int) == -1)=true)=False:=by simp
  simp only [this,if_false,List.length_cons];omega
def q2b (c:UInt8) (s:Yy):Yy:=if Lib.index s [c] = -1 then s else s.take (Lib.index s [c]).toNat
def q5e (c:UInt8) (s:Yy):Yy:=if Lib.index s [c] = -1 then [] else s.drop ((Lib.index s [c]).toNat+1)
theorem j35 (c:UInt8) (x t:Yy) (h:c ∉ x):q2b c (x++q4k c t)=x∧q5e c (x++q4k c t)=t:=by
 unfold q4k q2b q5e
 split
 ·rename_i e;subst e
  rw [List.append_nil,q5d c x h];exact ⟨rfl,rfl⟩
 ·rw [index_hit c x t h]
  have n1 : ¬ ((x.length:Nat):Int) = -1:=by omega
  simp only [n1,if_false,Int.toNat_natCast]
  simp
theorem qlv (c:UInt8) (x t:Yy) (h:c ∉ x):q2b c (x++c::t)=x∧q5e c (x++c::t)=t:=by
 unfold q2b q5e
 rw [index_hit c x t h]
 have n1 : ¬ ((x.length:Nat):Int) = -1:=by omega
 simp only [n1,if_false,Int.toNat_natCast]
 simp
theorem qdy (c:UInt8) (x t:Yy) (h:c ∉ x):spl c [] (x++c::t)=x::spl c [] t:=by
 rw [q7m c x [] _ h,List.nil_append,spl,if_pos rfl]
theorem q6x (c:UInt8) (x:Yy) (h:c ∉ x):spl c [] x = [x]:=by
 have:=q7m c x [] [] h
 simpa [spl] using this
theorem j2f {p:Yy→Bool} (hp : ∀ w,p w=true→w.all qhu=true) {s:Yy} (h:q57 p s=true) : ∀ b∈s,b=46∨qhu b=true:=by
 unfold q57 at h
 simp only [Bool.or_eq_true,Bool.and_eq_true,decide_eq_true_eq] at h
 rcases h with rfl|⟨_,h⟩
 ·intro b hb;cases hb
 ·exact ((qmb 46 qhu s []).1 (List.all_eq_true.2 fun w hw=>hp w (List.all_eq_true.1 h w hw))).2
theorem qo9 (w:Yy) (h:q26 w=true):w.all qhu=true:=by unfold q26 at h;simp only [Bool.and_eq_true] at h;exact h.1
theorem qtq (w:Yy) (h:q43 w=true):w.all qhu=true:=by unfold q43 at h;simp only [Bool.and_eq_true] at h;exact qo9 w h.1
theorem qq8 {c:UInt8} (hc:q0t c=false) (n:Nat):c ∉ Lib.decDigits n:=fun h=>by
 have:=List.all_eq_true.1 (qjt n).1 c h
 rw [hc] at this;cases this
theorem sg43:qhu 43=false:=by decide
theorem q1a {v:VD} (h:q0r v=true):(0≤v.1∧v.1≤999999999)∧(0≤v.2.1∧v.2.1≤999999999)∧(0≤v.2.2.1∧v.2.2.1≤999999999)∧q57 q43 v.2.2.2.1=true∧q57 q26 v.2.2.2.2=true:=by
 unfold q0r j0b at h
 simp only [Bool.and_eq_true,decide_eq_true_eq] at h
 exact ⟨h.1.1.1.1,h.1.1.1.2,h.1.1.2,h.1.2,h.2⟩
theorem q4a {p:Yy→Bool} {s:Yy} (h:q57 p s=true):s.length≤30:=by
 unfold q57 at h
 simp only [Bool.or_eq_true,Bool.and_eq_true,decide_eq_true_eq] at h
 rcases h with rfl|h
 ·simp
 ·exact h.1
def qdg (s:Yy):Int:=match Lib.atoiAll s with
 | .ok v=>v
 | _=>-1
def q1k (s:Yy):Yy:=if s.head? = some 118 then s.drop 1 else s
def j4q (s:Yy):VD:=(qdg (q2b 46 (q1k (q2b 45 (q2b 43 s)))),(qdg (q2b 46 (q5e 46 (q1k (q2b 45 (q2b 43 s))))),(qdg (q5e 46 (q5e 46 (q1k (q2b 45 (q2b 43 s))))),(q5e 45 (q2b 43 s),q5e 43 s))))
def qb0 (s:Yy):Int:=if q29 s&&decide (s.length≤9) then q90 0 s else -1
def jlq (r:Yy):Option VD:=match spl 46 [] (q2b 45 (q2b 43 r)) with
 | [a,b,c]=>some (qb0 a,(qb0 b,(qb0 c,(q5e 45 (q2b 43 r),q5e 43 r))))
 | _=>none
theorem j7q {v:VD} (h:q0r v=true) : ∀ pf:Yy,43 ∉ pf→45 ∉ pf →
  q2b 43 (pf++(Lib.itoa v.1++46::(Lib.itoa v.2.1++46::(Lib.itoa v.2.2.1++(q4k 45 v.2.2.2.1++q4k 43 v.2.2.2.2)))))=pf++(Lib.itoa v.1++46::(Lib.itoa v.2.1++46::(Lib.itoa v.2.2.1++q4k 45 v.2.2.2.1))) ∧
  q5e 43 (pf++(Lib.itoa v.1++46::(Lib.itoa v.2.1++46::(Lib.itoa v.2.2.1++(q4k 45 v.2.2.2.1++q4k 43 v.2.2.2.2)))))=v.2.2.2.2 ∧
  q2b 45 (pf++(Lib.itoa v.1++46::(Lib.itoa v.2.1++46::(Lib.itoa v.2.2.1++q4k 45 v.2.2.2.1))))=pf++(Lib.itoa v.1++46::(Lib.itoa v.2.1++46::Lib.itoa v.2.2.1)) ∧
  q5e 45 (pf++(Lib.itoa v.1++46::(Lib.itoa v.2.1++46::(Lib.itoa v.2.2.1++q4k 45 v.2.2.2.1))))=v.2.2.2.1:=by
 intro pf p1 p2
 obtain ⟨h1,h2,h3,h4,h5⟩:=q1a h
 have d43:q0t 43=false:=by decide
 have d45:q0t 45=false:=by decide
 have t43:(43:UInt8) ∉ q4k 45 v.2.2.2.1:=by
  unfold q4k
  split
  ·simp
  ·intro hm
   rcases List.mem_cons.1 hm with hm|hm
   ·cases hm
   ·rcases j2f qtq h4 _ hm with hm|hm
    ·cases hm
    ·rw [sg43] at hm;cases hm
 rw [q0z h1.1,q0z h2.1,q0z h3.1]
 have m43:=fun n=>qq8 d43 n
 have m45:=fun n=>qq8 d45 n
 have a1:=j35 43 (pf++(Lib.decDigits v.1.toNat++46::(Lib.decDigits v.2.1.toNat++46::(Lib.decDigits v.2.2.1.toNat++q4k 45 v.2.2.2.1)))) v.2.2.2.2 (by simp [m43,t43,p1])
 have a2:=j35 45 (pf++(Lib.decDigits v.1.toNat++46::(Lib.decDigits v.2.1.toNat++46::Lib.decDigits v.2.2.1.toNat))) v.2.2.2.1 (by simp [m45,p2])
 simp only [List.append_assoc,List.cons_append] at a1 a2
 exact ⟨a1.1,a1.2,a2.1,a2.2⟩
theorem jdb {v:VD} (h:q0r v=true):j4q (j71 v)=v:=by
 obtain ⟨h1,h2,h3,h4,h5⟩:=q1a h
 have d46:q0t 46=false:=by decide
 have m46:=fun n=>qq8 d46 n
 have e0:j71 v = [118]++(Lib.itoa v.1++46::(Lib.itoa v.2.1++46::(Lib.itoa v.2.2.1++(q4k 45 v.2.2.2.1++q4k 43 v.2.2.2.2)))):=rfl
 obtain ⟨k1,k2,k3,k4⟩:=j7q h [118] (by decide) (by decide)
 unfold j4q
 rw [e0,k1,k2,k3,k4]
 have e1:q1k ([118]++(Lib.itoa v.1++46::(Lib.itoa v.2.1++46::Lib.itoa v.2.2.1)))=Lib.itoa v.1++46::(Lib.itoa v.2.1++46::Lib.itoa v.2.2.1):=rfl
 rw [e1]
 have c1:=qlv 46 (Lib.itoa v.1) (Lib.itoa v.2.1++46::Lib.itoa v.2.2.1) (by rw [q0z h1.1];exact m46 _)
 have c2:=qlv 46 (Lib.itoa v.2.1) (Lib.itoa v.2.2.1) (by rw [q0z h2.1];exact m46 _)
 rw [c1.1,c1.2,c2.1,c2.2]
 unfold qdg
 rw [qdl h1.1 h1.2,qdl h2.1 h2.2,qdl h3.1 h3.2]
theorem qla {n:Int} (h0:0≤n) (h1:n≤999999999):qb0 (Lib.itoa n)=n:=by
 rw [q0z h0]
 have hd:=qjt n.toNat
 have hl:=qby 8 n.toNat (by omega)
 unfold qb0 q29
 rw [if_pos (by simp [hd.1,hd.2,hl]),j1t];omega
theorem j7s {v:VD} (h:q0r v=true):jlq ((j71 v).drop 1)=some v:=by
 obtain ⟨h1,h2,h3,h4,h5⟩:=q1a h
 have d46:q0t 46=false:=by decide
 have m46:=fun n=>qq8 d46 n
 obtain ⟨k1,k2,k3,k4⟩:=j7q h [] (by simp) (by simp)
 simp only [List.nil_append] at k1 k2 k3 k4
 have e0:(j71 v).drop 1=Lib.itoa v.1++46::(Lib.itoa v.2.1++46::(Lib.itoa v.2.2.1++(q4k 45 v.2.2.2.1++q4k 43 v.2.2.2.2))):=rfl
 unfold jlq
 rw [e0,k1,k2,k3,k4]
 rw [qdy 46 (Lib.itoa v.1) _ (by rw [q0z h1.1];exact m46 _),qdy 46 (Lib.itoa v.2.1) _ (by rw [q0z h2.1];exact m46 _),q6x 46 (Lib.itoa v.2.2.1) (by rw [q0z h3.1];exact m46 _)]
 simp only [qla h1.1 h1.2,qla h2.1 h2.2,qla h3.1 h3.2]
theorem jc3 {v:VD} (h:q0r v=true):(j71 v).length≤92:=by
 obtain ⟨h1,h2,h3,h4,h5⟩:=q1a h
 have l1:=qby 8 v.1.toNat (by omega)
 have l2:=qby 8 v.2.1.toNat (by omega)
 have l3:=qby 8 v.2.2.1.toNat (by omega)
 have t1:=q4a h4
 have t2:=q4a h5
 have tt : ∀ (c:UInt8) (s:Yy),(q4k c s).length≤s.length+1:=fun c s=>by unfold q4k;split<;>simp
 have u1:=tt 45 v.2.2.2.1
 have u2:=tt 43 v.2.2.2.2
 unfold j71
 rw [q0z h1.1,q0z h2.1,q0z h3.1]
 simp only [List.length_cons,List.length_append]
 omega
def q09 (s:Yy):VD×Bool:=if q0r (j4q s)&&decide (q0b (j4q s)=s) then (j4q s,true) else (v0,false)
theorem j3a {s:Yy} {v:VD} (h:q0r v=true) (ht:q0b v=s):q09 s=(v,true):=by
 have e1:s=j71 v:=by rw [← ht];unfold q0b;rw [if_pos h]
 subst e1
 unfold q09
 rw [jdb h,if_pos (by simp [h,ht])]
theorem qff {s:Yy} (h:(q09 s).2=true):q0r (q09 s).1=true∧q0b (q09 s).1=s:=by
 unfold q09 at *
 split at h
 ·rename_i h1
  rw [if_pos h1]
  simp only [Bool.and_eq_true,decide_eq_true_eq] at h1
  exact h1
 ·cases h
theorem qne {s:Yy} (h : ∀ v,q0r v=true→q0b v≠s):q09 s=(v0,false):=by
 unfold q09
 rw [if_neg]
 simp only [Bool.and_eq_true,decide_eq_true_eq]
 exact fun h1=>h _ h1.1 h1.2
end Go.Proofs.YtapfankgdkdkgaaGreatDoor.AM
namespace Go.Proofs
open Go.RowKit Go.Shelf Go.Lib
shelf_lay LaysM.n171 Nm 171 at Tryz as Tryz.laysItoa
shelf_lay LaysC.n172 Nm 172 at Tryz as Tryz.laysAtoi
namespace YtapfankgdkdkgaaGreatDoor.AM
structure Inv (w:World):Prop where
 errT:w.cell? ⟨0,0,none⟩=some (.iface 196 (.agg #[.pointer (some ⟨9,82,none⟩)]))
 maxLen : ∃ m,w.cell? ⟨Tryz.laysIndex_ren.g 1,0,none⟩=some (.int .i64 m)
 tab:Lib.TabIs Tryz.prog w "internal/strconv.uint64pow10" .u64 Lib.pow10Tab
 syn : ∃ tp p,w.cell? ⟨Tryz.laysAtoi_ren.g 15,0,none⟩=some (.iface tp p)
 rng : ∃ tp p,w.cell? ⟨Tryz.laysAtoi_ren.g 16,0,none⟩=some (.iface tp p)
theorem gTab:(Tryz.prog.globalNamed "internal/strconv.uint64pow10").isSome=true:=by kernel_rfl
theorem Inv.below {w w':World} (h:Inv w) (hb:Below w.heap.size w w'):Inv w':=by
 obtain ⟨he,⟨m,hm⟩,ht,⟨t1,p1,h1⟩,⟨t2,p2,h2⟩⟩:=h
 refine ⟨(hb.cell (p:=⟨_,0,none⟩) (World.block_lt_of_cell? _ _ he)).trans he,⟨m,(hb.cell (p:=⟨_,0,none⟩) (World.block_lt_of_cell? _ _ hm)).trans hm⟩,?_,⟨t1,p1,(hb.cell (p:=⟨_,0,none⟩) (World.block_lt_of_cell? _ _ h1)).trans h1⟩,⟨t2,p2,(hb.cell (p:=⟨_,0,none⟩) (World.block_lt_of_cell? _ _ h2)).trans h2⟩⟩
 obtain ⟨g,hg⟩:=Option.isSome_iff_exists.1 gTab
 refine var?_below hb hg ?_ ht
 have hv:w.var? Tryz.prog "internal/strconv.uint64pow10" = some _:=ht
 unfold World.var? at hv
 rw [hg] at hv
 simp only [Option.bind_some] at hv
 split at hv
 ·rename_i h5;exact (Array.getElem?_eq_some_iff.1 h5).1
 ·cases hv
theorem q8m:Know Inv Inv:=⟨fun w w' h hb=>h.below hb,fun _ h=>h⟩
variable {P:Program}
theorem q47 {Pc:Nat→Nat→Prop} {w w':World} {v:Value} {d:D} {e:Ending} (he:e = .returned v) (hb:Below w.heap.size w w') (hv:q1r (q4u Pc) qhl w' v d) :
  ∃ v' Pc',e = .returned v'∧Below w.heap.size w w'∧(∀ b o,Pc b o→Pc' b o)∧(∀ b o,Pc' b o→Pc b o∨(w.heap.size≤b∧b<w'.heap.size))∧q1r (q4u Pc') qhl w' v' d :=
 ⟨v,Pc,he,hb,fun _ _ h=>h,fun _ _ h=>Or.inl h,hv⟩
abbrev qn1:SD:=.one (.c (.d .str))
abbrev intA:SD:=.one (.c (.d (.int .i64)))
abbrev jfr:SD:=.one (.c (.d .bool))
def qio (s sep:List UInt8):Option Int:=match sep with
 | [c]=>if s.length<4294967281 then some (Lib.index s [c]) else none
 | _=>none
def jez:FC:={ f:=111,args:=[qn1,qn1],res:=intA,F:=fun p=>qio p.1 p.2 }
theorem jgm:q06 Inv Tryz.prog jez:=fun G hG=>⟨⟨by kernel_rfl,fun a r h=>by
 obtain ⟨s,sep⟩:=a
 have h':qio s sep=some r:=h
 unfold qio at h'
 split at h'
 case h_2=>cases h'
 rename_i c
 split at h'
 case isFalse=>cases h'
 rename_i hc
 have hr:Lib.index s [c]=r:=Option.some.inj h'
 intro Pc w vs hg hlt hv
 obtain ⟨m,hm⟩:=(hG.im w hg).maxLen
 obtain ⟨l⟩:=vs
 match l,hv with
 | [x,y],⟨h1,h2,_⟩ =>
  obtain rfl:x = .string (ba s):=q0a h1
  obtain rfl:y = .string (ba [c]):=q0a h2
  have e1:(ba s).data.toList=s:=by simp [ba]
  have e2:(ba [c]).data.toList = [c]:=by simp [ba]
  have hh:=Any.stringslite_Index { Tryz.laysIndex with } (ba s) (ba [c]) m w (by rw [q30];exact hc) hm
  rw [e1,e2,hr] at hh
  refine hh.mono ?_
  rintro e w' ⟨rfl,rfl⟩
  exact q47 rfl (Below.refl _ _) (q07 _)⟩,rfl⟩
def qks (n:Int):Option (List UInt8):=if -9223372036854775808≤n∧n≤9223372036854775807 then some (Lib.itoa n) else none
def jjl:FC:={ f:=76,args:=[intA],res:=qn1,F:=fun p=>qks p }
theorem jjc:q06 Inv Tryz.prog jjl:=fun G hG=>⟨⟨by kernel_rfl,fun (n:Int) r h=>by
 have h':qks n=some r:=h
 unfold qks at h'
 split at h'
 case isFalse=>cases h'
 rename_i hc
 have hr:Lib.itoa n=r:=Option.some.inj h'
 intro Pc w vs hg hlt hv
 obtain ⟨l⟩:=vs
 match l,hv with
 | [x],⟨h1,_⟩ =>
  obtain rfl:x = .int .i64 n:=q0a h1
  refine (Any.strconv_Itoa Tryz.laysItoa n hc.1 hc.2 w (hG.im w hg).tab).mono ?_
  rintro e w' ⟨rfl,k,os,rfl⟩
  subst hr
  exact q47 rfl (Lib.below_grow _ w (Nat.le_refl _) k os) (q07 (.string (ba (Lib.itoa n))))⟩,rfl⟩
end YtapfankgdkdkgaaGreatDoor.AM
end Go.Proofs
namespace Go.Proofs
open Go.RowKit Go.Shelf Go.Lib
shelf_lay LaysM.n146 Nm 146 at Tryz as Tryz.laysSplit
shelf_lay Lays.n106 Nm 106 at Tryz as Tryz.laysCompare
namespace YtapfankgdkdkgaaGreatDoor.AM
variable {P:Program}
def j3g:FC:={ f:=211,args:=[qn1,qn1],res:=intA,F:=fun p=>some (Lib.compareBytes p.1 p.2) }
def qcy (a b:List UInt8):Option Int:=some (Lib.compareBytes a b)
theorem j51:q06 Inv Tryz.prog j3g:=fun G hG=>⟨⟨by kernel_rfl,fun a r h=>by
 obtain ⟨s,t⟩:=a
 have hr:Lib.compareBytes s t=r:=Option.some.inj h
 intro Pc w vs hg hlt hv
 obtain ⟨l⟩:=vs
 match l,hv with
 | [x,y],⟨h1,h2,_⟩ =>
  obtain rfl:x = .string (ba s):=q0a h1
  obtain rfl:y = .string (ba t):=q0a h2
  have e1:(ba s).data.toList=s:=by simp [ba]
  have e2:(ba t).data.toList=t:=by simp [ba]
  have hh:=Any.strings_Compare Tryz.laysCompare (ba s) (ba t) w
  rw [e1,e2,hr] at hh
  refine hh.mono ?_
  rintro e w' ⟨rfl,rfl⟩
  exact q47 rfl (Below.refl _ _) (q07 _)⟩,rfl⟩
theorem qtk (s:List UInt8) (w:World) (hI:Inv w) (hlim:s.length≤281474976710656):Calls Tryz.prog 156 #[.string (ba s)] w fun e w'=>e = .returned (.int .i64 (qdg s))∧Below w.heap.size w w':=by
 have e1:(ba s).data.toList=s:=by simp [ba]
 have hl:(ba s).size≤281474976710656:=by rw [q30];exact hlim
 obtain ⟨ts,ps,hs⟩:=hI.syn
 obtain ⟨tr,pr,hr⟩:=hI.rng
 go_enter Tryz.func156,Tryz.ntmps156
 unfold qdg
 cases h:Lib.atoiAll s with
 | ok v =>
  go_wp2_with (go_at_call 167;refine (Any.strconv_Atoi_ok Tryz.laysAtoi (ba s) (by omega) v (by rw [e1];exact h) w).mono ?_)
  rintro e w' ⟨rfl,hw⟩
  go_wp2
  go_ret
  refine ⟨rfl,?_⟩
  rcases hw with rfl|⟨t,rfl⟩
  ·exact Below.refl _ _
  ·exact Lib.bytesWorld_below _ _ _
 | «syntax» =>
  go_wp2_with (go_at_call 167;refine (Any.strconv_Atoi_syntax Tryz.laysAtoi (ba s) hl (by rw [e1];exact h) _ w hs (Or.inr ⟨_,_,rfl⟩)).mono ?_)
  rintro e w' ⟨N,rfl,hN,hc,hb⟩
  go_wp2
  go_ret
  exact ⟨rfl,hb⟩
 | range =>
  go_wp2_with (go_at_call 167;refine (Any.strconv_Atoi_range Tryz.laysAtoi (ba s) hl (by rw [e1];exact h) _ w hr (Or.inr ⟨_,_,rfl⟩)).mono ?_)
  rintro e w' ⟨N,rfl,hN,hc,hb⟩
  go_wp2
  go_ret
  exact ⟨rfl,hb⟩
def q51 (s:List UInt8):Option Int:=if s.length≤281474976710656 then some (qdg s) else none
def jdx:FC:={ f:=156,args:=[qn1],res:=intA,F:=fun p=>q51 p }
theorem j9e:q06 Inv Tryz.prog jdx:=fun G hG=>⟨⟨by kernel_rfl,fun (s:List UInt8) r h=>by
 have h':q51 s=some r:=h
 unfold q51 at h'
 split at h'
 case isFalse=>cases h'
 rename_i hc
 have hr:qdg s=r:=Option.some.inj h'
 intro Pc w vs hg hlt hv
 obtain ⟨l⟩:=vs
 match l,hv with
 | [x],⟨h1,_⟩ =>
  obtain rfl:x = .string (ba s):=q0a h1
  refine (qtk s w (hG.im w hg) hc).mono ?_
  rintro e w' ⟨rfl,hb⟩
  subst hr
  exact q47 rfl hb (q07 _)⟩,rfl⟩
theorem jnm:Tryz.laysSplit_ren.g 1=Tryz.laysIndex_ren.g 1:=by kernel_rfl
def q8j (s sep:List UInt8):Option (List (List UInt8)):=match sep with
 | [c]=>if s.length<4294967281 then some (spl c [] s) else none
 | _=>none
def jge:FC:={ f:=93,args:=[qn1,qn1],res:=.one (.c (.d (.lst .str))),F:=fun p=>q8j p.1 p.2 }
theorem j28:q06 Inv Tryz.prog jge:=fun G hG=>⟨⟨by kernel_rfl,fun a r h=>by
 obtain ⟨s,sep⟩:=a
 have h':q8j s sep=some r:=h
 unfold q8j at h'
 split at h'
 case h_2=>cases h'
 rename_i c
 split at h'
 case isFalse=>cases h'
 rename_i hc
 have hr:(Lib.splitB (ba [c]) 0 (Lib.countB (ba s) (ba [c])) (ba s)).map unB=r:=(j6o c s).trans (Option.some.inj h')
 intro Pc w vs hg hlt hv
 obtain ⟨m,hm⟩:=(hG.im w hg).maxLen
 obtain ⟨l⟩:=vs
 match l,hv with
 | [x,y],⟨h1,h2,_⟩ =>
  obtain rfl:x = .string (ba s):=q0a h1
  obtain rfl:y = .string (ba [c]):=q0a h2
  have b1:1≤(ba [c]).size:=by rw [q30];exact Nat.le_refl _
  have hlen:(Lib.splitB (ba [c]) 0 (Lib.countB (ba s) (ba [c])) (ba s)).length=Lib.countB (ba s) (ba [c])+1:=Lib.splitB_all (ba [c]) b1 0 _ (ba s) rfl
  refine (Any.strings_Split { Tryz.laysSplit with } Tryz.laysSplit.i9 (ba s) (ba [c]) m w (by rw [q30];exact hc) (by rw [jnm];exact hm) b1).mono ?_
  rintro e w' ⟨rfl,rfl⟩
  generalize hL:Lib.splitB (ba [c]) 0 (Lib.countB (ba s) (ba [c])) (ba s)=L at hlen hr
  refine ⟨_,fun b o=>Pc b o∨b=w.heap.size,rfl,(Below.refl _ _).alloc (Nat.le_refl _) _,fun b o hp=>Or.inl hp,?_,?_⟩
  ·rintro b o (hp|rfl)
   ·exact Or.inl hp
   ·exact Or.inr ⟨Nat.le_refl _,by simp⟩
  ·show DatRep _ _ _ (.lst 1 (r.map (q01 .str)))
   have hr2:r.map (q01 .str)=L.map fun x=>[Dat.v (.string x)]:=by
    rw [← hr,List.map_map]
    exact List.map_congr_left fun x _=>by show [Dat.v (.string (ba (unB x)))]=_;rw [jbl]
   rw [hr2,← hlen]
   have hmax:L.length≤maxLen:=by
    have:=Lib.countB_le (ba [c]) b1 (ba s).size (ba s) (Nat.le_refl _)
    rw [q30] at this
    have hM:maxLen=9223372036854775807:=by decide
    omega
   refine .lst _ _ _ 1 _ w.heap.size 0 (fun k j=>.string (L.getD k ⟨#[]⟩)) (by simp) (Nat.le_refl _) hmax (fun x hx=>?_) (fun _=>rfl) (fun k j hk hj=>⟨Or.inr rfl,?_,rfl⟩) (fun k j hk hj=>?_)
   ·obtain ⟨y,_,rfl⟩:=List.mem_map.1 hx;rfl
   ·have hk':k<L.length:=by simpa using hk
    have hj0:j=0:=by omega
    subst hj0
    rw [World.cell?_alloc_new]
    simp [List.getD,hk']
   ·have hk':k<L.length:=by simpa using hk
    have hj0:j=0:=by simp at hj;exact hj
    subst hj0
    simp [List.getD,hk']
    exact .v _⟩,rfl⟩
end YtapfankgdkdkgaaGreatDoor.AM
end Go.Proofs
namespace Go.Proofs.YtapfankgdkdkgaaGreatDoor.AM
open Go.RowKit
set_option maxRecDepth 20000
def q4d (n:Nat) (a1:Int):Option Bool :=
 (bif decide (48≤a1) then some (decide (a1≤57)) else some false)
def j58 (n:Nat):FC:={ f:=169,args:=[.one (.c (.d (.int .u8)))],res:=.one (.c (.d .bool)),F:=fun p=>q4d n p }
theorem qnm (n:Nat):q06 Inv Tryz.prog (j58 n):=mkF Tryz.func169 [] [] (cn) (by kernel_rfl) trivial (by intro a;kernel_rfl)
def qhp (n:Nat) (a1:Int):Option Bool :=
 (bif decide (97≤a1) then (bif decide (a1≤122) then some true else (bif decide (65≤a1) then (bif decide (a1≤90) then some true else (q4d n a1).bind fun r1=>(bif r1 then some true else some (decide (a1=45)))) else (q4d n a1).bind fun r2=>(bif r2 then some true else some (decide (a1=45))))) else (bif decide (65≤a1) then (bif decide (a1≤90) then some true else (q4d n a1).bind fun r3=>(bif r3 then some true else some (decide (a1=45)))) else (q4d n a1).bind fun r4=>(bif r4 then some true else some (decide (a1=45)))))
def jam (n:Nat):FC:={ f:=139,args:=[.one (.c (.d (.int .u8)))],res:=.one (.c (.d .bool)),F:=fun p=>qhp n p }
theorem jci (n:Nat):q06 Inv Tryz.prog (jam n):=mkF Tryz.func139 [] [] (cc (qnm n) <| cn) (by kernel_rfl) trivial (by intro a;kernel_rfl)
@[reducible] def j3p:SSt:=⟨[(0,.one (.c (.d .str))),(1,.one (.c (.fn 139 []))),(7,.one (.c (.d (.int .i64)))),(8,.one (.c (.d (.int .i64))))],[],[]⟩
@[reducible] def qtx:List (Exit×SSt):=[(.ret,⟨[(4,.one (.c (.d .bool)))],[],[]⟩),(.exit 0,⟨[(0,.one (.c (.d .str)))],[],[]⟩)]
def qk9 (n:Nat) (rec:(Yy)→Int→Int→Option Z1) (a1:Yy) (a2:Int) (a3:Int):Option Z1 :=
 (bif decide (a3<a2) then (sAt a1 a3).bind fun c1=>(qhp n c1).bind fun r2=>(bif !r2 then some (Sum.inl ((false,()),((),()))) else q00 (IntKind.wrap .i64 (a3+1)) fun n3=>rec a1 a2 n3) else some (Sum.inr (((a1,()),((),())))))
def qsm (n:Nat):Stp j3p qtx:=fun rec p=>qk9 n (fun a1 a2 a3=>rec ((a1,((),(a2,(a3,())))),((),()))) p.1.1 p.1.2.2.1 p.1.2.2.2.1
def q6c (n m:Nat) (a1:Yy) (a2:Int) (a3:Int):Option Z1:=q0u (qsm n) m ((a1,((),(a2,(a3,())))),((),()))
theorem qef (n m:Nat) (a1 a2 a3):q6c n (m+1) a1 a2 a3=qk9 n (fun a1 a2 a3=>q6c n m a1 a2 a3) a1 a2 a3:=rfl
def qha (n:Nat) (a1:Yy) (a2:Unit):Option Bool :=
 (q6c n n a1 (a1.length:Int) (0:Int)).bind fun o4=>Sum.elim (fun (q5:(Bool×Unit)×Unit×Unit)=>some q5.1.1) (fun (q6:(Yy×Unit)×Unit×Unit)=>some (!decide (q6.1.1=([]:Yy)))) o4
def j90 (n:Nat):FC:={ f:=138,args:=[.one (.c (.d .str)),.one (.c (.fn 139 []))],res:=.one (.c (.d .bool)),F:=fun p=>qha n p.1 p.2 }
theorem ja9 (n:Nat):q06 Inv Tryz.prog (j90 n):=mkF Tryz.func138 [] [q5g qsm n] (cc (jci n) <| cn) (by kernel_rfl) ⟨ls (by intro rec p;kernel_rfl),trivial⟩ (by intro a;kernel_rfl)
@[reducible] def j6s:SSt:=⟨[(0,.one (.c (.d .str))),(1,.one (.c (.fn 169 []))),(7,.one (.c (.d (.int .i64)))),(8,.one (.c (.d (.int .i64))))],[],[]⟩
@[reducible] def qs5:List (Exit×SSt):=[(.ret,⟨[(4,.one (.c (.d .bool)))],[],[]⟩),(.exit 0,⟨[(0,.one (.c (.d .str)))],[],[]⟩)]
def qjl (n:Nat) (rec:(Yy)→Int→Int→Option Z1) (a1:Yy) (a2:Int) (a3:Int):Option Z1 :=
 (bif decide (a3<a2) then (sAt a1 a3).bind fun c1=>(q4d n c1).bind fun r2=>(bif !r2 then some (Sum.inl ((false,()),((),()))) else q00 (IntKind.wrap .i64 (a3+1)) fun n3=>rec a1 a2 n3) else some (Sum.inr (((a1,()),((),())))))
def qvy (n:Nat):Stp j6s qs5:=fun rec p=>qjl n (fun a1 a2 a3=>rec ((a1,((),(a2,(a3,())))),((),()))) p.1.1 p.1.2.2.1 p.1.2.2.2.1
def q5x (n m:Nat) (a1:Yy) (a2:Int) (a3:Int):Option Z1:=q0u (qvy n) m ((a1,((),(a2,(a3,())))),((),()))
theorem qeq (n m:Nat) (a1 a2 a3):q5x n (m+1) a1 a2 a3=qjl n (fun a1 a2 a3=>q5x n m a1 a2 a3) a1 a2 a3:=rfl
def qho (n:Nat) (a1:Yy) (a2:Unit):Option Bool :=
 (q5x n n a1 (a1.length:Int) (0:Int)).bind fun o4=>Sum.elim (fun (q5:(Bool×Unit)×Unit×Unit)=>some q5.1.1) (fun (q6:(Yy×Unit)×Unit×Unit)=>some (!decide (q6.1.1=([]:Yy)))) o4
def j8q (n:Nat):FC:={ f:=138,args:=[.one (.c (.d .str)),.one (.c (.fn 169 []))],res:=.one (.c (.d .bool)),F:=fun p=>qho n p.1 p.2 }
theorem jdd (n:Nat):q06 Inv Tryz.prog (j8q n):=mkF Tryz.func138 [] [q5g qvy n] (cc (qnm n) <| cn) (by kernel_rfl) ⟨ls (by intro rec p;kernel_rfl),trivial⟩ (by intro a;kernel_rfl)
def qhe (n:Nat) (a1:Yy):Option Bool :=
 (qha n a1 ()).bind fun r1=>some r1
def j9r (n:Nat):FC:={ f:=107,args:=[.one (.c (.d .str))],res:=.one (.c (.d .bool)),F:=fun p=>qhe n p }
theorem qtp (n:Nat):q06 Inv Tryz.prog (j9r n):=mkF Tryz.func107 [] [] (cc (ja9 n) <| cn) (by kernel_rfl) trivial (by intro a;kernel_rfl)
def q5f (n:Nat) (a1:Yy):Option Bool :=
 (qho n a1 ()).bind fun r1=>some r1
def qyn (n:Nat):FC:={ f:=137,args:=[.one (.c (.d .str))],res:=.one (.c (.d .bool)),F:=fun p=>q5f n p }
theorem qk7 (n:Nat):q06 Inv Tryz.prog (qyn n):=mkF Tryz.func137 [] [] (cc (jdd n) <| cn) (by kernel_rfl) trivial (by intro a;kernel_rfl)
def qbl (n:Nat) (a1:Yy):Option Bool :=
 (qhe n a1).bind fun r1=>(bif r1 then (bif decide (a1=([48]:Yy)) then some true else (sAt a1 (0:Int)).bind fun c2=>(bif !decide (c2=48) then some true else (q5f n a1).bind fun r3=>some (!r3))) else some false)
def qwo (n:Nat):FC:={ f:=106,args:=[.one (.c (.d .str))],res:=.one (.c (.d .bool)),F:=fun p=>qbl n p }
theorem qtj (n:Nat):q06 Inv Tryz.prog (qwo n):=mkF Tryz.func106 [] [] (cc (qtp n) <| cc (qk7 n) <| cn) (by kernel_rfl) trivial (by intro a;kernel_rfl)
end Go.Proofs.YtapfankgdkdkgaaGreatDoor.AM
namespace Go.Proofs.YtapfankgdkdkgaaGreatDoor.AM
open Go.RowKit
theorem ja0 {β:Type} {l:List β} {j:Nat} (h:j<l.length):nth l j=some l[j]:=by rw [q4p,List.getElem?_eq_getElem h]
theorem q0l {β:Type} {l:List β} {j:Nat} (h:j<l.length):q0f l (j:Int)=some l[j]:=by
 unfold q0f;rw [if_pos (by omega),Int.toNat_natCast,ja0 h]
theorem q1h {s:Yy} {j:Nat} (h:j<s.length):sAt s (j:Int)=some ((s[j].toNat:Nat):Int):=by
 unfold sAt;rw [q0l h];rfl
theorem sub_le {β:Type} {l:List β} {a b:Nat} (h1:a≤b) (h2:b≤l.length):q0w l (a:Int) (b:Int)=some ((l.drop a).take (b - a)):=by
 unfold q0w;rw [if_pos ⟨by omega,by omega,by omega⟩,Int.toNat_natCast,Int.toNat_natCast]
theorem sub_zero {β:Type} {l:List β} {b:Nat} (h2:b≤l.length):q0w l (0:Int) (b:Int)=some (l.take b):=by
 have:=sub_le (l:=l) (a:=0) (b:=b) (Nat.zero_le _) h2
 simpa using this
theorem q1s {β:Type} {k:Nat} {xs ys:List β} (h:(xs.length+ys.length)*k≤140737488355328):q1t k xs ys=some (xs++ys):=by
 unfold q1t;rw [if_pos h]
theorem q05 {i:Nat} (h:i<4611686018427387904):IntKind.wrap .i64 ((i:Int)+1)=((i+1:Nat):Int):=by rw [wrap64 (by omega) (by omega)];rfl
theorem qah {i:Nat} (h:i<4611686018427387904):IntKind.wrap .i64 (i:Int)=(i:Int):=by rw [wrap64 (by omega) (by omega)]
theorem j37 (n:Nat) (c:UInt8):q4d n ((c.toNat:Nat):Int)=some (q0t c):=by
 unfold q4d q0t
 have h1:decide ((48:Int)≤((c.toNat:Nat):Int))=decide (48≤c.toNat):=decide_eq_decide.2 (by omega)
 have h2:decide (((c.toNat:Nat):Int)≤(57:Int))=decide (c.toNat≤57):=decide_eq_decide.2 (by omega)
 rw [h1,h2]
 cases decide (48≤c.toNat)<;>cases decide (c.toNat≤57)<;>rfl
theorem jjq (n:Nat) (c:UInt8):qhp n ((c.toNat:Nat):Int)=some (qhu c):=by
 unfold qhp qhu
 have h1:decide ((97:Int)≤((c.toNat:Nat):Int))=decide (97≤c.toNat):=decide_eq_decide.2 (by omega)
 have h2:decide (((c.toNat:Nat):Int)≤(122:Int))=decide (c.toNat≤122):=decide_eq_decide.2 (by omega)
 have h3:decide ((65:Int)≤((c.toNat:Nat):Int))=decide (65≤c.toNat):=decide_eq_decide.2 (by omega)
 have h4:decide (((c.toNat:Nat):Int)≤(90:Int))=decide (c.toNat≤90):=decide_eq_decide.2 (by omega)
 have h5:decide (((c.toNat:Nat):Int)=(45:Int))=decide (c.toNat=45):=decide_eq_decide.2 (by omega)
 rw [h1,h2,h3,h4,h5,j37]
 cases decide (97≤c.toNat)<;>cases decide (c.toNat≤122)<;>cases decide (65≤c.toNat)<;>cases decide (c.toNat≤90)<;>cases q0t c<;>rfl
theorem qkt (n:Nat) (s:Yy) (hL:s.length≤1000000) : ∀ m j:Nat,j≤s.length→s.length - j<m→q6c n m s ((s.length:Nat):Int) (j:Int)=some (if (s.drop j).all qhu=true then Sum.inr ((s,()),((),())) else Sum.inl ((false,()),((),())))
 | 0,j,_,h=>absurd h (Nat.not_lt_zero _)
 | m+1,j,hj,h=>by
  rw [qef]
  unfold qk9
  by_cases c0:j<s.length
  ·have c0':((j:Nat):Int)<((s.length:Nat):Int):=by omega
   have ih:=qkt n s hL m (j+1) (by omega) (by omega)
   have hd:s.drop j=s[j]::s.drop (j+1):=(List.drop_eq_getElem_cons c0)
   simp only [c0',decide_true,cond_true,q1h c0,Option.bind_some,jjq,q00,q05 (show j<4611686018427387904 by omega),ih,hd,List.all_cons]
   cases qhu s[j]<;>simp
  ·have c0' : ¬ ((j:Nat):Int)<((s.length:Nat):Int):=by omega
   have:s.drop j = []:=List.drop_eq_nil_of_le (by omega)
   simp [c0',this]
theorem j02 (n:Nat) (s:Yy) (hL:s.length≤1000000) (hn:s.length<n):qha n s ()=some (s.all qhu && !decide (s = [])):=by
 unfold qha
 have:=qkt n s hL n 0 (Nat.zero_le _) (by omega)
 rw [show ((0:Nat):Int)=(0:Int) from rfl] at this
 rw [this,List.drop_zero]
 cases s.all qhu<;>rfl
theorem ql4 (n:Nat) (s:Yy) (hL:s.length≤1000000) : ∀ m j:Nat,j≤s.length→s.length - j<m→q5x n m s ((s.length:Nat):Int) (j:Int)=some (if (s.drop j).all q0t=true then Sum.inr ((s,()),((),())) else Sum.inl ((false,()),((),())))
 | 0,j,_,h=>absurd h (Nat.not_lt_zero _)
 | m+1,j,hj,h=>by
  rw [qeq]
  unfold qjl
  by_cases c0:j<s.length
  ·have c0':((j:Nat):Int)<((s.length:Nat):Int):=by omega
   have ih:=ql4 n s hL m (j+1) (by omega) (by omega)
   have hd:s.drop j=s[j]::s.drop (j+1):=(List.drop_eq_getElem_cons c0)
   simp only [c0',decide_true,cond_true,q1h c0,Option.bind_some,j37,q00,q05 (show j<4611686018427387904 by omega),ih,hd,List.all_cons]
   cases q0t s[j]<;>simp
  ·have c0' : ¬ ((j:Nat):Int)<((s.length:Nat):Int):=by omega
   have:s.drop j = []:=List.drop_eq_nil_of_le (by omega)
   simp [c0',this]
theorem qzp (n:Nat) (s:Yy) (hL:s.length≤1000000) (hn:s.length<n):qho n s ()=some (s.all q0t && !decide (s = [])):=by
 unfold qho
 have:=ql4 n s hL n 0 (Nat.zero_le _) (by omega)
 rw [show ((0:Nat):Int)=(0:Int) from rfl] at this
 rw [this,List.drop_zero]
 cases s.all q0t<;>rfl
theorem qkl (n:Nat) (s:Yy) (hL:s.length≤1000000) (hn:s.length<n):qhe n s=some (q26 s):=by
 unfold qhe;rw [j02 n s hL hn];rfl
theorem q88 (n:Nat) (s:Yy) (hL:s.length≤1000000) (hn:s.length<n):q5f n s=some (q29 s):=by
 unfold q5f;rw [qzp n s hL hn];rfl
theorem j4r (n:Nat) (s:Yy) (hL:s.length≤1000000) (hn:s.length<n):qbl n s=some (q43 s):=by
 unfold qbl q43
 rw [qkl n s hL hn,q88 n s hL hn]
 simp only [Option.bind_some]
 cases hp:q26 s with
 | false=>rfl
 | true =>
  cases s with
  | nil=>simp [q26] at hp
  | cons c r =>
   have h0:sAt (c::r) (0:Int)=some ((c.toNat:Nat):Int):=q1h (s:=c::r) (j:=0) (by simp)
   have h1:decide (((c.toNat:Nat):Int)=(48:Int))=decide ((c::r).head? = some 48):=decide_eq_decide.2 (by
    simp only [List.head?_cons,Option.some.injEq]
    constructor
    ·intro h;exact UInt8.toNat_inj.1 (by have e48:(48:UInt8).toNat=48:=rfl;rw [e48];omega)
    ·rintro rfl;rfl)
   simp only [cond_true,h0,Option.bind_some,h1,Bool.true_and]
   cases decide (c::r = [48])<;>cases decide ((c::r).head? = some 48)<;>cases q29 (c::r)<;>rfl
end Go.Proofs.YtapfankgdkdkgaaGreatDoor.AM
namespace Go.Proofs
open Go.RowKit Go.Shelf Go.Lib
attribute [local go_sem] Oper.semAt_some
namespace YtapfankgdkdkgaaGreatDoor.AM
theorem q2s {P:Program} {fn:Func} {p:Tmp} {ty:TypeId} {b:Nat} {v:Value} {tmps:Array Value} {w:World} (h:fn.results = #[.cell p ty]) (hp:tmps.getD p undef = .pointer (some ⟨b,0,none⟩)) (ha:qol P ty=some false)
  (hc:w.cell? ⟨b,0,none⟩=some v):(results fn tmps).run P w = .ok v w:=by
 have hp':tmps[p]?.getD undef = .pointer (some ⟨b,0,none⟩):=by simpa using hp
 simp only [results,h]
 simp [Sem.run_bind,hp',asAddr,loadVar,q1i ha w,go_sem,hc]
theorem q2u {W W':World} {a:Addr} {v:Value} (hb:Below W.heap.size W W') (h:W.cell? a=some v):W'.cell? a=some v:=by
 obtain ⟨o,ho,hc⟩:=cells_of_cell h
 exact (World.cell?_of_block ((hb.block _ (Array.getElem?_eq_some_iff.1 ho).1).trans ho |>.trans ho.symm)).trans h
theorem q3f {W W':World} {a:Addr} {v:Value} (hb:Below W.heap.size W W') (h:W.cell? a=some v):W'.frozen? a=W.frozen? a:=by
 obtain ⟨o,ho,hc⟩:=cells_of_cell h
 exact World.frozen?_of_block ((hb.block _ (Array.getElem?_eq_some_iff.1 ho).1).trans ho |>.trans ho.symm)
theorem q2m {W W':World} (hb:Below W.heap.size W W'):KeepsOthers W W':=⟨hb.size,fun k o h _=>(hb.block k (Array.getElem?_eq_some_iff.1 h).1).trans h⟩
theorem qal {pS:Nat} {r:List UInt8} {W W':World} (h:Left pS r W) (hb:Below W.heap.size W W'):Left pS r W':=⟨q2u hb h.1,(q3f hb h.1).trans h.2⟩
theorem q0j {w:World} {b:Nat} {v:Value} {t:TypeId} (h:w.heap[b]? = some (.cells #[v] t (0,0))):w.cell? ⟨b,0,none⟩=some v∧w.frozen? ⟨b,0,none⟩=false:=by
 constructor
 ·simp [World.cell?,h]
 ·simp [World.frozen?,h]
theorem five (w:World) (o0 o1 o2 o3 o4:Obj) : ∃ W,(((((w.alloc o0).alloc o1).alloc o2).alloc o3).alloc o4)=W∧W.heap.size=w.heap.size+5∧Below w.heap.size w W∧W.heap[w.heap.size]? = some o0∧W.heap[w.heap.size+1]? = some o1∧W.heap[w.heap.size+1+1]? = some o2∧W.heap[w.heap.size+1+1+1]? = some o3∧W.heap[w.heap.size+1+1+2]? = some o4:=by
 have al : ∀ (w:World) (o:Obj) (k:Nat),k<w.heap.size→(w.alloc o).heap[k]? = w.heap[k]?:=fun w o k h=>Below.heap_alloc _ _ _ h
 refine ⟨_,rfl,by simp,(((((Below.refl _ w).alloc (Nat.le_refl _) _).alloc (by simp) _).alloc (by simp;omega) _).alloc (by simp;omega) _).alloc (by simp;omega) _,?_,?_,?_,?_,?_⟩
 ·rw [al _ _ _ (by simp<;>omega),al _ _ _ (by simp<;>omega),al _ _ _ (by simp<;>omega),al _ _ _ (by simp),World.alloc_heap_new]
 ·rw [al _ _ _ (by simp<;>omega),al _ _ _ (by simp<;>omega),al _ _ _ (by simp)]
  have:=World.alloc_heap_new (w.alloc o0) o1
  rw [World.size_alloc] at this;exact this
 ·rw [al _ _ _ (by simp<;>omega),al _ _ _ (by simp)]
  have:=World.alloc_heap_new ((w.alloc o0).alloc o1) o2
  rw [World.size_alloc,World.size_alloc] at this;exact this
 ·rw [al _ _ _ (by simp)]
  have:=World.alloc_heap_new (((w.alloc o0).alloc o1).alloc o2) o3
  rw [World.size_alloc,World.size_alloc,World.size_alloc] at this;exact this
 ·have:=World.alloc_heap_new ((((w.alloc o0).alloc o1).alloc o2).alloc o3) o4
  rw [World.size_alloc,World.size_alloc,World.size_alloc,World.size_alloc] at this;exact this
theorem hag:qol Tryz.prog 4=some false:=by kernel_rfl
structure Rng (fv:Value) (pF pR:Nat) (pP pC:Nat) (c:UInt8) (w0:World) (pred:List UInt8→Bool) (pre:List (List UInt8)) (W:World):Prop where
 fn:W.cell? ⟨pF,0,none⟩=some fv
 res:W.cell? ⟨pR,0,none⟩=some (.bool false)
 frz:W.frozen? ⟨pR,0,none⟩=false
 cP:W.cell? ⟨pP,0,none⟩=some (.string (ba [c]))
 cC:W.cell? ⟨pC,0,none⟩=some (.int .i64 0)
 below:Below w0.heap.size w0 W
 all:pre.all pred=true
structure RngX (pR:Nat) (w0:World) (pred:List UInt8→Bool) (pre:List (List UInt8)) (W:World):Prop where
 res:W.cell? ⟨pR,0,none⟩=some (.bool false)
 below:Below w0.heap.size w0 W
 no:pre.all pred=false
theorem qrp {fv:Value} {pF pR pP pC:Nat} {c:UInt8} {w0:World} {pred:List UInt8→Bool} {B:Nat} (hB:w0.heap.size≤B):OwnFrom B (Rng fv pF pR pP pC c w0 pred):=fun s W W' row h hg hr =>
 ⟨q7u h.fn hg hr,q7u h.res hg hr,(frozen_kept h.res hg (fun r e=>(hr r e).2)).trans h.frz,q7u h.cP hg hr,q7u h.cC hg hr,h.below.grown hg h.below.size (fun k e=>Nat.le_trans hB (hr k e).1),h.all⟩
theorem qpu {pR:Nat} {w0:World} {pred:List UInt8→Bool} {B:Nat} (hB:w0.heap.size≤B):OwnFrom B (RngX pR w0 pred):=fun s W W' row h hg hr =>
 ⟨q7u h.res hg hr,h.below.grown hg h.below.size (fun k e=>Nat.le_trans hB (hr k e).1),h.no⟩
theorem qcf {fv:Value} {pF pR pP pC:Nat} {c:UInt8} {w0:World} {pred:List UInt8→Bool} {pre:List (List UInt8)} {x:List UInt8} {W W':World} (h:Rng fv pF pR pP pC c w0 pred pre W) (hb:Below W.heap.size W W') (hx:pred x=true):Rng fv pF pR pP pC c w0 pred (pre ++ [x]) W' :=
 ⟨q2u hb h.fn,q2u hb h.res,(q3f hb h.res).trans h.frz,q2u hb h.cP,q2u hb h.cC,h.below.trans (hb.mono h.below.size),by rw [List.all_append,h.all];simp [hx]⟩
theorem qp6 {fv:Value} {pF pR pP pC:Nat} {c:UInt8} {w0:World} {pred:List UInt8→Bool} {pre:List (List UInt8)} {W:World} {q:Nat} (v:Value) (h:Rng fv pF pR pP pC c w0 pred pre W) (h0:w0.heap.size≤q) (h1:q≠pF) (h2:q≠pR) (h3:q≠pP) (h4:q≠pC):Rng fv pF pR pP pC c w0 pred pre (W.setCell ⟨q,0,none⟩ v):=by
 have ne : ∀ p:Nat,q≠p→(W.setCell ⟨q,0,none⟩ v).cell? ⟨p,0,none⟩=W.cell? ⟨p,0,none⟩:=fun p hp=>World.cell?_setCell_other _ _ _ _ (by intro e;exact hp (by injection e with e))
 exact ⟨(ne _ h1).trans h.fn,(ne _ h2).trans h.res,by rw [World.frozen?_setCell];exact h.frz,(ne _ h3).trans h.cP,(ne _ h4).trans h.cC,h.below.setCell (by simpa using h0) _,h.all⟩
theorem four (w:World) (o0 o1 o2 o3:Obj) : ∃ W,((((w.alloc o0).alloc o1).alloc o2).alloc o3)=W∧W.heap.size=w.heap.size+4∧Below w.heap.size w W∧W.heap[w.heap.size]? = some o0∧W.heap[w.heap.size+1]? = some o1∧W.heap[w.heap.size+1+1]? = some o2∧W.heap[w.heap.size+1+2]? = some o3:=by
 have al : ∀ (w:World) (o:Obj) (k:Nat),k<w.heap.size→(w.alloc o).heap[k]? = w.heap[k]?:=fun w o k h=>Below.heap_alloc _ _ _ h
 refine ⟨_,rfl,by simp,((((Below.refl _ w).alloc (Nat.le_refl _) _).alloc (by simp) _).alloc (by simp;omega) _).alloc (by simp;omega) _,?_,?_,?_,?_⟩
 ·rw [al _ _ _ (by simp<;>omega),al _ _ _ (by simp<;>omega),al _ _ _ (by simp),World.alloc_heap_new]
 ·rw [al _ _ _ (by simp<;>omega),al _ _ _ (by simp)]
  have:=World.alloc_heap_new (w.alloc o0) o1
  rw [World.size_alloc] at this;exact this
 ·rw [al _ _ _ (by simp)]
  have:=World.alloc_heap_new ((w.alloc o0).alloc o1) o2
  rw [World.size_alloc,World.size_alloc] at this;exact this
 ·have:=World.alloc_heap_new (((w.alloc o0).alloc o1).alloc o2) o3
  rw [World.size_alloc,World.size_alloc,World.size_alloc] at this;exact this
structure RngY (pR:Nat) (w0:World) (pred:List UInt8→Bool) (pre:List (List UInt8)) (W:World):Prop where
 res:W.cell? ⟨pR,0,none⟩=some (.bool true)
 below:Below w0.heap.size w0 W
 no:pre.all pred=false
theorem jhh {pR:Nat} {w0:World} {pred:List UInt8→Bool} {B:Nat} (hB:w0.heap.size≤B):OwnFrom B (RngY pR w0 pred):=fun s W W' row h hg hr =>
 ⟨q7u h.res hg hr,h.below.grown hg h.below.size (fun k e=>Nat.le_trans hB (hr k e).1),h.no⟩
theorem j1l {pred:List UInt8→Bool} {s x:List UInt8} {pre t:List (List UInt8)} (hsp:spl 47 [] s=pre++x::t) (hn:(pre ++ [x]).all pred=false):(spl 47 [] s).all pred=false:=by
 rw [List.all_append,Bool.and_eq_false_iff] at hn
 rw [hsp,List.all_append,Bool.and_eq_false_iff]
 rcases hn with hn|hn
 ·exact Or.inl hn
 ·refine Or.inr ?_
  simp only [List.all_cons,List.all_nil,Bool.and_true] at hn
  rw [List.all_cons,hn];rfl
end YtapfankgdkdkgaaGreatDoor.AM
end Go.Proofs
namespace Go.Proofs
open Go.RowKit Go.Shelf Go.Lib
attribute [local go_sem] Oper.semAt_some
namespace YtapfankgdkdkgaaGreatDoor.AM
set_option maxHeartbeats 2000000 in
theorem qmf (pred:List UInt8→Bool) (hp : ∀ (x:List UInt8) (w:World),Inv w→x.length≤30→Calls Tryz.prog 107 #[.string (ba x)] w fun e w'=>e = .returned (.bool (pred x))∧Below w.heap.size w w')
  (s:List UInt8) (w:World) (hI:Inv w) :
  Calls Tryz.prog 105 #[.string (ba s),.func (.func 107) #[] #[]] w fun e w'=>e = .returned (.bool (q57 pred s))∧Below w.heap.size w w':=by
 refine (callsIn_wide (n:=9)).1 ?_
 refine callsIn_of_wp_marks Tryz.func105 rfl trivial ?_ rfl
 simp only [Tryz.ntmps105,List.size_toArray,List.length_cons,List.length_nil,Nat.reduceAdd,Nat.reduceSub,Array.replicate_succ,Array.replicate_zero,List.push_toArray,List.append_toArray,List.nil_append,List.cons_append]
 have hsz:(ba s).size=s.length:=q30 s
 by_cases h1:s = []
 ·subst h1
  have he:(ba []).toList.isEmpty=true:=by rw [q74];rfl
  gi_wp2
  refine ⟨_,q2s (b:=w.heap.size+1) (v:=.bool true) rfl rfl hag (by simp),rfl,?_⟩
  exact ((Below.refl _ w).alloc (Nat.le_refl _) _).alloc (by simp) _
 have he:(ba s).toList.isEmpty=false:=by rw [q74];simpa using h1
 by_cases h2:s.length≤30
 ·gi_wp2_with (refine ⟨trivial,?_⟩;gi_at_call 136;refine (callsIn_wide.2 (q49 _ _ _)).mono ?_;rintro e w' ⟨rfl,rfl⟩)
  obtain ⟨W0,hW0,hs0,hb0,g0,g1,g2,g3,g4⟩:=five w (Obj.cells #[Value.func (Fn.func 107) #[] #[]] 140) (Obj.cells #[Value.bool false] 4) (Obj.cells #[Value.string (ba s)] 9) (Obj.cells #[Value.string { data:=#[46] }] 9) (Obj.cells #[Value.int IntKind.i64 0] 3)
  rw [hW0]
  clear hW0
  obtain ⟨c0,f0⟩:=q0j g0
  obtain ⟨c1,f1⟩:=q0j g1
  obtain ⟨c2,f2⟩:=q0j g2
  obtain ⟨c3,f3⟩:=q0j g3
  obtain ⟨c4,f4⟩:=q0j g4
  refine range_split (n:=9) (by omega) 46 (w.heap.size+1+1) (w.heap.size+1+1+1) (w.heap.size+1+1+2) s (by omega) rfl ⟨c2,f2⟩
   (Rng (.func (.func 107) #[] #[]) w.heap.size (w.heap.size+1) (w.heap.size+1+1+1) (w.heap.size+1+1+2) 46 w pred) (RngX (w.heap.size+1) w pred) (qrp (by omega)) (qpu (by omega))
   (fun pre W h=>⟨h.cP,h.cC,(hI.below h.below).maxLen⟩) (fun pre W v h=>qp6 v h (by omega) (by omega) (by omega) (by omega) (by omega)) ⟨c0,c1,f1,c3,c4,hb0,rfl⟩
   (fun x=>{ tmps:=#[.string (ba s),.func (.func 107) #[] #[],undef,.pointer (some ⟨w.heap.size,0,none⟩),.pointer (some ⟨w.heap.size+1,0,none⟩),.string (ba x),.string (ba s),.bool false,.string (ba s),.int .i64 s.length,.bool (decide ((30:Int)<s.length)),.string (ba s),
    .func (.func 200) #[] #[.pointer (some ⟨w.heap.size+1+1+1,0,none⟩),.pointer (some ⟨w.heap.size+1+1,0,none⟩),.pointer (some ⟨w.heap.size+1+1+2,0,none⟩)],.string (ba x),undef,undef,undef,undef],defers:=[] }) ?assign ?body ?done ?stop
  case assign =>
   intro l x W K hK
   gi_wp2
   exact hK
  case body =>
   intro l pre x r W hi hL hx
   have k0:=hi.fn
   have k1:=hi.res
   have k2:=hi.frz
   have hc:=hp x W (hI.below hi.below) (by omega)
   cases hpx:pred x with
   | true =>
    rw [hpx] at hc
    gi_wp2_with (refine ⟨trivial,?_⟩;gi_at_call 107;refine (CallsIn.inRound l (callsIn_wide.2 hc)).mono ?_;rintro e w' ⟨rfl,hb'⟩)
    exact ⟨q2m hb',qcf hi hb' hpx,qal hL hb'⟩
   | false =>
    rw [hpx] at hc
    gi_wp2_with (refine ⟨trivial,?_⟩;gi_at_call 107;refine (CallsIn.inRound l (callsIn_wide.2 hc)).mono ?_;rintro e w' ⟨rfl,hb'⟩;have k3:=q2u hb' hi.res;have k4:=(q3f hb' hi.res).trans hi.frz)
    exact ⟨(q2m hb').trans (KeepsOthers.setCell _ _ _),World.cell?_setCell_same' _ _ _ (by rw [k3];rfl),(hi.below.trans (hb'.mono hi.below.size)).setCell (by simp) _,by simp [hpx]⟩
  case done =>
   intro D W hD hi hK
   have k1:=hi.res
   have k2:=hi.frz
   gi_wp2
   have hK':=(KeepsOthers.setCell W ⟨w.heap.size+1,0,none⟩ (.bool true)).same D _ hK rfl
   have hW':Below w.heap.size w (W.setCell ⟨w.heap.size+1,0,none⟩ (.bool true)):=hi.below.setCell (by simp) _
   have k5:(W.setCell ⟨w.heap.size+1,0,none⟩ (.bool true)).cell? ⟨w.heap.size+1,0,none⟩=some (.bool true):=World.cell?_setCell_same' _ _ _ (by rw [k1];rfl)
   generalize W.setCell ⟨w.heap.size+1,0,none⟩ (.bool true)=W2 at hK' hW' k5
   refine ⟨by simp,.inl ⟨_,_,rfl,run_takeDeferred hK',?_⟩⟩
   have hg:=grownBy_putObj' W2 D (.deferred none)
   refine ⟨_,q2s (b:=w.heap.size+1) (v:=.bool true) rfl rfl hag (cell_kept k5 hg (fun r e=>by cases e;exact ⟨_,hK',rfl⟩)),?_,?_⟩
   ·unfold q57;simp [h1,h2,hi.all]
   ·exact hW'.grown hg hW'.size (fun k e=>by cases e;omega)
  case stop =>
   intro D pre x t W hD hsp hi hK
   refine ⟨by simp,.inl ⟨_,_,rfl,run_takeDeferred hK,?_⟩⟩
   have hg:=grownBy_putObj' W D (.deferred none)
   refine ⟨_,q2s (b:=w.heap.size+1) (v:=.bool false) rfl rfl hag (cell_kept hi.res hg (fun r e=>by cases e;exact ⟨_,hK,rfl⟩)),?_,?_⟩
   ·have hn:=hi.no
    rw [List.all_append,Bool.and_eq_false_iff] at hn
    have ha:(spl 46 [] s).all pred=false:=by
     rw [hsp,List.all_append,Bool.and_eq_false_iff]
     rcases hn with hn|hn
     ·exact Or.inl hn
     ·refine Or.inr ?_
      simp only [List.all_cons,List.all_nil,Bool.and_true] at hn
      rw [List.all_cons,hn];rfl
    unfold q57;simp [h1,ha]
   ·exact hi.below.grown hg hi.below.size (fun k e=>by cases e;omega)
 ·gi_wp2
  refine ⟨_,q2s (b:=w.heap.size+1) (v:=.bool false) rfl rfl hag (by simp),?_,?_⟩
  ·unfold q57;simp [h1,h2]
  ·exact ((Below.refl _ w).alloc (Nat.le_refl _) _).alloc (by simp) _
set_option maxHeartbeats 2000000 in
theorem qr1 (pred:List UInt8→Bool) (hp : ∀ (x:List UInt8) (w:World),Inv w→x.length≤30→Calls Tryz.prog 106 #[.string (ba x)] w fun e w'=>e = .returned (.bool (pred x))∧Below w.heap.size w w')
  (s:List UInt8) (w:World) (hI:Inv w) :
  Calls Tryz.prog 105 #[.string (ba s),.func (.func 106) #[] #[]] w fun e w'=>e = .returned (.bool (q57 pred s))∧Below w.heap.size w w':=by
 refine (callsIn_wide (n:=9)).1 ?_
 refine callsIn_of_wp_marks Tryz.func105 rfl trivial ?_ rfl
 simp only [Tryz.ntmps105,List.size_toArray,List.length_cons,List.length_nil,Nat.reduceAdd,Nat.reduceSub,Array.replicate_succ,Array.replicate_zero,List.push_toArray,List.append_toArray,List.nil_append,List.cons_append]
 have hsz:(ba s).size=s.length:=q30 s
 by_cases h1:s = []
 ·subst h1
  have he:(ba []).toList.isEmpty=true:=by rw [q74];rfl
  gi_wp2
  refine ⟨_,q2s (b:=w.heap.size+1) (v:=.bool true) rfl rfl hag (by simp),rfl,?_⟩
  exact ((Below.refl _ w).alloc (Nat.le_refl _) _).alloc (by simp) _
 have he:(ba s).toList.isEmpty=false:=by rw [q74];simpa using h1
 by_cases h2:s.length≤30
 ·gi_wp2_with (refine ⟨trivial,?_⟩;gi_at_call 136;refine (callsIn_wide.2 (q49 _ _ _)).mono ?_;rintro e w' ⟨rfl,rfl⟩)
  obtain ⟨W0,hW0,hs0,hb0,g0,g1,g2,g3,g4⟩:=five w (Obj.cells #[Value.func (Fn.func 106) #[] #[]] 140) (Obj.cells #[Value.bool false] 4) (Obj.cells #[Value.string (ba s)] 9) (Obj.cells #[Value.string { data:=#[46] }] 9) (Obj.cells #[Value.int IntKind.i64 0] 3)
  rw [hW0]
  clear hW0
  obtain ⟨c0,f0⟩:=q0j g0
  obtain ⟨c1,f1⟩:=q0j g1
  obtain ⟨c2,f2⟩:=q0j g2
  obtain ⟨c3,f3⟩:=q0j g3
  obtain ⟨c4,f4⟩:=q0j g4
  refine range_split (n:=9) (by omega) 46 (w.heap.size+1+1) (w.heap.size+1+1+1) (w.heap.size+1+1+2) s (by omega) rfl ⟨c2,f2⟩
   (Rng (.func (.func 106) #[] #[]) w.heap.size (w.heap.size+1) (w.heap.size+1+1+1) (w.heap.size+1+1+2) 46 w pred) (RngX (w.heap.size+1) w pred) (qrp (by omega)) (qpu (by omega))
   (fun pre W h=>⟨h.cP,h.cC,(hI.below h.below).maxLen⟩) (fun pre W v h=>qp6 v h (by omega) (by omega) (by omega) (by omega) (by omega)) ⟨c0,c1,f1,c3,c4,hb0,rfl⟩
   (fun x=>{ tmps:=#[.string (ba s),.func (.func 106) #[] #[],undef,.pointer (some ⟨w.heap.size,0,none⟩),.pointer (some ⟨w.heap.size+1,0,none⟩),.string (ba x),.string (ba s),.bool false,.string (ba s),.int .i64 s.length,.bool (decide ((30:Int)<s.length)),.string (ba s),
    .func (.func 200) #[] #[.pointer (some ⟨w.heap.size+1+1+1,0,none⟩),.pointer (some ⟨w.heap.size+1+1,0,none⟩),.pointer (some ⟨w.heap.size+1+1+2,0,none⟩)],.string (ba x),undef,undef,undef,undef],defers:=[] }) ?assign ?body ?done ?stop
  case assign =>
   intro l x W K hK
   gi_wp2
   exact hK
  case body =>
   intro l pre x r W hi hL hx
   have k0:=hi.fn
   have k1:=hi.res
   have k2:=hi.frz
   have hc:=hp x W (hI.below hi.below) (by omega)
   cases hpx:pred x with
   | true =>
    rw [hpx] at hc
    gi_wp2_with (refine ⟨trivial,?_⟩;gi_at_call 106;refine (CallsIn.inRound l (callsIn_wide.2 hc)).mono ?_;rintro e w' ⟨rfl,hb'⟩)
    exact ⟨q2m hb',qcf hi hb' hpx,qal hL hb'⟩
   | false =>
    rw [hpx] at hc
    gi_wp2_with (refine ⟨trivial,?_⟩;gi_at_call 106;refine (CallsIn.inRound l (callsIn_wide.2 hc)).mono ?_;rintro e w' ⟨rfl,hb'⟩;have k3:=q2u hb' hi.res;have k4:=(q3f hb' hi.res).trans hi.frz)
    exact ⟨(q2m hb').trans (KeepsOthers.setCell _ _ _),World.cell?_setCell_same' _ _ _ (by rw [k3];rfl),(hi.below.trans (hb'.mono hi.below.size)).setCell (by simp) _,by simp [hpx]⟩
  case done =>
   intro D W hD hi hK
   have k1:=hi.res
   have k2:=hi.frz
   gi_wp2
   have hK':=(KeepsOthers.setCell W ⟨w.heap.size+1,0,none⟩ (.bool true)).same D _ hK rfl
   have hW':Below w.heap.size w (W.setCell ⟨w.heap.size+1,0,none⟩ (.bool true)):=hi.below.setCell (by simp) _
   have k5:(W.setCell ⟨w.heap.size+1,0,none⟩ (.bool true)).cell? ⟨w.heap.size+1,0,none⟩=some (.bool true):=World.cell?_setCell_same' _ _ _ (by rw [k1];rfl)
   generalize W.setCell ⟨w.heap.size+1,0,none⟩ (.bool true)=W2 at hK' hW' k5
   refine ⟨by simp,.inl ⟨_,_,rfl,run_takeDeferred hK',?_⟩⟩
   have hg:=grownBy_putObj' W2 D (.deferred none)
   refine ⟨_,q2s (b:=w.heap.size+1) (v:=.bool true) rfl rfl hag (cell_kept k5 hg (fun r e=>by cases e;exact ⟨_,hK',rfl⟩)),?_,?_⟩
   ·unfold q57;simp [h1,h2,hi.all]
   ·exact hW'.grown hg hW'.size (fun k e=>by cases e;omega)
  case stop =>
   intro D pre x t W hD hsp hi hK
   refine ⟨by simp,.inl ⟨_,_,rfl,run_takeDeferred hK,?_⟩⟩
   have hg:=grownBy_putObj' W D (.deferred none)
   refine ⟨_,q2s (b:=w.heap.size+1) (v:=.bool false) rfl rfl hag (cell_kept hi.res hg (fun r e=>by cases e;exact ⟨_,hK,rfl⟩)),?_,?_⟩
   ·have hn:=hi.no
    rw [List.all_append,Bool.and_eq_false_iff] at hn
    have ha:(spl 46 [] s).all pred=false:=by
     rw [hsp,List.all_append,Bool.and_eq_false_iff]
     rcases hn with hn|hn
     ·exact Or.inl hn
     ·refine Or.inr ?_
      simp only [List.all_cons,List.all_nil,Bool.and_true] at hn
      rw [List.all_cons,hn];rfl
    unfold q57;simp [h1,ha]
   ·exact hi.below.grown hg hi.below.size (fun k e=>by cases e;omega)
 ·gi_wp2
  refine ⟨_,q2s (b:=w.heap.size+1) (v:=.bool false) rfl rfl hag (by simp),?_,?_⟩
  ·unfold q57;simp [h1,h2]
  ·exact ((Below.refl _ w).alloc (Nat.le_refl _) _).alloc (by simp) _
theorem qvi (x:List UInt8) (w:World) (hI:Inv w) (hx:x.length≤30):Calls Tryz.prog 107 #[.string (ba x)] w fun e w'=>e = .returned (.bool (q26 x))∧Below w.heap.size w w':=by
 have h:=(qtp 100 Inv q8m).1.2 x (q26 x) (qkl 100 x (by omega) (by omega))
 refine (h (fun _ _=>False) w #[.string (ba x)] hI (fun b o h=>h.elim) ⟨q07 _,trivial⟩).mono ?_
 rintro e w' ⟨v,Pc,rfl,hb,_,_,hv⟩
 have hv':v = .bool (q26 x):=q0a hv
 rw [hv']
 exact ⟨rfl,hb⟩
def qer (s:List UInt8) (u:Unit):Option Bool:=some (q57 q26 s)
def qyh:FC:={ f:=105,args:=[qn1,.one (.c (.fn 107 []))],res:=jfr,F:=fun p=>qer p.1 p.2 }
theorem qzb:q06 Inv Tryz.prog qyh:=fun G hG=>⟨⟨by kernel_rfl,fun a r h=>by
 obtain ⟨s,u⟩:=a
 have hr:q57 q26 s=r:=Option.some.inj h
 intro Pc w vs hg hlt hv
 obtain ⟨l⟩:=vs
 match l,hv with
 | [x,y],⟨h1,h2,_⟩ =>
  obtain rfl:x = .string (ba s):=q0a h1
  obtain rfl:y = .func (.func 107) #[] #[]:=q0a h2
  refine (qmf q26 qvi s w (hG.im w hg)).mono ?_
  rintro e w' ⟨rfl,hb⟩
  subst hr
  exact q47 rfl hb (q07 _)⟩,rfl⟩
theorem qwz (x:List UInt8) (w:World) (hI:Inv w) (hx:x.length≤30):Calls Tryz.prog 106 #[.string (ba x)] w fun e w'=>e = .returned (.bool (q43 x))∧Below w.heap.size w w':=by
 have h:=(qtj 100 Inv q8m).1.2 x (q43 x) (j4r 100 x (by omega) (by omega))
 refine (h (fun _ _=>False) w #[.string (ba x)] hI (fun b o h=>h.elim) ⟨q07 _,trivial⟩).mono ?_
 rintro e w' ⟨v,Pc,rfl,hb,_,_,hv⟩
 have hv':v = .bool (q43 x):=q0a hv
 rw [hv']
 exact ⟨rfl,hb⟩
def qj4 (s:List UInt8) (u:Unit):Option Bool:=some (q57 q43 s)
def j5e:FC:={ f:=105,args:=[qn1,.one (.c (.fn 106 []))],res:=jfr,F:=fun p=>qj4 p.1 p.2 }
theorem j5l:q06 Inv Tryz.prog j5e:=fun G hG=>⟨⟨by kernel_rfl,fun a r h=>by
 obtain ⟨s,u⟩:=a
 have hr:q57 q43 s=r:=Option.some.inj h
 intro Pc w vs hg hlt hv
 obtain ⟨l⟩:=vs
 match l,hv with
 | [x,y],⟨h1,h2,_⟩ =>
  obtain rfl:x = .string (ba s):=q0a h1
  obtain rfl:y = .func (.func 106) #[] #[]:=q0a h2
  refine (qr1 q43 qwz s w (hG.im w hg)).mono ?_
  rintro e w' ⟨rfl,hb⟩
  subst hr
  exact q47 rfl hb (q07 _)⟩,rfl⟩
end YtapfankgdkdkgaaGreatDoor.AM
end Go.Proofs
