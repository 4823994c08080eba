
import Derived.Test.YthpgnliicpejoaaGreatDoorVt29
import Derived.Test.YthpgnliicpejoaaGreatDoorVt23
namespace Go.Proofs.YthpgnliicpejoaaGreatDoor.AM
open Go.RowKit
set_option linter.unusedVariables false
set_option linter.unusedSimpArgs false
theorem qsu (ops:List OD):(q6q ops).1.length<=4096:=by
 unfold q6q
 split
 ·split
  ·simp
  ·simp only;omega
 ·simp
theorem jht : ∀(m:Nat) (a b:List FD),(q1n m a b).length<=m:=by
 intro m
 induction m with
 | zero=>intro a b;simp [q1n]
 | succ m ih =>
  intro a b
  cases a with
  | nil=>cases b with
   | nil=>simp [q1n]
   | cons y b=>rw [q1n];simp only [List.length_cons];have:=ih [] b;omega
  | cons x a=>cases b with
   | nil=>rw [q1n];simp only [List.length_cons];have:=ih a [];omega
   | cons y b =>
    rw [q1n]
    have i1:=ih a (y::b);have i2:=ih (x::a) b;have i3:=ih a b
    split
    ·simp only [List.length_cons];omega
    ·split
     ·simp only [List.length_cons];omega
     ·split
      ·omega
      ·simp only [List.length_cons];omega
theorem jfi (a b:List FD):(q7b a b).length<=a.length+b.length:=by
 unfold q7b;split
 ·exact jht _ a b
 ·simp
end Go.Proofs.YthpgnliicpejoaaGreatDoor.AM
namespace Go.Proofs
open Go.RowKit
set_option linter.unusedVariables false
set_option linter.unusedSimpArgs false
namespace YthpgnliicpejoaaGreatDoor.AM
def j7q:List FD->List (List UInt8)->Option (List FD)
 | l,[]=>some l
 | l,x::xs=>if (q8t x).2=0/\(q5c l (q8t x).1).2=0 then j7q (q5c l (q8t x).1).1 xs else none
theorem qdu {l k:List FD} {ops:List OD} (h:q5c l ops=(k,0)):q7s k=true:=by
 unfold q5c at h
 cases hm:q7s l with
 | false=>rw [hm] at h;simp at h
 | true =>
  rw [hm] at h
  have h':qim l ops=(k,0):=h
  have:=jax ops hm (by rw [h'])
  rw [h'] at this;exact this
theorem qjj : ∀(xs:List (List UInt8)) {l k:List FD},q7s l=true->j7q l xs=some k->q7s k=true
 | [],l,k,h,hr=>by
  simp only [j7q,Option.some.injEq] at hr
  rw [<-hr];exact h
 | x::xs,l,k,h,hr=>by
  unfold j7q at hr
  split at hr
  case isFalse=>cases hr
  rename_i hc
  exact qjj xs (qdu (ops:=(q8t x).1) (l:=l) (k:=(q5c l (q8t x).1).1) (by rw [<-hc.2])) hr
theorem qbz:q7s []=true:=by decide
theorem j4q : ∀(m:Nat) (k:List FD),k.length<=m->q1n m [] k=k.map fun f=>(false,f)
 | 0,[],_=>rfl
 | 0,_::_,h=>by simp at h
 | m+1,[],_=>rfl
 | m+1,y::b,h=>by
  rw [q1n,j4q m b (by simpa using h)];rfl
theorem qd1 {k:List FD} (h:q7s k=true):k.length<=40:=((qbr k).1 h).1
def fA (n h:Nat):Nat:=match h with|0=>0|_+1=>n / 2
def zA (n h:Nat):Nat:=match h with|0=>n / 2|_+1=>n - n / 2
theorem qnm {n h:Nat} (hn:8<=n) (hh:h<=1):4<=zA n h/\fA n h+zA n h<=n/\n / 2<=zA n h/\zA n h<=n - n / 2:=by
 match h,hh with
 | 0,_=>show 4<=n / 2/\0+n / 2<=n/\n / 2<=n / 2/\n / 2<=n - n / 2;omega
 | 1,_=>show 4<=n - n / 2/\n / 2+(n - n / 2)<=n/\n / 2<=n - n / 2/\n - n / 2<=n - n / 2;omega
def gA (B:BL) (n h:Nat):Int:=qk4 B (fA n h)
def lA (B:BL) (n h:Nat):BL×Nat:=j8k B (fA n h) (zA n h)
structure VI (B:BL) (n h:Nat) (fs:List FD):Prop where
 may:DM.q2y ⟨B,[]⟩
 len:B.length=n
 n8:8<=n
 h1:h<=1
 beg:qut B (fA n h)
 cl:jhf B (lA B n h).2 (fA n h+zA n h) (gA B n h) (lA B n h).1.length
 rep:j7q [] ((lA B n h).1.map unB)=some fs
 above : ∀j,fA n h<=j->j<fA n h+zA n h->∀g,gA B n h<g->¬ bad (gB B j) g 0
 other:qut B (fA n (1 - h))->gA B n (1 - h)<gA B n h
 oabove : ∀j,fA n (1 - h)+2<=j->j<fA n (1 - h)+zA n (1 - h)->∀g,gA B n h<g->¬ bad (gB B j) g 0
theorem VI.le {B:BL} {n h:Nat} {fs:List FD} (hI:VI B n h fs):n<=512:=by have:=hI.may.2.1;have:=hI.len;simp at *;omega
end YthpgnliicpejoaaGreatDoor.AM
end Go.Proofs
namespace Go.Proofs
open Go.RowKit
set_option linter.unusedVariables false
set_option linter.unusedSimpArgs false
namespace YthpgnliicpejoaaGreatDoor.AM
def begA (f:Nat) (g:Int):List DM.Ac:=[(false,(f:Int),RM.q3i 1 g 0 0 1),flA]
def j7w (n h:Nat) (g:Int) (q:ByteArray):List DM.Ac:=jah (fA n (1 - h)+1) q (txB (g+1) 0 q)++begA (fA n (1 - h)) (g+1)
theorem jez (n h:Nat) (g:Int) (q:ByteArray):(j7w n h g q).length=RM.q2l q+5:=by unfold j7w;rw [List.length_append,qff];rfl
end YthpgnliicpejoaaGreatDoor.AM
end Go.Proofs
