
import Derived.Test.YthpgnliicpejoaaGreatDoorVz22
import Derived.Test.YthpgnliicpejoaaGreatDoorVz18
import Derived.Test.YthpgnliicpejoaaGreatDoorVz15
import Derived.Test.YthpgnliicpejoaaGreatDoorVz21
namespace Go.Proofs.YthpgnliicpejoaaGreatDoor.AM
open Go.RowKit
set_option linter.unusedVariables false
set_option linter.unusedSimpArgs false
end Go.Proofs.YthpgnliicpejoaaGreatDoor.AM
namespace Go.Proofs.YthpgnliicpejoaaGreatDoor.AM
open Go.RowKit
set_option linter.unusedVariables false
set_option linter.unusedSimpArgs false
abbrev FD:=List UInt8×List UInt8
abbrev OD:=Bool×(List UInt8×List UInt8)
def okF (f:FD):Bool:=q4m f.1&&decide (f.2.length<=4096)
def qd7:List FD->Bool
 | x::y::t=>ltS x.1 y.1&&qd7 (y::t)
 | _=>true
def q8l (l:List FD):Bool:=decide (l.length<=40)&&(l.all okF&&qd7 l)
def qil:List FD->List UInt8->List UInt8×Bool
 | [],_=>([],false)
 | f::t,p=>if f.1=p then (f.2,true) else qil t p
def q8k (o:OD):Int:=if q4m o.2.1 then (if o.1 && !decide (o.2.2 = []) then 1 else if 4096<o.2.2.length then 2 else 0) else 6
def b8 (x:Int):UInt8:=UInt8.ofNat (IntKind.wrap .u8 x).toNat
def q5f (o:OD):List UInt8:=(if o.1 then 1 else 0)::b8 o.2.1.length::(o.2.1++(if o.1 then [] else b8 ((o.2.2.length / 256:Nat):Int)::b8 ((o.2.2.length % 256:Nat):Int)::o.2.2))
def q9d:List OD->List UInt8×Int
 | []=>([],0)
 | o::t=>if q8k o=0 then (if (q9d t).2=0 then (q5f o++(q9d t).1,0) else ([],(q9d t).2)) else ([],q8k o)
def q28 (ops:List OD):List UInt8×Int:=if (q9d ops).2=0 then (if 4096<(q9d ops).1.length then ([],2) else ((q9d ops).1,0)) else ([],(q9d ops).2)
def q1u:Nat->List FD->List FD->List OD
 | 0,_,_=>[]
 | _+1,[],[]=>[]
 | m+1,x::a,[]=>(true,(x.1,[]))::q1u m a []
 | m+1,[],y::b=>(false,y)::q1u m [] b
 | m+1,x::a,y::b=>if ltS x.1 y.1 then (true,(x.1,[]))::q1u m a (y::b) else if ltS y.1 x.1 then (false,y)::q1u m (x::a) b else if x.2=y.2 then q1u m a b else (false,y)::q1u m a b
def q3z (a b:List FD):List OD:=if q8l a&&q8l b then q1u (a.length+b.length) a b else []
theorem qyt : ∀(m:Nat) (a b:List FD),a.length+b.length<=m->q1u m a b=q1u (a.length+b.length) a b:=by
 have key : ∀(m k:Nat) (a b:List FD),a.length+b.length<=m->a.length+b.length<=k->q1u m a b=q1u k a b:=by
  intro m
  induction m with
  | zero =>
   intro k a b h _
   have ha:a = []:=List.eq_nil_of_length_eq_zero (by omega)
   have hb:b = []:=List.eq_nil_of_length_eq_zero (by omega)
   subst ha;subst hb
   cases k<;>rfl
  | succ m ih =>
   intro k a b h hk
   cases k with
   | zero =>
    have ha:a = []:=List.eq_nil_of_length_eq_zero (by omega)
    have hb:b = []:=List.eq_nil_of_length_eq_zero (by omega)
    subst ha;subst hb;rfl
   | succ k =>
    cases a with
    | nil=>cases b with
     | nil=>rfl
     | cons y b=>rw [q1u,q1u,ih k [] b (by simp at h ⊢;omega) (by simp at hk ⊢;omega)]
    | cons x a=>cases b with
     | nil=>rw [q1u,q1u,ih k a [] (by simp at h ⊢;omega) (by simp at hk ⊢;omega)]
     | cons y b =>
      simp only [List.length_cons] at h hk
      rw [q1u,q1u,ih k a (y::b) (by simp;omega) (by simp;omega),ih k (x::a) b (by simp;omega) (by simp;omega),ih k a b (by omega) (by omega)]
 exact fun m a b h=>key m _ a b h (Nat.le_refl _)
def jc6 (l:List OD):Bool:=(l.all fun o=>decide (o.2.1.length<=200)&&decide (o.2.2.length<=5000))&&decide (l.length<=100)
end Go.Proofs.YthpgnliicpejoaaGreatDoor.AM
namespace Go.Proofs.YthpgnliicpejoaaGreatDoor.AM
open Go.RowKit
set_option linter.unusedVariables false
set_option linter.unusedSimpArgs false
def qre:List UInt8->Option (OD×Nat)
 | k::c::r=>if k=0\/k=1 then (if r.length<c.toNat then none else if k=1 then some ((true,(r.take c.toNat,[])),2+c.toNat) else
   match r.drop c.toNat with
   | x::y::t=>if t.length<256*x.toNat+y.toNat then none else some ((false,(r.take c.toNat,t.take (256*x.toNat+y.toNat))),4+c.toNat+(256*x.toNat+y.toNat))
   | _=>none) else none
 | _=>none
theorem jad (k:Nat):b8 ((k:Nat):Int)=UInt8.ofNat k:=by
 unfold b8
 rw [IntKind.wrap_u8]
 apply UInt8.toNat_inj.1
 rw [UInt8.toNat_ofNat',UInt8.toNat_ofNat']
 omega
theorem qe9 (c:UInt8):b8 ((c.toNat:Nat):Int)=c:=by rw [jad];simp
theorem qb8 {s:List UInt8} {o:OD} {k:Nat} (h:qre s=some (o,k)):q5f o++s.drop k=s/\2<=k/\k<=s.length:=by
 match s,h with
 | kk::c::r,h =>
  rw [qre] at h
  split at h
  case isFalse=>cases h
  rename_i hk
  split at h
  case isTrue=>cases h
  rename_i hc
  have hl:(r.take c.toNat).length=c.toNat:=by rw [List.length_take];omega
  split at h
  ·rename_i h1
   simp only [Option.some.injEq,Prod.mk.injEq] at h
   obtain ⟨rfl,rfl⟩:=h
   refine ⟨?_,by omega,by simp;omega⟩
   unfold q5f
   simp only [hl,qe9,h1,if_true,List.append_nil]
   rw [show 2+c.toNat=c.toNat+1+1 from by omega]
   simp
  ·rename_i h1
   split at h
   case h_2=>cases h
   rename_i x y t hd
   split at h
   case isTrue=>cases h
   rename_i ht
   simp only [Option.some.injEq,Prod.mk.injEq] at h
   obtain ⟨rfl,rfl⟩:=h
   have hk0:kk=0:=by
               rcases hk with h|h
               ·exact h
               ·exact absurd h h1
   have hx:=x.toNat_lt
   have hy:=y.toNat_lt
   have hlt:(t.take (256*x.toNat+y.toNat)).length=256*x.toNat+y.toNat:=by rw [List.length_take];omega
   have hr:r=r.take c.toNat++x::y::t:=by rw [<-hd,List.take_append_drop]
   have hrl:r.length=c.toNat+(t.length+2):=by have:=congrArg List.length hr;rw [List.length_append,hl] at this;simpa using this
   refine ⟨?_,by omega,by simp only [List.length_cons];omega⟩
   unfold q5f
   simp only [hl,hlt,qe9,hk0,Bool.false_eq_true,if_false]
   have q1:(256*x.toNat+y.toNat) / 256=x.toNat:=by omega
   have q2:(256*x.toNat+y.toNat) % 256=y.toNat:=by omega
   rw [q1,q2,qe9,qe9,show 4+c.toNat+(256*x.toNat+y.toNat)=(c.toNat+(2+(256*x.toNat+y.toNat)))+1+1 from by omega]
   have hdr:r.drop (c.toNat+(2+(256*x.toNat+y.toNat)))=t.drop (256*x.toNat+y.toNat):=by
    rw [<-List.drop_drop,hd,show 2+(256*x.toNat+y.toNat)=(256*x.toNat+y.toNat)+1+1 from by omega];simp
   simp only [List.drop_succ_cons,hdr]
   conv=>rhs;rw [hr]
   simp
def q3c:Nat->List UInt8->Option (List OD)
 | 0,_=>none
 | m+1,s=>if s = [] then some [] else match qre s with
  | some (o,k)=>(q3c m (s.drop k)).map (o :: ·)
  | none=>none
def qai (s:List UInt8):List OD×Int:=match q3c (s.length+1) s with
 | some out=>if (q28 out).2=0/\(q28 out).1=s then (out,0) else ([],1)
 | none=>([],1)
theorem qjk : ∀(m k:Nat) (s:List UInt8),s.length<m->s.length<k->q3c m s=q3c k s
 | 0,_,_,h,_=>absurd h (Nat.not_lt_zero _)
 | _,0,_,_,h=>absurd h (Nat.not_lt_zero _)
 | m+1,k+1,s,h1,h2=>by
  rw [q3c,q3c]
  by_cases hs:s = []
  ·rw [if_pos hs,if_pos hs]
  ·rw [if_neg hs,if_neg hs]
   cases ho:qre s with
   | none=>rfl
   | some p =>
    obtain ⟨o,j⟩:=p
    obtain ⟨_,h3,h4⟩:=qb8 ho
    simp only
    rw [qjk m k (s.drop j) (by rw [List.length_drop];omega) (by rw [List.length_drop];omega)]
theorem qo5 : ∀(m:Nat) (s:List UInt8) (out:List OD),q3c m s=some out->(out.map q5f).flatten=s
 | 0,_,_,h=>by cases h
 | m+1,s,out,h=>by
  rw [q3c] at h
  split at h
  ·rename_i hs;cases h;rw [hs];rfl
  ·split at h
   case h_2=>cases h
   rename_i o k ho
   cases hp:q3c m (s.drop k) with
   | none=>rw [hp] at h;cases h
   | some out' =>
    rw [hp] at h
    have:out=o::out':=by simpa using h.symm
    subst this
    rw [List.map_cons,List.flatten_cons,qo5 m _ _ hp]
    exact (qb8 ho).1
theorem qmg : ∀(l:List OD),(∀o∈l,q8k o=0)->q9d l=((l.map q5f).flatten,0)
 | [],_=>rfl
 | o::l,h=>by
  have ih:=qmg l (fun o ho=>h o (List.mem_cons_of_mem _ ho))
  rw [q9d,if_pos (h o (List.mem_cons_self ..)),ih];rfl
theorem qtt : ∀(l:List OD),(∃ o∈l,q8k o≠0)->(q9d l).2≠0
 | [],h=>by obtain ⟨o,h,_⟩:=h;cases h
 | o::l,h=>by
  rw [q9d]
  by_cases h0:q8k o=0
  ·rw [if_pos h0]
   obtain ⟨o',ho',hb⟩:=h
   have : ∃ o∈l,q8k o≠0:=by
    rcases List.mem_cons.1 ho' with rfl|hm
    ·exact absurd h0 hb
    ·exact ⟨o',hm,hb⟩
   have ih:=qtt l this
   rw [if_neg ih];exact ih
  ·rw [if_neg h0];exact h0
def qqk:Nat->List UInt8->List OD->List OD×Int
 | 0,_,_=>([],1)
 | m+1,s,acc=>if s = [] then (acc,0) else match qre s with
  | some (o,k)=>if q8k o=0 then qqk m (s.drop k) (acc ++ [o]) else ([],1)
  | none=>([],1)
theorem qm7 : ∀(m:Nat) (s:List UInt8) (acc:List OD),s.length<m->qqk m s acc=(match q3c m s with
  | some out=>if (∀o∈out,q8k o=0) then (acc++out,0) else ([],1)
  | none=>([],1))
 | 0,_,_,h=>absurd h (Nat.not_lt_zero _)
 | m+1,s,acc,h=>by
  rw [qqk,q3c]
  by_cases hs:s = []
  ·rw [if_pos hs,if_pos hs];simp
  ·rw [if_neg hs,if_neg hs]
   cases ho:qre s with
   | none=>rfl
   | some p =>
    obtain ⟨o,j⟩:=p
    obtain ⟨_,h3,h4⟩:=qb8 ho
    simp only
    have ih:=qm7 m (s.drop j) (acc ++ [o]) (by rw [List.length_drop];omega)
    rw [ih]
    cases hp:q3c m (s.drop j) with
    | none=>simp
    | some out =>
     simp only [Option.map_some]
     by_cases hc:q8k o=0
     ·rw [if_pos hc]
      by_cases ha : ∀o∈out,q8k o=0
      ·rw [if_pos ha,if_pos]
       ·simp
       ·intro o' ho'
        rcases List.mem_cons.1 ho' with rfl|hm
        ·exact hc
        ·exact ha _ hm
      ·rw [if_neg ha,if_neg]
       exact fun hx=>ha fun o ho=>hx o (List.mem_cons_of_mem _ ho)
     ·rw [if_neg hc,if_neg]
      exact fun hx=>hc (hx o (List.mem_cons_self ..))
theorem qwd (s:List UInt8):qai s=if 4096<s.length then ([],1) else qqk (s.length+1) s []:=by
 unfold qai
 rw [qm7 _ _ _ (Nat.lt_succ_self _)]
 cases hp:q3c (s.length+1) s with
 | none=>simp
 | some out =>
  have hl:=qo5 _ _ _ hp
  simp only
  by_cases ha : ∀o∈out,q8k o=0
  ·have he:=qmg out ha
   rw [hl] at he
   unfold q28
   rw [he,if_pos ha]
   by_cases hs:4096<s.length
   ·simp [hs]
   ·simp [hs]
  ·have hb : ∃ o∈out,q8k o≠0:=by
    refine Classical.byContradiction fun hx=>ha fun o ho=>Classical.byContradiction fun hc=>hx ⟨o,ho,hc⟩
   have h2:=qtt out hb
   unfold q28
   rw [if_neg h2,if_neg ha]
   simp [h2]
end Go.Proofs.YthpgnliicpejoaaGreatDoor.AM
