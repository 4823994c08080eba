
import Derived.Test.YtlmjgghohipipaaGreatDoorLc18
import Derived.Test.YtlmjgghohipipaaGreatDoorLc17
namespace Go.Proofs.YtlmjgghohipipaaGreatDoor.AM
open Go.RowKit
set_option linter.unusedVariables false
set_option linter.unusedSimpArgs false
end Go.Proofs.YtlmjgghohipipaaGreatDoor.AM
namespace Go.Proofs
open Go.RowKit
set_option linter.unusedVariables false
set_option linter.unusedSimpArgs false
namespace YtlmjgghohipipaaGreatDoor.AM.Bs
end YtlmjgghohipipaaGreatDoor.AM.Bs
end Go.Proofs
namespace Go.Proofs
open Go.RowKit
set_option linter.unusedVariables false
set_option linter.unusedSimpArgs false
namespace YtlmjgghohipipaaGreatDoor.AM.Bs
def zs (l:Nat):Nat:=(6 - l % 6) % 6
def ps (l:Nat):Nat:=(4 - l % 4) % 4
theorem hi2 : ∀a:Fin 256,2*(a.val / 2 ^ 7 % 2)+a.val / 2 ^ 6 % 2=a.val / 64:=by decide +kernel
end YtlmjgghohipipaaGreatDoor.AM.Bs
end Go.Proofs
namespace Go.Proofs.YtlmjgghohipipaaGreatDoor.AM
open Go.RowKit
set_option linter.unusedVariables false
set_option linter.unusedSimpArgs false
abbrev LT:=List TgD
def few (t:TgD):Prop:=t.1.length<=5000/\(tH t).length<=5000
theorem qpz {t:TgD} (h:few t):small t:=⟨by have:=h.1;omega,by have:=h.2;omega⟩
end Go.Proofs.YtlmjgghohipipaaGreatDoor.AM
namespace Go.Proofs.YtlmjgghohipipaaGreatDoor.AM
open Go.RowKit
set_option linter.unusedVariables false
set_option linter.unusedSimpArgs false
def eqT (a b:TgD):Bool:=decide (a.1=b.1)&&((decide (a.2.1=b.2.1)&&(decide (a.2.2.1=b.2.2.1)&&(decide (a.2.2.2.1=b.2.2.2.1)&&(decide (a.2.2.2.2.1=b.2.2.2.2.1)&&(decide (a.2.2.2.2.2.1=b.2.2.2.2.2.1)&&true)))))&&(decide (a.2.2.2.2.2.2=b.2.2.2.2.2.2)&&true))
theorem j9f {a b:TgD} : eqT a b=true↔a=b:=by
 obtain ⟨a1,a2,a3,a4,a5,a6,a7⟩:=a
 obtain ⟨b1,b2,b3,b4,b5,b6,b7⟩:=b
 unfold eqT
 simp only [Bool.and_eq_true,decide_eq_true_eq,Prod.mk.injEq,and_true]
 constructor
 ·rintro ⟨h1,⟨h2,h3,h4,h5,h6⟩,h7⟩;exact ⟨h1,h2,h3,h4,h5,h6,h7⟩
 ·rintro ⟨h1,h2,h3,h4,h5,h6,h7⟩;exact ⟨h1,⟨h2,h3,h4,h5,h6⟩,h7⟩
theorem qoy (n:Nat) (l:List TgD) (hL:l.length<=1000000000) : ∀m j:Nat,j<=l.length->l.length - j<m->q2b n m l l (j:Int)=some (Sum.inr (((),((),()))))
 | 0,j,hj,hm=>absurd hm (Nat.not_lt_zero _)
 | m+1,j,hj,hm=>by
  rw [qa2]
  unfold qaz
  by_cases hjl:j<l.length
  ·have h1:(j:Int)<((l.length:Nat):Int):=by omega
   rw [decide_eq_true h1,cond_true,q66 hjl,Option.bind_some,Option.bind_some]
   show (bif !(eqT l[j] l[j]) then _ else _)=_
   rw [j9f.2 rfl,Bool.not_true,cond_false]
   unfold q2f
   rw [q12 (by omega)]
   exact qoy n l hL m (j+1) hjl (by omega)
  ·have h1 : ¬ (j:Int)<((l.length:Nat):Int):=by omega
   rw [decide_eq_false h1,cond_false]
theorem qc9 (n:Nat) (l:List TgD) (hL:l.length<=1000000000) (hn:l.length<n):q6h n l l=some true:=by
 unfold q6h
 rw [decide_eq_true rfl,Bool.not_true,cond_false]
 have h:=qoy n l hL n 0 (Nat.zero_le _) (by omega)
 have h':q2b n n l l (0:Int)=_:=h
 rw [h',Option.bind_some];rfl
def fewT (t:TgD):Bool:=decide (t.1.length<=200)&&(decide (t.2.2.2.2.2.2.length<=200)&&(decide (t.2.2.2.2.1.length<=200)&&decide (t.2.2.2.2.2.1.length<=200)))
def fewS (l:List TgD):Bool:=l.all fewT&&decide (l.length<=60)
abbrev FOut:=((Bool×(Unit))×(Unit)×(Unit))⊕(((List TgD)×(Unit))×(Unit)×(Unit))
theorem qvx (n:Nat) (l:List TgD) (hL:l.length<=9223372036854775807) : ∀m j:Nat,j<=l.length->l.length - j<m->∃ r:FOut,q2o n m l (j:Int)=some r/\(Sum.elim (fun q7=>some q7.1.1) (fun q8=>some (decide (((List.length q8.1.1:Nat):Int)<=(60:Int)))) r:Option Bool)=some ((l.drop j).all fewT&&decide (l.length<=60))
 | 0,j,hj,hm=>absurd hm (Nat.not_lt_zero _)
 | m+1,j,hj,hm=>by
  rw [qaq]
  unfold qh4
  by_cases hjl:j<l.length
  ·have h1:(j:Int)<((l.length:Nat):Int):=by omega
   rw [decide_eq_true h1,cond_true,q66 hjl,Option.bind_some,Option.bind_some,Option.bind_some,Option.bind_some]
   have hd:l.drop j=l[j]::l.drop (j+1):=List.drop_eq_getElem_cons hjl
   rw [hd,List.all_cons]
   generalize l[j]=t
   have dl : ∀s:List UInt8,decide ((200:Int)<((s.length:Nat):Int)) = !decide (s.length<=200):=fun s=>by
    by_cases h:s.length<=200
    ·rw [decide_eq_true h,decide_eq_false (by omega)];rfl
    ·rw [decide_eq_false h,decide_eq_true (by omega)];rfl
   rw [dl,dl,dl,dl]
   unfold fewT
   by_cases h2:t.1.length<=200
   ·by_cases h3:t.2.2.2.2.2.2.length<=200
    ·by_cases h4:t.2.2.2.2.1.length<=200
     ·by_cases h5:t.2.2.2.2.2.1.length<=200
      ·rw [decide_eq_true h2,decide_eq_true h3,decide_eq_true h4,decide_eq_true h5]
       simp only [Bool.not_true,cond_false,Bool.true_and]
       unfold q2f
       rw [show IntKind.wrap .i64 ((j:Int)+1)=((j+1:Nat):Int) from by rw [wrap64 (by omega) (by omega)];omega]
       exact qvx n l hL m (j+1) hjl (by omega)
      ·rw [decide_eq_true h2,decide_eq_true h3,decide_eq_true h4,decide_eq_false h5];exact ⟨_,rfl,rfl⟩
     ·rw [decide_eq_true h2,decide_eq_true h3,decide_eq_false h4];exact ⟨_,rfl,rfl⟩
    ·rw [decide_eq_true h2,decide_eq_false h3];exact ⟨_,rfl,rfl⟩
   ·rw [decide_eq_false h2];exact ⟨_,rfl,rfl⟩
  ·have h1 : ¬ (j:Int)<((l.length:Nat):Int):=by omega
   rw [decide_eq_false h1,cond_false,List.drop_of_length_le (by omega)]
   refine ⟨_,rfl,?_⟩
   show some (decide (((l.length:Nat):Int)<=60))=some (true&&decide (l.length<=60))
   rw [Bool.true_and]
   exact congrArg some (decide_eq_decide.2 ⟨fun h=>by omega,fun h=>by omega⟩)
theorem qrh (n:Nat) (l:List TgD) (hL:l.length<=9223372036854775807) (hn:l.length<n):qdp n l=some (fewS l):=by
 unfold qdp
 obtain ⟨r,h1,h2⟩:=qvx n l hL n 0 (Nat.zero_le _) (by omega)
 have h1':q2o n n l (0:Int)=some r:=h1
 rw [h1',Option.bind_some]
 exact h2
end Go.Proofs.YtlmjgghohipipaaGreatDoor.AM
