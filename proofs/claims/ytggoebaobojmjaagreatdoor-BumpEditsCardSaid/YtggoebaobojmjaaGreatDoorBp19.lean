
import Derived.Test.YtggoebaobojmjaaGreatDoorBp15
import Derived.Test.YtggoebaobojmjaaGreatDoorBp18
import Derived.Test.YtggoebaobojmjaaGreatDoorBp17
import Derived.Test.YtggoebaobojmjaaGreatDoorBp16
import Derived.Lib.AppendZeros
namespace Go.Proofs.YtggoebaobojmjaaGreatDoor.AM
open Go.RowKit Gr
set_option linter.unusedVariables false
set_option linter.unusedSimpArgs false
theorem k06 {k:Nat} {L:List Nat} : ((k:Nat):Int)∈iL L↔k∈L:=by
 unfold iL
 rw [List.mem_map]
 constructor
 ·rintro ⟨a,h,e⟩
  obtain rfl:=Int.ofNat.inj e
  exact h
 ·exact fun h=>⟨k,h,rfl⟩
def Sml (l:List MD):Prop:=l.length<=20/\∀m∈l,m.2.1.length<=200/\m.1.length<=200/\m.2.2.length<=30/\∀r∈m.2.2,r.1.length<=200/\r.2.2.2.2.1.length<=200/\r.2.2.2.2.2.length<=200
theorem qee (n:Nat) (l:List MD) (i:Nat) (hi:i<l.length) (h30:l[i].2.2.length<=30) (a4:List MD) (a5:Int) (a6:List UInt8) (a7:Int) (a8:Bool) (a9:List MD) (a10:Int) (a11:List RD) (a12:Int) (a13:Bool) : ∀m j:Nat,j<=l[i].2.2.length->l[i].2.2.length - j<m ->
  (q2x n m l (i:Int) (j:Int) a4 a5 a6 a7 a8 a9 a10 a11 a12 a13=some (Sum.inl ((false,()),((),())))) \/
  (q2x n m l (i:Int) (j:Int) a4 a5 a6 a7 a8 a9 a10 a11 a12 a13=some (Sum.inr ((l,((i:Int),(a4,(a5,(a6,(a7,(a8,(a9,(a10,(a11,(a12,(a13,())))))))))))),((),())))/\∀r∈l[i].2.2.drop j,r.1.length<=200/\r.2.2.2.2.1.length<=200/\r.2.2.2.2.2.length<=200)
 | 0,j,_,h=>absurd h (Nat.not_lt_zero _)
 | m+1,j,hj,h=>by
  rw [qfm]
  unfold qft
  rw [q0m hi,Option.bind_some]
  by_cases c:j<l[i].2.2.length
  ·rw [decide_eq_true (by omega),cond_true,Option.bind_some,q0m c,Option.bind_some]
   by_cases h1:200<l[i].2.2[j].1.length
   ·rw [decide_eq_true (by omega),cond_true];exact Or.inl rfl
   ·rw [decide_eq_false (by omega),cond_false]
    by_cases h2:200<l[i].2.2[j].2.2.2.2.1.length
    ·rw [decide_eq_true (by omega),cond_true];exact Or.inl rfl
    ·rw [decide_eq_false (by omega),cond_false]
     by_cases h3:200<l[i].2.2[j].2.2.2.2.2.length
     ·rw [decide_eq_true (by omega),cond_true];exact Or.inl rfl
     ·rw [decide_eq_false (by omega),cond_false,q0h,q04 (by omega)]
      rcases qee n l i hi h30 a4 a5 a6 a7 a8 a9 a10 a11 a12 a13 m (j+1) (by omega) (by omega) with h4|⟨h4,h5⟩
      ·exact Or.inl h4
      ·refine Or.inr ⟨h4,fun r hr=>?_⟩
       rw [List.drop_eq_getElem_cons c] at hr
       rcases List.mem_cons.1 hr with rfl|hr
       ·exact ⟨by omega,by omega,by omega⟩
       ·exact h5 r hr
  ·obtain rfl:j=l[i].2.2.length:=by omega
   rw [decide_eq_false (by omega),cond_false]
   exact Or.inr ⟨rfl,fun r hr=>by rw [List.drop_length] at hr;cases hr⟩
theorem jtv {i:Nat} (h:i+1<=9223372036854775807):IntKind.wrap .i64 ((i:Int)+1)=((i+1:Nat):Int):=by rw [wrap64 (by omega) (by omega)];rfl
theorem qgk (n:Nat) (l:List MD) (hl:l.length<=9223372036854775807) (hn:100000<n) : ∀m j:Nat,j<=l.length->l.length - j<m ->
  (q1h n m l (j:Int)=some (Sum.inl ((false,()),((),())))) \/
  (q1h n m l (j:Int)=some (Sum.inr ((l,()),((),())))/\∀x∈l.drop j,x.2.1.length<=200/\x.1.length<=200/\x.2.2.length<=30/\∀r∈x.2.2,r.1.length<=200/\r.2.2.2.2.1.length<=200/\r.2.2.2.2.2.length<=200)
 | 0,j,_,h=>absurd h (Nat.not_lt_zero _)
 | m+1,j,hj,h=>by
  rw [qfj]
  unfold qfz
  by_cases c:j<l.length
  ·rw [decide_eq_true (by omega),cond_true,q0m c,Option.bind_some]
   by_cases h1:200<l[j].2.1.length
   ·rw [decide_eq_true (by omega),cond_true];exact Or.inl rfl
   ·rw [decide_eq_false (by omega),cond_false,Option.bind_some]
    by_cases h2:200<l[j].1.length
    ·rw [decide_eq_true (by omega),cond_true];exact Or.inl rfl
    ·rw [decide_eq_false (by omega),cond_false,Option.bind_some]
     by_cases h3:30<l[j].2.2.length
     ·rw [decide_eq_true (by omega),cond_true];exact Or.inl rfl
     ·rw [decide_eq_false (by omega),cond_false]
      rcases qee n l j c (by omega) l (j:Int) l[j].1 ((l[j].1.length:Nat):Int) false l (j:Int) l[j].2.2 ((l[j].2.2.length:Nat):Int) false n 0 (Nat.zero_le _) (by omega) with h4|⟨h4,h5⟩
      ·rw [show (0:Int)=((0:Nat):Int) from rfl,h4,Option.bind_some];exact Or.inl rfl
      ·rw [show (0:Int)=((0:Nat):Int) from rfl,h4,Option.bind_some]
       show (q0d (IntKind.wrap .i64 ((j:Int)+1)) (fun n11=>q1h n m l n11)=_)\/(q0d (IntKind.wrap .i64 ((j:Int)+1)) (fun n11=>q1h n m l n11)=_/\_)
       rw [q0h,jtv (by omega)]
       rcases qgk n l hl hn m (j+1) (by omega) (by omega) with h6|⟨h6,h7⟩
       ·exact Or.inl h6
       ·refine Or.inr ⟨h6,fun x hx=>?_⟩
        rw [List.drop_eq_getElem_cons c] at hx
        rcases List.mem_cons.1 hx with rfl|hx
        ·exact ⟨by omega,by omega,by omega,h5⟩
        ·exact h7 x hx
  ·obtain rfl:j=l.length:=by omega
   rw [decide_eq_false (by omega),cond_false]
   exact Or.inr ⟨rfl,fun r hr=>by rw [List.drop_length] at hr;cases hr⟩
theorem qyw (n:Nat) (l:List MD) (hl:l.length<=9223372036854775807) (hn:9223372036854775807<n) : ∃ b,qcv n l=some b/\(b=true->Sml l):=by
 unfold qcv
 rcases qgk n l hl (by omega) n 0 (Nat.zero_le _) (by omega) with h|⟨h,h2⟩
 ·rw [show (0:Int)=((0:Nat):Int) from rfl,h,Option.bind_some]
  exact ⟨false,rfl,fun h=>by cases h⟩
 ·rw [show (0:Int)=((0:Nat):Int) from rfl,h,Option.bind_some]
  exact ⟨_,rfl,fun h3=>⟨by
   have h4:((l.length:Nat):Int)<=20:=of_decide_eq_true h3
   omega,fun m hm=>h2 m (by rw [List.drop_zero];exact hm)⟩⟩
theorem Sml.sm {l:List MD} (h:Sml l):SmL l:=⟨h.1,fun m hm=>⟨(h.2 m hm).1,by have:=(h.2 m hm).2.2.1;omega⟩⟩
end Go.Proofs.YtggoebaobojmjaaGreatDoor.AM
namespace Go.Proofs.YtggoebaobojmjaaGreatDoor.AM
open Go.RowKit
set_option linter.unusedVariables false
end Go.Proofs.YtggoebaobojmjaaGreatDoor.AM
namespace Go.Proofs.YtggoebaobojmjaaGreatDoor.AM
open Go.RowKit Gr
set_option linter.unusedVariables false
set_option linter.unusedSimpArgs false
theorem j4m (l:List MD):Ord l.length (adj l) (jcb l):=je7 13 Ord.nil
theorem j77 (l:List MD):(jcb l).length<=l.length:=qj3 (j4m l).nd (j4m l).lt
end Go.Proofs.YtggoebaobojmjaaGreatDoor.AM
namespace Go.Proofs.YtggoebaobojmjaaGreatDoor.AM
open Go.RowKit Gr
set_option linter.unusedVariables false
set_option linter.unusedSimpArgs false
abbrev RlD:=Int×(Bool×(Int×(Int×(Int×(List UInt8×(List UInt8×(Int×(Int×(Int×(List UInt8×(List UInt8×Int)))))))))))
abbrev WnD:=List UInt8×Int
def mkR (a:Int) (h:Bool) (o v:VD) (k:Int):RlD:=(a,(h,(o.1,(o.2.1,(o.2.2.1,(o.2.2.2.1,(o.2.2.2.2,(v.1,(v.2.1,(v.2.2.1,(v.2.2.2.1,(v.2.2.2.2,k))))))))))))
def j8x (r:RlD):VD:=(r.2.2.2.2.2.2.2.1,(r.2.2.2.2.2.2.2.2.1,(r.2.2.2.2.2.2.2.2.2.1,(r.2.2.2.2.2.2.2.2.2.2.1,r.2.2.2.2.2.2.2.2.2.2.2.1))))
def r0:RlD:=mkR 0 false v0 v0 0
def qn2 (p:List UInt8):VD×Bool:=if (q3q p).2.2=true then (if (q3q p).2.1=0 then ((0,(1,(0,([],[])))),true) else (((q3q p).2.1,(0,(0,([],[])))),true)) else (v0,false)
def qj1 (p:List UInt8) (v:VD) (k:Int):VD×Int:=if q0y v=true then (if (qe2 v k).2=0 then (if j91 p (qe2 v k).1=true then ((qe2 v k).1,0) else (v0,8)) else (v0,(qe2 v k).2)) else (v0,7)
def jha (k:Int):Bool:=decide (1<=k)&&decide (k<=3)
def qui (p:List UInt8) (l:List TgD) (k:Int):RlD×Int :=
 if (qn2 p).2=true then (if jha k=true then (match q0l p none l with
  | none=>(mkR 0 false v0 (qn2 p).1 k,0)
  | some t=>if (qj1 p (tV t) k).2=0 then (mkR 0 true (tV t) (qj1 p (tV t) k).1 k,0) else (r0,(qj1 p (tV t) k).2)) else (r0,1)) else (r0,6)
def plc (p:List UInt8):Nat->List MD->Option Nat
 | _,[]=>none
 | j,m::l=>if m.2.1=p then some j else plc p (j+1) l
def q3k (l:List MD) (p:List UInt8):Option Nat:=plc p 0 l
def qw3 (l:List MD) (p:List UInt8):Int:=match q3k l p with
 | some i=>(i:Int)
 | none=>-1
theorem jco {p:List UInt8} : ∀{l:List MD} {j i:Nat},plc p j l=some i->∃ k,∃ h:k<l.length,i=j+k/\l[k].2.1=p
 | [],j,i,h=>by cases h
 | m::l,j,i,h=>by
  unfold plc at h
  by_cases e:m.2.1=p
  ·rw [if_pos e] at h
   obtain rfl:=Option.some.inj h
   exact ⟨0,Nat.zero_lt_succ _,rfl,e⟩
  ·rw [if_neg e] at h
   obtain ⟨k,hk,h1,h2⟩:=jco h
   exact ⟨k+1,Nat.succ_lt_succ hk,by omega,h2⟩
theorem jc8 {p:List UInt8} : ∀{l:List MD} {j:Nat},plc p j l=none->∀m∈l,m.2.1≠p
 | [],j,h,m,hm=>by cases hm
 | x::l,j,h,m,hm=>by
  unfold plc at h
  by_cases e:x.2.1=p
  ·rw [if_pos e] at h;cases h
  ·rw [if_neg e] at h
   rcases List.mem_cons.1 hm with rfl|hm
   ·exact e
   ·exact jc8 h m hm
theorem q8w {l:List MD} {p:List UInt8} {i:Nat} (h:q3k l p=some i) : ∃ hi:i<l.length,l[i].2.1=p:=by
 obtain ⟨k,hk,h1,h2⟩:=jco h
 obtain rfl:k=i:=by omega
 exact ⟨hk,h2⟩
theorem j4e : ∀(ps pre:List (List UInt8)),jp8 pre ps=false->ps.Nodup/\∀x∈ps,x ∉ pre
 | [],pre,_=>⟨List.nodup_nil,fun x h=>by cases h⟩
 | x::ps,pre,h=>by
  unfold jp8 at h
  rw [Bool.or_eq_false_iff] at h
  obtain ⟨h1,h2⟩:=h
  obtain ⟨h3,h4⟩:=j4e ps _ h2
  have hx:x ∉ pre:=fun hm=>by
   have:=List.any_eq_false.1 h1 x hm
   exact this (decide_eq_true rfl)
  refine ⟨List.nodup_cons.2 ⟨fun hm=>h4 x hm (List.mem_append.2 (Or.inr (List.mem_singleton.2 rfl))),h3⟩,fun y hy=>?_⟩
  rcases List.mem_cons.1 hy with rfl|hy
  ·exact hx
  ·exact fun hm=>h4 y hy (List.mem_append.2 (Or.inl hm))
theorem jm8 {l:List MD} (h:qwk l=0):(qt2 l).Nodup:=by
 unfold qwk chkP at h
 split at h
 ·cases h
 ·cases ha:(qt2 l).all okS with
  | false=>rw [ha] at h;cases h
  | true =>
   rw [ha,cond_true] at h
   cases hd:jp8 [] (qt2 l) with
   | true=>rw [hd] at h;cases h
   | false=>exact (j4e _ _ hd).1
theorem jjn {l:List MD} {i:Nat} (hi:i<l.length):(qt2 l)[i]'(by rw [q9p];exact hi)=l[i].2.1:=by simp [qt2]
theorem j1e {l:List MD} (h:qwk l=0) {i:Nat} (hi:i<l.length):q3k l l[i].2.1=some i:=by
 cases hp:q3k l l[i].2.1 with
 | none=>exact absurd rfl (jc8 hp _ (List.getElem_mem hi))
 | some k =>
  obtain ⟨hk,h2⟩:=q8w hp
  have hn:=jm8 h
  have:=(List.getElem_inj (i:=k) (j:=i) (h₀:=by rw [q9p];exact hk) (h₁:=by rw [q9p];exact hi) hn).1 (by rw [jjn hk,jjn hi,h2])
  rw [this]
def jjw (w:List WnD) (f:WnD->Bool) (z:Int):Int:=match w.find? f with
 | some x=>x.2
 | none=>z
def qqv (w:List WnD) (p:List UInt8):Int:=jjw w (fun x=>decide (x.1=p)) 1
def q3p (l:List MD):List WnD->List WnD->Int
 | _,[]=>0
 | pre,x::w=>if (q3k l x.1).isSome=true then (if jha x.2=true then (if pre.any (fun y=>decide (y.1=x.1))=true then 11 else q3p l (pre ++ [x]) w) else 1) else 5
def k0e (l:List MD) (w:List WnD):List Nat:=w.filterMap fun x=>q3k l x.1
def lvl (l:List MD) (w:List WnD) (i:Nat):Int:=jjw w (fun x=>decide (q3k l x.1=some i)) 0
def lvS (l:List MD) (w:List WnD):List Int:=(List.range 12).map (lvl l w)
theorem qaj (l:List MD) (w:List WnD):(lvS l w).length=12:=by unfold lvS;rw [List.length_map,List.length_range]
theorem jb5 {l:List MD} {w:List WnD} {i:Nat} (hi:i<12):(lvS l w).getD i 0=lvl l w i:=by
 rw [List.getD_eq_getElem?_getD];unfold lvS
 rw [List.getElem?_map,List.getElem?_range hi];rfl
theorem jux {l:List MD} {w:List WnD} {i:Nat} (h:i<(lvS l w).length):(lvS l w)[i]=lvl l w i:=by simp [lvS]
def WOk (l:List MD) (w:List WnD):Prop:=∀x∈w,(q3k l x.1).isSome=true/\jha x.2=true
theorem jo9 {k:Int} (h:jha k=true):1<=k/\k<=3:=by
 unfold jha at h
 rw [Bool.and_eq_true,decide_eq_true_iff,decide_eq_true_iff] at h
 exact h
theorem j2j {w:List WnD} {f:WnD->Bool} (hw : ∀x∈w,jha x.2=true):jjw w f 0=0↔w.any f=false:=by
 unfold jjw
 cases h:w.find? f with
 | none =>
  refine ⟨fun _=>?_,fun _=>rfl⟩
  rw [List.any_eq_false]
  exact fun x hx=>List.find?_eq_none.1 h x hx
 | some x =>
  have h1:=List.find?_some h
  have h2:=List.mem_of_find?_eq_some h
  have:=(jo9 (hw x h2)).1
  refine ⟨fun (e:x.2=0)=>by omega,fun e=>?_⟩
  exact absurd h1 (List.any_eq_false.1 e x h2)
theorem jgx {l:List MD} {p q:List UInt8} {i:Nat} (hp:q3k l p=some i):q3k l q=some i↔q=p:=by
 constructor
 ·intro hq
  obtain ⟨h1,h2⟩:=q8w hp
  obtain ⟨_,h4⟩:=q8w hq
  rw [<-h2,<-h4]
 ·rintro rfl;exact hp
theorem find_congr {α:Type} {f g:α->Bool} : ∀{l:List α},(∀x∈l,f x=g x)->l.find? f=l.find? g
 | [],_=>rfl
 | x::l,h=>by
  rw [List.find?_cons,List.find?_cons,h x (List.mem_cons_self ..),find_congr fun y hy=>h y (List.mem_cons_of_mem _ hy)]
theorem qzh {l:List MD} {w:List WnD} {p:List UInt8} {i:Nat} (hp:q3k l p=some i):lvl l w i=jjw w (fun x=>decide (x.1=p)) 0:=by
 unfold lvl jjw
 rw [find_congr (g:=fun x=>decide (x.1=p)) fun x _=>decide_eq_decide.2 (jgx hp)]
theorem jt2 {l:List MD} {w:List WnD} {x:WnD} {i:Nat} (hp:q3k l x.1=some i) (hw:w.any (fun y=>decide (y.1=x.1))=false) (q:Nat):lvl l (w ++ [x]) q=if q=i then x.2 else lvl l w q:=by
 by_cases e:q=i
 ·subst e
  rw [qzh hp,if_pos rfl]
  unfold jjw
  rw [List.find?_append,List.find?_eq_none.2 (fun y hy=>List.any_eq_false.1 hw y hy)]
  simp
 ·rw [if_neg e]
  unfold lvl jjw
  rw [List.find?_append]
  have : [x].find? (fun y=>decide (q3k l y.1=some q))=none:=by
   rw [List.find?_eq_none]
   intro y hy
   rw [List.mem_singleton] at hy;subst hy
   rw [hp,decide_eq_true_iff]
   exact fun e'=>e (Option.some.inj e').symm
  rw [this,Option.or_none]
theorem jrt {l:List MD} {w:List WnD} {x:WnD} {i:Nat} (hp:q3k l x.1=some i) (hi:i<12) (hw:w.any (fun y=>decide (y.1=x.1))=false):(lvS l w).set i x.2=lvS l (w ++ [x]):=by
 apply List.ext_getElem
 ·rw [List.length_set,qaj,qaj]
 ·intro k h1 h2
  rw [qaj] at h2
  rw [List.getElem_set,jux,jux,jt2 hp hw k]
  by_cases e:i=k
  ·rw [if_pos e,if_pos e.symm]
  ·rw [if_neg e,if_neg (fun e'=>e e'.symm)]
def plS (l:List MD) (w:List WnD):List Nat:=(List.range 12).filter fun i=>!decide (lvl l w i=0)
theorem mem_pl {l:List MD} {w:List WnD} (hw:WOk l w) (h12:l.length<=12) {i:Nat} : i∈plS l w↔i∈k0e l w:=by
 unfold plS k0e
 rw [List.mem_filter,List.mem_range,List.mem_filterMap,Bool.not_eq_true',decide_eq_false_iff_not]
 unfold lvl
 rw [j2j fun x hx=>(hw x hx).2,Bool.not_eq_false,List.any_eq_true]
 constructor
 ·rintro ⟨h1,x,h2,h3⟩
  exact ⟨x,h2,of_decide_eq_true h3⟩
 ·rintro ⟨x,h2,h3⟩
  obtain ⟨h4,_⟩:=q8w h3
  exact ⟨by omega,x,h2,decide_eq_true h3⟩
theorem j11 {l:List MD} : ∀{w pre:List WnD},q3p l pre w=0->WOk l w
 | [],pre,_=>fun x hx=>by cases hx
 | y::w,pre,h=>by
  unfold q3p at h
  by_cases c1:(q3k l y.1).isSome=true
  ·by_cases c2:jha y.2=true
   ·rw [if_pos c1,if_pos c2] at h
    split at h
    ·cases h
    ·intro x hx
     rcases List.mem_cons.1 hx with rfl|hx
     ·exact ⟨c1,c2⟩
     ·exact j11 h x hx
   ·rw [if_pos c1,if_neg c2] at h;cases h
  ·rw [if_neg c1] at h;cases h
theorem jyy {w:List WnD} {f:WnD->Bool} (hw : ∀x∈w,jha x.2=true):max (jjw w f 0) 1=jjw w f 1:=by
 unfold jjw
 cases h:w.find? f with
 | none=>rfl
 | some x =>
  have:=(jo9 (hw x (List.mem_of_find?_eq_some h))).1
  show max x.2 1=x.2
  omega
def j6z (l:List MD) (tg:List TgD) (w:List WnD) (k:Nat):RlD×Int:=match l[k]? with
 | none=>(r0,0)
 | some m=>(((k:Int),(qui m.2.1 tg (qqv w m.2.1)).1.2),(qui m.2.1 tg (qqv w m.2.1)).2)
def jj6 (l:List MD) (tg:List TgD) (w:List WnD):List Nat->Int
 | []=>0
 | k::D=>if (j6z l tg w k).2=0 then jj6 l tg w D else (j6z l tg w k).2
def jt1 (l:List MD) (tg:List TgD) (w:List WnD) (D:List Nat):List RlD×Int:=if jj6 l tg w D=0 then (D.map fun k=>(j6z l tg w k).1,0) else ([],jj6 l tg w D)
def quk (l:List MD) (U:List Nat):List Nat:=(jcb l).filter U.contains
def q59 (l:List MD) (tg:List TgD) (w:List WnD) (U:List Nat):List RlD×Int :=
 if (q2s l).2=0 then (if q3p l [] w=0 then jt1 l tg w (quk l U) else ([],q3p l [] w)) else ([],(q2s l).2)
theorem jmx {l:List MD} (tg:List TgD) (w:List WnD) {k:Nat} (hk:k<l.length):j6z l tg w k=(((k:Int),(qui l[k].2.1 tg (qqv w l[k].2.1)).1.2),(qui l[k].2.1 tg (qqv w l[k].2.1)).2):=by
 unfold j6z;rw [List.getElem?_eq_getElem hk]
theorem qsj {l:List MD} {tg:List TgD} {w:List WnD} : ∀{D:List Nat},jj6 l tg w D=0 ↔ ∀k∈D,(j6z l tg w k).2=0
 | []=>⟨fun _ k h=>(by cases h),fun _=>rfl⟩
 | x::D=>by
  unfold jj6
  by_cases c:(j6z l tg w x).2=0
  ·rw [if_pos c,qsj (D:=D)]
   exact ⟨fun h k hk=>by rcases List.mem_cons.1 hk with rfl|hk;exact c;exact h k hk,fun h k hk=>h k (List.mem_cons_of_mem _ hk)⟩
  ·rw [if_neg c]
   exact ⟨fun h=>absurd h c,fun h=>absurd (h x (List.mem_cons_self ..)) c⟩
def qo8 (l:List MD) (p:List UInt8) (r:RlD):Bool:=decide (0<=r.1)&&(decide (r.1<(l.length:Int))&&decide ((l[r.1.toNat]?.map fun m=>m.2.1)=some p))
def qah (l:List MD) (r:List RlD) (p:List UInt8):Option VD:=(r.find? (qo8 l p)).map j8x
def jej (l:List MD) (r:List RlD) (a:Int):List RD:=if 0<=a/\a<(l.length:Int) then (match l[a.toNat]? with
 | some m=>m.2.2.filterMap fun q=>(qah l r q.1).map fun v=>(q.1,v)
 | none=>[]) else []
end Go.Proofs.YtggoebaobojmjaaGreatDoor.AM
namespace Go.Proofs
open Go.RowKit Go.Shelf Go.Lib
set_option linter.unusedVariables false
set_option linter.unusedSimpArgs false
namespace YtggoebaobojmjaaGreatDoor.AM
def qjw (_:Unit) (n:Int):Option (Unit×(Unit×(List Int×Unit))):=if 0<=n/\n<=1000000000000 then some ((),((),([],()))) else none
def jds:FX:={ f:=79,args:=[.one (.c .nil),.one (.c (.d (.int .i64)))],boxes:=[],rows:=[],res:=.one (.c (.row 1000000)),oboxes:=[],orows:=[(1000000,⟨3,true,.int .i64⟩)],F:=fun p=>qjw p.1.1 p.1.2 }
theorem jmz {F:Fr} {e:Env} {w w':World} {v:Value} (hp:Hp F q2m e w) (hown:q6t w' F.w0.heap.size 3 1 v 0 []) (hgr:w.grownBy w' none) (hblk : ∀b,v.ownBlock=some b->w.heap.size<=b) (hsl : ∃ a n c,v = .slice a n c) :
  ∃ e',Hp F (eS ⟨[],[],[(1000000,⟨0,3,true,.int .i64,[]⟩)]⟩) e' w'/\q16 e' (eS ⟨[],[],[(1000000,⟨0,3,true,.int .i64,[]⟩)]⟩) w' v (.one (.c (.row 1000000 0))):=by
 obtain ⟨hf,hh⟩:=hp.rowNext 1000000 ⟨0,3,1,true,[]⟩ (.slice none 0 0) v [] (Or.inr ⟨rfl,rfl⟩) (fun x hx=>by cases hx) hown hgr (fun r hr=>by cases hr) (fun b hb=>Or.inr (hblk b hb)) trivial (fun u hu=>by cases hu)
 have hrow:(eS ⟨[],[],[(1000000,⟨0,3,true,.int .i64,[]⟩)]⟩).row=upd q2m.row 1000000 (some ⟨0,3,1,true,[]⟩):=by
  funext i
  show (lk [(1000000,(⟨0,3,true,.int .i64,[]⟩:TRow))] i).map eR=_
  rw [q0k]
  unfold upd
  split<;>rfl
 have h2:=hh.re (F':=F) (σ':=eS ⟨[],[],[(1000000,⟨0,3,true,.int .i64,[]⟩)]⟩) rfl rfl rfl rfl rfl (by funext i;rfl) hrow
 refine ⟨_,h2,?_⟩
 show (∃ r,(eS ⟨[],[],[(1000000,⟨0,3,true,.int .i64,[]⟩)]⟩).row 1000000=some r/\0<=r.gen)/\v=j1j e.rv 1000000 0 v 1000000 0/\∃ a n c,v = .slice a n c
 refine ⟨⟨⟨0,3,1,true,[]⟩,by rw [hrow];exact q0q _ _ _,Nat.zero_le _⟩,(q1g _ _ _ _).symm,hsl⟩
set_option maxRecDepth 100000 in
set_option maxHeartbeats 1600000 in
theorem j7o (n:Nat) (w:World) (hn:n<=1000000000000):Calls Tryz.prog 79 #[.slice none 0 0,.int .i64 n] w fun e w'=>∃ v,e = .returned v/\(∀base,base<=w.heap.size->q6t w' base 3 1 v 0 [])/\w.grownBy w' none/\(∀b,v.ownBlock=some b->w.heap.size<=b)/\∃ a n c,v = .slice a n c:=by
 rcases Nat.eq_zero_or_pos n with rfl|h0
 ·go_enter Tryz.func79,Tryz.ntmps79
  go_wp2
  go_ret
  refine ⟨.slice none 0 0,rfl,fun base _=>j31 _ _ _ _,World.grownBy.refl _ _,?_,none,0,0,rfl⟩
  intro b hb
  cases hb
 ·have hi:(0:Int)<(n:Int):=by omega
  have hA:=Lib.run_append_nil_zeros (P:=Tryz.prog) w 39 3 39 3 Tryz.t3 _ .i64 .i64 (by kernel_rfl) (by kernel_rfl) (by kernel_rfl) rfl n h0 (by decide) (by omega) (by show n*8<=_;omega)
  have hgc:=grownCap_ge w n 0 3
  have hgm:=grownCap_le_maxLen w n 0 3 (by unfold maxLen;omega)
  generalize grownCap w n 0 3=cap at hA hgc hgm
  obtain ⟨row,hrow⟩ : ∃ r,Builtin.zeroCells (Tryz.t3.zero.getD undef).cells n++Builtin.zeroCells (Tryz.t3.zero.getD undef).cells (cap - n)=r:=⟨_,rfl⟩
  have hA2:(Builtin.append_ #[39,3] 39 #[.slice none 0 0,.int .i64 n]).run Tryz.prog w = .ok (.slice (some ⟨w.heap.size,0,none⟩) n cap) (w.drew.alloc (.cells row 3)):=by rw [<-hrow];exact hA
  clear hA
  go_enter Tryz.func79,Tryz.ntmps79
  go_wp2_with (at_builtin;refine Lib.wpList_append_run _ rfl _ _ _ _ rfl _ _ rfl rfl _ _ hA2 ?_)
  go_ret
  have hsz:row.size=cap*1:=by
   rw [<-hrow,Array.size_append,size_zeroCells,size_zeroCells]
   have h7:(Tryz.t3.zero.getD undef).cells.size=1:=rfl
   rw [h7];omega
  refine ⟨_,rfl,fun base hb=>⟨rfl,Or.inr ⟨w.heap.size,cap,row,rfl,hb,?_,Nat.zero_le _,hgm,hsz,?_⟩⟩,?_,?_,_,_,_,rfl⟩
  ·exact heap_alloc_new w.drew _
  ·rw [Nat.zero_mul];exact List.take_zero
  ·have h1:=World.grownBy_alloc w.drew (.cells row 3) none
   exact ⟨h1.os,h1.tape,h1.output,h1.size,h1.block⟩
  ·intro b hb
   have:w.heap.size=b:=Option.some.inj hb
   omega
theorem jpv:q8c Inv Tryz.prog jds:=fun G hG=>⟨by kernel_rfl,fun p q h=>by
 obtain ⟨⟨u,n⟩,p2⟩:=p
 have h':qjw u n=some q:=h
 unfold qjw at h'
 split at h'
 case isFalse=>cases h'
 rename_i hn
 obtain rfl:=Option.some.inj h'
 intro F hF e w vs hp hv
 obtain ⟨l⟩:=vs
 match l,hv with
 | [x,y],⟨h1,h2,_⟩ =>
  obtain rfl:x = .slice none 0 0:=q07 h1
  obtain rfl:y = .int .i64 n:=q07 h2
  obtain ⟨m,rfl⟩ : ∃ m:Nat,n=(m:Int):=⟨Int.toNat n,(Int.toNat_of_nonneg hn.1).symm⟩
  refine (j7o m w (by have h7:=hn.2;omega)).mono ?_
  rintro e1 w' ⟨v,rfl,hown,hgr,hblk,hsl⟩
  have hp':Hp F q2m e w:=hp.re (F':=F) (σ':=q2m) rfl rfl rfl rfl rfl (by funext i;rfl) (by funext i;rfl)
  obtain ⟨e',k1,k2⟩:=jmz hp' (hown _ hp.sizeLe) hgr hblk hsl
  exact ⟨v,e',rfl,k1,k2⟩⟩
end YtggoebaobojmjaaGreatDoor.AM
end Go.Proofs
