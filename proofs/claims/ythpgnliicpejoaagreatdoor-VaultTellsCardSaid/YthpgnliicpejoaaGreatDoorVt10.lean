
import Derived.Test.YthpgnliicpejoaaGreatDoorVt9
import Derived.Test.YthpgnliicpejoaaGreatDoorVt5
namespace Go.Proofs.YthpgnliicpejoaaGreatDoor
open Go.RowKit
set_option linter.unusedVariables false
namespace DM
theorem jok {d:Dk} {i:Int} {s:ByteArray} (hm:q2y d) (hi:inD d.secs.length i) (hs:s.size<=32):q2y (jrc d i s):=by
 refine ⟨hm.1,hm.2.1,hm.2.2.1,fun p hp=>?_⟩
 rcases List.mem_append.1 hp with h|h
 ·exact hm.2.2.2 p h
 ·obtain rfl:p=(i,qop s):=by simpa using h
  exact ⟨hi.1,hi.2,j7y s hs⟩
theorem jki (x:ByteArray) (l:List Wr) (i j:Int) (t:ByteArray):q9z x (l ++ [(i,t)]) j=if i=j then t else q9z x l j:=by
 unfold q9z;rw [List.foldl_append];rfl
theorem qun {f g:Nat->Bool} (secs:List ByteArray) (cache:List Wr) (k:Nat) (h : ∀j,j<k->f j=g j):q19 f secs cache k=q19 g secs cache k:=by
 induction k with
 | zero=>rfl
 | succ k ih =>
  unfold q19
  rw [ih (fun j hj=>h j (by omega)),h k (by omega)]
end DM
namespace DiskW
theorem BV.of_owns {w:World} {base:Nat} {e:TypeId} {v:Value} {l:List Bool} {n:Nat} (hn:n=l.length) (h:w.ownsRow base e 1 v n (l.map Value.bool)):BV w v l:=by
 subst hn
 have h':=h
 obtain ⟨h0,h1|⟨g,cap,cur,h1,h2,h3,h4⟩⟩:=h
 ·exact ⟨none,0,by rw [h1.1,h1.2],fun hp=>absurd h1.2 (by omega)⟩
 ·refine ⟨_,cap,h1,fun hp=>⟨g,0,rfl,(Array.getElem?_eq_some_iff.1 h3).1,fun j hj=>?_⟩⟩
  subst h1
  rw [show (⟨g,0+j,none⟩:Addr)=⟨g,j,none⟩ from by simp,h'.cellAt j (by omega)]
  simp [hj]
end DiskW
end Go.Proofs.YthpgnliicpejoaaGreatDoor
namespace Go.Proofs.YthpgnliicpejoaaGreatDoor
open Go.RowKit
set_option linter.unusedVariables false
namespace DM
abbrev Ac:=Bool×Int×ByteArray
def q9h (n:Nat) (a:Ac):Prop:=a.1=true\/q8q n a.2.1 a.2.2=0
instance (n:Nat) (a:Ac):Decidable (q9h n a):=by unfold q9h;infer_instance
def q9g (d:Dk) (a:Ac):Dk:=if a.1 then q3r (fun _=>true) d else jrc d a.2.1 a.2.2
def runK (d:Dk) (l:List Ac):Dk:=l.foldl q9g d
theorem jhi (d:Dk) (l:List Ac) (k:Nat) (h:k<l.length):runK d (l.take (k+1))=q9g (runK d (l.take k)) l[k]:=by
 unfold runK;rw [<-List.take_append_getElem h,List.foldl_append];rfl
theorem qy5 (d:Dk) (a:Ac):(q9g d a).secs.length=d.secs.length:=by
 unfold q9g;split
 ·exact q1w _ _ _ _
 ·rfl
theorem j6x (d:Dk) (l:List Ac):(runK d l).secs.length=d.secs.length:=by
 unfold runK
 induction l generalizing d with
 | nil=>rfl
 | cons a t ih=>rw [List.foldl_cons,ih,qy5]
theorem j0s (d:Dk) (a:Ac):(q9g d a).cache.length<=d.cache.length+1:=by
 unfold q9g;split
 ·exact Nat.zero_le _
 ·show (d.cache ++ [_]).length<=_;simp
theorem ja3 (d:Dk) (l:List Ac):(runK d l).cache.length<=d.cache.length+l.length:=by
 unfold runK
 induction l generalizing d with
 | nil=>simp
 | cons a t ih =>
  rw [List.foldl_cons]
  have h1:=ih (q9g d a)
  have h2:=j0s d a
  simp only [List.length_cons];omega
theorem jcr {n:Nat} {i:Int} {s:ByteArray} (h:q8q n i s=0):inD n i/\s.size<=32:=by
 unfold q8q at h
 by_cases h1:inD n i
 ·rw [if_pos h1] at h
  by_cases h2:32<s.size
  ·rw [if_pos h2] at h;omega
  ·exact ⟨h1,by omega⟩
 ·rw [if_neg h1] at h;omega
theorem j0y {keep:Nat->Bool} {secs:List ByteArray} {cache:List Wr} (hs : ∀s∈secs,s.size=32) (hc : ∀p∈cache,p.2.size=32) (k:Nat) (hk:k<=cache.length) : ∀s∈q19 keep secs cache k,s.size=32:=by
 induction k with
 | zero=>exact hs
 | succ k ih =>
  unfold q19
  have hg:cache.getD k (0,⟨#[]⟩)=cache[k]:=by simp [List.getD,show k<cache.length from hk]
  split
  ·intro s h
   rw [hg] at h
   rcases List.mem_or_eq_of_mem_set h with h1|h1
   ·exact ih (by omega) s h1
   ·rw [h1];exact hc _ (List.getElem_mem _)
  ·exact ih (by omega)
theorem j81 {d:Dk} (h:q2y d) (keep:Nat->Bool):q2y (q3r keep d):=by
 have hl:(q3r keep d).secs.length=d.secs.length:=q1w _ _ _ _
 exact ⟨by rw [hl];exact h.1,by rw [hl];exact h.2.1,j0y h.2.2.1 (fun p hp=>(h.2.2.2 p hp).2.2) _ (Nat.le_refl _),fun p hp=>by cases hp⟩
theorem jk3 {d:Dk} {a:Ac} (h:q2y d) (ha:q9h d.secs.length a):q2y (q9g d a):=by
 unfold q9g
 by_cases h1:a.1=true
 ·rw [if_pos h1];exact j81 h _
 ·rw [if_neg h1]
  obtain ⟨hi,hs⟩:=jcr (ha.resolve_left h1)
  exact jok h hi hs
theorem jeb {d:Dk} {l:List Ac} (h:q2y d) (ha : ∀a∈l,q9h d.secs.length a):q2y (runK d l):=by
 unfold runK
 induction l generalizing d with
 | nil=>exact h
 | cons a t ih =>
  rw [List.foldl_cons]
  exact ih (jk3 h (ha a (List.mem_cons_self ..))) (fun b hb=>by rw [qy5];exact ha b (List.mem_cons_of_mem _ hb))
def qoq (n:Nat):List Ac->Int
 | []=>0
 | a::t=>if q9h n a then qoq n t else q8q n a.2.1 a.2.2
theorem j7u (n:Nat) (l:List Ac) (h : ∀a∈l,q9h n a):qoq n l=0:=by
 induction l with
 | nil=>rfl
 | cons a t ih=>unfold qoq;rw [if_pos (h a (List.mem_cons_self ..))];exact ih (fun b hb=>h b (List.mem_cons_of_mem _ hb))
theorem je7 (n:Nat) (l:List Ac) (k:Nat) (hk:k<l.length) (h : ∀j (hj:j<l.length),j<k->q9h n l[j]) (hb : ¬ q9h n l[k]):qoq n l=q8q n l[k].2.1 l[k].2.2/\qoq n l≠0:=by
 induction l generalizing k with
 | nil=>simp at hk
 | cons a t ih =>
  cases k with
  | zero =>
   have hb' : ¬ q9h n a:=hb
   unfold qoq;rw [if_neg hb']
   exact ⟨rfl,fun e=>hb' (Or.inr e)⟩
  | succ k =>
   have h0:q9h n a:=h 0 (by simp) (by omega)
   have:=ih k (by simpa using hk) (fun j hj hjk=>h (j+1) (by simpa using hj) (by omega)) hb
   unfold qoq
   rw [if_pos h0]
   exact this
def jlc (d:Dk) (l:List Ac):Int:=if q2y d then qoq d.secs.length l else 1
def jpm (d:Dk) (l:List Ac):Dk:=if q2y d/\qoq d.secs.length l=0 then runK d l else d
def AV (w:World) (v:Value) (l:List Ac):Prop:=∃ a cap,v = .slice a l.length cap/\l.length<=cap/\cap<=9223372036854775807/\(0<l.length->∃ b off,a=some ⟨b,off,none⟩/\b<w.heap.size/\∀k (h:k<l.length),w.cell? ⟨b,off+k*3,none⟩=some (.bool l[k].1)/\w.cell? ⟨b,off+k*3+1,none⟩=some (.int .i64 l[k].2.1)/\w.cell? ⟨b,off+k*3+2,none⟩=some (.string l[k].2.2))
theorem AV.below {w w':World} {v:Value} {l:List Ac} (h:AV w v l) (hb:Below w.heap.size w w'):AV w' v l:=by
 obtain ⟨a,cap,h1,h6,h7,h2⟩:=h
 refine ⟨a,cap,h1,h6,h7,fun h0=>?_⟩
 obtain ⟨b,off,h3,h4,h5⟩:=h2 h0
 exact ⟨b,off,h3,Nat.lt_of_lt_of_le h4 hb.size,fun k hk=>⟨(hb.cell (p:=⟨b,off+k*3,none⟩) h4).trans (h5 k hk).1,(hb.cell (p:=⟨b,off+k*3+1,none⟩) h4).trans (h5 k hk).2.1,(hb.cell (p:=⟨b,off+k*3+2,none⟩) h4).trans (h5 k hk).2.2⟩⟩
end DM
end Go.Proofs.YthpgnliicpejoaaGreatDoor
namespace Go.Proofs.YthpgnliicpejoaaGreatDoor.AM
open Go.RowKit Go.ChangeShapes Go.WideShapes Go.ChangeAt
set_option linter.unusedVariables false
def ji6 (l:List DM.Ac):List (List Dat):=l.map fun a=>[.v (.bool a.1),.v (.int .i64 a.2.1),.v (.string a.2.2)]
def j07 (l:List Bool):List (List Dat):=l.map fun b=>[.v (.bool b)]
@[push_cast] theorem actD_len (l:List DM.Ac):(ji6 l).length=l.length:=by simp [ji6]
@[push_cast] theorem bolD_len (l:List Bool):(j07 l).length=l.length:=by simp [j07]
theorem jlh {l:List DM.Ac} {k:Nat} (h:k<l.length):(ji6 l).getD k [] = [.v (.bool l[k].1),.v (.int .i64 l[k].2.1),.v (.string l[k].2.2)]:=by simp [ji6,List.getD,h]
theorem jj4 {l:List Bool} {k:Nat} (h:k<l.length):(j07 l).getD k [] = [.v (.bool l[k])]:=by simp [j07,List.getD,h]
abbrev jb2 (sz:Nat) (xs:List (List Dat)):D:=.one (.c (.d (.lst sz xs)))
abbrev qpx (d:DM.Dk) (x:Int):D:=.tup [dk1 d,.c (qd8 (.int .i64 x))]
section
variable {Pc:Nat->Nat->Prop} {w:World}
theorem jau {v:Value} {sz:Nat} {xs:List (List Dat)} (hlt : ∀b o,Pc b o->b<w.heap.size) (hsz:0<sz) (h:DatRep Pc w v (.lst sz xs)) :
  ∃ a cap,v = .slice a xs.length cap/\xs.length<=cap/\cap<=maxLen/\(0<xs.length->∃ b off,a=some ⟨b,off,none⟩/\b<w.heap.size /\
   ∀k j (hk:k<xs.length) (hj:j<(xs[k]).length),∃ c,w.cell? ⟨b,off+k*sz+j,none⟩=some c/\DatRep Pc w c ((xs[k])[j])):=by
 cases h with
 | lst a n cap _ _ b off c hn hcap hmax hsz' ha hc hr =>
  subst hn
  exact ⟨a,cap,rfl,hcap,hmax,fun h0=>⟨b,off,ha h0,hlt _ _ (hc 0 0 h0 hsz).1,fun k j hk hj=>⟨c k j,(hc k j hk (by rw [hsz' _ (List.getElem_mem hk)] at hj;exact hj)).2.1,hr k j hk hj⟩⟩⟩
theorem jng {v x:Value} (h:DatRep Pc w v (.v x)):v=x:=by cases h;rfl
theorem jo0 {v:Value} {l:List ByteArray} (hlt : ∀b o,Pc b o->b<w.heap.size) (h:DatRep Pc w v (.lst 1 (qd9 l))) : ∃ a cap,v = .slice a l.length cap/\l.length<=cap/\cap<=maxLen/\RM.SV w v l:=by
 obtain ⟨a,cap,e,h1,h2,h3⟩:=jau hlt (by decide) h
 have hl:=j4f l
 rw [hl] at e h1
 refine ⟨a,cap,e,h1,h2,a,cap,e,fun h0=>?_⟩
 obtain ⟨b,off,ea,hb,hc⟩:=h3 (by omega)
 refine ⟨b,off,ea,hb,fun j hj=>?_⟩
 obtain ⟨c,g1,g2⟩:=hc j 0 (by omega) (by simp [qd9])
 simp only [qd9,List.getElem_map,List.getElem_cons_zero] at g2
 rw [jng g2] at g1
 simpa using g1
theorem wv_of {v:Value} {l:List DM.Wr} (hlt : ∀b o,Pc b o->b<w.heap.size) (h:DatRep Pc w v (.lst 2 (qoy l))) : ∃ a cap,v = .slice a l.length cap/\l.length<=cap/\cap<=maxLen/\DM.WV w v l:=by
 obtain ⟨a,cap,e,h1,h2,h3⟩:=jau hlt (by decide) h
 have hl:=j61 l
 rw [hl] at e h1
 refine ⟨a,cap,e,h1,h2,a,cap,e,fun h0=>?_⟩
 obtain ⟨b,off,ea,hb,hc⟩:=h3 (by omega)
 refine ⟨b,off,ea,hb,fun j hj=>⟨?_,?_⟩⟩
 ·obtain ⟨c,g1,g2⟩:=hc j 0 (by omega) (by simp [qoy])
  simp only [qoy,List.getElem_map,List.getElem_cons_zero] at g2
  rw [jng g2] at g1
  simpa using g1
 ·obtain ⟨c,g1,g2⟩:=hc j 1 (by omega) (by simp [qoy])
  simp only [qoy,List.getElem_map,List.getElem_cons_succ,List.getElem_cons_zero] at g2
  rw [jng g2] at g1
  exact g1
theorem jnh {v:Value} {d:DM.Dk} (hlt : ∀b o,Pc b o->b<w.heap.size) (h:q1z (q1y Pc) q2d w v (.one (dk1 d))) :
  ∃ a1 k1 a2 k2,v = .agg #[.slice a1 d.secs.length k1,.slice a2 d.cache.length k2]/\DM.DV w (.slice a1 d.secs.length k1) (.slice a2 d.cache.length k2) d/\d.secs.length<=maxLen/\d.cache.length<=maxLen:=by
 obtain ⟨vs,rfl,hv⟩:=h
 obtain ⟨l⟩:=vs
 match l,hv with
 | [x,y],⟨h1,h2,_⟩ =>
  obtain ⟨a1,k1,rfl,c1,c2,s1⟩:=jo0 hlt h1
  obtain ⟨a2,k2,rfl,c3,c4,s2⟩:=wv_of hlt h2
  exact ⟨a1,k1,a2,k2,rfl,⟨s1,s2⟩,by omega,by omega⟩
theorem jnr {r:Value->D->Prop} {vs:Array Value} {d:D} (h:q1a r vs.toList [d]) : ∃ v,vs = #[v]/\r v d:=by
 obtain ⟨l⟩:=vs
 match l,h with
 | [x],⟨h1,_⟩=>exact ⟨x,rfl,h1⟩
theorem jcs {a:Option Addr} {n k:Nat} {l:List ByteArray} (h:RM.SV w (.slice a n k) l) (h1:n<=k) (h2:k<=maxLen) (hP : ∀g,(Value.slice a n k).ownBlock=some g->∀o,g<w.heap.size->Pc g o):DatRep Pc w (.slice a n k) (.lst 1 (qd9 l)):=by
 obtain ⟨a',c',e,h⟩:=h
 simp only [Value.slice.injEq] at e
 obtain ⟨rfl,rfl,rfl⟩:=e
 have hl:=j4f l
 have hx : ∀x∈qd9 l,x.length=1:=fun x hx=>by
  unfold qd9 at hx
  obtain ⟨s,_,rfl⟩:=List.mem_map.1 hx
  rfl
 by_cases h0:0<l.length
 ·obtain ⟨b,off,rfl,hb,hc⟩:=h h0
  refine .lst _ _ _ 1 _ b off (fun k _=>.string (l.getD k ⟨#[]⟩)) hl.symm h1 h2 hx (fun _=>rfl) (fun k j hk hj=>?_) (fun k j hk hj=>?_)
  ·have hk':k<l.length:=by omega
   obtain rfl:j=0:=by omega
   refine ⟨hP b rfl _ hb,?_,rfl⟩
   simp only [Nat.mul_one,Nat.add_zero,List.getD,List.getElem?_eq_getElem hk',Option.getD_some]
   exact hc k hk'
  ·have hk':k<l.length:=by omega
   have hj':=hx _ (List.getElem_mem hk)
   obtain rfl:j=0:=by omega
   simp only [qd9,List.getElem_map,List.getElem_cons_zero,List.getD,List.getElem?_eq_getElem hk',Option.getD_some]
   exact .v _
 ·exact .lst _ _ _ 1 _ 0 0 (fun _ _=>undef) hl.symm h1 h2 hx (fun h=>by omega) (fun k j hk=>by omega) (fun k j hk=>by omega)
theorem jt1 {a:Option Addr} {n k:Nat} {l:List DM.Wr} (h:DM.WV w (.slice a n k) l) (h1:n<=k) (h2:k<=maxLen) (hP : ∀g,(Value.slice a n k).ownBlock=some g->∀o,g<w.heap.size->Pc g o):DatRep Pc w (.slice a n k) (.lst 2 (qoy l)):=by
 obtain ⟨a',c',e,h⟩:=h
 simp only [Value.slice.injEq] at e
 obtain ⟨rfl,rfl,rfl⟩:=e
 have hl:=j61 l
 have hx : ∀x∈qoy l,x.length=2:=fun x hx=>by
  unfold qoy at hx
  obtain ⟨s,_,rfl⟩:=List.mem_map.1 hx
  rfl
 by_cases h0:0<l.length
 ·obtain ⟨b,off,rfl,hb,hc⟩:=h h0
  refine .lst _ _ _ 2 _ b off (fun k j=>if j=0 then .int .i64 (l.getD k (0,⟨#[]⟩)).1 else .string (l.getD k (0,⟨#[]⟩)).2) hl.symm h1 h2 hx (fun _=>rfl) (fun k j hk hj=>?_) (fun k j hk hj=>?_)
  ·have hk':k<l.length:=by omega
   obtain rfl|rfl:j=0\/j=1:=by omega
   ·refine ⟨hP b rfl _ hb,?_,rfl⟩
    simp only [if_true,Nat.add_zero,List.getD,List.getElem?_eq_getElem hk',Option.getD_some]
    exact (hc k hk').1
   ·refine ⟨hP b rfl _ hb,?_,rfl⟩
    simp only [Nat.one_ne_zero,if_false,List.getD,List.getElem?_eq_getElem hk',Option.getD_some]
    exact (hc k hk').2
  ·have hk':k<l.length:=by omega
   have hj':=hx _ (List.getElem_mem hk)
   obtain rfl|rfl:j=0\/j=1:=by omega
   ·simp only [qoy,List.getElem_map,List.getElem_cons_zero,if_true,List.getD,List.getElem?_eq_getElem hk',Option.getD_some]
    exact .v _
   ·simp only [qoy,List.getElem_map,List.getElem_cons_succ,List.getElem_cons_zero,Nat.one_ne_zero,if_false,List.getD,List.getElem?_eq_getElem hk',Option.getD_some]
    exact .v _
 ·exact .lst _ _ _ 2 _ 0 0 (fun _ _=>undef) hl.symm h1 h2 hx (fun h=>by omega) (fun k j hk=>by omega) (fun k j hk=>by omega)
end
section
variable {H:Type} {enc:TypeId×Value->H} {W:World} {base:Nat} {v:Value} {d:DataW H} {p:List MemPlace}
end
end Go.Proofs.YthpgnliicpejoaaGreatDoor.AM
namespace Go.Proofs.YthpgnliicpejoaaGreatDoor
open Go.RowKit
set_option linter.unusedVariables false
namespace DM
def fewA (l:List Ac):Prop:=l.length<=200/\∀a∈l,a.2.2.size<=100
instance (l:List Ac):Decidable (fewA l):=by unfold fewA;infer_instance
end DM
namespace DiskW
end DiskW
end Go.Proofs.YthpgnliicpejoaaGreatDoor
namespace Go.Proofs.YthpgnliicpejoaaGreatDoor
open Go.RowKit
set_option linter.unusedVariables false
namespace DM
theorem Var.set2 {w:World} {b:Nat} {x y u v:Value} (h:Var w b x y):Var ((w.setCell ⟨b,0,none⟩ u).setCell ⟨b,1,none⟩ v) b u v:=by
 have hb:=DiskW.qsy (u:=u) (v:=v) h.c0 h.c1
 exact ⟨hb.1,hb.2.1,hb.2.2,by rw [World.frozen?_setCell,World.frozen?_setCell];exact h.f0,by rw [World.frozen?_setCell,World.frozen?_setCell];exact h.f1⟩
end DM
namespace DiskW
end DiskW
end Go.Proofs.YthpgnliicpejoaaGreatDoor
