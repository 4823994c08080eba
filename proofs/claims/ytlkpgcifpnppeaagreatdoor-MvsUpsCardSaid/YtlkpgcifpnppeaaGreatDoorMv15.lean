
import Derived.Test.YtlkpgcifpnppeaaGreatDoorMv14
import Derived.Shelf.SlSortCmp.NoneTotal
import Derived.Shelf.Lay
import Derived.Ground.SlsfProg
import Derived.Test.YtlkpgcifpnppeaaGreatDoorMv8
set_option linter.unusedVariables false
set_option linter.unusedSimpArgs false
namespace Go.Proofs
open Go.RowKit Go.Shelf Go.Lib
attribute [local go_sem] Oper.semAt_some
namespace YtlkpgcifpnppeaaGreatDoor.AM
def qbv (l:List QD):List QD:=(Go.Sort.insertionSort (ltOf q10) l.toArray 0 l.length).toList
theorem qef (lt:QD->QD->Bool) (a:Nat) : ∀(j:Nat) (d:Array QD),(Go.Sort.insInner lt a j d).size=d.size
 | 0,d=>rfl
 | j+1,d=>by
  unfold Go.Sort.insInner
  split
  ·rw [qef lt a j];simp [Go.Sort.swp]
  ·rfl
theorem qfe (lt:QD->QD->Bool) (a b:Nat) : ∀(n i:Nat) (d:Array QD),b - i<=n->(Go.Sort.insOuter lt a b i d).size=d.size
 | 0,i,d,h=>by
  unfold Go.Sort.insOuter
  rw [if_neg (by omega)]
 | n+1,i,d,h=>by
  unfold Go.Sort.insOuter
  split
  ·rw [qfe lt a b n (i+1) _ (by omega),qef]
  ·rfl
theorem qa8 (l:List QD):(qbv l).length=l.length:=by
 unfold qbv Go.Sort.insertionSort
 rw [Array.length_toList,qfe _ _ _ _ _ _ (Nat.le_refl _)]
 simp
set_option maxRecDepth 1000000 in
theorem qx9 (w:World) (v f:Value) (a b:Nat) (ha:a<=100) (h:b<=a+1):Calls Tryz.prog 93 #[v,.int .i64 a,.int .i64 b,f] w fun e w'=>(∃ v',e = .returned v')/\w'=w:=by
 obtain ⟨a1,h1⟩ : ∃ a1,a1=a+1:=⟨_,rfl⟩
 have hw:IntKind.i64.wrap ((a:Int)+1)=((a1:Nat):Int):=by rw [IntKind.wrap_i64];omega
 have hn : ¬ (a1:Int)<(b:Int):=by omega
 clear h1
 go_enter Tryz.func93,Tryz.ntmps93
 go_wp2_with fail
 refine wp_loop_rounds 1 ?_
 rw [rounds_succ]
 go_wp2_with fail
 go_end0
 exact ⟨⟨_,rfl⟩,rfl⟩
theorem jne (w:World) (hI:Inv w) (B g cap:Nat) (cur:Array Value) (l:List QD) (hB:B<=g) (hBI : ∀w',w.grownBy w' (some g)->Inv w') (hg:w.heap[g]? = some (.cells cur 27 (0,0))) (hn:l.length<=cap) (hc:cap<=maxLen) (hs:cur.size=cap*6) (ht:cur.toList.take (l.length*6)=cvs qcv l) (hl:l.length<=1000000) :
  Calls Tryz.prog 93 #[.slice (some ⟨g,0,none⟩) l.length cap,.int .i64 0,.int .i64 (l.length:Int),.func (.func 56) #[] #[]] w fun e w'=>(∃ v',e = .returned v') /\
   w'.ownsRow B 27 6 (.slice (some ⟨g,0,none⟩) l.length cap) l.length (cvs qcv (qbv l))/\w.grownBy w' (some g):=by
 have hsz:l.toArray.size=l.length:=by simp
 have hH:=qzg (T:=QT) q64 (fun x:QD=>x) l.toArray w g 27 cur hg (by rw [show l.toArray.toList.map (fun x:QD=>x)=l from by simp];exact ht)
 have hgr : ∀(m:Nat) (dk:Array QD) (os:Array Obj),w.grownBy (sortWorldK (fun x:QD=>qcv x) 6 w g 0 m dk os) (some g):=fun m dk os=>qvf w g 27 cur hg m dk os
 have hX:=AnyQ.insertionSortCmpFunc (P:=Tryz.prog) (ρ:=Tryz.sortQ_ren) { Tryz.sortQ with } 6 Tryz.isAgg27 Tryz.sizeOf27 (fun x:QD=>qcv x) (fun x=>q64.len x) (fun x=>q64.one x) q10 56 #[] g 0 cap 0 l.length l.toArray w
  (enters_of Tryz.func56 (by kernel_rfl) rfl) (fun m os dk hdk x y=>qme _ (hBI _ (hgr m dk os)) x y) hH (q39 hg) (Nat.zero_le _) (by simp) (by rw [hsz];omega)
 rw [hsz] at hX
 refine Calls.mono (hX) ?_
 rintro e w' ⟨rfl,n,os,rfl⟩
 have hsz2:(Go.Sort.insertionSort (ltOf q10) l.toArray 0 l.length).size=l.length:=by have h:=qa8 l;unfold qbv at h;rwa [Array.length_toList] at h
 have hO:=qhf (T:=QT) q64 (fun x:QD=>x) l.toArray (Go.Sort.insertionSort (ltOf q10) l.toArray 0 l.length) w B g 27 cap n cur os hB hg (by rw [hsz];exact hn) hc hs (by rw [hsz2,hsz]) (by rw [show l.toArray.toList.map (fun x:QD=>x)=l from by simp];exact ht)
 rw [hsz] at hO
 refine ⟨⟨_,rfl⟩,?_,hgr n _ os⟩
 have h9:=hO.1
 rw [show (Go.Sort.insertionSort (ltOf q10) l.toArray 0 l.length).toList.map (fun x:QD=>x)=qbv l from by unfold qbv;simp] at h9
 exact h9
theorem qm5 (w:World) (v f:Value) (n:Nat) (h:n<20) (R:World->Prop) (hS:Calls Tryz.prog 93 #[v,.int .i64 0,.int .i64 (n:Int),f] w fun e w'=>(∃ v',e = .returned v')/\R w') :
  Calls Tryz.prog 78 #[v,.int .i64 (n:Int),f] w fun e w'=>(∃ v',e = .returned v')/\R w':=by
 have h20 : ¬ (20:Int)<(n:Int):=by omega
 have h20b : ¬ (20:Int)<=(n:Int):=by omega
 clear h
 go_enter Tryz.func78,Tryz.ntmps78
 go_wp2_with fail
 refine wp_loop_rounds 1 ?_
 rw [rounds_succ]
 go_wp2_with (go_at_call 93;refine hS.mono ?_)
 rintro e w' ⟨⟨v',rfl⟩,h1⟩
 clear hS
 go_wp2_with fail
 refine wp_loop_rounds 1 ?_
 rw [rounds_succ]
 go_wp2_with fail
 go_end0
 exact ⟨⟨_,rfl⟩,h1⟩
theorem qvk (w:World) (v f:Value) (n:Nat) (h:n=20) (R:World->Prop) (hS:Calls Tryz.prog 93 #[v,.int .i64 0,.int .i64 20,f] w fun e w'=>(∃ v',e = .returned v')/\R w') :
  Calls Tryz.prog 78 #[v,.int .i64 (n:Int),f] w fun e w'=>(∃ v',e = .returned v')/\R w':=by
 have h20 : ¬ (20:Int)<(n:Int):=by omega
 have h20c:(20:Int)<=(n:Int):=by omega
 have h40 : ¬ (40:Int)<=(n:Int):=by omega
 have hsh : ∀w2,Calls Tryz.prog 93 #[v,.int .i64 20,.int .i64 (n:Int),f] w2 fun e w'=>(∃ v',e = .returned v')/\w'=w2:=fun w2=>qx9 w2 _ _ 20 n (by omega) (by omega)
 have HSH:=hid hsh
 clear hsh h
 go_enter Tryz.func78,Tryz.ntmps78
 go_wp2_with fail
 refine wp_loop_rounds 2 ?_
 rw [rounds_succ]
 go_wp2_with (go_at_call 93;refine hS.mono ?_)
 rintro e w' ⟨⟨v',rfl⟩,h1⟩
 clear hS
 go_wp2_with fail
 rw [rounds_succ]
 go_wp2_with (go_at_call 93;refine (HSH.out _).mono ?_)
 rintro e w2 ⟨⟨v2,rfl⟩,rfl⟩
 go_wp2_with fail
 refine wp_loop_rounds 1 ?_
 rw [rounds_succ]
 go_wp2_with fail
 go_end0
 exact ⟨⟨_,rfl⟩,h1⟩
end YtlkpgcifpnppeaaGreatDoor.AM
end Go.Proofs
namespace Go.Proofs.YtlkpgcifpnppeaaGreatDoor.AM
open Go.RowKit
theorem qyh (x:QD) : ∀(S B:List QD),Go.Sort.insInner (ltOf q10) 0 S.length (S.reverse++x::B).toArray=((q8t x S).reverse++B).toArray
 | [],B=>rfl
 | y::S,B=>by
  have h1:((y::S).reverse++x::B).toArray[S.length+1]! = x:=by
   rw [getElem!_pos _ _ (by simp)]
   simp [List.getElem_append_right]
  have h0:((y::S).reverse++x::B).toArray[S.length]! = y:=by
   rw [getElem!_pos _ _ (by simp)]
   simp [List.getElem_append_left,List.getElem_append_right]
  have hsw:Go.Sort.swp ((y::S).reverse++x::B).toArray (S.length+1) S.length=(S.reverse++x::(y::B)).toArray:=by
   unfold Go.Sort.swp
   rw [h1,h0,List.setIfInBounds_toArray,List.setIfInBounds_toArray]
   congr 1
   have e1:(y::S).reverse++x::B=S.reverse++y::x::B:=by simp
   rw [e1,List.set_append_right _ _ (by simp),List.set_append_right _ _ (by simp)]
   simp
  show Go.Sort.insInner (ltOf q10) 0 (S.length+1) _=_
  unfold Go.Sort.insInner
  rw [h1,h0,hsw]
  unfold q8t
  by_cases h:q10 x y<0
  ·have hl:ltOf q10 x y=true:=decide_eq_true h
   rw [hl,if_pos (by simp),if_pos h,qyh x S (y::B)]
   simp
  ·have hl:ltOf q10 x y=false:=decide_eq_false h
   rw [hl,if_neg (by simp),if_neg h]
   simp
theorem qw9 (x:QD) : ∀a:List QD,(q8t x a).length=a.length+1
 | []=>rfl
 | y::t=>by
  unfold q8t
  split
  ·simp [qw9 x t]
  ·rfl
theorem qyy : ∀(R S:List QD),Go.Sort.insOuter (ltOf q10) 0 (S.length+R.length) S.length (S.reverse++R).toArray=(j3t S R).reverse.toArray
 | [],S=>by
  unfold Go.Sort.insOuter
  rw [if_neg (by simp),List.append_nil];rfl
 | x::R,S=>by
  unfold Go.Sort.insOuter
  rw [if_pos (by simp),qyh x S R]
  have:=qyy R (q8t x S)
  rw [qw9] at this
  rw [show S.length+(x::R).length=S.length+1+R.length from by rw [List.length_cons];omega]
  exact this
theorem j6b (l:List QD):qbv l=quu l:=by
 unfold qbv quu Go.Sort.insertionSort
 cases l with
 | nil =>
  unfold Go.Sort.insOuter
  rw [if_neg (by simp)];rfl
 | cons x r =>
  have:=qyy r [x]
  rw [show (x::r).length = [x].length+r.length from by rw [List.length_cons,List.length_singleton];omega]
  show (Go.Sort.insOuter (ltOf q10) 0 ([x].length+r.length) [x].length ([x].reverse++r).toArray).toList=_
  rw [this];rfl
end Go.Proofs.YtlkpgcifpnppeaaGreatDoor.AM
namespace Go.Proofs.YtlkpgcifpnppeaaGreatDoor.AM
open Go.RowKit
def j3m (L:List QD) (p:Yy):Option QD:=L.find? fun x=>decide (x.1=p)
def qvr (L:List QD) (r:QD):Bool:=match j3m L r.1 with
 | some y=>decide (0<=q3d y.2 r.2)
 | none=>false
def j9y (L:List QD) (r:QD):Bool:=match j3m L r.1 with
 | some y=>decide (q3d y.2 r.2=0)
 | none=>false
def q1q (root:List QD) (l:List ND):List QD:=qih (q0d root l)
theorem jfu {L:List QD} {y:QD} (h : ∀x∈L,∀z∈L,x.1=z.1->x=z) (hy:y∈L):j3m L y.1=some y:=by
 unfold j3m
 cases hf:L.find? fun x=>decide (x.1=y.1) with
 | none =>
  rw [List.find?_eq_none] at hf
  have:=hf y hy
  simp at this
 | some z =>
  have h1:=List.mem_of_find?_eq_some hf
  have h2:z.1=y.1:=by simpa using List.find?_some hf
  rw [h z h1 y hy h2]
theorem jji (all:List QD) (p:Yy):j3m (qih all) p=ofQ all p:=by
 have hL:=q6u all
 cases h:ofQ all p with
 | some y =>
  obtain ⟨h1,h2⟩:=q4d h
  rw [<-h2]
  exact jfu (q6k hL.rises) ((hL.mem y).2 (by rw [h2];exact h))
 | none =>
  unfold j3m
  rw [List.find?_eq_none]
  intro x hx
  have h1:=(hL.mem x).1 hx
  have:=qjf p all h x (q4d h1).1
  simpa using this
theorem q4h {root:List QD} {l:List ND} {x:QD} (h:x∈q1q root l):x∈q0d root l:=(q4d (((q6u _).mem x).1 h)).1
theorem joa {root:List QD} {l:List ND} {x:QD} (h:x∈q1q root l):q3b x=true:=q53 (q4h h)
theorem q7i {root:List QD} {l:List ND} {x:QD} (h:Rch root l x) : ∃ y,j3m (q1q root l) x.1=some y/\y∈q0d root l/\y.1=x.1/\q3d x.2 y.2<=0:=by
 have hx:=(q0r _ _ _).2 h
 obtain ⟨y,hy⟩:=qkz hx
 obtain ⟨h1,h2⟩:=q4d hy
 exact ⟨y,by unfold q1q;rw [jji];exact hy,h1,h2,jdi (fun z hz=>q53 hz) hy hx rfl⟩
theorem qam {root:List QD} {l:List ND} {x:QD} (h:Rch root l x):qvr (q1q root l) x=true:=by
 obtain ⟨y,h1,h2,h3,h4⟩:=q7i h
 unfold qvr
 rw [h1]
 have:=q2n x.2 y.2
 exact decide_eq_true (by omega)
theorem jkv {root:List QD} {l:List ND} {x z:QD} (h:Rch root l x) (hz:q3b z=true) (hp:z.1=x.1) (hc:q3d z.2 x.2<=0):qvr (q1q root l) z=true:=by
 obtain ⟨y,h1,h2,h3,h4⟩:=q7i h
 unfold qvr
 rw [hp,h1]
 have:=q2n z.2 y.2
 have h5:=qhz (q3q hz) (q3q (qls h)) (q3q (q53 h2)) hc h4
 exact decide_eq_true (by omega)
theorem j38 (root:List QD) (l:List ND) (i j:Nat) (hij:i<j) (hj:j<(q1q root l).length):cmpL qix ((q1q root l)[i]'(by omega)).1 ((q1q root l)[j]).1<0:=List.pairwise_iff_getElem.1 (q6u (q0d root l)).rises i j (by have:=hj;unfold q1q at this;omega) hj hij
theorem qg6 {α:Type} [DecidableEq α] : ∀{a b:List α},a.Nodup->(∀x∈a,x∈b)->a.length<=b.length
 | [],b,_,_=>Nat.zero_le _
 | x::a,b,h,hs=>by
  obtain ⟨h1,h2⟩:=List.nodup_cons.1 h
  have hx:x∈b:=hs x (List.mem_cons_self ..)
  have:=qg6 (b:=b.erase x) h2 fun y hy=>by
   have hne:y≠x:=fun e=>h1 (e ▸ hy)
   exact (List.mem_erase_of_ne hne).2 (hs y (List.mem_cons_of_mem _ hy))
  rw [List.length_erase_of_mem hx] at this
  have:=List.length_pos_of_mem hx
  simp only [List.length_cons];omega
theorem qyc (root:List QD) (l:List ND):((q1q root l).map (·.1)).Nodup:=by
 have h:=(q6u (q0d root l)).rises
 rw [List.Nodup,List.pairwise_map]
 exact h.imp (S:=fun (a b:QD)=>a.1≠b.1) fun {a b} (hab:ltP a b) (e':a.1=b.1)=>by
  unfold ltP at hab
  rw [e',(q1j q1o).refl] at hab
  omega
theorem qpo {a b:List QD} {l m:List ND} (h : ∀x,Rch a l x->Rch b m x):(q1q a l).length<=(q1q b m).length:=by
 have:=qg6 (qyc a l) (b:=(q1q b m).map (·.1)) fun p hp=>by
  obtain ⟨x,hx,rfl⟩:=List.mem_map.1 hp
  obtain ⟨y,h1,h2,h3,h4⟩:=q7i (h x ((q0r _ _ _).1 (q4h hx)))
  have:=List.mem_of_find?_eq_some h1
  exact List.mem_map.2 ⟨y,this,h3⟩
 simpa using this
theorem q72 (root:List QD) (l:List ND):(q1q root l).length<=(q0d root l).length:=by
 refine qf6 ?_ fun x hx=>q4h hx
 exact ((q6u (q0d root l)).rises).imp (S:=fun (a b:QD)=>a≠b) fun {a b} (hab:ltP a b) (e:a=b)=>q7s a (by rw [<-e] at hab;exact hab)
theorem qy9 {root:List QD} {l:List ND} {x:QD} (h:Rch (q1q root l) l x):Rch root l x:=q78 (fun z hz _=>(q0r _ _ _).1 (q4h hz)) h
theorem qsg {root:List QD} {l:List ND} {x:QD} (h:x∈q1q root l):Rch (q1q root l) l x:=.base x h (joa h)
theorem j8j {root:List QD} {l:List ND} {x:QD} (h:x∈q1q root l):j9y (q1q (q1q root l) l) x=true:=by
 obtain ⟨y,h1,h2,h3,h4⟩:=q7i (qsg h)
 unfold j9y
 rw [h1]
 have h5:=qy9 ((q0r _ _ _).1 h2)
 obtain ⟨z,g1,g2,g3,g4⟩:=q7i h5
 have h6:j3m (q1q root l) x.1=some x:=jfu (q6k (q6u _).rises) h
 rw [h3,h6] at g1
 have:=Option.some.inj g1
 subst this
 have:=q2n x.2 y.2
 exact decide_eq_true (by omega)
theorem jf2 (root:List QD) (l:List ND):(q1q (q1q root l) l).length=(q1q root l).length:=by
 have h1:(q1q (q1q root l) l).length<=(q1q root l).length:=qpo fun x hx=>qy9 hx
 have h2:(q1q root l).length<=(q1q (q1q root l) l).length:=by
  have:=qg6 (qyc root l) (b:=(q1q (q1q root l) l).map (·.1)) fun p hp=>by
   obtain ⟨x,hx,rfl⟩:=List.mem_map.1 hp
   obtain ⟨y,h1,h2,h3,h4⟩:=q7i (qsg hx)
   exact List.mem_map.2 ⟨y,List.mem_of_find?_eq_some h1,h3⟩
  simpa using this
 omega
theorem qq3 {a b:List QD} {l:List ND} {x:QD} (h:Rch a l x):Rch (a++b) l x:=q78 (fun z hz hm=>.base z (List.mem_append_left _ hz) hm) h
theorem qlh {a b:List QD} {l:List ND} {x:QD} (h:Rch b l x):Rch (a++b) l x:=q78 (fun z hz hm=>.base z (List.mem_append_right _ hz) hm) h
theorem j7x {a b:List QD} {l:List ND} {z:QD} (h:z∈q1q (a++b) l):j9y (q1q a l) z=true\/j9y (q1q b l) z=true:=by
 have hz:=(q0r _ _ _).1 (q4h h)
 have hf:j3m (q1q (a++b) l) z.1=some z:=jfu (q6k (q6u _).rises) h
 have key : ∀c,(∀x,Rch c l x->Rch (a++b) l x)->Rch c l z->j9y (q1q c l) z=true:=by
  intro c hc hr
  obtain ⟨y,h1,h2,h3,h4⟩:=q7i hr
  unfold j9y
  rw [h1]
  obtain ⟨w,g1,g2,g3,g4⟩:=q7i (hc y ((q0r _ _ _).1 h2))
  rw [h3,hf] at g1
  have:=Option.some.inj g1
  subst this
  have:=q2n z.2 y.2
  exact decide_eq_true (by omega)
 obtain ⟨x,hx,hm,h1⟩:=jc2 hz
 rcases List.mem_append.1 hx with hx|hx
 ·exact Or.inl (key a (fun x hx=>qq3 hx) (q78 (fun y hy hm=>by rw [List.mem_singleton] at hy;subst hy;exact .base _ hx hm) h1))
 ·exact Or.inr (key b (fun x hx=>qlh hx) (q78 (fun y hy hm=>by rw [List.mem_singleton] at hy;subst hy;exact .base _ hx hm) h1))
theorem qv5 {root:List QD} {l:List ND} {k:Nat} {x:QD} (h:Rch (root.take k) l x):Rch root l x:=q78 (fun z hz hm=>.base z (List.mem_of_mem_take hz) hm) h
theorem j7w (l:List ND):q1q [] l = []:=by
 have : ∀x,¬ Rch [] l x:=fun x h=>by
  induction h with
  | base q h _=>cases h
  | step x q _ _ _ ih=>exact ih
 cases h:q1q [] l with
 | nil=>rfl
 | cons x t =>
  have hx:x∈q1q [] l:=by rw [h];exact List.mem_cons_self ..
  exact absurd ((q0r _ _ _).1 (q4h hx)) (this x)
theorem qy4 (root:List QD) (x:QD):x∈q0d root []↔x∈root/\q3b x=true:=by
 rw [q0r]
 constructor
 ·intro h
  cases h with
  | base q h1 h2=>exact ⟨h1,h2⟩
  | step y q h0 h1 h2=>cases h1
 ·exact fun h=>.base x h.1 h.2
theorem jod {l:List QD} (h:l.Nodup) (i:Nat) (hi:i<l.length):l[i] ∉ l.take i:=fun hm=>by
 obtain ⟨j,hj,he⟩:=List.mem_iff_getElem.1 hm
 rw [List.length_take] at hj
 rw [List.getElem_take] at he
 exact (List.pairwise_iff_getElem.1 h j i (by omega) hi (by omega)) he
theorem joq {root:List QD} {l:List ND} {r:QD} (hr:q3b r=true):qvr (q1q (upQ root r) l) r=true:=by
 unfold upQ
 rw [if_pos hr]
 obtain ⟨x,h1,h2,h3,h4⟩:=jkm r hr root
 have:=q2n x.2 r.2
 exact jkv (.base x h1 h2) hr h3.symm (by omega)
theorem jfl {root:List QD} {l:List ND} {r x:QD} (hr:q3b r=true) (hx:x∈root) (hm:q3b x=true):qvr (q1q (upQ root r) l) x=true:=by
 unfold upQ
 rw [if_pos hr]
 rcases jk2 r hr hx hm with h|⟨h1,h2,h3⟩
 ·exact qam (.base x h hm)
 ·exact jkv (.base r h3 hr) hm h1 (by omega)
theorem qwg (root:List QD) (r:QD):upQ (upQ root r) r=upQ root r:=by
 unfold upQ
 by_cases h:q3b r=true
 ·rw [if_pos h,if_pos h];exact j6z r root
 ·rw [if_neg h,if_neg h]
end Go.Proofs.YtlkpgcifpnppeaaGreatDoor.AM
namespace Go.Proofs
open Go.RowKit Go.Shelf Go.Lib
open Go.ChangeMaps (setBlock)
attribute [local go_sem] Oper.semAt_some
namespace YtlkpgcifpnppeaaGreatDoor.AM
section
variable {P:Program} (w:World) {ops:Array Oper} {rest:List Oper} {o:Oper} {a:Act} {Q:Exit->Act->World->Prop}
theorem qil (hg:o.guard=none) (m:Operand) (t:TypeId) (hop:o.op=Op.range t m) {x v:Value} {w':World} (hm:a.eval m=x) (hr:(Instr.range t x).run P w = .ok v w') (h:wpList P ops Q rest (a.put o.dst v) w'):wpList P ops Q (o::rest) a w :=
 wpList_plain hg fun _ hK=>by
  unfold Oper.wp
  simp [execOp,hop,hm,hr,Result.andThen]
  exact hK _ _ h
theorem qar (hg:o.guard=none) (it:Operand) (hop:o.op=Op.next it false) {x v:Value} {w':World} (hm:a.eval it=x) (hr:(Instr.next x false o.type).run P w = .ok v w') (h:wpList P ops Q rest (a.put o.dst v) w'):wpList P ops Q (o::rest) a w :=
 wpList_plain hg fun _ hK=>by
  unfold Oper.wp
  simp [execOp,hop,hm,hr,Result.andThen]
  exact hK _ _ h
end
theorem jjc {P:Program} (w:World) (ty:TypeId) (r bm n:Nat) (sn:List Nat) (es:Array MapEntry)
  (hr:w.heap[r]? = some (.mapIter (some bm) n sn.toArray n)) (hb:w.heap[bm]? = some (.map es n)) (hold : ∀x∈es.toList,x.born<n) :
  ((leftOf es sn.toArray).size=0/\(Instr.next (.pointer (some ⟨r,0,none⟩)) false ty).run P w = .ok (.tuple #[.bool false]) w) \/
  ∃ e∈(leftOf es sn.toArray).toList,∃ w1:World,(Instr.next (.pointer (some ⟨r,0,none⟩)) false ty).run P w = .ok (.tuple #[.bool true,e.key,e.val]) w1/\w1.heap[r]? = some (.mapIter (some bm) n (sn ++ [e.born]).toArray n) /\
   (∀k,k≠r->w1.heap[k]? = w.heap[k]?)/\w1.heap.size=w.heap.size/\w1.os=w.os/\w1.tape=w.tape/\w1.output=w.output:=by
 rcases run_next_at (P:=P) w ty r bm n n sn.toArray es n hr hb hold (Nat.le_refl _) with h|⟨e,he,w1,hw,h⟩
 ·exact Or.inl h
 ·refine Or.inr ⟨e,he,_,h,?_,?_,?_,?_⟩
  ·have hl:r<w1.heap.size:=by rcases hw with rfl|rfl<;>exact q39 hr
   show (w1.heap.setIfInBounds r _)[r]? = _
   rw [Array.getElem?_setIfInBounds_self_of_lt hl]
   simp
  ·intro k hk
   show (w1.heap.setIfInBounds r _)[k]? = _
   rw [Array.getElem?_setIfInBounds_ne (fun e=>hk e.symm)]
   rcases hw with rfl|rfl<;>rfl
  ·show (w1.heap.setIfInBounds r _).size=_
   rw [Array.size_setIfInBounds]
   rcases hw with rfl|rfl<;>rfl
  ·rcases hw with rfl|rfl<;>exact ⟨rfl,rfl,rfl⟩
theorem jna (w:World) (B:Nat) (v:Value) (l:List QD) (q:QD) (vb:Nat) (hown:w.ownsRow B 27 6 v l.length (cvs qcv l)) (hv:w.heap[vb]? = some (.cells (qcv q).toArray 27 (0,0))) (hn:l.length<=1000000) (hBw:B<=w.heap.size) (ty:TypeId) :
  ∃ v' w',(Builtin.append_ #[22,22] ty #[v,.slice (some ⟨vb,0,none⟩) 1 1]).run Tryz.prog w = .ok v' w'/\w'.ownsRow B 27 6 v' (l ++ [q]).length (cvs qcv (l ++ [q]))/\w.grownBy w' v.ownBlock:=by
 obtain ⟨i0,hi0,hz,hby,z,hzz,hzs,_⟩:=qtj
 obtain ⟨v',w',hr,h2,h3,_,h5⟩:=q6s (P:=Tryz.prog) w B 22 ty 27 i0 z 6 72 Tryz.underlying22 hi0 hzz hz hby hzs (by omega) v l.length (cvs qcv l) hown (.slice (some ⟨vb,0,none⟩) 1 1) 1 (qcv q)
  (Or.inl ⟨⟨vb,0,none⟩,1,rfl,fun j u hu=>by rw [Addr.add_lit,cell_of_row w vb _ _ _ _ hv];simpa using hu⟩) (q64.len q) (q64.one q) (by unfold maxLen;omega) (by omega) hBw
 refine ⟨v',w',hr,?_,h3⟩
 rw [qu6,List.length_append]
 have e:cvs (T:=QT) qcv [q]=qcv q:=by unfold cvs;simp
 rw [e]
 exact h2
theorem qpk (w:World) {ops:Array Oper} {rest:List Oper} {o:Oper} {a:Act} {Q:Exit->Act->World->Prop} (hgd:o.guard=none) (d s:Operand)
  (ho:o.op = .call { callee:=.builtin .append,args:=#[d,s],argTypes:=#[22,22] }) (B:Nat) (v:Value) (l:List QD) (q:QD) (vb:Nat) (hd:a.eval d=v) (hs:a.eval s = .slice (some ⟨vb,0,none⟩) 1 1)
  (hown:w.ownsRow B 27 6 v l.length (cvs qcv l)) (hv:w.heap[vb]? = some (.cells (qcv q).toArray 27 (0,0))) (hn:l.length<=1000000) (hBw:B<=w.heap.size)
  (h : ∀v' w',w'.ownsRow B 27 6 v' (l ++ [q]).length (cvs qcv (l ++ [q]))->w.grownBy w' v.ownBlock->wpList Tryz.prog ops Q rest (a.put o.dst v') w'):wpList Tryz.prog ops Q (o::rest) a w:=by
 obtain ⟨v',w',hr,h1,h2⟩:=jna w B v l q vb hown hv hn hBw o.type
 exact q42 w hgd d s _ _ ho v _ hd hs hr (h v' w' h1 h2)
theorem qbf {w w':World} {B E sz n:Nat} {v:Value} {xs:List Value} (h:w.ownsRow B E sz v n xs) (hb : ∀g,v.ownBlock=some g->w'.heap[g]? = w.heap[g]?):w'.ownsRow B E sz v n xs:=by
 refine ⟨h.1,?_⟩
 rcases h.2 with h5|⟨g,cap,cur,rfl,h6,h7,h8⟩
 ·exact .inl h5
 ·exact .inr ⟨g,cap,cur,rfl,h6,(hb g rfl).trans h7,h8⟩
theorem jiu {l:List Nat} {n:Nat} (h:l.Nodup) (hlt : ∀i∈l,i<n):l.length<=n:=by
 induction n generalizing l with
 | zero =>
  cases l with
  | nil=>exact Nat.le_refl _
  | cons a l=>exact absurd (hlt a (List.mem_cons_self ..)) (Nat.not_lt_zero _)
 | succ n ih =>
  by_cases hn:n∈l
  ·have h1:=ih (h.erase n) fun i hi=>by
    have:=(h.mem_erase_iff).1 hi
    have:=hlt i this.2
    omega
   rw [List.length_erase_of_mem hn] at h1
   omega
  ·have:=ih h fun i hi=>by
    have:=hlt i hi
    have:i≠n:=fun e=>hn (e ▸ hi)
    omega
   omega
set_option maxHeartbeats 2000000 in
set_option maxRecDepth 1000000 in
theorem qvz {Pc:Nat->Nat->Prop} (w:World) (b:Nat) (m:List (List UInt8×QD)) (hI:Inv w) (hm:qo9 Pc w b TG 7 (m.map (q01 (.prod .str QT)))) (hl:m.length<=1000000) (hp:(m.map (·.2)).Pairwise fun a b=>a.1≠b.1) :
  Calls Tryz.prog 38 #[.map (some b)] w fun e w'=>∃ v',e = .returned v'/\w'.ownsRow w.heap.size 27 6 v' m.length (cvs qcv (j8c (m.map (·.2))))/\Below w.heap.size w w':=by
 obtain ⟨h7,es,hb,hall⟩:=hm
 clear h7
 obtain rfl:=jgi hall
 have hel:(j58 m).length=m.length:=by simp [j58]
 rw [hel] at hb
 have hold : ∀x∈(qaa TG 0 (j58 m)).toArray.toList,x.born<m.length:=fun x hx=>by
  obtain ⟨j,h,h1,_⟩:=jc6 m x (by simpa using hx)
  omega
 have hnd:((qaa TG 0 (j58 m)).toArray.toList.map (·.born)).Nodup:=by
  simp only []
  rw [j1v];exact List.nodup_range'
 have hmem:=jc6 m
 have hseen:=jha m
 generalize (qaa TG 0 (j58 m))=es at *
 have hrg:=run_range_map (P:=Tryz.prog) w 58 9 27 b es.toArray m.length Tryz.underlying58 hb
 have hbl:=q39 hb
 clear hall
 go_enter Tryz.func38,Tryz.ntmps38
 go_wp2_with (at_range;refine qil _ rfl _ _ rfl rfl hrg ?_)
 go_loopw [3] (fun v wr=>∃ sn:List Nat,sn.Nodup/\(∀i∈sn,i<m.length)/\wr.heap[w.heap.size]? = some (.mapIter (some b) m.length sn.toArray m.length)/\wr.heap[b]? = some (.map es.toArray m.length) /\
   wr.ownsRow (w.heap.size+1) 27 6 v sn.length (cvs qcv (sn.map fun i=>(m.map (·.2)).getD i ([],0,0,0,[],[])))/\Below w.heap.size w wr) (fun _ wr=>(leftOf es.toArray (wr.iterSeen w.heap.size)).size)
 case atStart=>exact ⟨[],List.nodup_nil,(fun i h=>by cases h),heap_alloc_new _ _,(qux w _ b hbl).trans hb,World.ownsRow_nil _ _ _ _,(Below.refl _ _).alloc (Nat.le_refl _) _⟩
 case round =>
  obtain ⟨sn,hsn,hlt,hit,hbm,hown,hbel⟩:=hrel
  rcases jjc (P:=Tryz.prog) wr 0 w.heap.size b m.length sn es.toArray hit hbm hold with ⟨h0,hrun⟩|⟨e,he,W1,hrun,hit1,hoth,hsz,hos,htp,hout⟩
  ·have hd:=hseen sn hsn hlt h0 ([],0,0,0,[],[])
   generalize (sn.map fun i=>(m.map (·.2)).getD i ([],0,0,0,[],[]))=d at hd hown
   have hpd:d.Pairwise fun a b=>a.1≠b.1:=(hd.pairwise_iff (fun h e=>h e.symm)).2 hp
   have hsrt:j8c d=j8c (m.map (·.2)):=qha (((q68 d).trans hd).trans (q68 _).symm) (q6c d hpd) (q6c _ hp)
   have hdl:d.length=m.length:=by rw [hd.length_eq,List.length_map]
   have hsl:sn.length=m.length:=by
    have:=hown.1
    rw [q64.lens] at this
    have e6:width QT=6:=rfl
    rw [e6] at this;omega
   rw [hsl] at hown
   have hS:Calls Tryz.prog 55 #[u3,.func (.func 56) #[] #[]] wr fun e w'=>e = .returned (.tuple #[])/\w'.ownsRow (w.heap.size+1) 27 6 u3 m.length (cvs qcv (j8c (m.map (·.2))))/\Below w.heap.size w w':=by
    rcases hown.2 with ⟨rfl,hz⟩|⟨g,cap,cur,rfl,hbg,hg,hnc,hcm,hcs,htk⟩
    ·refine (AnyF.slices_SortFunc_none Tryz.sortQ none 0 (.func (.func 56) #[] #[]) wr).mono ?_
     rintro e w' ⟨rfl,rfl⟩
     have:m.map (·.2) = []:=List.eq_nil_of_length_eq_zero (by rw [List.length_map];exact hz)
     rw [this,hz]
     exact ⟨rfl,World.ownsRow_nil _ _ _ _,hbel⟩
    ·by_cases hz:d = []
     ·refine (AnyF.slices_SortFunc_none Tryz.sortQ (some ⟨g,0,none⟩) cap (.func (.func 56) #[] #[]) wr |> fun h=>?_)
      have h0:m.length=0:=by rw [<-hdl,hz];rfl
      have:m.map (·.2) = []:=List.eq_nil_of_length_eq_zero (by rw [List.length_map];exact h0)
      rw [this,h0]
      refine h.mono ?_
      rintro e w' ⟨rfl,rfl⟩
      rw [hz,h0] at hown
      exact ⟨rfl,hown,hbel⟩
     ·rw [<-hdl] at hown hnc htk ⊢
      have hBI : ∀w',Below (w.heap.size+1) wr w'->Inv w':=fun w' hb'=>hI.below (hbel.trans (hb'.mono (by omega)))
      refine (jb5 wr (hI.below hbel) (w.heap.size+1) g cap cur d hbg hBI hg hnc hcm hcs htk (by omega) hpd hz).mono ?_
      rintro e w' ⟨rfl,h1,h2⟩
      rw [hsrt] at h1
      exact ⟨rfl,h1,hbel.trans (h2.mono (by omega))⟩
   clear hsrt hpd hd hown hseen hit hbm hbel hmem hold hnd
   go_wp2_with (first|(at_next;refine qar _ rfl _ rfl rfl hrun ?_)|(go_at_call 55;refine hS.mono ?_))
   rintro e w' ⟨rfl,h1,h2⟩
   clear hS hrun
   go_wp2
   go_ret
   refine ⟨_,rfl,?_,h2⟩
   rcases h1.2 with h5|⟨g,cap,cur,h5,h6,h7⟩
   ·exact ⟨h1.1,.inl h5⟩
   ·exact ⟨h1.1,.inr ⟨g,cap,cur,h5,by omega,h7⟩⟩
  ·obtain ⟨hes,hns⟩:=mem_left he
   obtain ⟨j,hj,hej,hev⟩:=hmem e (by simpa using hes)
   have hen:(Instr.entry (.pointer (some ⟨w.heap.size,0,none⟩))).run Tryz.prog W1 = .ok (.tuple #[e.key,e.val]) W1:=run_entry_at W1 w.heap.size b m.length sn.toArray es.toArray m.length e (by rw [hit1];simp) ((hoth b (by omega)).trans hbm) hes hnd
   have hgd:(m.map (·.2)).getD e.born ([],0,0,0,[],[])=(m[j]).2:=by
    rw [hej,List.getD_eq_getElem?_getD,List.getElem?_eq_getElem (by simpa using hj),Option.getD_some,List.getElem_map]
   have hshr:=left_shrinks es.toArray sn.toArray e he
   generalize hq:(m[j]).2=q at hev hgd
   clear hq
   obtain ⟨p,x1,x2,x3,r,md⟩:=q
   rw [hev] at hrun hen
   obtain ⟨ek,hek⟩ : ∃ ek,ek=e.key:=⟨_,rfl⟩
   rw [<-hek] at hrun hen
   have hrun':(Instr.next (.pointer (some ⟨w.heap.size,0,none⟩)) false 0).run Tryz.prog wr = .ok (.tuple #[.bool true,ek,.agg #[.string (ba p),.int .i64 x1,.int .i64 x2,.int .i64 x3,.string (ba r),.string (ba md)]]) W1:=hrun
   have hen':(Instr.entry (.pointer (some ⟨w.heap.size,0,none⟩))).run Tryz.prog W1 = .ok (.tuple #[ek,.agg #[.string (ba p),.int .i64 x1,.int .i64 x2,.int .i64 x3,.string (ba r),.string (ba md)]]) W1:=hen
   have HB:=hid (show Below w.heap.size w W1 from hbel.trans ⟨hos,htp,hout,by omega,fun k hk=>hoth k (by omega)⟩)
   have hW1s:w.heap.size+1<=W1.heap.size:=by have:=q39 hit1;omega
   have ho1:((W1.alloc (.cells #[.string (ba p),.int .i64 x1,.int .i64 x2,.int .i64 x3,.string (ba r),.string (ba md)] 27)).alloc (.cells #[.string (ba p),.int .i64 x1,.int .i64 x2,.int .i64 x3,.string (ba r),.string (ba md)] 27)).ownsRow (w.heap.size+1) 27 6 u3
     (sn.map fun i=>(m.map (·.2)).getD i ([],0,0,0,[],[])).length (cvs qcv (sn.map fun i=>(m.map (·.2)).getD i ([],0,0,0,[],[]))):=by
    rw [List.length_map]
    refine qbf hown fun g hg=>?_
    have hgl:=hown.lt g hg
    rw [qux _ _ g (by simp;omega),qux _ _ g (by omega)]
    exact hoth g (by omega)
   have hv1:((W1.alloc (.cells #[.string (ba p),.int .i64 x1,.int .i64 x2,.int .i64 x3,.string (ba r),.string (ba md)] 27)).alloc (.cells #[.string (ba p),.int .i64 x1,.int .i64 x2,.int .i64 x3,.string (ba r),.string (ba md)] 27)).heap[wr.heap.size+1]? = some (.cells (qcv (p,x1,x2,x3,r,md)).toArray 27 (0,0)):=by
    have:=heap_alloc_new (W1.alloc (.cells #[.string (ba p),.int .i64 x1,.int .i64 x2,.int .i64 x3,.string (ba r),.string (ba md)] 27)) (.cells #[.string (ba p),.int .i64 x1,.int .i64 x2,.int .i64 x3,.string (ba r),.string (ba md)] 27)
    rw [show (W1.alloc (.cells #[.string (ba p),.int .i64 x1,.int .i64 x2,.int .i64 x3,.string (ba r),.string (ba md)] 27)).heap.size=wr.heap.size+1 from by simp [hsz]] at this
    exact this
   have hn1:(sn.map fun i=>(m.map (·.2)).getD i ([],0,0,0,[],[])).length<=1000000:=by
    rw [List.length_map]
    have:=jiu hsn hlt
    omega
   have hB1:w.heap.size+1<=((W1.alloc (.cells #[.string (ba p),.int .i64 x1,.int .i64 x2,.int .i64 x3,.string (ba r),.string (ba md)] 27)).alloc (.cells #[.string (ba p),.int .i64 x1,.int .i64 x2,.int .i64 x3,.string (ba r),.string (ba md)] 27)).heap.size:=by simp;omega
   have HO:=hid hown
   clear hrun hen hown hseen hmem hold hek hev
   go_wp2_with (first|(at_next;refine qar _ rfl _ rfl rfl hrun' ?_)|(at_builtin;refine qpk _ rfl _ _ rfl (w.heap.size+1) u3 (sn.map fun i=>(m.map (·.2)).getD i ([],0,0,0,[],[])) (p,x1,x2,x3,r,md) (wr.heap.size+1) rfl rfl ho1 hv1 hn1 hB1 ?_;intro v3 W3 ho3 hg3;go_frame))
   have hge : ∀g,u3.ownBlock=some g->w.heap.size+1<=g/\g<wr.heap.size:=fun g hg=>HO.out.lt g hg
   have hrl:=q39 hit1
   have hbl1:b<W1.heap.size:=by omega
   clear hv1 hn1 hB1 hrun'
   go_roundw
   case rel =>
    refine ⟨sn ++ [e.born],?_,?_,?_,?_,?_,?_⟩
    ·rw [List.nodup_append]
     refine ⟨hsn,List.pairwise_singleton _ _,fun x hx y hy=>?_⟩
     rw [List.mem_singleton] at hy
     subst hy
     rintro rfl
     simp at hns
     exact hns hx
    ·intro i hi
     rcases List.mem_append.1 hi with hi|hi
     ·exact hlt i hi
     ·rw [List.mem_singleton] at hi;omega
    ·rw [hg3.block _ (by simp;omega) (fun e=>by have:=hge _ e.symm;omega),qux _ _ _ (by simp;omega),qux _ _ _ hrl]
     exact hit1
    ·rw [hg3.block _ (by simp;omega) (fun e=>by have:=hge _ e.symm;omega),qux _ _ _ (by simp;omega),qux _ _ _ hbl1]
     exact (hoth b (by omega)).trans hbm
    ·rw [List.map_append,List.map_singleton,hgd]
     have e9:(sn ++ [e.born]).length=((sn.map fun i=>(m.map (·.2)).getD i ([],0,0,0,[],[])) ++ [(p,x1,x2,x3,r,md)]).length:=by simp
     rw [e9]
     exact ho3
    ·exact ((HB.out.alloc (by omega) _).alloc (by simp;omega) _).grown hg3 (by simp;omega) (fun k hk=>by have:=hge k hk;omega)
   case measure =>
    have e1:W3.iterSeen w.heap.size=sn.toArray.push e.born:=by
     unfold World.iterSeen
     rw [hg3.block _ (by simp;omega) (fun e=>by have:=hge _ e.symm;omega),qux _ _ _ (by simp;omega),qux _ _ _ hrl,hit1]
     simp
    have e2:wr.iterSeen w.heap.size=sn.toArray:=by unfold World.iterSeen;rw [hit]
    rw [e1,e2]
    exact hshr
end YtlkpgcifpnppeaaGreatDoor.AM
end Go.Proofs
namespace Go.Proofs
open Go.RowKit Go.Lib
namespace YtlkpgcifpnppeaaGreatDoor.AM
theorem jid {F:Fr} {σ:St} {e:Env} {w w':World} {E:Nat} {T:Ty} {cv:den T->List Value} (hT:CvT T cv) {l:List (den T)} {v:Value} (hp:Hp F σ e w) (hb:Below w.heap.size w w') (hrow : ∀t,σ.row t=none) (hown:w'.ownsRow w.heap.size E (width T) v l.length (cvs cv l)) :
  ∃ e',Hp F σ e' w'/\q1l e' σ w' v (.one (.c (.d (.lst (width T) (l.map (q01 T))))))/\e'.m=e.m:=by
 obtain ⟨_,h⟩:=hp.grow hb
 obtain ⟨_,h2⟩:=h.more (fun b o=>v.ownBlock=some b) (fun b o hvb=>by have:=hown.lt b hvb;have:=hp.sizeLe;omega) (fun b o hvb β hβ e2=>by have:=hp.boxLt hβ;have:=hown.lt b hvb;omega) (fun b o hvb t r hr=>by rw [hrow t] at hr;cases hr) (fun b o hvb hk=>absurd (Nat.lt_of_lt_of_le (F.kLt b hk) hp.kp.wkLe) (by have:=hown.lt b hvb;omega))
 exact ⟨_,h2,hT.own hown fun b o hvb _=>Or.inr hvb,rfl⟩
def qbl (_:Unit) (m:List (List UInt8×QD)):Option (List QD×((List (List UInt8×QD)×Unit)×Unit)) :=
 if m.length<=1000000/\(m.map (·.2)).Pairwise (fun a b=>a.1≠b.1) then some (j8c (m.map (·.2)),((m,()),())) else none
def qye:FX:={ f:=38,args:=[.one (.c (.mv 1000000))],boxes:=[(1000000,(2199023259661,[.d (.lst (.prod .str QT))]))],rows:=[],res:=.one (.c (.d (.lst QT))),oboxes:=[(1000000,(2199023259661,[.d (.lst (.prod .str QT))]))],orows:=[],F:=fun p=>qbl p.1 p.2.1.1 }
theorem j8w:q88 Inv Tryz.prog qye:=fun G hG=>⟨by kernel_rfl,fun p q h=>by
 obtain ⟨u,⟨m,u2⟩,u3⟩:=p
 have h':qbl () m=some q:=h
 unfold qbl at h'
 split at h'
 case isFalse=>cases h'
 rename_i hc
 obtain rfl:=Option.some.inj h'
 intro F hF e w vs hp hv
 obtain ⟨vl⟩:=vs
 match vl,hv with
 | [x],⟨⟨hbx,hx⟩,_⟩ =>
  have hx':x = .map (some (e.m 1000000)):=hx
  subst hx'
  obtain ⟨h1,h2⟩:=hp.boxes 1000000 2199023259661 [.d (.lst 7 (m.map (q01 (.prod .str QT))))] rfl
  have hm:qo9 e.Pc w (e.m 1000000) TG 7 (m.map (q01 (.prod .str QT))):=by
   rcases h2 with ⟨h3,_⟩|⟨_,sz,xs,h3,h4⟩
   ·exact absurd h3 (by decide)
   ·obtain ⟨rfl,rfl⟩:sz=7/\xs=m.map (q01 (.prod .str QT)):=by
     have h5:=(List.cons.inj h3).1
     have h6:=C.d.inj h5
     have h7:=Dat.lst.inj h6
     exact ⟨h7.1.symm,h7.2.symm⟩
    exact h4
  have hIw:Inv w:=hG.im w (by have h9:=F.gst _ _ F.g0 hp.below;rw [hF] at h9;exact h9)
  refine (qvz w (e.m 1000000) m hIw hm hc.1 hc.2).mono ?_
  rintro e1 w' ⟨v',rfl,hown,hb⟩
  obtain ⟨e',k1,k2,k3⟩:=jid (T:=QT) q64 (l:=j8c (m.map (·.2))) hp hb (fun t=>rfl) (by
   rw [(q68 _).length_eq,List.length_map];exact hown)
  exact ⟨_,e',rfl,k1,k2⟩⟩
end YtlkpgcifpnppeaaGreatDoor.AM
end Go.Proofs
namespace Go.Proofs
open Go.RowKit Go.Shelf Go.Lib
attribute [local go_sem] Oper.semAt_some
namespace YtlkpgcifpnppeaaGreatDoor.AM
theorem j21 {P:Program} (w:World) (t e ty:TypeId) (z:Value) (zs:List Value) (n:Nat) (ht:P.underlying t=some (.slice e)) (hv : ∀w,(zeroValue e).run P w = .ok z w) (hz:(Builtin.zeroCells z.cells (n+1)).toList=zs) (h1 : ∀v∈zs,v.oneCell'=true)
  (g o c:Nat) (cur:Array Value) (T:TypeId) (hg:w.heap[g]? = some (.cells cur T (0,0))) (hfit:o+zs.length<=cur.size) :
  (Builtin.clear_ #[t] ty #[.slice (some ⟨g,o,none⟩) (n+1) c]).run P w = .ok (.tuple #[]) (w.setRow g (cur.toList.take o++zs++cur.toList.drop (o+zs.length)).toArray):=by
 have hst:=run_storeCells_at P g o T zs 0 cur w hg (by simpa using hfit) h1
 simp only [Nat.add_zero] at hst
 simp [Builtin.clear_,run_underlying ht,hv,hz,hst]
theorem j7d {w:World} {g E n:Nat} {X:Array Value} {Y:List QD} (hX:w.heap[g]? = some (.cells X E (0,0))) (hXt:X.toList.take (n*6)=cvs qcv Y) (hY:Y.length=n) {i:Nat} {q:QD} (hq:Y[i]? = some q) (j:Nat) (u:Value) (hu:(qcv q)[j]? = some u):w.cell? ⟨g,i*6+j,none⟩=some u:=by
 obtain ⟨hi,hq'⟩:=List.getElem?_eq_some_iff.1 hq
 have hj:j<6:=by
  have:=(List.getElem?_eq_some_iff.1 hu).1
  have h6:(qcv q).length=6:=q64.len q
  omega
 have hg:=q64.get Y i j hi hj
 have e6:width QT=6:=rfl
 rw [e6,hq',hu] at hg
 rw [cell_of_row w g _ X _ _ hX]
 rw [<-hXt,List.getElem?_take] at hg
 split at hg
 ·simpa using hg
 ·cases hg
theorem jcg {w w':World} {r:Option Nat} (h:w.grownBy w' r):w.grownBy w'.drew r:=⟨h.os,h.tape,h.output,h.size,h.block⟩
theorem j5n {w w' w2:World} {r:Option Nat} (h:w.grownBy w' r) (hb:Below w'.heap.size w' w2):w.grownBy w2 r:=⟨hb.os.trans h.os,hb.tape.trans h.tape,hb.output.trans h.output,Nat.le_trans h.size hb.size,fun i hi hn=>(hb.block i (Nat.lt_of_lt_of_le hi h.size)).trans (h.block i hi hn)⟩
theorem jkx {w w':World} {g:Nat} (h:w.grownBy w' (some g)) (Y:Array Value):w.grownBy (w'.setRow g Y) (some g) :=
 ⟨h.os,h.tape,h.output,by rw [size_setRow];exact h.size,fun i hi hn=>by rw [setRow_other _ _ _ _ (fun e=>hn (by rw [e]))];exact h.block i hi hn⟩
theorem set6 {w:World} {g E o:Nat} {X:Array Value} (hX:w.heap[g]? = some (.cells X E (0,0))) (v0 v1 v2 v3 v4 v5:Value) :
  ((
   (((w.setCell ⟨g,o,none⟩ v0).setCell ⟨g,o+1,none⟩ v1).setCell ⟨g,o+2,none⟩ v2).setCell ⟨g,o+3,none⟩ v3).setCell ⟨g,o+4,none⟩ v4).setCell ⟨g,o+5,none⟩ v5 =
   w.setRow g ((((((X.setIfInBounds o v0).setIfInBounds (o+1) v1).setIfInBounds (o+2) v2).setIfInBounds (o+3) v3).setIfInBounds (o+4) v4).setIfInBounds (o+5) v5):=by
 rw [setCell_eq_setRow w g o X E (0,0) v0 hX,setCell_eq_setRow _ g (o+1) _ E (0,0) v1 (setRow_heap w g X _ _ _ hX),setRow_setRow,setCell_eq_setRow _ g (o+2) _ E (0,0) v2 (setRow_heap w g X _ _ _ hX),setRow_setRow,
  setCell_eq_setRow _ g (o+3) _ E (0,0) v3 (setRow_heap w g X _ _ _ hX),setRow_setRow,setCell_eq_setRow _ g (o+4) _ E (0,0) v4 (setRow_heap w g X _ _ _ hX),setRow_setRow,setCell_eq_setRow _ g (o+5) _ E (0,0) v5 (setRow_heap w g X _ _ _ hX),setRow_setRow]
theorem put6 {X:Array Value} {N:Nat} {A Q:List QD} {y f:QD} (h:X.toList.take N=cvs qcv (A++y::Q)) {o:Nat} (ho:o=A.length*6) {v0 v1 v2 v3 v4 v5:Value} (hf:qcv f = [v0,v1,v2,v3,v4,v5]) :
  ((((((X.setIfInBounds o v0).setIfInBounds (o+1) v1).setIfInBounds (o+2) v2).setIfInBounds (o+3) v3).setIfInBounds (o+4) v4).setIfInBounds (o+5) v5).toList.take N=cvs qcv (A++f::Q):=by
 simp only [Array.toList_setIfInBounds,List.take_set,h]
 have e1 : ∀z:QD,cvs qcv (A++z::Q)=cvs qcv A++(qcv z++cvs qcv Q):=fun z=>by rw [qu6,q97]
 have e2:(cvs qcv A).length=o:=by rw [q64.lens,ho];rfl
 obtain ⟨p,x1,x2,x3,r,m⟩:=y
 rw [e1,e1,hf,List.set_append_right _ _ (by omega),e2,List.set_append_right _ _ (by omega),e2,List.set_append_right _ _ (by omega),e2,List.set_append_right _ _ (by omega),e2,List.set_append_right _ _ (by omega),e2,List.set_append_right _ _ (by omega),e2,Nat.sub_self,
  show o+1 - o=1 from by omega,show o+2 - o=2 from by omega,show o+3 - o=3 from by omega,show o+4 - o=4 from by omega,show o+5 - o=5 from by omega]
 rfl
set_option maxHeartbeats 4000000 in
set_option maxRecDepth 1000000 in
theorem qus (w:World) (B g cap:Nat) (cur:Array Value) (l:List QD) (hI:Inv w) (hIB : ∀wr,w.grownBy wr (some g)->Inv wr) (hbg:B<=g) (hg:w.heap[g]? = some (.cells cur 27 (0,0))) (hnc:l.length<=cap) (hcm:cap<=maxLen) (hcs:cur.size=cap*6)
  (htake:cur.toList.take (l.length*6)=cvs qcv l) (hB:B<=w.heap.size) (hll:l.length<=1000000) (hl2:2<=l.length) :
  Calls Tryz.prog 61 #[.slice (some ⟨g,0,none⟩) l.length cap,.func (.func 62) #[] #[]] w fun e w'=>∃ v',e = .returned v'/\v'.ownBlock=some g/\w'.ownsRow B 27 6 v' (q0k l).length (cvs qcv (q0k l))/\w.grownBy w' (some g):=by
 obtain ⟨n,hn⟩ : ∃ n,n=l.length:=⟨_,rfl⟩
 rw [<-hn] at hnc htake hll hl2 ⊢
 have hcm':cap<=9223372036854775807:=by unfold maxLen at hcm;omega
 have hn2 : ¬ (n:Int)<2:=by omega
 have HT:=hid htake
 have HN:=hid hn
 have HB:=hid hB
 clear htake hn hB
 go_enter Tryz.func61,Tryz.ntmps61
 go_wp2_with fail
 go_loopw [5] (fun kv wr=>∃ (k:Nat) (X:Array Value),k+1<=n/\kv = .int .i64 ((k+1:Nat):Int)/\wr.heap[g]? = some (.cells X 27 (0,0))/\X.size=cap*6/\X.toList.take (n*6)=cvs qcv l /\
  (∀(i:Nat) (hi:i+1<l.length),i+1<=k->q10 l[i+1] l[i]≠0)/\w.grownBy wr (some g)) (fun j _=>n - (RowKit.intOf j).toNat)
 case atStart=>exact ⟨0,cur,by omega,rfl,hg,hcs,HT.out,fun i hi h=>absurd h (by omega),World.grownBy.refl w _⟩
 case round =>
  obtain ⟨k,X,hk,rfl,hX,hXs,hXt,hdis,hbel⟩:=hrel
  by_cases hkn:k+1<n
  ·have hkl:k+1<l.length:=by rw [<-HN.out];exact hkn
   have c1:=j7d hX hXt HN.out.symm (List.getElem?_eq_getElem hkl)
   have c0:=j7d hX hXt HN.out.symm (List.getElem?_eq_getElem (show k<l.length by omega))
   have hS:=qqt wr.drew (hIB _ (jcg hbel)) l[k+1] l[k]
   have hdk:=hdis
   obtain ⟨q1,hq1⟩ : ∃ q,q=l[k+1]:=⟨_,rfl⟩
   obtain ⟨q0,hq0⟩ : ∃ q,q=l[k]:=⟨_,rfl⟩
   rw [<-hq1] at c1 hS
   rw [<-hq0] at c0 hS
   obtain ⟨z,hz⟩ : ∃ z,z=decide (q10 q1 q0=0):=⟨_,rfl⟩
   rw [<-hz] at hS
   obtain ⟨j,hj⟩ : ∃ j,j=k+1:=⟨_,rfl⟩
   rw [<-hj] at c1 ⊢
   have HZ:=hid hz
   have HQ1:=hid hq1
   have HQ0:=hid hq0
   have HX:=hid hX
   have HXt:=hid hXt
   have HD:=hid hdis
   clear hz hq1 hq0 hX hXt hdis hdk hk
   obtain ⟨p,x1,x2,x3,r,m⟩:=q1
   obtain ⟨p',y1,y2,y3,r',m'⟩:=q0
   have d10:wr.cell? ⟨g,j*6,none⟩=some (.string (ba p)):=c1 0 _ rfl
   have d11:wr.cell? ⟨g,j*6+1,none⟩=some (.int .i64 x1):=c1 1 _ rfl
   have d12:wr.cell? ⟨g,j*6+2,none⟩=some (.int .i64 x2):=c1 2 _ rfl
   have d13:wr.cell? ⟨g,j*6+3,none⟩=some (.int .i64 x3):=c1 3 _ rfl
   have d14:wr.cell? ⟨g,j*6+4,none⟩=some (.string (ba r)):=c1 4 _ rfl
   have d15:wr.cell? ⟨g,j*6+5,none⟩=some (.string (ba m)):=c1 5 _ rfl
   have d00:wr.cell? ⟨g,k*6,none⟩=some (.string (ba p')):=c0 0 _ rfl
   have d01:wr.cell? ⟨g,k*6+1,none⟩=some (.int .i64 y1):=c0 1 _ rfl
   have d02:wr.cell? ⟨g,k*6+2,none⟩=some (.int .i64 y2):=c0 2 _ rfl
   have d03:wr.cell? ⟨g,k*6+3,none⟩=some (.int .i64 y3):=c0 3 _ rfl
   have d04:wr.cell? ⟨g,k*6+4,none⟩=some (.string (ba r')):=c0 4 _ rfl
   have d05:wr.cell? ⟨g,k*6+5,none⟩=some (.string (ba m')):=c0 5 _ rfl
   clear c0 c1
   have hkk:(j:Int)<(n:Int):=by omega
   have hk1:(k:Int)<(n:Int):=by omega
   have hw0:IntKind.i64.wrap ((j:Int) - 1)=(k:Int):=by rw [IntKind.wrap_i64];omega
   have hw1:IntKind.i64.wrap ((j:Int)+1)=((j+1:Nat):Int):=by rw [IntKind.wrap_i64];omega
   have HJ:=hid hj
   clear hj
   go_wp2_with fail
   go_still_tail 10,(by kernel_rfl)
   have hS':Calls Tryz.prog 62 #[.agg #[.string (ba p),.int .i64 x1,.int .i64 x2,.int .i64 x3,.string (ba r),.string (ba m)],.agg #[.string (ba p'),.int .i64 y1,.int .i64 y2,.int .i64 y3,.string (ba r'),.string (ba m')]] wr.drew fun e w'=>e = .returned (.bool z)/\Below wr.drew.heap.size wr.drew w':=hS
   clear hS d10 d11 d12 d13 d14 d15 d00 d01 d02 d03 d04 d05
   go_wp2_with (go_at_call 62;refine hS'.mono ?_)
   rintro e W1 ⟨rfl,hb1⟩
   clear hS'
   have hbw:Below wr.heap.size wr W1:=(Below.refl _ _).drew.trans hb1
   have hX1:=(hbw.block g (q39 HX.out)).trans HX.out
   have hbel1:w.grownBy W1 (some g):=j5n hbel hbw
   cases z with
   | false =>
    go_wp2_with fail
    go_roundw
    case rel =>
     have hj:=HJ.out
     refine ⟨k+1,X,by omega,(by congr 1;omega),hX1,hXs,HXt.out,fun i hi h1=>?_,hbel1⟩
     by_cases h2:i+1<=k
     ·exact HD.out i hi h2
     ·have h3:i=k:=by omega
      subst h3
      have hz:=HZ.out
      rw [HQ1.out,HQ0.out] at hz
      intro h4
      rw [h4] at hz
      simp at hz
    case measure=>have:=HJ.out;simp [RowKit.intOf];omega
   | true =>
    have hjc : ¬ (cap=j):=by omega
    have hjn:(j:Int)<=(n:Int):=by omega
    have hjn':j<=n:=by omega
    have hjc':j<=cap:=by omega
    have hjl:j<l.length:=by rw [<-HN.out];omega
    have hcl:q0k l=l.take j++q2a l[j] (l.drop (j+1)):=by
     have h1:=qo7 l k (by omega) HD.out
     have hj:=HJ.out
     subst hj
     have hz:=HZ.out
     rw [HQ1.out,HQ0.out] at hz
     have h2:q10 l[k+1] l[k]=0:=by simpa using hz.symm
     have h3:l.drop (k+1)=l[k+1]::l.drop (k+1+1):=List.drop_eq_getElem_cons hjl
     have h4:q2a l[k] (l.drop (k+1))=q2a l[k+1] (l.drop (k+1+1)):=by
      rw [h3]
      show (if q10 l[k+1] l[k]=0 then _ else _)=_
      rw [if_pos h2]
     rw [h1,h4]
    have HCL:=hid hcl
    have HX1:=hid hX1
    clear hcl hX1 hw0 hw1 hbel
    go_wp2_with fail
    go_loopw [5,7] (fun av dv wr=>∃ (a d:Nat) (out:List QD) (X:Array Value) (hp:j+d<l.length),av = .int .i64 (a:Int)/\dv = .int .i64 ((d+1:Nat):Int)/\a=j+out.length/\a<=j+d/\wr.heap[g]? = some (.cells X 27 (0,0))/\X.size=cap*6/\X.toList.take (n*6)=cvs qcv (l.take j++out++l.drop a) /\
     q0k l=l.take j++out++q2a l[j+d] (l.drop (j+d+1))/\w.grownBy wr (some g)) (fun _ j _=>n - (RowKit.intOf j).toNat)
    case atStart=>exact ⟨j,0,[],X,hjl,rfl,rfl,rfl,by omega,HX1.out,hXs,by rw [List.append_nil,List.take_append_drop];exact HXt.out,by rw [List.append_nil];exact HCL.out,hbel1⟩
    case round =>
     obtain ⟨a,d,out,X2,hp,rfl,rfl,ha,had,hX2,hX2s,hX2t,hcl2,hbel2⟩:=hrel
     by_cases hpn:j+(d+1)<n
     ·have hp1:j+(d+1)<l.length:=by rw [<-HN.out];exact hpn
      have hg1:(l.take j++out++l.drop a)[j+(d+1)]? = some l[j+(d+1)]:=by
       rw [List.getElem?_append_right (by simp;omega),List.getElem?_drop,<-List.getElem?_eq_getElem hp1]
       congr 1
       simp;omega
      have hg0:(l.take j++out++l.drop a)[j+d]? = some l[j+d]:=by
       rw [List.getElem?_append_right (by simp;omega),List.getElem?_drop,<-List.getElem?_eq_getElem hp]
       congr 1
       simp;omega
      have hYl:(l.take j++out++l.drop a).length=n:=by rw [HN.out];simp;omega
      have c1:=j7d hX2 hX2t hYl hg1
      have c0:=j7d hX2 hX2t hYl hg0
      have hS:=qqt wr.drew (hIB _ (jcg hbel2)) l[j+(d+1)] l[j+d]
      obtain ⟨q1,hq1⟩ : ∃ q,q=l[j+(d+1)]:=⟨_,rfl⟩
      obtain ⟨q0,hq0⟩ : ∃ q,q=l[j+d]:=⟨_,rfl⟩
      rw [<-hq1] at c1 hS
      rw [<-hq0] at c0 hS
      obtain ⟨z,hz⟩ : ∃ z,z=decide (q10 q1 q0=0):=⟨_,rfl⟩
      rw [<-hz] at hS
      obtain ⟨e,he⟩ : ∃ e,e=d+1:=⟨_,rfl⟩
      have hcl3:q0k l=l.take j++out++(if q10 q1 q0=0 then q2a q1 (l.drop (j+(d+1)+1)) else q1::q2a q1 (l.drop (j+(d+1)+1))):=by
       rw [hcl2,show j+d+1=j+(d+1) from by omega,List.drop_eq_getElem_cons hp1,hq1,hq0];rfl
      rw [<-hq0] at hcl2
      rw [<-he] at c1 hcl3 hpn hp1 ⊢
      have HZ2:=hid hz
      have HQ1b:=hid hq1
      have HX2:=hid hX2
      have HX2t:=hid hX2t
      have HC3:=hid hcl3
      have HYl:=hid hYl
      clear hz hq1 hq0 hX2 hX2t hcl2 hcl3 hg1 hg0 hYl HQ1 HQ0 HZ HD HX HXt HCL
      obtain ⟨p,x1,x2,x3,r,m⟩:=q1
      obtain ⟨p',y1,y2,y3,r',m'⟩:=q0
      have d10:wr.cell? ⟨g,j*6+e*6,none⟩=some (.string (ba p)):=by rw [<-Nat.add_mul];exact c1 0 _ rfl
      have d11:wr.cell? ⟨g,j*6+e*6+1,none⟩=some (.int .i64 x1):=by rw [<-Nat.add_mul];exact c1 1 _ rfl
      have d12:wr.cell? ⟨g,j*6+e*6+2,none⟩=some (.int .i64 x2):=by rw [<-Nat.add_mul];exact c1 2 _ rfl
      have d13:wr.cell? ⟨g,j*6+e*6+3,none⟩=some (.int .i64 x3):=by rw [<-Nat.add_mul];exact c1 3 _ rfl
      have d14:wr.cell? ⟨g,j*6+e*6+4,none⟩=some (.string (ba r)):=by rw [<-Nat.add_mul];exact c1 4 _ rfl
      have d15:wr.cell? ⟨g,j*6+e*6+5,none⟩=some (.string (ba m)):=by rw [<-Nat.add_mul];exact c1 5 _ rfl
      have d00:wr.cell? ⟨g,j*6+d*6,none⟩=some (.string (ba p')):=by rw [<-Nat.add_mul];exact c0 0 _ rfl
      have d01:wr.cell? ⟨g,j*6+d*6+1,none⟩=some (.int .i64 y1):=by rw [<-Nat.add_mul];exact c0 1 _ rfl
      have d02:wr.cell? ⟨g,j*6+d*6+2,none⟩=some (.int .i64 y2):=by rw [<-Nat.add_mul];exact c0 2 _ rfl
      have d03:wr.cell? ⟨g,j*6+d*6+3,none⟩=some (.int .i64 y3):=by rw [<-Nat.add_mul];exact c0 3 _ rfl
      have d04:wr.cell? ⟨g,j*6+d*6+4,none⟩=some (.string (ba r')):=by rw [<-Nat.add_mul];exact c0 4 _ rfl
      have d05:wr.cell? ⟨g,j*6+d*6+5,none⟩=some (.string (ba m')):=by rw [<-Nat.add_mul];exact c0 5 _ rfl
      have hS':Calls Tryz.prog 62 #[.agg #[.string (ba p),.int .i64 x1,.int .i64 x2,.int .i64 x3,.string (ba r),.string (ba m)],.agg #[.string (ba p'),.int .i64 y1,.int .i64 y2,.int .i64 y3,.string (ba r'),.string (ba m')]] wr.drew fun e w'=>e = .returned (.bool z)/\Below wr.drew.heap.size wr.drew w':=hS
      clear c0 hS
      have hkk2:(e:Int)<((n - j:Nat):Int):=by omega
      have hkk3:(d:Int)<((n - j:Nat):Int):=by omega
      have hw0:IntKind.i64.wrap ((e:Int) - 1)=(d:Int):=by rw [IntKind.wrap_i64];omega
      have hw1:IntKind.i64.wrap ((e:Int)+1)=((e+1:Nat):Int):=by rw [IntKind.wrap_i64];omega
      have hw2:IntKind.i64.wrap ((a:Int)+1)=((a+1:Nat):Int):=by rw [IntKind.wrap_i64];omega
      have HE:=hid he
      have HA:=hid ha
      have HAD:=hid had
      clear he ha had
      go_wp2_with fail
      go_still_tail 10,(by kernel_rfl)
      clear d00 d01 d02 d03 d04 d05 d10 d11 d12 d13 d14 d15
      go_wp2_with (go_at_call 62;refine hS'.mono ?_)
      rintro en W4 ⟨rfl,hb4⟩
      clear hS'
      have hb4w:Below wr.heap.size wr W4:=(Below.refl _ _).drew.trans hb4
      have hX4:=(hb4w.block g (q39 HX2.out)).trans HX2.out
      have hbel4:w.grownBy W4 (some g):=j5n hbel2 hb4w
      cases z with
      | true =>
       go_wp2_with fail
       go_roundw
       case rel =>
        have he:=HE.out
        have hz:=HZ2.out
        have ha:=HA.out
        have had:=HAD.out
        refine ⟨a,e,out,X2,hp1,rfl,(by first|rfl|(congr 1;omega)),ha,by omega,hX4,hX2s,HX2t.out,?_,hbel4⟩
        rw [HC3.out,if_pos (by simpa using hz.symm),HQ1b.out]
        subst he;rfl
       case measure=>have:=HE.out;simp [RowKit.intOf];omega
      | false =>
       have hX4c : ∀(jj:Nat) (u:Value),(qcv (p,x1,x2,x3,r,m))[jj]? = some u->W4.cell? ⟨g,(j+e)*6+jj,none⟩=some u:=fun jj u hu=>by
        have:=c1 jj u hu
        rw [cell_of_row W4 g _ X2 _ _ hX4]
        rw [cell_of_row wr g _ X2 _ _ HX2.out] at this
        exact this
       have d10:W4.cell? ⟨g,j*6+e*6,none⟩=some (.string (ba p)):=by rw [<-Nat.add_mul];exact hX4c 0 _ rfl
       have d11:W4.cell? ⟨g,j*6+e*6+1,none⟩=some (.int .i64 x1):=by rw [<-Nat.add_mul];exact hX4c 1 _ rfl
       have d12:W4.cell? ⟨g,j*6+e*6+2,none⟩=some (.int .i64 x2):=by rw [<-Nat.add_mul];exact hX4c 2 _ rfl
       have d13:W4.cell? ⟨g,j*6+e*6+3,none⟩=some (.int .i64 x3):=by rw [<-Nat.add_mul];exact hX4c 3 _ rfl
       have d14:W4.cell? ⟨g,j*6+e*6+4,none⟩=some (.string (ba r)):=by rw [<-Nat.add_mul];exact hX4c 4 _ rfl
       have d15:W4.cell? ⟨g,j*6+e*6+5,none⟩=some (.string (ba m)):=by rw [<-Nat.add_mul];exact hX4c 5 _ rfl
       have haX:a*6+5<X2.size:=by have:=HE.out;have:=HA.out;have:=HAD.out;omega
       have hxs : ∀i,i<X2.size->∃ u,W4.cell? ⟨g,i,none⟩=some u:=fun i hi=>⟨X2[i],by rw [cell_of_row W4 _ _ _ _ _ hX4];simp [hi]⟩
       obtain ⟨u0,z0⟩:=hxs (a*6) (by omega)
       obtain ⟨u1,z1⟩:=hxs (a*6+1) (by omega)
       obtain ⟨u2,z2⟩:=hxs (a*6+2) (by omega)
       obtain ⟨u3,z3⟩:=hxs (a*6+3) (by omega)
       obtain ⟨uu4,z4⟩:=hxs (a*6+4) (by omega)
       obtain ⟨uu5,z5⟩:=hxs (a*6+5) (by omega)
       have fz : ∀i,W4.frozen? ⟨g,i,none⟩=false:=fun i=>by simp [World.frozen?,hX4]
       have f0:=fz (a*6)
       have f1:=fz (a*6+1)
       have f2:=fz (a*6+2)
       have f3:=fz (a*6+3)
       have f4:=fz (a*6+4)
       have f5:=fz (a*6+5)
       have han:(a:Int)<(n:Int):=by have:=HE.out;have:=HA.out;have:=HAD.out;omega
       clear fz hxs hX4c haX c1
       go_wp2_with fail
       go_roundw
       case rel =>
        have he:=HE.out
        have hz:=HZ2.out
        have ha:=HA.out
        have had:=HAD.out
        have hal:a<l.length:=by omega
        rw [set6 hX4]
        refine ⟨a+1,e,out ++ [(p,x1,x2,x3,r,m)],_,hp1,rfl,(by first|rfl|(congr 1;omega)),by simp;omega,by omega,setRow_heap W4 g X2 _ _ _ hX4,by simp [hX2s],?_,?_,jkx hbel4 _⟩
        ·have hYe:l.take j++out++l.drop a=(l.take j++out)++l[a]::l.drop (a+1):=by rw [List.drop_eq_getElem_cons hal]
         have h8:=HX2t.out
         rw [hYe] at h8
         have h9:=put6 (f:=(p,x1,x2,x3,r,m)) h8 (o:=a*6) (by simp;omega) rfl
         have hYf:l.take j++(out ++ [(p,x1,x2,x3,r,m)])++l.drop (a+1)=(l.take j++out)++(p,x1,x2,x3,r,m)::l.drop (a+1):=by simp
         rw [hYf]
         exact h9
        ·rw [HC3.out,if_neg (by simpa using hz.symm)]
         have hq:=HQ1b.out
         subst he
         rw [<-hq]
         simp
       case measure=>have:=HE.out;simp [RowKit.intOf];omega
     ·have hpe:j+(d+1)=n:=by have:=HN.out;omega
      have hcl3:q0k l=l.take j++out:=by
       rw [hcl2,List.drop_eq_nil_of_le (by have:=HN.out;omega)]
       show _ ++ []=_
       simp
      have hlo:(l.take j++out).length=a:=by simp;omega
      obtain ⟨i0,hi0',hz,hby,z,hzz,hzs,hzl⟩:=qtj
      obtain ⟨c,hc⟩ : ∃ c,n - a=c+1:=⟨n - a - 1,by omega⟩
      have hzc:((Builtin.zeroCells z.cells (c+1)).toList).length=(c+1)*6:=by rw [Array.length_toList,size_zeroCells,hzs]
      have hz1 : ∀v∈(Builtin.zeroCells z.cells (c+1)).toList,v.oneCell'=true:=fun v hv=>by
       have hv':v∈z.cells.toList:=by
        unfold Builtin.zeroCells at hv
        rw [Array.toList_map,List.mem_map] at hv
        obtain ⟨t,ht,rfl⟩:=hv
        rw [hzs]
        have hm:t % 6<z.cells.size:=by rw [hzs];exact Nat.mod_lt _ (by decide)
        rw [getElem!_pos z.cells (t % 6) hm]
        simp
       rw [hzl] at hv'
       simp at hv'
       rcases hv' with rfl|rfl|rfl|rfl|rfl|rfl<;>rfl
      have hclr : ∀ty cc,(Builtin.clear_ #[22] ty #[.slice (some ⟨g,a*6,none⟩) (n - a) cc]).run Tryz.prog wr = .ok (.tuple #[]) (wr.setRow g (X2.toList.take (a*6)++(Builtin.zeroCells z.cells (c+1)).toList++X2.toList.drop (a*6+(Builtin.zeroCells z.cells (c+1)).toList.length)).toArray):=fun ty cc=>by
       rw [hc]
       exact j21 (P:=Tryz.prog) wr 22 27 ty z _ c Tryz.underlying22 (fun w=>by simp [zeroValue,typeInfo,hi0',hzz]) rfl hz1 g (a*6) cc X2 27 hX2 (by rw [hzc,hX2s];omega)
      have hfin:(X2.toList.take (a*6)++(Builtin.zeroCells z.cells (c+1)).toList++X2.toList.drop (a*6+(Builtin.zeroCells z.cells (c+1)).toList.length)).toArray.toList.take (a*6)=cvs qcv (q0k l):=by
       have hl:(X2.toList.take (a*6)).length=a*6:=by rw [List.length_take,Array.length_toList];omega
       show List.take (a*6) ((X2.toList.take (a*6)++_)++_)=_
       rw [List.append_assoc,List.take_append_of_le_length (by omega),List.take_take,Nat.min_self]
       have h6:X2.toList.take (a*6)=(X2.toList.take (n*6)).take (a*6):=by rw [List.take_take];congr 1;omega
       have e2:(cvs qcv (l.take j++out)).length=a*6:=by rw [q64.lens,hlo];rfl
       rw [h6,hX2t,qu6,<-e2,List.take_left,hcl3]
      have hfs:(X2.toList.take (a*6)++(Builtin.zeroCells z.cells (c+1)).toList++X2.toList.drop (a*6+(Builtin.zeroCells z.cells (c+1)).toList.length)).toArray.size=cap*6:=by
       simp only [List.size_toArray,List.length_append,List.length_take,List.length_drop,Array.length_toList,size_zeroCells,hzs];omega
      rw [<-hcl3] at hlo
      generalize (X2.toList.take (a*6)++(Builtin.zeroCells z.cells (c+1)).toList++X2.toList.drop (a*6+(Builtin.zeroCells z.cells (c+1)).toList.length)).toArray=Y at hclr hfin hfs
      obtain ⟨e,he⟩ : ∃ e,e=d+1:=⟨_,rfl⟩
      have hen : ¬ (e:Int)<((n - j:Nat):Int):=by omega
      have hac : ¬ (cap=a):=by omega
      have han:(a:Int)<=(n:Int):=by omega
      have han':a<=n:=by omega
      have hac':a<=cap:=by omega
      rw [<-he]
      have HFI:=hid hfin
      have HLO:=hid hlo
      clear hfin hlo hcl3 hcl2 hzc hz1 hi0' hzz hzl hzs hz hby hpe hc he had ha HQ1 HQ0 HZ HD HX HXt HCL
      go_wp2_with (at_builtin;refine qg7 _ rfl _ 22 rfl _ rfl (hclr _ _) ?_)
      go_ret
      have hlo:=HLO.out
      generalize q0k l=cl at hlo HFI ⊢
      subst hlo
      exact ⟨_,rfl,rfl,⟨by rw [q64.lens];rfl,.inr ⟨g,cap,Y,rfl,hbg,setRow_heap wr g X2 Y _ _ hX2,by omega,hcm,hfs,HFI.out⟩⟩,jkx hbel2 Y⟩
  ·have hke:k+1=n:=by omega
   have hcl:q0k l=l:=by
    have hkl:k<l.length:=by rw [<-HN.out];omega
    rw [qo7 l k hkl hdis,List.drop_eq_nil_of_le (by have:=HN.out;omega),List.take_of_length_le (by have:=HN.out;omega)]
    show l ++ []=l
    simp
   obtain ⟨j,hj⟩ : ∃ j,j=k+1:=⟨_,rfl⟩
   rw [<-hj]
   have hjn : ¬ (j:Int)<(n:Int):=by omega
   have HCLL:=hid hcl
   clear hke hj hcl hdis
   go_wp2_with fail
   go_ret
   rw [HCLL.out]
   exact ⟨_,rfl,rfl,⟨by rw [q64.lens];rfl,.inr ⟨g,cap,X,(by rw [HN.out];rfl),hbg,hX,by rw [<-HN.out];exact hnc,hcm,hXs,by rw [<-HN.out];exact hXt⟩⟩,hbel⟩
end YtlkpgcifpnppeaaGreatDoor.AM
end Go.Proofs
namespace Go.Proofs
open Go.RowKit Go.Shelf Go.Lib
attribute [local go_sem] Oper.semAt_some
namespace YtlkpgcifpnppeaaGreatDoor.AM
def q63 (_:Unit) (_:Unit) (l:List QD):Option (List QD×(Unit×(List QD×Unit))):=if l.length<=1000000 then some (q0k l,((),([],()))) else none
def qmf:FX:={ f:=61,args:=[.one (.c (.row 1000003)),.one (.c (.fn 62 []))],boxes:=[],rows:=[(1000003,⟨27,true,QT⟩)],res:=.one (.c (.d (.lst QT))),oboxes:=[],orows:=[(1000003,⟨27,false,QT⟩)],F:=fun p=>q63 p.1.1 p.1.2 p.2.2.1 }
set_option maxHeartbeats 2000000 in
set_option maxRecDepth 1000000 in
theorem qf1 (w:World) (v:Value) (n cap:Nat) (p:Option Addr) (hv:v = .slice p n cap) (hn:n<2):Calls Tryz.prog 61 #[v,.func (.func 62) #[] #[]] w fun e w'=>e = .returned v/\w'=w:=by
 subst hv
 have hn2:(n:Int)<2:=by omega
 go_enter Tryz.func61,Tryz.ntmps61
 go_wp2_with fail
 go_ret
 exact ⟨rfl,rfl⟩
theorem jfo : ∀l:List QD,(l.map (q01 QT)).flatten=(cvs (T:=QT) qcv l).map Dat.v
 | []=>rfl
 | x::l=>by
  rw [List.map_cons,List.flatten_cons,q97,List.map_append,jfo l,q64.dat]
theorem qdq (p:QD) : ∀l:List QD,(q2a p l).length<=l.length
 | []=>Nat.le_refl _
 | y::r=>by
  show (if q10 y p=0 then q2a y r else y::q2a y r).length<=_
  have:=qdq y r
  split<;>simp<;>omega
theorem j3h (w:World) (B:Nat) (v:Value) (l:List QD) (hI:Inv w) (hown:w.ownsRow B 27 6 v l.length (cvs qcv l)) (hB:B<=w.heap.size) (hIB : ∀wr,w.grownBy wr v.ownBlock->Inv wr) (hll:l.length<=1000000) (hsl : ∃ a n c,v = .slice a n c) :
  Calls Tryz.prog 61 #[v,.func (.func 62) #[] #[]] w fun e w'=>∃ v',e = .returned v'/\v'.ownBlock=v.ownBlock/\w'.ownsRow B 27 6 v' (q0k l).length (cvs qcv (q0k l))/\w.grownBy w' v.ownBlock:=by
 by_cases h2:2<=l.length
 ·rcases hown.2 with ⟨_,hz⟩|⟨g,cap,cur,rfl,hbg,hg,hnc,hcm,hcs,htk⟩
  ·omega
  ·exact qus w B g cap cur l hI hIB hbg hg hnc hcm hcs htk hB hll h2
 ·have hcl:q0k l=l:=by
   match l,h2 with
   | [],_=>rfl
   | [x],_=>rfl
   | x::y::r,h=>exact absurd (by simp) h
  rw [hcl]
  rcases hown.2 with ⟨rfl,hz⟩|⟨g,cap,cur,rfl,_⟩
  ·refine (qf1 w _ 0 0 none rfl (by omega)).mono ?_
   rintro e w' ⟨rfl,rfl⟩
   exact ⟨_,rfl,rfl,hown,World.grownBy.refl _ _⟩
  ·refine (qf1 w _ l.length cap _ rfl (by omega)).mono ?_
   rintro e w' ⟨rfl,rfl⟩
   exact ⟨_,rfl,rfl,hown,World.grownBy.refl _ _⟩
theorem j00:q88 Inv Tryz.prog qmf:=fun G hG=>⟨by kernel_rfl,fun p q h=>by
 obtain ⟨⟨u1,u2⟩,b,⟨l,u3⟩⟩:=p
 have h':q63 () () l=some q:=h
 unfold q63 at h'
 split at h'
 case isFalse=>cases h'
 rename_i hc
 obtain rfl:=Option.some.inj h'
 intro F hF e w vs hp hv
 obtain ⟨vl⟩:=vs
 match vl,hv with
 | [x,y],⟨⟨_,hx,hsl⟩,hy,_⟩ =>
  have hx':x=e.rv 1000003 0:=hx
  have hy2:DatRep e.Pc w y (.v (.func (.func 62) #[] #[])):=hy
  have hy':y = .func (.func 62) #[] #[]:=by cases hy2 with|v x=>rfl
  subst hx' hy'
  obtain ⟨hs,cells,hown,hd,h1⟩:=hp.rows 1000003 ⟨0,27,6,true,l.map (q01 QT)⟩ rfl
  have hd':q0b (DatRep e.Pc w) cells ((cvs (T:=QT) qcv l).map Dat.v):=by rw [<-jfo];exact hd
  obtain rfl:=qla hd'
  have hown':w.ownsRow F.w0.heap.size 27 6 (e.rv 1000003 0) l.length (cvs qcv l):=by
   have h2:=(q2c (show (27:Nat)<1099511627776 by decide)).1 hown
   rw [List.length_map] at h2;exact h2
  have hIG : ∀wr,Below F.w0.heap.size F.w0 wr->Inv wr:=fun wr hb=>hG.im wr (by have h9:=F.gst _ _ F.g0 hb;rw [hF] at h9;exact h9)
  have hge : ∀g,(e.rv 1000003 0).ownBlock=some g->F.w0.heap.size<=g:=fun g hg=>(hown'.lt g hg).1
  refine (j3h w F.w0.heap.size _ l (hIG w hp.below) hown' hp.sizeLe (fun wr hgr=>hIG wr (hp.below.grown hgr hp.sizeLe (fun k hk=>hge k hk))) hc hsl).mono ?_
  rintro e1 w' ⟨v',rfl,hvb,hown2,hgr⟩
  have hcl:(q0k l).length<=1000000:=by
   cases l with
   | nil=>exact Nat.zero_le _
   | cons x l=>have:=qdq x l;show (q2a x l).length+1<=_;simp at hc;omega
  obtain ⟨_,hn⟩:=hp.rowNext (w':=w') 1000003 ⟨1,27,6,false,(q0k l).map (q01 QT)⟩ (e.rv 1000003 0) v' (cvs qcv (q0k l)) (Or.inl ⟨_,rfl,rfl,rfl,fun h=>(by cases h),Or.inr rfl⟩)
   (fun z hz=>by obtain ⟨f,_,rfl⟩:=List.mem_map.1 hz;exact q0c QT f) (by rw [List.length_map];exact (q2c (show (27:Nat)<1099511627776 by decide)).2 hown2) hgr (fun r hr hw=>by
    have hr':some (⟨0,27,6,true,l.map (q01 QT)⟩:Row)=some r:=hr
    obtain rfl:=Option.some.inj hr'
    cases hw) (fun b hb=>Or.inl (hvb ▸ hb)) (by show q0b _ _ ((q0k l).map (q01 QT)).flatten;exact q64.reps _) (q64.ones _) (fun v0 h0=>absurd h0 (F.r0lt (by decide) v0))
  have hdat:=hn.rowDat (t:=1000003) rfl rfl
  have hv9:qh8 e.rv 1000003 1 v' 1000003 1=v':=q0t _ _ _ _
  have hf:=hn.forget
  obtain ⟨hfw,hz⟩:=hf.rowNext (w':=w') 1000003 ⟨0,27,6,false,[]⟩ (.slice none 0 0) (.slice none 0 0) [] (Or.inr ⟨rfl,rfl⟩) (fun z hz=>by cases hz) (by exact ⟨rfl,.inl ⟨rfl,rfl⟩⟩) (World.grownBy.refl _ _) (fun r hr=>by cases hr) (fun b hb=>Or.inl hb) trivial (fun u hu=>by cases hu) (fun v0 h0=>absurd h0 (F.r0lt (by decide) v0))
  refine ⟨v',_,rfl,hz.re (F':=F) rfl rfl rfl rfl rfl rfl (by funext i;rfl) (by
   funext i
   show (lk [(1000003,(⟨0,27,false,QT,[]⟩:TRow))] i).map eR=upd _ 1000003 _ i
   rw [q0f]
   unfold upd
   by_cases hi:i=1000003
   ·subst hi;rfl
   ·rw [if_neg hi];simp [hi];rfl),?_⟩
  have hdat':DatRep (fun b o=>e.Pc b o\/(⟨1,27,6,false,(q0k l).map (q01 QT)⟩:Row).pro v' b o) w' (qh8 e.rv 1000003 1 v' 1000003 1) (.lst 6 ((q0k l).map (q01 QT))):=hdat
  rw [hv9] at hdat'
  exact hdat'.mono (fun b o hp=>Or.inl hp) (fun b o hp=>rfl)⟩
end YtlkpgcifpnppeaaGreatDoor.AM
end Go.Proofs
namespace Go.Proofs
open Go.RowKit Go.Shelf Go.Lib
attribute [local go_sem] Oper.semAt_some
namespace YtlkpgcifpnppeaaGreatDoor.AM
theorem qhp (w:World) (a:Option Addr) (n c:Nat) (f:Value) (R:World->Prop) (hst:Calls Tryz.prog 78 #[.slice a n c,.int .i64 (n:Int),f] w fun e w'=>(∃ v',e = .returned v')/\R w') :
  Calls Tryz.prog 60 #[.slice a n c,f] w fun e w'=>e = .returned (.tuple #[])/\R w':=by
 go_enter Tryz.func60,Tryz.ntmps60
 go_wp2_with (go_at_call 78;refine hst.mono ?_)
 rintro e w' ⟨⟨v',rfl⟩,h1⟩
 clear hst
 go_wp2_with fail
 go_end0
 exact ⟨rfl,h1⟩
theorem j7r (w:World) (hI:Inv w) (B:Nat) (v:Value) (l:List QD) (hown:w.ownsRow B 27 6 v l.length (cvs qcv l)) (hBI : ∀w',w.grownBy w' v.ownBlock->Inv w') (hl:l.length<=20) :
  Calls Tryz.prog 60 #[v,.func (.func 56) #[] #[]] w fun e w'=>e = .returned (.tuple #[])/\(w'.ownsRow B 27 6 v l.length (cvs qcv (qbv l))/\w.grownBy w' v.ownBlock):=by
 rcases hown.2 with ⟨rfl,hz⟩|⟨g,cap,cur,rfl,hbg,hg,hnc,hcm,hcs,htk⟩
 ·have h0:l = []:=List.eq_nil_of_length_eq_zero hz
  subst h0
  have hi:qbv [] = []:=List.eq_nil_of_length_eq_zero (qa8 [])
  rw [hi]
  refine qhp w none 0 0 _ _ (qm5 w _ _ 0 (by omega) _ ?_)
  refine (qx9 w _ _ 0 0 (by omega) (by omega)).mono ?_
  rintro e w' ⟨h1,rfl⟩
  exact ⟨h1,hown,World.grownBy.refl _ _⟩
 ·have hX:=jne w hI B g cap cur l hbg hBI hg hnc hcm hcs htk (by omega)
  refine qhp w _ l.length cap _ _ ?_
  by_cases h:l.length<20
  ·exact qm5 w _ _ l.length h _ hX
  ·have h20:l.length=20:=by omega
   refine qvk w _ _ l.length h20 _ ?_
   rw [show ((l.length:Nat):Int)=20 from by omega] at hX
   exact hX
def q7x (_:Unit) (_:Unit) (l:List QD):Option (Unit×(Unit×(List QD×Unit))):=if l.length<=20 then some ((),((),(qbv l,()))) else none
def qql:FX:={ f:=60,args:=[.one (.c (.row 2000000)),.one (.c (.fn 56 []))],boxes:=[],rows:=[(2000000,⟨27,true,QT⟩)],res:=.tup [],oboxes:=[],orows:=[(2000000,⟨27,true,QT⟩)],F:=fun p=>q7x p.1.1 p.1.2 p.2.2.1 }
theorem j1m:q88 Inv Tryz.prog qql:=fun G hG=>⟨by kernel_rfl,fun p q h=>by
 obtain ⟨⟨u1,u2⟩,b,⟨l,u3⟩⟩:=p
 have h':q7x () () l=some q:=h
 unfold q7x at h'
 split at h'
 case isFalse=>cases h'
 rename_i hc
 obtain rfl:=Option.some.inj h'
 intro F hF e w vs hp hv
 obtain ⟨vl⟩:=vs
 match vl,hv with
 | [x,y],⟨⟨_,hx,hsl⟩,hy,_⟩ =>
  have hx':x=e.rv 2000000 0:=hx
  have hy2:DatRep e.Pc w y (.v (.func (.func 56) #[] #[])):=hy
  have hy':y = .func (.func 56) #[] #[]:=by cases hy2 with|v x=>rfl
  subst hx' hy'
  obtain ⟨hs,cells,hown,hd,h1⟩:=hp.rows 2000000 ⟨0,27,6,true,l.map (q01 QT)⟩ rfl
  have hd':q0b (DatRep e.Pc w) cells ((cvs (T:=QT) qcv l).map Dat.v):=by rw [<-jfo];exact hd
  obtain rfl:=qla hd'
  have hown':w.ownsRow F.w0.heap.size 27 6 (e.rv 2000000 0) l.length (cvs qcv l):=by
   have h2:=(q2c (show (27:Nat)<1099511627776 by decide)).1 hown
   rw [List.length_map] at h2;exact h2
  have hIG : ∀wr,Below F.w0.heap.size F.w0 wr->Inv wr:=fun wr hb=>hG.im wr (by have h9:=F.gst _ _ F.g0 hb;rw [hF] at h9;exact h9)
  have hge : ∀g,(e.rv 2000000 0).ownBlock=some g->F.w0.heap.size<=g:=fun g hg=>(hown'.lt g hg).1
  refine (j7r w (hIG w hp.below) F.w0.heap.size _ l hown' (fun wr hgr=>hIG wr (hp.below.grown hgr hp.sizeLe (fun k hk=>hge k hk))) hc).mono ?_
  rintro e1 w' ⟨rfl,hown2,hgr⟩
  rw [<-qa8 l] at hown2
  obtain ⟨_,hn⟩:=hp.rowNext (w':=w') 2000000 ⟨0,27,6,true,(qbv l).map (q01 QT)⟩ (e.rv 2000000 0) (e.rv 2000000 0) (cvs qcv (qbv l)) (Or.inl ⟨_,rfl,rfl,rfl,fun h=>(by cases h),Or.inl ⟨rfl,rfl⟩⟩)
   (fun z hz=>by obtain ⟨f,_,rfl⟩:=List.mem_map.1 hz;exact q0c QT f) (by rw [List.length_map];exact (q2c (show (27:Nat)<1099511627776 by decide)).2 hown2) hgr (fun r hr hw=>by
    have hr':some (⟨0,27,6,true,l.map (q01 QT)⟩:Row)=some r:=hr
    obtain rfl:=Option.some.inj hr'
    cases hw) (fun b hb=>Or.inl hb) (by show q0b _ _ ((qbv l).map (q01 QT)).flatten;exact q64.reps _) (q64.ones _) (fun v0 h0=>hp.kp.rowM 2000000 v0 _ h0 rfl)
  refine ⟨_,_,rfl,hn.re (F':=F) rfl rfl rfl rfl rfl rfl (by funext i;rfl) (by
   funext i
   show (lk [(2000000,(⟨0,27,true,QT,qbv l⟩:TRow))] i).map eR=upd _ 2000000 _ i
   rw [q0f]
   unfold upd
   by_cases hi:i=2000000
   ·subst hi;rfl
   ·rw [if_neg hi,if_neg hi]
    show _=(lk [(2000000,(⟨0,27,true,QT,l⟩:TRow))] i).map eR
    rw [q0f];simp [hi]),?_⟩
  exact ⟨#[],rfl,trivial⟩⟩
end YtlkpgcifpnppeaaGreatDoor.AM
end Go.Proofs
namespace Go.Proofs
open Go.RowKit Go.Lib
namespace YtlkpgcifpnppeaaGreatDoor.AM
section
variable {P:Program}
theorem qxd {t T:Nat} {el:TypeId} {ls:List KL} {b sz:Nat} {us:List Value} {Pc:Nat->Nat->Prop} {xs:List (List Dat)} {w:World} {r:List Dat} (hT:j8k P t=some (T,el,ls)) (hm:qo9 Pc w b T sz xs) (hus:q6w ls us=true) (hf:findD ls us xs=some (some r)) :
  ∃ vs,q0b (DatRep Pc w) vs (r.drop ls.length)/\(Instr.lookup t (.map (some b)) (valOf (mKa T) us) true).run P w = .ok (.tuple #[valOf (mVa T) vs,.bool true]) w:=by
 obtain ⟨k,ka,vw,va,u1,u2,u3,u4,t1,t2,rfl,t4,t5,_⟩:=qau hT
 obtain ⟨_,es,h3,h4⟩:=hm
 obtain ⟨c1,_,f,hF,c2⟩:=qba u2 hus w
 obtain ⟨j,us',h5,h6,_,_⟩:=qhn (i:=0) hF t2 h4 hf
 refine ⟨_,h6,?_⟩
 simp only [Instr.lookup,Sem.run_bind,run_underlying u1,MapKept.run_getObj_map h3,Result.andThen_ok,Sem.run_pure,c1,c2,h5]
 rfl
theorem qxt {t T:Nat} {el:TypeId} {ls:List KL} {b sz:Nat} {us:List Value} {Pc:Nat->Nat->Prop} {xs:List (List Dat)} {w:World} {z:Value} (hT:j8k P t=some (T,el,ls)) (hz:jo0 P el=some z) (hm:qo9 Pc w b T sz xs) (hus:q6w ls us=true) (hf:findD ls us xs=some none) :
  (Instr.lookup t (.map (some b)) (valOf (mKa T) us) true).run P w = .ok (.tuple #[z,.bool false]) w:=by
 obtain ⟨k,ka,vw,va,u1,u2,u3,u4,t1,t2,rfl,t4,t5,_⟩:=qau hT
 obtain ⟨_,es,h3,h4⟩:=hm
 obtain ⟨inf,hinf,hz1⟩:=Option.bind_eq_some_iff.1 hz
 obtain ⟨c1,_,f,hF,c2⟩:=qba u2 hus w
 have h5:(f (qaa T 0 es) 0).run P w = .ok none w:=qhn (i:=0) hF t2 h4 hf
 have hzr:(zeroValue el).run P w = .ok z w:=by simp [zeroValue,typeInfo,hinf,hz1]
 simp only [Instr.lookup,Sem.run_bind,run_underlying u1,MapKept.run_getObj_map h3,Result.andThen_ok,Sem.run_pure,c1,c2,h5,hzr]
 rfl
theorem je3 {t T:Nat} {el:TypeId} {ls:List KL} {b sz:Nat} {us vs:List Value} {v:List Dat} {Pc:Nat->Nat->Prop} {xs:List (List Dat)} {w:World} (hT:j8k P t=some (T,el,ls)) (hm:qo9 Pc w b T sz xs) (hus:q6w ls us=true) (hv:q0b (DatRep Pc w) vs v) (h1 : ∀u∈vs,u.oneCell'=true) (hl:vs.length+ls.length=sz) (hf:jcc ls us v xs=some (xs ++ [us.map .v++v])) (hF0:findD ls us xs=some none)
  (hpc : ∀o,¬ Pc b o) :
  ∃ w',(Instr.mapUpdate t (.map (some b)) (valOf (mKa T) us) (valOf (mVa T) vs)).run P w = .ok () w'/\qo9 Pc w' b T sz (xs ++ [us.map .v++v])/\(∀k,k≠b->w'.heap[k]? = w.heap[k]?)/\w'.heap.size=w.heap.size/\w'.os=w.os/\w'.tape=w.tape/\w'.output=w.output:=by
 obtain ⟨k,ka,vw,va,u1,u2,u3,u4,t1,t2,rfl,t4,t5,_⟩:=qau hT
 obtain ⟨hsz,es,h7,h8⟩:=hm
 obtain ⟨c1,c3,f,hF,c2⟩:=qba u2 hus w
 obtain ⟨es',k1,k2⟩:=jl6 (i:=0) hF hus t2 hv h1 hl h8 hf
 have h5:(f (qaa T 0 es) 0).run P w = .ok none w:=qhn (i:=0) hF t2 h8 hF0
 rcases k2 with ⟨q1,q2,q3⟩|⟨j,u,q1,_⟩
 ·refine ⟨{ w with heap:=w.heap.setIfInBounds b (.map (qaa T 0 es').toArray es'.length) },?_,⟨hsz,es',(MapKept.heap_set h7).1,?_⟩,(MapKept.heap_set h7).2,by simp,rfl,rfl,rfl⟩
  ·simp only [Instr.mapUpdate,Sem.run_bind,run_underlying u1,MapKept.run_getObj_map h7,Result.andThen_ok,c1,c2,q1,MapKept.run_setObj_map _ h7]
   rw [q2,q3]
   simp
  ·refine k1.mono fun us x ⟨m1,m2⟩=>⟨m1.mono fun _ _ hd=>hd.mono (fun _ _ h=>h) (fun b' o hp=>?_),m2⟩
   have hne:b'≠b:=fun e=>hpc o (e ▸ hp)
   exact World.cell?_of_block (w:=w) ((MapKept.heap_set h7).2 b' hne)
 ·rw [h5] at q1;cases q1
end
end YtlkpgcifpnppeaaGreatDoor.AM
end Go.Proofs
