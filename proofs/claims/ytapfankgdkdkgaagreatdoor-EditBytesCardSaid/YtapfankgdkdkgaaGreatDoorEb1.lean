
import Derived.Test.YtapfankgdkdkgaaGreatDoorEb0
set_option linter.unusedVariables false
set_option linter.unusedSimpArgs false
namespace Go.Proofs.YtapfankgdkdkgaaGreatDoor.AM
open Go.RowKit
theorem qs0 {P:Program} (w:World) (base:Nat) (t ty e:TypeId) (i:TypeInfo) (z:Value) (size bytes:Nat) (ht:P.underlying t=some (.slice e)) (hi:P.info? e=some i) (hz:i.zero=some z)
  (hsize:i.size=size) (hby:i.bytes=bytes) (hzs:z.cells.size=size) (hsz:0<size)
  (v:Value) (n:Nat) (xs:List Value) (hown:w.ownsRow base e size v n xs)
  (x:Value) (m:Nat) (news:List Value) (hx:(∃ a c,x = .slice (some a) m c/\∀j u,news[j]? = some u->w.cell? (a.add j)=some u)\/(∃ c,x = .slice none m c/\m=0)) (hl:news.length=m*size) (h1 : ∀u∈news,u.oneCell'=true)
  (h63:n+m<=maxLen) (hbytes:(n+m)*bytes<=140737488355328) (hbase:base<=w.heap.size) :
  ∃ v' w',(Builtin.append_ #[t,t] ty #[v,x]).run P w = .ok v' w'/\w'.ownsRow base e size v' (n+m) (xs++news)/\w.grownBy w' v.ownBlock /\
   (∀g o,v.ownBlock=some g->o<n*size->w'.cell? ⟨g,o,none⟩=w.cell? ⟨g,o,none⟩) /\
   (∀b,v'.ownBlock=some b->v.ownBlock=some b\/w.heap.size<=b):=by
 subst hsize
 subst hby
 rcases hx with ⟨a,c,rfl,hnews⟩|⟨c,rfl,rfl⟩
 ·obtain ⟨v',w',hr,h2,h3,_⟩:=run_append_own (P:=P) w base t ty e i z i.size i.bytes ht hi hz rfl rfl hzs hsz v n xs hown a m c news hl hnews h1 h63 hbytes hbase
  refine ⟨v',w',hr,h2,h3,?_⟩
  have hm63:n+m<=9223372036854775807:=by unfold maxLen at h63;omega
  rcases hown.2 with ⟨rfl,rfl⟩|⟨g,cap,cur,rfl,hbg,hg,hnc,hcm,hcs,htake⟩
  ·refine ⟨fun g o hg=>by simp [Value.ownBlock] at hg,fun b hb=>Or.inr ?_⟩
   by_cases hm:m=0
   ·subst hm
    obtain ⟨_,hq⟩:=h2
    rcases hq with ⟨rfl,_⟩|⟨g,cap,cur,rfl,h4,h5,_⟩
    ·simp [Value.ownBlock] at hb
    ·have hn:news = []:=List.eq_nil_of_length_eq_zero (by simpa using hl)
     subst hn
     have:(Builtin.append_ #[t,t] ty #[.slice none 0 0,.slice (some a) 0 c]).run P w = .ok (.slice none 0 0) w:=by
      simp [Builtin.append_,run_underlying ht,sizeOf,typeInfo,hi,Builtin.lenOf,Builtin.firstCells,loadCells,loadCellsFrom]
     rw [this] at hr
     simp at hr
   ·have hr':=run_append_nil (P:=P) w t ty e i z ht hi hz a m c news hl hnews (by omega) (by omega) (by have hb:=hbytes;simp only [Nat.zero_add] at hb;omega)
    rw [hr'] at hr
    simp only [Result.ok.injEq] at hr
    obtain ⟨rfl,rfl⟩:=hr
    simp [Value.ownBlock] at hb
    omega
  ·by_cases hroom:n+m<=cap
   ·have hfit:n*i.size+news.length<=cur.size:=by rw [hl,hcs,<-Nat.add_mul];exact Nat.mul_le_mul_right _ hroom
    have hr':=run_append_room (P:=P) w t ty e i ht hi g n cap cur hg a m c news hl hnews h1 hroom hfit
    rw [hr'] at hr
    simp only [Result.ok.injEq] at hr
    obtain ⟨rfl,rfl⟩:=hr
    refine ⟨fun g' o hg' ho=>?_,fun b hb=>Or.inl hb⟩
    simp only [Value.ownBlock,Option.some.injEq] at hg'
    subst hg'
    rw [cell_setRow_same w _ o cur _ _ _ hg,cell_of_row w _ o cur _ _ hg]
    have hlen:o<(cur.toList.take (n*i.size)).length:=by
     rw [List.length_take,Array.length_toList,hcs]
     have:=Nat.mul_le_mul_right i.size hnc
     omega
    simp only [List.getElem?_toArray,List.append_assoc]
    rw [List.getElem?_append_left hlen,List.getElem?_take_of_lt ho]
    simp
   ·have holds : ∀j u,xs[j]? = some u->w.cell? ((⟨g,0,none⟩:Addr).add j)=some u:=hown.cells (g:=g) rfl
    have hr':=run_append_grow (P:=P) w t ty e i z ht hi hz ⟨g,0,none⟩ n cap xs hown.1 holds a m c news hl hnews (by omega) (by omega) (growslice_fits (by omega) hbytes)
    rw [hr'] at hr
    simp only [Result.ok.injEq] at hr
    obtain ⟨rfl,rfl⟩:=hr
    refine ⟨fun g' o hg' ho=>?_,fun b hb=>Or.inr ?_⟩
    ·simp only [Value.ownBlock,Option.some.injEq] at hg'
     subst hg'
     exact World.cell?_alloc_lt w.drew _ ⟨_,o,none⟩ (jl0 hg)
    ·simp [Value.ownBlock] at hb
     omega
 ·have hn:news = []:=List.eq_nil_of_length_eq_zero (by simpa using hl)
  subst hn
  refine ⟨v,w,?_,by simpa using hown,World.grownBy.refl _ _,fun _ _ _ _=>rfl,fun b hb=>Or.inl hb⟩
  rcases hown.2 with ⟨rfl,rfl⟩|⟨g,cap,cur,rfl,_,_,hnc,_⟩
  ·simp [Builtin.append_,run_underlying ht,sizeOf,typeInfo,hi,Builtin.lenOf,Builtin.firstCells]
  ·simp [Builtin.append_,run_underlying ht,sizeOf,typeInfo,hi,Builtin.lenOf,Builtin.firstCells,hnc,storeCells]
def j5l {α:Type} (f:Nat->Nat->α) (i j:Nat) (x:α):Nat->Nat->α:=fun a b=>if a=i/\b=j then x else f a b
theorem q2e {α:Type} (f:Nat->Nat->α) (i j:Nat) (x:α):j5l f i j x i j=x:=if_pos ⟨rfl,rfl⟩
theorem jfp {α:Type} (f:Nat->Nat->α) {i j a b:Nat} (x:α) (h:a≠i\/b≠j):j5l f i j x a b=f a b:=if_neg (fun hh=>by rcases h with h|h;exact h hh.1;exact h hh.2)
variable {F:Fr} {σ:St} {e:Env} {w:World}
def Row.pro (r:Row) (v:Value) (b o:Nat):Prop:=r.wr=false/\v.ownBlock=some b/\o<r.xs.length*r.sz
theorem Hp.rowNext (h:Hp F σ e w) {w':World} (t:Nat) (r':Row) (v v':Value) (cells:List Value)
  (hold:(∃ r,σ.row t=some r/\v=e.rv t r.gen/\r'.sz=r.sz/\(r.wr=false->r'.wr=false/\r.xs.length*r.sz<=r'.xs.length*r'.sz)/\((r'.gen=r.gen/\v'=v)\/r'.gen=r.gen+1))\/(σ.row t=none/\v = .slice none 0 0))
  (hs : ∀x∈r'.xs,x.length=r'.sz)
  (hown:q9c w' F.w0.heap.size r'.E r'.sz v' r'.xs.length cells) (hgr:w.grownBy w' v.ownBlock)
  (hkeep : ∀r,σ.row t=some r->r.wr=false->∀g o,v.ownBlock=some g->o<r.xs.length*r.sz->w'.cell? ⟨g,o,none⟩=w.cell? ⟨g,o,none⟩)
  (hblk : ∀b,v'.ownBlock=some b->v.ownBlock=some b\/w.heap.size<=b)
  (hd:q0j (DatRep e.Pc w) cells r'.xs.flatten) (h1 : ∀u∈cells,u.oneCell'=true) :
  Fwd e σ w { e with rv:=j5l e.rv t r'.gen v',Pc:=fun b o=>e.Pc b o\/r'.pro v' b o } { σ with row:=upd σ.row t (some r') } w' /\
  Hp F { σ with row:=upd σ.row t (some r') } { e with rv:=j5l e.rv t r'.gen v',Pc:=fun b o=>e.Pc b o\/r'.pro v' b o } w':=by
 have hvb : ∀b,v.ownBlock=some b->F.w0.heap.size<=b/\b<w.heap.size:=fun b hb=>by
  rcases hold with ⟨r,hr,rfl,_⟩|⟨_,rfl⟩
  ·exact h.rowLt hr hb
  ·simp [Value.ownBlock] at hb
 have hvbox : ∀b β,v.ownBlock=some b->(σ.box β).isSome=true->e.m β≠b:=fun b β hb hβ=>by
  rcases hold with ⟨r,hr,rfl,_⟩|⟨_,rfl⟩
  ·exact h.rowBox t r b β hr hb hβ
  ·simp [Value.ownBlock] at hb
 have hvrow : ∀b t' r',t'≠t->σ.row t'=some r'->v.ownBlock=some b->(e.rv t' r'.gen).ownBlock≠some b:=fun b t' r' hne hr' hb=>by
  rcases hold with ⟨r,hr,rfl,_⟩|⟨_,rfl⟩
  ·exact h.rowNe t t' r r' b (Ne.symm hne) hr hr' hb
  ·simp [Value.ownBlock] at hb
 have hcell : ∀b o,e.Pc b o->w'.cell? ⟨b,o,none⟩=w.cell? ⟨b,o,none⟩:=fun b o hp=>by
  by_cases hb:v.ownBlock=some b
  ·rcases hold with ⟨r,hr,rfl,_⟩|⟨_,rfl⟩
   ·exact hkeep r hr (h.rowPc t r b hr hb o hp).1 b o hb (h.rowPc t r b hr hb o hp).2
   ·simp [Value.ownBlock] at hb
  ·exact World.cell?_of_block (hgr.block b (h.pcLt b o hp) (fun hh=>hb hh.symm))
 have hrv : ∀t' r g,σ.row t'=some r->g<=r.gen->j5l e.rv t r'.gen v' t' g=e.rv t' g:=fun t' r g hr hg=>by
  by_cases ht:t'=t
  ·subst ht
   rcases hold with ⟨r0,hr0,hv,_,_,hgen⟩|⟨hn,_⟩
   ·rw [hr0] at hr;cases hr
    rcases hgen with ⟨hg1,hg2⟩|hg1
    ·by_cases hgg:g=r'.gen
     ·subst hgg;rw [q2e,hg2,hv,hg1]
     ·exact jfp _ _ (Or.inr hgg)
    ·exact jfp _ _ (Or.inr (by omega))
   ·rw [hn] at hr;cases hr
  ·exact jfp _ _ (Or.inl ht)
 have hf:Fwd e σ w { e with rv:=j5l e.rv t r'.gen v',Pc:=fun b o=>e.Pc b o\/r'.pro v' b o } { σ with row:=upd σ.row t (some r') } w' :=
  ⟨fun _ _ h=>Or.inl h,hcell,fun _ hβ=>⟨hβ,rfl⟩,fun t' r g hr hg=>⟨by
   by_cases ht:t'=t
   ·subst ht
    refine ⟨r',q0w _ _ _,?_⟩
    rcases hold with ⟨r0,hr0,_,hsz,_,hgen⟩|⟨hn,_⟩
    ·rw [hr0] at hr;cases hr;exact ⟨by omega,hsz⟩
    ·rw [hn] at hr;cases hr
   ·exact ⟨r,(q3p _ _ ht).trans hr,hg,rfl⟩,hrv t' r g hr hg⟩⟩
 have rowc : ∀t' r,upd σ.row t (some r') t'=some r->(t'=t/\r=r')\/(t'≠t/\σ.row t'=some r):=fun t' r hr=>by
  by_cases ht:t'=t
  ·subst ht;rw [q0w] at hr;exact Or.inl ⟨rfl,(Option.some.inj hr).symm⟩
  ·rw [q3p _ _ ht] at hr;exact Or.inr ⟨ht,hr⟩
 have hbase : ∀b,v'.ownBlock=some b->F.w0.heap.size<=b/\b<w'.heap.size:=fun b hb=>hown.lt b hb
 have hvK : ∀b,v.ownBlock=some b->¬ F.K b:=fun b hb=>by
  rcases hold with ⟨r,hr,rfl,_⟩|⟨_,rfl⟩
  ·exact h.kp.rowK t r b hr hb
  ·simp [Value.ownBlock] at hb
 have hvK' : ∀b,v'.ownBlock=some b->¬ F.K b:=fun b hb hk=>by
  rcases hblk b hb with h1|h1
  ·exact hvK b h1 hk
  ·have:=h.kp.lt hk;omega
 refine ⟨hf,h.below.grown hgr h.sizeLe (fun k hk=>(hvb k hk).1),fun b o hp=>Or.inl (h.pc0 b o hp),?_,?_,fun β T cs hx=>?_,?_,h.boxNe,fun t' r hr=>?_,?_,?_,?_,?_,⟨fun k hk=>(hgr.block k (h.kp.lt hk) (fun hh=>hvK k hh.symm hk)).trans (h.kp.keep k hk),Nat.le_trans h.kp.wkLe hgr.size,h.kp.boxK,fun t' r b hr hb=>?_,fun b o hp=>hp.elim (h.kp.pcK b o) (fun hN=>Or.inr (hvK' b hN.2.1)),fun b o hp=>(hcell b o (h.pc0 b o hp)).trans (h.kp.cellK b o hp),h.kp.boxM⟩⟩
 ·rintro b o (hp|hp)
  ·exact h.pcNew b o hp
  ·exact Or.inr (hbase b hp.2.1).1
 ·rintro b o (hp|hp)
  ·exact Nat.lt_of_lt_of_le (h.pcLt b o hp) hgr.size
  ·exact (hbase b hp.2.1).2
 ·obtain ⟨h0,g1⟩:=h.boxes β T cs hx
  exact ⟨h0,g1.fwd hf (hgr.block _ g1.lt (fun hh=>hvbox _ β hh.symm (isSome_some hx) rfl))⟩
 ·rintro β hβ o (hp|hp)
  ·exact h.boxPc β hβ o hp
  ·rcases hblk _ hp.2.1 with hb|hb
   ·exact hvbox _ β hb hβ rfl
   ·have:=h.boxLt hβ;exact absurd hb (by show ¬ w.heap.size<=e.m β;omega)
 ·rcases rowc t' r hr with ⟨rfl,rfl⟩|⟨ht,hr'⟩
  ·refine ⟨hs,cells,?_,hd.mono fun _ _=>DatRep.mono (fun _ _ h=>Or.inl h) hcell,h1⟩
   show q9c w' F.w0.heap.size r.E r.sz (j5l e.rv t' r.gen v' t' r.gen) r.xs.length cells
   rw [q2e]
   exact hown
  ·obtain ⟨hs',cs,k1,k2,k2'⟩:=h.rows t' r hr'
   refine ⟨hs',cs,?_,k2.mono fun _ _=>DatRep.mono (fun _ _ h=>Or.inl h) hcell,k2'⟩
   show q9c w' F.w0.heap.size r.E r.sz (j5l e.rv t r'.gen v' t' r.gen) r.xs.length cs
   rw [hrv t' r r.gen hr' (Nat.le_refl _)]
   refine ⟨k1.1,?_⟩
   rcases k1.2 with k3|⟨g,cap,cur,k3,k4,k5,k6⟩
   ·exact .inl k3
   ·exact .inr ⟨g,cap,cur,k3,k4,(hgr.block g (jl0 k5) (fun hh=>hvrow g t' r ht hr' hh.symm (by rw [k3];rfl))).trans k5,k6⟩
 ·intro t' r b hr hw hb o ho
  rcases rowc t' r hr with ⟨rfl,rfl⟩|⟨ht,hr'⟩
  ·have hb':(j5l e.rv t' r.gen v' t' r.gen).ownBlock=some b:=hb
   rw [q2e] at hb'
   exact Or.inr ⟨hw,hb',ho⟩
  ·have hb':(j5l e.rv t r'.gen v' t' r.gen).ownBlock=some b:=hb
   rw [hrv t' r r.gen hr' (Nat.le_refl _)] at hb'
   exact Or.inl (h.rowPro t' r b hr' hw hb' o ho)
 ·intro t' r b hr hb o hp
  rcases rowc t' r hr with ⟨rfl,rfl⟩|⟨ht,hr'⟩
  ·have hb':(j5l e.rv t' r.gen v' t' r.gen).ownBlock=some b:=hb
   rw [q2e] at hb'
   rcases hp with hp|hp
   ·rcases hblk b hb' with hv|hv
    ·rcases hold with ⟨r0,hr0,rfl,_,hw,_⟩|⟨_,rfl⟩
     ·have h5:=h.rowPc t' r0 b hr0 hv o hp
      exact ⟨(hw h5.1).1,Nat.lt_of_lt_of_le h5.2 (hw h5.1).2⟩
     ·simp [Value.ownBlock] at hv
    ·have:=h.pcLt b o hp;omega
   ·exact ⟨hp.1,hp.2.2⟩
  ·have hb':(j5l e.rv t r'.gen v' t' r.gen).ownBlock=some b:=hb
   rw [hrv t' r r.gen hr' (Nat.le_refl _)] at hb'
   rcases hp with hp|hp
   ·exact h.rowPc t' r b hr' hb' o hp
   ·rcases hblk b hp.2.1 with hv|hv
    ·exact absurd hb' (hvrow b t' r ht hr' hv)
    ·have:=(h.rowLt hr' hb').2;omega
 ·intro t' r b β hr hb hβ
  rcases rowc t' r hr with ⟨rfl,rfl⟩|⟨ht,hr'⟩
  ·have hb':(j5l e.rv t' r.gen v' t' r.gen).ownBlock=some b:=hb
   rw [q2e] at hb'
   rcases hblk b hb' with hv|hv
   ·exact hvbox b β hv hβ
   ·have:=h.boxLt hβ;show e.m β≠b;omega
  ·have hb':(j5l e.rv t r'.gen v' t' r.gen).ownBlock=some b:=hb
   rw [hrv t' r r.gen hr' (Nat.le_refl _)] at hb'
   exact h.rowBox t' r b β hr' hb' hβ
 ·intro t1 t2 r1 r2 b hne hr1 hr2 hb
  have key : ∀t' r,t'≠t->σ.row t'=some r->v'.ownBlock=some b->(e.rv t' r.gen).ownBlock≠some b:=fun t' r ht hr hb'=>by
   rcases hblk b hb' with hv|hv
   ·exact hvrow b t' r ht hr hv
   ·intro hh;have:=(h.rowLt hr hh).2;omega
  have hb':(j5l e.rv t r'.gen v' t1 r1.gen).ownBlock=some b:=hb
  show (j5l e.rv t r'.gen v' t2 r2.gen).ownBlock≠some b
  rcases rowc t1 r1 hr1 with ⟨rfl,rfl⟩|⟨ht1,hr1'⟩
  ·rw [q2e] at hb'
   rcases rowc t2 r2 hr2 with ⟨rfl,rfl⟩|⟨ht2,hr2'⟩
   ·exact absurd rfl hne
   ·rw [hrv t2 r2 r2.gen hr2' (Nat.le_refl _)];exact key t2 r2 ht2 hr2' hb'
  ·rw [hrv t1 r1 r1.gen hr1' (Nat.le_refl _)] at hb'
   rcases rowc t2 r2 hr2 with ⟨rfl,rfl⟩|⟨ht2,hr2'⟩
   ·rw [q2e];exact fun hh=>key t1 r1 ht1 hr1' hh hb'
   ·rw [hrv t2 r2 r2.gen hr2' (Nat.le_refl _)];exact h.rowNe t1 t2 r1 r2 b hne hr1' hr2' hb'
 ·have hb':(j5l e.rv t r'.gen v' t' r.gen).ownBlock=some b:=hb
  rcases rowc t' r hr with ⟨rfl,rfl⟩|⟨ht,hr'⟩
  ·rw [q2e] at hb';exact hvK' b hb'
  ·rw [hrv t' r r.gen hr' (Nat.le_refl _)] at hb';exact h.kp.rowK t' r b hr' hb'
theorem qc7 {α:Type} {sz:Nat} : ∀(xs:List (List α)),(∀x∈xs,x.length=sz)->∀(k j:Nat) (hk:k<xs.length) (hj:j<sz),xs.flatten[k*sz+j]? = (xs[k])[j]?
 | [],_,k,_,hk,_=>absurd hk (by simp)
 | x::xs,hs,0,j,_,hj=>by
  have hx:=hs x (List.mem_cons_self ..)
  simp only [List.flatten_cons,Nat.zero_mul,Nat.zero_add,List.getElem_cons_zero]
  rw [List.getElem?_append_left (by omega)]
 | x::xs,hs,k+1,j,hk,hj=>by
  have hx:=hs x (List.mem_cons_self ..)
  simp only [List.flatten_cons,List.getElem_cons_succ]
  rw [List.getElem?_append_right (by rw [hx,Nat.add_mul];omega),show (k+1)*sz+j - x.length=k*sz+j from by rw [hx,Nat.add_mul];omega]
  exact qc7 xs (fun y hy=>hs y (List.mem_cons_of_mem _ hy)) k j (by simpa using hk) hj
theorem q7g {α:Type} {sz:Nat} : ∀(xs:List (List α)),(∀x∈xs,x.length=sz)->xs.flatten.length=xs.length*sz
 | [],_=>by simp
 | x::xs,hs=>by
  rw [List.flatten_cons,List.length_append,hs x (List.mem_cons_self ..),q7g xs (fun y hy=>hs y (List.mem_cons_of_mem _ hy)),List.length_cons,Nat.add_mul];omega
theorem Hp.freeze (h:Hp F σ e w) {t:Nat} {r:Row} (hr:σ.row t=some r) :
  ∃ e',Fwd e σ w e' { σ with row:=upd σ.row t (some { r with wr:=false }) } w/\Hp F { σ with row:=upd σ.row t (some { r with wr:=false }) } e' w:=by
 obtain ⟨hs,cells,h1,h2,h3⟩:=h.rows t r hr
 exact ⟨_,h.rowNext (w':=w) t { r with wr:=false } (e.rv t r.gen) (e.rv t r.gen) cells (Or.inl ⟨r,hr,rfl,rfl,fun _=>⟨rfl,Nat.le_refl _⟩,Or.inl ⟨rfl,rfl⟩⟩) hs h1 (World.grownBy.refl _ _) (fun _ _ _ _ _ _ _=>rfl) (fun _ hb=>Or.inl hb) h2 h3⟩
theorem Hp.rowDat (h:Hp F σ e w) {t:Nat} {r:Row} (hr:σ.row t=some r) (hw:r.wr=false):DatRep e.Pc w (e.rv t r.gen) (.lst r.sz r.xs):=by
 obtain ⟨hs,cells,h1,h2,h3⟩:=h.rows t r hr
 have hlen:=h2.length
 rcases h1.2 with ⟨h4,h5⟩|⟨g,cap,cur,h4,h5,h6,h7,h8,h9,h10⟩
 ·rw [h4]
  exact .lst none 0 0 r.sz r.xs 0 0 (fun _ _=>undef) h5.symm (Nat.le_refl _) (by unfold maxLen;omega) hs (fun h0=>by omega) (fun k j hk=>by omega) (fun k j hk=>by omega)
 ·have hb:(e.rv t r.gen).ownBlock=some g:=by rw [h4];rfl
  have hcl:cells.length=r.xs.length*r.sz:=h1.1
  rw [h4]
  refine .lst _ _ cap r.sz r.xs g 0 (fun k j=>cells.getD (k*r.sz+j) undef) rfl h7 h8 hs (fun _=>rfl) (fun k j hk hj=>?_) (fun k j hk hj=>?_)
  ·have hlt:k*r.sz+j<r.xs.length*r.sz:=by
    have:=Nat.mul_le_mul_right r.sz (show k+1<=r.xs.length from hk)
    rw [Nat.add_mul] at this;omega
   rw [Nat.zero_add]
   have hge:cells.getD (k*r.sz+j) undef=cells[k*r.sz+j]'(by omega):=by simp [List.getD,show k*r.sz+j<cells.length by omega]
   refine ⟨h.rowPro t r g hr hw hb _ hlt,?_,by rw [hge];exact h3 _ (List.getElem_mem _)⟩
   rw [cell_of_row w g _ cur _ _ h6,hge]
   have:cells[k*r.sz+j]? = some (cells[k*r.sz+j]'(by omega)):=List.getElem?_eq_getElem (by omega)
   rw [<-this,<-h10,List.getElem?_take_of_lt (by omega)]
   simp
  ·have hx:=hs _ (List.getElem_mem hk)
   have hj':j<r.sz:=by omega
   have hlt:k*r.sz+j<r.xs.length*r.sz:=by
    have:=Nat.mul_le_mul_right r.sz (show k+1<=r.xs.length from hk)
    rw [Nat.add_mul] at this;omega
   have hge:cells.getD (k*r.sz+j) undef=cells[k*r.sz+j]'(by omega):=by simp [List.getD,show k*r.sz+j<cells.length by omega]
   have hfl:r.xs.flatten[k*r.sz+j]'(by omega)=(r.xs[k])[j]:=by
    have:=qc7 r.xs hs k j hk hj'
    rw [List.getElem?_eq_getElem (by omega),List.getElem?_eq_getElem hj] at this
    exact Option.some.inj this
   have:=h2.get (k*r.sz+j) (by omega) (by omega)
   rw [hfl] at this
   show DatRep e.Pc w (cells.getD (k*r.sz+j) undef) _
   rw [hge];exact this
end Go.Proofs.YtapfankgdkdkgaaGreatDoor.AM
namespace Go.Proofs.YtapfankgdkdkgaaGreatDoor.AM
open Go.RowKit
structure Res where
 cond:Prop
 val:D
 box:Option (Nat×(Nat×List C)):=none
 row:Option (Nat×Row):=none
def St.app (σ:St) (r:Res):St :=
 {slot:=σ.slot
  box:=match r.box with|some (i,x)=>upd σ.box i (some x)|none=>σ.box
  row:=match r.row with|some (i,x)=>upd σ.row i (some x)|none=>σ.row }
def qvb (x:Value):C:=.d (.v x)
def q70 (x:Value):D:=.one (.c (qvb x))
def jom:Value->D
 | .agg cs=>.one (.agg (cs.toList.map qvb))
 | x=>q70 x
def opnd (σ:St):Operand->D
 | .tmp t=>σ.slot t
 | .const v=>jom v
 | .func f=>q70 (.func (.func f) #[] #[])
 | .global g=>.one (.c .bad)
variable {F:Fr} {σ:St} {e:Env} {a:Act} {w:World} {P:Program}
theorem qbn {α γ:Type} {r:α->γ->Prop} (f:α->γ) (h : ∀x,r x (f x)) : ∀l:List α,q0j r l (l.map f)
 | []=>trivial
 | x::xs=>⟨h x,qbn f h xs⟩
theorem qft (x:Value):q2v e σ w x (qvb x):=DatRep.v x
theorem q08 (x:Value):q2a e σ w x (q70 x):=DatRep.v x
theorem jmb (x:Value):q2a e σ w x (jom x):=by
 cases x<;>first|exact q08 _|exact ⟨_,rfl,qbn qvb qft _⟩
theorem q0d {v x:Value} (h:q2a e σ w v (q70 x)):v=x:=by
 have h':DatRep e.Pc w v (.v x):=h
 cases h';rfl
theorem qcu {v x:Value} (h:q2v e σ w v (qvb x)):v=x:=by
 have h':DatRep e.Pc w v (.v x):=h
 cases h';rfl
theorem R.opnd (h:R F σ e a w) (x:Operand):q2a e σ w (a.eval x) (opnd σ x):=by
 cases x with
 | tmp t=>exact h.slots t
 | const v=>exact jmb v
 | func f=>exact q08 _
 | global g=>trivial
theorem R.pure (h:R F σ e a w) {dst:Option Nat} (hn : ∀k,dst=some k->k<F.n) {v:Value} {d:D} (hd:q2a e σ w v d):R F (σ.put dst d) e (a.put dst v) w :=
 h.next (Fwd.refl _ _ _) h.hp rfl dst hn v d hd
theorem run_u {s:Sem Unit} {w w':World} (h:s.run P w = .ok () w'):(do s;pure Next.skip:Sem Next).run P w = .ok .skip w':=by
 simp [h]
def q0r:D1->List C
 | .c x=>[x]
 | .agg cs=>cs
def okC:C->Bool
 | .d (.v x)=>x.oneCell'
 | .bad=>false
 | _=>true
theorem jfh {v:Value} {c:C} (h:q2v e σ w v c) (hc:okC c=true):v.oneCell'=true:=by
 cases c with
 | d x =>
  have h':DatRep e.Pc w v x:=h
  cases h' with
  | v x=>exact hc
  | lst=>rfl
 | box β off=>rw [h.2];rfl
 | bsl β n=>rw [h.2];rfl
 | mv β=>rw [h.2];rfl
 | row t g =>
  obtain ⟨_,_,a,n,c,rfl⟩:=h;rfl
 | rp cs=>obtain ⟨b,o,rfl,_⟩:=h;rfl
 | wp t g k off=>obtain ⟨r,b,_,_,_,rfl⟩:=h;rfl
 | fn f caps=>rw [h.2];rfl
 | bad=>cases hc
def q2f (P:Program) (F:Fr) (o:Oper) (σ:St) (res:Res):Prop :=
 ∀e a w,R F σ e a w->res.cond->∃ v w' e',((execOp a.eval o).run P w = .ok (.value v) w'\/((execOp a.eval o).run P w = .ok .skip w'/\v=undef)) /\
  Fwd e σ w e' (σ.app res) w'/\Hp F (σ.app res) e' w'/\q2a e' (σ.app res) w' v res.val
theorem q2f.same {o:Oper} {c:Prop} {d:D}
  (h : ∀e a w,R F σ e a w->c->∃ v,(execOp a.eval o).run P w = .ok (.value v) w/\q2a e σ w v d):q2f P F o σ { cond:=c,val:=d }:=by
 intro e a w hR hc
 obtain ⟨v,h1,h2⟩:=h e a w hR hc
 exact ⟨v,w,e,.inl h1,Fwd.refl _ _ _,hR.hp,h2⟩
theorem js8 {o:Oper} {x:Operand} (ho:o.op = .move x\/o.op = .assign x):q2f P F o σ { cond:=True,val:=opnd σ x } :=
 q2f.same fun e a w hR _=>⟨a.eval x,by rcases ho with ho|ho<;>simp [execOp,ho],hR.opnd x⟩
def j1y (c a b:D):Option Res:=match c with
 | .one (.c (.d (.v (.bool t))))=>some { cond:=True,val:=if t then a else b }
 | _=>none
theorem k69 {o:Oper} {c x y:Operand} {res:Res} (ho:o.op = .pick c x y) (h:j1y (opnd σ c) (opnd σ x) (opnd σ y)=some res):q2f P F o σ res:=by
 unfold j1y at h
 split at h<;>simp only [Option.some.injEq,reduceCtorEq] at h
 rename_i t hc
 subst h
 refine q2f.same fun e a w hR _=>?_
 have h1:=hR.opnd c
 rw [hc] at h1
 have h2:=q0d h1
 refine ⟨if t then a.eval x else a.eval y,by simp [execOp,ho,h2,asBool],?_⟩
 cases t
 ·exact hR.opnd y
 ·exact hR.opnd x
def j10 (P:Program) (t:TypeId):Option Bool:=(P.underlying t).map fun d=>match d with | .struct _ | .array _ _=>true|_=>false
def tsz (P:Program) (t:TypeId):Option Nat:=(P.info? t).map (·.size)
theorem q1w {t:TypeId} {b:Bool} (h:j10 P t=some b) (w:World):(isAgg t).run P w = .ok b w:=by
 unfold j10 at h
 cases hu:P.underlying t with
 | none=>simp [hu] at h
 | some d =>
  simp only [hu,Option.map_some,Option.some.injEq] at h
  unfold isAgg
  rw [Sem.run_bind,run_underlying hu w]
  cases d<;>simp_all
theorem q0z {t:TypeId} {n:Nat} (h:tsz P t=some n) (w:World):(sizeOf t).run P w = .ok n w:=by
 unfold tsz at h
 cases hq:P.info? t with
 | none=>simp [hq] at h
 | some i=>simp only [hq,Option.map_some,Option.some.injEq] at h;simp [sizeOf,typeInfo,hq,h]
def qtp (P:Program) (t:TypeId) (cs:List C):Option D:=match j10 P t,tsz P t with
 | some true,some n=>if n<=cs.length then some (.one (.agg (cs.take n))) else none
 | some false,_=>match cs with|c::_=>some (.one (.c c)) | []=>none
 | _,_=>none
theorem add_lit (b o j:Nat):(⟨b,o,none⟩:Addr).add j=⟨b,o+j,none⟩:=Addr.add_lit ..
theorem q5l {t:TypeId} {cs:List C} {d:D} {us:List Value} {b off:Nat} (hl:qtp P t cs=some d) (hu:q0j (q2v e σ w) us cs)
  (hc : ∀(j:Nat) (h:j<us.length),w.cell? ⟨b,off+j,none⟩=some us[j]) : ∃ v,(loadVar t ⟨b,off,none⟩).run P w = .ok v w/\q2a e σ w v d:=by
 unfold qtp at hl
 split at hl
 ·rename_i n ha hn
  split at hl
  ·rename_i hle
   simp only [Option.some.injEq] at hl
   subst hl
   have hlen:=hu.length
   have hcs : ∀j v,(us.take n)[j]? = some v->w.cell? ((⟨b,off,none⟩:Addr).add j)=some v:=by
    intro j v hv
    rw [add_lit]
    rw [List.getElem?_take] at hv
    split at hv
    ·obtain ⟨hj,rfl⟩:=List.getElem?_eq_some_iff.1 hv
     exact hc j hj
    ·cases hv
   have hr:=run_loadCells_list (P:=P) w ⟨b,off,none⟩ (us.take n) hcs
   rw [List.length_take,show min n us.length=n from by omega] at hr
   refine ⟨.agg (us.take n).toArray,?_,⟨_,rfl,by simpa using hu.take n⟩⟩
   unfold loadVar
   simp only [Sem.run_bind,q1w ha w,q0z hn w,Result.andThen_ok,hr,if_true]
   rfl
  ·cases hl
 ·rename_i ha
  split at hl
  ·rename_i c cs'
   simp only [Option.some.injEq] at hl
   subst hl
   match us,hu with
   | u::us',hu' =>
    have:=hc 0 (by simp)
    simp only [Nat.add_zero,List.getElem_cons_zero] at this
    refine ⟨u,?_,hu'.1⟩
    unfold loadVar
    simp only [Sem.run_bind,q1w ha w,Result.andThen_ok,Bool.false_eq_true,if_false]
    simp [load,Sem.run,this]
  ·cases hl
 ·cases hl
def q9e (P:Program) (t:TypeId) (p:D) (bx:Nat->Option (Nat×List C)) (rw:Nat->Option Row):Option Res:=match p with
 | .one (.c (.box β off))=>match bx β with
  | some (T,cs)=>if T<2199023255552 then (qtp P t (cs.drop off)).map fun d=>{ cond:=True,val:=d } else none
  | none=>none
 | .one (.c (.rp cs))=>(qtp P t (cs.map C.d)).map fun d=>{ cond:=True,val:=d }
 | .one (.c (.wp tt g k off))=>match rw tt with
  | some r=>if r.gen=g then (qtp P t (((r.xs.getD k []).drop off).map C.d)).map fun d=>{ cond:=k<r.xs.length,val:=d } else none
  | none=>none
 | _=>none
theorem juu : ∀{us:List Value} {ds:List Dat},q0j (DatRep e.Pc w) us ds->q0j (q2v e σ w) us (ds.map C.d)
 | [],[],_=>trivial
 | _::_,_::_,h=>⟨h.1,juu h.2⟩
 | [],_::_,h=>h.elim
 | _::_,[],h=>h.elim
theorem Hp.elt (h:Hp F σ e w) {t:Nat} {r:Row} (hr:σ.row t=some r) {k:Nat} (hk:k<r.xs.length) {b:Nat} (hb:(e.rv t r.gen).ownBlock=some b) :
  ∃ us:List Value,q0j (DatRep e.Pc w) us (r.xs[k])/\(∀u∈us,u.oneCell'=true)/\us.length=r.sz/\∀(j:Nat) (hj:j<us.length),w.cell? ⟨b,k*r.sz+j,none⟩=some us[j]:=by
 obtain ⟨hs,cells,h1,h2,h3⟩:=h.rows t r hr
 have hlen:=h2.length
 have hx:=hs _ (List.getElem_mem hk)
 rcases h1.2 with ⟨h4,h5⟩|⟨g,cap,cur,h4,h5,h6,h7,h8,h9,h10⟩
 ·omega
 ·rw [h4] at hb
  simp only [Value.ownBlock,Option.some.injEq] at hb
  subst hb
  have hcl:cells.length=r.xs.length*r.sz:=h1.1
  have hmul:=Nat.mul_le_mul_right r.sz (show k+1<=r.xs.length from hk)
  rw [Nat.add_mul,Nat.one_mul] at hmul
  have hul:((cells.drop (k*r.sz)).take r.sz).length=r.sz:=by rw [List.length_take,List.length_drop];omega
  refine ⟨(cells.drop (k*r.sz)).take r.sz,q0j.mk (by rw [hul,hx]) (fun j hj hj'=>?_),fun u hu=>h3 u (List.mem_of_mem_drop (List.mem_of_mem_take hu)),hul,fun j hj=>?_⟩
  ·have hj2:j<r.sz:=by omega
   have:=h2.get (k*r.sz+j) (by omega) (by omega)
   have hfl:r.xs.flatten[k*r.sz+j]'(by omega)=(r.xs[k])[j]:=by
    have:=qc7 r.xs hs k j hk hj2
    rw [List.getElem?_eq_getElem (by omega),List.getElem?_eq_getElem hj'] at this
    exact Option.some.inj this
   rw [hfl] at this
   simp only [List.getElem_take,List.getElem_drop]
   exact this
  ·rw [cell_of_row w g _ cur _ _ h6]
   simp only [List.getElem_take,List.getElem_drop]
   have:cells[k*r.sz+j]? = some (cells[k*r.sz+j]'(by omega)):=List.getElem?_eq_getElem (by omega)
   rw [<-this,<-h10,List.getElem?_take_of_lt (by omega)]
   simp
theorem k4v {o:Oper} {t:TypeId} {x:Operand} {res:Res} (ho:o.op = .load t x) (h:q9e P t (opnd σ x) σ.box σ.row=some res):q2f P F o σ res:=by
 unfold q9e at h
 split at h
 ·rename_i β off hx
  split at h
  ·rename_i T cs hb
   split at h
   case isFalse=>cases h
   rename_i hT
   obtain ⟨d,hd,rfl⟩:=Option.map_eq_some_iff.1 h
   refine q2f.same fun e a w hR _=>?_
   have h1:=hR.opnd x
   rw [hx] at h1
   obtain ⟨h2,h3⟩:(σ.box β).isSome=true/\a.eval x = .pointer (some ⟨e.m β,off,none⟩):=h1
   obtain ⟨vs,h4,h5,_⟩:=(hR.hp.boxes β T cs hb).2.cells hT
   obtain ⟨v,h6,h7⟩:=q5l (b:=e.m β) (off:=off) hd (h5.drop off) (fun j hj=>by
    rw [cell_of_row w (e.m β) _ vs T _ h4,List.getElem_drop]
    simp)
   exact ⟨v,by simp [execOp,ho,h3,Instr.loadAt,Instr.sureAddr,h6],h7⟩
  ·cases h
 ·rename_i cs hx
  obtain ⟨d,hd,rfl⟩:=Option.map_eq_some_iff.1 h
  refine q2f.same fun e a w hR _=>?_
  have h1:=hR.opnd x
  rw [hx] at h1
  obtain ⟨b,o',h3,us,h4,h5⟩ : ∃ b o',a.eval x = .pointer (some ⟨b,o',none⟩)/\∃ us:List Value,q0j (DatRep e.Pc w) us cs/\∀(j:Nat) (h:j<us.length),e.Pc b (o'+j)/\w.cell? ⟨b,o'+j,none⟩=some us[j]/\(us[j]).oneCell'=true:=h1
  obtain ⟨v,h6,h7⟩:=q5l (b:=b) (off:=o') hd (juu h4) (fun j hj=>(h5 j hj).2.1)
  exact ⟨v,by simp [execOp,ho,h3,Instr.loadAt,Instr.sureAddr,h6],h7⟩
 ·rename_i tt g k off hx
  split at h
  ·rename_i r hr
   split at h
   ·rename_i hg
    subst hg
    obtain ⟨d,hd,rfl⟩:=Option.map_eq_some_iff.1 h
    refine q2f.same fun e a w hR hk=>?_
    have h1:=hR.opnd x
    rw [hx] at h1
    obtain ⟨r',b,h2,_,h3,h4⟩ : ∃ r' b,σ.row tt=some r'/\r.gen<=r'.gen/\(e.rv tt r.gen).ownBlock=some b/\a.eval x = .pointer (some ⟨b,k*r'.sz+off,none⟩):=h1
    rw [hr] at h2;cases h2
    obtain ⟨us,h5,_,h6,h7⟩:=hR.hp.elt hr hk h3
    have hgd:r.xs.getD k []=r.xs[k]:=by simp [List.getD,hk]
    rw [hgd] at hd
    obtain ⟨v,h8,h9⟩:=q5l (b:=b) (off:=k*r.sz+off) hd (juu (h5.drop off)) (fun j hj=>by
     have:=h7 (off+j) (by rw [List.length_drop] at hj;omega)
     rw [List.getElem_drop,show k*r.sz+off+j=k*r.sz+(off+j) from by omega]
     exact this)
    exact ⟨v,by simp [execOp,ho,h4,Instr.loadAt,Instr.sureAddr,h8],h9⟩
   ·cases h
  ·cases h
 ·cases h
end Go.Proofs.YtapfankgdkdkgaaGreatDoor.AM
namespace Go.Proofs.YtapfankgdkdkgaaGreatDoor.AM
open Go.RowKit
variable {F:Fr} {σ:St} {e:Env} {a:Act} {w:World} {P:Program}
def setAt {α:Type} (l:List α) (off:Nat) (xs:List α):List α:=l.take off++xs++l.drop (off+xs.length)
theorem qlk {α β:Type} {r:α->β->Prop} {l:List α} {m:List β} {xs:List α} {ys:List β} (h:q0j r l m) (hx:q0j r xs ys) (off:Nat):q0j r (setAt l off xs) (setAt m off ys):=by
 unfold setAt
 rw [hx.length]
 exact ((h.take off).append hx).append (h.drop _)
theorem qt4 {α:Type} {l:List α} {off:Nat} {xs:List α} {u:α} (h:u∈setAt l off xs):u∈l\/u∈xs:=by
 unfold setAt at h
 rw [List.mem_append,List.mem_append] at h
 rcases h with (h|h)|h
 ·exact Or.inl (List.mem_of_mem_take h)
 ·exact Or.inr h
 ·exact Or.inl (List.mem_of_mem_drop h)
theorem qjv {v:Value} {x:D1} (h:q9g e σ w v x) (hc:(q0r x).all okC=true):q0j (q2v e σ w) v.cells.toList (q0r x)/\∀u∈v.cells.toList,u.oneCell'=true:=by
 cases x with
 | c c =>
  have h1:okC c=true:=by simpa [q0r] using hc
  have h2:=jfh (σ:=σ) (e:=e) (w:=w) (show q2v e σ w v c from h) h1
  have h3:v.cells = #[v]:=by cases v<;>first|rfl|cases h2
  rw [h3]
  exact ⟨⟨h,trivial⟩,fun u hu=>by simp at hu;rw [hu];exact h2⟩
 | agg cs =>
  obtain ⟨vs,rfl,h2⟩:=h
  refine ⟨h2,fun u hu=>?_⟩
  obtain ⟨i,hi,rfl⟩:=List.getElem_of_mem hu
  have hl:=h2.length
  have hc':(cs.all okC)=true:=hc
  exact jfh (h2.get i hi (by rw [<-hl];exact hi)) (List.all_eq_true.1 hc' _ (List.getElem_mem _))
def qpf:C->Option Dat
 | .d x=>some x
 | _=>none
def q3z (P:Program) (t:TypeId) (p x:D) (bx:Nat->Option (Nat×List C)) (rw:Nat->Option Row):Option Res:=match x with
 | .one x=>match tsz P t with
  | some n=>if (q0r x).length=n/\(q0r x).all okC=true then
    match p with
    | .one (.c (.box β off))=>match bx β with
     | some (T,cs)=>if off+n<=cs.length/\T<2199023255552 then some { cond:=True,val:=q70 undef,box:=some (β,(T,setAt cs off (q0r x))) } else none
     | none=>none
    | .one (.c (.wp tt g k off))=>match rw tt,(q0r x).mapM qpf with
     | some r,some ds=>if r.gen=g/\r.wr=true/\off+n<=r.sz then some { cond:=k<r.xs.length,val:=q70 undef,row:=some (tt,{ r with xs:=r.xs.set k (setAt (r.xs.getD k []) off ds) }) } else none
     | _,_=>none
    | _=>none
   else none
  | none=>none
 | _=>none
theorem qcl (P:Program) (g o:Nat) (t:TypeId) (fz:Nat×Nat) : ∀(vs:List Value) (i:Nat) (cur:Array Value) (w:World),w.heap[g]? = some (.cells cur t fz)->(fz.2=0\/cur.size<=fz.1)->o+i+vs.length<=cur.size->(∀v∈vs,v.oneCell'=true) ->
  (storeCells ⟨g,o,none⟩ vs i).run P w = .ok () (w.setRow g (cur.toList.take (o+i)++vs++cur.toList.drop (o+i+vs.length)).toArray)
 | [],i,cur,w,hg,_,_,_=>by
  simp only [storeCells,List.append_nil,List.length_nil,Nat.add_zero,List.take_append_drop,Array.toArray_toList]
  rw [setRow_self w g cur t fz hg]
  rfl
 | v::rest,i,cur,w,hg,hfz,hl,h1=>by
  have hi:o+i<cur.size:=by simp at hl;omega
  have hadd:(⟨g,o,none⟩:Addr).add i=⟨g,o+i,none⟩:=by unfold Addr.add;split<;>simp_all
  have hcell:w.cell? ⟨g,o+i,none⟩=some cur[o+i]:=by simp [World.cell?,hg,hi]
  have hfro:w.frozen? ⟨g,o+i,none⟩=false:=by
   obtain ⟨lo,hi'⟩:=fz
   simp only [World.frozen?,hg,Bool.and_eq_false_iff,decide_eq_false_iff_not]
   simp only at hfz
   rcases hfz with h|h
   ·right;omega
   ·left;omega
  have hst:(store ((⟨g,o,none⟩:Addr).add i) v).run P w = .ok () (w.setRow g (cur.setIfInBounds (o+i) v)):=by
   rw [hadd,run_store P w _ v _ (h1 v (by simp)),hcell]
   simp [hfro,setCell_eq_setRow w g (o+i) cur t fz v hg]
  have ih:=qcl P g o t fz rest (i+1) (cur.setIfInBounds (o+i) v) (w.setRow g (cur.setIfInBounds (o+i) v)) (setRow_heap w g cur _ t _ hg) (by simpa using hfz) (by simp at hl ⊢;omega) (fun x hx=>h1 x (by simp [hx]))
  simp only [storeCells,Sem.run_bind,hst,Result.andThen_ok,ih,setRow_setRow]
  congr 3
  have e:=list_seg_step cur.toList (o+i) v rest (by simp at hl ⊢;omega)
  simpa [Array.toList_setIfInBounds,Nat.add_assoc] using e
theorem k61 (E n:Nat):(k35 E n).2=0\/n<=(k35 E n).1:=by
 unfold k35
 split
 ·exact .inl rfl
 ·exact .inr (Nat.le_refl _)
theorem qkj {t:TypeId} {v:Value} {b off:Nat} {cur:Array Value} {T:TypeId} {fz:Nat×Nat} (hn:tsz P t=some v.cells.size) (hg:w.heap[b]? = some (.cells cur T fz)) (hfz:fz.2=0\/cur.size<=fz.1) (hle:off+v.cells.size<=cur.size) (h1 : ∀u∈v.cells.toList,u.oneCell'=true) :
  (storeVar t ⟨b,off,none⟩ v).run P w = .ok () (w.setRow b (setAt cur.toList off v.cells.toList).toArray):=by
 have h:=qcl P b off T fz v.cells.toList 0 cur w hg hfz (by simpa using hle) h1
 rw [Nat.add_zero] at h
 unfold storeVar setAt
 simp only [Sem.run_bind,q0z hn w,Result.andThen_ok,ne_eq,not_true_eq_false,if_false,h]
theorem jyk {v:Value} {c:C} {x:Dat} (hd:qpf c=some x) (h:q2v e σ w v c):DatRep e.Pc w v x:=by
 cases c with
 | d y=>simp only [qpf,Option.some.injEq] at hd;subst hd;exact h
 | _=>cases hd
theorem qqj : ∀{us:List Value} {cs:List C} {ds:List Dat},cs.mapM qpf=some ds->q0j (q2v e σ w) us cs->q0j (DatRep e.Pc w) us ds
 | [],[],ds,hd,_=>by simp at hd;subst hd;exact trivial
 | u::us,c::cs,ds,hd,h=>by
  rw [List.mapM_cons] at hd
  cases hx:qpf c with
  | none=>simp [hx] at hd
  | some x =>
   cases hy:cs.mapM qpf with
   | none=>simp [hx,hy] at hd
   | some ys =>
    simp [hx,hy] at hd
    subst hd
    exact ⟨jyk hx h.1,qqj hy h.2⟩
 | [],_::_,_,_,h=>h.elim
 | _::_,[],_,_,h=>h.elim
theorem qu1 {α:Type} {sz:Nat} : ∀(xs:List (List α)),(∀x∈xs,x.length=sz)->∀(k:Nat) (hk:k<xs.length) (off:Nat) (ys:List α),off+ys.length<=sz ->
  (xs.set k (setAt (xs[k]) off ys)).flatten=setAt xs.flatten (k*sz+off) ys
 | [],_,k,hk,_,_,_=>absurd hk (by simp)
 | x::xs,hs,0,_,off,ys,hy=>by
  have hx:=hs x (List.mem_cons_self ..)
  simp only [List.set_cons_zero,List.flatten_cons,List.getElem_cons_zero,Nat.zero_mul,Nat.zero_add,setAt]
  rw [List.take_append_of_le_length (by omega),List.drop_append_of_le_length (by omega)]
  simp [List.append_assoc]
 | x::xs,hs,k+1,hk,off,ys,hy=>by
  have hx:=hs x (List.mem_cons_self ..)
  have ih:=qu1 xs (fun y hy=>hs y (List.mem_cons_of_mem _ hy)) k (by simpa using hk) off ys hy
  simp only [List.set_cons_succ,List.flatten_cons,List.getElem_cons_succ,ih]
  unfold setAt
  have e1:(k+1)*sz+off=x.length+(k*sz+off):=by rw [hx,Nat.add_mul];omega
  rw [e1,List.take_append,List.drop_append,show x.length+(k*sz+off) - x.length=k*sz+off from by omega,List.take_of_length_le (l:=x) (show x.length<=x.length+(k*sz+off) from by omega),show x.length+(k*sz+off)+ys.length - x.length=k*sz+off+ys.length from by omega,List.drop_eq_nil_of_le (show x.length<=x.length+(k*sz+off)+ys.length from by omega)]
  simp [List.append_assoc]
theorem k1q {o:Oper} {t:TypeId} {x y:Operand} {res:Res} (ho:o.op = .store t x y) (h:q3z P t (opnd σ x) (opnd σ y) σ.box σ.row=some res):q2f P F o σ res:=by
 unfold q3z at h
 split at h
 case h_2=>cases h
 rename_i x1 hy
 split at h
 case h_2=>cases h
 rename_i n hn
 split at h
 case isFalse=>cases h
 rename_i hlen
 obtain ⟨hlen,hok⟩:=hlen
 split at h
 ·rename_i β off hx
  split at h
  case h_2=>cases h
  rename_i T cs hb
  split at h
  case isFalse=>cases h
  rename_i hle
  obtain ⟨hle,hT⟩:=hle
  simp only [Option.some.injEq] at h
  subst h
  intro e a w hR _
  have h1:=hR.opnd x
  rw [hx] at h1
  obtain ⟨h2,h3⟩:(σ.box β).isSome=true/\a.eval x = .pointer (some ⟨e.m β,off,none⟩):=h1
  have h4:=hR.opnd y
  rw [hy] at h4
  obtain ⟨h5,h6⟩:=qjv (show q9g e σ w (a.eval y) x1 from h4) hok
  obtain ⟨vs,h8,h9,h10⟩:=(hR.hp.boxes β T cs hb).2.cells hT
  have hsz:(a.eval y).cells.size=n:=by have:=h5.length;rw [Array.length_toList] at this;omega
  have hvl:vs.size=cs.length:=by have:=h9.length;rwa [Array.length_toList] at this
  obtain ⟨hf,hh⟩:=hR.hp.set β T cs (setAt cs off (q0r x1)) (setAt vs.toList off (a.eval y).cells.toList).toArray hb hT (by simpa using qlk h9 h5 off) (fun u hu=>by
   rcases qt4 (by simpa using hu) with hu|hu
   ·exact h10 u hu
   ·exact h6 u hu)
  refine ⟨undef,_,e,.inr ⟨?_,rfl⟩,hf,hh,q08 _⟩
  have:=qkj (P:=P) (t:=t) (v:=a.eval y) (b:=e.m β) (off:=off) (by rw [hsz];exact hn) h8 (.inl rfl) (by omega) h6
  simp [execOp,ho,h3,Instr.storeAt,Instr.sureAddr,this]
 ·rename_i tt g k off hx
  split at h
  case h_2=>cases h
  rename_i r ds hr hds
  split at h
  case isFalse=>cases h
  rename_i hg
  obtain ⟨rfl,hwr,hle⟩:=hg
  simp only [Option.some.injEq] at h
  subst h
  intro e a w hR hk
  have h1:=hR.opnd x
  rw [hx] at h1
  obtain ⟨r',b,h2,_,h3,h4⟩ : ∃ r' b,σ.row tt=some r'/\r.gen<=r'.gen/\(e.rv tt r.gen).ownBlock=some b/\a.eval x = .pointer (some ⟨b,k*r'.sz+off,none⟩):=h1
  rw [hr] at h2;cases h2
  have h4':=hR.opnd y
  rw [hy] at h4'
  obtain ⟨h5,h6⟩:=qjv (show q9g e σ w (a.eval y) x1 from h4') hok
  have hdd:=qqj hds h5
  obtain ⟨hs,cells,k1,k2,k3⟩:=hR.hp.rows tt r hr
  have hk':k<r.xs.length:=hk
  rcases k1.2 with ⟨_,k5⟩|⟨gg,cap,cur,k4,k5,k6,k7,k8,k9,k10⟩
  ·omega
  have hbg:b=gg:=by rw [k4] at h3;simpa [Value.ownBlock] using h3.symm
  subst hbg
  have hsz:(a.eval y).cells.size=n:=by have:=h5.length;rw [Array.length_toList] at this;omega
  have hdl:ds.length=n:=by have:=hdd.length;rw [Array.length_toList] at this;omega
  have hcl:cells.length=r.xs.length*r.sz:=k1.1
  have hmul:=Nat.mul_le_mul_right r.sz (show k+1<=r.xs.length from hk')
  rw [Nat.add_mul,Nat.one_mul] at hmul
  have hcap:=Nat.mul_le_mul_right r.sz k7
  have hx':=hs _ (List.getElem_mem hk')
  have hgd:r.xs.getD k []=r.xs[k]:=by simp [List.getD,hk']
  have hrun:=qkj (P:=P) (t:=t) (v:=a.eval y) (b:=b) (off:=k*r.sz+off) (by rw [hsz];exact hn) k6 (k61 _ _) (by omega) h6
  have hset : ∀x'∈r.xs.set k (setAt (r.xs.getD k []) off ds),x'.length=r.sz:=fun x' hx''=>by
   rcases List.mem_or_eq_of_mem_set hx'' with hm|rfl
   ·exact hs x' hm
   ·rw [hgd];unfold setAt;simp only [List.length_append,List.length_take,List.length_drop];omega
  have hnew:(setAt cur.toList (k*r.sz+off) (a.eval y).cells.toList).toArray.size=cur.size:=by
   unfold setAt;simp only [List.size_toArray,List.length_append,List.length_take,List.length_drop,Array.length_toList];omega
  have hrow:q9c (w.setRow b (setAt cur.toList (k*r.sz+off) (a.eval y).cells.toList).toArray) F.w0.heap.size r.E r.sz (e.rv tt r.gen) r.xs.length (setAt cells (k*r.sz+off) (a.eval y).cells.toList):=by
   refine ⟨?_,.inr ⟨b,cap,_,k4,k5,by rw [hnew];exact setRow_heap w b cur _ _ _ k6,k7,k8,?_,?_⟩⟩
   ·unfold setAt;simp only [List.length_append,List.length_take,List.length_drop,Array.length_toList];omega
   ·unfold setAt;simp only [List.size_toArray,List.length_append,List.length_take,List.length_drop,Array.length_toList];omega
   ·have hc2:cells=cur.toList.take (r.xs.length*r.sz):=k10.symm
    rw [hc2]
    unfold setAt
    have hcs:cur.toList.length=cap*r.sz:=by rw [Array.length_toList,k9]
    have hvl:(a.eval y).cells.toList.length=n:=by rw [Array.length_toList,hsz]
    apply List.ext_getElem?
    intro i
    simp only [List.getElem?_take,List.getElem?_append,List.length_take,List.length_append,List.getElem?_drop,hvl,hcs]
    repeat' split
    all_goals first
     | rfl
     | omega
     | (congr 1;omega)
     | (rw [List.getElem?_eq_none (by rw [hcs];omega)])
     | (symm;rw [List.getElem?_eq_none (by rw [hcs];omega)])
  obtain ⟨hf,hh⟩:=hR.hp.rowNext (w':=w.setRow b (setAt cur.toList (k*r.sz+off) (a.eval y).cells.toList).toArray) tt { r with xs:=r.xs.set k (setAt (r.xs.getD k []) off ds) } (e.rv tt r.gen) (e.rv tt r.gen) (setAt cells (k*r.sz+off) (a.eval y).cells.toList)
   (Or.inl ⟨r,hr,rfl,rfl,(fun h=>by rw [hwr] at h;cases h),Or.inl ⟨rfl,rfl⟩⟩) hset (by simpa using hrow)
   ⟨rfl,rfl,rfl,by simp,fun q _ hq=>setRow_other w b q _ (fun e'=>hq (by rw [e',h3]))⟩
   (fun r2 hr2 hw2=>by rw [hr] at hr2;cases hr2;rw [hwr] at hw2;cases hw2) (fun q hq=>Or.inl hq) (by
    show q0j _ _ (r.xs.set k (setAt (r.xs.getD k []) off ds)).flatten
    rw [hgd,qu1 r.xs hs k hk' off ds (by omega)]
    exact qlk k2 hdd _) (fun u hu=>by
    rcases qt4 hu with hu|hu
    ·exact k3 u hu
    ·exact h6 u hu)
  refine ⟨undef,_,_,.inr ⟨?_,rfl⟩,hf,hh,q08 _⟩
  simp [execOp,ho,h4,Instr.storeAt,Instr.sureAddr,hrun]
 ·cases h
end Go.Proofs.YtapfankgdkdkgaaGreatDoor.AM
namespace Go.Proofs.YtapfankgdkdkgaaGreatDoor.AM
open Go.RowKit
variable {F:Fr} {σ:St} {e:Env} {a:Act} {w:World} {P:Program}
def qtg (P:Program) (t:TypeId):Option (List Value):=(P.info? t).bind fun i=>i.zero.map fun z=>z.cells.toList
def qcf (P:Program) (dst:Option Nat) (t:TypeId) (bx:Nat->Option (Nat×List C)):Option Res:=match dst,qtg P t with
 | some i,some z=>match bx i with
  | none=>if z.all Value.oneCell'=true/\i<1000000/\t<2199023255552 then some { cond:=True,val:=.one (.c (.box i 0)),box:=some (i,(t,z.map qvb)) } else none
  | some _=>none
 | _,_=>none
theorem jaq (t:TypeId) (v:Value) (w:World):(newVar t v).run P w = .ok ⟨w.heap.size,0,none⟩ (w.alloc (.cells v.cells t)):=by
 simp only [newVar,newRow,Sem.run_bind,newObj]
 rfl
theorem k2g {i:Nat} {t:TypeId} {vs:Array Value} {cs:List C} (hR:R F σ e a w) (hb:σ.box i=none) (hi:i<1000000) (hT:t<2199023255552) (h:q0j (q2v e σ w) vs.toList cs) (h1 : ∀u∈vs.toList,u.oneCell'=true) :
  ∃ e',Fwd e σ w e' { σ with box:=upd σ.box i (some (t,cs)) } (w.alloc (.cells vs t))/\Hp F { σ with box:=upd σ.box i (some (t,cs)) } e' (w.alloc (.cells vs t))/\q2a e' { σ with box:=upd σ.box i (some (t,cs)) } (w.alloc (.cells vs t)) (.pointer (some ⟨w.heap.size,0,none⟩)) (.one (.c (.box i 0))):=by
 obtain ⟨hf,hh⟩:=hR.hp.alloc i t vs cs hb hi hT h h1
 refine ⟨_,hf,hh,?_⟩
 show (upd σ.box i (some (t,cs)) i).isSome=true/\Value.pointer (some ⟨w.heap.size,0,none⟩) = .pointer (some ⟨upd e.m i w.heap.size i,0,none⟩)
 rw [q0w,q0w];exact ⟨rfl,rfl⟩
theorem k1r {o:Oper} {t:TypeId} {res:Res} (ho:o.op = .alloc t) (h:qcf P o.dst t σ.box=some res):q2f P F o σ res:=by
 unfold qcf at h
 split at h
 case h_2=>cases h
 rename_i i z hd hz
 split at h
 case h_2=>cases h
 rename_i hb
 split at h
 case isFalse=>cases h
 rename_i h1
 obtain ⟨h1,hi9,hT9⟩:=h1
 simp only [Option.some.injEq] at h
 subst h
 unfold qtg at hz
 obtain ⟨inf,hi,hz1⟩:=Option.bind_eq_some_iff.1 hz
 obtain ⟨zv,hz2,rfl⟩:=Option.map_eq_some_iff.1 hz1
 intro e a w hR _
 obtain ⟨e',hf,hh,hd'⟩:=k2g (i:=i) (t:=t) (vs:=zv.cells) hR hb hi9 hT9 (qbn qvb qft _) (fun u hu=>List.all_eq_true.1 h1 u hu)
 refine ⟨_,_,e',.inl ?_,hf,hh,hd'⟩
 have hzr:(zeroValue t).run P w = .ok zv w:=by simp [zeroValue,typeInfo,hi,hz2]
 have:=jaq (P:=P) t zv w
 simp [execOp,ho,Instr.alloc,Sem.run_bind,hzr,this]
def qxo (dst:Option Nat) (t:TypeId) (x:D) (bx:Nat->Option (Nat×List C)):Option Res:=match dst,x with
 | some i,.one x=>match bx i with
  | none=>if (q0r x).all okC=true/\i<1000000/\t<2199023255552 then some { cond:=True,val:=.one (.c (.box i 0)),box:=some (i,(t,q0r x)) } else none
  | some _=>none
 | _,_=>none
theorem k9m {o:Oper} {t:TypeId} {x:Operand} {res:Res} (ho:o.op = .box t x) (h:qxo o.dst t (opnd σ x) σ.box=some res):q2f P F o σ res:=by
 unfold qxo at h
 split at h
 case h_2=>cases h
 rename_i i x1 hd hx
 split at h
 case h_2=>cases h
 rename_i hb
 split at h
 case isFalse=>cases h
 rename_i h1
 obtain ⟨h1,hi9,hT9⟩:=h1
 simp only [Option.some.injEq] at h
 subst h
 intro e a w hR _
 have h4:=hR.opnd x
 rw [hx] at h4
 obtain ⟨h5,h6⟩:=qjv (show q9g e σ w (a.eval x) x1 from h4) h1
 obtain ⟨e',hf,hh,hd'⟩:=k2g (i:=i) (t:=t) hR hb hi9 hT9 h5 h6
 refine ⟨_,_,e',.inl ?_,hf,hh,hd'⟩
 have:=jaq (P:=P) t (a.eval x) w
 simp [execOp,ho,Instr.box,this]
def quu (P:Program) (t:TypeId) (f:Nat):Option (Nat×TypeId):=match P.underlying t with
 | some (.struct fs)=>match fs[f]? with
  | some fd=>match tsz P fd.type with
   | some (_+1)=>some (fd.offset,fd.type)
   | _=>none
  | none=>none
 | _=>none
theorem qs4 {t:TypeId} {f off:Nat} {ft:TypeId} (h:quu P t f=some (off,ft)) : ∃ fs fd n,P.underlying t=some (.struct fs)/\fs[f]? = some fd/\tsz P fd.type=some (n+1)/\fd.offset=off/\fd.type=ft:=by
 unfold quu at h
 split at h<;>try cases h
 rename_i fs hu
 split at h<;>try cases h
 rename_i fd hf
 split at h<;>try cases h
 rename_i n hn
 exact ⟨fs,fd,n,hu,hf,hn,rfl,rfl⟩
def q2m (P:Program) (t:TypeId) (p:D) (f:Nat):Option Res:=match quu P t f with
 | some (off,_)=>match p with
  | .one (.c (.box β o))=>some { cond:=True,val:=.one (.c (.box β (o+off))) }
  | .one (.c (.rp cs))=>if off<=cs.length then some { cond:=True,val:=.one (.c (.rp (cs.drop off))) } else none
  | .one (.c (.wp tt g k o))=>some { cond:=True,val:=.one (.c (.wp tt g k (o+off))) }
  | _=>none
 | none=>none
theorem qcz {t:TypeId} {f off:Nat} {ft:TypeId} (h:quu P t f=some (off,ft)) (b o:Nat) (w:World) :
  (Instr.fieldAt t (.pointer (some ⟨b,o,none⟩)) f).run P w = .ok (.pointer (some ⟨b,o+off,none⟩)) w:=by
 obtain ⟨fs,fd,n,hu,hf,hn,rfl,rfl⟩:=qs4 h
 simp [Instr.fieldAt,Sem.run_bind,run_underlying hu w,hf,Instr.sureAddr,fieldPlace,q0z hn w,add_lit]
theorem j89 {o:Oper} {t:TypeId} {x:Operand} {f:Nat} {res:Res} (ho:o.op = .fieldAddr t x f) (h:q2m P t (opnd σ x) f=some res):q2f P F o σ res:=by
 unfold q2m at h
 split at h
 case h_2=>cases h
 rename_i off ft hf
 split at h
 ·rename_i β q hx
  simp only [Option.some.injEq] at h
  subst h
  refine q2f.same fun e a w hR _=>?_
  have h1:=hR.opnd x
  rw [hx] at h1
  obtain ⟨h2,h3⟩:(σ.box β).isSome=true/\a.eval x = .pointer (some ⟨e.m β,q,none⟩):=h1
  exact ⟨_,by simp [execOp,ho,h3,qcz hf],h2,rfl⟩
 ·rename_i cs hx
  split at h
  case isFalse=>cases h
  rename_i hle
  simp only [Option.some.injEq] at h
  subst h
  refine q2f.same fun e a w hR _=>?_
  have h1:=hR.opnd x
  rw [hx] at h1
  obtain ⟨b,q,h3,us,h4,h5⟩ : ∃ b o',a.eval x = .pointer (some ⟨b,o',none⟩)/\∃ us:List Value,q0j (DatRep e.Pc w) us cs/\∀(j:Nat) (h:j<us.length),e.Pc b (o'+j)/\w.cell? ⟨b,o'+j,none⟩=some us[j]/\(us[j]).oneCell'=true:=h1
  refine ⟨.pointer (some ⟨b,q+off,none⟩),by simp [execOp,ho,h3,qcz hf],b,q+off,rfl,us.drop off,h4.drop off,fun j hj=>?_⟩
  rw [List.length_drop] at hj
  have:=h5 (off+j) (by omega)
  rw [List.getElem_drop,Nat.add_assoc]
  exact this
 ·rename_i tt g k q hx
  simp only [Option.some.injEq] at h
  subst h
  refine q2f.same fun e a w hR _=>?_
  have h1:=hR.opnd x
  rw [hx] at h1
  obtain ⟨r,b,h2,h3,h4,h5⟩ : ∃ r b,σ.row tt=some r/\g<=r.gen/\(e.rv tt g).ownBlock=some b/\a.eval x = .pointer (some ⟨b,k*r.sz+q,none⟩):=h1
  exact ⟨.pointer (some ⟨b,k*r.sz+q+off,none⟩),by simp [execOp,ho,h5,qcz hf],r,b,h2,h3,h4,by rw [Nat.add_assoc]⟩
 ·cases h
def qd1 (P:Program) (t:TypeId) (x:D) (f:Nat):Option Res:=match quu P t f,x with
 | some (off,ft),.one (.agg cs)=>match j10 P ft,tsz P ft with
  | some true,some n=>if off+n<=cs.length then some { cond:=True,val:=.one (.agg ((cs.drop off).take n)) } else none
  | some false,_=>match cs[off]? with
   | some c=>some { cond:=True,val:=.one (.c c) }
   | none=>none
  | _,_=>none
 | _,_=>none
theorem jyb {o:Oper} {t:TypeId} {x:Operand} {f:Nat} {res:Res} (ho:o.op = .field t x f) (h:qd1 P t (opnd σ x) f=some res):q2f P F o σ res:=by
 unfold qd1 at h
 split at h
 case h_2=>cases h
 rename_i off ft cs hf hx
 obtain ⟨fs,fd,n,hu,hfd,hn,rfl,rfl⟩:=qs4 hf
 have main : ∀e a w,R F σ e a w->∃ vs:Array Value,a.eval x = .agg vs/\q0j (q2v e σ w) vs.toList cs:=fun e a w hR=>by
  have h1:=hR.opnd x
  rw [hx] at h1
  exact h1
 split at h
 ·rename_i m ha hm
  split at h
  case isFalse=>cases h
  rename_i hle
  simp only [Option.some.injEq] at h
  subst h
  refine q2f.same fun e a w hR _=>?_
  obtain ⟨vs,h3,h4⟩:=main e a w hR
  refine ⟨.agg (vs.extract fd.offset (fd.offset+m)),?_,_,rfl,?_⟩
  ·simp [execOp,ho,h3,Sem.run_bind,Instr.field,run_underlying hu w,hfd,asAgg,part,q1w ha w,q0z hm w]
  ·have:=(h4.drop fd.offset).take m
   simpa [Array.toList_extract,List.extract_eq_take_drop] using this
 ·rename_i ha
  split at h
  case h_2=>cases h
  rename_i c hc
  simp only [Option.some.injEq] at h
  subst h
  refine q2f.same fun e a w hR _=>?_
  obtain ⟨vs,h3,h4⟩:=main e a w hR
  obtain ⟨hlt,rfl⟩:=List.getElem?_eq_some_iff.1 hc
  have hl:=h4.length
  rw [Array.length_toList] at hl
  have hv:vs[fd.offset]? = some (vs[fd.offset]'(by omega)):=Array.getElem?_eq_getElem (by omega)
  refine ⟨vs[fd.offset]'(by omega),?_,?_⟩
  ·simp [execOp,ho,h3,Sem.run_bind,Instr.field,run_underlying hu w,hfd,asAgg,part,q1w ha w,hv]
  ·have:=h4.get fd.offset (by rw [Array.length_toList];omega) hlt
   rw [Array.getElem_toList] at this
   exact this
 ·cases h
def q78 (x:D) (i:Nat):Option Res:=match x with
 | .tup xs=>match xs[i]? with
  | some y=>some { cond:=True,val:=.one y }
  | none=>none
 | _=>none
theorem jnq {o:Oper} {x:Operand} {i:Nat} {res:Res} (ho:o.op = .extract x i) (h:q78 (opnd σ x) i=some res):q2f P F o σ res:=by
 unfold q78 at h
 split at h
 case h_2=>cases h
 rename_i xs hx
 split at h
 case h_2=>cases h
 rename_i y hy
 simp only [Option.some.injEq] at h
 subst h
 refine q2f.same fun e a w hR _=>?_
 have h1:=hR.opnd x
 rw [hx] at h1
 obtain ⟨vs,h3,h4⟩:=h1
 obtain ⟨hlt,rfl⟩:=List.getElem?_eq_some_iff.1 hy
 have hl:=h4.length
 rw [Array.length_toList] at hl
 have hv:vs[i]? = some (vs[i]'(by omega)):=Array.getElem?_eq_getElem (by omega)
 refine ⟨vs[i]'(by omega),?_,?_⟩
 ·simp [execOp,ho,h3,Instr.extract,hv]
 ·have:=h4.get i (by rw [Array.length_toList];omega) hlt
  rw [Array.getElem_toList] at this
  exact this
def j5y (s:ByteArray) (i:Int):Int:=((s.data.toList.getD i.toNat 0).toNat:Int)
def q65 (P:Program) (t:TypeId) (x i:D):Option Res:=match x,i with
 | .one (.c (.d (.v (.string s)))),.one (.c (.d (.v (.int k n))))=>match P.underlying t with
  | some .string=>some { cond:=0<=n/\n<s.size,val:=q70 (.int .u8 (j5y s n)) }
  | _=>none
 | .one (.agg cs),.one (.c (.d (.v (.int k n))))=>match P.underlying t with
  | some (.array m el)=>match tsz P el,j10 P el with
   | some 1,some false=>some { cond:=0<=n/\n<cs.length/\m=cs.length,val:=.one (.c (cs.getD n.toNat .bad)) }
   | some z,some true=>some { cond:=0<=n/\n<(m:Int)/\cs.length=m*z,val:=.one (.agg ((cs.drop (n.toNat*z)).take z)) }
   | _,_=>none
  | _=>none
 | _,_=>none
theorem k0r {o:Oper} {t:TypeId} {x i:Operand} {res:Res} (ho:o.op = .index t x i) (h:q65 P t (opnd σ x) (opnd σ i)=some res):q2f P F o σ res:=by
 unfold q65 at h
 split at h
 case h_3=>cases h
 case h_2 =>
  rename_i cs k n hx hi
  split at h
  case h_2=>cases h
  rename_i m el hu
  split at h
  case h_3=>cases h
  case h_2 =>
   rename_i z hs ha
   simp only [Option.some.injEq] at h
   subst h
   refine q2f.same fun e a w hR hc=>?_
   have h1:=hR.opnd x
   rw [hx] at h1
   obtain ⟨vs,h3,h4⟩ : ∃ vs:Array Value,a.eval x = .agg vs/\q0j (q2v e σ w) vs.toList cs:=h1
   have h5:=hR.opnd i
   rw [hi] at h5
   have h6:=q0d h5
   obtain ⟨c1,c2,c3⟩:=hc
   refine ⟨.agg (vs.extract (n.toNat*z) (n.toNat*z+z)),?_,_,rfl,?_⟩
   ·simp [execOp,ho,h3,h6,Sem.run_bind,Instr.index,asIntOf,run_underlying hu w,c1,c2,q0z hs w,part,q1w ha w]
   ·rw [Array.toList_extract]
    show q0j _ (List.take (n.toNat*z+z - n.toNat*z) (List.drop (n.toNat*z) vs.toList)) _
    rw [Nat.add_sub_cancel_left]
    exact (h4.drop _).take _
  rename_i hs ha
  simp only [Option.some.injEq] at h
  subst h
  refine q2f.same fun e a w hR hc=>?_
  have h1:=hR.opnd x
  rw [hx] at h1
  obtain ⟨vs,h3,h4⟩ : ∃ vs:Array Value,a.eval x = .agg vs/\q0j (q2v e σ w) vs.toList cs:=h1
  have h5:=hR.opnd i
  rw [hi] at h5
  have h6:=q0d h5
  obtain ⟨c1,c2,c3⟩:=hc
  have hl:=h4.length
  rw [Array.length_toList] at hl
  have hlt:n.toNat<vs.size:=by omega
  have hv:vs[n.toNat]? = some (vs[n.toNat]'hlt):=Array.getElem?_eq_getElem hlt
  have c4:n<(m:Int):=by omega
  refine ⟨vs[n.toNat]'hlt,?_,?_⟩
  ·simp [execOp,ho,h3,h6,Sem.run_bind,Instr.index,asIntOf,run_underlying hu w,c1,c4,q0z hs w,part,q1w ha w,hv]
  ·have hlt2:n.toNat<cs.length:=by omega
   have:=h4.get n.toNat (by rw [Array.length_toList];omega) hlt2
   rw [Array.getElem_toList] at this
   have e5:cs.getD n.toNat .bad=cs[n.toNat]:=by simp [List.getD,List.getElem?_eq_getElem hlt2]
   show q2v e σ w _ (cs.getD n.toNat .bad)
   rw [e5]
   exact this
 rename_i s k n hx hi
 split at h
 case h_2=>cases h
 rename_i hu
 simp only [Option.some.injEq] at h
 subst h
 refine q2f.same fun e a w hR hc=>?_
 have h1:=hR.opnd x
 rw [hx] at h1
 have h2:=q0d h1
 have h3:=hR.opnd i
 rw [hi] at h3
 have h4:=q0d h3
 obtain ⟨hc1,hc2⟩:=hc
 have hlt:n.toNat<s.size:=by omega
 refine ⟨_,?_,q08 _⟩
 have hs:s[n.toNat]? = some (s[n.toNat]'hlt):=by simp [getElem?_pos,hlt]
 have hb:j5y s n=((s[n.toNat]'hlt).toNat:Int):=by
  unfold j5y
  have:s.data.toList.getD n.toNat 0=s[n.toNat]'hlt:=by
   have hl:n.toNat<s.data.toList.length:=by simpa using hlt
   simp only [List.getD,List.getElem?_eq_getElem hl,Option.getD_some]
   rfl
  rw [this]
 simp [execOp,ho,h2,h4,Sem.run_bind,Instr.index,asIntOf,run_underlying hu w,hc1,hs,hb]
def q19 (P:Program) (t:TypeId) (x i:D) (rw:Nat->Option Row):Option Res:=match P.underlying t with
 | some (.slice el)=>match tsz P el,x,i with
  | some m,.one (.c (.d (.lst sz xs))),.one (.c (.d (.v (.int k n))))=>if m=sz then some { cond:=0<=n/\n<xs.length,val:=.one (.c (.rp (xs.getD n.toNat []))) } else none
  | some m,.one (.c (.row tt g)),.one (.c (.d (.v (.int k n))))=>match rw tt with
   | some r=>if r.gen=g/\r.sz=m then some { cond:=0<=n/\n<r.xs.length,val:=.one (.c (.wp tt g n.toNat 0)) } else none
   | none=>none
  | _,_,_=>none
 | some (.array len el)=>match tsz P el,x,i with
  | some m,.one (.c (.box β o)),.one (.c (.d (.v (.int k n))))=>some { cond:=0<=n/\n<len,val:=.one (.c (.box β (o+n.toNat*m))) }
  | _,_,_=>none
 | _=>none
theorem j6i {o:Oper} {t:TypeId} {x i:Operand} {res:Res} (ho:o.op = .indexAddr t x i) (h:q19 P t (opnd σ x) (opnd σ i) σ.row=some res):q2f P F o σ res:=by
 unfold q19 at h
 split at h
 ·rename_i el hu
  split at h
  ·rename_i m sz xs k n hm hx hi
   split at h
   case isFalse=>cases h
   rename_i hmz
   subst hmz
   simp only [Option.some.injEq] at h
   subst h
   refine q2f.same fun e a w hR hc=>?_
   obtain ⟨hc1,hc2⟩:=hc
   have h1:=hR.opnd x
   rw [hx] at h1
   have h3:=hR.opnd i
   rw [hi] at h3
   have h4:=q0d h3
   have h1':DatRep e.Pc w (a.eval x) (.lst m xs):=h1
   generalize hv:a.eval x=v at h1'
   cases h1' with
   | lst aa nn cap _ _ b off c hn hcap hmax hsz ha hcc hr =>
    have hk:n.toNat<xs.length:=by omega
    have ha':=ha (by omega)
    subst ha'
    have hxl:=hsz _ (List.getElem_mem hk)
    have hgd:xs.getD n.toNat []=xs[n.toNat]:=by simp [List.getD,hk]
    refine ⟨.pointer (some ⟨b,off+n.toNat*m,none⟩),?_,b,off+n.toNat*m,rfl,(List.range m).map (c n.toNat),?_,?_⟩
    ·have hnn:n<(nn:Int):=by omega
     simp [execOp,ho,hv,h4,Sem.run_bind,Instr.indexAt,asIntOf,run_underlying hu w,hc1,hnn,q0z hm w,add_lit]
    ·rw [hgd]
     refine q0j.mk (by simp [hxl]) (fun j hj hj'=>?_)
     simp only [List.getElem_map,List.getElem_range]
     exact hr n.toNat j hk hj'
    ·intro j hj
     simp only [List.length_map,List.length_range] at hj
     simp only [List.getElem_map,List.getElem_range]
     exact hcc n.toNat j hk hj
  ·rename_i m tt g k n hm hx hi
   split at h
   case h_2=>cases h
   rename_i r hr
   split at h
   case isFalse=>cases h
   rename_i hg
   obtain ⟨rfl,rfl⟩:=hg
   simp only [Option.some.injEq] at h
   subst h
   refine q2f.same fun e a w hR hc=>?_
   obtain ⟨hc1,hc2⟩:=hc
   have h1:=hR.opnd x
   rw [hx] at h1
   obtain ⟨_,h5,_⟩:(∃ r',σ.row tt=some r'/\r.gen<=r'.gen)/\a.eval x=e.rv tt r.gen/\_:=h1
   have h3:=hR.opnd i
   rw [hi] at h3
   have h4:=q0d h3
   obtain ⟨hs,cells,k1,k2,k3⟩:=hR.hp.rows tt r hr
   rcases k1.2 with ⟨_,k5⟩|⟨gg,cap,cur,k4,k5,k6,k7,k8,k9,k10⟩
   ·omega
   ·have hnn:n<(r.xs.length:Int):=hc2
    refine ⟨.pointer (some ⟨gg,n.toNat*r.sz,none⟩),?_,r,gg,hr,Nat.le_refl _,by rw [k4];rfl,by rw [Nat.add_zero]⟩
    simp [execOp,ho,h5,k4,h4,Sem.run_bind,Instr.indexAt,asIntOf,run_underlying hu w,hc1,hnn,q0z hm w,add_lit]
  ·cases h
 ·rename_i len el hu
  split at h
  ·rename_i m β q k n hm hx hi
   simp only [Option.some.injEq] at h
   subst h
   refine q2f.same fun e a w hR hc=>?_
   obtain ⟨hc1,hc2⟩:=hc
   have h1:=hR.opnd x
   rw [hx] at h1
   obtain ⟨h2,h5⟩:(σ.box β).isSome=true/\a.eval x = .pointer (some ⟨e.m β,q,none⟩):=h1
   have h3:=hR.opnd i
   rw [hi] at h3
   have h4:=q0d h3
   refine ⟨.pointer (some ⟨e.m β,q+n.toNat*m,none⟩),?_,h2,rfl⟩
   simp [execOp,ho,h5,h4,Sem.run_bind,Instr.indexAt,Instr.sureAddr,asIntOf,run_underlying hu w,hc1,hc2,q0z hm w,add_lit]
  ·cases h
 ·cases h
end Go.Proofs.YtapfankgdkdkgaaGreatDoor.AM
namespace Go.Proofs.YtapfankgdkdkgaaGreatDoor.AM
open Go.RowKit
variable {F:Fr} {σ:St} {e:Env} {a:Act} {w:World} {P:Program}
def bnd (d:Int):Option D->Option Int
 | none=>some d
 | some (.one (.c (.d (.v (.int _ n)))))=>some n
 | some _=>none
theorem juz {x:Option Operand} {d:Int} {l:Int} {y:Nat} {code:BoundsCode} (hR:R F σ e a w) (h:bnd d (x.map (opnd σ))=some l) (h0:0<=l) (h1:l<=y) (hd:x=none->d=l) :
  ∀v,x.map a.eval=some v->(Instr.sliceBound v y code).run P w = .ok l.toNat w:=by
 intro v hv
 cases x with
 | none=>cases hv
 | some x =>
  simp only [Option.map_some,Option.some.injEq] at hv h
  subst hv
  unfold bnd at h
  split at h
  ·rename_i hh;cases hh
  ·rename_i k n hh
   simp only [Option.some.injEq] at hh h
   subst h
   have h3:=hR.opnd x
   rw [hh] at h3
   rw [q0d h3]
   exact run_sliceBound (P:=P) w k n y code h0 h1
  ·cases h
theorem qn8 {lo hi:Option Operand} {l h:Int} {isSlice:Bool} {len cap:Nat} (hR:R F σ e a w) (hl:bnd 0 (lo.map (opnd σ))=some l) (hh:bnd len (hi.map (opnd σ))=some h) (h0:0<=l) (h1:l<=h) (h2:h<=len) (h3:len<=cap) :
  (Instr.sliceBounds isSlice len cap (lo.map a.eval) (hi.map a.eval) none).run P w = .ok (l.toNat,h.toNat,cap) w:=by
 have e1:=juz (P:=P) (y:=cap) (code:=if isSlice then .sliceAcap else .sliceAlen) hR hh (by omega) (by omega) (fun e=>by subst e;simpa [bnd] using hh)
 have e2:=juz (P:=P) (y:=h.toNat) (code:=.sliceB) hR hl (by omega) (by omega) (fun e=>by subst e;simpa [bnd] using hl)
 cases lo with
 | none =>
  have:l=0:=by simpa [bnd] using hl.symm
  subst this
  cases hi with
  | none =>
   have:h=len:=by simpa [bnd] using hh.symm
   subst this
   simp [Instr.sliceBounds]
  | some y=>simp [Instr.sliceBounds,e1 _ rfl]
 | some x =>
  cases hi with
  | none =>
   have:h=len:=by simpa [bnd] using hh.symm
   subst this
   have e2':=e2 _ rfl
   simp only [Int.toNat_natCast] at e2'
   simp [Instr.sliceBounds,e2']
  | some y=>simp [Instr.sliceBounds,Sem.run_bind,e1 _ rfl,e2 _ rfl]
def q7c (P:Program) (t:TypeId) (x:D) (lo hi:Option D):Option Res:=match P.underlying t,x with
 | some .string,.one (.c (.d (.v (.string s))))=>match bnd 0 lo,bnd s.size hi with
  | some l,some h=>some { cond:=0<=l/\l<=h/\h<=s.size,val:=q70 (.string (s.extract l.toNat h.toNat)) }
  | _,_=>none
 | some (.slice el),.one (.c (.d (.lst sz xs)))=>match bnd 0 lo,bnd xs.length hi with
  | some l,some h=>if tsz P el=some sz then some { cond:=0<=l/\l<=h/\h<=xs.length,val:=.one (.c (.d (.lst sz ((xs.drop l.toNat).take (h.toNat - l.toNat))))) } else none
  | _,_=>none
 | _,_=>none
theorem j9p {Pc:Nat->Nat->Prop} {aa:Option Addr} {n cap sz:Nat} {xs:List (List Dat)} (h:DatRep Pc w (.slice aa n cap) (.lst sz xs)) {l k:Nat} (h1:l+k<=xs.length) :
  DatRep Pc w (.slice (if cap=l then aa else aa.map (·.add (l*sz))) k (cap - l)) (.lst sz ((xs.drop l).take k)):=by
 cases h with
 | lst _ _ _ _ _ b off c hn hcap hmax hsz ha hcc hr =>
  have hlen:((xs.drop l).take k).length=k:=by rw [List.length_take,List.length_drop];omega
  refine .lst _ _ _ sz _ b (off+l*sz) (fun i j=>c (l+i) j) hlen.symm (by omega) (by omega) (fun x hx=>hsz x (List.mem_of_mem_drop (List.mem_of_mem_take hx))) (fun h0=>?_) (fun i j hi hj=>?_) (fun i j hi hj=>?_)
  ·rw [hlen] at h0
   rw [if_neg (by omega),ha (by omega)]
   simp [add_lit]
  ·rw [hlen] at hi
   have:=hcc (l+i) j (by omega) hj
   rw [show off+l*sz+i*sz+j=off+(l+i)*sz+j from by rw [Nat.add_mul];omega]
   exact this
  ·rw [hlen] at hi
   simp only [List.getElem_take,List.getElem_drop] at hj ⊢
   exact hr (l+i) j (by omega) hj
theorem ok_slice {o:Oper} {t:TypeId} {x:Operand} {lo hi:Option Operand} {res:Res} (ho:o.op = .slice t x lo hi none) (h:q7c P t (opnd σ x) (lo.map (opnd σ)) (hi.map (opnd σ))=some res):q2f P F o σ res:=by
 unfold q7c at h
 split at h
 ·rename_i s hu hx
  split at h
  case h_2=>cases h
  rename_i l hh hl hhh
  simp only [Option.some.injEq] at h
  subst h
  refine q2f.same fun e a w hR hc=>?_
  obtain ⟨c1,c2,c3⟩:=hc
  have h1:=hR.opnd x
  rw [hx] at h1
  have h2:=q0d h1
  have hb:=qn8 (P:=P) (isSlice:=false) (cap:=s.size) hR hl hhh c1 c2 (by omega) (Nat.le_refl _)
  refine ⟨_,?_,q08 _⟩
  simp [execOp,ho,h2,Sem.run_bind,Instr.sliceAt,Instr.slice,run_underlying hu w,hb]
 ·rename_i el sz xs hu hx
  split at h
  case h_2=>cases h
  rename_i l hh hl hhh
  split at h
  case isFalse=>cases h
  rename_i hsz
  simp only [Option.some.injEq] at h
  subst h
  refine q2f.same fun e a w hR hc=>?_
  obtain ⟨c1,c2,c3⟩:=hc
  have h1:=hR.opnd x
  rw [hx] at h1
  have h1':DatRep e.Pc w (a.eval x) (.lst sz xs):=h1
  generalize hv:a.eval x=v at h1'
  have h1'':=h1'
  cases h1' with
  | lst aa nn cap _ _ b off c hn hcap hmax hs ha hcc hr =>
   have hb:=qn8 (P:=P) (isSlice:=true) (len:=nn) (cap:=cap) hR hl (by rw [hn];exact hhh) c1 c2 (by omega) hcap
   refine ⟨.slice (if cap=l.toNat then aa else aa.map (·.add (l.toNat*sz))) (hh.toNat - l.toNat) (cap - l.toNat),?_,j9p h1'' (by omega)⟩
   simp [execOp,ho,hv,Sem.run_bind,Instr.sliceAt,Instr.slice,run_underlying hu w,hb,q0z hsz w]
 ·cases h
def qmy (P:Program) (t:TypeId) (x:D) (rw:Nat->Option Row):Option Res:=match P.underlying t,x with
 | some .string,.one (.c (.d (.v (.string s))))=>some { cond:=True,val:=q70 (.int .i64 s.size) }
 | some (.slice _),.one (.c (.d (.lst _ xs)))=>some { cond:=True,val:=q70 (.int .i64 xs.length) }
 | some (.slice _),.one (.c (.d (.v (.slice none 0 0))))=>some { cond:=True,val:=q70 (.int .i64 0) }
 | some (.slice _),.one (.c (.row tt g))=>match rw tt with
  | some r=>if r.gen=g then some { cond:=True,val:=q70 (.int .i64 r.xs.length) } else none
  | none=>none
 | _,_=>none
theorem k5b (h:Hp F σ e w) {t:Nat} {r:Row} (hr:σ.row t=some r) : ∃ a c,e.rv t r.gen = .slice a r.xs.length c:=by
 obtain ⟨_,cells,h1,_⟩:=h.rows t r hr
 rcases h1.2 with ⟨h4,h5⟩|⟨g,cap,cur,h4,_⟩
 ·exact ⟨none,0,by rw [h4,h5]⟩
 ·exact ⟨_,cap,h4⟩
theorem k9r {o:Oper} {t:TypeId} {x:Operand} {res:Res} (ho:o.op = .call { callee:=.builtin .len,args:=#[x],argTypes:=#[t] }) (h:qmy P t (opnd σ x) σ.row=some res):q2f P F o σ res:=by
 unfold qmy at h
 split at h
 ·rename_i s hu hx
  simp only [Option.some.injEq] at h
  subst h
  refine q2f.same fun e a w hR _=>?_
  have h1:=hR.opnd x
  rw [hx] at h1
  exact ⟨_,by simp [execOp,ho,q0d h1,Sem.run_bind,resolve,invoke,builtin,Builtin.len_,run_underlying hu w,goInt],q08 _⟩
 ·rename_i el sz xs hu hx
  simp only [Option.some.injEq] at h
  subst h
  refine q2f.same fun e a w hR _=>?_
  have h1:=hR.opnd x
  rw [hx] at h1
  have h1':DatRep e.Pc w (a.eval x) (.lst sz xs):=h1
  generalize hv:a.eval x=v at h1'
  cases h1' with
  | lst aa nn cap _ _ b off c hn hcap hmax hs ha hcc hr =>
   subst hn
   exact ⟨_,by simp [execOp,ho,hv,Sem.run_bind,resolve,invoke,builtin,Builtin.len_,run_underlying hu w,goInt],q08 _⟩
 ·rename_i el hu hx
  simp only [Option.some.injEq] at h
  subst h
  refine q2f.same fun e a w hR _=>?_
  have h1:=hR.opnd x
  rw [hx] at h1
  exact ⟨_,by simp [execOp,ho,q0d h1,Sem.run_bind,resolve,invoke,builtin,Builtin.len_,run_underlying hu w,goInt],q08 _⟩
 ·rename_i el tt g hu hx
  split at h
  case h_2=>cases h
  rename_i r hr
  split at h
  case isFalse=>cases h
  rename_i hg
  subst hg
  simp only [Option.some.injEq] at h
  subst h
  refine q2f.same fun e a w hR _=>?_
  have h1:=hR.opnd x
  rw [hx] at h1
  obtain ⟨_,h5,_⟩:(∃ r',σ.row tt=some r'/\r.gen<=r'.gen)/\a.eval x=e.rv tt r.gen/\_:=h1
  obtain ⟨aa,c,h6⟩:=k5b hR.hp hr
  exact ⟨_,by simp [execOp,ho,h5,h6,Sem.run_bind,resolve,invoke,builtin,Builtin.len_,run_underlying hu w,goInt],q08 _⟩
 ·cases h
def qm3 (place:Nat->Option (Nat×Nat)) (cs:List C):List (Nat×List C)->Option (List C)
 | []=>some cs
 | (i,xs)::rest=>match place i with
  | some (off,size)=>if xs.length=size/\off+xs.length<=cs.length then qm3 place (setAt cs off xs) rest else none
  | none=>none
theorem jtd {α:Type} (l:List α) (i:Nat) (v:α) (vs:List α) (h:i<l.length):setAt (l.set i v) (i+1) vs=setAt l i (v::vs):=by
 unfold setAt
 have e:l.set i v=l.take i++v::l.drop (i+1):=by rw [List.set_eq_take_append_cons_drop,if_pos h]
 have hl:(l.take i).length=i:=by rw [List.length_take];omega
 rw [e,List.take_append,List.drop_append,hl,List.take_of_length_le (l:=l.take i) (by omega),List.drop_eq_nil_of_le («as»:=l.take i) (by omega),show i+1 - i=1 from by omega,show i+1+vs.length - i=vs.length+1 from by omega]
 simp only [List.take_succ_cons,List.take_zero,List.drop_succ_cons,List.drop_drop,List.nil_append,List.append_assoc,List.cons_append,List.length_cons]
 rw [show i+1+vs.length=i+(vs.length+1) from by omega]
theorem jav (off:Nat) : ∀(vs:List Value) (k:Nat) (cells:Array Value),off+k+vs.length<=cells.size ->
  ((vs.zipIdx k).foldl (fun cs (p:Value×Nat)=>cs.setIfInBounds (off+p.2) p.1) cells).toList=setAt cells.toList (off+k) vs
 | [],k,cells,_=>by simp [setAt]
 | v::vs,k,cells,h=>by
  simp only [List.length_cons] at h
  rw [List.zipIdx_cons,List.foldl_cons,jav off vs (k+1) _ (by simp;omega),Array.toList_setIfInBounds]
  exact jtd _ _ _ _ (by rw [Array.length_toList];omega)
def qq5 (e:Env) (σ:St) (w:World):List (Nat×Value)->List (Nat×List C)->Prop
 | [],[]=>True
 | (i,v)::rest,(j,xs)::rest'=>i=j/\q0j (q2v e σ w) v.cells.toList xs/\(∀u∈v.cells.toList,u.oneCell'=true)/\qq5 e σ w rest rest'
 | _,_=>False
theorem qpq {place:Nat->Option (Nat×Nat)} : ∀(ps:List (Nat×Value)) (qs:List (Nat×List C)) (vs:Array Value) (cs cs':List C),qq5 e σ w ps qs->q0j (q2v e σ w) vs.toList cs->(∀u∈vs.toList,u.oneCell'=true)->qm3 place cs qs=some cs' ->
  ∃ vs':Array Value,Instr.fill place vs ps=some vs'/\q0j (q2v e σ w) vs'.toList cs'/\(∀u∈vs'.toList,u.oneCell'=true)
 | [],[],vs,cs,cs',_,h,h1,hf=>by
  simp only [qm3,Option.some.injEq] at hf
  subst hf
  exact ⟨vs,rfl,h,h1⟩
 | (i,v)::ps,(j,xs)::qs,vs,cs,cs',⟨hij,hv,hv1,hp⟩,h,h1,hf=>by
  subst hij
  unfold qm3 at hf
  split at hf
  case h_2=>cases hf
  rename_i off size hpl
  split at hf
  case isFalse=>cases hf
  rename_i hle
  have hl1:=hv.length
  have hl2:=h.length
  rw [Array.length_toList] at hl1 hl2
  have e1:=jav off v.cells.toList 0 vs (by rw [Array.length_toList];omega)
  rw [Nat.add_zero] at e1
  have e2:(v.cells.zipIdx.foldl (fun cs (c,j)=>cs.setIfInBounds (off+j) c) vs).toList=setAt vs.toList off v.cells.toList:=by
   rw [<-e1,<-Array.foldl_toList,Array.toList_zipIdx]
  obtain ⟨vs',g1,g2,g3⟩:=qpq ps qs (v.cells.zipIdx.foldl (fun cs (c,j)=>cs.setIfInBounds (off+j) c) vs) (setAt cs off xs) cs' hp (by rw [e2];exact qlk h hv off) (by
   rw [e2]
   intro u hu
   rcases qt4 hu with hu|hu
   ·exact h1 u hu
   ·exact hv1 u hu) hf
  refine ⟨vs',?_,g2,g3⟩
  unfold Instr.fill
  simp only [hpl]
  rw [if_neg]
  ·exact g1
  ·have : ¬ (v.cells.size≠size||decide (off+v.cells.size>vs.size))=true:=by
    simp only [Bool.or_eq_true,decide_eq_true_eq,not_or]
    omega
   exact this
 | [],_::_,_,_,_,h,_,_,_=>h.elim
 | _::_,[],_,_,_,h,_,_,_=>h.elim
def places (P:Program) (fs:Array Field):Option (List (Nat×Nat)):=fs.toList.mapM fun f=>(P.info? f.type).map fun i=>(f.offset,i.size)
def layT (P:Program) (t:TypeId):Option (List (Nat×Nat)):=match P.underlying t with
 | some (.struct fs)=>places P fs
 | _=>none
def arrT (P:Program) (t:TypeId):Option Nat:=match P.underlying t with
 | some (.array _ el)=>tsz P el
 | _=>none
def qwz (P:Program) (t:TypeId) (parts:List (Nat×List C)):Option (List C):=match qtg P t,layT P t,arrT P t with
 | some z,some pl,_=>if z.all Value.oneCell'=true then qm3 (pl.toArray[·]?) (z.map qvb) parts else none
 | some z,none,some n=>if z.all Value.oneCell'=true then qm3 (fun i=>some (i*n,n)) (z.map qvb) parts else none
 | _,_,_=>none
theorem jtq {t:TypeId} {ps:List (Nat×Value)} {qs:List (Nat×List C)} {cs:List C} (hp:qq5 e σ w ps qs) (h:qwz P t qs=some cs) :
  ∃ vs:Array Value,P.built t ps=some vs/\q0j (q2v e σ w) vs.toList cs:=by
 unfold qwz at h
 split at h
 ·rename_i z pl hz hl
  split at h
  case isFalse=>cases h
  rename_i h1
  unfold layT at hl
  split at hl
  case h_2=>cases hl
  rename_i fs hu
  unfold qtg at hz
  obtain ⟨inf,hi,hz1⟩:=Option.bind_eq_some_iff.1 hz
  obtain ⟨zv,hz2,rfl⟩:=Option.map_eq_some_iff.1 hz1
  obtain ⟨vs,g1,g2,_⟩:=qpq ps qs zv.cells _ cs hp (qbn qvb qft _) (fun u hu=>List.all_eq_true.1 h1 u hu) h
  refine ⟨vs,?_,g2⟩
  unfold Program.built
  unfold places at hl
  simp only [hi,hu,hz2,hl]
  exact g1
 ·rename_i z n hz hl hm
  split at h
  case isFalse=>cases h
  rename_i h1
  unfold arrT at hm
  split at hm
  case h_2=>cases hm
  rename_i k el hu
  unfold qtg at hz
  obtain ⟨inf,hi,hz1⟩:=Option.bind_eq_some_iff.1 hz
  obtain ⟨zv,hz2,rfl⟩:=Option.map_eq_some_iff.1 hz1
  unfold tsz at hm
  obtain ⟨ie,hie,rfl⟩:=Option.map_eq_some_iff.1 hm
  obtain ⟨vs,g1,g2,_⟩:=qpq ps qs zv.cells _ cs hp (qbn qvb qft _) (fun u hu=>List.all_eq_true.1 h1 u hu) h
  refine ⟨vs,?_,g2⟩
  unfold Program.built
  simp only [hi,hu,hz2,hie]
  exact g1
 ·cases h
def qcn (ρ:Operand->D):List (Nat×Operand)->Option (List (Nat×List C))
 | []=>some []
 | (i,x)::rest=>match ρ x,qcn ρ rest with
  | .one d,some r=>if (q0r d).all okC=true then some ((i,q0r d)::r) else none
  | _,_=>none
theorem qx5 (hR:R F σ e a w) : ∀(ps:List (Nat×Operand)) (qs:List (Nat×List C)),qcn (opnd σ) ps=some qs->qq5 e σ w (ps.map fun (i,x)=>(i,a.eval x)) qs
 | [],qs,h=>by simp only [qcn,Option.some.injEq] at h;subst h;exact trivial
 | (i,x)::ps,qs,h=>by
  unfold qcn at h
  split at h
  case h_2=>cases h
  rename_i d r hd hr
  split at h
  case isFalse=>cases h
  rename_i hok
  simp only [Option.some.injEq] at h
  subst h
  have h4:=hR.opnd x
  rw [hd] at h4
  obtain ⟨h5,h6⟩:=qjv (show q9g e σ w (a.eval x) d from h4) hok
  exact ⟨rfl,h5,h6,qx5 hR ps r hr⟩
def qh6 (P:Program) (t:TypeId) (ps:Array (Nat×Operand)) (ρ:Operand->D):Option Res:=match qcn ρ ps.toList with
 | some qs=>match qwz P t qs with
  | some cs=>some { cond:=True,val:=.one (.agg cs) }
  | none=>none
 | none=>none
theorem jzy {o:Oper} {t:TypeId} {ps:Array (Nat×Operand)} {res:Res} (ho:o.op = .build t ps) (h:qh6 P t ps (opnd σ)=some res):q2f P F o σ res:=by
 unfold qh6 at h
 split at h
 case h_2=>cases h
 rename_i qs hqs
 split at h
 case h_2=>cases h
 rename_i cs hcs
 simp only [Option.some.injEq] at h
 subst h
 refine q2f.same fun e a w hR _=>?_
 obtain ⟨vs,h1,h2⟩:=jtq (qx5 hR _ _ hqs) hcs
 refine ⟨.agg vs,?_,vs,rfl,h2⟩
 have:=run_build (P:=P) w t (ps.map fun (i,x)=>(i,a.eval x)) vs (by rw [Array.toList_map];exact h1)
 simp [execOp,ho,this]
end Go.Proofs.YtapfankgdkdkgaaGreatDoor.AM
