
import Derived.WalkKit
import Derived.Below
import Derived.OwnWalk
import Derived.Orders
import Derived.Laws.CopyOwn
set_option linter.unusedVariables false
namespace Go.Proofs.YtlkpgcifpnppeaaGreatDoor.AM
abbrev Yy:=List UInt8
abbrev Vv:=Int×(Int×(Int×(Yy×Yy)))
abbrev Qq:=Yy×Vv
abbrev LQ:=List Qq
open Go.RowKit
inductive Dat where
 | v (x:Value)
 | lst (sz:Nat) (xs:List (List Dat))
def q0b {α β:Type} (r:α->β->Prop):List α->List β->Prop
 | [],[]=>True
 | a::asx,b::bs=>r a b/\q0b r asx bs
 | _,_=>False
theorem q0b.length {α β:Type} {r:α->β->Prop} : ∀{l:List α} {m:List β},q0b r l m->l.length=m.length
 | [],[],_=>rfl
 | _::_,_::_,h=>congrArg (· + 1) (q0b.length h.2)
 | [],_::_,h=>h.elim
 | _::_,[],h=>h.elim
theorem q0b.mono {α β:Type} {r r':α->β->Prop} (hr : ∀a b,r a b->r' a b) : ∀{l:List α} {m:List β},q0b r l m->q0b r' l m
 | [],[],_=>trivial
 | _::_,_::_,h=>⟨hr _ _ h.1,q0b.mono hr h.2⟩
 | [],_::_,h=>h.elim
 | _::_,[],h=>h.elim
theorem q0b.get {α β:Type} {r:α->β->Prop} : ∀{l:List α} {m:List β},q0b r l m->∀(i:Nat) (hi:i<l.length) (hj:i<m.length),r l[i] m[i]
 | _::_,_::_,h,0,_,_=>h.1
 | _::_,_::_,h,i+1,hi,hj=>q0b.get h.2 i (by simpa using hi) (by simpa using hj)
 | [],_,_,i,hi,_=>absurd hi (by simp)
theorem q0b.mk {α β:Type} {r:α->β->Prop} : ∀{l:List α} {m:List β},l.length=m.length->(∀(i:Nat) (hi:i<l.length) (hj:i<m.length),r l[i] m[i])->q0b r l m
 | [],[],_,_=>trivial
 | a::asx,b::bs,hl,h=>⟨h 0 (by simp) (by simp),q0b.mk (by simpa using hl) (fun i hi hj=>h (i+1) (by simpa using hi) (by simpa using hj))⟩
 | [],_::_,hl,_=>by simp at hl
 | _::_,[],hl,_=>by simp at hl
theorem q0b.drop {α β:Type} {r:α->β->Prop} : ∀{l:List α} {m:List β},q0b r l m->∀(n:Nat),q0b r (l.drop n) (m.drop n)
 | _,_,h,0=>by simpa using h
 | [],[],_,n+1=>by simp [q0b]
 | _::_,_::_,h,n+1=>by simpa using q0b.drop h.2 n
 | [],_::_,h,_=>h.elim
 | _::_,[],h,_=>h.elim
theorem q0b.take {α β:Type} {r:α->β->Prop} : ∀{l:List α} {m:List β},q0b r l m->∀(n:Nat),q0b r (l.take n) (m.take n)
 | _,_,_,0=>by simp [q0b]
 | [],[],_,n+1=>by simp [q0b]
 | _::_,_::_,h,n+1=>by simpa using ⟨h.1,q0b.take h.2 n⟩
 | [],_::_,h,_=>h.elim
 | _::_,[],h,_=>h.elim
theorem q0b.append {α β:Type} {r:α->β->Prop} : ∀{l:List α} {m:List β} {l':List α} {m':List β},q0b r l m->q0b r l' m'->q0b r (l++l') (m++m')
 | [],[],_,_,_,h=>h
 | _::_,_::_,_,_,h,h'=>⟨h.1,q0b.append h.2 h'⟩
 | [],_::_,_,_,h,_=>h.elim
 | _::_,[],_,_,h,_=>h.elim
inductive DatRep (Pc:Nat->Nat->Prop) (w:World):Value->Dat->Prop
 | v (x:Value):DatRep Pc w x (.v x)
 | lst (a:Option Addr) (n cap sz:Nat) (xs:List (List Dat)) (b off:Nat) (c:Nat->Nat->Value)
   (hn:n=xs.length) (hcap:n<=cap) (hmax:cap<=maxLen) (hsz : ∀x∈xs,x.length=sz)
   (ha:0<xs.length->a=some ⟨b,off,none⟩)
   (hc : ∀k j,k<xs.length->j<sz->Pc b (off+k*sz+j)/\w.cell? ⟨b,off+k*sz+j,none⟩=some (c k j)/\(c k j).oneCell'=true)
   (hr : ∀(k j:Nat) (hk:k<xs.length) (hj:j<(xs[k]).length),DatRep Pc w (c k j) ((xs[k])[j])) :
   DatRep Pc w (.slice a n cap) (.lst sz xs)
theorem DatRep.mono {Pc Pc':Nat->Nat->Prop} {w w':World} (hP : ∀b o,Pc b o->Pc' b o) (hw : ∀b o,Pc b o->w'.cell? ⟨b,o,none⟩=w.cell? ⟨b,o,none⟩) {x:Value} {d:Dat} (h:DatRep Pc w x d) :
  DatRep Pc' w' x d:=by
 induction h with
 | v x=>exact .v x
 | lst a n cap sz xs b off c hn hcap hmax hsz ha hc hr ih =>
  exact .lst a n cap sz xs b off c hn hcap hmax hsz ha (fun k j hk hj=>⟨hP _ _ (hc k j hk hj).1,(hw _ _ (hc k j hk hj).1).trans (hc k j hk hj).2.1,(hc k j hk hj).2.2⟩) ih
structure Row where
 gen:Nat
 E:Nat
 sz:Nat
 wr:Bool
 xs:List (List Dat)
inductive C where
 | d (x:Dat)
 | box (β off:Nat)
 | bsl (β n:Nat)
 | row (t g:Nat)
 | rp (cs:List Dat)
 | wp (t g k off:Nat)
 | fn (f:Nat) (caps:List Nat)
 | mv (β:Nat)
 | bad
inductive D1 where
 | c (x:C)
 | agg (cs:List C)
inductive D where
 | one (x:D1)
 | tup (xs:List D1)
structure Env where
 m:Nat->Nat
 rv:Nat->Nat->Value
 Pc:Nat->Nat->Prop
structure St where
 slot:Nat->D
 box:Nat->Option (Nat×List C)
 row:Nat->Option Row
def bndB (f:Nat):Nat:=f % 2199023255552
theorem jnt {n b:Nat} (h:n<b):(n+b) % b=n:=by rw [Nat.add_mod_right,Nat.mod_eq_of_lt h]
theorem jjp {n:Nat} (h:n<2199023255552):bndB (n+2199023255552)=n:=jnt h
def fnV (f:Nat) (bs:List Nat):Value:=match Nat.blt f 2199023255552 with
 | true=>.func (.func f) #[] (bs.map fun b=>Value.pointer (some ⟨b,0,none⟩)).toArray
 | false=>.func (.func (bndB f)) (bs.map fun b=>Value.map (some b)).toArray #[]
theorem jmm (f:Nat) (bs:List Nat):(fnV f bs).oneCell'=true:=by unfold fnV;split<;>rfl
def q2k (e:Env) (σ:St) (w:World) (v:Value):C->Prop
 | .d x=>DatRep e.Pc w v x
 | .box β off=>(σ.box β).isSome=true/\v = .pointer (some ⟨e.m β,off,none⟩)
 | .bsl β n=>(σ.box β).isSome=true/\v = .slice (some ⟨e.m β,0,none⟩) n n
 | .row t g=>(∃ r,σ.row t=some r/\g<=r.gen)/\v=e.rv t g/\∃ a n c,v = .slice a n c
 | .rp cs=>∃ b o,v = .pointer (some ⟨b,o,none⟩)/\∃ us:List Value,q0b (DatRep e.Pc w) us cs/\∀(j:Nat) (h:j<us.length),e.Pc b (o+j)/\w.cell? ⟨b,o+j,none⟩=some us[j]/\(us[j]).oneCell'=true
 | .wp t g k off=>∃ r b,σ.row t=some r/\g<=r.gen/\(e.rv t g).ownBlock=some b/\v = .pointer (some ⟨b,k*r.sz+off,none⟩)
 | .fn f caps=>(∀β∈caps,(σ.box β).isSome=true)/\v=fnV f (caps.map e.m)
 | .mv β=>(σ.box β).isSome=true/\v = .map (some (e.m β))
 | .bad=>True
def q80 (e:Env) (σ:St) (w:World) (v:Value):D1->Prop
 | .c x=>q2k e σ w v x
 | .agg cs=>∃ vs:Array Value,v = .agg vs/\q0b (q2k e σ w) vs.toList cs
def q1l (e:Env) (σ:St) (w:World) (v:Value):D->Prop
 | .one x=>q80 e σ w v x
 | .tup xs=>∃ vs:Array Value,v = .tuple vs/\q0b (q80 e σ w) vs.toList xs
structure Fwd (e:Env) (σ:St) (w:World) (e':Env) (σ':St) (w':World):Prop where
 pc : ∀b o,e.Pc b o->e'.Pc b o
 cell : ∀b o,e.Pc b o->w'.cell? ⟨b,o,none⟩=w.cell? ⟨b,o,none⟩
 box : ∀β,(σ.box β).isSome=true->(σ'.box β).isSome=true/\e'.m β=e.m β
 row : ∀t r g,σ.row t=some r->g<=r.gen->(∃ r',σ'.row t=some r'/\g<=r'.gen/\r'.sz=r.sz)/\e'.rv t g=e.rv t g
section
variable {e e' e'':Env} {σ σ' σ'':St} {w w' w'':World}
theorem Fwd.refl (e:Env) (σ:St) (w:World):Fwd e σ w e σ w:=⟨fun _ _ h=>h,fun _ _ _=>rfl,fun _ h=>⟨h,rfl⟩,fun t r g h hg=>⟨⟨r,h,hg,rfl⟩,rfl⟩⟩
theorem q2k.fwd (h:Fwd e σ w e' σ' w') {v:Value} {c:C} (hc:q2k e σ w v c):q2k e' σ' w' v c:=by
 cases c with
 | d x=>exact DatRep.mono h.pc h.cell hc
 | box β off=>exact ⟨(h.box β hc.1).1,by rw [(h.box β hc.1).2];exact hc.2⟩
 | bsl β n=>exact ⟨(h.box β hc.1).1,by rw [(h.box β hc.1).2];exact hc.2⟩
 | row t g =>
  obtain ⟨⟨r,h1,h2⟩,h3⟩:=hc
  obtain ⟨⟨r',h4,h6,_⟩,h5⟩:=h.row t r g h1 h2
  exact ⟨⟨r',h4,h6⟩,by rw [h5];exact h3.1,h3.2⟩
 | rp cs =>
  obtain ⟨b,o,h1,us,h2,h3⟩:=hc
  exact ⟨b,o,h1,us,h2.mono fun _ _=>DatRep.mono h.pc h.cell,fun j hj=>⟨h.pc _ _ (h3 j hj).1,(h.cell _ _ (h3 j hj).1).trans (h3 j hj).2.1,(h3 j hj).2.2⟩⟩
 | wp t g k off =>
  obtain ⟨r,b,h1,h2,h3,h4⟩:=hc
  obtain ⟨⟨r',h5,h6,h7⟩,h8⟩:=h.row t r g h1 h2
  exact ⟨r',b,h5,h6,by rw [h8];exact h3,by rw [h7];exact h4⟩
 | fn f caps =>
  refine ⟨fun β hβ=>(h.box β (hc.1 β hβ)).1,?_⟩
  rw [hc.2]
  congr 1
  apply List.map_congr_left
  intro β hβ
  rw [(h.box β (hc.1 β hβ)).2]
 | mv β=>exact ⟨(h.box β hc.1).1,by rw [(h.box β hc.1).2];exact hc.2⟩
 | bad=>trivial
theorem q80.fwd (h:Fwd e σ w e' σ' w') {v:Value} {c:D1} (hc:q80 e σ w v c):q80 e' σ' w' v c:=by
 cases c with
 | c x=>exact q2k.fwd h hc
 | agg cs=>obtain ⟨vs,h1,h2⟩:=hc;exact ⟨vs,h1,h2.mono fun _ _=>q2k.fwd h⟩
theorem q1l.fwd (h:Fwd e σ w e' σ' w') {v:Value} {c:D} (hc:q1l e σ w v c):q1l e' σ' w' v c:=by
 cases c with
 | one x=>exact q80.fwd h hc
 | tup xs=>obtain ⟨vs,h1,h2⟩:=hc;exact ⟨vs,h1,h2.mono fun _ _=>q80.fwd h⟩
end
def mKw (T:Nat):Nat:=T / 4096 % 1024
def mKa (T:Nat):Bool:=Nat.beq (T / 2048 % 2) 1
def mVw (T:Nat):Nat:=T / 2 % 1024
def mVa (T:Nat):Bool:=Nat.beq (T % 2) 1
def valOf (ag:Bool) (us:List Value):Value:=match ag with
 | true=>.agg us.toArray
 | false=>us.headD undef
def qaa (T:Nat):Nat->List (List Value)->List MapEntry
 | _,[]=>[]
 | i,us::es=>{ key:=valOf (mKa T) (us.take (mKw T)),val:=valOf (mVa T) (us.drop (mKw T)),born:=i } :: qaa T (i+1) es
def qo9 (Pc:Nat->Nat->Prop) (w:World) (b T sz:Nat) (xs:List (List Dat)):Prop :=
 sz=mKw T+mVw T/\∃ es:List (List Value),w.heap[b]? = some (.map (qaa T 0 es).toArray es.length)/\q0b (fun us x=>q0b (DatRep Pc w) us x/\us.length=sz/\∀u∈us,u.oneCell'=true) es xs
def quv (e:Env) (σ:St) (w:World) (b T:Nat) (cs:List C):Prop :=
 (T<2199023255552/\∃ vs:Array Value,w.heap[b]? = some (.cells vs T (0,0))/\q0b (q2k e σ w) vs.toList cs/\∀u∈vs.toList,u.oneCell'=true) \/
 (2199023255552<=T/\∃ sz xs,cs = [.d (.lst sz xs)]/\qo9 e.Pc w b T sz xs)
theorem qo9.mono {Pc Pc':Nat->Nat->Prop} {w w':World} {b T sz:Nat} {xs:List (List Dat)} (hP : ∀b o,Pc b o->Pc' b o) (hw : ∀b o,Pc b o->w'.cell? ⟨b,o,none⟩=w.cell? ⟨b,o,none⟩) (hb:w'.heap[b]? = w.heap[b]?) (h:qo9 Pc w b T sz xs):qo9 Pc' w' b T sz xs:=by
 obtain ⟨h1,es,h2,h3⟩:=h
 exact ⟨h1,es,hb.trans h2,h3.mono fun us x ⟨k1,k2⟩=>⟨k1.mono fun _ _=>DatRep.mono hP hw,k2⟩⟩
theorem quv.fwd {e e':Env} {σ σ':St} {w w':World} {b T:Nat} {cs:List C} (hf:Fwd e σ w e' σ' w') (hb:w'.heap[b]? = w.heap[b]?) (h:quv e σ w b T cs):quv e' σ' w' b T cs:=by
 rcases h with ⟨h0,vs,h1,h2,h3⟩|⟨h0,sz,xs,h1,h2⟩
 ·exact Or.inl ⟨h0,vs,hb.trans h1,h2.mono fun _ _=>q2k.fwd hf,h3⟩
 ·exact Or.inr ⟨h0,sz,xs,h1,h2.mono hf.pc hf.cell hb⟩
theorem quv.lt {e:Env} {σ:St} {w:World} {b T:Nat} {cs:List C} (h:quv e σ w b T cs):b<w.heap.size:=by
 rcases h with ⟨_,vs,h1,_⟩|⟨_,sz,xs,_,_,es,h1,_⟩
 ·exact (Array.getElem?_eq_some_iff.1 h1).1
 ·exact (Array.getElem?_eq_some_iff.1 h1).1
theorem quv.cells {e:Env} {σ:St} {w:World} {b T:Nat} {cs:List C} (h:quv e σ w b T cs) (hT:T<2199023255552) : ∃ vs:Array Value,w.heap[b]? = some (.cells vs T (0,0))/\q0b (q2k e σ w) vs.toList cs/\∀u∈vs.toList,u.oneCell'=true:=by
 rcases h with ⟨_,h1⟩|⟨h0,_⟩
 ·exact h1
 ·omega
def Stab (G:World->Prop):Prop:=∀w w',G w->Below w.heap.size w w'->G w'
structure Fr where
 n:Nat
 w0:World
 Pc:Nat->Nat->Prop
 G:World->Prop
 g0:G w0
 gst:Stab G
 K:Nat->Prop:=fun _=>False
 wk:World:=w0
 kLt : ∀b,K b->b<wk.heap.size:=by intro b h;exact h.elim
 m0:Nat->Option Nat:=fun _=>none
 m0ge : ∀β a,m0 β=some a->1000000<=β:=by intro β a h;cases h
 r0:Nat->Option Value:=fun _=>none
 r0ge : ∀t v,r0 t=some v->2000000<=t:=by intro t v h;cases h
 r0le : ∀t v,r0 t=some v->n<=t:=by intro t v h;cases h
def tyOf (E:Nat):Nat:=E % 1099511627776
def jmi (E n:Nat):Nat×Nat:=if E<1099511627776 then (0,0) else (n,n+1)
def q6v (w:World) (base:Nat) (E size:Nat) (v:Value) (n:Nat) (xs:List Value):Prop :=
 xs.length=n*size /\
 (
  (v = .slice none 0 0/\n=0) \/
  ∃ g cap cur,v = .slice (some ⟨g,0,none⟩) n cap/\base<=g/\w.heap[g]? = some (.cells cur (tyOf E) (jmi E cur.size))/\n<=cap/\cap<=maxLen/\cur.size=cap*size/\cur.toList.take (n*size)=xs)
theorem q2c {w:World} {base E size n:Nat} {v:Value} {xs:List Value} (h:E<1099511627776):q6v w base E size v n xs↔w.ownsRow base E size v n xs:=by
 unfold q6v World.ownsRow tyOf jmi
 rw [Nat.mod_eq_of_lt h]
 simp only [h,if_true]
theorem jd8 (w:World) (base E size:Nat):q6v w base E size (.slice none 0 0) 0 []:=⟨by simp,.inl ⟨rfl,rfl⟩⟩
theorem q6v.lt {w:World} {base E size n:Nat} {v:Value} {xs:List Value} (h:q6v w base E size v n xs) : ∀k,v.ownBlock=some k->base<=k/\k<w.heap.size:=by
 intro k hk
 rcases h.2 with ⟨rfl,_⟩|⟨g,cap,cur,rfl,hb,hg,_⟩
 ·simp [Value.ownBlock] at hk
 ·simp [Value.ownBlock] at hk
  subst hk
  exact ⟨hb,(Array.getElem?_eq_some_iff.1 hg).1⟩
theorem q6v.cells {w:World} {base E size n:Nat} {v:Value} {xs:List Value} (h:q6v w base E size v n xs) {g:Nat} (hg:v.ownBlock=some g) : ∀j u,xs[j]? = some u->w.cell? ((⟨g,0,none⟩:Addr).add j)=some u:=by
 intro j u hu
 rcases h.2 with ⟨rfl,_⟩|⟨g',cap,cur,rfl,_,hgg,_,_,_,htake⟩
 ·simp [Value.ownBlock] at hg
 ·simp [Value.ownBlock] at hg
  subst hg
  have hadd:(⟨g',0,none⟩:Addr).add j=⟨g',j,none⟩:=by unfold Addr.add;split<;>simp_all
  rw [hadd,cell_of_row w g' j cur _ _ hgg]
  rw [<-htake,List.getElem?_take] at hu
  split at hu
  ·simpa using hu
  ·cases hu
theorem q6v.alloc {w:World} {base E size n:Nat} {v:Value} {xs:List Value} (h:q6v w base E size v n xs) (o:Obj):q6v (w.alloc o) base E size v n xs:=by
 refine ⟨h.1,?_⟩
 rcases h.2 with hn|⟨g,cap,cur,hv,hb,hgg,rest⟩
 ·exact .inl hn
 ·exact .inr ⟨g,cap,cur,hv,hb,(Below.heap_alloc w o g (Array.getElem?_eq_some_iff.1 hgg).1).trans hgg,rest⟩
structure Kp (F:Fr) (σ:St) (e:Env) (w:World):Prop where
 keep : ∀b,F.K b->w.heap[b]? = F.wk.heap[b]?
 wkLe:F.wk.heap.size<=w.heap.size
 boxK : ∀β,(σ.box β).isSome=true->¬ F.K (e.m β)
 rowK : ∀t r b,σ.row t=some r->(e.rv t r.gen).ownBlock=some b->¬ F.K b
 pcK : ∀b o,e.Pc b o->F.Pc b o \/ ¬ F.K b
 cellK : ∀b o,F.Pc b o->w.cell? ⟨b,o,none⟩=F.wk.cell? ⟨b,o,none⟩
 boxM : ∀β a,F.m0 β=some a->e.m β=a
 rowM : ∀t v r,F.r0 t=some v->σ.row t=some r->e.rv t r.gen=v
theorem Fr.r0lt (F:Fr) {t:Nat} (h:t<2000000) : ∀v,¬ F.r0 t=some v:=fun v hv=>absurd (F.r0ge t v hv) (Nat.not_le.2 h)
theorem Fr.r0n (F:Fr) {t:Nat} (h:t<F.n) : ∀v,¬ F.r0 t=some v:=fun v hv=>absurd (F.r0le t v hv) (Nat.not_le.2 h)
theorem Kp.lt {F:Fr} {σ:St} {e:Env} {w:World} (h:Kp F σ e w) {b:Nat} (hb:F.K b):b<w.heap.size:=Nat.lt_of_lt_of_le (F.kLt b hb) h.wkLe
structure Hp (F:Fr) (σ:St) (e:Env) (w:World):Prop where
 below:Below F.w0.heap.size F.w0 w
 pc0 : ∀b o,F.Pc b o->e.Pc b o
 pcNew : ∀b o,e.Pc b o->F.Pc b o\/F.w0.heap.size<=b
 pcLt : ∀b o,e.Pc b o->b<w.heap.size
 boxes : ∀β T cs,σ.box β=some (T,cs)->F.w0.heap.size<=e.m β/\quv e σ w (e.m β) T cs
 boxPc : ∀β,(σ.box β).isSome=true->∀o,¬ e.Pc (e.m β) o
 boxNe : ∀β β',(σ.box β).isSome=true->(σ.box β').isSome=true->β≠β'->e.m β≠e.m β'
 rows : ∀t r,σ.row t=some r->(∀x∈r.xs,x.length=r.sz)/\∃ cells:List Value,q6v w F.w0.heap.size r.E r.sz (e.rv t r.gen) r.xs.length cells/\q0b (DatRep e.Pc w) cells r.xs.flatten/\∀u∈cells,u.oneCell'=true
 rowPro : ∀t r b,σ.row t=some r->r.wr=false->(e.rv t r.gen).ownBlock=some b->∀o,o<r.xs.length*r.sz->e.Pc b o
 rowPc : ∀t r b,σ.row t=some r->(e.rv t r.gen).ownBlock=some b->∀o,e.Pc b o->r.wr=false/\o<r.xs.length*r.sz
 rowBox : ∀t r b β,σ.row t=some r->(e.rv t r.gen).ownBlock=some b->(σ.box β).isSome=true->e.m β≠b
 rowNe : ∀t t' r r' b,t≠t'->σ.row t=some r->σ.row t'=some r'->(e.rv t r.gen).ownBlock=some b->(e.rv t' r'.gen).ownBlock≠some b
 kp:Kp F σ e w
structure R (F:Fr) (σ:St) (e:Env) (a:Act) (w:World):Prop where
 defers:a.defers = []
 size:a.tmps.size=F.n
 slots : ∀i,q1l e σ w (a.tmps.getD i undef) (σ.slot i)
 hp:Hp F σ e w
def upd {α:Type} (f:Nat->α) (i:Nat) (x:α):Nat->α:=fun j=>if j=i then x else f j
theorem q0n {α:Type} (f:Nat->α) (i:Nat) (x:α):upd f i x i=x:=if_pos rfl
theorem q3e {α:Type} (f:Nat->α) {i j:Nat} (x:α) (h:j≠i):upd f i x j=f j:=if_neg h
def St.put (σ:St) (d:Option Nat) (x:D):St:=match d with
 | some i=>{ σ with slot:=upd σ.slot i x }
 | none=>σ
theorem Hp.put {F:Fr} {σ:St} {e:Env} {w:World} (h:Hp F σ e w) (d:Option Nat) (x:D):Hp F (σ.put d x) e w:=by
 cases d with
 | none=>exact h
 | some i=>exact ⟨h.below,h.pc0,h.pcNew,h.pcLt,h.boxes,h.boxPc,h.boxNe,h.rows,h.rowPro,h.rowPc,h.rowBox,h.rowNe,⟨h.kp.keep,h.kp.wkLe,h.kp.boxK,h.kp.rowK,h.kp.pcK,h.kp.cellK,h.kp.boxM,h.kp.rowM⟩⟩
theorem q1l.slot {e:Env} {σ σ':St} {w:World} {v:Value} {x:D} (hb:σ'.box=σ.box) (hr:σ'.row=σ.row) (h:q1l e σ w v x):q1l e σ' w v x :=
 h.fwd ⟨fun _ _ h=>h,fun _ _ _=>rfl,fun _ h=>⟨by rw [hb];exact h,rfl⟩,fun t r g h hg=>⟨⟨r,by rw [hr];exact h,hg,rfl⟩,rfl⟩⟩
theorem R.next {F:Fr} {σ σ':St} {e e':Env} {a:Act} {w w':World} (h:R F σ e a w) (hf:Fwd e σ w e' σ' w') (hh:Hp F σ' e' w') (hs:σ'.slot=σ.slot)
  (d:Option Nat) (hd : ∀k,d=some k->k<F.n) (v:Value) (x:D) (hx:q1l e' σ' w' v x):R F (σ'.put d x) e' (a.put d v) w':=by
 have hb:(σ'.put d x).box=σ'.box/\(σ'.put d x).row=σ'.row:=by cases d<;>exact ⟨rfl,rfl⟩
 refine ⟨?_,?_,fun i=>?_,hh.put d x⟩
 ·cases d with
  | none=>exact h.defers
  | some k=>exact h.defers
 ·cases d with
  | none=>exact h.size
  | some k=>show (a.tmps.setIfInBounds k v).size=_;rw [Array.size_setIfInBounds];exact h.size
 ·refine q1l.slot hb.1 hb.2 ?_
  cases d with
  | none=>rw [show (σ'.put none x).slot=σ.slot from hs];exact (h.slots i).fwd hf
  | some k =>
   show q1l e' σ' w' ((a.tmps.setIfInBounds k v).getD i undef) (upd σ'.slot k x i)
   by_cases hik:i=k
   ·subst hik
    rw [q0n]
    have:(a.tmps.setIfInBounds i v).getD i undef=v:=by
     have hi':i<a.tmps.size:=by rw [h.size];exact hd i rfl
     simp [Array.getD,hi']
    rw [this];exact hx
   ·rw [q3e _ _ hik,hs]
    have:(a.tmps.setIfInBounds k v).getD i undef=a.tmps.getD i undef:=by
     simp only [Array.getD_eq_getD_getElem?,Array.getElem?_setIfInBounds_ne (Ne.symm hik)]
    rw [this];exact (h.slots i).fwd hf
end Go.Proofs.YtlkpgcifpnppeaaGreatDoor.AM
namespace Go.Proofs.YtlkpgcifpnppeaaGreatDoor.AM
open Go.RowKit
variable {F:Fr} {σ:St} {e:Env} {w:World}
theorem Hp.sizeLe (h:Hp F σ e w):F.w0.heap.size<=w.heap.size:=h.below.size
theorem q39 {w:World} {g:Nat} {o:Obj} (h:w.heap[g]? = some o):g<w.heap.size:=(Array.getElem?_eq_some_iff.1 h).1
theorem isSome_some {α:Type} {o:Option α} {x:α} (h:o=some x):o.isSome=true:=by rw [h];rfl
theorem Hp.boxLt (h:Hp F σ e w) {β:Nat} (hb:(σ.box β).isSome=true):e.m β<w.heap.size:=by
 obtain ⟨⟨T,cs⟩,hx⟩:=Option.isSome_iff_exists.1 hb
 exact (h.boxes β T cs hx).2.lt
theorem Hp.rowLt (h:Hp F σ e w) {t b:Nat} {r:Row} (hr:σ.row t=some r) (hb:(e.rv t r.gen).ownBlock=some b):F.w0.heap.size<=b/\b<w.heap.size:=by
 obtain ⟨_,cells,h1,_⟩:=h.rows t r hr
 exact h1.lt b hb
theorem Hp.grow (h:Hp F σ e w) {w':World} (hb:Below w.heap.size w w'):Fwd e σ w e σ w'/\Hp F σ e w':=by
 have hf:Fwd e σ w e σ w':=⟨fun _ _ h=>h,fun b o hp=>hb.cell (p:=⟨b,o,none⟩) (h.pcLt b o hp),fun _ h=>⟨h,rfl⟩,fun t r g h hg=>⟨⟨r,h,hg,rfl⟩,rfl⟩⟩
 refine ⟨hf,h.below.trans (hb.mono h.sizeLe),h.pc0,h.pcNew,fun b o hp=>Nat.lt_of_lt_of_le (h.pcLt b o hp) hb.size,fun β T cs hx=>?_,h.boxPc,h.boxNe,fun t r hr=>?_,h.rowPro,h.rowPc,h.rowBox,h.rowNe,⟨fun k hk=>(hb.block k (h.kp.lt hk)).trans (h.kp.keep k hk),Nat.le_trans h.kp.wkLe hb.size,h.kp.boxK,h.kp.rowK,h.kp.pcK,fun b o hp=>(hf.cell b o (h.pc0 b o hp)).trans (h.kp.cellK b o hp),h.kp.boxM,h.kp.rowM⟩⟩
 ·obtain ⟨h0,h1⟩:=h.boxes β T cs hx
  exact ⟨h0,h1.fwd hf (hb.block _ h1.lt)⟩
 ·obtain ⟨hs,cells,h1,h2,h2'⟩:=h.rows t r hr
  refine ⟨hs,cells,⟨h1.1,?_⟩,h2.mono fun _ _=>DatRep.mono (fun _ _ h=>h) (fun b o hp=>hb.cell (p:=⟨b,o,none⟩) (h.pcLt b o hp)),h2'⟩
  rcases h1.2 with h3|⟨g,cap,cur,h3,h4,h5,h6⟩
  ·exact .inl h3
  ·exact .inr ⟨g,cap,cur,h3,h4,(hb.block g (q39 h5)).trans h5,h6⟩
theorem Hp.drew (h:Hp F σ e w):Fwd e σ w e σ w.drew/\Hp F σ e w.drew:=h.grow (Below.refl _ _).drew
theorem Hp.more (h:Hp F σ e w) (N:Nat->Nat->Prop) (h1 : ∀b o,N b o->F.w0.heap.size<=b/\b<w.heap.size) (h2 : ∀b o,N b o->∀β,(σ.box β).isSome=true->e.m β≠b) (h3 : ∀b o,N b o->∀t r,σ.row t=some r->(e.rv t r.gen).ownBlock≠some b) (h4 : ∀b o,N b o->¬ F.K b) :
  Fwd e σ w { e with Pc:=fun b o=>e.Pc b o\/N b o } σ w/\Hp F σ { e with Pc:=fun b o=>e.Pc b o\/N b o } w:=by
 have hf:Fwd e σ w { e with Pc:=fun b o=>e.Pc b o\/N b o } σ w:=⟨fun _ _ h=>Or.inl h,fun _ _ _=>rfl,fun _ h=>⟨h,rfl⟩,fun t r g h hg=>⟨⟨r,h,hg,rfl⟩,rfl⟩⟩
 refine ⟨hf,h.below,fun b o hp=>Or.inl (h.pc0 b o hp),?_,?_,fun β T cs hx=>?_,?_,h.boxNe,fun t r hr=>?_,fun t r b hr hw hb o ho=>Or.inl (h.rowPro t r b hr hw hb o ho),?_,h.rowBox,h.rowNe,⟨h.kp.keep,h.kp.wkLe,h.kp.boxK,h.kp.rowK,fun b o hp=>hp.elim (h.kp.pcK b o) (fun hN=>Or.inr (h4 b o hN)),h.kp.cellK,h.kp.boxM,h.kp.rowM⟩⟩
 ·rintro b o (hp|hp)
  ·exact h.pcNew b o hp
  ·exact Or.inr (h1 b o hp).1
 ·rintro b o (hp|hp)
  ·exact h.pcLt b o hp
  ·exact (h1 b o hp).2
 ·obtain ⟨h0,h1⟩:=h.boxes β T cs hx
  exact ⟨h0,h1.fwd hf rfl⟩
 ·rintro β hβ o (hp|hp)
  ·exact h.boxPc β hβ o hp
  ·exact h2 _ _ hp β hβ rfl
 ·obtain ⟨hs,cells,hc,hd,h1⟩:=h.rows t r hr
  exact ⟨hs,cells,hc,hd.mono fun _ _=>DatRep.mono (fun _ _ h=>Or.inl h) (fun _ _ _=>rfl),h1⟩
 ·rintro t r b hr hb o (hp|hp)
  ·exact h.rowPc t r b hr hb o hp
  ·exact absurd hb (h3 _ _ hp t r hr)
theorem Hp.allocO (h:Hp F σ e w) (i T:Nat) (o:Obj) (cs:List C) (hi:σ.box i=none) (hi2:i<1000000) (hbx:Fwd e σ w { e with m:=upd e.m i w.heap.size } { σ with box:=upd σ.box i (some (T,cs)) } (w.alloc o)->quv { e with m:=upd e.m i w.heap.size } { σ with box:=upd σ.box i (some (T,cs)) } (w.alloc o) w.heap.size T cs) :
  Fwd e σ w { e with m:=upd e.m i w.heap.size } { σ with box:=upd σ.box i (some (T,cs)) } (w.alloc o) /\
  Hp F { σ with box:=upd σ.box i (some (T,cs)) } { e with m:=upd e.m i w.heap.size } (w.alloc o):=by
 have hb:Below w.heap.size w (w.alloc o):=(Below.refl _ _).alloc (Nat.le_refl _) _
 have hne : ∀β,(σ.box β).isSome=true->β≠i:=fun β hβ e=>by subst e;rw [hi] at hβ;cases hβ
 have hf:Fwd e σ w { e with m:=upd e.m i w.heap.size } { σ with box:=upd σ.box i (some (T,cs)) } (w.alloc o) :=
  ⟨fun _ _ h=>h,fun b o hp=>hb.cell (p:=⟨b,o,none⟩) (h.pcLt b o hp),fun β hβ=>by
   show ((upd σ.box i (some (T,cs))) β).isSome=true/\upd e.m i w.heap.size β=e.m β
   rw [q3e _ _ (hne β hβ),q3e _ _ (hne β hβ)];exact ⟨hβ,rfl⟩,fun t r g h hg=>⟨⟨r,h,hg,rfl⟩,rfl⟩⟩
 have dom : ∀β,((upd σ.box i (some (T,cs))) β).isSome=true->β=i\/(β≠i/\(σ.box β).isSome=true):=fun β hβ=>by
  by_cases hβi:β=i
  ·exact Or.inl hβi
  ·rw [q3e _ _ hβi] at hβ;exact Or.inr ⟨hβi,hβ⟩
 refine ⟨hf,h.below.trans (hb.mono h.sizeLe),h.pc0,h.pcNew,fun b o hp=>Nat.lt_of_lt_of_le (h.pcLt b o hp) hb.size,fun β T' cs' hx=>?_,?_,?_,fun t r hr=>?_,h.rowPro,h.rowPc,?_,h.rowNe,⟨fun k hk=>(hb.block k (h.kp.lt hk)).trans (h.kp.keep k hk),Nat.le_trans h.kp.wkLe hb.size,fun β hβ hk=>?_,h.kp.rowK,h.kp.pcK,fun b o hp=>(hf.cell b o (h.pc0 b o hp)).trans (h.kp.cellK b o hp),fun β a ha=>(q3e _ _ (by have:=F.m0ge β a ha;omega)).trans (h.kp.boxM β a ha),h.kp.rowM⟩⟩
 ·by_cases hβi:β=i
  ·subst hβi
   rw [show ({ σ with box:=upd σ.box β (some (T,cs)) } : St).box β=some (T,cs) from q0n _ _ _] at hx
   simp only [Option.some.injEq,Prod.mk.injEq] at hx
   obtain ⟨rfl,rfl⟩:=hx
   refine ⟨?_,?_⟩
   ·show F.w0.heap.size<=upd e.m β w.heap.size β
    rw [q0n];exact h.sizeLe
   ·have hm:({ e with m:=upd e.m β w.heap.size } : Env).m β=w.heap.size:=q0n _ _ _
    rw [hm];exact hbx hf
  ·rw [show ({ σ with box:=upd σ.box i (some (T,cs)) } : St).box β=σ.box β from q3e _ _ hβi] at hx
   obtain ⟨g0,g1⟩:=h.boxes β T' cs' hx
   have hm:({ e with m:=upd e.m i w.heap.size } : Env).m β=e.m β:=q3e _ _ hβi
   rw [hm]
   exact ⟨g0,g1.fwd hf (hb.block _ g1.lt)⟩
 ·intro β hβ o hp
  have hlt:=h.pcLt _ _ hp
  rcases dom β hβ with rfl|⟨hβi,hβ'⟩
  ·rw [show ({ e with m:=upd e.m β w.heap.size } : Env).m β=w.heap.size from q0n _ _ _] at hlt;omega
  ·rw [show ({ e with m:=upd e.m i w.heap.size } : Env).m β=e.m β from q3e _ _ hβi] at hp
   exact h.boxPc β hβ' o hp
 ·intro β β' hβ hβ' hn
  show upd e.m i w.heap.size β≠upd e.m i w.heap.size β'
  rcases dom β hβ with rfl|⟨hβi,hβs⟩
  ·rcases dom β' hβ' with rfl|⟨hβi',hβs'⟩
   ·exact absurd rfl hn
   ·rw [q0n,q3e _ _ hβi'];have:=h.boxLt hβs';omega
  ·rcases dom β' hβ' with rfl|⟨hβi',hβs'⟩
   ·rw [q0n,q3e _ _ hβi];have:=h.boxLt hβs;omega
   ·rw [q3e _ _ hβi,q3e _ _ hβi'];exact h.boxNe β β' hβs hβs' hn
 ·obtain ⟨hs,cells,g1,g2,g3⟩:=h.rows t r hr
  exact ⟨hs,cells,g1.alloc _,g2.mono fun _ _=>DatRep.mono (fun _ _ h=>h) (fun b o hp=>hb.cell (p:=⟨b,o,none⟩) (h.pcLt b o hp)),g3⟩
 ·intro t r b β hr hb' hβ
  show upd e.m i w.heap.size β≠b
  have hlt:=h.rowLt hr hb'
  rcases dom β hβ with rfl|⟨hβi,hβs⟩
  ·rw [q0n];omega
  ·rw [q3e _ _ hβi];exact h.rowBox t r b β hr hb' hβs
 ·have hk':F.K (upd e.m i w.heap.size β):=hk
  rcases dom β hβ with rfl|⟨hβi,hβs⟩
  ·rw [q0n] at hk';exact Nat.lt_irrefl _ (h.kp.lt hk')
  ·rw [q3e _ _ hβi] at hk';exact h.kp.boxK β hβs hk'
theorem Hp.alloc (h:Hp F σ e w) (i T:Nat) (vs:Array Value) (cs:List C) (hi:σ.box i=none) (hi2:i<1000000) (hT:T<2199023255552) (hv:q0b (q2k e σ w) vs.toList cs) (h1 : ∀u∈vs.toList,u.oneCell'=true) :
  Fwd e σ w { e with m:=upd e.m i w.heap.size } { σ with box:=upd σ.box i (some (T,cs)) } (w.alloc (.cells vs T)) /\
  Hp F { σ with box:=upd σ.box i (some (T,cs)) } { e with m:=upd e.m i w.heap.size } (w.alloc (.cells vs T)) :=
 h.allocO i T (.cells vs T) cs hi hi2 fun hf=>Or.inl ⟨hT,vs,heap_alloc_new w _,hv.mono fun _ _=>q2k.fwd hf,h1⟩
theorem Hp.setO (h:Hp F σ e w) (β T:Nat) (cs cs':List C) (hβ:σ.box β=some (T,cs)) {w':World} (hbl:Below F.w0.heap.size F.w0 w') (hsz:w'.heap.size=w.heap.size) (hoth : ∀k,k≠e.m β->w'.heap[k]? = w.heap[k]?)
  (hcell0 : ∀b o,b≠e.m β->w'.cell? ⟨b,o,none⟩=w.cell? ⟨b,o,none⟩) (hbx:Fwd e σ w e { σ with box:=upd σ.box β (some (T,cs')) } w'->quv e { σ with box:=upd σ.box β (some (T,cs')) } w' (e.m β) T cs') :
  Fwd e σ w e { σ with box:=upd σ.box β (some (T,cs')) } w'/\Hp F { σ with box:=upd σ.box β (some (T,cs')) } e w':=by
 obtain ⟨g0,g1⟩:=h.boxes β T cs hβ
 have hs:=isSome_some hβ
 have hcell : ∀b o,e.Pc b o->w'.cell? ⟨b,o,none⟩=w.cell? ⟨b,o,none⟩:=fun b o hp =>
  hcell0 b o (fun he=>h.boxPc β hs o (by rw [<-show b=e.m β from he];exact hp))
 have dom : ∀γ,((upd σ.box β (some (T,cs'))) γ).isSome=true->(σ.box γ).isSome=true:=fun γ hγ=>by
  by_cases hγβ:γ=β
  ·subst hγβ;exact hs
  ·rw [q3e _ _ hγβ] at hγ;exact hγ
 have hf:Fwd e σ w e { σ with box:=upd σ.box β (some (T,cs')) } w':=⟨fun _ _ h=>h,hcell,fun γ hγ=>⟨by
  show ((upd σ.box β (some (T,cs'))) γ).isSome=true
  by_cases hγβ:γ=β
  ·subst hγβ;rw [q0n];rfl
  ·rw [q3e _ _ hγβ];exact hγ,rfl⟩,fun t r g h hg=>⟨⟨r,h,hg,rfl⟩,rfl⟩⟩
 refine ⟨hf,hbl,h.pc0,h.pcNew,fun b o hp=>by rw [hsz];exact h.pcLt b o hp,fun γ T' ds hx=>?_,fun γ hγ=>h.boxPc γ (dom γ hγ),fun γ γ' hγ hγ'=>h.boxNe γ γ' (dom γ hγ) (dom γ' hγ'),fun t r hr=>?_,h.rowPro,h.rowPc,fun t r b γ hr hb hγ=>h.rowBox t r b γ hr hb (dom γ hγ),h.rowNe,⟨fun k hk=>(hoth k (fun he=>h.kp.boxK β hs (by rw [<-show k=e.m β from he];exact hk))).trans (h.kp.keep k hk),by rw [hsz];exact h.kp.wkLe,fun γ hγ=>h.kp.boxK γ (dom γ hγ),h.kp.rowK,h.kp.pcK,fun b o hp=>(hcell b o (h.pc0 b o hp)).trans (h.kp.cellK b o hp),h.kp.boxM,h.kp.rowM⟩⟩
 ·by_cases hγβ:γ=β
  ·subst hγβ
   rw [show ({ σ with box:=upd σ.box γ (some (T,cs')) } : St).box γ=some (T,cs') from q0n _ _ _] at hx
   simp only [Option.some.injEq,Prod.mk.injEq] at hx
   obtain ⟨rfl,rfl⟩:=hx
   exact ⟨g0,hbx hf⟩
  ·rw [show ({ σ with box:=upd σ.box β (some (T,cs')) } : St).box γ=σ.box γ from q3e _ _ hγβ] at hx
   obtain ⟨k0,k1⟩:=h.boxes γ T' ds hx
   exact ⟨k0,k1.fwd hf (hoth _ (h.boxNe γ β (isSome_some hx) hs hγβ))⟩
 ·obtain ⟨hs',cells,k1,k2,k2'⟩:=h.rows t r hr
  refine ⟨hs',cells,⟨k1.1,?_⟩,k2.mono fun _ _=>DatRep.mono (fun _ _ h=>h) hcell,k2'⟩
  rcases k1.2 with k3|⟨g,cap,cur,k3,k4,k5,k6⟩
  ·exact .inl k3
  ·exact .inr ⟨g,cap,cur,k3,k4,(hoth g (fun he=>h.rowBox t r g β hr (by rw [k3];rfl) hs he.symm)).trans k5,k6⟩
theorem Hp.set (h:Hp F σ e w) (β T:Nat) (cs cs':List C) (vs:Array Value) (hβ:σ.box β=some (T,cs)) (hT:T<2199023255552) (hv:q0b (q2k e σ w) vs.toList cs') (h1 : ∀u∈vs.toList,u.oneCell'=true) :
  Fwd e σ w e { σ with box:=upd σ.box β (some (T,cs')) } (w.setRow (e.m β) vs)/\Hp F { σ with box:=upd σ.box β (some (T,cs')) } e (w.setRow (e.m β) vs):=by
 obtain ⟨g0,g1⟩:=h.boxes β T cs hβ
 obtain ⟨us,g2,_,_⟩:=g1.cells hT
 exact h.setO β T cs cs' hβ (below_setRow h.below g0 vs) (setRow_size ..) (fun k hk=>setRow_other w _ k vs hk) (fun b o hb=>cell_setRow_other w (e.m β) vs ⟨b,o,none⟩ hb)
  fun hf=>Or.inl ⟨hT,vs,setRow_heap w _ us vs T _ g2,hv.mono fun _ _=>q2k.fwd hf,h1⟩
end Go.Proofs.YtlkpgcifpnppeaaGreatDoor.AM
namespace Go.Proofs.YtlkpgcifpnppeaaGreatDoor.AM
open Go.RowKit
theorem q6s {P:Program} (w:World) (base:Nat) (t ty e:TypeId) (i:TypeInfo) (z:Value) (size bytes:Nat) (ht:P.underlying t=some (.slice e)) (hi:P.info? e=some i) (hz:i.zero=some z)
  (hsize:i.size=size) (hby:i.bytes=bytes) (hzs:z.cells.size=size) (hsz:0<size)
  (v:Value) (n:Nat) (xs:List Value) (hown:w.ownsRow base e size v n xs)
  (x:Value) (m:Nat) (news:List Value) (hx:(∃ a c,x = .slice (some a) m c/\∀j u,news[j]? = some u->w.cell? (a.add j)=some u)\/(∃ c,x = .slice none m c/\m=0)) (hl:news.length=m*size) (h1 : ∀u∈news,u.oneCell'=true)
  (h63:n+m<=maxLen) (hbytes:(n+m)*bytes<=140737488355328) (hbase:base<=w.heap.size) :
  ∃ v' w',(Builtin.append_ #[t,t] ty #[v,x]).run P w = .ok v' w'/\w'.ownsRow base e size v' (n+m) (xs++news)/\w.grownBy w' v.ownBlock /\
   (∀g o,v.ownBlock=some g->o<n*size->w'.cell? ⟨g,o,none⟩=w.cell? ⟨g,o,none⟩) /\
   (∀b,v'.ownBlock=some b->v.ownBlock=some b\/w.heap.size<=b):=by
 subst hsize
 subst hby
 rcases hx with ⟨a,c,rfl,hnews⟩|⟨c,rfl,rfl⟩
 ·obtain ⟨v',w',hr,h2,h3,_⟩:=run_append_own (P:=P) w base t ty e i z i.size i.bytes ht hi hz rfl rfl hzs hsz v n xs hown a m c news hl hnews h1 h63 hbytes hbase
  refine ⟨v',w',hr,h2,h3,?_⟩
  have hm63:n+m<=9223372036854775807:=by unfold maxLen at h63;omega
  rcases hown.2 with ⟨rfl,rfl⟩|⟨g,cap,cur,rfl,hbg,hg,hnc,hcm,hcs,htake⟩
  ·refine ⟨fun g o hg=>by simp [Value.ownBlock] at hg,fun b hb=>Or.inr ?_⟩
   by_cases hm:m=0
   ·subst hm
    obtain ⟨_,hq⟩:=h2
    rcases hq with ⟨rfl,_⟩|⟨g,cap,cur,rfl,h4,h5,_⟩
    ·simp [Value.ownBlock] at hb
    ·have hn:news = []:=List.eq_nil_of_length_eq_zero (by simpa using hl)
     subst hn
     have:(Builtin.append_ #[t,t] ty #[.slice none 0 0,.slice (some a) 0 c]).run P w = .ok (.slice none 0 0) w:=by
      simp [Builtin.append_,run_underlying ht,sizeOf,typeInfo,hi,Builtin.lenOf,Builtin.firstCells,loadCells,loadCellsFrom]
     rw [this] at hr
     simp at hr
   ·have hr':=run_append_nil (P:=P) w t ty e i z ht hi hz a m c news hl hnews (by omega) (by omega) (by have hb:=hbytes;simp only [Nat.zero_add] at hb;omega)
    rw [hr'] at hr
    simp only [Result.ok.injEq] at hr
    obtain ⟨rfl,rfl⟩:=hr
    simp [Value.ownBlock] at hb
    omega
  ·by_cases hroom:n+m<=cap
   ·have hfit:n*i.size+news.length<=cur.size:=by rw [hl,hcs,<-Nat.add_mul];exact Nat.mul_le_mul_right _ hroom
    have hr':=run_append_room (P:=P) w t ty e i ht hi g n cap cur hg a m c news hl hnews h1 hroom hfit
    rw [hr'] at hr
    simp only [Result.ok.injEq] at hr
    obtain ⟨rfl,rfl⟩:=hr
    refine ⟨fun g' o hg' ho=>?_,fun b hb=>Or.inl hb⟩
    simp only [Value.ownBlock,Option.some.injEq] at hg'
    subst hg'
    rw [cell_setRow_same w _ o cur _ _ _ hg,cell_of_row w _ o cur _ _ hg]
    have hlen:o<(cur.toList.take (n*i.size)).length:=by
     rw [List.length_take,Array.length_toList,hcs]
     have:=Nat.mul_le_mul_right i.size hnc
     omega
    simp only [List.getElem?_toArray,List.append_assoc]
    rw [List.getElem?_append_left hlen,List.getElem?_take_of_lt ho]
    simp
   ·have holds : ∀j u,xs[j]? = some u->w.cell? ((⟨g,0,none⟩:Addr).add j)=some u:=hown.cells (g:=g) rfl
    have hr':=run_append_grow (P:=P) w t ty e i z ht hi hz ⟨g,0,none⟩ n cap xs hown.1 holds a m c news hl hnews (by omega) (by omega) (growslice_fits (by omega) hbytes)
    rw [hr'] at hr
    simp only [Result.ok.injEq] at hr
    obtain ⟨rfl,rfl⟩:=hr
    refine ⟨fun g' o hg' ho=>?_,fun b hb=>Or.inr ?_⟩
    ·simp only [Value.ownBlock,Option.some.injEq] at hg'
     subst hg'
     exact World.cell?_alloc_lt w.drew _ ⟨_,o,none⟩ (q39 hg)
    ·simp [Value.ownBlock] at hb
     omega
 ·have hn:news = []:=List.eq_nil_of_length_eq_zero (by simpa using hl)
  subst hn
  refine ⟨v,w,?_,by simpa using hown,World.grownBy.refl _ _,fun _ _ _ _=>rfl,fun b hb=>Or.inl hb⟩
  rcases hown.2 with ⟨rfl,rfl⟩|⟨g,cap,cur,rfl,_,_,hnc,_⟩
  ·simp [Builtin.append_,run_underlying ht,sizeOf,typeInfo,hi,Builtin.lenOf,Builtin.firstCells]
  ·simp [Builtin.append_,run_underlying ht,sizeOf,typeInfo,hi,Builtin.lenOf,Builtin.firstCells,hnc,storeCells]
def qh8 {α:Type} (f:Nat->Nat->α) (i j:Nat) (x:α):Nat->Nat->α:=fun a b=>if a=i/\b=j then x else f a b
theorem q0t {α:Type} (f:Nat->Nat->α) (i j:Nat) (x:α):qh8 f i j x i j=x:=if_pos ⟨rfl,rfl⟩
theorem j49 {α:Type} (f:Nat->Nat->α) {i j a b:Nat} (x:α) (h:a≠i\/b≠j):qh8 f i j x a b=f a b:=if_neg (fun hh=>by rcases h with h|h;exact h hh.1;exact h hh.2)
variable {F:Fr} {σ:St} {e:Env} {w:World}
def Row.pro (r:Row) (v:Value) (b o:Nat):Prop:=r.wr=false/\v.ownBlock=some b/\o<r.xs.length*r.sz
theorem Hp.rowNext (h:Hp F σ e w) {w':World} (t:Nat) (r':Row) (v v':Value) (cells:List Value)
  (hold:(∃ r,σ.row t=some r/\v=e.rv t r.gen/\r'.sz=r.sz/\(r.wr=false->r'.wr=false/\r.xs.length*r.sz<=r'.xs.length*r'.sz)/\((r'.gen=r.gen/\v'=v)\/r'.gen=r.gen+1))\/(σ.row t=none/\v = .slice none 0 0))
  (hs : ∀x∈r'.xs,x.length=r'.sz)
  (hown:q6v w' F.w0.heap.size r'.E r'.sz v' r'.xs.length cells) (hgr:w.grownBy w' v.ownBlock)
  (hkeep : ∀r,σ.row t=some r->r.wr=false->∀g o,v.ownBlock=some g->o<r.xs.length*r.sz->w'.cell? ⟨g,o,none⟩=w.cell? ⟨g,o,none⟩)
  (hblk : ∀b,v'.ownBlock=some b->v.ownBlock=some b\/w.heap.size<=b)
  (hd:q0b (DatRep e.Pc w) cells r'.xs.flatten) (h1 : ∀u∈cells,u.oneCell'=true) (hM : ∀v0,F.r0 t=some v0->v'=v0) :
  Fwd e σ w { e with rv:=qh8 e.rv t r'.gen v',Pc:=fun b o=>e.Pc b o\/r'.pro v' b o } { σ with row:=upd σ.row t (some r') } w' /\
  Hp F { σ with row:=upd σ.row t (some r') } { e with rv:=qh8 e.rv t r'.gen v',Pc:=fun b o=>e.Pc b o\/r'.pro v' b o } w':=by
 have hvb : ∀b,v.ownBlock=some b->F.w0.heap.size<=b/\b<w.heap.size:=fun b hb=>by
  rcases hold with ⟨r,hr,rfl,_⟩|⟨_,rfl⟩
  ·exact h.rowLt hr hb
  ·simp [Value.ownBlock] at hb
 have hvbox : ∀b β,v.ownBlock=some b->(σ.box β).isSome=true->e.m β≠b:=fun b β hb hβ=>by
  rcases hold with ⟨r,hr,rfl,_⟩|⟨_,rfl⟩
  ·exact h.rowBox t r b β hr hb hβ
  ·simp [Value.ownBlock] at hb
 have hvrow : ∀b t' r',t'≠t->σ.row t'=some r'->v.ownBlock=some b->(e.rv t' r'.gen).ownBlock≠some b:=fun b t' r' hne hr' hb=>by
  rcases hold with ⟨r,hr,rfl,_⟩|⟨_,rfl⟩
  ·exact h.rowNe t t' r r' b (Ne.symm hne) hr hr' hb
  ·simp [Value.ownBlock] at hb
 have hcell : ∀b o,e.Pc b o->w'.cell? ⟨b,o,none⟩=w.cell? ⟨b,o,none⟩:=fun b o hp=>by
  by_cases hb:v.ownBlock=some b
  ·rcases hold with ⟨r,hr,rfl,_⟩|⟨_,rfl⟩
   ·exact hkeep r hr (h.rowPc t r b hr hb o hp).1 b o hb (h.rowPc t r b hr hb o hp).2
   ·simp [Value.ownBlock] at hb
  ·exact World.cell?_of_block (hgr.block b (h.pcLt b o hp) (fun hh=>hb hh.symm))
 have hrv : ∀t' r g,σ.row t'=some r->g<=r.gen->qh8 e.rv t r'.gen v' t' g=e.rv t' g:=fun t' r g hr hg=>by
  by_cases ht:t'=t
  ·subst ht
   rcases hold with ⟨r0,hr0,hv,_,_,hgen⟩|⟨hn,_⟩
   ·rw [hr0] at hr;cases hr
    rcases hgen with ⟨hg1,hg2⟩|hg1
    ·by_cases hgg:g=r'.gen
     ·subst hgg;rw [q0t,hg2,hv,hg1]
     ·exact j49 _ _ (Or.inr hgg)
    ·exact j49 _ _ (Or.inr (by omega))
   ·rw [hn] at hr;cases hr
  ·exact j49 _ _ (Or.inl ht)
 have hf:Fwd e σ w { e with rv:=qh8 e.rv t r'.gen v',Pc:=fun b o=>e.Pc b o\/r'.pro v' b o } { σ with row:=upd σ.row t (some r') } w' :=
  ⟨fun _ _ h=>Or.inl h,hcell,fun _ hβ=>⟨hβ,rfl⟩,fun t' r g hr hg=>⟨by
   by_cases ht:t'=t
   ·subst ht
    refine ⟨r',q0n _ _ _,?_⟩
    rcases hold with ⟨r0,hr0,_,hsz,_,hgen⟩|⟨hn,_⟩
    ·rw [hr0] at hr;cases hr;exact ⟨by omega,hsz⟩
    ·rw [hn] at hr;cases hr
   ·exact ⟨r,(q3e _ _ ht).trans hr,hg,rfl⟩,hrv t' r g hr hg⟩⟩
 have rowc : ∀t' r,upd σ.row t (some r') t'=some r->(t'=t/\r=r')\/(t'≠t/\σ.row t'=some r):=fun t' r hr=>by
  by_cases ht:t'=t
  ·subst ht;rw [q0n] at hr;exact Or.inl ⟨rfl,(Option.some.inj hr).symm⟩
  ·rw [q3e _ _ ht] at hr;exact Or.inr ⟨ht,hr⟩
 have hbase : ∀b,v'.ownBlock=some b->F.w0.heap.size<=b/\b<w'.heap.size:=fun b hb=>hown.lt b hb
 have hvK : ∀b,v.ownBlock=some b->¬ F.K b:=fun b hb=>by
  rcases hold with ⟨r,hr,rfl,_⟩|⟨_,rfl⟩
  ·exact h.kp.rowK t r b hr hb
  ·simp [Value.ownBlock] at hb
 have hvK' : ∀b,v'.ownBlock=some b->¬ F.K b:=fun b hb hk=>by
  rcases hblk b hb with h1|h1
  ·exact hvK b h1 hk
  ·have:=h.kp.lt hk;omega
 refine ⟨hf,h.below.grown hgr h.sizeLe (fun k hk=>(hvb k hk).1),fun b o hp=>Or.inl (h.pc0 b o hp),?_,?_,fun β T cs hx=>?_,?_,h.boxNe,fun t' r hr=>?_,?_,?_,?_,?_,⟨fun k hk=>(hgr.block k (h.kp.lt hk) (fun hh=>hvK k hh.symm hk)).trans (h.kp.keep k hk),Nat.le_trans h.kp.wkLe hgr.size,h.kp.boxK,fun t' r b hr hb=>?_,fun b o hp=>hp.elim (h.kp.pcK b o) (fun hN=>Or.inr (hvK' b hN.2.1)),fun b o hp=>(hcell b o (h.pc0 b o hp)).trans (h.kp.cellK b o hp),h.kp.boxM,fun t' v0 r hr0 hr=>?_⟩⟩
 ·rintro b o (hp|hp)
  ·exact h.pcNew b o hp
  ·exact Or.inr (hbase b hp.2.1).1
 ·rintro b o (hp|hp)
  ·exact Nat.lt_of_lt_of_le (h.pcLt b o hp) hgr.size
  ·exact (hbase b hp.2.1).2
 ·obtain ⟨h0,g1⟩:=h.boxes β T cs hx
  exact ⟨h0,g1.fwd hf (hgr.block _ g1.lt (fun hh=>hvbox _ β hh.symm (isSome_some hx) rfl))⟩
 ·rintro β hβ o (hp|hp)
  ·exact h.boxPc β hβ o hp
  ·rcases hblk _ hp.2.1 with hb|hb
   ·exact hvbox _ β hb hβ rfl
   ·have:=h.boxLt hβ;exact absurd hb (by show ¬ w.heap.size<=e.m β;omega)
 ·rcases rowc t' r hr with ⟨rfl,rfl⟩|⟨ht,hr'⟩
  ·refine ⟨hs,cells,?_,hd.mono fun _ _=>DatRep.mono (fun _ _ h=>Or.inl h) hcell,h1⟩
   show q6v w' F.w0.heap.size r.E r.sz (qh8 e.rv t' r.gen v' t' r.gen) r.xs.length cells
   rw [q0t]
   exact hown
  ·obtain ⟨hs',cs,k1,k2,k2'⟩:=h.rows t' r hr'
   refine ⟨hs',cs,?_,k2.mono fun _ _=>DatRep.mono (fun _ _ h=>Or.inl h) hcell,k2'⟩
   show q6v w' F.w0.heap.size r.E r.sz (qh8 e.rv t r'.gen v' t' r.gen) r.xs.length cs
   rw [hrv t' r r.gen hr' (Nat.le_refl _)]
   refine ⟨k1.1,?_⟩
   rcases k1.2 with k3|⟨g,cap,cur,k3,k4,k5,k6⟩
   ·exact .inl k3
   ·exact .inr ⟨g,cap,cur,k3,k4,(hgr.block g (q39 k5) (fun hh=>hvrow g t' r ht hr' hh.symm (by rw [k3];rfl))).trans k5,k6⟩
 ·intro t' r b hr hw hb o ho
  rcases rowc t' r hr with ⟨rfl,rfl⟩|⟨ht,hr'⟩
  ·have hb':(qh8 e.rv t' r.gen v' t' r.gen).ownBlock=some b:=hb
   rw [q0t] at hb'
   exact Or.inr ⟨hw,hb',ho⟩
  ·have hb':(qh8 e.rv t r'.gen v' t' r.gen).ownBlock=some b:=hb
   rw [hrv t' r r.gen hr' (Nat.le_refl _)] at hb'
   exact Or.inl (h.rowPro t' r b hr' hw hb' o ho)
 ·intro t' r b hr hb o hp
  rcases rowc t' r hr with ⟨rfl,rfl⟩|⟨ht,hr'⟩
  ·have hb':(qh8 e.rv t' r.gen v' t' r.gen).ownBlock=some b:=hb
   rw [q0t] at hb'
   rcases hp with hp|hp
   ·rcases hblk b hb' with hv|hv
    ·rcases hold with ⟨r0,hr0,rfl,_,hw,_⟩|⟨_,rfl⟩
     ·have h5:=h.rowPc t' r0 b hr0 hv o hp
      exact ⟨(hw h5.1).1,Nat.lt_of_lt_of_le h5.2 (hw h5.1).2⟩
     ·simp [Value.ownBlock] at hv
    ·have:=h.pcLt b o hp;omega
   ·exact ⟨hp.1,hp.2.2⟩
  ·have hb':(qh8 e.rv t r'.gen v' t' r.gen).ownBlock=some b:=hb
   rw [hrv t' r r.gen hr' (Nat.le_refl _)] at hb'
   rcases hp with hp|hp
   ·exact h.rowPc t' r b hr' hb' o hp
   ·rcases hblk b hp.2.1 with hv|hv
    ·exact absurd hb' (hvrow b t' r ht hr' hv)
    ·have:=(h.rowLt hr' hb').2;omega
 ·intro t' r b β hr hb hβ
  rcases rowc t' r hr with ⟨rfl,rfl⟩|⟨ht,hr'⟩
  ·have hb':(qh8 e.rv t' r.gen v' t' r.gen).ownBlock=some b:=hb
   rw [q0t] at hb'
   rcases hblk b hb' with hv|hv
   ·exact hvbox b β hv hβ
   ·have:=h.boxLt hβ;show e.m β≠b;omega
  ·have hb':(qh8 e.rv t r'.gen v' t' r.gen).ownBlock=some b:=hb
   rw [hrv t' r r.gen hr' (Nat.le_refl _)] at hb'
   exact h.rowBox t' r b β hr' hb' hβ
 ·intro t1 t2 r1 r2 b hne hr1 hr2 hb
  have key : ∀t' r,t'≠t->σ.row t'=some r->v'.ownBlock=some b->(e.rv t' r.gen).ownBlock≠some b:=fun t' r ht hr hb'=>by
   rcases hblk b hb' with hv|hv
   ·exact hvrow b t' r ht hr hv
   ·intro hh;have:=(h.rowLt hr hh).2;omega
  have hb':(qh8 e.rv t r'.gen v' t1 r1.gen).ownBlock=some b:=hb
  show (qh8 e.rv t r'.gen v' t2 r2.gen).ownBlock≠some b
  rcases rowc t1 r1 hr1 with ⟨rfl,rfl⟩|⟨ht1,hr1'⟩
  ·rw [q0t] at hb'
   rcases rowc t2 r2 hr2 with ⟨rfl,rfl⟩|⟨ht2,hr2'⟩
   ·exact absurd rfl hne
   ·rw [hrv t2 r2 r2.gen hr2' (Nat.le_refl _)];exact key t2 r2 ht2 hr2' hb'
  ·rw [hrv t1 r1 r1.gen hr1' (Nat.le_refl _)] at hb'
   rcases rowc t2 r2 hr2 with ⟨rfl,rfl⟩|⟨ht2,hr2'⟩
   ·rw [q0t];exact fun hh=>key t1 r1 ht1 hr1' hh hb'
   ·rw [hrv t2 r2 r2.gen hr2' (Nat.le_refl _)];exact h.rowNe t1 t2 r1 r2 b hne hr1' hr2' hb'
 ·have hb':(qh8 e.rv t r'.gen v' t' r.gen).ownBlock=some b:=hb
  rcases rowc t' r hr with ⟨rfl,rfl⟩|⟨ht,hr'⟩
  ·rw [q0t] at hb';exact hvK' b hb'
  ·rw [hrv t' r r.gen hr' (Nat.le_refl _)] at hb';exact h.kp.rowK t' r b hr' hb'
 ·rcases rowc t' r hr with ⟨rfl,rfl⟩|⟨ht,hr'⟩
  ·show qh8 e.rv t' r.gen v' t' r.gen=v0
   rw [q0t];exact hM v0 hr0
  ·show qh8 e.rv t r'.gen v' t' r.gen=v0
   rw [hrv t' r r.gen hr' (Nat.le_refl _)];exact h.kp.rowM t' v0 r hr0 hr'
theorem q8s {α:Type} {sz:Nat} : ∀(xs:List (List α)),(∀x∈xs,x.length=sz)->∀(k j:Nat) (hk:k<xs.length) (hj:j<sz),xs.flatten[k*sz+j]? = (xs[k])[j]?
 | [],_,k,_,hk,_=>absurd hk (by simp)
 | x::xs,hs,0,j,_,hj=>by
  have hx:=hs x (List.mem_cons_self ..)
  simp only [List.flatten_cons,Nat.zero_mul,Nat.zero_add,List.getElem_cons_zero]
  rw [List.getElem?_append_left (by omega)]
 | x::xs,hs,k+1,j,hk,hj=>by
  have hx:=hs x (List.mem_cons_self ..)
  simp only [List.flatten_cons,List.getElem_cons_succ]
  rw [List.getElem?_append_right (by rw [hx,Nat.add_mul];omega),show (k+1)*sz+j - x.length=k*sz+j from by rw [hx,Nat.add_mul];omega]
  exact q8s xs (fun y hy=>hs y (List.mem_cons_of_mem _ hy)) k j (by simpa using hk) hj
theorem q6b {α:Type} {sz:Nat} : ∀(xs:List (List α)),(∀x∈xs,x.length=sz)->xs.flatten.length=xs.length*sz
 | [],_=>by simp
 | x::xs,hs=>by
  rw [List.flatten_cons,List.length_append,hs x (List.mem_cons_self ..),q6b xs (fun y hy=>hs y (List.mem_cons_of_mem _ hy)),List.length_cons,Nat.add_mul];omega
theorem Hp.freeze (h:Hp F σ e w) {t:Nat} {r:Row} (hr:σ.row t=some r) :
  ∃ e',Fwd e σ w e' { σ with row:=upd σ.row t (some { r with wr:=false }) } w/\Hp F { σ with row:=upd σ.row t (some { r with wr:=false }) } e' w:=by
 obtain ⟨hs,cells,h1,h2,h3⟩:=h.rows t r hr
 exact ⟨_,h.rowNext (w':=w) t { r with wr:=false } (e.rv t r.gen) (e.rv t r.gen) cells (Or.inl ⟨r,hr,rfl,rfl,fun _=>⟨rfl,Nat.le_refl _⟩,Or.inl ⟨rfl,rfl⟩⟩) hs h1 (World.grownBy.refl _ _) (fun _ _ _ _ _ _ _=>rfl) (fun _ hb=>Or.inl hb) h2 h3 (fun v0 h0=>h.kp.rowM t v0 r h0 hr)⟩
theorem Hp.rowDat (h:Hp F σ e w) {t:Nat} {r:Row} (hr:σ.row t=some r) (hw:r.wr=false):DatRep e.Pc w (e.rv t r.gen) (.lst r.sz r.xs):=by
 obtain ⟨hs,cells,h1,h2,h3⟩:=h.rows t r hr
 have hlen:=h2.length
 rcases h1.2 with ⟨h4,h5⟩|⟨g,cap,cur,h4,h5,h6,h7,h8,h9,h10⟩
 ·rw [h4]
  exact .lst none 0 0 r.sz r.xs 0 0 (fun _ _=>undef) h5.symm (Nat.le_refl _) (by unfold maxLen;omega) hs (fun h0=>by omega) (fun k j hk=>by omega) (fun k j hk=>by omega)
 ·have hb:(e.rv t r.gen).ownBlock=some g:=by rw [h4];rfl
  have hcl:cells.length=r.xs.length*r.sz:=h1.1
  rw [h4]
  refine .lst _ _ cap r.sz r.xs g 0 (fun k j=>cells.getD (k*r.sz+j) undef) rfl h7 h8 hs (fun _=>rfl) (fun k j hk hj=>?_) (fun k j hk hj=>?_)
  ·have hlt:k*r.sz+j<r.xs.length*r.sz:=by
    have:=Nat.mul_le_mul_right r.sz (show k+1<=r.xs.length from hk)
    rw [Nat.add_mul] at this;omega
   rw [Nat.zero_add]
   have hge:cells.getD (k*r.sz+j) undef=cells[k*r.sz+j]'(by omega):=by simp [List.getD,show k*r.sz+j<cells.length by omega]
   refine ⟨h.rowPro t r g hr hw hb _ hlt,?_,by rw [hge];exact h3 _ (List.getElem_mem _)⟩
   rw [cell_of_row w g _ cur _ _ h6,hge]
   have:cells[k*r.sz+j]? = some (cells[k*r.sz+j]'(by omega)):=List.getElem?_eq_getElem (by omega)
   rw [<-this,<-h10,List.getElem?_take_of_lt (by omega)]
   simp
  ·have hx:=hs _ (List.getElem_mem hk)
   have hj':j<r.sz:=by omega
   have hlt:k*r.sz+j<r.xs.length*r.sz:=by
    have:=Nat.mul_le_mul_right r.sz (show k+1<=r.xs.length from hk)
    rw [Nat.add_mul] at this;omega
   have hge:cells.getD (k*r.sz+j) undef=cells[k*r.sz+j]'(by omega):=by simp [List.getD,show k*r.sz+j<cells.length by omega]
   have hfl:r.xs.flatten[k*r.sz+j]'(by omega)=(r.xs[k])[j]:=by
    have:=q8s r.xs hs k j hk hj'
    rw [List.getElem?_eq_getElem (by omega),List.getElem?_eq_getElem hj] at this
    exact Option.some.inj this
   have:=h2.get (k*r.sz+j) (by omega) (by omega)
   rw [hfl] at this
   show DatRep e.Pc w (cells.getD (k*r.sz+j) undef) _
   rw [hge];exact this
end Go.Proofs.YtlkpgcifpnppeaaGreatDoor.AM
namespace Go.Proofs.YtlkpgcifpnppeaaGreatDoor.AM
open Go.RowKit
structure Res where
 cond:Prop
 val:D
 box:Option (Nat×(Nat×List C)):=none
 row:Option (Nat×Row):=none
def St.app (σ:St) (r:Res):St :=
 {slot:=σ.slot
  box:=match r.box with|some (i,x)=>upd σ.box i (some x)|none=>σ.box
  row:=match r.row with|some (i,x)=>upd σ.row i (some x)|none=>σ.row }
def qns (x:Value):C:=.d (.v x)
def q67 (x:Value):D:=.one (.c (qns x))
def j94:Value->D
 | .agg cs=>.one (.agg (cs.toList.map qns))
 | x=>q67 x
def opnd (σ:St):Operand->D
 | .tmp t=>σ.slot t
 | .const v=>j94 v
 | .func f=>q67 (.func (.func f) #[] #[])
 | .global g=>.one (.c .bad)
variable {F:Fr} {σ:St} {e:Env} {a:Act} {w:World} {P:Program}
theorem q9e {α γ:Type} {r:α->γ->Prop} (f:α->γ) (h : ∀x,r x (f x)) : ∀l:List α,q0b r l (l.map f)
 | []=>trivial
 | x::xs=>⟨h x,q9e f h xs⟩
theorem qb8 (x:Value):q2k e σ w x (qns x):=DatRep.v x
theorem q04 (x:Value):q1l e σ w x (q67 x):=DatRep.v x
theorem j8d (x:Value):q1l e σ w x (j94 x):=by
 cases x<;>first|exact q04 _|exact ⟨_,rfl,q9e qns qb8 _⟩
theorem q07 {v x:Value} (h:q1l e σ w v (q67 x)):v=x:=by
 have h':DatRep e.Pc w v (.v x):=h
 cases h';rfl
theorem qai {v x:Value} (h:q2k e σ w v (qns x)):v=x:=by
 have h':DatRep e.Pc w v (.v x):=h
 cases h';rfl
theorem R.opnd (h:R F σ e a w) (x:Operand):q1l e σ w (a.eval x) (opnd σ x):=by
 cases x with
 | tmp t=>exact h.slots t
 | const v=>exact j8d v
 | func f=>exact q04 _
 | global g=>trivial
theorem R.pure (h:R F σ e a w) {dst:Option Nat} (hn : ∀k,dst=some k->k<F.n) {v:Value} {d:D} (hd:q1l e σ w v d):R F (σ.put dst d) e (a.put dst v) w :=
 h.next (Fwd.refl _ _ _) h.hp rfl dst hn v d hd
theorem run_u {s:Sem Unit} {w w':World} (h:s.run P w = .ok () w'):(do s;pure Next.skip:Sem Next).run P w = .ok .skip w':=by
 simp [h]
def q0j:D1->List C
 | .c x=>[x]
 | .agg cs=>cs
def okC:C->Bool
 | .d (.v x)=>x.oneCell'
 | .bad=>false
 | _=>true
theorem j3b {v:Value} {c:C} (h:q2k e σ w v c) (hc:okC c=true):v.oneCell'=true:=by
 cases c with
 | d x =>
  have h':DatRep e.Pc w v x:=h
  cases h' with
  | v x=>exact hc
  | lst=>rfl
 | box β off=>rw [h.2];rfl
 | bsl β n=>rw [h.2];rfl
 | mv β=>rw [h.2];rfl
 | row t g =>
  obtain ⟨_,_,a,n,c,rfl⟩:=h;rfl
 | rp cs=>obtain ⟨b,o,rfl,_⟩:=h;rfl
 | wp t g k off=>obtain ⟨r,b,_,_,_,rfl⟩:=h;rfl
 | fn f caps=>rw [h.2];exact jmm _ _
 | bad=>cases hc
def q1u (P:Program) (F:Fr) (o:Oper) (σ:St) (res:Res):Prop :=
 ∀e a w,R F σ e a w->res.cond->∃ v w' e',((execOp a.eval o).run P w = .ok (.value v) w'\/((execOp a.eval o).run P w = .ok .skip w'/\v=undef)) /\
  Fwd e σ w e' (σ.app res) w'/\Hp F (σ.app res) e' w'/\q1l e' (σ.app res) w' v res.val
theorem q1u.same {o:Oper} {c:Prop} {d:D}
  (h : ∀e a w,R F σ e a w->c->∃ v,(execOp a.eval o).run P w = .ok (.value v) w/\q1l e σ w v d):q1u P F o σ { cond:=c,val:=d }:=by
 intro e a w hR hc
 obtain ⟨v,h1,h2⟩:=h e a w hR hc
 exact ⟨v,w,e,.inl h1,Fwd.refl _ _ _,hR.hp,h2⟩
theorem jat {o:Oper} {x:Operand} (ho:o.op = .move x\/o.op = .assign x):q1u P F o σ { cond:=True,val:=opnd σ x } :=
 q1u.same fun e a w hR _=>⟨a.eval x,by rcases ho with ho|ho<;>simp [execOp,ho],hR.opnd x⟩
def qqj (c a b:D):Option Res:=match c with
 | .one (.c (.d (.v (.bool t))))=>some { cond:=True,val:=if t then a else b }
 | _=>none
theorem jm1 {o:Oper} {c x y:Operand} {res:Res} (ho:o.op = .pick c x y) (h:qqj (opnd σ c) (opnd σ x) (opnd σ y)=some res):q1u P F o σ res:=by
 unfold qqj at h
 split at h<;>simp only [Option.some.injEq,reduceCtorEq] at h
 rename_i t hc
 subst h
 refine q1u.same fun e a w hR _=>?_
 have h1:=hR.opnd c
 rw [hc] at h1
 have h2:=q07 h1
 refine ⟨if t then a.eval x else a.eval y,by simp [execOp,ho,h2,asBool],?_⟩
 cases t
 ·exact hR.opnd y
 ·exact hR.opnd x
def qn8 (P:Program) (t:TypeId):Option Bool:=(P.underlying t).map fun d=>match d with | .struct _ | .array _ _=>true|_=>false
def tsz (P:Program) (t:TypeId):Option Nat:=(P.info? t).map (·.size)
theorem q1e {t:TypeId} {b:Bool} (h:qn8 P t=some b) (w:World):(isAgg t).run P w = .ok b w:=by
 unfold qn8 at h
 cases hu:P.underlying t with
 | none=>simp [hu] at h
 | some d =>
  simp only [hu,Option.map_some,Option.some.injEq] at h
  unfold isAgg
  rw [Sem.run_bind,run_underlying hu w]
  cases d<;>simp_all
theorem q0q {t:TypeId} {n:Nat} (h:tsz P t=some n) (w:World):(sizeOf t).run P w = .ok n w:=by
 unfold tsz at h
 cases hq:P.info? t with
 | none=>simp [hq] at h
 | some i=>simp only [hq,Option.map_some,Option.some.injEq] at h;simp [sizeOf,typeInfo,hq,h]
def qmp (P:Program) (t:TypeId) (cs:List C):Option D:=match qn8 P t,tsz P t with
 | some true,some n=>if n<=cs.length then some (.one (.agg (cs.take n))) else none
 | some false,_=>match cs with|c::_=>some (.one (.c c)) | []=>none
 | _,_=>none
theorem add_lit (b o j:Nat):(⟨b,o,none⟩:Addr).add j=⟨b,o+j,none⟩:=Addr.add_lit ..
theorem q5d {t:TypeId} {cs:List C} {d:D} {us:List Value} {b off:Nat} (hl:qmp P t cs=some d) (hu:q0b (q2k e σ w) us cs)
  (hc : ∀(j:Nat) (h:j<us.length),w.cell? ⟨b,off+j,none⟩=some us[j]) : ∃ v,(loadVar t ⟨b,off,none⟩).run P w = .ok v w/\q1l e σ w v d:=by
 unfold qmp at hl
 split at hl
 ·rename_i n ha hn
  split at hl
  ·rename_i hle
   simp only [Option.some.injEq] at hl
   subst hl
   have hlen:=hu.length
   have hcs : ∀j v,(us.take n)[j]? = some v->w.cell? ((⟨b,off,none⟩:Addr).add j)=some v:=by
    intro j v hv
    rw [add_lit]
    rw [List.getElem?_take] at hv
    split at hv
    ·obtain ⟨hj,rfl⟩:=List.getElem?_eq_some_iff.1 hv
     exact hc j hj
    ·cases hv
   have hr:=run_loadCells_list (P:=P) w ⟨b,off,none⟩ (us.take n) hcs
   rw [List.length_take,show min n us.length=n from by omega] at hr
   refine ⟨.agg (us.take n).toArray,?_,⟨_,rfl,by simpa using hu.take n⟩⟩
   unfold loadVar
   simp only [Sem.run_bind,q1e ha w,q0q hn w,Result.andThen_ok,hr,if_true]
   rfl
  ·cases hl
 ·rename_i ha
  split at hl
  ·rename_i c cs'
   simp only [Option.some.injEq] at hl
   subst hl
   match us,hu with
   | u::us',hu' =>
    have:=hc 0 (by simp)
    simp only [Nat.add_zero,List.getElem_cons_zero] at this
    refine ⟨u,?_,hu'.1⟩
    unfold loadVar
    simp only [Sem.run_bind,q1e ha w,Result.andThen_ok,Bool.false_eq_true,if_false]
    simp [load,Sem.run,this]
  ·cases hl
 ·cases hl
def q81 (P:Program) (t:TypeId) (p:D) (bx:Nat->Option (Nat×List C)) (rw:Nat->Option Row):Option Res:=match p with
 | .one (.c (.box β off))=>match bx β with
  | some (T,cs)=>if T<2199023255552 then (qmp P t (cs.drop off)).map fun d=>{ cond:=True,val:=d } else none
  | none=>none
 | .one (.c (.rp cs))=>(qmp P t (cs.map C.d)).map fun d=>{ cond:=True,val:=d }
 | .one (.c (.wp tt g k off))=>match rw tt with
  | some r=>if r.gen=g then (qmp P t (((r.xs.getD k []).drop off).map C.d)).map fun d=>{ cond:=k<r.xs.length,val:=d } else none
  | none=>none
 | _=>none
theorem jff : ∀{us:List Value} {ds:List Dat},q0b (DatRep e.Pc w) us ds->q0b (q2k e σ w) us (ds.map C.d)
 | [],[],_=>trivial
 | _::_,_::_,h=>⟨h.1,jff h.2⟩
 | [],_::_,h=>h.elim
 | _::_,[],h=>h.elim
theorem Hp.elt (h:Hp F σ e w) {t:Nat} {r:Row} (hr:σ.row t=some r) {k:Nat} (hk:k<r.xs.length) {b:Nat} (hb:(e.rv t r.gen).ownBlock=some b) :
  ∃ us:List Value,q0b (DatRep e.Pc w) us (r.xs[k])/\(∀u∈us,u.oneCell'=true)/\us.length=r.sz/\∀(j:Nat) (hj:j<us.length),w.cell? ⟨b,k*r.sz+j,none⟩=some us[j]:=by
 obtain ⟨hs,cells,h1,h2,h3⟩:=h.rows t r hr
 have hlen:=h2.length
 have hx:=hs _ (List.getElem_mem hk)
 rcases h1.2 with ⟨h4,h5⟩|⟨g,cap,cur,h4,h5,h6,h7,h8,h9,h10⟩
 ·omega
 ·rw [h4] at hb
  simp only [Value.ownBlock,Option.some.injEq] at hb
  subst hb
  have hcl:cells.length=r.xs.length*r.sz:=h1.1
  have hmul:=Nat.mul_le_mul_right r.sz (show k+1<=r.xs.length from hk)
  rw [Nat.add_mul,Nat.one_mul] at hmul
  have hul:((cells.drop (k*r.sz)).take r.sz).length=r.sz:=by rw [List.length_take,List.length_drop];omega
  refine ⟨(cells.drop (k*r.sz)).take r.sz,q0b.mk (by rw [hul,hx]) (fun j hj hj'=>?_),fun u hu=>h3 u (List.mem_of_mem_drop (List.mem_of_mem_take hu)),hul,fun j hj=>?_⟩
  ·have hj2:j<r.sz:=by omega
   have:=h2.get (k*r.sz+j) (by omega) (by omega)
   have hfl:r.xs.flatten[k*r.sz+j]'(by omega)=(r.xs[k])[j]:=by
    have:=q8s r.xs hs k j hk hj2
    rw [List.getElem?_eq_getElem (by omega),List.getElem?_eq_getElem hj'] at this
    exact Option.some.inj this
   rw [hfl] at this
   simp only [List.getElem_take,List.getElem_drop]
   exact this
  ·rw [cell_of_row w g _ cur _ _ h6]
   simp only [List.getElem_take,List.getElem_drop]
   have:cells[k*r.sz+j]? = some (cells[k*r.sz+j]'(by omega)):=List.getElem?_eq_getElem (by omega)
   rw [<-this,<-h10,List.getElem?_take_of_lt (by omega)]
   simp
theorem jmk {o:Oper} {t:TypeId} {x:Operand} {res:Res} (ho:o.op = .load t x) (h:q81 P t (opnd σ x) σ.box σ.row=some res):q1u P F o σ res:=by
 unfold q81 at h
 split at h
 ·rename_i β off hx
  split at h
  ·rename_i T cs hb
   split at h
   case isFalse=>cases h
   rename_i hT
   obtain ⟨d,hd,rfl⟩:=Option.map_eq_some_iff.1 h
   refine q1u.same fun e a w hR _=>?_
   have h1:=hR.opnd x
   rw [hx] at h1
   obtain ⟨h2,h3⟩:(σ.box β).isSome=true/\a.eval x = .pointer (some ⟨e.m β,off,none⟩):=h1
   obtain ⟨vs,h4,h5,_⟩:=(hR.hp.boxes β T cs hb).2.cells hT
   obtain ⟨v,h6,h7⟩:=q5d (b:=e.m β) (off:=off) hd (h5.drop off) (fun j hj=>by
    rw [cell_of_row w (e.m β) _ vs T _ h4,List.getElem_drop]
    simp)
   exact ⟨v,by simp [execOp,ho,h3,Instr.loadAt,Instr.sureAddr,h6],h7⟩
  ·cases h
 ·rename_i cs hx
  obtain ⟨d,hd,rfl⟩:=Option.map_eq_some_iff.1 h
  refine q1u.same fun e a w hR _=>?_
  have h1:=hR.opnd x
  rw [hx] at h1
  obtain ⟨b,o',h3,us,h4,h5⟩ : ∃ b o',a.eval x = .pointer (some ⟨b,o',none⟩)/\∃ us:List Value,q0b (DatRep e.Pc w) us cs/\∀(j:Nat) (h:j<us.length),e.Pc b (o'+j)/\w.cell? ⟨b,o'+j,none⟩=some us[j]/\(us[j]).oneCell'=true:=h1
  obtain ⟨v,h6,h7⟩:=q5d (b:=b) (off:=o') hd (jff h4) (fun j hj=>(h5 j hj).2.1)
  exact ⟨v,by simp [execOp,ho,h3,Instr.loadAt,Instr.sureAddr,h6],h7⟩
 ·rename_i tt g k off hx
  split at h
  ·rename_i r hr
   split at h
   ·rename_i hg
    subst hg
    obtain ⟨d,hd,rfl⟩:=Option.map_eq_some_iff.1 h
    refine q1u.same fun e a w hR hk=>?_
    have h1:=hR.opnd x
    rw [hx] at h1
    obtain ⟨r',b,h2,_,h3,h4⟩ : ∃ r' b,σ.row tt=some r'/\r.gen<=r'.gen/\(e.rv tt r.gen).ownBlock=some b/\a.eval x = .pointer (some ⟨b,k*r'.sz+off,none⟩):=h1
    rw [hr] at h2;cases h2
    obtain ⟨us,h5,_,h6,h7⟩:=hR.hp.elt hr hk h3
    have hgd:r.xs.getD k []=r.xs[k]:=by simp [List.getD,hk]
    rw [hgd] at hd
    obtain ⟨v,h8,h9⟩:=q5d (b:=b) (off:=k*r.sz+off) hd (jff (h5.drop off)) (fun j hj=>by
     have:=h7 (off+j) (by rw [List.length_drop] at hj;omega)
     rw [List.getElem_drop,show k*r.sz+off+j=k*r.sz+(off+j) from by omega]
     exact this)
    exact ⟨v,by simp [execOp,ho,h4,Instr.loadAt,Instr.sureAddr,h8],h9⟩
   ·cases h
  ·cases h
 ·cases h
end Go.Proofs.YtlkpgcifpnppeaaGreatDoor.AM
namespace Go.Proofs.YtlkpgcifpnppeaaGreatDoor.AM
open Go.RowKit
set_option linter.unusedSimpArgs false
variable {F:Fr} {σ:St} {e:Env} {a:Act} {w:World} {P:Program}
def setAt {α:Type} (l:List α) (off:Nat) (xs:List α):List α:=l.take off++xs++l.drop (off+xs.length)
theorem qh5 {α β:Type} {r:α->β->Prop} {l:List α} {m:List β} {xs:List α} {ys:List β} (h:q0b r l m) (hx:q0b r xs ys) (off:Nat):q0b r (setAt l off xs) (setAt m off ys):=by
 unfold setAt
 rw [hx.length]
 exact ((h.take off).append hx).append (h.drop _)
theorem qk2 {α:Type} {l:List α} {off:Nat} {xs:List α} {u:α} (h:u∈setAt l off xs):u∈l\/u∈xs:=by
 unfold setAt at h
 rw [List.mem_append,List.mem_append] at h
 rcases h with (h|h)|h
 ·exact Or.inl (List.mem_of_mem_take h)
 ·exact Or.inr h
 ·exact Or.inl (List.mem_of_mem_drop h)
theorem qf2 {v:Value} {x:D1} (h:q80 e σ w v x) (hc:(q0j x).all okC=true):q0b (q2k e σ w) v.cells.toList (q0j x)/\∀u∈v.cells.toList,u.oneCell'=true:=by
 cases x with
 | c c =>
  have h1:okC c=true:=by simpa [q0j] using hc
  have h2:=j3b (σ:=σ) (e:=e) (w:=w) (show q2k e σ w v c from h) h1
  have h3:v.cells = #[v]:=by cases v<;>first|rfl|cases h2
  rw [h3]
  exact ⟨⟨h,trivial⟩,fun u hu=>by simp at hu;rw [hu];exact h2⟩
 | agg cs =>
  obtain ⟨vs,rfl,h2⟩:=h
  refine ⟨h2,fun u hu=>?_⟩
  obtain ⟨i,hi,rfl⟩:=List.getElem_of_mem hu
  have hl:=h2.length
  have hc':(cs.all okC)=true:=hc
  exact j3b (h2.get i hi (by rw [<-hl];exact hi)) (List.all_eq_true.1 hc' _ (List.getElem_mem _))
def qiq:C->Option Dat
 | .d x=>some x
 | _=>none
def q3t (P:Program) (t:TypeId) (p x:D) (bx:Nat->Option (Nat×List C)) (rw:Nat->Option Row):Option Res:=match x with
 | .one x=>match tsz P t with
  | some n=>if (q0j x).length=n/\(q0j x).all okC=true then
    match p with
    | .one (.c (.box β off))=>match bx β with
     | some (T,cs)=>if off+n<=cs.length/\T<2199023255552 then some { cond:=True,val:=q67 undef,box:=some (β,(T,setAt cs off (q0j x))) } else none
     | none=>none
    | .one (.c (.wp tt g k off))=>match rw tt,(q0j x).mapM qiq with
     | some r,some ds=>if r.gen=g/\r.wr=true/\off+n<=r.sz then some { cond:=k<r.xs.length,val:=q67 undef,row:=some (tt,{ r with xs:=r.xs.set k (setAt (r.xs.getD k []) off ds) }) } else none
     | _,_=>none
    | _=>none
   else none
  | none=>none
 | _=>none
theorem q9m (P:Program) (g o:Nat) (t:TypeId) (fz:Nat×Nat) : ∀(vs:List Value) (i:Nat) (cur:Array Value) (w:World),w.heap[g]? = some (.cells cur t fz)->(fz.2=0\/cur.size<=fz.1)->o+i+vs.length<=cur.size->(∀v∈vs,v.oneCell'=true) ->
  (storeCells ⟨g,o,none⟩ vs i).run P w = .ok () (w.setRow g (cur.toList.take (o+i)++vs++cur.toList.drop (o+i+vs.length)).toArray)
 | [],i,cur,w,hg,_,_,_=>by
  simp only [storeCells,List.append_nil,List.length_nil,Nat.add_zero,List.take_append_drop,Array.toArray_toList]
  rw [setRow_self w g cur t fz hg]
  rfl
 | v::rest,i,cur,w,hg,hfz,hl,h1=>by
  have hi:o+i<cur.size:=by simp at hl;omega
  have hadd:(⟨g,o,none⟩:Addr).add i=⟨g,o+i,none⟩:=by unfold Addr.add;split<;>simp_all
  have hcell:w.cell? ⟨g,o+i,none⟩=some cur[o+i]:=by simp [World.cell?,hg,hi]
  have hfro:w.frozen? ⟨g,o+i,none⟩=false:=by
   obtain ⟨lo,hi'⟩:=fz
   simp only [World.frozen?,hg,Bool.and_eq_false_iff,decide_eq_false_iff_not]
   simp only at hfz
   rcases hfz with h|h
   ·right;omega
   ·left;omega
  have hst:(store ((⟨g,o,none⟩:Addr).add i) v).run P w = .ok () (w.setRow g (cur.setIfInBounds (o+i) v)):=by
   rw [hadd,run_store P w _ v _ (h1 v (by simp)),hcell]
   simp [hfro,setCell_eq_setRow w g (o+i) cur t fz v hg]
  have ih:=q9m P g o t fz rest (i+1) (cur.setIfInBounds (o+i) v) (w.setRow g (cur.setIfInBounds (o+i) v)) (setRow_heap w g cur _ t _ hg) (by simpa using hfz) (by simp at hl ⊢;omega) (fun x hx=>h1 x (by simp [hx]))
  simp only [storeCells,Sem.run_bind,hst,Result.andThen_ok,ih,setRow_setRow]
  congr 3
  have e:=list_seg_step cur.toList (o+i) v rest (by simp at hl ⊢;omega)
  simpa [Array.toList_setIfInBounds,Nat.add_assoc] using e
theorem jmw (E n:Nat):(jmi E n).2=0\/n<=(jmi E n).1:=by
 unfold jmi
 split
 ·exact .inl rfl
 ·exact .inr (Nat.le_refl _)
theorem qff {t:TypeId} {v:Value} {b off:Nat} {cur:Array Value} {T:TypeId} {fz:Nat×Nat} (hn:tsz P t=some v.cells.size) (hg:w.heap[b]? = some (.cells cur T fz)) (hfz:fz.2=0\/cur.size<=fz.1) (hle:off+v.cells.size<=cur.size) (h1 : ∀u∈v.cells.toList,u.oneCell'=true) :
  (storeVar t ⟨b,off,none⟩ v).run P w = .ok () (w.setRow b (setAt cur.toList off v.cells.toList).toArray):=by
 have h:=q9m P b off T fz v.cells.toList 0 cur w hg hfz (by simpa using hle) h1
 rw [Nat.add_zero] at h
 unfold storeVar setAt
 simp only [Sem.run_bind,q0q hn w,Result.andThen_ok,ne_eq,not_true_eq_false,if_false,h]
theorem jhw {v:Value} {c:C} {x:Dat} (hd:qiq c=some x) (h:q2k e σ w v c):DatRep e.Pc w v x:=by
 cases c with
 | d y=>simp only [qiq,Option.some.injEq] at hd;subst hd;exact h
 | _=>cases hd
theorem qjq : ∀{us:List Value} {cs:List C} {ds:List Dat},cs.mapM qiq=some ds->q0b (q2k e σ w) us cs->q0b (DatRep e.Pc w) us ds
 | [],[],ds,hd,_=>by simp at hd;subst hd;exact trivial
 | u::us,c::cs,ds,hd,h=>by
  rw [List.mapM_cons] at hd
  cases hx:qiq c with
  | none=>simp [hx] at hd
  | some x =>
   cases hy:cs.mapM qiq with
   | none=>simp [hx,hy] at hd
   | some ys =>
    simp [hx,hy] at hd
    subst hd
    exact ⟨jhw hx h.1,qjq hy h.2⟩
 | [],_::_,_,_,h=>h.elim
 | _::_,[],_,_,h=>h.elim
theorem qkh {α:Type} {sz:Nat} : ∀(xs:List (List α)),(∀x∈xs,x.length=sz)->∀(k:Nat) (hk:k<xs.length) (off:Nat) (ys:List α),off+ys.length<=sz ->
  (xs.set k (setAt (xs[k]) off ys)).flatten=setAt xs.flatten (k*sz+off) ys
 | [],_,k,hk,_,_,_=>absurd hk (by simp)
 | x::xs,hs,0,_,off,ys,hy=>by
  have hx:=hs x (List.mem_cons_self ..)
  simp only [List.set_cons_zero,List.flatten_cons,List.getElem_cons_zero,Nat.zero_mul,Nat.zero_add,setAt]
  rw [List.take_append_of_le_length (by omega),List.drop_append_of_le_length (by omega)]
  simp [List.append_assoc]
 | x::xs,hs,k+1,hk,off,ys,hy=>by
  have hx:=hs x (List.mem_cons_self ..)
  have ih:=qkh xs (fun y hy=>hs y (List.mem_cons_of_mem _ hy)) k (by simpa using hk) off ys hy
  simp only [List.set_cons_succ,List.flatten_cons,List.getElem_cons_succ,ih]
  unfold setAt
  have e1:(k+1)*sz+off=x.length+(k*sz+off):=by rw [hx,Nat.add_mul];omega
  rw [e1,List.take_append,List.drop_append,show x.length+(k*sz+off) - x.length=k*sz+off from by omega,List.take_of_length_le (l:=x) (show x.length<=x.length+(k*sz+off) from by omega),show x.length+(k*sz+off)+ys.length - x.length=k*sz+off+ys.length from by omega,List.drop_eq_nil_of_le (show x.length<=x.length+(k*sz+off)+ys.length from by omega)]
  simp [List.append_assoc]
theorem jhf {o:Oper} {t:TypeId} {x y:Operand} {res:Res} (ho:o.op = .store t x y) (h:q3t P t (opnd σ x) (opnd σ y) σ.box σ.row=some res):q1u P F o σ res:=by
 unfold q3t at h
 split at h
 case h_2=>cases h
 rename_i x1 hy
 split at h
 case h_2=>cases h
 rename_i n hn
 split at h
 case isFalse=>cases h
 rename_i hlen
 obtain ⟨hlen,hok⟩:=hlen
 split at h
 ·rename_i β off hx
  split at h
  case h_2=>cases h
  rename_i T cs hb
  split at h
  case isFalse=>cases h
  rename_i hle
  obtain ⟨hle,hT⟩:=hle
  simp only [Option.some.injEq] at h
  subst h
  intro e a w hR _
  have h1:=hR.opnd x
  rw [hx] at h1
  obtain ⟨h2,h3⟩:(σ.box β).isSome=true/\a.eval x = .pointer (some ⟨e.m β,off,none⟩):=h1
  have h4:=hR.opnd y
  rw [hy] at h4
  obtain ⟨h5,h6⟩:=qf2 (show q80 e σ w (a.eval y) x1 from h4) hok
  obtain ⟨vs,h8,h9,h10⟩:=(hR.hp.boxes β T cs hb).2.cells hT
  have hsz:(a.eval y).cells.size=n:=by have:=h5.length;rw [Array.length_toList] at this;omega
  have hvl:vs.size=cs.length:=by have:=h9.length;rwa [Array.length_toList] at this
  obtain ⟨hf,hh⟩:=hR.hp.set β T cs (setAt cs off (q0j x1)) (setAt vs.toList off (a.eval y).cells.toList).toArray hb hT (by simpa using qh5 h9 h5 off) (fun u hu=>by
   rcases qk2 (by simpa using hu) with hu|hu
   ·exact h10 u hu
   ·exact h6 u hu)
  refine ⟨undef,_,e,.inr ⟨?_,rfl⟩,hf,hh,q04 _⟩
  have:=qff (P:=P) (t:=t) (v:=a.eval y) (b:=e.m β) (off:=off) (by rw [hsz];exact hn) h8 (.inl rfl) (by omega) h6
  simp [execOp,ho,h3,Instr.storeAt,Instr.sureAddr,this]
 ·rename_i tt g k off hx
  split at h
  case h_2=>cases h
  rename_i r ds hr hds
  split at h
  case isFalse=>cases h
  rename_i hg
  obtain ⟨rfl,hwr,hle⟩:=hg
  simp only [Option.some.injEq] at h
  subst h
  intro e a w hR hk
  have h1:=hR.opnd x
  rw [hx] at h1
  obtain ⟨r',b,h2,_,h3,h4⟩ : ∃ r' b,σ.row tt=some r'/\r.gen<=r'.gen/\(e.rv tt r.gen).ownBlock=some b/\a.eval x = .pointer (some ⟨b,k*r'.sz+off,none⟩):=h1
  rw [hr] at h2;cases h2
  have h4':=hR.opnd y
  rw [hy] at h4'
  obtain ⟨h5,h6⟩:=qf2 (show q80 e σ w (a.eval y) x1 from h4') hok
  have hdd:=qjq hds h5
  obtain ⟨hs,cells,k1,k2,k3⟩:=hR.hp.rows tt r hr
  have hk':k<r.xs.length:=hk
  rcases k1.2 with ⟨_,k5⟩|⟨gg,cap,cur,k4,k5,k6,k7,k8,k9,k10⟩
  ·omega
  have hbg:b=gg:=by rw [k4] at h3;simpa [Value.ownBlock] using h3.symm
  subst hbg
  have hsz:(a.eval y).cells.size=n:=by have:=h5.length;rw [Array.length_toList] at this;omega
  have hdl:ds.length=n:=by have:=hdd.length;rw [Array.length_toList] at this;omega
  have hcl:cells.length=r.xs.length*r.sz:=k1.1
  have hmul:=Nat.mul_le_mul_right r.sz (show k+1<=r.xs.length from hk')
  rw [Nat.add_mul,Nat.one_mul] at hmul
  have hcap:=Nat.mul_le_mul_right r.sz k7
  have hx':=hs _ (List.getElem_mem hk')
  have hgd:r.xs.getD k []=r.xs[k]:=by simp [List.getD,hk']
  have hrun:=qff (P:=P) (t:=t) (v:=a.eval y) (b:=b) (off:=k*r.sz+off) (by rw [hsz];exact hn) k6 (jmw _ _) (by omega) h6
  have hset : ∀x'∈r.xs.set k (setAt (r.xs.getD k []) off ds),x'.length=r.sz:=fun x' hx''=>by
   rcases List.mem_or_eq_of_mem_set hx'' with hm|rfl
   ·exact hs x' hm
   ·rw [hgd];unfold setAt;simp only [List.length_append,List.length_take,List.length_drop];omega
  have hnew:(setAt cur.toList (k*r.sz+off) (a.eval y).cells.toList).toArray.size=cur.size:=by
   unfold setAt;simp only [List.size_toArray,List.length_append,List.length_take,List.length_drop,Array.length_toList];omega
  have hrow:q6v (w.setRow b (setAt cur.toList (k*r.sz+off) (a.eval y).cells.toList).toArray) F.w0.heap.size r.E r.sz (e.rv tt r.gen) r.xs.length (setAt cells (k*r.sz+off) (a.eval y).cells.toList):=by
   refine ⟨?_,.inr ⟨b,cap,_,k4,k5,by rw [hnew];exact setRow_heap w b cur _ _ _ k6,k7,k8,?_,?_⟩⟩
   ·unfold setAt;simp only [List.length_append,List.length_take,List.length_drop,Array.length_toList];omega
   ·unfold setAt;simp only [List.size_toArray,List.length_append,List.length_take,List.length_drop,Array.length_toList];omega
   ·have hc2:cells=cur.toList.take (r.xs.length*r.sz):=k10.symm
    rw [hc2]
    unfold setAt
    have hcs:cur.toList.length=cap*r.sz:=by rw [Array.length_toList,k9]
    have hvl:(a.eval y).cells.toList.length=n:=by rw [Array.length_toList,hsz]
    apply List.ext_getElem?
    intro i
    simp only [List.getElem?_take,List.getElem?_append,List.length_take,List.length_append,List.getElem?_drop,hvl,hcs]
    repeat' split
    all_goals first
     | rfl
     | omega
     | (congr 1;omega)
     | (rw [List.getElem?_eq_none (by rw [hcs];omega)])
     | (symm;rw [List.getElem?_eq_none (by rw [hcs];omega)])
  obtain ⟨hf,hh⟩:=hR.hp.rowNext (w':=w.setRow b (setAt cur.toList (k*r.sz+off) (a.eval y).cells.toList).toArray) tt { r with xs:=r.xs.set k (setAt (r.xs.getD k []) off ds) } (e.rv tt r.gen) (e.rv tt r.gen) (setAt cells (k*r.sz+off) (a.eval y).cells.toList)
   (Or.inl ⟨r,hr,rfl,rfl,(fun h=>by rw [hwr] at h;cases h),Or.inl ⟨rfl,rfl⟩⟩) hset (by simpa using hrow)
   ⟨rfl,rfl,rfl,by simp,fun q _ hq=>setRow_other w b q _ (fun e'=>hq (by rw [e',h3]))⟩
   (fun r2 hr2 hw2=>by rw [hr] at hr2;cases hr2;rw [hwr] at hw2;cases hw2) (fun q hq=>Or.inl hq) (by
    show q0b _ _ (r.xs.set k (setAt (r.xs.getD k []) off ds)).flatten
    rw [hgd,qkh r.xs hs k hk' off ds (by omega)]
    exact qh5 k2 hdd _) (fun u hu=>by
    rcases qk2 hu with hu|hu
    ·exact k3 u hu
    ·exact h6 u hu) (fun v0 h0=>hR.hp.kp.rowM tt v0 r h0 hr)
  refine ⟨undef,_,_,.inr ⟨?_,rfl⟩,hf,hh,q04 _⟩
  simp [execOp,ho,h4,Instr.storeAt,Instr.sureAddr,hrun]
 ·cases h
end Go.Proofs.YtlkpgcifpnppeaaGreatDoor.AM
