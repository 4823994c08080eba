
import Derived.Test.YtlkpgcifpnppeaaGreatDoorMv6
namespace Go.Proofs.YtlkpgcifpnppeaaGreatDoor.AM
open Go.RowKit
set_option linter.unusedVariables false
set_option linter.unusedSimpArgs false
variable {α:Type} {P:Program} {σ:TSt} {F:Fr} {e:Env} {w:World}
structure FC where
 f:Nat
 args:List SD
 res:SD
 F:pDs args->Option (pD res)
 x:Option XC:=none
def qyj (P:Program) (G:World->Prop) (c:FC):Prop:=q5h P c.f=true/\match c.x with
 | none=>∀a r,c.F a=some r->qfh P G c.f ((rDs c.args a).map eD) (eD (rD c.res r))
 | some x=>x.x.f=c.f/\jp4 P G x.x
def noX (c:FC):Bool:=match c.x with|none=>true|some _=>false
theorem qyj.pure {P:Program} {G:World->Prop} {c:FC} (h:qyj P G c) (hx:noX c=true) : ∀a r,c.F a=some r->qfh P G c.f ((rDs c.args a).map eD) (eD (rD c.res r)):=by
 have h2:=h.2
 unfold noX at hx
 cases hc:c.x with
 | none=>rw [hc] at h2;exact h2
 | some x=>rw [hc] at hx;cases hx
theorem qyj.xs {P:Program} {G:World->Prop} {c:FC} (h:qyj P G c) {x:XC} (hx:c.x=some x):x.x.f=c.f/\jp4 P G x.x:=by
 have h2:=h.2
 rw [hx] at h2;exact h2
def sh0:SSt:=⟨[],[],[]⟩
def jeo (ct:List FC) (f:Nat) (σ:TSt) (ys:List TD) (k:TD->Option α):Option α:=match ct with
 | []=>none
 | c::ct=>bif Nat.beq c.f f&&noX c then (match cDs sh0 σ c.args ys with|some a=>(c.F a).bind fun r=>k (rD c.res r)|none=>jeo ct f σ ys k) else jeo ct f σ ys k
theorem qh6 {f:Nat} {ys:List TD} {k:TD->Option α} {r:α} : ∀{ct:List FC},jeo ct f σ ys k=some r->∃ c∈ct,c.f=f/\noX c=true/\∃ a x,cDs sh0 σ c.args ys=some a/\c.F a=some x/\k (rD c.res x)=some r
 | [],h=>by cases h
 | c::ct,h=>by
  unfold jeo at h
  cases hb:(Nat.beq c.f f&&noX c) with
  | false =>
   rw [hb] at h
   obtain ⟨c',h1,h2⟩:=qh6 (ct:=ct) h
   exact ⟨c',List.mem_cons_of_mem _ h1,h2⟩
  | true =>
   rw [hb] at h
   simp only [cond_true] at h
   simp only [Bool.and_eq_true] at hb
   split at h
   ·rename_i a ha
    obtain ⟨x,hx,h⟩:=Option.bind_eq_some_iff.1 h
    exact ⟨c,List.mem_cons_self ..,Nat.eq_of_beq_eq_true hb.1,hb.2,a,x,ha,hx,h⟩
   ·obtain ⟨c',h1,h2⟩:=qh6 (ct:=ct) h
    exact ⟨c',List.mem_cons_of_mem _ h1,h2⟩
def jqt (p:Nat×TRow):Nat×TRow:=(p.1,{ p.2 with wr:=false })
def j3v (σ:TSt):TSt:={ σ with rows:=σ.rows.map jqt }
theorem jkn : ∀(l:List (Nat×TRow)) (i:Nat),lk (l.map jqt) i=(lk l i).map fun r=>{ r with wr:=false }
 | [],i=>rfl
 | (j,r)::l,i=>by
  rw [List.map_cons]
  show lk ((j,_)::_) i=_
  rw [q0f,q0f,jkn l i]
  split<;>rfl
theorem qxx (σ:TSt):eS (j3v σ)=frz (eS σ):=by
 unfold eS j3v frz
 simp only
 congr 1
 funext i
 rw [jkn]
 cases lk σ.rows i<;>rfl
def isRow:TC->Bool
 | .row _ _=>true
 | _=>false
def qe6 (ys:List TD):Bool:=ys.any fun y=>match y with
 | .one (.c x)=>isRow x
 | .one (.agg xs)=>xs.any isRow
 | .tup _=>false
def qlz (b:Bool) (σ:TSt):TSt:=bif b then j3v σ else σ
def rowIn (t:Nat) (ys:List TD):Bool:=ys.any fun y=>match y with
 | .one (.c (.row t' _))=>Nat.beq t' t
 | .one (.agg xs)=>xs.any fun c=>match c with | .row t' _=>Nat.beq t' t|_=>false
 | _=>false
def jp0 (p:Nat->Bool) (q:Nat×TRow):Nat×TRow:=bif p q.1 then jqt q else q
def qel (p:Nat->Bool) (σ:TSt):TSt:={ σ with rows:=σ.rows.map (jp0 p) }
theorem jgd (p:Nat->Bool) : ∀(l:List (Nat×TRow)) (i:Nat),lk (l.map (jp0 p)) i=(lk l i).map fun r=>if p i=true then { r with wr:=false } else r
 | [],i=>rfl
 | (j,r)::l,i=>by
  have ih:=jgd p l i
  rw [List.map_cons]
  cases hj:p j with
  | true =>
   have e1:jp0 p (j,r)=(j,{ r with wr:=false }):=by unfold jp0;rw [hj];rfl
   rw [e1,q0f,q0f]
   by_cases h:i=j
   ·subst h;rw [if_pos rfl,if_pos rfl,Option.map_some,if_pos hj]
   ·rw [if_neg h,if_neg h];exact ih
  | false =>
   have e1:jp0 p (j,r)=(j,r):=by unfold jp0;rw [hj];rfl
   rw [e1,q0f,q0f]
   by_cases h:i=j
   ·subst h;rw [if_pos rfl,if_pos rfl,Option.map_some,if_neg (by rw [hj];decide)]
   ·rw [if_neg h,if_neg h];exact ih
theorem qjy (p:Nat->Bool) (σ:TSt):eS (qel p σ)=frzB p (eS σ):=by
 unfold eS qel frzB
 simp only
 congr 1
 funext i
 rw [jgd]
 cases lk σ.rows i with
 | none=>rfl
 | some r =>
  simp only [Option.map_some]
  by_cases h:p i=true
  ·rw [if_pos h,if_pos h];rfl
  ·rw [if_neg h,if_neg h]
theorem jdm (p:Nat->Bool) {ops:Array Oper} {l:List Oper} {σ:St} {K:St->Prop} (hc:qg5 P F ops l (frzB p σ) K):qg5 P F ops l σ K:=fun hn hall e a w hR=>by
 obtain ⟨e',hf,hh⟩:=hR.hp.frzB p
 exact hc hn hall e' a w ⟨hR.defers,hR.size,fun i=>(hR.slots i).fwd hf,hh⟩
def q8i (x:XC) (ys:List TD) (σ:TSt):TSt:=qel (fun t=>rowIn t ys && !(isS (lk (q0h x.hr) t))) σ
def jqq (p:Nat->Bool) (σ:TSt):TC->TC
 | .row t g=>match lk σ.rows t with
  | some r=>bif p t&&(Nat.beq r.gen g && !r.wr) then .d (.lst r.e) r.xs else .row t g
  | none=>.row t g
 | x=>x
def coe1 (q:Nat->Bool) (σ:TSt):TD1->TD1
 | .c x=>.c (jqq q σ x)
 | .agg cs=>.agg (cs.map (jqq q σ))
def jnw (q:Nat->Bool) (σ:TSt):TD->TD
 | .one x=>.one (coe1 q σ x)
 | .tup xs=>.tup (xs.map (coe1 q σ))
theorem j5z {q:Nat->Bool} {F:Fr} {σ:TSt} {e:Env} {w:World} (hp:Hp F (eS σ) e w) {v:Value} {x:TC} (hv:q2k e (eS σ) w v (eC x)):q2k e (eS σ) w v (eC (jqq q σ x)):=by
 cases x with
 | row t g =>
  show q2k e (eS σ) w v (eC (match lk σ.rows t with|some r=>bif q t&&(Nat.beq r.gen g && !r.wr) then .d (.lst r.e) r.xs else .row t g|none=>.row t g))
  cases hr:lk σ.rows t with
  | none=>exact hv
  | some r =>
   show q2k e (eS σ) w v (eC (bif q t&&(Nat.beq r.gen g && !r.wr) then .d (.lst r.e) r.xs else .row t g))
   cases hc:q t&&(Nat.beq r.gen g && !r.wr) with
   | false=>exact hv
   | true =>
    obtain ⟨h1,h2⟩:=Bool.and_eq_true_iff.1 (Bool.and_eq_true_iff.1 hc).2
    have hg:r.gen=g:=Nat.eq_of_beq_eq_true h1
    have hw:r.wr=false:=by simpa using h2
    subst hg
    obtain ⟨_,h5,_⟩:(∃ r',(eS σ).row t=some r'/\r.gen<=r'.gen)/\v=e.rv t r.gen/\_:=hv
    show DatRep e.Pc w v _
    rw [h5]
    exact hp.rowDat (r:=eR r) (q2p hr) hw
 | _=>exact hv
theorem qso {q:Nat->Bool} {F:Fr} {σ:TSt} {e:Env} {w:World} (hp:Hp F (eS σ) e w) {v:Value} {x:TD1} (hv:q80 e (eS σ) w v (e1 x)):q80 e (eS σ) w v (e1 (coe1 q σ x)):=by
 cases x with
 | c x=>exact j5z hp hv
 | agg cs =>
  obtain ⟨vs,h1,h2⟩:=hv
  refine ⟨vs,h1,?_⟩
  have key : ∀(cs:List TC) (vs:List Value),q0b (q2k e (eS σ) w) vs (cs.map eC)->q0b (q2k e (eS σ) w) vs ((cs.map (jqq q σ)).map eC):=by
   intro cs
   induction cs with
   | nil=>intro vs h;exact h
   | cons c cs ih =>
    intro vs h
    cases vs with
    | nil=>exact h.elim
    | cons v vs=>exact ⟨j5z hp h.1,ih vs h.2⟩
  exact key cs _ h2
theorem j63 {q:Nat->Bool} {F:Fr} {σ:TSt} {e:Env} {w:World} (hp:Hp F (eS σ) e w) {v:Value} {x:TD} (hv:q1l e (eS σ) w v (eD x)):q1l e (eS σ) w v (eD (jnw q σ x)):=by
 cases x with
 | one x=>exact qso hp hv
 | tup xs =>
  obtain ⟨vs,h1,h2⟩:=hv
  refine ⟨vs,h1,?_⟩
  have key : ∀(xs:List TD1) (vs:List Value),q0b (q80 e (eS σ) w) vs (xs.map e1)->q0b (q80 e (eS σ) w) vs ((xs.map (coe1 q σ)).map e1):=by
   intro xs
   induction xs with
   | nil=>intro vs h;exact h
   | cons c cs ih =>
    intro vs h
    cases vs with
    | nil=>exact h.elim
    | cons v vs=>exact ⟨qso hp h.1,ih vs h.2⟩
  exact key xs _ h2
theorem qvv {q:Nat->Bool} {F:Fr} {σ:TSt} {e:Env} {w:World} (hp:Hp F (eS σ) e w) : ∀{vs:List Value} {xs:List TD},q0b (q1l e (eS σ) w) vs (xs.map eD)->q0b (q1l e (eS σ) w) vs ((xs.map (jnw q σ)).map eD)
 | [],[],h=>h
 | v::vs,x::xs,h=>⟨j63 hp h.1,qvv hp h.2⟩
 | [],_::_,h=>h.elim
 | _::_,[],h=>h.elim
def jr5 (x:XC) (σ:TSt) (ys:List TD):List TD:=ys.map (jnw (fun t=>!(isS (lk (q0h x.hr) t))) σ)
def jqj (cs:List Nat):List TD:=cs.map fun β=>.one (.c (.box β 0))
def qm9 (ct:List FC) (f:Nat) (σ:TSt) (ys:List TD) (k:TSt->TD->Option α):Option α:=match ct with
 | []=>none
 | c::ct=>bif Nat.beq c.f f then (match c.x with
   | none=>(match cDs sh0 (qlz (qe6 ys) σ) c.args ys with|some a=>(c.F a).bind fun r=>k (qlz (qe6 ys) σ) (rD c.res r)|none=>qm9 ct f σ ys k)
   | some x=>(match inX x (q8i x ys σ) (jr5 x (q8i x ys σ) ys) with|some p=>(bif x.alt then jap (x.x.F p) (fun q=>jmt x (q8i x ys σ) q k) (qm9 ct f σ ys k) else (x.x.F p).bind fun q=>jmt x (q8i x ys σ) q k)|none=>qm9 ct f σ ys k)) else qm9 ct f σ ys k
theorem q7q {f:Nat} {ys:List TD} {k:TSt->TD->Option α} {r:α} : ∀{ct:List FC},qm9 ct f σ ys k=some r->∃ c∈ct,c.f=f /\
  (
   (noX c=true/\∃ a x,cDs sh0 (qlz (qe6 ys) σ) c.args ys=some a/\c.F a=some x/\k (qlz (qe6 ys) σ) (rD c.res x)=some r) \/
   ∃ x,c.x=some x/\∃ p q,inX x (q8i x ys σ) (jr5 x (q8i x ys σ) ys)=some p/\x.x.F p=some q/\jmt x (q8i x ys σ) q k=some r)
 | [],h=>by cases h
 | c::ct,h=>by
  unfold qm9 at h
  cases hb:Nat.beq c.f f with
  | false =>
   rw [hb] at h
   obtain ⟨c',h1,h2⟩:=q7q (ct:=ct) h
   exact ⟨c',List.mem_cons_of_mem _ h1,h2⟩
  | true =>
   rw [hb] at h
   simp only [cond_true] at h
   split at h
   ·rename_i hx
    split at h
    ·rename_i a ha
     obtain ⟨x,hx',h⟩:=Option.bind_eq_some_iff.1 h
     exact ⟨c,List.mem_cons_self ..,Nat.eq_of_beq_eq_true hb,Or.inl ⟨by unfold noX;rw [hx],a,x,ha,hx',h⟩⟩
    ·obtain ⟨c',h1,h2⟩:=q7q (ct:=ct) h
     exact ⟨c',List.mem_cons_of_mem _ h1,h2⟩
   ·rename_i x hx
    split at h
    ·rename_i p hp
     cases ha:x.alt with
     | false =>
      rw [ha] at h
      obtain ⟨q,hq,h⟩:=Option.bind_eq_some_iff.1 (show ((x.x.F p).bind fun q=>jmt x (q8i x ys σ) q k)=some r from h)
      exact ⟨c,List.mem_cons_self ..,Nat.eq_of_beq_eq_true hb,Or.inr ⟨x,hx,p,q,hp,hq,h⟩⟩
     | true =>
      rw [ha] at h
      replace h:jap (x.x.F p) (fun q=>jmt x (q8i x ys σ) q k) (qm9 ct f σ ys k)=some r:=h
      unfold jap at h
      split at h
      ·rename_i q hq
       exact ⟨c,List.mem_cons_self ..,Nat.eq_of_beq_eq_true hb,Or.inr ⟨x,hx,p,q,hp,hq,h⟩⟩
      ·obtain ⟨c',h1,h2⟩:=q7q (ct:=ct) h
       exact ⟨c',List.mem_cons_of_mem _ h1,h2⟩
    ·obtain ⟨c',h1,h2⟩:=q7q (ct:=ct) h
     exact ⟨c',List.mem_cons_of_mem _ h1,h2⟩
def jpl (cs:List Nat):List TD:=cs.map fun β=>.one (.c (.mv β))
def jm4 (f:Nat):List Nat->Bool
 | []=>false
 | _::_=>!(Nat.blt f 2199023255552)
def jqf (f:Nat) (cs:List Nat):Nat:=bif jm4 f cs then bndB f else f
def jqn (f:Nat) (cs:List Nat):List TD:=bif jm4 f cs then jpl cs else []
def jb7 (f:Nat) (cs:List Nat):List TD:=bif jm4 f cs then [] else jqj cs
theorem jfj {v:Value} {f:Nat} {cs:List Nat} {σ:St} (h:q2k e σ w v (eC (.fn f cs))) : ∃ fi cap:Array Value,v = .func (.func (jqf f cs)) fi cap/\q0b (q1l e σ w) fi.toList ((jqn f cs).map eD)/\q0b (q1l e σ w) cap.toList ((jb7 f cs).map eD):=by
 cases cs with
 | nil=>exact ⟨#[],#[],qai h,trivial,trivial⟩
 | cons c cs =>
  have h':(∀β∈c::cs,(σ.box β).isSome=true)/\v=fnV f ((c::cs).map e.m):=h
  obtain ⟨hs,hv⟩:=h'
  have key : ∀l:List Nat,(∀β∈l,(σ.box β).isSome=true)->q0b (q1l e σ w) (l.map fun β=>Value.pointer (some ⟨e.m β,0,none⟩)) ((jqj l).map eD):=by
   intro l
   induction l with
   | nil=>intro _;trivial
   | cons b l ih=>intro hl;exact ⟨⟨hl b (List.mem_cons_self ..),rfl⟩,ih fun β hβ=>hl β (List.mem_cons_of_mem _ hβ)⟩
  have keyM : ∀l:List Nat,(∀β∈l,(σ.box β).isSome=true)->q0b (q1l e σ w) (l.map fun β=>Value.map (some (e.m β))) ((jpl l).map eD):=by
   intro l
   induction l with
   | nil=>intro _;trivial
   | cons b l ih=>intro hl;exact ⟨⟨hl b (List.mem_cons_self ..),rfl⟩,ih fun β hβ=>hl β (List.mem_cons_of_mem _ hβ)⟩
  cases hb:Nat.blt f 2199023255552 with
  | true =>
   have e1:jm4 f (c::cs)=false:=by unfold jm4;rw [hb];rfl
   unfold jqf jqn jb7
   rw [e1,hv,jop hb,List.map_map]
   exact ⟨#[],_,rfl,trivial,key (c::cs) hs⟩
  | false =>
   have e1:jm4 f (c::cs)=true:=by unfold jm4;rw [hb];rfl
   unfold jqf jqn jb7
   rw [e1,hv,jle hb rfl,List.map_map]
   exact ⟨_,#[],rfl,keyM (c::cs) hs,trivial⟩
def isFn (f:Nat) (v:IV):Bool:=match v.1 with
 | .func (.func g) ⟨[]⟩ ⟨[]⟩=>Nat.beq g f
 | _=>false
theorem jm7 {f:Nat} {v:IV} (h:isFn f v=true):v.1 = .func (.func f) #[] #[]:=by
 unfold isFn at h
 split at h
 ·rename_i g hv
  rw [hv,Nat.eq_of_beq_eq_true h]
 ·cases h
def fsOf (n:Nat):List FC->List Nat
 | []=>[]
 | c::ct=>match c.x with
  | some x=>bif Nat.beq x.x.args.length n then c.f::fsOf n ct else fsOf n ct
  | none=>fsOf n ct
def jje (ct:List FC) (v:IV) (σ:TSt) (ys:List TD) (k:TSt->TD->Option α):List Nat->Option α
 | []=>none
 | f::fs=>bif isFn f v then qm9 ct f σ ys k else jje ct v σ ys k fs
theorem qr8 {ct:List FC} {v:IV} {ys:List TD} {k:TSt->TD->Option α} {r:α} : ∀{fs:List Nat},jje ct v σ ys k fs=some r->∃ f,v.1 = .func (.func f) #[] #[]/\qm9 ct f σ ys k=some r
 | [],h=>by cases h
 | f::fs,h=>by
  unfold jje at h
  cases hb:isFn f v with
  | true=>rw [hb] at h;exact ⟨f,jm7 hb,h⟩
  | false=>rw [hb] at h;exact qr8 (fs:=fs) h
def Callee (F:Fr) (x:Operand) (f:Nat) (pre post:List TD) (σ:TSt):Prop:=∀(e:Env) (a:Act) (w:World),R F (eS σ) e a w->∃ fi cap:Array Value,a.eval x = .func (.func f) fi cap/\q0b (q1l e (eS σ) w) fi.toList (pre.map eD)/\q0b (q1l e (eS σ) w) cap.toList (post.map eD)
theorem jgo {F:Fr} {x:Operand} {f:Nat} {cs:List Nat} {σ:TSt} (hx:q0p σ x=some (.one (.c (.fn f cs)))):Callee F x (jqf f cs) (jqn f cs) (jb7 f cs) σ:=fun e a w hR=>by
 have h1:=hR.opnd x
 rw [q05 hx] at h1
 exact jfj (show q2k e (eS σ) w (a.eval x) (eC (.fn f cs)) from h1)
theorem jb1 {F:Fr} {x:Operand} {f:Nat} {v:IV} {σ:TSt} (hx:q0p σ x=some (.one (.c (.d .any v)))) (hv:v.1 = .func (.func f) #[] #[]):Callee F x f [] [] σ:=fun e a w hR=>by
 have h1:=hR.opnd x
 rw [q05 hx] at h1
 have h2:a.eval x=v.1:=qai (σ:=eS σ) (e:=e) (w:=w) (show q2k e (eS σ) w (a.eval x) (qns v.1) from h1)
 exact ⟨#[],#[],h2.trans hv,trivial,trivial⟩
theorem qrf {ops:Array Oper} {o:Oper} {rest:List Oper} {Q:St->Prop} {σ σ':TSt} (hw:q47 ops (eS σ) o=some true) {x:Operand} {xs:Array Operand} {ts:Array TypeId} (ho:o.op = .call { callee:=.value x,args:=xs,argTypes:=ts })
  {f:Nat} {pre post:List TD} (hx:Callee F x f pre post σ) {ys:List TD} (hys:q38 σ xs.toList=some ys) (hb:q5h P f=true) (hsl:σ'.slots=σ.slots) {d:TD}
  (hcall : ∀e w (vs:Array Value),Hp F (eS σ) e w->q0b (q1l e (eS σ) w) vs.toList ((pre++ys++post).map eD)->Calls P f vs w fun en w'=>∃ v e',en = .returned v/\Fwd e (eS σ) w e' (eS σ') w'/\Hp F (eS σ') e' w'/\q1l e' (eS σ') w' v (eD d))
  (h:qg5 P F ops rest (eS (σ'.put o.dst d)) Q):qg5 P F ops (o::rest) (eS σ) Q:=by
 intro hn hall e a w hR
 have hd:=hall o (List.mem_cons_self ..)
 have hrest : ∀o∈rest,qml F.n o=true:=fun o' ho'=>hall o' (List.mem_cons_of_mem _ ho')
 unfold wpList
 rw [q73 hR hw (fun g _ t ht=>q2e hn ht),if_pos rfl]
 refine .inl ?_
 obtain ⟨fi,cap,h2,h3f,h3⟩:=hx e a w hR
 have hrun:(execOp a.eval o).run P w = .ok (.enter f (fi++xs.map a.eval++cap)) w:=by
  have:=qj5 hb (fi++xs.map a.eval++cap) w
  simp only [execOp,ho,resolve,h2,Deferred.ofValue,invoke,Sem.run_bind,Sem.run_pure,Result.andThen_ok,this]
 unfold Oper.wp
 rw [hrun]
 refine (hcall e w (fi++xs.map a.eval++cap) hR.hp ?_).mono ?_
 ·rw [Array.toList_append,Array.toList_append,Array.toList_map,List.map_append,List.map_append]
  have:=qeu hR xs.toList
  rw [q9z hys] at this
  exact (h3f.append this).append h3
 ·rintro en w' ⟨v,e',rfl,h4,h5,h6⟩
  have hs:(eS σ').slot=(eS σ).slot:=by
   show (fun i=>match lk σ'.slots i with|some x=>eD x|none=>.one (.c .bad))=(fun i=>match lk σ.slots i with|some x=>eD x|none=>.one (.c .bad))
   rw [hsl]
  have:=hR.next h4 h5 hs o.dst (qaw hd) v (eD d) h6
  rw [<-qbw] at this
  exact h hn hrest e' _ _ this
def TSt.know (σ:TSt) (t:Nat) (b:Bool):TSt:=σ.put (some t) (.one (.c (.d .bool b)))
theorem jbd {t:Nat} {b:Bool} (h:lk σ.slots t=some (.one (.c (.d .bool b)))):eS (σ.know t b)=eS σ:=by
 unfold TSt.know
 rw [qbw]
 show ({ eS σ with slot:=upd (eS σ).slot t _ } : St)=eS σ
 have e1:(eS σ).slot t=eD (.one (.c (.d .bool b))):=by show (match lk σ.slots t with|some x=>eD x|none=>_)=_;rw [h]
 have e2:upd (eS σ).slot t (eD (.one (.c (.d .bool b))))=(eS σ).slot:=by
  funext i
  rw [jfq]
  split
  ·rename_i hi;subst hi;exact e1.symm
  ·rfl
 rw [e2]
def j4l (ops:List Oper) (o:Oper) (σ:TSt) (yes no:TSt->Option α):Option α:=match o.guard with
 | none=>yes σ
 | some (g,want)=>match nth ops g with
  | some og=>match og.dst with
   | some t=>match lk σ.slots t with
    | some (.one (.c (.d .bool b)))=>match want with
     | true=>bif b then yes (σ.know t true) else no (σ.know t false)
     | false=>bif b then no (σ.know t true) else yes (σ.know t false)
    | some (.one (.c .undef))=>no σ
    | _=>none
   | none=>none
  | none=>none
theorem qm7 {ops:List Oper} {o:Oper} {yes no:TSt->Option α} {r:α} (h:j4l ops o σ yes no=some r) :
  ∃ σ',eS σ'=eS σ/\((q47 ops.toArray (eS σ') o=some true/\yes σ'=some r)\/(q47 ops.toArray (eS σ') o=some false/\no σ'=some r)):=by
 unfold j4l at h
 unfold q47
 split at h
 ·rename_i hg
  rw [hg];exact ⟨σ,rfl,Or.inl ⟨rfl,h⟩⟩
 ·rename_i g want hg
  split at h
  case h_2=>cases h
  rename_i og hog
  split at h
  case h_2=>cases h
  rename_i t ht
  rw [q5k] at hog
  have e1:(ops.toArray[g]?).bind (·.dst)=some t:=by simp [hog,ht]
  rw [hg]
  simp only [e1]
  split at h
  ·rename_i b hb
   have e2:(eS σ).slot t = .one (.c (.d (.v (.bool b)))):=by show (match lk σ.slots t with|some x=>eD x|none=>_)=_;rw [hb];rfl
   refine ⟨σ.know t b,jbd hb,?_⟩
   rw [jbd hb,e2]
   simp only
   split at h
   ·cases b with
    | true=>exact Or.inl ⟨rfl,h⟩
    | false=>exact Or.inr ⟨rfl,h⟩
   ·cases b with
    | true=>exact Or.inr ⟨rfl,h⟩
    | false=>exact Or.inl ⟨rfl,h⟩
  ·rename_i hb
   have e2:(eS σ).slot t = .one (.c (.d (.v undef))):=by show (match lk σ.slots t with|some x=>eD x|none=>_)=_;rw [hb];rfl
   refine ⟨σ,rfl,?_⟩
   rw [e2]
   exact Or.inr ⟨rfl,h⟩
  ·cases h
def jr1:TC->Ty->TC
 | .nil,.lst e=>.d (.lst e) []
 | c,_=>c
def j0j:List Ty->List TC->List TC
 | t::ts,c::cs=>jr1 c t::j0j ts cs
 | _,cs=>cs
def tyCs:Ty->List Ty
 | .prod a b=>tyCs a++tyCs b
 | t=>[t]
def jcx (P:Program) (dst:Option Nat) (t:TypeId) (n:Nat) (ps:Array (Nat×Operand)) (σ:TSt) (k:TRes->Option α):Option α:=match P.underlying t,dst with
 | some (.slice el),some i=>match lk σ.rows i,qn4 P el,tyE P el,qmw σ ps.toList with
  | none,some z,some e,some qs=>match qnw z with
   | some zt=>if tsz P el=some (width e)/\n*width e<=2 ^ 24/\n<=2 ^ 24/\z.length=width e/\0<width e/\z.all Value.oneCell'=true/\el<1099511627776 then match qz0 (fun i=>some (i*width e,width e)) (rep zt n) qs with
     | some cs=>match j2s e n (j0j (rep (tyCs e) n) cs) with
      | some xs=>k { val:=.one (.c (.row i 0)),row:=some (i,⟨0,el,true,e,xs⟩) }
      | none=>none
     | none=>none
    else none
   | none=>none
  | _,_,_,_=>none
 | _,_=>none
def RelC (c c':C):Prop:=c=c'\/(c = .d (.v (.slice none 0 0))/\∃ sz,c' = .d (.lst sz []))
def RelN (d d':Dat):Prop:=d=d'\/(d = .v (.slice none 0 0)/\∃ sz,d' = .lst sz [])
theorem j4z : ∀(ts:List Ty) (cs:List TC),q0b RelC (cs.map eC) ((j0j ts cs).map eC)
 | [],cs=>by
  have:j0j [] cs=cs:=by cases cs<;>rfl
  rw [this]
  induction cs with
  | nil=>trivial
  | cons c cs ih=>exact ⟨Or.inl rfl,ih (by cases cs<;>rfl)⟩
 | t::ts,[]=>trivial
 | t::ts,c::cs=>by
  refine ⟨?_,j4z ts cs⟩
  show RelC (eC c) (eC (jr1 c t))
  unfold jr1
  split
  ·exact Or.inr ⟨rfl,_,rfl⟩
  ·exact Or.inl rfl
theorem j5w : ∀{l:List C} {m:List Dat},q0b RelC l (m.map C.d)->∃ ds,l=ds.map C.d/\q0b RelN ds m
 | [],[],_=>⟨[],rfl,trivial⟩
 | [],_::_,h=>h.elim
 | _::_,[],h=>h.elim
 | c::l,d::m,h=>by
  obtain ⟨ds,rfl,h2⟩:=j5w h.2
  rcases h.1 with rfl|⟨rfl,sz,h3⟩
  ·exact ⟨d::ds,rfl,Or.inl rfl,h2⟩
  ·simp only [C.d.injEq] at h3
   exact ⟨.v (.slice none 0 0)::ds,rfl,Or.inr ⟨rfl,sz,h3⟩,h2⟩
theorem j60 {β:Type} (w:Nat) : ∀{l:List (List β)},(∀x∈l,x.length=w)->l.flatten.length=l.length*w
 | [],_=>by simp
 | x::l,h=>by rw [List.flatten_cons,List.length_append,j60 w fun y hy=>h y (List.mem_cons_of_mem _ hy),h x (List.mem_cons_self ..),List.length_cons,Nat.add_mul,Nat.one_mul,Nat.add_comm]
theorem jgf {dst:Option Nat} {t:TypeId} {n:Nat} {ps:Array (Nat×Operand)} {k:TRes->Option α} {r:α} (h:jcx P dst t n ps σ k=some r) :
  ∃ (i el:Nat) (e:Ty) (xs:List (den e)) (ds:List Dat),k { val:=.one (.c (.row i 0)),row:=some (i,⟨0,el,true,e,xs⟩) } = some r/\q0x P dst t n ps (opnd (eS σ)) (eS σ).row=some { cond:=True,val:=.one (.c (.row i 0)),row:=some (i,⟨0,el,width e,true,chunk (width e) n ds⟩) } /\
   ds.length=n*width e/\(xs.map (q01 e)).length=n/\q0b RelN ds (xs.map (q01 e)).flatten:=by
 unfold jcx at h
 split at h
 case h_2=>cases h
 rename_i el i hu
 split at h
 case h_2=>cases h
 rename_i z e qs hr hz he hqs
 split at h
 case h_2=>cases h
 rename_i zt hzt
 split at h
 case isFalse=>cases h
 rename_i hc
 obtain ⟨c1,c2,c3,c4,c5,c6,c7⟩:=hc
 split at h
 case h_2=>cases h
 rename_i cs hcs
 split at h
 case h_2=>cases h
 rename_i xs hxs
 obtain ⟨k1,k2⟩:=qtt hxs
 have h2:=qec hcs
 rw [ql2,q5u hzt,<-ql2] at h2
 have hrel:=j4z (rep (tyCs e) n) cs
 rw [k1] at hrel
 obtain ⟨ds,hds,hrn⟩:=j5w hrel
 have hl:(xs.map (q01 e)).length=n:=by rw [<-k2,qf0]
 have hfl:(xs.map (q01 e)).flatten.length=n*width e:=by
  rw [j60 (width e),hl]
  intro x hx
  obtain ⟨y,_,rfl⟩:=List.mem_map.1 hx
  exact q0c e y
 refine ⟨i,el,e,xs,ds,h,?_,by rw [hrn.length,hfl],hl,hrn⟩
 simp only [q0x,hu,q9g hr,c1,hz,qf3 hqs]
 rw [if_pos ⟨c2,c3,c4,c5,c6,c7⟩,h2]
 simp only [hds,q87]
theorem j55 {Pc:Nat->Nat->Prop} {w:World} : ∀{vs:List Value} {ds ds':List Dat},q0b RelN ds ds'->q0b (DatRep Pc w) vs ds->q0b (DatRep Pc w) vs ds'
 | [],[],[],_,_=>trivial
 | v::vs,d::ds,d'::ds',hr,hv=>by
  refine ⟨?_,j55 hr.2 hv.2⟩
  rcases hr.1 with rfl|⟨rfl,sz,rfl⟩
  ·exact hv.1
  ·have h1:q2k (q57 Pc) q7p w v (.d (.v (.slice none 0 0))):=hv.1
   have:v = .slice none 0 0:=qai h1
   subst this
   exact qnv _
 | [],[],_::_,hr,_=>hr.elim
 | [],_::_,_,_,hv=>hv.elim
 | _::_,[],_,_,hv=>hv.elim
 | _::_,_::_,[],hr,_=>hr.elim
theorem r_row {F:Fr} {σ1 σ2:St} {i:Nat} {r1 r2:Row} (hs:σ2.slot=σ1.slot) (hb:σ2.box=σ1.box) (h1:σ1.row i=some r1) (h2:σ2.row i=some r2) (hne : ∀t,t≠i->σ2.row t=σ1.row t)
  (hg:r2.gen=r1.gen) (hE:r2.E=r1.E) (hsz:r2.sz=r1.sz) (hwr:r2.wr=r1.wr) (hlen:r2.xs.length=r1.xs.length) (hx : ∀x∈r2.xs,x.length=r2.sz)
  (hrel : ∀(Pc:Nat->Nat->Prop) (w:World) (cells:List Value),q0b (DatRep Pc w) cells r1.xs.flatten->q0b (DatRep Pc w) cells r2.xs.flatten) {e:Env} {a:Act} {w:World} (hR:R F σ1 e a w):R F σ2 e a w:=by
 have hp:=hR.hp
 have was : ∀t r,σ2.row t=some r->∃ r',σ1.row t=some r'/\r.gen=r'.gen/\r.E=r'.E/\r.sz=r'.sz/\r.wr=r'.wr/\r.xs.length=r'.xs.length/\(r=r'\/(r=r2/\r'=r1)):=fun t r hr=>by
  by_cases ht:t=i
  ·subst ht
   rw [h2] at hr
   obtain rfl:=Option.some.inj hr
   exact ⟨r1,h1,hg,hE,hsz,hwr,hlen,Or.inr ⟨rfl,rfl⟩⟩
  ·rw [hne t ht] at hr
   exact ⟨r,hr,rfl,rfl,rfl,rfl,rfl,Or.inl rfl⟩
 have hf:Fwd e σ1 w e σ2 w:=⟨fun _ _ h=>h,fun _ _ _=>rfl,fun β h=>⟨by rw [hb];exact h,rfl⟩,fun t r g hr hgr=>by
  by_cases ht:t=i
  ·subst ht
   rw [h1] at hr
   obtain rfl:=Option.some.inj hr
   exact ⟨⟨r2,h2,by rw [hg];exact hgr,hsz⟩,rfl⟩
  ·exact ⟨⟨r,by rw [hne t ht];exact hr,hgr,rfl⟩,rfl⟩⟩
 refine ⟨hR.defers,hR.size,fun j=>by rw [hs];exact (hR.slots j).fwd hf,hp.below,hp.pc0,hp.pcNew,hp.pcLt,fun β T cs hc=>?_,fun β hβ=>hp.boxPc β (by rw [<-hb];exact hβ),fun β β' hβ hβ'=>hp.boxNe β β' (by rw [<-hb];exact hβ) (by rw [<-hb];exact hβ'),fun t r hr=>?_,fun t r b hr hw=>?_,fun t r b hr hbb o ho=>?_,fun t r b β hr hbb hβ=>?_,fun t t' r r' b hn hr hr' hbb=>?_,⟨hp.kp.keep,hp.kp.wkLe,fun β hβ=>hp.kp.boxK β (by rw [<-hb];exact hβ),fun t r b hr hbb=>?_,hp.kp.pcK,hp.kp.cellK,hp.kp.boxM,fun t v0 r h0 hr=>?_⟩⟩
 ·rw [hb] at hc
  obtain ⟨g0,g1⟩:=hp.boxes β T cs hc
  exact ⟨g0,g1.fwd hf rfl⟩
 ·obtain ⟨r',k0,k1,k2,k3,k4,k5,k6⟩:=was t r hr
  obtain ⟨l1,cells,l2,l3,l4⟩:=hp.rows t r' k0
  rcases k6 with rfl|⟨rfl,rfl⟩
  ·exact ⟨l1,cells,l2,l3,l4⟩
  ·exact ⟨hx,cells,by rw [k1,k2,k3,k5];exact l2,hrel _ _ _ l3,l4⟩
 ·obtain ⟨r',k0,k1,k2,k3,k4,k5,k6⟩:=was t r hr
  rw [k1,k3,k5]
  exact hp.rowPro t r' b k0 (by rw [<-k4];exact hw)
 ·obtain ⟨r',k0,k1,k2,k3,k4,k5,k6⟩:=was t r hr
  rw [k1] at hbb
  rw [k3,k4,k5]
  exact hp.rowPc t r' b k0 hbb o ho
 ·obtain ⟨r',k0,k1,k2,k3,k4,k5,k6⟩:=was t r hr
  rw [k1] at hbb
  exact hp.rowBox t r' b β k0 hbb (by rw [<-hb];exact hβ)
 ·obtain ⟨q,k0,k1,k2,k3,k4,k5,k6⟩:=was t r hr
  obtain ⟨q',m0,m1,m2,m3,m4,m5,m6⟩:=was t' r' hr'
  rw [k1] at hbb
  rw [m1]
  exact hp.rowNe t t' q q' b hn k0 m0 hbb
 ·obtain ⟨r',k0,k1,k2,k3,k4,k5,k6⟩:=was t r hr
  rw [k1] at hbb
  exact hp.kp.rowK t r' b k0 hbb
 ·obtain ⟨r',k0,k1,k2,k3,k4,k5,k6⟩:=was t r hr
  rw [k1]
  exact hp.kp.rowM t v0 r' h0 k0
theorem jif {ops:Array Oper} {o:Oper} {rest:List Oper} {Q:St->Prop} {i el n:Nat} {e:Ty} {xs:List (den e)} {ds:List Dat} (hw:q47 ops (eS σ) o=some true)
  (he:qce P o (opnd (eS σ)) (eS σ).box (eS σ).row=some { cond:=True,val:=.one (.c (.row i 0)),row:=some (i,⟨0,el,width e,true,chunk (width e) n ds⟩) }) (hl:ds.length=n*width e) (hn:(xs.map (q01 e)).length=n) (hr:q0b RelN ds (xs.map (q01 e)).flatten)
  (h:qg5 P F ops rest (eS ((σ.app { val:=.one (.c (.row i 0)),row:=some (i,⟨0,el,true,e,xs⟩) }).put o.dst (.one (.c (.row i 0))))) Q):qg5 P F ops (o::rest) (eS σ) Q:=by
 refine qlq hw he trivial fun hn1 hall ee a w hR=>?_
 rw [qbw,qxe _ _ True] at h
 refine h hn1 hall ee a w (r_row (i:=i) (r1:=⟨0,el,width e,true,chunk (width e) n ds⟩) (r2:=eR ⟨0,el,true,e,xs⟩) ?_ ?_ ?_ ?_ ?_ rfl rfl rfl rfl ?_ ?_ ?_ hR)
 ·cases o.dst<;>rfl
 ·cases o.dst<;>rfl
 ·cases o.dst<;>exact q0n _ _ _
 ·cases o.dst<;>exact q0n _ _ _
 ·intro t ht
  cases o.dst<;>exact (q3e _ _ ht).trans (q3e _ _ ht).symm
 ·show (xs.map (q01 e)).length=(chunk (width e) n ds).length
  rw [hn,qf0]
 ·intro x hx
  obtain ⟨y,_,rfl⟩:=List.mem_map.1 hx
  exact q0c e y
 ·intro Pc w' cells hc
  show q0b (DatRep Pc w') cells (xs.map (q01 e)).flatten
  have hc':q0b (DatRep Pc w') cells (chunk (width e) n ds).flatten:=hc
  rw [qgx n ds hl] at hc'
  exact j55 hr hc'
def Wk (F:Fr) (σ σ':St):Prop:=∀e a w,R F σ e a w->∃ e',R F σ' e' a w
def jpy (P:Program) (q:Nat->Bool) (σ:TSt) (z:Nat×List TC):Nat×List TC:=(z.1,bif q7e z.1 then j0j ((tysP P 9 z.1).getD []) (z.2.map (jqq q σ)) else z.2)
def jl8 (P:Program) (q:Nat->Bool) (σ:TSt):TSt:=⟨σ.slots.map fun p=>(p.1,jnw q σ p.2),σ.boxes.map fun p=>(p.1,jpy P q σ p.2),σ.rows⟩
theorem jc4 {β γ:Type} (f:β->γ) : ∀(l:List (Nat×β)) (i:Nat),lk (l.map fun p=>(p.1,f p.2)) i=(lk l i).map f
 | [],i=>rfl
 | (j,x)::l,i=>by
  show lk ((j,f x)::l.map fun p=>(p.1,f p.2)) i=_
  rw [q0f,q0f,jc4 f l i]
  split<;>rfl
theorem j5s {σ:St} {e:Env} {w:World} : ∀{ts:List Ty} {cs:List TC} {vs:List Value},q0b (q2k e σ w) vs (cs.map eC)->q0b (q2k e σ w) vs ((j0j ts cs).map eC)
 | [],cs,vs,h=>by
  have:j0j [] cs=cs:=by cases cs<;>rfl
  rw [this];exact h
 | t::ts,[],vs,h=>h
 | t::ts,c::cs,[],h=>h.elim
 | t::ts,c::cs,v::vs,h=>by
  refine ⟨?_,j5s h.2⟩
  have h1:q2k e σ w v (eC c):=h.1
  show q2k e σ w v (eC (jr1 c t))
  unfold jr1
  split
  ·have:v = .slice none 0 0:=qai h1
   subst this
   show DatRep e.Pc w _ _
   exact qnv _
  ·exact h1
theorem jbm {F:Fr} (P:Program) (q:Nat->Bool) (σ:TSt):Wk F (eS σ) (eS (jl8 P q σ)):=fun e a w hR=>by
 have hp:=hR.hp
 have hbx : ∀β,(eS (jl8 P q σ)).box β=(lk σ.boxes β).map fun z=>eB (jpy P q σ z):=fun β=>by
  show (lk (σ.boxes.map fun p=>(p.1,jpy P q σ p.2)) β).map eB=_
  rw [jc4 (jpy P q σ) σ.boxes β,Option.map_map];rfl
 have hbs : ∀β,((eS (jl8 P q σ)).box β).isSome=((eS σ).box β).isSome:=fun β=>by
  rw [hbx]
  show _=((lk σ.boxes β).map eB).isSome
  cases lk σ.boxes β<;>rfl
 have hrw:(eS (jl8 P q σ)).row=(eS σ).row:=rfl
 have hf:Fwd e (eS σ) w e (eS (jl8 P q σ)) w:=⟨fun _ _ h=>h,fun _ _ _=>rfl,fun β h=>⟨by rw [hbs];exact h,rfl⟩,fun t r g h hg=>⟨⟨r,by rw [hrw];exact h,hg,rfl⟩,rfl⟩⟩
 refine ⟨e,hR.defers,hR.size,fun i=>?_,hp.below,hp.pc0,hp.pcNew,hp.pcLt,fun β T cs hx=>?_,fun β hβ=>hp.boxPc β (by rw [<-hbs];exact hβ),fun β β' hβ hβ'=>hp.boxNe β β' (by rw [<-hbs];exact hβ) (by rw [<-hbs];exact hβ'),fun t r hr=>hp.rows t r hr,fun t r b hr=>hp.rowPro t r b hr,fun t r b hr=>hp.rowPc t r b hr,
  fun t r b β hr hb hβ=>hp.rowBox t r b β hr hb (by rw [<-hbs];exact hβ),fun t t' r r' b hn hr hr'=>hp.rowNe t t' r r' b hn hr hr',⟨hp.kp.keep,hp.kp.wkLe,fun β hβ=>hp.kp.boxK β (by rw [<-hbs];exact hβ),fun t r b hr=>hp.kp.rowK t r b hr,hp.kp.pcK,hp.kp.cellK,hp.kp.boxM,fun t v0 r h0 hr=>hp.kp.rowM t v0 r h0 hr⟩⟩
 ·have h0:=hR.slots i
  have e1:(eS (jl8 P q σ)).slot i=match lk σ.slots i with|some x=>eD (jnw q σ x)|none=>.one (.c .bad):=by
   show (match lk (σ.slots.map fun p=>(p.1,jnw q σ p.2)) i with|some x=>eD x|none=>_)=_
   rw [jc4 (jnw q σ) σ.slots i]
   cases lk σ.slots i<;>rfl
  rw [e1]
  have h1:q1l e (eS σ) w (a.tmps.getD i undef) (match lk σ.slots i with|some x=>eD x|none=>.one (.c .bad)):=h0
  cases hs:lk σ.slots i with
  | none=>trivial
  | some x =>
   rw [hs] at h1
   exact (j63 hp h1).fwd hf
 ·rw [hbx] at hx
  obtain ⟨z,hq,hx⟩:=Option.map_eq_some_iff.1 hx
  obtain ⟨T',cs'⟩:=z
  simp only [eB,jpy,Prod.mk.injEq] at hx
  obtain ⟨rfl,rfl⟩:=hx
  obtain ⟨g0,hB⟩:=hp.boxes β T' (cs'.map eC) (q5j hq)
  refine ⟨g0,?_⟩
  cases hpb:q7e T' with
  | false =>
   exact hB.fwd hf rfl
  | true =>
  obtain ⟨vs,g1,g2,g3⟩:=hB.cells (q3o hpb)
  refine Or.inl ⟨q3o hpb,vs,g1,?_,g3⟩
  have:=qso (q:=q) (x:=.agg cs') hp ⟨vs,rfl,g2⟩
  obtain ⟨vs',h5,h6⟩:=this
  simp only [Value.agg.injEq] at h5
  subst h5
  exact (j5s h6).mono fun _ _=>q2k.fwd hf
theorem j5c {F:Fr} (q:Nat->Bool) (σ:TSt):Wk F (eS σ) (eS (qel q σ)):=fun e a w hR=>by
 obtain ⟨e',hf,hh⟩:=hR.hp.frzB q
 rw [qjy]
 exact ⟨e',hR.defers,hR.size,fun i=>(hR.slots i).fwd hf,hh⟩
def jmz:List TC->List Nat
 | []=>[]
 | .row t _::cs=>t::jmz cs
 | _::cs=>jmz cs
def jo5 (σ:TSt):List (Nat×Operand)->List Nat
 | []=>[]
 | p::ps=>match q0p σ p.2 with
  | some (.one x)=>jmz (q77 x)++jo5 σ ps
  | _=>jo5 σ ps
def jgs (P:Program) (o:Oper) (ps:List (Nat×Operand)) (σ:TSt):TSt:=match o.guard,jo5 σ ps with
 | none,t::ts=>jl8 P (fun x=>(t::ts).any (Nat.beq x)) (qel (fun x=>(t::ts).any (Nat.beq x)) σ)
 | _,_=>σ
theorem j1j {F:Fr} (P:Program) (o:Oper) (ps:List (Nat×Operand)) (σ:TSt):Wk F (eS σ) (eS (jgs P o ps σ)):=by
 unfold jgs
 split
 ·rename_i t ts _ _
  exact fun e a w hR=>by
   obtain ⟨e',h1⟩:=j5c (fun x=>(t::ts).any (Nat.beq x)) σ e a w hR
   exact jbm P (fun x=>(t::ts).any (Nat.beq x)) (qel (fun x=>(t::ts).any (Nat.beq x)) σ) e' a w h1
 ·exact fun e a w hR=>⟨e,hR⟩
theorem qk9 {ops:Array Oper} (P:Program) {o:Oper} (ps:List (Nat×Operand)) {σ:TSt} (h:q47 ops (eS σ) o=some true):q47 ops (eS (jgs P o ps σ)) o=some true:=by
 unfold jgs
 split
 ·rename_i hg _
  unfold q47
  rw [hg]
 ·exact h
theorem j0h {P:Program} {F:Fr} {ops:Array Oper} {l:List Oper} {σ σ':St} {Q:St->Prop} (h:Wk F σ σ') (hc:qg5 P F ops l σ' Q):qg5 P F ops l σ Q:=fun hn hall e a w hR=>by
 obtain ⟨e',hR'⟩:=h e a w hR
 exact hc hn hall e' a w hR'
def undD:TD:=.one (.c .undef)
def stepT (P:Program) (ct:List FC) (o:Oper) (σ:TSt) (k:TSt->Option α):Option α:=match o.op with
 | .call ⟨.value x,xs,ts⟩=>match q0p σ x,q38 σ xs.toList with
  | some (.one (.c (.fn f cs))),some ys=>qm9 ct (jqf f cs) σ (jqn f cs++ys++jb7 f cs) (fun σ' d=>k (σ'.put o.dst d))
  | some (.one (.c (.d .any v))),some ys=>jje ct v σ ys (fun σ' d=>k (σ'.put o.dst d)) (fsOf ys.length ct)
  | _,_=>none
 | .buildSlice t n ps=>jcx P o.dst t n ps (jgs P o ps.toList σ) fun t=>k (((jgs P o ps.toList σ).app t).put o.dst t.val)
 | .insert _ _ _ x=>tev P o (jgs P o [(0,x)] σ) fun t=>k (((jgs P o [(0,x)] σ).app t).put o.dst t.val)
 | .mapUpdate _ _ _ x=>tev P o (jgs P o [(0,x)] σ) fun t=>k (((jgs P o [(0,x)] σ).app t).put o.dst t.val)
 | _=>tev P o σ fun t=>k ((σ.app t).put o.dst t.val)
def qi6 (P:Program) (ct:List FC) (ops:List Oper):List Oper->TSt->(TSt->Option α)->Option α
 | [],σ,k=>k σ
 | o::rest,σ,k=>j4l ops o σ (fun σ=>stepT P ct o σ fun σ'=>qi6 P ct ops rest σ' k) (fun σ=>qi6 P ct ops rest (σ.put o.dst undD) k)
theorem qsn {σa:St} (hp:Hp F σa e w):Rd sh0 σ F σa e w q7p (q57 e.Pc) :=
 ⟨hp,rfl,fun β h=>(by cases h),fun t h=>(by cases h)⟩
theorem jfa {ops:Array Oper} {o:Oper} {σ:St} : q47 ops (frz σ) o=q47 ops σ o:=rfl
theorem jdr {x:Operand} {f:Nat} (h:q0p σ x=some (.one (.c (.fn f [])))):callee (eS σ) x=some f:=by
 unfold callee
 rw [q05 h];rfl
theorem qxl (b:Bool) (x:Operand):q0p (qlz b σ) x=q0p σ x:=by
 cases b<;>cases x<;>rfl
theorem qqp (b:Bool) : ∀xs:List Operand,q38 (qlz b σ) xs=q38 σ xs
 | []=>rfl
 | x::xs=>by unfold q38;rw [qxl,qqp b xs]
theorem jcq {σ:St} {a:Act} (hR:R F σ e a w) (xs:List Operand):q0b (q1l e σ w) (xs.map a.eval) (xs.map (opnd σ)):=qeu hR xs
theorem q4b {ct:List FC} (hct : ∀c∈ct,qyj P F.G c) {ops:List Oper} {r:α} : ∀{l:List Oper} {σ:TSt} {k:TSt->Option α} {Q:St->Prop},qi6 P ct ops l σ k=some r->(∀σ',k σ'=some r->Q (eS σ'))->qg5 P F ops.toArray l (eS σ) Q
 | [],σ,k,Q,h,hq=>j71 (hq σ h)
 | o::rest,σ,k,Q,h,hq=>by
  unfold qi6 at h
  obtain ⟨σ0,hσ0,h⟩:=qm7 h
  rw [<-hσ0]
  clear hσ0
  rename TSt=>σ
  rcases h with ⟨hw,h⟩|⟨hw,h⟩
  ·unfold stepT at h
   split at h
   ·rename_i x xs ts ho
    have main : ∀(f:Nat) (pre post ys:List TD),(∀σ':TSt,q0p σ' x=q0p σ x->Callee F x f pre post σ')->q38 σ xs.toList=some ys->qm9 ct f σ (pre++ys++post) (fun σ' d=>qi6 P ct ops rest (σ'.put o.dst d) k)=some r->qg5 P F ops.toArray (o::rest) (eS σ) Q:=fun f pre post ys hx hys h=>by
     obtain ⟨c,hc1,rfl,hcase⟩:=q7q h
     clear h
     have g1:=(hct c hc1).1
     rcases hcase with ⟨hno,a,y,h1,h2,h3⟩|⟨xc,hxc,p,q,hpx,hqx,h3⟩
     ·have key:qg5 P F ops.toArray (o::rest) (eS (qlz (qe6 (pre++ys++post)) σ)) Q:=by
       have hw':q47 ops.toArray (eS (qlz (qe6 (pre++ys++post)) σ)) o=some true:=by
        cases hb:qe6 (pre++ys++post) with
        | false=>exact hw
        | true=>show q47 _ (eS (j3v σ)) o=_;rw [qxx,jfa];exact hw
       refine qrf (σ':=qlz (qe6 (pre++ys++post)) σ) hw' ho (hx _ (qxl _ _)) (by rw [qqp];exact hys) g1 rfl (d:=rD c.res y) (fun e w vs hh hv=>?_) (q4b hct h3 hq)
       exact qfq ((hct c hc1).pure hno a y h2) hh (j6q (qsn hh) h1 (fun x _=>j2m x) hv)
      cases hb:qe6 (pre++ys++post) with
      | false=>rw [hb] at key;exact key
      | true =>
       rw [hb] at key
       have key':qg5 P F ops.toArray (o::rest) (eS (j3v σ)) Q:=key
       rw [qxx] at key'
       exact jjb key'
     ·obtain ⟨hf,hX⟩:=(hct c hc1).xs hxc
      obtain ⟨σ',d,h4,h5,h6⟩:=ji0 hX hpx hqx h3
      have tz : ∀y:Operand,q0p (q8i xc (pre++ys++post) σ) y=q0p σ y:=fun y=>by cases y<;>rfl
      have key:qg5 P F ops.toArray (o::rest) (eS (q8i xc (pre++ys++post) σ)) Q:=by
       refine qrf (σ':=σ') (pre:=pre) (post:=post) (ys:=ys) (d:=d) (f:=c.f) (by show q47 _ (eS (qel _ σ)) o=_;rw [qjy];exact hw) ho (hx _ (tz x)) ?_ g1 h5 (fun e w vs hh hv=>by rw [<-hf];exact h6 e w vs hh (qvv hh hv)) (q4b hct h4 hq)
       rw [<-hys]
       have : ∀l:List Operand,q38 (q8i xc (pre++ys++post) σ) l=q38 σ l:=by
        intro l
        induction l with
        | nil=>rfl
        | cons y l ih =>
         unfold q38
         rw [ih,tz y]
       exact this _
      unfold q8i at key
      rw [qjy] at key
      exact jdm _ key
    split at h
    ·rename_i f cs ys hx hys
     exact main _ _ _ ys (fun σ' h'=>jgo (h'.trans hx)) hys h
    ·rename_i v ys hx hys
     obtain ⟨f,hv,h1⟩:=qr8 h
     refine main f [] [] ys (fun σ' h'=>jb1 (h'.trans hx) hv) hys ?_
     simpa using h1
    ·cases h
   ·rename_i t n ps ho
    obtain ⟨i,el,e,xs,ds,h1,h2,h3,h4,h5⟩:=jgf h
    refine j0h (j1j P o ps.toList σ) (jif (n:=n) (qk9 P ps.toList hw) ?_ h3 h4 h5 (q4b hct h1 hq))
    unfold qce
    rw [ho]
    exact h2
   ·rename_i x ho
    obtain ⟨t,h1,c,hc,he⟩:=j5v h
    refine j0h (j1j P o [(0,x)] σ) (qlq (qk9 P [(0,x)] hw) he hc ?_)
    have:=q4b hct h1 hq
    rw [qbw,qxe _ _ c] at this
    exact this
   ·rename_i x ho
    obtain ⟨t,h1,c,hc,he⟩:=j5v h
    refine j0h (j1j P o [(0,x)] σ) (qlq (qk9 P [(0,x)] hw) he hc ?_)
    have:=q4b hct h1 hq
    rw [qbw,qxe _ _ c] at this
    exact this
   ·obtain ⟨t,h1,c,hc,he⟩:=j5v h
    refine qlq hw he hc ?_
    have:=q4b hct h1 hq
    rw [qbw,qxe _ _ c] at this
    exact this
  ·refine qz6 hw ?_
   have:=q4b hct h hq
   rw [qbw] at this
   exact this
def jbz:TC->List Loc
 | .box β _=>[.b β]
 | .row t _=>[.r t]
 | .wp t _ _ _=>[.r t]
 | .bp β _ _ _=>[.b β]
 | .mv β=>[.b β]
 | _=>[]
def qzr:List TC->List Loc
 | []=>[]
 | c::cs=>jbz c++qzr cs
def j76:TD->List Loc
 | .one (.c x)=>jbz x
 | .one (.agg cs)=>qzr cs
 | .tup _=>[]
theorem j7f : ∀x:TC,qxa (eC x)=jbz x
 | .d _ _=>rfl
 | .nil=>rfl
 | .box _ _=>rfl
 | .row _ _=>rfl
 | .rp _ _ _=>rfl
 | .wp _ _ _ _=>rfl
 | .bp _ _ _ _=>rfl
 | .mv _=>rfl
 | .fn _ []=>rfl
 | .fn _ (_::_)=>rfl
 | .undef=>rfl
 | .bad=>rfl
theorem qw2 : ∀cs:List TC,qp3 (cs.map eC)=qzr cs
 | []=>rfl
 | c::cs=>by rw [List.map_cons,qp3,j7f,qw2 cs];rfl
theorem qvp (x:TD):q69 (eD x)=j76 x:=by
 cases x with
 | one x=>cases x with
  | c x=>exact j7f x
  | agg cs=>exact qw2 cs
 | tup xs=>rfl
def opL:Op->List Operand
 | .alloc _ | .ready _ | .waits _=>[]
 | .move x | .assign x | .box _ x | .load _ x | .unOp _ _ x | .convert _ _ x | .fieldAddr _ x _ | .field _ x _ | .extract x _ | .nilCheck x=>[x]
 | .pick c a b=>[c,a,b]
 | .build _ ps | .buildSlice _ _ ps=>ps.toList.map (·.2)
 | .store _ a v | .binOp _ _ a v _ | .indexAddr _ a v | .index _ a v=>[a,v]
 | .slice _ x none none none=>[x]
 | .slice _ x (some l) none none=>[x,l]
 | .slice _ x none (some h) none=>[x,h]
 | .slice _ x (some l) (some h) none=>[x,l,h]
 | .call ⟨.builtin _,xs,_⟩=>xs.toList
 | .call ⟨.value f,xs,_⟩=>f::xs.toList
 | .makeFunc _ ⟨[]⟩ xs=>xs.toList
 | op=>op.operands.toList
theorem jrc (op:Op):op.operands.toList=opL op:=by
 unfold opL
 split<;>simp [Op.operands,Call.operands]
def qjm (σ:TSt):List Operand->List Loc
 | []=>[]
 | x::xs=>(match q0p σ x with|some d=>j76 d|none=>[])++qjm σ xs
theorem qvn : ∀l:List Value,qp3 (l.map qns) = []
 | []=>rfl
 | x::l=>by rw [List.map_cons,qp3,qvn l];rfl
theorem jdk (x:Operand):q69 (opnd (eS σ) x)=(match q0p σ x with|some d=>j76 d|none=>[]):=by
 cases h:q0p σ x with
 | some d=>rw [q05 h];exact qvp d
 | none =>
  cases x with
  | tmp t =>
   have h':lk σ.slots t=none:=h
   show q69 (match lk σ.slots t with|some x=>eD x|none=>.one (.c .bad)) = []
   rw [h'];rfl
  | const v =>
   show q69 (j94 v) = []
   cases v<;>first|rfl|exact qvn _
  | func f=>cases h
  | global g=>rfl
theorem qkf : ∀xs:List Operand,qd0 (eS σ) xs=qjm σ xs
 | []=>rfl
 | x::xs=>by rw [qd0,qjm,jdk,qkf xs]
def jcz (ops:List Oper) (o:Oper):List Loc:=match o.guard with
 | some (g,_)=>match (nth ops g).bind (·.dst) with
  | some t=>[.s t]
  | none=>[]
 | none=>[]
def j4x (ops:List Oper) (σ:TSt) (o:Oper):List Loc:=jcz ops o++(qh9 (opL o.op)++(qjm σ (opL o.op)++qru o))
theorem qmx (ops:List Oper) (o:Oper):q3v ops.toArray (eS σ) o=j4x ops σ o:=by
 unfold q3v j4x qj7 jcz
 rw [jrc,qkf]
 congr 1
 cases o.guard with
 | none=>rfl
 | some p =>
  obtain ⟨g,b⟩:=p
  simp only [q5k,List.getElem?_toArray]
  cases (ops[g]?).bind (·.dst)<;>rfl
def wl (dst:Option Nat) (bx rw:Option Nat):List Loc:=(match dst with|some i=>[Loc.s i]|none=>[])++(match bx with|some i=>[Loc.b i]|none=>[])++(match rw with|some i=>[Loc.r i]|none=>[])
theorem wl_ok (rl:List Loc) (dst:Option Nat) (c:Prop) (t:TRes):qxy ⟨rl,dst,q9r c t⟩=wl dst (t.box.map (·.1)) (t.row.map (·.1)):=by
 obtain ⟨v,bx,rw⟩:=t
 unfold qxy wl q9r
 cases bx<;>cases rw<;>rfl
def OkS (ops:Array Oper) (es:List En):Prop:=es.length=ops.size/\(∀i j x y,i<j->es[i]? = some x->es[j]? = some y->q9b x y=true->Anc ops i j)/\(∀j o,ops[j]? = some o->∀ed∈o.after,Region.binds .any ed=true->ed.on<j)
def OkB (ops:Array Oper) (es:List En):Prop:=es.length<=ops.size/\(∀i j x y,i<j->es[i]? = some x->es[j]? = some y->q9b x y=true->Anc ops i j)/\(∀j o,ops[j]? = some o->∀ed∈o.after,Region.binds .any ed=true->ed.on<j) /\
 (∀i,i<es.length->es.length<ops.size->Anc ops i es.length)/\(∀i,es.length<=i->i+1<ops.size->Anc ops i (i+1))
theorem qqz {ops:Array Oper} {listed:Array Bool} (hc : ∀j o,ops[j]? = some o->listed.getD j false=true->∀ed∈o.after,Region.binds .any ed=true->listed.getD ed.on false=true) : ∀i j,Anc ops i j->listed.getD j false=true->listed.getD i false=true:=by
 intro i j han
 induction han with
 | one ho he hb hi=>intro hj;subst hi;exact hc _ _ ho hj _ he hb
 | more _ _ ih1 ih2=>intro hj;exact ih1 (ih2 hj)
theorem qz3 {ops:Array Oper} {listed:Array Bool} (hc : ∀j o,ops[j]? = some o->listed.getD j false=true->∀ed∈o.after,Region.binds .any ed=true->listed.getD ed.on false=true) : ∀i j,Anc ops i j->(∀o,ops[j]? = some o->∀ed∈o.after,Region.binds .any ed=true->listed.getD ed.on false=true)->listed.getD i false=true:=by
 intro i j han
 induction han with
 | one ho he hb hi=>intro hh;subst hi;exact hh _ ho _ he hb
 | more a1 _ ih1 ih2=>intro hh;exact qqz hc _ _ a1 (ih2 hh)
theorem qjz {listed:Array Bool} {j:Nat} (hj:j<listed.size) (hf:listed.getD j false=false):(listed.setIfInBounds j true).toList.countP (fun b=>!b)+1<=listed.toList.countP (fun b=>!b):=by
 rw [Array.toList_setIfInBounds]
 have hj2:j<listed.toList.length:=by simpa using hj
 have h2:listed.toList[j]=false:=by
  have:listed[j]=false:=by simpa [Array.getD,hj] using hf
  simpa using this
 exact count_set _ j hj2 h2
theorem jm2 {P:Program} {l:List Oper} {Q:Exit->Act->World->Prop} {m:Nat} (hdeps : ∀j o,l.toArray[j]? = some o->∀ed∈o.after,Region.binds .any ed=true->ed.on<j) (hseq : ∀i,m<=i->i+1<l.length->Anc l.toArray i (i+1)) :
  ∀(fuel t:Nat) (listed:Array Bool) (a:Act) (w:World),m<=t->listed.size=l.length->(∀i,i<l.length->listed.getD i false=decide (i<t))->listed.toList.countP (fun b=>!b)<=fuel->wpList P l.toArray Q (l.drop t) a w->wpAny P .any l.toArray Q fuel listed a w:=by
 intro fuel
 have hcl : ∀(t:Nat) (listed:Array Bool),listed.size=l.length->(∀i,i<l.length->listed.getD i false=decide (i<t))->∀j o,l.toArray[j]? = some o->listed.getD j false=true->∀ed∈o.after,Region.binds .any ed=true->listed.getD ed.on false=true:=fun t listed hsz hl j o ho hj ed hed hb=>by
  have h1:=hdeps j o ho ed hed hb
  have hjl:j<l.length:=by have:=(Array.getElem?_eq_some_iff.1 ho).1;simpa using this
  rw [hl j hjl] at hj
  rw [hl ed.on (by omega)]
  simp only [decide_eq_true_eq] at hj ⊢
  omega
 induction fuel with
 | zero =>
  intro t listed a w hm hsz hl hcount h
  have hall : ¬ t<l.length:=fun hlt=>by
   have h1:=hl t hlt
   rw [decide_eq_false (by omega)] at h1
   have:=qjz (listed:=listed) (j:=t) (by omega) h1
   omega
  have hd:l.drop t = []:=List.drop_of_length_le (by omega)
  rw [hd] at h
  refine ⟨List.eq_nil_iff_forall_not_mem.2 fun i hi=>?_,h⟩
  obtain ⟨h1,o,ho,_⟩:=mem_ready.1 hi
  have hil:i<l.length:=by have:=(Array.getElem?_eq_some_iff.1 ho).1;simpa using this
  have h2:=hl i hil
  rw [decide_eq_true (by omega)] at h2
  have:listed.getD i true=listed.getD i false:=by simp [Array.getD,hsz,hil]
  rw [this,h2] at h1;cases h1
 | succ fuel ih =>
  intro t listed a w hm hsz hl hcount h
  have hD : ∀i,i<l.length->listed.getD i true=listed.getD i false:=fun i hi=>by simp [Array.getD,hsz,hi]
  refine ⟨fun hr=>?_,fun j hj=>?_⟩
  ·by_cases hlt:t<l.length
   ·exfalso
    have hmem:t∈Region.ready .any l.toArray listed:=mem_ready.2 ⟨by rw [hD t hlt,hl t hlt];simp,l[t],by simp [hlt],fun ed hed hb=>by
     have:=hdeps t l[t] (by simp [hlt]) ed hed hb
     rw [hl ed.on (by omega)];simpa using this⟩
    rw [hr] at hmem;cases hmem
   ·have hd:l.drop t = []:=List.drop_of_length_le (by omega)
    rw [hd] at h;exact h
  ·obtain ⟨h1,o,ho,hdl⟩:=mem_ready.1 hj
   have hjl:j<l.length:=by have:=(Array.getElem?_eq_some_iff.1 ho).1;simpa using this
   rw [hD j hjl,hl j hjl] at h1
   have htj:t<=j:=by simpa using h1
   have hj0:j=t:=by
    refine Classical.byContradiction fun hne=>?_
    have han:=hseq (j - 1) (by omega) (by omega)
    rw [show j - 1+1=j from by omega] at han
    have:=qz3 (hcl t listed hsz hl) _ _ han (fun o' ho'=>by rw [ho] at ho';cases ho';exact hdl)
    rw [hl (j - 1) (by omega)] at this
    simp only [decide_eq_true_eq] at this
    omega
   subst hj0
   have hdr:l.drop j=o::l.drop (j+1):=by
    rw [List.drop_eq_getElem_cons hjl]
    have:l[j]=o:=by simpa [hjl] using ho
    rw [this]
   rw [hdr] at h
   have hnext : ∀a w,wpList P l.toArray Q (l.drop (j+1)) a w->wpAny P .any l.toArray Q fuel (listed.setIfInBounds j true) a w:=fun a w h=>by
    have hcnt:=qjz (listed:=listed) (j:=j) (by omega) (by rw [hl j hjl];simp)
    refine ih (j+1) (listed.setIfInBounds j true) a w (by omega) (by simp [hsz]) (fun i hi=>?_) (by omega) h
    by_cases hij:i=j
    ·subst hij
     rw [decide_eq_true (by omega)]
     have:i<listed.size:=by omega
     simp [this]
    ·rw [getD_set_ne false (Ne.symm hij),hl i hi]
     congr 1
     exact propext ⟨fun _=>by omega,fun _=>by omega⟩
   unfold wpList at h
   unfold wpOp
   simp only [ho]
   by_cases hw:Region.wanted o (yielded l.toArray a.tmps)=true
   ·rw [if_pos hw] at h ⊢
    exact h.imp (Oper.wp_mono hnext) id
   ·rw [if_neg hw] at h ⊢
    exact hnext _ _ h
theorem qlt {P:Program} {F:Fr} {σ:St} {id:Nat} {l:List Oper} {Q:Exit->St->Prop} (hm:P.follows .mixedOrders=true) (hn:q8q F.n l.toArray=true) (es:List En) (hch:qe0 P F l.toArray 0 σ es) (hok:OkB l.toArray es) (h:qg5 P F l.toArray (l.drop es.length) (qfx es σ) (Q .normal)):q1w P F (.region id l.toArray true) σ Q:=by
 intro e a w hR
 obtain ⟨hlen,hanc,hdeps,hbig,hseq⟩:=hok
 have hlen':es.length<=l.length:=by simpa using hlen
 let T:Array Bool->Nat->Bool:=fun listed i=>listed.getD i false
 have hall0 : ∀o∈l.drop es.length,qml F.n o=true:=fun o ho=>Array.all_eq_true_iff_forall_mem.1 hn o (by simpa using List.mem_of_mem_drop ho)
 let Qn:Exit->Act->World->Prop:=fun ex a w=>ex = .normal/\∃ σ' e',Q .normal σ'/\R F σ' e' a w
 have hbig' : ∀d i j,j=es.length+d->i<es.length->j<l.length->Anc l.toArray i j:=by
  intro d
  induction d with
  | zero=>intro i j hj hi hjl;subst hj;exact hbig i hi (by simpa using hjl)
  | succ d ih=>intro i j hj hi hjl;subst hj;exact .more (ih i (es.length+d) rfl hi (by omega)) (hseq (es.length+d) (by omega) (by simp only [List.size_toArray];omega))
 have main : ∀(fuel:Nat) (listed:Array Bool) (a:Act) (w:World),listed.size=l.length->(∀i,es.length<=i->listed.getD i false=false)->(∀j o,l.toArray[j]? = some o->listed.getD j false=true->∀ed∈o.after,Region.binds .any ed=true->listed.getD ed.on false=true) ->
   (∃ e,R F (stS es (T listed) 0 σ) e a w)->(listed.toList.countP (fun b=>!b)<=fuel) ->
   wpAny P .any l.toArray Qn fuel listed a w:=by
  have full : ∀(fuel:Nat) (listed:Array Bool) (a:Act) (w:World),listed.size=l.length->(∀i,es.length<=i->listed.getD i false=false)->(∀i,i<es.length->listed.getD i false=true)->(∃ e,R F (stS es (T listed) 0 σ) e a w)->(listed.toList.countP (fun b=>!b)<=fuel)->wpAny P .any l.toArray Qn fuel listed a w:=by
   intro fuel listed a w hsz h0 h1 ⟨e,hR⟩ hcount
   have he:stS es (T listed) 0 σ=qfx es σ:=by
    rw [<-j2e es 0 σ]
    refine qnq es _ _ 0 σ (fun i hi=>?_)
    rw [Nat.zero_add]
    exact h1 i hi
   rw [he] at hR
   refine jm2 (m:=es.length) hdeps (fun i h2 h3=>hseq i h2 (by simpa using h3)) fuel es.length listed a w (Nat.le_refl _) hsz (fun i hi=>?_) hcount (h hn hall0 e a w hR)
   by_cases hlt:i<es.length
   ·rw [h1 i hlt,decide_eq_true hlt]
   ·rw [h0 i (by omega),decide_eq_false hlt]
  intro fuel
  induction fuel with
  | zero =>
   intro listed a w hsz h0 hc hR hcount
   refine full 0 listed a w hsz h0 (fun i hi=>Classical.byContradiction fun hne=>?_) hR hcount
   have:=qjz (listed:=listed) (j:=i) (by omega) (by simpa using hne)
   omega
  | succ fuel ih =>
   intro listed a w hsz h0 hc hR hcount
   by_cases hfull : ∀i,i<es.length->listed.getD i false=true
   ·exact full _ listed a w hsz h0 hfull hR hcount
   have hD : ∀i,i<l.length->listed.getD i true=listed.getD i false:=fun i hi=>by simp [Array.getD,hsz,hi]
   refine ⟨fun hr=>?_,fun j hj=>?_⟩
   ·exfalso
    refine hfull fun i hi=>?_
    have hall : ∀n i,i<=n->i<es.length->listed.getD i false=true:=by
     intro n
     induction n with
     | zero =>
      intro i hi hil
      obtain rfl:i=0:=by omega
      refine Classical.byContradiction fun hne=>?_
      have hmem:0∈Region.ready .any l.toArray listed:=mem_ready.2 ⟨by rw [hD 0 (by omega)];simpa using hne,l[0]'(by omega),by simp [show 0<l.length by omega],fun ed hed hb=>by have:=hdeps 0 (l[0]'(by omega)) (by simp [show 0<l.length by omega]) ed hed hb;omega⟩
      rw [hr] at hmem;cases hmem
     | succ n ihn =>
      intro i hi hil
      refine Classical.byContradiction fun hne=>?_
      have hmem:i∈Region.ready .any l.toArray listed:=mem_ready.2 ⟨by rw [hD i (by omega)];simpa using hne,l[i]'(by omega),by simp [show i<l.length by omega],fun ed hed hb=>by
       have:=hdeps i (l[i]'(by omega)) (by simp [show i<l.length by omega]) ed hed hb
       exact ihn ed.on (by omega) (by omega)⟩
      rw [hr] at hmem;cases hmem
    exact hall i i (Nat.le_refl _) hi
   obtain ⟨e,hR⟩:=hR
   obtain ⟨h1,o,ho,hdl⟩:=mem_ready.1 hj
   have hjl:j<l.length:=by have:=(Array.getElem?_eq_some_iff.1 ho).1;simpa using this
   have hjs:j<listed.size:=by omega
   have hjf:listed.getD j false=false:=by rw [<-hD j hjl];exact h1
   have hup : ∀i,Anc l.toArray i j->listed.getD i false=true:=fun i han=>qz3 hc i j han fun o' ho'=>by rw [ho] at ho';cases ho';exact hdl
   have hje:j<es.length:=Classical.byContradiction fun hne=>hfull fun i hi=>hup i (hbig' (j - es.length) i j (by omega) hi hjl)
   obtain ⟨en,hen⟩ : ∃ en,es[j]? = some en:=⟨es[j],List.getElem?_eq_getElem hje⟩
   have hdown : ∀i,Anc l.toArray j i->listed.getD i false=false:=fun i han=>by
    refine Classical.byContradiction fun hne=>?_
    have:=qqz hc j i han (by simpa using hne)
    rw [hjf] at this;cases this
   have hE:=qt3 es 0 σ hch j en hen
   rw [Nat.zero_add] at hE
   refine hE (stS es (T listed) 0 σ) (fun x hx=>?_) e a w hR _ _ ?_
   ·refine get_congr es _ _ 0 σ σ (fun i en' he' hv=>?_) rfl
    rw [Nat.zero_add]
    rcases Nat.lt_trichotomy i j with hij|hij|hij
    ·have hcl:q9b en' en=true:=by
      unfold q9b;simp only [Bool.or_eq_true];right
      exact List.any_eq_true.2 ⟨x,hx,hv⟩
     rw [show decide (i<j)=true from by simpa using hij]
     exact hup i (hanc i j en' en hij he' hen hcl)
    ·subst hij;rw [show decide (i<i)=false from by simp];exact hjf
    ·have hcl:q9b en en'=true:=by
      unfold q9b;simp only [Bool.or_eq_true];left;right
      exact List.any_eq_true.2 ⟨x,hx,hv⟩
     rw [show decide (i<j)=false from by simp;omega]
     exact hdown i (hanc j i en en' hij hen he' hcl)
   ·intro a' w' e' hR'
    have hT:stS es (T (listed.setIfInBounds j true)) 0 σ=en.app (stS es (T listed) 0 σ):=by
     apply St.ext'
     intro x
     rw [qh2]
     cases hv:en.val x with
     | none =>
      refine get_congr es _ _ 0 σ σ (fun i en' he' hv'=>?_) rfl
      rw [Nat.zero_add]
      by_cases hij:i=j
      ·subst hij;rw [hen] at he';cases he';rw [hv] at hv';cases hv'
      ·exact getD_set_ne false (Ne.symm hij)
     | some v =>
      refine qun es _ 0 j σ en hen hv ?_ (fun i en' hi he' hv'=>?_)
      ·rw [Nat.zero_add];show (listed.setIfInBounds j true).getD j false=true
       simp [hjs]
      ·rw [Nat.zero_add]
       show (listed.setIfInBounds j true).getD i false=false
       rw [getD_set_ne false (by omega)]
       have hcl:q9b en en'=true:=by
        unfold q9b;simp only [Bool.or_eq_true];left;left
        exact List.any_eq_true.2 ⟨x,qe4 (by rw [hv];rfl),hv'⟩
       exact hdown i (hanc j i en en' hi hen he' hcl)
    refine ih (listed.setIfInBounds j true) a' w' (by simp [hsz]) (fun i hi=>by rw [getD_set_ne false (by omega)];exact h0 i hi) (fun k o' ho' hk ed hed hb=>?_) ⟨e',by rw [hT];exact hR'⟩ ?_
    ·by_cases hkj:k=j
     ·subst hkj
      rw [ho] at ho';cases ho'
      exact getD_set_true (hdl ed hed hb)
     ·rw [getD_set_ne false (Ne.symm hkj)] at hk
      exact getD_set_true (hc k o' ho' hk ed hed hb)
    ·have:=qjz hjs hjf
     omega
 have hR':R F (stS es (T (Array.replicate l.length false)) 0 σ) e a { w with drawn:=w.drawn+1 }:=by
  rw [qjl es _ 0 σ (fun i hi=>by
   show (Array.replicate l.length false).getD (0+i) false=false
   simp [Array.getD])]
  obtain ⟨hf,hh⟩:=hR.hp.drew
  exact ⟨hR.defers,hR.size,fun i=>(hR.slots i).fwd hf,hh⟩
 have:=main l.toArray.size (Array.replicate l.length false) a { w with drawn:=w.drawn+1 } (by simp) (fun i _=>by simp [Array.getD]) (fun j o ho hj=>by simp [Array.getD] at hj) ⟨e,hR'⟩ (by
  have:=List.countP_le_length (p:=fun b=>!b) (l:=(Array.replicate l.length false).toList)
  simpa using this)
 refine wp_mono (wp_region_any hm (by simpa using this)) fun ex a' w' hh=>?_
 obtain ⟨rfl,σ',e',h1,h2⟩:=hh
 exact ⟨σ',e',h1,h2⟩
theorem j2n {P:Program} {F:Fr} {σ:St} {id:Nat} {l:List Oper} {Q:Exit->St->Prop} (hm:P.follows .mixedOrders=true) (hn:q8q F.n l.toArray=true) (es:List En) (hch:qe0 P F l.toArray 0 σ es) (hok:OkS l.toArray es) (h:Q .normal (qfx es σ)):q1w P F (.region id l.toArray true) σ Q:=by
 obtain ⟨h1,h2,h3⟩:=hok
 refine qlt hm hn es hch ⟨Nat.le_of_eq h1,h2,h3,fun i hi hlt=>absurd hlt (by omega),fun i hi hlt=>absurd hlt (by omega)⟩ ?_
 have hd:l.drop es.length = []:=List.drop_of_length_le (by rw [h1];simp)
 rw [hd]
 exact j71 h
def lowK (i:Nat):Nat:=bif Nat.ble 2000000 i then i - 1999600 else bif Nat.ble 1000000 i then i - 999700 else i
def code:Loc->Nat
 | .s i=>3*i
 | .b i=>3*lowK i+1
 | .r i=>3*lowK i+2
def tb (m n:Nat):Bool:=!(Nat.beq (Nat.land m (2 ^ n)) 0)
theorem jjm {m n:Nat} (h:tb m n=true):Nat.testBit m n=true:=by
 unfold tb at h
 have h1 : ¬ (m &&& 2 ^ n)=0:=fun h0=>by
  have h0':Nat.land m (2 ^ n)=0:=h0
  rw [h0'] at h;cases h
 obtain ⟨i,hi⟩:=Nat.exists_testBit_of_ne_zero h1
 rw [Nat.testBit_and,Bool.and_eq_true,Nat.testBit_two_pow] at hi
 have:=of_decide_eq_true hi.2
 subst this
 exact hi.1
def inM (m:Nat):List Loc->Bool
 | []=>true
 | x::l=>tb m (code x)&&inM m l
theorem qkc {m:Nat} : ∀{l:List Loc},inM m l=true->∀x∈l,Nat.testBit m (code x)=true
 | [],_,x,hx=>by cases hx
 | y::l,h,x,hx=>by
  simp only [inM,Bool.and_eq_true] at h
  rcases List.mem_cons.1 hx with rfl|hx
  ·exact jjm h.1
  ·exact qkc h.2 x hx
structure Ht where
 R:Nat
 W:Nat
 A:Nat
def cl0 (x y:Ht):Bool:=Nat.beq (Nat.lor (Nat.lor (Nat.land x.W y.W) (Nat.land x.R y.W)) (Nat.land y.R x.W)) 0
def j6f (y:Ht):Nat->List Ht->Bool
 | n+1,x::l=>(cl0 x y||tb y.A n)&&j6f y n l
 | _,[]=>true
 | 0,_::_=>false
def edM (H:List Ht):List Edge->Nat
 | []=>0
 | ed::l=>bif Region.binds .any ed then (match nth H ed.on with|some h=>Nat.lor (Nat.lor h.A (2 ^ ed.on)) (edM H l)|none=>edM H l) else edM H l
def jqk (j:Nat):List Edge->Bool
 | []=>true
 | ed::l=>(!(Region.binds .any ed)||Nat.blt ed.on j)&&jqk j l
def okH (H:List Ht):Nat->List Oper->List Ht->List Ht->Bool
 | _,[],[],_=>true
 | j,o::os,h::hs,prev=>j6f h j prev&&jqk j o.after.toList&&Nat.beq (Nat.land h.A (edM H o.after.toList)) h.A&&okH H (j+1) os hs (h::prev)
 | _,_,_,_=>false
def jog (en:En) (h:Ht):Prop:=(∀l∈en.reads,Nat.testBit h.R (code l)=true)/\(∀l∈qxy en,Nat.testBit h.W (code l)=true)
theorem qzj {y:Ht} : ∀{n:Nat} {l:List Ht},j6f y n l=true->l.length=n->∀i x,i<n->l[n - 1 - i]? = some x->cl0 x y=true\/tb y.A i=true
 | 0,_,_,_,i,_,hi,_=>absurd hi (Nat.not_lt_zero _)
 | n+1,[],_,hl,_,_,_,_=>by cases hl
 | n+1,z::l,h,hl,i,x,hi,hx=>by
  simp only [j6f,Bool.and_eq_true,Bool.or_eq_true] at h
  by_cases hin:i=n
  ·subst hin
   rw [show i+1 - 1 - i=0 from by omega] at hx
   obtain rfl:z=x:=by simpa using hx
   exact h.1
  ·rw [show n+1 - 1 - i=(n - 1 - i)+1 from by omega,List.getElem?_cons_succ] at hx
   exact qzj h.2 (by simpa using hl) i x (by omega) hx
theorem j3p {j:Nat} : ∀{l:List Edge},jqk j l=true->∀ed∈l,Region.binds .any ed=true->ed.on<j
 | [],_,ed,h,_=>by cases h
 | e0::l,h,ed,hm,hb=>by
  simp only [jqk,Bool.and_eq_true,Bool.or_eq_true] at h
  rcases List.mem_cons.1 hm with rfl|hm
  ·rcases h.1 with h1|h1
   ·rw [hb] at h1;cases h1
   ·simpa using h1
  ·exact j3p h.2 ed hm hb
theorem jlm {H:List Ht} {i:Nat} : ∀{l:List Edge},Nat.testBit (edM H l) i=true->∃ ed∈l,Region.binds .any ed=true/\∃ h,H[ed.on]? = some h/\(Nat.testBit h.A i=true\/i=ed.on)
 | [],h=>by simp [edM] at h
 | ed::l,h=>by
  have rest:Nat.testBit (edM H l) i=true->∃ ed'∈ed::l,Region.binds .any ed'=true/\∃ h,H[ed'.on]? = some h/\(Nat.testBit h.A i=true\/i=ed'.on):=fun h=>by
   obtain ⟨e',h1,h2⟩:=jlm h
   exact ⟨e',List.mem_cons_of_mem _ h1,h2⟩
  unfold edM at h
  cases hb:Region.binds .any ed with
  | false=>rw [hb] at h;exact rest h
  | true =>
   rw [hb] at h
   simp only [cond_true] at h
   split at h
   ·rename_i hh hn
    rw [q5k] at hn
    have h':Nat.testBit ((hh.A ||| 2 ^ ed.on) ||| edM H l) i=true:=h
    rw [Nat.testBit_or,Nat.testBit_or,Bool.or_eq_true,Bool.or_eq_true,Nat.testBit_two_pow] at h'
    rcases h' with (h1|h1)|h1
    ·exact ⟨ed,List.mem_cons_self ..,hb,hh,hn,Or.inl h1⟩
    ·exact ⟨ed,List.mem_cons_self ..,hb,hh,hn,Or.inr (of_decide_eq_true h1).symm⟩
    ·exact rest h1
   ·exact rest h
theorem qke {H:List Ht} : ∀{os:List Oper} {hs prev:List Ht} {j:Nat},okH H j os hs prev=true->prev.length=j->H=prev.reverse++hs->os.length=hs.length /\
  ∀i o h,os[i]? = some o->hs[i]? = some h->(∀q x,q<j+i->H[q]? = some x->cl0 x h=true\/tb h.A q=true)/\jqk (j+i) o.after.toList=true/\(Nat.land h.A (edM H o.after.toList))=h.A
 | [],[],_,_,_,_,_=>⟨rfl,fun i o h hi=>by simp at hi⟩
 | o::os,[],_,_,h,_,_=>by simp [okH] at h
 | [],_::_,_,_,h,_,_=>by simp [okH] at h
 | o::os,h::hs,prev,j,hk,hl,hH=>by
  simp only [okH,Bool.and_eq_true] at hk
  obtain ⟨⟨⟨k1,k2⟩,k3⟩,k4⟩:=hk
  obtain ⟨g1,g2⟩:=qke (prev:=h::prev) k4 (by simp [hl]) (by rw [hH];simp)
  refine ⟨by simp [g1],fun i o' h' ho hh=>?_⟩
  cases i with
  | zero =>
   obtain rfl:o=o':=by simpa using ho
   obtain rfl:h=h':=by simpa using hh
   refine ⟨fun q x hq hx=>qzj k1 hl q x hq ?_,k2,Nat.eq_of_beq_eq_true k3⟩
   rw [hH,List.getElem?_append_left (by rw [List.length_reverse];omega),List.getElem?_reverse (by omega)] at hx
   rw [show j - 1 - q=prev.length - 1 - q from by omega]
   exact hx
  | succ i =>
   obtain ⟨a1,a2,a3⟩:=g2 i o' h' (by simpa using ho) (by simpa using hh)
   rw [show j+(i+1)=j+1+i from by omega]
   exact ⟨a1,a2,a3⟩
theorem j2o {ops:List Oper} {H:List Ht} (hk:okH H 0 ops H []=true) : ∀j h i,H[j]? = some h->Nat.testBit h.A i=true->Anc ops.toArray i j:=by
 obtain ⟨h1,h2⟩:=qke hk rfl rfl
 have anc : ∀n j:Nat,j<n->∀h i,H[j]? = some h->Nat.testBit h.A i=true->Anc ops.toArray i j:=by
  intro n
  induction n with
  | zero=>intro j hj;omega
  | succ n ih =>
   intro j hj h i hh hi
   have hjl:j<ops.length:=by have:=(List.getElem?_eq_some_iff.1 hh).1;omega
   obtain ⟨_,g2,g3⟩:=h2 j ops[j] h (List.getElem?_eq_getElem hjl) hh
   rw [Nat.zero_add] at g2
   have hi':Nat.testBit (edM H (ops[j]).after.toList) i=true:=by
    have:Nat.testBit (h.A &&& edM H (ops[j]).after.toList) i=true:=by
     have e1:(h.A &&& edM H (ops[j]).after.toList)=h.A:=g3
     rw [e1];exact hi
    rw [Nat.testBit_and,Bool.and_eq_true] at this
    exact this.2
   obtain ⟨ed,e1,e2,h',e3,e4⟩:=jlm hi'
   have hlt:=j3p g2 ed e1 e2
   have hA:Anc ops.toArray ed.on j:=.one (o:=ops[j]) (by simp [hjl]) (by simpa using e1) e2 rfl
   rcases e4 with e4|e4
   ·exact .more (ih ed.on (by omega) h' i e3 e4) hA
   ·rw [e4];exact hA
 exact fun j h i hh hi=>anc (j+1) j (Nat.lt_succ_self j) h i hh hi
theorem j6l {ops:List Oper} {H:List Ht} (hk:okH H 0 ops H []=true) {i j:Nat} {a b:Ht} {x y:En} (hij:i<j) (ha:H[i]? = some a) (hb:H[j]? = some b) (gx:jog x a) (gy:jog y b) (hc:q9b x y=true):Anc ops.toArray i j:=by
 obtain ⟨h1,h2⟩:=qke hk rfl rfl
 have hjl:j<ops.length:=by have:=(List.getElem?_eq_some_iff.1 hb).1;omega
 obtain ⟨g1,_,_⟩:=h2 j (ops[j]) b (List.getElem?_eq_getElem hjl) hb
 rcases g1 i a (by omega) ha with h3|h3
 ·exfalso
  have h3':=Nat.eq_of_beq_eq_true h3
  have bit : ∀{a b:Nat} {n:Nat},Nat.testBit a n=true->Nat.testBit b n=true->Nat.testBit (Nat.land a b) n=true:=fun {a b n} ha hb=>by
   show Nat.testBit (a &&& b) n=true
   rw [Nat.testBit_and,ha,hb];rfl
  have no : ∀n,Nat.testBit (Nat.land a.W b.W) n=false/\Nat.testBit (Nat.land a.R b.W) n=false/\Nat.testBit (Nat.land b.R a.W) n=false:=fun n=>by
   have:Nat.testBit ((Nat.land a.W b.W ||| Nat.land a.R b.W) ||| Nat.land b.R a.W) n=false:=by
    have e0:((Nat.land a.W b.W ||| Nat.land a.R b.W) ||| Nat.land b.R a.W)=0:=h3'
    rw [e0];simp
   rw [Nat.testBit_or,Nat.testBit_or] at this
   simp only [Bool.or_eq_false_iff] at this
   exact ⟨this.1.1,this.1.2,this.2⟩
  unfold q9b at hc
  simp only [Bool.or_eq_true] at hc
  rcases hc with (hc|hc)|hc
  ·obtain ⟨l,hl1,hl2⟩:=List.any_eq_true.1 hc
   have:=(no (code l)).1
   rw [bit (gx.2 l hl1) (gy.2 l (qe4 hl2))] at this;cases this
  ·obtain ⟨l,hl1,hl2⟩:=List.any_eq_true.1 hc
   have:=(no (code l)).2.1
   rw [bit (gx.1 l hl1) (gy.2 l (qe4 hl2))] at this;cases this
  ·obtain ⟨l,hl1,hl2⟩:=List.any_eq_true.1 hc
   have:=(no (code l)).2.2
   rw [bit (gy.1 l hl1) (gx.2 l (qe4 hl2))] at this;cases this
 ·exact j2o hk j b i hb (jjm h3)
theorem j6x {ops:List Oper} {H:List Ht} (hk:okH H 0 ops H []=true) : ∀j o,ops.toArray[j]? = some o->∀ed∈o.after,Region.binds .any ed=true->ed.on<j:=fun j o ho ed hed hb=>by
 obtain ⟨h1,h2⟩:=qke hk rfl rfl
 have hjl:j<ops.length:=by have:=(Array.getElem?_eq_some_iff.1 ho).1;simpa using this
 have hoj:ops[j]=o:=by simpa [hjl] using ho
 obtain ⟨_,g2,_⟩:=h2 j ops[j] (H[j]'(by omega)) (List.getElem?_eq_getElem hjl) (List.getElem?_eq_getElem (by omega))
 rw [Nat.zero_add,hoj] at g2
 exact j3p g2 ed (by simpa using hed) hb
theorem jpp {ops:List Oper} {H:List Ht} {es:List En} (hk:okH H 0 ops H []=true) (hes:q0b jog es H):OkS ops.toArray es:=by
 have h1:=(qke hk rfl rfl).1
 have hl:=hes.length
 refine ⟨by simp [hl,h1],fun i j x y hij hx hy hc=>?_,j6x hk⟩
 have hjl:j<es.length:=(List.getElem?_eq_some_iff.1 hy).1
 have hil:i<es.length:=by omega
 have gy:=hes.get j hjl (by omega)
 have gx:=hes.get i hil (by omega)
 rw [(List.getElem?_eq_some_iff.1 hy).2] at gy
 rw [(List.getElem?_eq_some_iff.1 hx).2] at gx
 exact j6l hk hij (List.getElem?_eq_getElem (by omega)) (List.getElem?_eq_getElem (by omega)) gx gy hc
def allB (p:Nat->Bool):Nat->Bool
 | 0=>true
 | n+1=>p n&&allB p n
theorem jew {p:Nat->Bool} : ∀{n i:Nat},allB p n=true->i<n->p i=true
 | n+1,i,h,hi=>by
  simp only [allB,Bool.and_eq_true] at h
  by_cases hin:i=n
  ·subst hin;exact h.1
  ·exact jew h.2 (by omega)
def seqB:Nat->List Ht->Bool
 | i,h::h'::l=>tb h'.A i&&seqB (i+1) (h'::l)
 | _,_=>true
theorem jay : ∀{l:List Ht} {i k:Nat} {h:Ht},seqB i l=true->l[k+1]? = some h->tb h.A (i+k)=true
 | [],_,_,_,_,h=>by simp at h
 | [_],_,_,_,_,h=>by simp at h
 | h0::h'::l,i,0,h,hs,hk=>by
  simp only [seqB,Bool.and_eq_true] at hs
  obtain rfl:h'=h:=by simpa using hk
  exact hs.1
 | h0::h'::l,i,k+1,h,hs,hk=>by
  simp only [seqB,Bool.and_eq_true] at hs
  have:=jay (k:=k) (h:=h) hs.2 (by simpa using hk)
  rw [show i+(k+1)=i+1+k from by omega]
  exact this
def jar (hs:List Ht) (m:Nat):Bool:=match nth hs m with
 | some h=>allB (tb h.A) m&&seqB m (hs.drop m)
 | none=>false
theorem jqm {ops:List Oper} {H:List Ht} {es:List En} {m:Nat} (hk:okH H 0 ops H []=true) (hb:jar H m=true) (hes:q0b jog es (H.take m)):OkB ops.toArray es:=by
 have h1:=(qke hk rfl rfl).1
 have hl:=hes.length
 unfold jar at hb
 split at hb
 case h_2=>cases hb
 rename_i hm hmm
 rw [q5k] at hmm
 have hml:m<H.length:=(List.getElem?_eq_some_iff.1 hmm).1
 simp only [Bool.and_eq_true] at hb
 have hem:es.length=m:=by rw [hl,List.length_take];omega
 refine ⟨by simp;omega,fun i j x y hij hx hy hc=>?_,j6x hk,fun i hi _=>?_,fun i hi hi2=>?_⟩
 ·have hjl:j<es.length:=(List.getElem?_eq_some_iff.1 hy).1
  have hil:i<es.length:=by omega
  have gy:=hes.get j hjl (by omega)
  have gx:=hes.get i hil (by omega)
  rw [(List.getElem?_eq_some_iff.1 hy).2,List.getElem_take] at gy
  rw [(List.getElem?_eq_some_iff.1 hx).2,List.getElem_take] at gx
  exact j6l hk hij (List.getElem?_eq_getElem (by omega)) (List.getElem?_eq_getElem (by omega)) gx gy hc
 ·rw [hem] at hi ⊢
  exact j2o hk m hm i hmm (jjm (jew hb.1 hi))
 ·rw [hem] at hi
  have hi2':i+1<H.length:=by simpa [h1] using hi2
  have h5:(H.drop m)[(i - m)+1]? = some H[i+1]:=by
   rw [List.getElem?_drop,show m+(i - m+1)=i+1 from by omega]
   exact List.getElem?_eq_getElem hi2'
  have h6:=jay hb.2 h5
  rw [show m+(i - m)=i from by omega] at h6
  exact j2o hk (i+1) _ i (List.getElem?_eq_getElem hi2') (jjm h6)
theorem jfy {α β:Type} {r:α->β->Prop} {l:List α} {m:List β} {x:α} {y:β} (h:q0b r l m) (hx:r x y):q0b r (l ++ [x]) (m ++ [y]):=h.append ⟨hx,trivial⟩
def qvl (P:Program) (F:Fr) (Z:List En->Prop) (ops:Array Oper) (pre:List En) (rest:List Oper) (σ:St) (K:St->Prop):Prop :=
 q8q F.n ops=true->(∃ r2,ops.toList.drop pre.length=rest++r2)->∃ post,qe0 P F ops pre.length σ post/\Z (pre.reverse++post)/\K (qfx post σ)
theorem j80 {Z:List En->Prop} {ops:Array Oper} {pre:List En} {K:St->Prop} {σ:St} (hok:Z pre.reverse) (h:K σ):qvl P F Z ops pre [] σ K:=fun _ _=>⟨[],trivial,by simpa using hok,h⟩
theorem qkr {Z:List En->Prop} {ops:Array Oper} {o:Oper} {rest:List Oper} {pre:List En} {K:St->Prop} {σ:St} {en:En} (hen:q8q F.n ops=true->ops[pre.length]? = some o->jdg P F ops pre.length en σ) (h:qvl P F Z ops (en::pre) rest (en.app σ) K):qvl P F Z ops pre (o::rest) σ K:=by
 rintro hn ⟨r2,hdrop⟩
 have ho:ops[pre.length]? = some o:=by
  have:(ops.toList.drop pre.length)[0]? = some o:=by rw [hdrop];rfl
  rw [List.getElem?_drop,Nat.add_zero] at this
  simpa using this
 have hdrop':ops.toList.drop (en::pre).length=rest++r2:=by
  rw [List.length_cons,<-List.drop_drop,hdrop];rfl
 obtain ⟨post,h1,h2,h3⟩:=h hn ⟨r2,hdrop'⟩
 exact ⟨en::post,⟨hen hn ho,h1⟩,by simpa using h2,h3⟩
def jly (ops:List Oper):Bool:=ops.any fun o=>match o.op with
 | .call ⟨.value _,_,_⟩=>true
 | _=>false
def isBS (o:Oper):Bool:=match o.op with
 | .buildSlice _ _ _=>true
 | _=>false
def jky (t:TRes):TRes:={ t with row:=t.row.map jqt }
def qov (b:Bool) (t:TRes):TRes:=bif b then jky t else t
theorem jef (b:Bool) (t:TRes):(qov b t).val=t.val:=by cases b<;>rfl
theorem jc7 (b:Bool) (t:TRes):(qov b t).box=t.box:=by cases b<;>rfl
theorem jea (b:Bool) (t:TRes):(qov b t).row.map (·.1)=t.row.map (·.1):=by
 obtain ⟨v,bx,rw⟩:=t
 cases b<;>cases rw<;>rfl
theorem jpg {ops:Array Oper} {j:Nat} {σ:St} {rl:List Loc} {dst:Option Nat} {c:Prop} {t:TRes} (b:Bool) (h:jdg P F ops j ⟨rl,dst,q9r c t⟩ σ):jdg P F ops j ⟨rl,dst,q9r c (qov b t)⟩ σ:=by
 cases b with
 | false=>exact h
 | true =>
  obtain ⟨v,bx,rw⟩:=t
  cases rw with
  | none=>exact h
  | some p =>
   obtain ⟨i,r⟩:=p
   intro σ' hr e a w hR Qx K hK
   refine h σ' hr e a w hR Qx K fun a' w' e' hR'=>?_
   obtain ⟨e'',hf,hh⟩:=hR'.hp.frzB (fun t=>decide (t=i))
   have es:AM.frzB (fun t=>decide (t=i)) (En.app ⟨rl,dst,q9r c ⟨v,bx,some (i,r)⟩⟩ σ')=En.app ⟨rl,dst,q9r c (qov true ⟨v,bx,some (i,r)⟩)⟩ σ':=by
    unfold AM.frzB En.app St.app q9r qov jky jqt
    cases dst with
    | none =>
     simp only [St.put,Option.map_some,cond_true]
     congr 1
     funext t'
     simp only [upd]
     by_cases ht:t'=i
     ·simp [ht,eR]
     ·simp [ht]
    | some d =>
     simp only [St.put,Option.map_some,cond_true]
     congr 1
     funext t'
     simp only [upd]
     by_cases ht:t'=i
     ·simp [ht,eR]
     ·simp [ht]
   refine hK a' w' e'' ?_
   rw [<-es]
   exact ⟨hR'.defers,hR'.size,fun k=>(hR'.slots k).fwd hf,hh⟩
def jl9 (P:Program) (ct:List FC) (fz:Bool) (o:Oper) (σ:TSt) (k:List Loc->TSt->Option α):Option α:=match o.op with
 | .call ⟨.value x,xs,ts⟩=>match q0p σ x,q38 σ xs.toList with
  | some (.one (.c (.fn f []))),some ys=>jeo ct f σ ys (fun d=>k (wl o.dst none none) (σ.put o.dst d))
  | _,_=>none
 | _=>tev P o σ fun t=>k (wl o.dst (t.box.map (·.1)) (t.row.map (·.1))) ((σ.app (qov (fz&&isBS o) t)).put o.dst t.val)
def qas (P:Program) (ct:List FC) (fz:Bool) (ops:List Oper):List Oper->List Ht->TSt->(TSt->Option α)->Option α
 | [],_,σ,k=>k σ
 | _::_,[],_,_=>none
 | o::rest,h::hs,σ,k=>j4l ops o σ (fun σ=>jl9 P ct fz o σ fun ws σ'=>bif inM h.W ws&&inM h.R (j4x ops σ o) then qas P ct fz ops rest hs σ' k else none)
   (fun σ=>bif inM h.W (wl o.dst none none)&&inM h.R (j4x ops σ o) then qas P ct fz ops rest hs (σ.put o.dst undD) k else none)
theorem cnd {α:Type} {b:Bool} {x:Option α} {r:α} (h:(bif b then x else none)=some r):b=true/\x=some r:=by
 cases b with
 | true=>exact ⟨rfl,h⟩
 | false=>cases h
theorem jik {ops:Array Oper} {o:Oper} {j:Nat} {σ:St} (hn:q8q F.n ops=true) (ho:ops[j]? = some o) (hw:q47 ops σ o=some true) {x:Operand} {xs:Array Operand} {ts:Array TypeId} (hop:o.op = .call { callee:=.value x,args:=xs,argTypes:=ts })
  {f:FuncId} (hf:callee σ x=some f) (hb:q5h P f=true) {ds:List D} (hds : ∀σ',(∀l∈q3v ops σ o,σ'.get l=σ.get l)->∀e a w,R F σ' e a w->q0b (q1l (q57 e.Pc) q7p w) (xs.toList.map a.eval) ds) {d:D} (hc:qfh P F.G f ds d):jdg P F ops j ⟨q3v ops σ o,o.dst,{ cond:=True,val:=d }⟩ σ:=by
 intro σ' h e a w hR Qx K hK
 have hd : ∀k,o.dst=some k->k<F.n:=fun k hk=>q2e hn (by rw [ho];exact hk)
 have hops:=qay h
 have hheap:=qbg h
 rw [hop] at hops hheap
 simp only [Op.operands,Call.operands] at hops hheap
 have hx:opnd σ' x=opnd σ x:=hops x (by simp)
 have hf':callee σ' x=some f:=by unfold callee at *;rw [hx];exact hf
 unfold wpOp
 simp only [ho]
 rw [q73 hR ((qbk h).trans hw) (fun g _ t ht=>q2e hn ht),if_pos rfl]
 refine .inl ?_
 unfold callee at hf'
 split at hf'
 case h_2=>cases hf'
 rename_i f' hxx
 simp only [Option.some.injEq] at hf'
 subst hf'
 have h1:=hR.opnd x
 rw [hxx] at h1
 have h2:=q07 h1
 have hrun:(execOp a.eval o).run P w = .ok (.enter f' (xs.map a.eval)) w:=by
  have:=qj5 hb (xs.map a.eval) w
  simp [execOp,hop,Sem.run_bind,resolve,h2,Deferred.ofValue,invoke,this]
 unfold Oper.wp
 rw [hrun]
 refine (qfq hc hR.hp (vs:=xs.map a.eval) (by rw [Array.toList_map];exact hds σ' h e a w hR)).mono ?_
 rintro en w' ⟨v,e',rfl,h3,h4,h5⟩
 exact hK _ _ e' (hR.next h3 h4 rfl o.dst hd v d h5)
theorem jm5 {σa:St} {y:TD} (h : ∀t,Loc.r t∈j76 y->σa.row t=(eS σ).row t) (ht : ∀xs,y ≠ .tup xs):SrcD σ σa y:=by
 have one : ∀x:TC,(∀t,Loc.r t∈jbz x->σa.row t=(eS σ).row t)->jk7 σ σa x:=fun x hx=>by
  cases x with
  | row t g=>exact fun r hr=>by rw [hx t (by simp [jbz])];exact q2p hr
  | _=>trivial
 cases y with
 | one y =>
  cases y with
  | c x=>exact one x h
  | agg xs =>
   intro x hx
   refine one x fun t ht'=>h t ?_
   have key : ∀(l:List TC),x∈l->Loc.r t∈qzr l:=by
    intro l
    induction l with
    | nil=>intro hm;cases hm
    | cons y l ih =>
     intro hm
     rw [qzr,List.mem_append]
     rcases List.mem_cons.1 hm with rfl|hm
     ·exact Or.inl ht'
     ·exact Or.inr (ih hm)
   exact key xs hx
 | tup xs=>exact absurd rfl (ht xs)
theorem qvg {sh:SSt} : ∀{cs:List SD} {xs:List TD} {p:pDs cs},cDs sh σ cs xs=some p->(∀c∈cs,∀ss,c ≠ .tup ss)->∀x∈xs,∀ys,x ≠ .tup ys
 | [],[],_,_,_,x,hx,_=>by cases hx
 | [c],[x],p,h,hc,y,hy,ys=>by
  rcases List.mem_singleton.1 hy
  rintro rfl
  have h':cD sh σ c (.tup ys)=some p:=h
  cases c with
  | one s=>simp [cD] at h'
  | tup ss=>exact absurd rfl (hc _ (List.mem_cons_self ..) ss)
 | c::c'::cs,x::xs,p,h,hc,y,hy,ys=>by
  unfold cDs at h
  split at h
  case h_2=>cases h
  rename_i p1 q1 h1 h2
  rcases List.mem_cons.1 hy with rfl|hy
  ·rintro rfl
   cases c with
   | one s=>simp [cD] at h1
   | tup ss=>exact absurd rfl (hc _ (List.mem_cons_self ..) ss)
  ·exact qvg h2 (fun c hc'=>hc c (List.mem_cons_of_mem _ hc')) y hy ys
 | [],_::_,_,h,_,_,_,_=>by simp [cDs] at h
 | [_],[],_,h,_,_,_,_=>by simp [cDs] at h
 | [_],_::_::_,_,h,_,_,_,_=>by simp [cDs] at h
 | _::_::_,[],_,h,_,_,_,_=>by simp [cDs] at h
def qgq:List SD->Bool
 | []=>true
 | .one _::l=>qgq l
 | .tup _::_=>false
theorem j50 : ∀{l:List SD},qgq l=true->∀c∈l,∀ss,c ≠ .tup ss
 | .one s::l,h,c,hc,ss=>by
  rcases List.mem_cons.1 hc with rfl|hc
  ·intro h;cases h
  ·exact j50 (l:=l) h c hc ss
 | .tup _::l,h,_,_,_=>by cases h
theorem qqh : ∀{xs:List Operand} {ys:List TD},q38 σ xs=some ys->∀y∈ys,∃ x∈xs,q0p σ x=some y
 | [],ys,h,y,hy=>by simp only [q38,Option.some.injEq] at h;subst h;cases hy
 | x::xs,ys,h,y,hy=>by
  unfold q38 at h
  split at h
  case h_2=>cases h
  rename_i z zs h1 h2
  simp only [Option.some.injEq] at h;subst h
  rcases List.mem_cons.1 hy with rfl|hy
  ·exact ⟨x,List.mem_cons_self ..,h1⟩
  ·obtain ⟨x',hx',h3⟩:=qqh h2 y hy
   exact ⟨x',List.mem_cons_of_mem _ hx',h3⟩
theorem qgl {ct:List FC} {fz0:Bool} (hct : ∀c∈ct,qyj P F.G c/\qgq c.args=true) {ops:List Oper} {r:α} {k:TSt->Option α} {Z:List En->Prop} {H:List Ht} (hZ : ∀es,q0b jog es H->Z es) :
  ∀{l:List Oper} {hs:List Ht} {σ:TSt} {pre:List En} {H1:List Ht},H=H1++hs->q0b jog pre.reverse H1->hs.length=l.length->qas P ct fz0 ops l hs σ k=some r->qvl P F Z ops.toArray pre l (eS σ) (fun σ'=>∃ τ,k τ=some r/\σ'=eS τ)
 | [],hs,σ,pre,H1,e1,hsub,hl,h=>by
  have:hs = []:=List.eq_nil_of_length_eq_zero hl
  subst this
  rw [List.append_nil] at e1
  subst e1
  exact j80 (hZ _ hsub) ⟨σ,h,rfl⟩
 | o::rest,[],σ,pre,H1,e1,hsub,hl,h=>by cases hl
 | o::rest,hd::hs,σ,pre,H1,e1,hsub,hl,h=>by
  have hl':hs.length=rest.length:=Nat.succ.inj hl
  have e1':H=(H1 ++ [hd])++hs:=by rw [e1];simp
  have next : ∀{en:En} {σ:TSt},jog en hd->qas P ct fz0 ops rest hs σ k=some r->qvl P F Z ops.toArray (en::pre) rest (eS σ) (fun σ'=>∃ τ,k τ=some r/\σ'=eS τ):=fun {en σ} hs2 hr =>
   qgl hct hZ e1' (by rw [List.reverse_cons];exact jfy hsub hs2) hl' hr
  unfold qas at h
  obtain ⟨σ0,hσ0,h⟩:=qm7 h
  rw [<-hσ0]
  clear hσ0
  rename TSt=>σ
  rcases h with ⟨hw,h⟩|⟨hw,h⟩
  ·unfold jl9 at h
   split at h
   ·rename_i x xs ts ho
    split at h
    case h_2=>cases h
    rename_i f ys hx hys
    obtain ⟨c,hc1,rfl,hno,a,y,h1,h2,h3⟩:=qh6 h
    obtain ⟨hb,h3⟩:=cnd h3
    simp only [Bool.and_eq_true] at hb
    obtain ⟨g0,g3⟩:=hct c hc1
    have g1:=g0.1
    have g2:=g0.pure hno
    have hnt:=qvg h1 (j50 g3)
    refine qkr (en:=⟨q3v ops.toArray (eS σ) o,o.dst,{ cond:=True,val:=eD (rD c.res y) }⟩) (fun hn hoj=>jik hn hoj hw ho (jdr hx) g1 (fun σ' hσ' e a' w hR=>?_) (g2 a y h2)) ?_
    ·have hheap:=qbg hσ'
     have hops:=qay hσ'
     rw [ho] at hheap hops
     simp only [Op.operands,Call.operands] at hheap hops
     refine j6q (qsn hR.hp) h1 (fun y hy=>?_) ?_
     ·obtain ⟨x',hx',hxy⟩:=qqh hys y hy
      refine jm5 (fun t ht=>?_) (hnt y hy)
      have:=(hheap x' (by simp;exact Or.inr (by simpa using hx'))).2 t
      rw [q05 hxy,qvp] at this
      exact this ht
     ·have:=jcq hR xs.toList
      have e1:xs.toList.map (opnd σ')=xs.toList.map (opnd (eS σ)):=List.map_congr_left fun y hy=>hops y (by simp;exact Or.inr (by simpa using hy))
      rw [e1,q9z hys] at this
      exact this
    ·have:=next (en:=⟨q3v ops.toArray (eS σ) o,o.dst,{ cond:=True,val:=eD (rD c.res y) }⟩) ⟨fun l hl=>qkc hb.2 l (by rw [<-qmx];exact hl),qkc hb.1⟩ h3
     rw [qbw] at this
     exact this
   ·obtain ⟨t,h1,c,hc,he⟩:=j5v h
    obtain ⟨hb,h1⟩:=cnd h1
    simp only [Bool.and_eq_true] at hb
    generalize hfz:(fz0&&isBS o)=fz at h1
    refine qkr (en:=⟨q3v ops.toArray (eS σ) o,o.dst,q9r c (qov fz t)⟩) (fun hn hoj=>jpg fz (jde hn hoj hw he hc)) ?_
    have:=next (en:=⟨q3v ops.toArray (eS σ) o,o.dst,q9r c (qov fz t)⟩) ⟨fun l hl=>qkc hb.2 l (by rw [<-qmx];exact hl),fun l hl=>qkc hb.1 l (by rw [<-jc7 fz t,<-jea fz t,<-wl_ok (q3v ops.toArray (eS σ) o) o.dst c (qov fz t)];exact hl)⟩ h1
    rw [qbw,qxe _ _ c] at this
    rw [<-jef fz t] at this
    exact this
  ·obtain ⟨hb,h⟩:=cnd h
   simp only [Bool.and_eq_true] at hb
   refine qkr (en:=⟨q3v ops.toArray (eS σ) o,o.dst,{ cond:=True,val:=q67 undef }⟩) (fun hn hoj=>jd0 hn hoj hw) ?_
   have:=next (en:=⟨q3v ops.toArray (eS σ) o,o.dst,{ cond:=True,val:=q67 undef }⟩) ⟨fun l hl=>qkc hb.2 l (by rw [<-qmx];exact hl),qkc hb.1⟩ h
   rw [qbw] at this
   exact this
end Go.Proofs.YtlkpgcifpnppeaaGreatDoor.AM
