
import Derived.Test.YtlkpgcifpnppeaaGreatDoorMv2
import Derived.Scope
import Derived.WideLaws
import Derived.Deep.LoopGhost
set_option linter.unusedVariables false
set_option linter.unusedSimpArgs false
namespace Go.Proofs.YtlkpgcifpnppeaaGreatDoor.AM
open Go.RowKit
variable {F:Fr} {σ:St} {e:Env} {a:Act} {w:World} {P:Program}
def jpb:C→Option Value
  | .d (.v x)=>some x
  | _=>none
def qto:List C→Option (List Value)
  | []=>some []
  | c::cs=>match jpb c,qto cs with
    | some x,some xs=>some (x::xs)
    | _,_=>none
def jpf:D→Option Value
  | .one (.c c)=>jpb c
  | .one (.agg cs)=>(qto cs).map fun xs=>.agg ⟨xs⟩
  | .tup _=>none
theorem jed {c:C} {x v:Value} (h:jpb c=some x) (hv:q2k e σ w v c):v=x:=by
  unfold jpb at h
  split at h
  · simp only [Option.some.injEq] at h;subst h;exact qai hv
  · cases h
theorem j4q : ∀ {cs:List C} {xs vs:List Value},qto cs=some xs→q0b (q2k e σ w) vs cs→vs=xs
  | [],xs,vs,h,hv=>by
    simp only [qto,Option.some.injEq] at h;subst h
    match vs,hv with
    | [],_=>rfl
  | c::cs,xs,vs,h,hv=>by
    unfold qto at h
    split at h
    case h_2=>cases h
    rename_i x ys hx hy
    simp only [Option.some.injEq] at h;subst h
    match vs,hv with
    | v::vs,hv=>rw [jed hx hv.1,j4q hy hv.2]
theorem jlz {d:D} {x v:Value} (h:jpf d=some x) (hv:q1l e σ w v d):v=x:=by
  unfold jpf at h
  split at h
  · exact jed h hv
  · obtain ⟨xs,h1,rfl⟩:=Option.map_eq_some_iff.1 h
    obtain ⟨cs,rfl,h2⟩:=hv
    rw [← j4q h1 h2]
  · cases h
def qdd (P:Program) (t:TypeId) (x:D):Option Res:=match P.concrete t,jpf x with
  | true,some v=>some { cond:=True,val:=q67 (.iface t v) }
  | _,_=>none
theorem jhn {o:Oper} {t:TypeId} {x:Operand} {res:Res} (ho:o.op = .makeInterface t x) (h:qdd P t (opnd σ x)=some res):q1u P F o σ res:=by
  unfold qdd at h
  split at h
  case h_2=>cases h
  rename_i v hc hx
  simp only [Option.some.injEq] at h;subst h
  refine q1u.same fun e a w hR _=>⟨.iface t v,?_,q04 _⟩
  have h1:=jlz hx (hR.opnd x)
  simp [execOp,ho,h1,run_makeInterface w t v hc]
def qmu:Value→Option Bool
  | .nilIface=>some true
  | .iface _ _=>some false
  | _=>none
def qc3:Operand→Bool
  | .const .nilIface=>true
  | _=>false
@[push_cast] theorem jq2 (t:Nat):qc3 (.tmp t)=false:=rfl
@[push_cast] theorem jrd (k:IntKind) (n:Int):qc3 (.const (.int k n))=false:=rfl
@[push_cast] theorem jp7 (b:Bool):qc3 (.const (.bool b))=false:=rfl
@[push_cast] theorem jqh (b:ByteArray):qc3 (.const (.string b))=false:=rfl
@[push_cast] theorem joi (a:Option Addr) (n c:Nat):qc3 (.const (.slice a n c))=false:=rfl
@[push_cast] theorem jrf (a:Array Value):qc3 (.const (.agg a))=false:=rfl
@[push_cast] theorem jpx:qc3 (.const .nilIface)=true:=rfl
theorem jh4 {y:Operand} (h:qc3 y=true):y = .const .nilIface:=by
  unfold qc3 at h
  split at h
  · rfl
  · cases h
def j56 (P:Program) (t:TypeId):Bool:=match P.underlying t with
  | some (.interface _)=>true
  | _=>false
theorem jfe {t:TypeId} (h:j56 P t=true):P.underlying t=some (.interface (P.methodsAt t)):=by
  unfold j56 at h
  unfold Program.methodsAt
  cases hu:P.underlying t with
  | none=>rw [hu] at h;cases h
  | some d=>rw [hu] at h;cases d<;>first|rfl|cases h
def qhr (P:Program) (op:BinOp) (t:TypeId) (x:D):Option Res:=match j56 P t,x with
  | true,.one (.c (.d (.v v)))=>match op with
    | .eql=>(qmu v).map fun b=>{ cond:=True,val:=q67 (.bool b) }
    | .neq=>(qmu v).map fun b=>{ cond:=True,val:=q67 (.bool (!b)) }
    | _=>none
  | _,_=>none
theorem qie {v:Value} {b:Bool} (h:qmu v=some b):(v = .nilIface∧b=true) ∨ ∃ t x,v = .iface t x∧b=false:=by
  unfold qmu at h
  split at h
  · exact Or.inl ⟨rfl,(Option.some.inj h).symm⟩
  · exact Or.inr ⟨_,_,rfl,(Option.some.inj h).symm⟩
  · cases h
theorem jon {o:Oper} {op:BinOp} {t t':TypeId} {x y:Operand} {res:Res} (ho:o.op = .binOp op t x y t') (hy:qc3 y=true) (h:qhr P op t (opnd σ x)=some res):q1u P F o σ res:=by
  unfold qhr at h
  have hy':=jh4 hy
  subst hy'
  split at h
  case h_2=>cases h
  rename_i v ht hx
  have hi:=jfe ht
  split at h
  case h_3=>cases h
  · obtain ⟨b,hb,rfl⟩:=Option.map_eq_some_iff.1 h
    refine q1u.same fun e a w hR _=>⟨.bool b,?_,q04 _⟩
    have h1:=hR.opnd x
    rw [hx] at h1
    have h2:=q07 h1
    have h3:a.eval (.const .nilIface) = .nilIface:=rfl
    rcases qie hb with ⟨rfl,rfl⟩|⟨u,z,rfl,rfl⟩
    · simp [execOp,ho,h2,h3,eqGuard_nil_constR,run_eql_nil_nil w t hi]
    · simp [execOp,ho,h2,h3,eqGuard,run_eql_held_nil w t u z hi]
  · obtain ⟨b,hb,rfl⟩:=Option.map_eq_some_iff.1 h
    refine q1u.same fun e a w hR _=>⟨.bool (!b),?_,q04 _⟩
    have h1:=hR.opnd x
    rw [hx] at h1
    have h2:=q07 h1
    have h3:a.eval (.const .nilIface) = .nilIface:=rfl
    rcases qie hb with ⟨rfl,rfl⟩|⟨u,z,rfl,rfl⟩
    · simp [execOp,ho,h2,h3,eqGuard_nil_constR,run_neq_nil_nil w t hi]
    · simp [execOp,ho,h2,h3,eqGuard,run_neq_held_nil w t u z hi]
def qli:List D→Option (List Nat)
  | []=>some []
  | .one (.c (.box β 0))::ds=>(qli ds).map (β :: ·)
  | _=>none
def jpk (f:FuncId) (ds:List D):Option Res:=match Nat.blt f 2199023255552,qli ds with
  | true,some (c::cs)=>some { cond:=True,val:=.one (.c (.fn f (c::cs))) }
  | _,_=>none
def j32:List D→Option (List Nat)
  | []=>some []
  | .one (.c (.mv β))::ds=>(j32 ds).map (β :: ·)
  | _=>none
def jf0 (f:FuncId) (ds:List D):Option Res:=match Nat.blt f 2199023255552,j32 ds with
  | true,some (c::cs)=>some { cond:=True,val:=.one (.c (.fn (f+2199023255552) (c::cs))) }
  | _,_=>none
theorem j74 {e:Env} {σ:St} {w:World} : ∀ {ds:List D} {cs:List Nat} {vs:List Value},j32 ds=some cs→q0b (q1l e σ w) vs ds→(∀ β∈cs,(σ.box β).isSome=true)∧vs=cs.map fun β=>Value.map (some (e.m β))
  | [],cs,[],h,_=>by simp only [j32,Option.some.injEq] at h;subst h;exact ⟨fun β hβ=>(by cases hβ),rfl⟩
  | [],cs,_::_,_,hv=>hv.elim
  | d::ds,cs,[],_,hv=>hv.elim
  | d::ds,cs,v::vs,h,hv=>by
    unfold j32 at h
    split at h
    · rename_i h1;cases h1
    · rename_i β ds' h1
      simp only [List.cons.injEq] at h1
      obtain ⟨rfl,rfl⟩:=h1
      obtain ⟨cs',h2,rfl⟩:=Option.map_eq_some_iff.1 h
      obtain ⟨h3,h4⟩:=j74 h2 hv.2
      have h5:(σ.box β).isSome=true∧v = .map (some (e.m β)):=hv.1
      refine ⟨fun b hb=>?_,by rw [List.map_cons,h4,h5.2]⟩
      rcases List.mem_cons.1 hb with rfl|hb
      · exact h5.1
      · exact h3 b hb
    · cases h
theorem qym {e:Env} {σ:St} {w:World} : ∀ {ds:List D} {cs:List Nat} {vs:List Value},qli ds=some cs→q0b (q1l e σ w) vs ds→(∀ β∈cs,(σ.box β).isSome=true)∧vs=cs.map fun β=>Value.pointer (some ⟨e.m β,0,none⟩)
  | [],cs,[],h,_=>by simp only [qli,Option.some.injEq] at h;subst h;exact ⟨fun β hβ=>(by cases hβ),rfl⟩
  | [],cs,_::_,_,hv=>hv.elim
  | d::ds,cs,[],_,hv=>hv.elim
  | d::ds,cs,v::vs,h,hv=>by
    unfold qli at h
    split at h
    · rename_i h1;cases h1
    · rename_i β ds' h1
      simp only [List.cons.injEq] at h1
      obtain ⟨rfl,rfl⟩:=h1
      obtain ⟨cs',h2,rfl⟩:=Option.map_eq_some_iff.1 h
      obtain ⟨h3,h4⟩:=qym h2 hv.2
      have h5:(σ.box β).isSome=true∧v = .pointer (some ⟨e.m β,0,none⟩):=hv.1
      refine ⟨fun b hb=>?_,by rw [List.map_cons,h4,h5.2]⟩
      rcases List.mem_cons.1 hb with rfl|hb
      · exact h5.1
      · exact h3 b hb
    · cases h
theorem jca {e:Env} {a:Act} {w:World} (hR:R F σ e a w) : ∀ xs:List Operand,q0b (q1l e σ w) (xs.map a.eval) (xs.map (opnd σ))
  | []=>trivial
  | x::xs=>⟨hR.opnd x,jca hR xs⟩
theorem ok_fn {o:Oper} {f:FuncId} {cs:Array Operand} {res:Res} (ho:o.op = .makeFunc (.func f) #[] cs) (h:jpk f (cs.toList.map (opnd σ))=some res):q1u P F o σ res:=by
  unfold jpk at h
  split at h
  case h_2=>cases h
  rename_i c cs' hb hc
  simp only [Option.some.injEq] at h
  subst h
  refine q1u.same fun e a w hR _=>?_
  obtain ⟨h1,h2⟩:=qym (vs:=cs.toList.map a.eval) hc (jca hR cs.toList)
  refine ⟨.func (.func f) #[] (cs.map a.eval),?_,h1,?_⟩
  · simp [execOp,ho,Instr.makeFunc]
  · unfold fnV
    rw [hb,List.map_map]
    show _=Value.func (.func f) #[] ((c::cs').map fun β=>Value.pointer (some ⟨e.m β,0,none⟩)).toArray
    rw [← h2]
    congr 1
    apply Array.toList_inj.1
    simp
theorem jmq {a b:Nat} (h:b≤a):Nat.blt a b=false:=by
  cases hb:Nat.blt a b with
  | false=>rfl
  | true=>exact absurd (show a<b by simpa using hb) (Nat.not_lt.2 h)
theorem jo9 (n:Nat):Nat.blt (n+2199023255552) 2199023255552=false:=jmq (Nat.le_add_left ..)
theorem jle {f g:Nat} (h:Nat.blt f 2199023255552=false) (hg:bndB f=g) (bs:List Nat):fnV f bs = .func (.func g) (bs.map fun b=>Value.map (some b)).toArray #[]:=by
  unfold fnV
  rw [h,hg]
theorem jop {f:Nat} (h:Nat.blt f 2199023255552=true) (bs:List Nat):fnV f bs = .func (.func f) #[] (bs.map fun b=>Value.pointer (some ⟨b,0,none⟩)).toArray:=by
  unfold fnV
  rw [h]
theorem jm0 {n:Nat} (hn:n<2199023255552) (bs:List Nat):fnV (n+2199023255552) bs = .func (.func n) (bs.map fun b=>Value.map (some b)).toArray #[]:=jle (jo9 n) (jjp hn) bs
theorem jrh {o:Oper} {f:FuncId} {cs:Array Operand} {res:Res} (ho:o.op = .makeFunc (.func f) cs #[]) (h:jf0 f (cs.toList.map (opnd σ))=some res):q1u P F o σ res:=by
  unfold jf0 at h
  split at h
  case h_2=>cases h
  rename_i c cs' hb hc
  simp only [Option.some.injEq] at h
  subst h
  refine q1u.same fun e a w hR _=>?_
  obtain ⟨h1,h2⟩:=j74 (vs:=cs.toList.map a.eval) hc (jca hR cs.toList)
  refine ⟨.func (.func f) (cs.map a.eval) #[],?_,h1,?_⟩
  · simp [execOp,ho,Instr.makeFunc]
  · have h2':cs.toList.map a.eval=((c::cs').map e.m).map fun b=>Value.map (some b):=by rw [h2,List.map_map];rfl
    rw [jm0 (show f<2199023255552 by simpa using hb),← h2']
    congr 1
    apply Array.toList_inj.1
    simp
def qce (P:Program) (o:Oper) (ρ:Operand→D) (bx:Nat→Option (Nat×List C)) (rw:Nat→Option Row):Option Res:=match o.op with
  | .move x=>some { cond:=True,val:=ρ x }
  | .assign x=>some { cond:=True,val:=ρ x }
  | .pick c x y=>qqj (ρ c) (ρ x) (ρ y)
  | .alloc t=>q93 P o.dst t bx
  | .box t x=>qn9 o.dst t (ρ x) bx
  | .load t x=>q81 P t (ρ x) bx rw
  | .store t x y=>q3t P t (ρ x) (ρ y) bx rw
  | .fieldAddr t x f=>q26 P t (ρ x) f
  | .field t x f=>q9x P t (ρ x) f
  | .index t x i=>q5i P t (ρ x) (ρ i)
  | .indexAddr t x i=>q0u P t (ρ x) (ρ i) rw
  | .extract x i=>q6l (ρ x) i
  | .build t ps=>qdw P t ps ρ
  | .buildSlice t n ps=>q0x P o.dst t n ps ρ rw
  | .binOp op t x y _=>bif qc3 y then qhr P op t (ρ x) else qaf P op t (ρ x) (ρ y)
  | .makeInterface t x=>qdd P t (ρ x)
  | .unOp op _ x=>jou op (ρ x)
  | .convert s d x=>match qc2 P s d (ρ x) with
    | some r=>some r
    | none=>q3n P o.dst s d (ρ x) rw
  | .slice t x lo hi none=>match q6j P t (ρ x) (lo.map ρ) (hi.map ρ) with
    | some r=>some r
    | none=>q33 P t (ρ x) (lo.map ρ) (hi.map ρ) rw
  | .nilCheck x=>jda (ρ x)
  | .call ⟨.builtin .len,⟨[x]⟩,⟨[t]⟩⟩=>qgh P t (ρ x) rw
  | .call ⟨.builtin .append,⟨[s,x]⟩,⟨[t,t']⟩⟩=>if t=t' then q2u P o.dst t (ρ s) (ρ x) rw else none
  | .makeSlice t x y=>bif qi1 x y then qfn P o.dst t (ρ x) rw else none
  | .call ⟨.builtin .max,⟨[x,y]⟩,⟨[_,_]⟩⟩=>jib max (ρ x) (ρ y)
  | .call ⟨.builtin .min,⟨[x,y]⟩,⟨[_,_]⟩⟩=>jib min (ρ x) (ρ y)
  | .makeFunc (.func f) ⟨[]⟩ cs=>jpk f (cs.toList.map ρ)
  | .makeFunc (.func f) cs ⟨[]⟩=>jf0 f (cs.toList.map ρ)
  | .makeMap t none=>q4a P o.dst t bx
  | .lookup t m i ok=>q2m P t (ρ m) (ρ i) ok bx
  | .mapUpdate t m i x=>q2x P t (ρ m) (ρ i) (ρ x) bx
  | .insert t m i x=>q2x P t (ρ m) (ρ i) (ρ x) bx
  | _=>none
theorem j6j {o:Oper} {res:Res} (hdst : ∀ k,o.dst=some k→k<F.n) (h:qce P o (opnd σ) σ.box σ.row=some res):q1u P F o σ res:=by
  unfold qce at h
  split at h
  · rename_i ho;simp only [Option.some.injEq] at h;subst h;exact jat (Or.inl ho)
  · rename_i ho;simp only [Option.some.injEq] at h;subst h;exact jat (Or.inr ho)
  · rename_i ho;exact jm1 ho h
  · rename_i ho;exact jjk ho h
  · rename_i ho;exact jq1 ho h
  · rename_i ho;exact jmk ho h
  · rename_i ho;exact jhf ho h
  · rename_i ho;exact qx3 ho h
  · rename_i ho;exact jj1 ho h
  · rename_i ho;exact jil ho h
  · rename_i ho;exact qzo ho h
  · rename_i ho;exact jam ho h
  · rename_i ho;exact jj3 ho h
  · rename_i ho;exact qu8 ho hdst h
  · rename_i ho
    cases hn:qc3 _ with
    | true=>rw [hn] at h;exact jon ho hn h
    | false=>rw [hn] at h;exact jr2 ho h
  · rename_i ho;exact jhn ho h
  · rename_i ho;exact ok_un ho h
  · rename_i ho
    split at h
    · rename_i r hr
      simp only [Option.some.injEq] at h;subst h
      exact jnf ho hr
    · exact j8e ho hdst h
  · rename_i ho
    split at h
    · rename_i r hr
      simp only [Option.some.injEq] at h;subst h
      exact ok_slice ho hr
    · exact j2p ho h
  · rename_i ho;exact jr4 ho h
  · rename_i ho;exact jpr ho h
  · rename_i ho
    split at h
    case isFalse=>cases h
    rename_i ht
    subst ht
    exact jf5 ho hdst h
  · rename_i ho
    cases hs:qi1 _ _ with
    | true=>rw [hs] at h;exact job ho hs hdst h
    | false=>rw [hs] at h;cases h
  · rename_i ho;exact jqb ho h
  · rename_i ho;exact jqe ho h
  · rename_i ho;exact ok_fn ho h
  · rename_i ho;exact jrh ho h
  · rename_i ho;exact jal ho h
  · rename_i ho;exact jcu ho h
  · rename_i ho;exact qzk (Or.inl ho) h
  · rename_i ho;exact qzk (Or.inr ho) h
  · cases h
def q47 (ops:Array Oper) (σ:St) (o:Oper):Option Bool:=match o.guard with
  | none=>some true
  | some (g,want)=>match (ops[g]?).bind (·.dst) with
    | some t=>match σ.slot t with
      | .one (.c (.d (.v (.bool b))))=>some (b==want)
      | .one (.c (.d (.v (.tuple ⟨[]⟩))))=>some false
      | _=>none
    | none=>none
theorem q73 {ops:Array Oper} {o:Oper} {b:Bool} (hR:R F σ e a w) (h:q47 ops σ o=some b) (hn : ∀ g,o.guard=some g→∀ t,(ops[g.1]?).bind (·.dst)=some t→t<F.n):Region.wanted o (yielded ops a.tmps)=b:=by
  unfold q47 at h
  unfold Region.wanted
  split at h
  · rename_i hg
    simp only [Option.some.injEq] at h
    rw [hg];exact h
  · rename_i g want hg
    rw [hg]
    split at h
    case h_2=>cases h
    rename_i t ht
    have hlt:=hn _ hg t ht
    have hs:a.tmps[t]? = some (a.tmps.getD t undef):=by
      have:t<a.tmps.size:=by rw [hR.size];exact hlt
      simp [Array.getD,this]
    have h1:=hR.slots t
    split at h
    · rename_i b' hb
      rw [hb] at h1
      have h2:=q07 h1
      simp only [Option.some.injEq] at h
      subst h
      simp only [yielded,ht,Option.bind_some,hs,h2]
      cases b'<;>cases want<;>rfl
    · rename_i hb
      rw [hb] at h1
      have h2:=q07 h1
      simp only [Option.some.injEq] at h
      subst h
      simp only [yielded,ht,Option.bind_some,hs,h2]
      rfl
    · cases h
def q7p:St:={ slot:=fun _=>.one (.c .bad),box:=fun _=>none,row:=fun _=>none }
def q57 (Pc:Nat→Nat→Prop):Env:={ m:=fun _=>0,rv:=fun _ _=>undef,Pc:=Pc }
def qfh (P:Program) (G:World→Prop) (f:FuncId) (ds:List D) (d:D):Prop :=
  ∀ (Pc:Nat→Nat→Prop) (w:World) (vs:Array Value),G w→(∀ b o,Pc b o→b<w.heap.size)→q0b (q1l (q57 Pc) q7p w) vs.toList ds →
    Calls P f vs w fun e w'=>∃ v Pc',e = .returned v∧Below w.heap.size w w'∧(∀ b o,Pc b o→Pc' b o)∧(∀ b o,Pc' b o→Pc b o∨(w.heap.size≤b∧b<w'.heap.size))∧q1l (q57 Pc') q7p w' v d
def qvs (rw:Nat→Option Row):C→Option C
  | .d x=>some (.d x)
  | .rp cs=>some (.rp cs)
  | .row t g=>match rw t with
    | some r=>if r.gen=g∧r.wr=false then some (.d (.lst r.sz r.xs)) else none
    | none=>none
  | _=>none
def qfb (rw:Nat→Option Row):List C→Option (List C)
  | []=>some []
  | c::cs=>match qvs rw c,qfb rw cs with
    | some x,some xs=>some (x::xs)
    | _,_=>none
def j0s (rw:Nat→Option Row):D1→Option D1
  | .c x=>(qvs rw x).map .c
  | .agg cs=>(qfb rw cs).map .agg
def j0y (rw:Nat→Option Row):D→Option D
  | .one x=>(j0s rw x).map .one
  | .tup _=>none
def q9o (rw:Nat→Option Row):List D→Option (List D)
  | []=>some []
  | c::cs=>match j0y rw c,q9o rw cs with
    | some x,some xs=>some (x::xs)
    | _,_=>none
theorem qtn (h:Hp F σ e w) {v:Value} {c c':C} (hc:qvs σ.row c=some c') (hv:q2k e σ w v c):q2k (q57 e.Pc) q7p w v c':=by
  unfold qvs at hc
  split at hc
  · simp only [Option.some.injEq] at hc;subst hc;exact hv
  · simp only [Option.some.injEq] at hc;subst hc;exact hv
  · rename_i t g
    split at hc
    case h_2=>cases hc
    rename_i r hr
    split at hc
    case isFalse=>cases hc
    rename_i hg
    obtain ⟨rfl,hw⟩:=hg
    simp only [Option.some.injEq] at hc;subst hc
    obtain ⟨_,h5,_⟩:(∃ r',σ.row t=some r'∧r.gen≤r'.gen)∧v=e.rv t r.gen∧_:=hv
    rw [h5]
    exact h.rowDat hr hw
  · cases hc
theorem qlj (h:Hp F σ e w) : ∀ {vs:List Value} {cs cs':List C},qfb σ.row cs=some cs'→q0b (q2k e σ w) vs cs→q0b (q2k (q57 e.Pc) q7p w) vs cs'
  | [],[],cs',hc,_=>by simp only [qfb,Option.some.injEq] at hc;subst hc;trivial
  | v::vs,c::cs,cs',hc,hv=>by
    unfold qfb at hc
    split at hc
    case h_2=>cases hc
    rename_i x xs hx hxs
    simp only [Option.some.injEq] at hc;subst hc
    exact ⟨qtn h hx hv.1,qlj h hxs hv.2⟩
  | [],_::_,_,_,h=>h.elim
  | _::_,[],_,_,h=>h.elim
theorem jhs (h:Hp F σ e w) {v:Value} {d d':D} (hd:j0y σ.row d=some d') (hv:q1l e σ w v d):q1l (q57 e.Pc) q7p w v d':=by
  cases d with
  | one x =>
    obtain ⟨y,hy,rfl⟩:=Option.map_eq_some_iff.1 hd
    cases x with
    | c x =>
      obtain ⟨z,hz,rfl⟩:=Option.map_eq_some_iff.1 hy
      exact qtn h hz hv
    | agg cs =>
      obtain ⟨z,hz,rfl⟩:=Option.map_eq_some_iff.1 hy
      obtain ⟨us,h1,h2⟩:=hv
      exact ⟨us,h1,qlj h hz h2⟩
  | tup xs=>cases hd
theorem qle (h:Hp F σ e w) : ∀ {vs:List Value} {ds ds':List D},q9o σ.row ds=some ds'→q0b (q1l e σ w) vs ds→q0b (q1l (q57 e.Pc) q7p w) vs ds'
  | [],[],cs',hc,_=>by simp only [q9o,Option.some.injEq] at hc;subst hc;trivial
  | v::vs,c::cs,cs',hc,hv=>by
    unfold q9o at hc
    split at hc
    case h_2=>cases hc
    rename_i x xs hx hxs
    simp only [Option.some.injEq] at hc;subst hc
    exact ⟨jhs h hx hv.1,qle h hxs hv.2⟩
  | [],_::_,_,_,h=>h.elim
  | _::_,[],_,_,h=>h.elim
theorem qfq {f:FuncId} {ds:List D} {d:D} {vs:Array Value} (hc:qfh P F.G f ds d) (h:Hp F σ e w) (hv:q0b (q1l (q57 e.Pc) q7p w) vs.toList ds) :
    Calls P f vs w fun en w'=>∃ v e',en = .returned v∧Fwd e σ w e' σ w'∧Hp F σ e' w'∧q1l e' σ w' v d:=by
  refine (hc e.Pc w vs (F.gst _ _ F.g0 h.below) h.pcLt hv).mono ?_
  rintro en w' ⟨v,Pc',rfl,hb,hp1,hp2,hd⟩
  obtain ⟨hf,hh⟩:=h.grow hb
  have hsz:=hb.size
  obtain ⟨hf2,hh2⟩:=hh.more (fun b o=>Pc' b o∧w.heap.size≤b∧b<w'.heap.size) (fun b o hN=>⟨Nat.le_trans h.sizeLe hN.2.1,hN.2.2⟩)
    (fun b o hN β hβ he=>by have:=h.boxLt hβ;omega) (fun b o hN t r hr he=>by have:=(h.rowLt hr he).2;omega) (fun b o hN hk=>by have:=h.kp.lt hk;omega)
  refine ⟨v,_,rfl,⟨fun b o hp=>hf2.pc b o (hf.pc b o hp),fun b o hp=>hf.cell b o hp,fun β hβ=>⟨hβ,rfl⟩,fun t r g hr hg=>⟨⟨r,hr,hg,rfl⟩,rfl⟩⟩,hh2,?_⟩
  refine q1l.fwd (e:=q57 Pc') (σ:=q7p) (w:=w') ⟨fun b o hp=>?_,fun _ _ _=>rfl,(fun β hβ=>by cases hβ),(fun t r g hr=>by cases hr)⟩ hd
  rcases hp2 b o hp with h1|h1
  · exact Or.inl h1
  · exact Or.inr ⟨hp,h1⟩
def qml (n:Nat) (o:Oper):Bool:=match o.dst with|some d=>decide (d<n)|none=>true
theorem qaw {n:Nat} {o:Oper} (h:qml n o=true) : ∀ k,o.dst=some k→k<n:=by
  intro k hk
  unfold qml at h
  rw [hk] at h
  exact of_decide_eq_true h
def q8q (n:Nat) (ops:Array Oper):Bool:=ops.all (qml n)
def qg5 (P:Program) (F:Fr) (ops:Array Oper) (l:List Oper) (σ:St) (Q:St→Prop):Prop :=
  q8q F.n ops=true→(∀ o∈l,qml F.n o=true)→∀ e a w,R F σ e a w→wpList P ops (fun ex a w=>ex = .normal∧∃ σ' e',Q σ'∧R F σ' e' a w) l a w
theorem q2e {n:Nat} {ops:Array Oper} (h:q8q n ops=true) {i:Nat} {t:Nat} (ht:(ops[i]?).bind (·.dst)=some t):t<n:=by
  obtain ⟨o,ho,hd⟩:=Option.bind_eq_some_iff.1 ht
  have:=Array.all_eq_true_iff_forall_mem.1 h o (Array.mem_of_getElem? ho)
  exact qaw this t hd
variable {ops:Array Oper} {o:Oper} {rest:List Oper} {Q:St→Prop}
theorem j71 (h:Q σ):qg5 P F ops [] σ Q:=fun _ _ e a w hR=>⟨rfl,σ,e,h,hR⟩
theorem qlq (hw:q47 ops σ o=some true) {res:Res} (he:qce P o (opnd σ) σ.box σ.row=some res) (hc:res.cond)
    (h:qg5 P F ops rest ((σ.app res).put o.dst res.val) Q):qg5 P F ops (o::rest) σ Q:=by
  intro hn hall e a w hR
  have hd:=hall o (List.mem_cons_self ..)
  have hrest : ∀ o∈rest,qml F.n o=true:=fun o' ho'=>hall o' (List.mem_cons_of_mem _ ho')
  obtain ⟨v,w',e',h1,h2,h3,h4⟩:=j6j (qaw hd) he e a w hR hc
  have hR':R F ((σ.app res).put o.dst res.val) e' (a.put o.dst v) w':=hR.next h2 h3 rfl o.dst (qaw hd) v res.val h4
  have hnext:=h hn hrest e' _ _ hR'
  unfold wpList
  rw [q73 hR hw (fun g _ t ht=>q2e hn ht),if_pos rfl]
  refine .inl ?_
  unfold Oper.wp
  rcases h1 with h1|⟨h1,rfl⟩
  · rw [h1];exact hnext
  · rw [h1];exact hnext
theorem qz6 (hw:q47 ops σ o=some false) (h:qg5 P F ops rest (σ.put o.dst (q67 undef)) Q):qg5 P F ops (o::rest) σ Q:=by
  intro hn hall e a w hR
  have hd:=hall o (List.mem_cons_self ..)
  have hrest : ∀ o∈rest,qml F.n o=true:=fun o' ho'=>hall o' (List.mem_cons_of_mem _ ho')
  have hR':R F (σ.put o.dst (q67 undef)) e (a.put o.dst undef) w:=hR.pure (qaw hd) (q04 _)
  have hnext:=h hn hrest e _ _ hR'
  unfold wpList
  rw [q73 hR hw (fun g _ t ht=>q2e hn ht),if_neg (by decide)]
  exact hnext
def q5h (P:Program) (f:FuncId):Bool:=match P.funcs[f]? with
  | some fn=>fn.body.isSome&&fn.name != "runtime.NumGoroutine"
  | none=>false
theorem qj5 {f:FuncId} (h:q5h P f=true) (args:Array Value) (w:World):(callFunc f args).run P w = .ok (.enter f args) w:=by
  unfold q5h at h
  split at h
  case h_2=>cases h
  rename_i fn hf
  simp only [Bool.and_eq_true,bne_iff_ne,ne_eq] at h
  have hp:(program).run P w = .ok P w:=rfl
  have h3 : ¬ fn.body=none:=by intro he;rw [he] at h;simp at h
  simp [callFunc,Sem.run_bind,hp,hf,h.2,h3]
theorem qeu (hR:R F σ e a w) : ∀ xs:List Operand,q0b (q1l e σ w) (xs.map a.eval) (xs.map (opnd σ))
  | []=>trivial
  | x::xs=>⟨hR.opnd x,qeu hR xs⟩
def callee (σ:St) (x:Operand):Option FuncId:=match opnd σ x with
  | .one (.c (.d (.v (.func (.func f) ⟨[]⟩ ⟨[]⟩))))=>some f
  | _=>none
theorem jpi (hw:q47 ops σ o=some true) {x:Operand} {xs:Array Operand} {ts:Array TypeId} (ho:o.op = .call { callee:=.value x,args:=xs,argTypes:=ts })
    {f:FuncId} (hf:callee σ x=some f) (hb:q5h P f=true) {ds:List D} (hds:q9o σ.row (xs.toList.map (opnd σ))=some ds) {d:D} (hc:qfh P F.G f ds d)
    (h:qg5 P F ops rest (σ.put o.dst d) Q):qg5 P F ops (o::rest) σ Q:=by
  intro hn hall e a w hR
  have hd:=hall o (List.mem_cons_self ..)
  have hrest : ∀ o∈rest,qml F.n o=true:=fun o' ho'=>hall o' (List.mem_cons_of_mem _ ho')
  unfold wpList
  rw [q73 hR hw (fun g _ t ht=>q2e hn ht),if_pos rfl]
  refine .inl ?_
  unfold callee at hf
  split at hf
  case h_2=>cases hf
  rename_i f' hx
  simp only [Option.some.injEq] at hf
  subst hf
  have h1:=hR.opnd x
  rw [hx] at h1
  have h2:=q07 h1
  have hrun:(execOp a.eval o).run P w = .ok (.enter f' (xs.map a.eval)) w:=by
    have:=qj5 hb (xs.map a.eval) w
    simp [execOp,ho,resolve,h2,Deferred.ofValue,invoke,this]
  unfold Oper.wp
  rw [hrun]
  refine (qfq hc hR.hp (vs:=xs.map a.eval) (by rw [Array.toList_map];exact qle hR.hp hds (qeu hR _))).mono ?_
  rintro en w' ⟨v,e',rfl,h3,h4,h5⟩
  exact h hn hrest e' _ _ (hR.next h3 h4 rfl o.dst (qaw hd) v d h5)
def jlr (σ:St) (dst:Option Nat) (K:St→Prop):Option Bool→Option Res→Prop
  | some true,some res=>res.cond∧K ((σ.app res).put dst res.val)
  | some false,_=>K (σ.put dst (q67 undef))
  | _,_=>False
theorem jra (h : ∀ K:St→Prop,(∀ σ',qg5 P F ops rest σ' Q→K σ')→jlr σ o.dst K (q47 ops σ o) (qce P o (opnd σ) σ.box σ.row)):qg5 P F ops (o::rest) σ Q:=by
  have h:=h (fun σ'=>qg5 P F ops rest σ' Q) (fun _ h=>h)
  unfold jlr at h
  split at h
  · rename_i res hw he
    exact qlq hw he h.1 h.2
  · rename_i hw
    exact qz6 hw h
  · exact h.elim
end Go.Proofs.YtlkpgcifpnppeaaGreatDoor.AM
namespace Go.Proofs.YtlkpgcifpnppeaaGreatDoor.AM
open Go.RowKit
variable {F:Fr} {σ:St} {e:Env} {a:Act} {w:World} {P:Program}
def q1w (P:Program) (F:Fr) (c:Code) (σ:St) (Q:Exit→St→Prop):Prop :=
  ∀ e a w,R F σ e a w→c.wp P (fun ex a' w'=>∃ σ' e',Q ex σ'∧R F σ' e' a' w') a w
variable {c x y:Code} {Q Q':Exit→St→Prop}
theorem ja4 (h:Q .normal σ):q1w P F .skip σ Q:=fun e a w hR=>wp_skip ⟨σ,e,h,hR⟩
theorem j9s {id:Nat} (h:Q (.exit id) σ):q1w P F (.exit id) σ Q:=fun e a w hR=>wp_exit ⟨σ,e,h,hR⟩
theorem jbc (h:Q .ret σ):q1w P F .ret σ Q:=fun e a w hR=>wp_ret ⟨σ,e,h,hR⟩
def andThen (next:St→Prop) (Q:Exit→St→Prop):Exit→St→Prop
  | .normal,σ=>next σ
  | ex,σ=>Q ex σ
theorem qkd (h:q1w P F x σ (andThen (fun σ'=>q1w P F y σ' Q) Q)):q1w P F (.seq x y) σ Q:=fun e a w hR=>by
  refine wp_seq (wp_mono (h e a w hR) fun ex a' w' hh=>?_)
  obtain ⟨σ',e',h1,h2⟩:=hh
  cases ex with
  | normal=>exact h1 e' a' w' h2
  | _=>exact ⟨σ',e',h1,h2⟩
def inBlock (id:Nat) (Q:Exit→St→Prop):Exit→St→Prop
  | .exit id',σ=>if id'=id then Q .normal σ else Q (.exit id') σ
  | ex,σ=>Q ex σ
theorem j2x {id:Nat} (h:q1w P F x σ (inBlock id Q)):q1w P F (.block id x) σ Q:=fun e a w hR=>by
  refine wp_block (wp_mono (h e a w hR) fun ex a' w' hh=>?_)
  obtain ⟨σ',e',h1,h2⟩:=hh
  cases ex with
  | exit id' =>
    show if id'=id then _ else _
    by_cases hid:id'=id
    · rw [if_pos hid]
      have h1':if id'=id then Q .normal σ' else Q (.exit id') σ':=h1
      rw [if_pos hid] at h1'
      exact ⟨σ',e',h1',h2⟩
    · rw [if_neg hid]
      have h1':if id'=id then Q .normal σ' else Q (.exit id') σ':=h1
      rw [if_neg hid] at h1'
      exact ⟨σ',e',h1',h2⟩
  | _=>exact ⟨σ',e',h1,h2⟩
def qpy:D→Option Bool
  | .one (.c (.d (.v (.bool b))))=>some b
  | _=>none
theorem qpz {cnd:Operand} {b:Bool} (hb:qpy (opnd σ cnd)=some b) (ht:b=true→q1w P F x σ Q) (hf:b=false→q1w P F y σ Q):q1w P F (.cond cnd x y) σ Q:=fun e a w hR=>by
  unfold qpy at hb
  split at hb
  case h_2=>cases hb
  rename_i b' hx
  simp only [Option.some.injEq] at hb
  subst hb
  have h1:=hR.opnd cnd
  rw [hx] at h1
  cases b'
  · exact wp_cond_false (q07 h1) (hf rfl e a w hR)
  · exact wp_cond_true (q07 h1) (ht rfl e a w hR)
theorem qhu {id:Nat} {l:List Oper} (hn:q8q F.n l.toArray=true) (h:qg5 P F l.toArray l σ (Q .normal)):q1w P F (.region id l.toArray false) σ Q:=fun e a w hR=>by
  have hall : ∀ o∈l,qml F.n o=true:=fun o ho=>Array.all_eq_true_iff_forall_mem.1 hn o (by simpa using ho)
  refine wp_mono (wp_region_lit (h hn hall e a w hR)) fun ex a' w' hh=>?_
  obtain ⟨rfl,σ',e',h1,h2⟩:=hh
  exact ⟨σ',e',h1,h2⟩
theorem j09 (h:q1w P F x σ (fun ex σ'=>match ex with | .goto _=>False|ex=>Q ex σ')):q1w P F (.scope x) σ Q:=fun e a w hR=>by
  refine wp_scope_straight (wp_mono (h e a w hR) fun ex a' w' hh=>?_)
  obtain ⟨σ',e',h1,h2⟩:=hh
  cases ex with
  | goto l=>exact h1.elim
  | _=>exact ⟨σ',e',h1,h2⟩
def clC (σ:St):C→Prop
  | .box β _=>(σ.box β).isSome=true
  | .bsl β _=>(σ.box β).isSome=true
  | .mv β=>(σ.box β).isSome=true
  | .row t g=>∃ r,σ.row t=some r∧g≤r.gen
  | .wp t g _ _=>∃ r,σ.row t=some r∧g≤r.gen
  | .fn _ caps=>∀ β∈caps,(σ.box β).isSome=true
  | _=>True
def cl1 (σ:St):D1→Prop
  | .c x=>clC σ x
  | .agg cs=>∀ c∈cs,clC σ c
def clD (σ:St):D→Prop
  | .one x=>cl1 σ x
  | .tup xs=>∀ x∈xs,cl1 σ x
structure Le (σ' σ:St):Prop where
  slot : ∀ i,σ'.slot i = .one (.c .bad)∨(σ'.slot i=σ.slot i∧clD σ' (σ'.slot i))
  box : ∀ β T cs,σ'.box β=some (T,cs)→σ.box β=some (T,cs)∧∀ c∈cs,clC σ' c
  row : ∀ t r,σ'.row t=some r→σ.row t=some r
variable {σ':St}
theorem Le.crep (h:Le σ' σ) {v:Value} {c:C} (hc:clC σ' c) (hv:q2k e σ w v c):q2k e σ' w v c:=by
  cases c with
  | d x=>exact hv
  | box β off=>exact ⟨hc,hv.2⟩
  | bsl β n=>exact ⟨hc,hv.2⟩
  | mv β=>exact ⟨hc,hv.2⟩
  | row t g=>exact ⟨hc,hv.2⟩
  | rp cs=>exact hv
  | wp t g k off =>
    obtain ⟨r,b,h1,h2,h3,h4⟩:=hv
    obtain ⟨r',h5,h6⟩:=hc
    have:=h.row t r' h5
    rw [h1] at this;cases this
    exact ⟨r,b,h5,h6,h3,h4⟩
  | fn f caps=>exact ⟨hc,hv.2⟩
  | bad=>trivial
theorem qji {α β:Type} {r r':α→β→Prop} : ∀ {l:List α} {m:List β},(∀ a b,b∈m→r a b→r' a b)→q0b r l m→q0b r' l m
  | [],[],_,_=>trivial
  | _::_,b::_,h,hh=>⟨h _ _ (List.mem_cons_self ..) hh.1,qji (fun a b' hb=>h a b' (List.mem_cons_of_mem _ hb)) hh.2⟩
  | [],_::_,_,h=>h.elim
  | _::_,[],_,h=>h.elim
theorem Le.rep1 (h:Le σ' σ) {v:Value} {d:D1} (hc:cl1 σ' d) (hv:q80 e σ w v d):q80 e σ' w v d:=by
  cases d with
  | c x=>exact h.crep hc hv
  | agg cs =>
    obtain ⟨vs,h1,h2⟩:=hv
    exact ⟨vs,h1,qji (fun a b hb=>h.crep (hc b hb)) h2⟩
theorem Le.drep (h:Le σ' σ) {v:Value} {d:D} (hc:clD σ' d) (hv:q1l e σ w v d):q1l e σ' w v d:=by
  cases d with
  | one x=>exact h.rep1 hc hv
  | tup xs =>
    obtain ⟨vs,h1,h2⟩:=hv
    exact ⟨vs,h1,qji (fun a b hb=>h.rep1 (hc b hb)) h2⟩
theorem R.le (h:Le σ' σ) (hR:R F σ e a w):R F σ' e a w:=by
  have hbs : ∀ β,(σ'.box β).isSome=true→(σ.box β).isSome=true:=fun β hβ=>by
    obtain ⟨⟨T,cs⟩,hx⟩:=Option.isSome_iff_exists.1 hβ
    rw [(h.box β T cs hx).1];rfl
  refine ⟨hR.defers,hR.size,fun i=>?_,?_⟩
  · rcases h.slot i with h1|⟨h1,h2⟩
    · rw [h1];trivial
    · refine h.drep h2 ?_
      rw [h1];exact hR.slots i
  · have hp:=hR.hp
    refine ⟨hp.below,hp.pc0,hp.pcNew,hp.pcLt,fun β T cs hx=>?_,fun β hβ=>hp.boxPc β (hbs β hβ),fun β β' hβ hβ'=>hp.boxNe β β' (hbs β hβ) (hbs β' hβ'),
      fun t r hr=>hp.rows t r (h.row t r hr),fun t r b hr=>hp.rowPro t r b (h.row t r hr),fun t r b hr=>hp.rowPc t r b (h.row t r hr),
      fun t r b β hr hb hβ=>hp.rowBox t r b β (h.row t r hr) hb (hbs β hβ),fun t t' r r' b hn hr hr'=>hp.rowNe t t' r r' b hn (h.row t r hr) (h.row t' r' hr'),⟨hp.kp.keep,hp.kp.wkLe,fun β hβ=>hp.kp.boxK β (hbs β hβ),fun t r b hr=>hp.kp.rowK t r b (h.row t r hr),hp.kp.pcK,hp.kp.cellK,hp.kp.boxM,fun t v r h0 hr=>hp.kp.rowM t v r h0 (h.row t r hr)⟩⟩
    obtain ⟨h1,h2⟩:=h.box β T cs hx
    obtain ⟨h3,h4⟩:=hp.boxes β T cs h1
    refine ⟨h3,?_⟩
    rcases h4 with ⟨k0,vs,k4,k5,k6⟩|⟨k0,sz,xs,k4,k5⟩
    · exact Or.inl ⟨k0,vs,k4,qji (fun a b hb=>h.crep (h2 b hb)) k5,k6⟩
    · exact Or.inr ⟨k0,sz,xs,k4,k5⟩
def St.of (slots:List (Nat×D)) (boxes:List (Nat×(Nat×List C))) (rows:List (Nat×Row)):St :=
  { slot:=fun i=>(slots.lookup i).getD (.one (.c .bad)),box:=fun i=>boxes.lookup i,row:=fun i=>rows.lookup i }
theorem qbj {β:Type} : ∀ {l:List (Nat×β)} {i:Nat} {x:β},l.lookup i=some x→(i,x)∈l
  | (j,y)::l,i,x,h=>by
    rw [List.lookup_cons] at h
    by_cases hij:i=j
    · subst hij
      simp only [beq_self_eq_true] at h
      rw [Option.some.inj h];exact List.mem_cons_self ..
    · have:(i==j)=false:=by simpa using hij
      simp only [this] at h
      exact List.mem_cons_of_mem _ (qbj h)
theorem Le.of {slots:List (Nat×D)} {boxes:List (Nat×(Nat×List C))} {rows:List (Nat×Row)}
    (h1 : ∀ p∈slots,p.2=σ.slot p.1∧clD (St.of slots boxes rows) p.2) (h2 : ∀ p∈boxes,σ.box p.1=some p.2∧∀ c∈p.2.2,clC (St.of slots boxes rows) c) (h3 : ∀ p∈rows,σ.row p.1=some p.2):Le (St.of slots boxes rows) σ:=by
  refine ⟨fun i=>?_,fun β T cs hx=>?_,fun t r hr=>h3 _ (qbj hr)⟩
  · cases hl:slots.lookup i with
    | none=>left;show (slots.lookup i).getD _=_;rw [hl];rfl
    | some d =>
      right
      have:=h1 _ (qbj hl)
      have he:(St.of slots boxes rows).slot i=d:=by show (slots.lookup i).getD _=_;rw [hl];rfl
      rw [he];exact this
  · exact h2 _ (qbj hx)
def frz (σ:St):St:={ σ with row:=fun t=>(σ.row t).map fun r=>{ r with wr:=false } }
theorem Hp.frz (h:Hp F σ e w) : ∃ e',Fwd e σ w e' (frz σ) w∧Hp F (AM.frz σ) e' w:=by
  let N:Nat→Nat→Prop:=fun b o=>∃ t r,σ.row t=some r∧(e.rv t r.gen).ownBlock=some b∧o<r.xs.length*r.sz
  have hrow : ∀ t r,(AM.frz σ).row t=some r→∃ r0,σ.row t=some r0∧r = { r0 with wr:=false }:=fun t r hr=>by
    obtain ⟨r0,h1,h2⟩:=Option.map_eq_some_iff.1 hr
    exact ⟨r0,h1,h2.symm⟩
  have hf:Fwd e σ w { e with Pc:=fun b o=>e.Pc b o∨N b o } (AM.frz σ) w:=⟨fun _ _ h=>Or.inl h,fun _ _ _=>rfl,fun _ h=>⟨h,rfl⟩,fun t r g hr hg=>⟨⟨{ r with wr:=false },by show (σ.row t).map _=_;rw [hr];rfl,hg,rfl⟩,rfl⟩⟩
  refine ⟨_,hf,h.below,fun b o hp=>Or.inl (h.pc0 b o hp),?_,?_,fun β T cs hx=>?_,?_,h.boxNe,fun t r hr=>?_,fun t r b hr _ hb o ho=>?_,fun t r b hr hb o hp=>?_,fun t r b β hr hb hβ=>?_,fun t t' r r' b hn hr hr' hb=>?_,⟨h.kp.keep,h.kp.wkLe,h.kp.boxK,fun t r b hr hb=>?_,?_,h.kp.cellK,h.kp.boxM,fun t v r h0 hr=>by obtain ⟨r0,h1,rfl⟩:=hrow t r hr;exact h.kp.rowM t v r0 h0 h1⟩⟩
  · rintro b o (hp|⟨t,r,h1,h2,h3⟩)
    · exact h.pcNew b o hp
    · exact Or.inr (h.rowLt h1 h2).1
  · rintro b o (hp|⟨t,r,h1,h2,h3⟩)
    · exact h.pcLt b o hp
    · exact (h.rowLt h1 h2).2
  · obtain ⟨h0,h1⟩:=h.boxes β T cs hx
    exact ⟨h0,h1.fwd hf rfl⟩
  · rintro β hβ o (hp|⟨t,r,h1,h2,h3⟩)
    · exact h.boxPc β hβ o hp
    · exact h.rowBox t r _ β h1 h2 hβ rfl
  · obtain ⟨r0,h1,rfl⟩:=hrow t r hr
    obtain ⟨hs,cells,k1,k2,k3⟩:=h.rows t r0 h1
    exact ⟨hs,cells,k1,k2.mono fun _ _=>DatRep.mono (fun _ _ h=>Or.inl h) (fun _ _ _=>rfl),k3⟩
  · obtain ⟨r0,h1,rfl⟩:=hrow t r hr
    exact Or.inr ⟨t,r0,h1,hb,ho⟩
  · obtain ⟨r0,h1,rfl⟩:=hrow t r hr
    refine ⟨rfl,?_⟩
    rcases hp with hp|⟨t',r',h2,h3,h4⟩
    · exact (h.rowPc t r0 b h1 hb o hp).2
    · by_cases ht:t=t'
      · subst ht
        rw [h1] at h2;cases h2
        exact h4
      · exact absurd h3 (h.rowNe t t' r0 r' b ht h1 h2 hb)
  · obtain ⟨r0,h1,rfl⟩:=hrow t r hr
    exact h.rowBox t r0 b β h1 hb hβ
  · obtain ⟨r0,h1,rfl⟩:=hrow t r hr
    obtain ⟨r1,h2,rfl⟩:=hrow t' r' hr'
    exact h.rowNe t t' r0 r1 b hn h1 h2 hb
  · obtain ⟨r0,h1,rfl⟩:=hrow t r hr
    exact h.kp.rowK t r0 b h1 hb
  · rintro b o (hp|⟨t,r,h1,h2,h3⟩)
    · exact h.kp.pcK b o hp
    · exact Or.inr (h.kp.rowK t r b h1 h2)
def frzB (p:Nat→Bool) (σ:St):St:={ σ with row:=fun t=>(σ.row t).map fun r=>if p t=true then { r with wr:=false } else r }
theorem Hp.frzB (p:Nat→Bool) (h:Hp F σ e w) : ∃ e',Fwd e σ w e' (frzB p σ) w∧Hp F (AM.frzB p σ) e' w:=by
  let N:Nat→Nat→Prop:=fun b o=>∃ t r,p t=true∧σ.row t=some r∧(e.rv t r.gen).ownBlock=some b∧o<r.xs.length*r.sz
  have hrow : ∀ t r,(AM.frzB p σ).row t=some r→∃ r0,σ.row t=some r0∧((p t=true∧r = { r0 with wr:=false })∨(p t=false∧r=r0)):=fun t r hr=>by
    obtain ⟨r0,h1,h2⟩:=Option.map_eq_some_iff.1 hr
    cases hp:p t with
    | true=>rw [hp] at h2;exact ⟨r0,h1,Or.inl ⟨rfl,h2.symm⟩⟩
    | false=>rw [hp] at h2;exact ⟨r0,h1,Or.inr ⟨rfl,h2.symm⟩⟩
  have hsame : ∀ t r,(AM.frzB p σ).row t=some r→∃ r0,σ.row t=some r0∧r.gen=r0.gen∧r.xs=r0.xs∧r.sz=r0.sz∧r.E=r0.E:=fun t r hr=>by
    obtain ⟨r0,h1,⟨_,rfl⟩|⟨_,rfl⟩⟩:=hrow t r hr
    · exact ⟨r0,h1,rfl,rfl,rfl,rfl⟩
    · exact ⟨r,h1,rfl,rfl,rfl,rfl⟩
  have hf:Fwd e σ w { e with Pc:=fun b o=>e.Pc b o∨N b o } (AM.frzB p σ) w:=⟨fun _ _ h=>Or.inl h,fun _ _ _=>rfl,fun _ h=>⟨h,rfl⟩,fun t r g hr hg=>⟨⟨if p t=true then { r with wr:=false } else r,by show (σ.row t).map _=_;rw [hr];rfl,by split<;>exact hg,by split<;>rfl⟩,rfl⟩⟩
  refine ⟨_,hf,h.below,fun b o hp=>Or.inl (h.pc0 b o hp),?_,?_,fun β T cs hx=>?_,?_,h.boxNe,fun t r hr=>?_,fun t r b hr hw hb o ho=>?_,fun t r b hr hb o hp=>?_,fun t r b β hr hb hβ=>?_,fun t t' r r' b hn hr hr' hb=>?_,⟨h.kp.keep,h.kp.wkLe,h.kp.boxK,fun t r b hr hb=>?_,?_,h.kp.cellK,h.kp.boxM,fun t v r h0 hr=>by obtain ⟨r0,h1,⟨_,h2⟩|⟨_,h2⟩⟩:=hrow t r hr<;>(rw [h2];exact h.kp.rowM t v r0 h0 h1)⟩⟩
  · rintro b o (hp|⟨t,r,_,h1,h2,h3⟩)
    · exact h.pcNew b o hp
    · exact Or.inr (h.rowLt h1 h2).1
  · rintro b o (hp|⟨t,r,_,h1,h2,h3⟩)
    · exact h.pcLt b o hp
    · exact (h.rowLt h1 h2).2
  · obtain ⟨h0,h1⟩:=h.boxes β T cs hx
    exact ⟨h0,h1.fwd hf rfl⟩
  · rintro β hβ o (hp|⟨t,r,_,h1,h2,h3⟩)
    · exact h.boxPc β hβ o hp
    · exact h.rowBox t r _ β h1 h2 hβ rfl
  · obtain ⟨r0,h1,q1,q2,q3,q4⟩:=hsame t r hr
    obtain ⟨hs,cells,k1,k2,k3⟩:=h.rows t r0 h1
    rw [q1,q2,q3,q4]
    exact ⟨hs,cells,k1,k2.mono fun _ _=>DatRep.mono (fun _ _ h=>Or.inl h) (fun _ _ _=>rfl),k3⟩
  · obtain ⟨r0,h1,⟨hp,rfl⟩|⟨hp,rfl⟩⟩:=hrow t r hr
    · exact Or.inr ⟨t,r0,hp,h1,hb,ho⟩
    · exact Or.inl (h.rowPro t r b h1 hw hb o ho)
  · have key : ∀ t0 r0,σ.row t0=some r0→t0=t→r0.gen=r.gen→r0.xs=r.xs→r0.sz=r.sz→(r0.wr=false∨p t=true→r.wr=false)→r.wr=false∧o<r.xs.length*r.sz:=by
      intro t0 r0 h1 et q1 q2 q3 q5
      subst et
      rcases hp with hp|⟨t',r',hp',h2,h3,h4⟩
      · have:=h.rowPc t0 r0 b h1 (by rw [q1];exact hb) o hp
        rw [← q2,← q3]
        exact ⟨q5 (Or.inl this.1),this.2⟩
      · by_cases ht:t0=t'
        · subst ht
          rw [h1] at h2;cases h2
          rw [← q2,← q3]
          exact ⟨q5 (Or.inr hp'),h4⟩
        · exact absurd h3 (h.rowNe t0 t' r0 r' b ht h1 h2 (by rw [q1];exact hb))
    obtain ⟨r0,h1,⟨hp1,rfl⟩|⟨hp1,rfl⟩⟩:=hrow t r hr
    · exact key t r0 h1 rfl rfl rfl rfl (fun _=>rfl)
    · exact key t r h1 rfl rfl rfl rfl (fun hh=>hh.elim id (fun h2=>by rw [hp1] at h2;cases h2))
  · obtain ⟨r0,h1,q1,_⟩:=hsame t r hr
    exact h.rowBox t r0 b β h1 (by rw [← q1];exact hb) hβ
  · obtain ⟨r0,h1,q1,_⟩:=hsame t r hr
    obtain ⟨r1,h2,q2,_⟩:=hsame t' r' hr'
    show (e.rv t' r'.gen).ownBlock≠some b
    rw [q2]
    exact h.rowNe t t' r0 r1 b hn h1 h2 (by rw [← q1];exact hb)
  · obtain ⟨r0,h1,q1,_⟩:=hsame t r hr
    exact h.kp.rowK t r0 b h1 (by rw [← q1];exact hb)
  · rintro b o (hp|⟨t,r,_,h1,h2,h3⟩)
    · exact h.kp.pcK b o hp
    · exact Or.inr (h.kp.rowK t r b h1 h2)
theorem jen (hc:q1w P F c (frz σ) Q):q1w P F c σ Q:=fun e a w hR=>by
  obtain ⟨e',hf,hh⟩:=hR.hp.frz
  exact hc e' a w ⟨hR.defers,hR.size,fun i=>(hR.slots i).fwd hf,hh⟩
theorem jjb {ops:Array Oper} {l:List Oper} {K:St→Prop} (hc:qg5 P F ops l (frz σ) K):qg5 P F ops l σ K:=fun hn hall e a w hR=>by
  obtain ⟨e',hf,hh⟩:=hR.hp.frz
  exact hc hn hall e' a w ⟨hR.defers,hR.size,fun i=>(hR.slots i).fwd hf,hh⟩
def j5j (P:Program) (σ:St):ResultVar→Option D1
  | .tmp t=>match σ.slot t with
    | .one x=>j0s (frz σ).row x
    | _=>none
  | .cell p ty=>match σ.slot p with
    | .one (.c (.box β off))=>match σ.box β with
      | some (T,cs)=>if T<2199023255552 then match qmp P ty (cs.drop off) with
        | some (.one x)=>j0s (frz σ).row x
        | _=>none
        else none
      | none=>none
    | _=>none
def qkb (P:Program) (σ:St):List ResultVar→Option (List D1)
  | []=>some []
  | r::rs=>match j5j P σ r,qkb P σ rs with
    | some x,some xs=>some (x::xs)
    | _,_=>none
def resD (P:Program) (rs:Array ResultVar) (σ:St):Option D:=match qkb P σ rs.toList with
  | some [x]=>some (.one x)
  | some xs=>some (.tup xs)
  | none=>none
theorem j4h (h:Hp F σ e w) {v:Value} {d d':D1} (hd:j0s σ.row d=some d') (hv:q80 e σ w v d):q80 (q57 e.Pc) q7p w v d':=by
  cases d with
  | c x =>
    obtain ⟨z,hz,rfl⟩:=Option.map_eq_some_iff.1 hd
    exact qtn h hz hv
  | agg cs =>
    obtain ⟨z,hz,rfl⟩:=Option.map_eq_some_iff.1 hd
    obtain ⟨us,h1,h2⟩:=hv
    exact ⟨us,h1,qlj h hz h2⟩
def jjx (a:Act) (r:ResultVar):Sem Value:=match r with
  | .tmp t=>pure (a.tmps.getD t undef)
  | .cell p t=>do loadVar t (← asAddr (a.tmps.getD p undef))
theorem jd6 (hR:R F σ e a w) {e':Env} (hf:Fwd e σ w e' (frz σ) w) (hh:Hp F (frz σ) e' w) {r:ResultVar} {d:D1} (h:j5j P σ r=some d) :
    ∃ v,(jjx a r).run P w = .ok v w∧q80 (q57 e'.Pc) q7p w v d:=by
  unfold j5j at h
  split at h
  · rename_i t
    split at h
    case h_2=>cases h
    rename_i x hx
    have h1:=hR.slots t
    rw [hx] at h1
    exact ⟨_,rfl,j4h hh h (q80.fwd hf h1)⟩
  · rename_i p ty
    split at h
    case h_2=>cases h
    rename_i β off hx
    split at h
    case h_2=>cases h
    rename_i T cs hb
    split at h
    case isFalse=>cases h
    rename_i hT
    split at h
    case h_2=>cases h
    rename_i x hl
    have h1:=hR.slots p
    rw [hx] at h1
    obtain ⟨_,h3⟩:(σ.box β).isSome=true∧a.tmps.getD p undef = .pointer (some ⟨e.m β,off,none⟩):=h1
    obtain ⟨vs,h4,h5,_⟩:=(hR.hp.boxes β T cs hb).2.cells hT
    obtain ⟨v,h6,h7⟩:=q5d (b:=e.m β) (off:=off) hl (h5.drop off) (fun j hj=>by
      rw [cell_of_row w (e.m β) _ vs T _ h4,List.getElem_drop]
      simp)
    refine ⟨v,?_,j4h hh h (q80.fwd hf h7)⟩
    simp only [jjx,h3,asAddr,Sem.run_bind,Sem.run_pure,Result.andThen_ok,h6]
theorem qvj (hR:R F σ e a w) {e':Env} (hf:Fwd e σ w e' (frz σ) w) (hh:Hp F (frz σ) e' w) : ∀ {rs:List ResultVar} {ds:List D1},qkb P σ rs=some ds →
    ∃ vs:List Value,(rs.mapM (jjx a)).run P w = .ok vs w∧q0b (q80 (q57 e'.Pc) q7p w) vs ds
  | [],ds,h=>by
    simp only [qkb,Option.some.injEq] at h;subst h
    exact ⟨[],by simp,trivial⟩
  | r::rs,ds,h=>by
    unfold qkb at h
    split at h
    case h_2=>cases h
    rename_i x xs hx hxs
    simp only [Option.some.injEq] at h;subst h
    obtain ⟨v,h1,h2⟩:=jd6 hR hf hh hx
    obtain ⟨vs,h3,h4⟩:=qvj hR hf hh hxs
    refine ⟨v::vs,?_,h2,h4⟩
    rw [List.mapM_cons]
    simp only [Sem.run_bind,h1,Result.andThen_ok,h3,Sem.run_pure]
theorem jqx {f:FuncId} {fn:Func} {ds:List D} {d:D} (hf:P.funcs[f]? = some fn) (hb:fn.body=some c) (hn:ds.length≤fn.ntmps) {G:World→Prop} (hst:Stab G)
    (h' : ∀ F:Fr,F.n=fn.ntmps→F.G=G→∀ Q:Exit→St→Prop,(∀ σ,resD P fn.results σ=some d→Q .normal σ∧Q .ret σ)→q1w P F c { slot:=fun i=>ds.getD i (.one (.c .bad)),box:=fun _=>none,row:=fun _=>none } Q):qfh P G f ds d:=by
  have h : ∀ F:Fr,F.n=fn.ntmps→F.G=G→q1w P F c { slot:=fun i=>ds.getD i (.one (.c .bad)),box:=fun _=>none,row:=fun _=>none } (fun ex σ=>(ex = .normal∨ex = .ret)∧resD P fn.results σ=some d):=fun F hF hG=>h' F hF hG _ fun σ hσ=>⟨⟨Or.inl rfl,hσ⟩,Or.inr rfl,hσ⟩
  intro Pc w vs hg hlt hv
  have hvl:=hv.length
  rw [Array.length_toList] at hvl
  refine calls_of_wp hf hb ?_
  let F:Fr:={ n:=fn.ntmps,w0:=w,Pc:=Pc,G:=G,g0:=hg,gst:=hst }
  have hR:R F { slot:=fun i=>ds.getD i (.one (.c .bad)),box:=fun _=>none,row:=fun _=>none } (q57 Pc) { tmps:=vs++Array.replicate (fn.ntmps - vs.size) undef,defers:=[] } w:=by
    refine ⟨rfl,by simp;show vs.size+(fn.ntmps - vs.size)=fn.ntmps;omega,fun i=>?_,⟨Below.refl _ _,fun _ _ h=>h,fun _ _ h=>Or.inl h,hlt,(fun β T cs hx=>by cases hx),(fun β hβ=>by cases hβ),(fun β β' hβ=>by cases hβ),(fun t r hr=>by cases hr),(fun t r b hr=>by cases hr),(fun t r b hr=>by cases hr),(fun t r b β hr=>by cases hr),(fun t t' r r' b hn hr=>by cases hr),⟨fun b hb=>False.elim hb,Nat.le_refl _,(fun β hβ=>by cases hβ),(fun t r b hr=>by cases hr),(fun b o hp=>Or.inl hp),(fun _ _ _=>rfl),(fun β a h=>by cases h),(fun t v r h=>by cases h)⟩⟩⟩
    show q1l _ _ w _ (ds.getD i (.one (.c .bad)))
    by_cases hi:i<ds.length
    · have e1:(vs++Array.replicate (fn.ntmps - vs.size) undef).getD i undef=vs[i]'(by omega):=by
        have:i<vs.size:=by omega
        simp [Array.getD,Array.getElem_append_left this]
        intro hh;omega
      have e2:ds.getD i (.one (.c .bad))=ds[i]:=by simp [List.getD,hi]
      rw [e1,e2]
      have:=hv.get i (by rw [Array.length_toList];omega) hi
      rw [Array.getElem_toList] at this
      exact this.fwd ⟨fun _ _ h=>h,fun _ _ _=>rfl,(fun β hβ=>by cases hβ),(fun t r g hr=>by cases hr)⟩
    · have e2:ds.getD i (.one (.c .bad)) = .one (.c .bad):=by simp [List.getD,hi]
      rw [e2];trivial
  refine wp_mono (h F rfl rfl _ _ _ hR) fun ex a' w' hh=>?_
  obtain ⟨σ',e',⟨hex,hres⟩,hR'⟩:=hh
  have fin:a'.defers = []∧∃ v,(results fn a'.tmps).run P w' = .ok v w'∧∃ v' Pc',Ending.returned v = .returned v'∧Below w.heap.size w w'∧(∀ b o,Pc b o→Pc' b o)∧(∀ b o,Pc' b o→Pc b o∨(w.heap.size≤b∧b<w'.heap.size))∧q1l (q57 Pc') q7p w' v' d:=by
    refine ⟨hR'.defers,?_⟩
    obtain ⟨e'',hf2,hh2⟩:=hR'.hp.frz
    have hpc:(∀ b o,Pc b o→e''.Pc b o)∧(∀ b o,e''.Pc b o→Pc b o∨(w.heap.size≤b∧b<w'.heap.size)):=⟨hh2.pc0,fun b o hp=>by
      rcases hh2.pcNew b o hp with h1|h1
      · exact Or.inl h1
      · exact Or.inr ⟨h1,hh2.pcLt b o hp⟩⟩
    unfold resD at hres
    have key : ∀ xs,qkb P σ' fn.results.toList=some xs→∃ us:List Value,(results fn a'.tmps).run P w' = .ok (if h:us.toArray.size=1 then us.toArray[0] else .tuple us.toArray) w'∧q0b (q80 (q57 e''.Pc) q7p w') us xs:=fun xs hxs=>by
      obtain ⟨us,g1,g2⟩:=qvj hR' hf2 hh2 hxs
      refine ⟨us,?_,g2⟩
      have e1:results fn a'.tmps=(do let vs ← fn.results.mapM (jjx a');pure (if h:vs.size=1 then vs[0] else .tuple vs)):=rfl
      rw [e1,Array.mapM_eq_mapM_toList]
      simp only [Sem.run_bind,Sem.run_map,g1]
      rfl
    split at hres
    · rename_i x hx
      simp only [Option.some.injEq] at hres;subst hres
      obtain ⟨us,g1,g2⟩:=key _ hx
      match us,g2 with
      | [u],g2' =>
        refine ⟨u,by simpa using g1,u,e''.Pc,rfl,hR'.hp.below,hpc.1,hpc.2,g2'.1⟩
    · rename_i xs hxs hne
      simp only [Option.some.injEq] at hres;subst hres
      obtain ⟨us,g1,g2⟩:=key _ hne
      have hl:us.length≠1:=fun h1=>by
        have:=g2.length
        rw [h1] at this
        match xs,this with
        | [x],_=>exact hxs x rfl
      refine ⟨.tuple us.toArray,?_,.tuple us.toArray,e''.Pc,rfl,hR'.hp.below,hpc.1,hpc.2,us.toArray,rfl,g2⟩
      rw [g1]
      simp [hl]
    · cases hres
  rcases hex with rfl|rfl
  · exact fin
  · exact fin
end Go.Proofs.YtlkpgcifpnppeaaGreatDoor.AM
namespace Go.Proofs.YtlkpgcifpnppeaaGreatDoor.AM
open Go.RowKit
variable {F:Fr} {σ σ':St} {P:Program} {x y c:Code} {Q:Exit→St→Prop} {next:St→Prop}
theorem jan {id:Nat} {l:List Oper} (hn:q8q F.n l.toArray=true) (h:qg5 P F l.toArray l σ (fun σ'=>q1w P F y σ' Q)):q1w P F (.seq (.region id l.toArray false) y) σ Q:=qkd (qhu hn h)
theorem jgt (h:next σ):andThen next Q .normal σ:=h
theorem jlb {id:Nat} (h:Q (.exit id) σ):andThen next Q (.exit id) σ:=h
theorem jns (h:Q .ret σ):andThen next Q .ret σ:=h
theorem jgu {id:Nat} (h:Q .normal σ):inBlock id Q .normal σ:=h
theorem jmv {id:Nat} (h:Q .ret σ):inBlock id Q .ret σ:=h
theorem jkt {id:Nat} (h:Q .normal σ):inBlock id Q (.exit id) σ:=by show if id=id then _ else _;rw [if_pos rfl];exact h
theorem jjq {id id':Nat} (hne:(id'==id)=false) (h:Q (.exit id') σ):inBlock id Q (.exit id') σ:=by
  have : ¬ id'=id:=by simpa using hne
  show if id'=id then _ else _;rw [if_neg this];exact h
theorem jah {cnd:Operand} (hb:qpy (opnd σ cnd)=some true) (h:q1w P F x σ Q):q1w P F (.cond cnd x y) σ Q:=qpz hb (fun _=>h) (fun h=>by cases h)
theorem j1q {cnd:Operand} (hb:qpy (opnd σ cnd)=some false) (h:q1w P F y σ Q):q1w P F (.cond cnd x y) σ Q:=qpz hb (fun h=>by cases h) (fun _=>h)
theorem wrap64 {n:Int} (h1 : -9223372036854775808≤n) (h2:n≤9223372036854775807):IntKind.i64.wrap n=n:=by rw [IntKind.wrap_i64];omega
theorem wrap8 {n:Int} (h1:0≤n) (h2:n≤255):IntKind.u8.wrap n=n:=by
  unfold IntKind.wrap
  simp only [IntKind.bits,IntKind.signed,Bool.false_and,Bool.false_eq_true,if_false]
  omega
theorem jfq {α:Type} (f:Nat→α) (i:Nat) (x:α) (j:Nat):upd f i x j=if j=i then x else f j:=rfl
theorem jpm (b:Bool):(b==true)=b:=by cases b<;>rfl
theorem jq4 (b:Bool):(b==false) = !b:=by cases b<;>rfl
attribute [push_cast] cond_true cond_false qmu qhr qdd jpf qto jpb resD qkb j5j j0s qvs qfb j0y q9o frz qpy qce q47 jlr opnd j94 q67 qns qqj q93 qn9 q81 q3t q26 q9x q6l q5i q0u q6j qgh qdw q0x q2u qaf jou qc2 q4a q2m q2x qmp qng qqe j5x q0j okC qiq bnd setAt q9n qld qgw chunk rep qiz St.app St.put
  jfq List.all_cons List.all_nil Bool.and_true Bool.true_and Bool.and_self if_true if_false List.getD_cons_zero List.getD_cons_succ true_and and_true Option.map_some Option.map_none List.drop_zero List.drop_succ_cons List.take_zero List.take_succ_cons List.drop_nil List.take_nil List.length_cons List.length_nil List.map_cons List.map_nil List.nil_append List.cons_append
  Option.some.injEq Value.oneCell' ite_true ite_false Option.bind_some
  jpm jq4 Bool.not_true Bool.not_false Bool.not_not Bool.false_and Bool.and_false Bool.or_true Bool.true_or Bool.or_false Bool.false_or
  List.getElem?_toArray List.mapM_cons List.mapM_nil List.getElem?_cons_zero List.getElem?_cons_succ
end Go.Proofs.YtlkpgcifpnppeaaGreatDoor.AM
namespace Go.Proofs.YtlkpgcifpnppeaaGreatDoor.AM
open Go.RowKit
variable {F:Fr} {σ σ':St} {e:Env} {a:Act} {w:World} {P:Program}
inductive Loc where
  | s (i:Nat)
  | b (i:Nat)
  | r (i:Nat)
deriving DecidableEq
inductive LV where
  | s (d:D)
  | b (x:Option (Nat×List C))
  | r (x:Option Row)
def St.get (σ:St):Loc→LV
  | .s i=>.s (σ.slot i)
  | .b i=>.b (σ.box i)
  | .r i=>.r (σ.row i)
theorem St.ext' (h : ∀ l,σ.get l=σ'.get l):σ=σ':=by
  obtain ⟨s1,b1,r1⟩:=σ
  obtain ⟨s2,b2,r2⟩:=σ'
  have h1:s1=s2:=funext fun i=>by have:=h (.s i);simpa [St.get] using this
  have h2:b1=b2:=funext fun i=>by have:=h (.b i);simpa [St.get] using this
  have h3:r1=r2:=funext fun i=>by have:=h (.r i);simpa [St.get] using this
  rw [h1,h2,h3]
structure En where
  reads:List Loc
  dst:Option Nat
  res:Res
def En.app (en:En) (σ:St):St:=(σ.app en.res).put en.dst en.res.val
def En.val (en:En):Loc→Option LV
  | .s i=>if en.dst=some i then some (.s en.res.val) else none
  | .b i=>match en.res.box with
    | some (j,x)=>if j=i then some (.b (some x)) else none
    | none=>none
  | .r i=>match en.res.row with
    | some (j,x)=>if j=i then some (.r (some x)) else none
    | none=>none
theorem qh2 (en:En) (σ:St) (l:Loc):(en.app σ).get l=(en.val l).getD (σ.get l):=by
  obtain ⟨rd,dst,c,v,bx,rw⟩:=en
  cases l with
  | s i =>
    cases dst with
    | none=>simp [En.app,En.val,St.put,St.get,St.app]
    | some k =>
      by_cases hk:k=i
      · subst hk;simp [En.app,En.val,St.put,St.get,St.app,upd]
      · have : ¬ i=k:=fun h=>hk h.symm
        simp [En.app,En.val,St.put,St.get,St.app,upd,hk,this]
  | b i =>
    have hp : ∀ (σ:St),(σ.put dst v).box=σ.box:=fun σ=>by cases dst<;>rfl
    cases bx with
    | none=>simp [En.app,En.val,St.get,hp,St.app]
    | some p =>
      obtain ⟨k,x⟩:=p
      by_cases hk:k=i
      · subst hk;simp [En.app,En.val,St.get,hp,St.app,upd]
      · have : ¬ i=k:=fun h=>hk h.symm
        simp [En.app,En.val,St.get,hp,St.app,upd,hk,this]
  | r i =>
    have hp : ∀ (σ:St),(σ.put dst v).row=σ.row:=fun σ=>by cases dst<;>rfl
    cases rw with
    | none=>simp [En.app,En.val,St.get,hp,St.app]
    | some p =>
      obtain ⟨k,x⟩:=p
      by_cases hk:k=i
      · subst hk;simp [En.app,En.val,St.get,hp,St.app,upd]
      · have : ¬ i=k:=fun h=>hk h.symm
        simp [En.app,En.val,St.get,hp,St.app,upd,hk,this]
def stS:List En→(Nat→Bool)→Nat→St→St
  | [],_,_,σ=>σ
  | en::es,S,k,σ=>stS es S (k+1) (if S k then en.app σ else σ)
theorem get_congr {l:Loc} : ∀ (es:List En) (S S':Nat→Bool) (k:Nat) (σ σ':St),(∀ i en,es[i]? = some en→(en.val l).isSome=true→S (k+i)=S' (k+i))→σ.get l=σ'.get l→(stS es S k σ).get l=(stS es S' k σ').get l
  | [],_,_,_,_,_,_,h=>h
  | en::es,S,S',k,σ,σ',hw,h=>by
    refine get_congr es S S' (k+1) _ _ (fun i en' he hv=>by have:=hw (i+1) en' (by simpa using he) hv;rwa [show k+(i+1)=k+1+i from by omega] at this) ?_
    cases hv:en.val l with
    | none =>
      have e1 : ∀ σ:St,(en.app σ).get l=σ.get l:=fun σ=>by rw [qh2,hv];rfl
      split<;>split<;>first|(simp only [e1];exact h)|exact h
    | some v =>
      have:=hw 0 en rfl (by rw [hv];rfl)
      rw [Nat.add_zero] at this
      have e1 : ∀ σ:St,(en.app σ).get l=v:=fun σ=>by rw [qh2,hv];rfl
      rw [← this]
      split
      · rw [e1,e1]
      · exact h
theorem get_none {l:Loc} : ∀ (es:List En) (S:Nat→Bool) (k:Nat) (σ:St),(∀ i en,es[i]? = some en→(en.val l).isSome=true→S (k+i)=false)→(stS es S k σ).get l=σ.get l
  | [],_,_,_,_=>rfl
  | en::es,S,k,σ,hw=>by
    show (stS es S (k+1) _).get l=_
    rw [get_none es S (k+1) _ (fun i en' he hv=>by have:=hw (i+1) en' (by simpa using he) hv;rwa [show k+(i+1)=k+1+i from by omega] at this)]
    cases hv:en.val l with
    | none=>split<;>first|rfl|(rw [qh2,hv];rfl)
    | some v =>
      have:=hw 0 en rfl (by rw [hv];rfl)
      rw [Nat.add_zero] at this
      rw [this];rfl
theorem qun {l:Loc} {v:LV} : ∀ (es:List En) (S:Nat→Bool) (k j:Nat) (σ:St) (en:En),es[j]? = some en→en.val l=some v→S (k+j)=true→(∀ i en',j<i→es[i]? = some en'→(en'.val l).isSome=true→S (k+i)=false)→(stS es S k σ).get l=v
  | [],_,_,j,_,_,h,_,_,_=>by simp at h
  | en0::es,S,k,0,σ,en,he,hv,hS,hw=>by
    obtain rfl:en0=en:=by simpa using he
    rw [Nat.add_zero] at hS
    show (stS es S (k+1) _).get l=_
    rw [get_none es S (k+1) _ (fun i en' he' hv'=>by have:=hw (i+1) en' (by omega) (by simpa using he') hv';rwa [show k+(i+1)=k+1+i from by omega] at this),hS,if_pos rfl,qh2,hv]
    rfl
  | en0::es,S,k,j+1,σ,en,he,hv,hS,hw =>
    qun es S (k+1) j _ en (by simpa using he) hv (by rwa [show k+1+j=k+(j+1) from by omega]) (fun i en' hi he' hv'=>by have:=hw (i+1) en' (by omega) (by simpa using he') hv';rwa [show k+(i+1)=k+1+i from by omega] at this)
inductive Anc (ops:Array Oper):Nat→Nat→Prop
  | one {i j:Nat} {o:Oper} {ed:Edge} (ho:ops[j]? = some o) (he:ed∈o.after) (hb:Region.binds .any ed=true) (hi:ed.on=i):Anc ops i j
  | more {i k j:Nat} (h1:Anc ops i k) (h2:Anc ops k j):Anc ops i j
def jkj (ops:List Oper):List (List Nat)→List (List Nat)
  | acc=>match ops with
    | []=>acc
    | o::rest=>jkj rest (acc ++ [(o.after.toList.filter fun ed=>Region.binds .any ed&&decide (ed.on<acc.length)).flatMap fun ed=>ed.on::acc.getD ed.on []])
theorem jco {ops:Array Oper} : ∀ (rest:List Oper) (acc:List (List Nat)),(∀ j,(rest[j]?)=ops[acc.length+j]?)→(∀ j l,acc[j]? = some l→∀ i∈l,Anc ops i j)→∀ j l,(jkj rest acc)[j]? = some l→∀ i∈l,Anc ops i j
  | [],acc,_,h=>h
  | o::rest,acc,hr,h=>by
    unfold jkj
    refine jco rest _ (fun j=>?_) ?_
    · have:=hr (j+1)
      simp only [List.getElem?_cons_succ] at this
      rw [this,List.length_append,List.length_singleton]
      congr 1;omega
    · intro j l hl i hi
      have ho:ops[acc.length]? = some o:=by have:=hr 0;simpa using this.symm
      rcases Nat.lt_or_ge j acc.length with hj|hj
      · rw [List.getElem?_append_left hj] at hl
        exact h j l hl i hi
      · rw [List.getElem?_append_right hj] at hl
        by_cases hj0:j - acc.length=0
        · rw [hj0] at hl
          simp only [List.getElem?_cons_zero,Option.some.injEq] at hl
          subst hl
          have hjj:j=acc.length:=by omega
          subst hjj
          obtain ⟨ed,hed,hi⟩:=List.mem_flatMap.1 hi
          obtain ⟨hed,hb⟩:=List.mem_filter.1 hed
          simp only [Bool.and_eq_true,decide_eq_true_eq] at hb
          have h1:Anc ops ed.on acc.length:=.one ho (by simpa using hed) hb.1 rfl
          rcases List.mem_cons.1 hi with rfl|hi
          · exact h1
          · have hg:acc[ed.on]? = some (acc.getD ed.on []):=by
              rw [List.getElem?_eq_getElem hb.2];simp [List.getD,hb.2]
            exact .more (h ed.on _ hg i hi) h1
        · obtain ⟨k,hk⟩ : ∃ k,j - acc.length=k+1:=⟨j - acc.length - 1,by omega⟩
          rw [hk] at hl
          simp at hl
def jnj (l:List Loc) (en:En):Bool:=l.any fun x=>(en.val x).isSome
def qxy (en:En):List Loc:=(match en.dst with|some i=>[Loc.s i]|none=>[])++(match en.res.box with|some (i,_)=>[Loc.b i]|none=>[])++(match en.res.row with|some (i,_)=>[Loc.r i]|none=>[])
theorem qe4 {en:En} {l:Loc} (h:(en.val l).isSome=true):l∈qxy en:=by
  obtain ⟨rd,dst,c,v,bx,rw⟩:=en
  cases l with
  | s i =>
    simp only [En.val] at h
    split at h
    · rename_i hd;subst hd;simp [qxy]
    · cases h
  | b i =>
    simp only [En.val] at h
    split at h
    · split at h
      · rename_i hj;subst hj;simp [qxy]
      · cases h
    · cases h
  | r i =>
    simp only [En.val] at h
    split at h
    · split at h
      · rename_i hj;subst hj;simp [qxy]
      · cases h
    · cases h
def q9b (x y:En):Bool:=jnj (qxy x) y||jnj x.reads y||jnj y.reads x
def qrl (an:List (List Nat)):Nat→List En→List En→Bool
  | _,_,[]=>true
  | k,pre,y::post=>(List.range pre.length).all (fun i=>!(q9b (pre.getD i ⟨[],none,⟨True,.one (.c .bad),none,none⟩⟩) y)||(an.getD k []).contains i)&&qrl an (k+1) (pre ++ [y]) post
def j5g (ops:Array Oper) (es:List En):Bool:=decide (es.length=ops.size)&&qrl (jkj ops.toList []) 0 [] es&&ops.toList.zipIdx.all (fun p=>p.1.after.toList.all fun ed=>!Region.binds .any ed||decide (ed.on<p.2))
theorem qr3 {an:List (List Nat)} : ∀ (post:List En) (k:Nat) (pre:List En),pre.length=k→qrl an k pre post=true→∀ i j x y,i<j→k≤j→(pre++post)[i]? = some x→(pre++post)[j]? = some y→q9b x y=true→i∈an.getD j []
  | [],k,pre,hk,_,i,j,x,y,hij,hkj,hx,hy,_=>by
    rw [List.append_nil] at hy
    have:=(List.getElem?_eq_some_iff.1 hy).1
    omega
  | z::post,k,pre,hk,h,i,j,x,y,hij,hkj,hx,hy,hc=>by
    simp only [qrl,Bool.and_eq_true] at h
    by_cases hjk:j=k
    · subst hjk
      have hyz:y=z:=by
        rw [List.getElem?_append_right (by omega),show j - pre.length=0 from by omega] at hy
        simpa using hy.symm
      subst hyz
      have hip:i<pre.length:=by omega
      have hxg:pre.getD i ⟨[],none,⟨True,.one (.c .bad),none,none⟩⟩=x:=by
        rw [List.getElem?_append_left hip] at hx
        simp [List.getD,hx]
      have:=List.all_eq_true.1 h.1 i (List.mem_range.2 hip)
      rw [hxg,hc] at this
      simpa using this
    · have e1:pre++z::post=(pre ++ [z])++post:=by simp
      rw [e1] at hx hy
      exact qr3 post (k+1) (pre ++ [z]) (by simp [hk]) h.2 i j x y hij (by omega) hx hy hc
def jdg (P:Program) (F:Fr) (ops:Array Oper) (j:Nat) (en:En) (σ:St):Prop :=
  ∀ σ',(∀ l∈en.reads,σ'.get l=σ.get l)→∀ e a w,R F σ' e a w→∀ (Qx:Exit→Act→World→Prop) (K:Act→World→Prop),(∀ a' w' e',R F (en.app σ') e' a' w'→K a' w')→wpOp P ops Qx j K a w
def qe0 (P:Program) (F:Fr) (ops:Array Oper):Nat→St→List En→Prop
  | _,_,[]=>True
  | j,σ,en::es=>jdg P F ops j en σ∧qe0 P F ops (j+1) (en.app σ) es
def qfx:List En→St→St
  | [],σ=>σ
  | en::es,σ=>qfx es (en.app σ)
theorem j2e : ∀ (es:List En) (k:Nat) (σ:St),stS es (fun _=>true) k σ=qfx es σ
  | [],_,_=>rfl
  | en::es,k,σ=>j2e es (k+1) (en.app σ)
theorem qnq : ∀ (es:List En) (S S':Nat→Bool) (k:Nat) (σ:St),(∀ i,i<es.length→S (k+i)=S' (k+i))→stS es S k σ=stS es S' k σ
  | [],_,_,_,_,_=>rfl
  | en::es,S,S',k,σ,h=>by
    have h0:=h 0 (by simp)
    rw [Nat.add_zero] at h0
    show stS es S (k+1) (if S k then _ else _)=stS es S' (k+1) (if S' k then _ else _)
    rw [h0]
    exact qnq es S S' (k+1) _ (fun i hi=>by have:=h (i+1) (by simp;omega);rwa [show k+(i+1)=k+1+i from by omega] at this)
theorem qjl : ∀ (es:List En) (S:Nat→Bool) (k:Nat) (σ:St),(∀ i,i<es.length→S (k+i)=false)→stS es S k σ=σ
  | [],_,_,_,_=>rfl
  | en::es,S,k,σ,h=>by
    have h0:=h 0 (by simp)
    rw [Nat.add_zero] at h0
    show stS es S (k+1) (if S k then _ else _)=σ
    rw [h0]
    exact qjl es S (k+1) _ (fun i hi=>by have:=h (i+1) (by simp;omega);rwa [show k+(i+1)=k+1+i from by omega] at this)
theorem qt3 {ops:Array Oper} : ∀ (es:List En) (k:Nat) (σ:St),qe0 P F ops k σ es→∀ (j:Nat) (en:En),es[j]? = some en→jdg P F ops (k+j) en (stS es (fun i=>decide (i<k+j)) k σ)
  | en0::es,k,σ,h,0,en,he=>by
    obtain rfl:en0=en:=by simpa using he
    rw [qjl (en0::es) _ k σ (fun i _=>by simp)]
    exact h.1
  | en0::es,k,σ,h,j+1,en,he=>by
    have:=qt3 es (k+1) (en0.app σ) h.2 j en (by simpa using he)
    rw [show k+1+j=k+(j+1) from by omega] at this
    show jdg P F ops (k+(j+1)) en (stS es _ (k+1) (if decide (k<k+(j+1)) then en0.app σ else σ))
    rw [if_pos (by simp)]
    exact this
  | [],_,_,_,_,_,he=>by simp at he
theorem count_set : ∀ (l:List Bool) (j:Nat) (hj:j<l.length),l[j]=false→(l.set j true).countP (fun b=>!b)+1≤l.countP (fun b=>!b)
  | b::l,0,_,h=>by
    have hb:b=false:=h
    subst hb
    simp
  | b::l,j+1,hj,h=>by
    have:=count_set l j (by simpa using hj) h
    rw [List.set_cons_succ,List.countP_cons,List.countP_cons]
    omega
theorem qq7 {id:Nat} {l:List Oper} {Q:Exit→St→Prop} (hm:P.follows .mixedOrders=true) (hn:q8q F.n l.toArray=true) (es:List En) (hch:qe0 P F l.toArray 0 σ es) (hok:j5g l.toArray es=true) (h:Q .normal (qfx es σ)):q1w P F (.region id l.toArray true) σ Q:=by
  intro e a w hR
  unfold j5g at hok
  simp only [Bool.and_eq_true,decide_eq_true_eq] at hok
  obtain ⟨⟨hlen,hpairs⟩,hdep⟩:=hok
  have hlen':es.length=l.length:=by simpa using hlen
  have hanc : ∀ i j x y,i<j→es[i]? = some x→es[j]? = some y→q9b x y=true→Anc l.toArray i j:=fun i j x y hij hx hy hc=>by
    have h1:=qr3 es 0 [] rfl hpairs i j x y hij (Nat.zero_le _) (by simpa using hx) (by simpa using hy) hc
    have hj:j<(jkj l.toArray.toList []).length:=by
      rcases Nat.lt_or_ge j (jkj l.toArray.toList []).length with h2|h2
      · exact h2
      · rw [List.getD_eq_getElem?_getD,List.getElem?_eq_none h2] at h1
        simp at h1
    have hg:(jkj l.toArray.toList [])[j]? = some ((jkj l.toArray.toList []).getD j []):=by
      rw [List.getElem?_eq_getElem hj];simp [List.getD,hj]
    exact jco (ops:=l.toArray) l.toArray.toList [] (fun j=>by simp) (fun j l' hl=>by simp at hl) j _ hg i h1
  have hdeps : ∀ j o,l.toArray[j]? = some o→∀ ed∈o.after,Region.binds .any ed=true→ed.on<j:=fun j o ho ed hed hb=>by
    have ho':l[j]? = some o:=by simpa using ho
    have hmem:(o,j)∈l.toArray.toList.zipIdx:=by
      rw [List.mem_zipIdx_iff_getElem?];simpa using ho'
    have h1:=List.all_eq_true.1 (List.all_eq_true.1 hdep _ hmem) ed (by simpa using hed)
    simp only [hb,Bool.not_true,Bool.false_or,decide_eq_true_eq] at h1
    exact h1
  let T:Array Bool→Nat→Bool:=fun listed i=>listed.getD i false
  have closed : ∀ listed:Array Bool,(∀ j o,l.toArray[j]? = some o→listed.getD j false=true→∀ ed∈o.after,Region.binds .any ed=true→listed.getD ed.on false=true)→∀ i j,Anc l.toArray i j→listed.getD j false=true→listed.getD i false=true:=by
    intro listed hc i j han
    induction han with
    | one ho he hb hi=>intro hj;subst hi;exact hc _ _ ho hj _ he hb
    | more _ _ ih1 ih2=>intro hj;exact ih1 (ih2 hj)
  have main : ∀ (fuel:Nat) (listed:Array Bool) (a:Act) (w:World),listed.size=l.length→(∀ j o,l.toArray[j]? = some o→listed.getD j false=true→∀ ed∈o.after,Region.binds .any ed=true→listed.getD ed.on false=true) →
      (∃ e,R F (stS es (T listed) 0 σ) e a w)→(listed.toList.countP (fun b=>!b)≤fuel) →
      wpAny P .any l.toArray (fun ex a' w'=>∃ σ' e',Q ex σ'∧R F σ' e' a' w') fuel listed a w:=by
    have done : ∀ (listed:Array Bool) (a:Act) (w:World),listed.size=l.length→(∃ e,R F (stS es (T listed) 0 σ) e a w)→Region.ready .any l.toArray listed = []→∃ σ' e',Q .normal σ'∧R F σ' e' a w:=by
      intro listed a w hsz ⟨e,hR⟩ hr
      have hall : ∀ n i,i≤n→i<l.length→listed.getD i false=true:=by
        intro n
        induction n with
        | zero =>
          intro i hi hil
          obtain rfl:i=0:=by omega
          refine Classical.byContradiction fun hne=>?_
          have hmem:0∈Region.ready .any l.toArray listed:=mem_ready.2 ⟨by
            have:listed.getD 0 true=listed.getD 0 false:=by simp [Array.getD,hsz,hil]
            rw [this];simpa using hne,l[0],by simp [hil],fun ed hed hb=>by have:=hdeps 0 l[0] (by simp [hil]) ed hed hb;omega⟩
          rw [hr] at hmem;cases hmem
        | succ n ih =>
          intro i hi hil
          refine Classical.byContradiction fun hne=>?_
          have hmem:i∈Region.ready .any l.toArray listed:=mem_ready.2 ⟨by
            have:listed.getD i true=listed.getD i false:=by simp [Array.getD,hsz,hil]
            rw [this];simpa using hne,l[i],by simp [hil],fun ed hed hb=>by
              have:=hdeps i l[i] (by simp [hil]) ed hed hb
              exact ih ed.on (by omega) (by omega)⟩
          rw [hr] at hmem;cases hmem
      have he:stS es (T listed) 0 σ=qfx es σ:=by
        rw [← j2e es 0 σ]
        refine qnq es _ _ 0 σ (fun i hi=>?_)
        rw [Nat.zero_add]
        exact hall i i (Nat.le_refl _) (by omega)
      rw [he] at hR
      exact ⟨_,e,h,hR⟩
    intro fuel
    induction fuel with
    | zero =>
      intro listed a w hsz hc hR hcount
      have hr:Region.ready .any l.toArray listed = []:=by
        refine List.eq_nil_iff_forall_not_mem.2 fun i hi=>?_
        obtain ⟨h1,o,ho,_⟩:=mem_ready.1 hi
        have hil:i<listed.size:=by rw [hsz];have:=(Array.getElem?_eq_some_iff.1 ho).1;simpa using this
        have h2:listed[i]=false:=by simpa [Array.getD,hil] using h1
        have h3:0<listed.toList.countP (fun b=>!b):=List.countP_pos_iff.2 ⟨listed[i],by simp,by simp [h2]⟩
        omega
      exact ⟨hr,done listed a w hsz hR hr⟩
    | succ fuel ih =>
      intro listed a w hsz hc hR hcount
      refine ⟨done listed a w hsz hR,fun j hj=>?_⟩
      obtain ⟨e,hR⟩:=hR
      obtain ⟨h1,o,ho,hdl⟩:=mem_ready.1 hj
      have hjl:j<l.length:=by have:=(Array.getElem?_eq_some_iff.1 ho).1;simpa using this
      have hjs:j<listed.size:=by omega
      have hjf:listed.getD j false=false:=by
        have:listed.getD j true=listed.getD j false:=by simp [Array.getD,hjs]
        rw [← this];exact h1
      obtain ⟨en,hen⟩ : ∃ en,es[j]? = some en:=⟨es[j]'(by omega),List.getElem?_eq_getElem (by omega)⟩
      have hup : ∀ i,Anc l.toArray i j→listed.getD i false=true:=fun i han=>by
        have key : ∀ i j,Anc l.toArray i j→(∀ o,l.toArray[j]? = some o→∀ ed∈o.after,Region.binds .any ed=true→listed.getD ed.on false=true)→listed.getD i false=true:=by
          intro i j han
          induction han with
          | one ho he hb hi=>intro hh;subst hi;exact hh _ ho _ he hb
          | more a1 _ ih1 ih2=>intro hh;exact closed listed hc _ _ a1 (ih2 hh)
        exact key i j han fun o' ho'=>by rw [ho] at ho';cases ho';exact hdl
      have hdown : ∀ i,Anc l.toArray j i→listed.getD i false=false:=fun i han=>by
        refine Classical.byContradiction fun hne=>?_
        have:=closed listed hc j i han (by simpa using hne)
        rw [hjf] at this;cases this
      have hE:=qt3 es 0 σ hch j en hen
      rw [Nat.zero_add] at hE
      refine hE (stS es (T listed) 0 σ) (fun x hx=>?_) e a w hR _ _ ?_
      · refine get_congr es _ _ 0 σ σ (fun i en' he' hv=>?_) rfl
        rw [Nat.zero_add]
        rcases Nat.lt_trichotomy i j with hij|hij|hij
        · have hcl:q9b en' en=true:=by
            unfold q9b;simp only [Bool.or_eq_true];right
            exact List.any_eq_true.2 ⟨x,hx,hv⟩
          rw [show decide (i<j)=true from by simpa using hij]
          exact hup i (hanc i j en' en hij he' hen hcl)
        · subst hij;rw [show decide (i<i)=false from by simp];exact hjf
        · have hcl:q9b en en'=true:=by
            unfold q9b;simp only [Bool.or_eq_true];left;right
            exact List.any_eq_true.2 ⟨x,hx,hv⟩
          rw [show decide (i<j)=false from by simp;omega]
          exact hdown i (hanc j i en en' hij hen he' hcl)
      · intro a' w' e' hR'
        have hT:stS es (T (listed.setIfInBounds j true)) 0 σ=en.app (stS es (T listed) 0 σ):=by
          apply St.ext'
          intro x
          rw [qh2]
          cases hv:en.val x with
          | none =>
            refine get_congr es _ _ 0 σ σ (fun i en' he' hv'=>?_) rfl
            rw [Nat.zero_add]
            by_cases hij:i=j
            · subst hij;rw [hen] at he';cases he';rw [hv] at hv';cases hv'
            · exact getD_set_ne false (Ne.symm hij)
          | some v =>
            refine qun es _ 0 j σ en hen hv ?_ (fun i en' hi he' hv'=>?_)
            · rw [Nat.zero_add];show (listed.setIfInBounds j true).getD j false=true
              simp [hjs]
            · rw [Nat.zero_add]
              show (listed.setIfInBounds j true).getD i false=false
              rw [getD_set_ne false (by omega)]
              have hcl:q9b en en'=true:=by
                unfold q9b;simp only [Bool.or_eq_true];left;left
                exact List.any_eq_true.2 ⟨x,qe4 (by rw [hv];rfl),hv'⟩
              exact hdown i (hanc j i en en' hi hen he' hcl)
        refine ih (listed.setIfInBounds j true) a' w' (by simp [hsz]) (fun k o' ho' hk ed hed hb=>?_) ⟨e',by rw [hT];exact hR'⟩ ?_
        · by_cases hkj:k=j
          · subst hkj
            rw [ho] at ho';cases ho'
            exact getD_set_true (hdl ed hed hb)
          · rw [getD_set_ne false (Ne.symm hkj)] at hk
            exact getD_set_true (hc k o' ho' hk ed hed hb)
        · have hcnt:(listed.setIfInBounds j true).toList.countP (fun b=>!b)+1≤listed.toList.countP (fun b=>!b):=by
            rw [Array.toList_setIfInBounds]
            have hj2:j<listed.toList.length:=by simpa using hjs
            have h2:listed.toList[j]=false:=by
              have:listed[j]=false:=by simpa [Array.getD,hjs] using hjf
              simpa using this
            exact count_set _ j hj2 h2
          omega
  have hR':R F (stS es (T (Array.replicate l.length false)) 0 σ) e a { w with drawn:=w.drawn+1 }:=by
    rw [qjl es _ 0 σ (fun i hi=>by
      show (Array.replicate l.length false).getD (0+i) false=false
      simp [Array.getD])]
    obtain ⟨hf,hh⟩:=hR.hp.drew
    exact ⟨hR.defers,hR.size,fun i=>(hR.slots i).fwd hf,hh⟩
  refine wp_region_any hm ?_
  have:=main l.toArray.size (Array.replicate l.length false) a { w with drawn:=w.drawn+1 } (by simp) (fun j o ho hj=>by simp [Array.getD] at hj) ⟨e,hR'⟩ (by
    have:=List.countP_le_length (p:=fun b=>!b) (l:=(Array.replicate l.length false).toList)
    simpa using this)
  simpa using this
end Go.Proofs.YtlkpgcifpnppeaaGreatDoor.AM
