
import Derived.Lib.ConvBytes
import Derived.Laws.BytesString
import Derived.Deep.OwnRows
import Derived.Lib.MinMax
import Derived.Test.YtggoebaobojmjaaGreatDoorBr1
import Derived.MapKept
import Derived.Scope
import Derived.WideLaws
namespace Go.Proofs.YtggoebaobojmjaaGreatDoor.AM
open Go.RowKit
set_option linter.unusedVariables false
set_option linter.unusedSimpArgs false
variable {F:Fr} {σ:St} {e:Env} {a:Act} {w:World} {P:Program}
def qya (op:BinOp) (x y:ByteArray):Option (Prop×Value):=match op with
  | .add=>some (x.size+y.size≤9223372036854775807,.string (x++y))
  | .eql=>some (True,.bool (decide (x=y)))
  | .neq=>some (True,.bool (!decide (x=y)))
  | .lss=>some (True,.bool (Op.bytesLess x.toList y.toList))
  | .leq=>some (True,.bool (Op.bytesLess x.toList y.toList||decide (x=y)))
  | .gtr=>some (True,.bool (!(Op.bytesLess x.toList y.toList||decide (x=y))))
  | .geq=>some (True,.bool (!Op.bytesLess x.toList y.toList))
  | _=>none
theorem jic {op:BinOp} {T:TypeId} {x y:ByteArray} {c:Prop} {v:Value} (h:qya op x y=some (c,v)) (hc:c) (w:World):(binOp op T (.string x) (.string y)).run P w = .ok v w:=by
  cases op<;>simp only [qya,Option.some.injEq,Prod.mk.injEq,reduceCtorEq] at h<;>obtain ⟨rfl,rfl⟩:=h
  case add =>
    have : ¬ (((x.size+y.size:Nat):Int)>IntKind.i64.max):=by
      have e:IntKind.i64.max=9223372036854775807:=by decide
      rw [e];omega
    simp only [binOp,Op.stringOp,this,if_false,Sem.run_pure]
  all_goals simp only [binOp,Op.stringOp,j2h,Sem.run_pure]
def jct (op:BinOp) (k:IntKind) (x y:Int):Option (Prop×Value):=match op with
  | .shl=>some (0≤y,.int k (k.wrap (x*2 ^ (min y.toNat k.bits))))
  | .shr=>some (0≤y,.int k (x.fdiv (2 ^ (min y.toNat k.bits))))
  | _=>none
theorem qwa {op:BinOp} {T:TypeId} {k k':IntKind} {x y:Int} {c:Prop} {v:Value} (h:jct op k x y=some (c,v)) (hc:c) (w:World):(binOp op T (.int k x) (.int k' y)).run P w = .ok v w:=by
  cases op<;>simp only [jct,Option.some.injEq,Prod.mk.injEq,reduceCtorEq] at h<;>obtain ⟨rfl,rfl⟩:=h
  all_goals
    have hc' : ¬ y<0:=by have:0≤y:=hc;omega
    simp only [binOp,Op.shift,hc',if_false,Sem.run_pure]
def eqV (P:Program) (t:TypeId) (x y:Value):Option Bool:=match P.underlying t,x,y with
  | some .bool,.bool a,.bool b=>some (decide (a=b))
  | some (.int _),.int k a,.int k' b=>if k=k' then some (decide (a=b)) else none
  | some .string,.string a,.string b=>some (decide (a=b))
  | _,_,_=>none
theorem jam {t:TypeId} {x y:Value} {b:Bool} (h:eqV P t x y=some b) (d:Nat) (w:World):(Op.equalIn (d+1) t x y).run P w = .ok b w:=by
  unfold eqV at h
  split at h
  · rename_i a b' hu
    simp only [Option.some.injEq] at h;subst h
    simp only [Op.equalIn,Sem.run_bind,run_underlying hu w,Result.andThen_ok,Sem.run_pure]
    cases a<;>cases b'<;>rfl
  · rename_i k a k' b' hu
    split at h
    case isFalse=>cases h
    rename_i hk
    subst hk
    simp only [Option.some.injEq] at h;subst h
    simp only [Op.equalIn,Sem.run_bind,run_underlying hu w,Result.andThen_ok,Sem.run_pure,if_true]
    rfl
  · rename_i a b' hu
    simp only [Option.some.injEq] at h;subst h
    simp only [Op.equalIn,Sem.run_bind,run_underlying hu w,Result.andThen_ok,Sem.run_pure]
    congr 1
    have e1:(a==b')=(a.data==b'.data):=rfl
    rw [e1,Bool.eq_iff_iff]
    simp only [beq_iff_eq,decide_eq_true_eq]
    exact ⟨fun h=>by cases a;cases b';simp only [ByteArray.mk.injEq];exact h,fun h=>by rw [h]⟩
  · cases h
def jvx (P:Program) (rec:TypeId→List Value→List Value→Option Bool):List Field→List Value→List Value→Option Bool
  | [],_,_=>some true
  | f::fs,xs,ys=>if f.name = "_" then none else match qvc P f.type with
    | some false=>match xs[f.offset]?,ys[f.offset]? with
      | some x,some y=>match eqV P f.type x y,jvx P rec fs xs ys with
        | some b,some c=>some (b&&c)
        | _,_=>none
      | _,_=>none
    | some true=>match tsz P f.type with
      | some m=>if f.offset+m≤xs.length∧f.offset+m≤ys.length then match rec f.type ((xs.drop f.offset).take m) ((ys.drop f.offset).take m),jvx P rec fs xs ys with
          | some b,some c=>some (b&&c)
          | _,_=>none
        else none
      | none=>none
    | none=>none
def eqS (P:Program):Nat→TypeId→List Value→List Value→Option Bool
  | 0,_,_,_=>none
  | n+1,t,us,vs=>match P.underlying t with
    | some (.struct fs)=>if P.stoodInHeld t=false then jvx P (eqS P n) fs.toList us vs else none
    | _=>none
theorem jqj {w:World} : ∀ (n:Nat) {t:TypeId} {us vs:Array Value} {b:Bool},eqS P n t us.toList vs.toList=some b→∀ d,n<d→(Op.equalIn d t (.agg us) (.agg vs)).run P w = .ok b w
  | 0,_,_,_,_,h,_,_=>by cases h
  | n+1,t,us,vs,b,h,d,hd=>by
    obtain ⟨d,rfl⟩ : ∃ d',d=d'+1:=⟨d - 1,by omega⟩
    obtain ⟨d',hd'⟩ : ∃ d',d=d'+1:=⟨d - 1,by omega⟩
    unfold eqS at h
    split at h
    case h_2=>cases h
    rename_i fs hu
    split at h
    case isFalse=>cases h
    rename_i hc1
    unfold Op.equalIn
    have hp:(program).run P w = .ok P w:=rfl
    simp only [Sem.run_bind,run_underlying hu w,Result.andThen_ok,hp,hc1,Bool.false_eq_true,if_false]
    rw [← Array.forIn_toList]
    generalize fs.toList=L at h ⊢
    clear hp hu
    induction L generalizing b with
    | nil =>
      simp only [jvx,Option.some.injEq] at h
      subst h
      simp
    | cons f fs ih =>
      unfold jvx at h
      split at h
      case isTrue=>cases h
      rename_i hname
      split at h
      · rename_i ha
        split at h
        case h_2=>cases h
        rename_i x y hx hy
        split at h
        case h_2=>cases h
        rename_i b1 b2 hb1 hb2
        simp only [Option.some.injEq] at h
        subst h
        rw [Array.getElem?_toList] at hx hy
        have p1:(part f.type us f.offset).run P w = .ok x w:=by simp [part,Sem.run_bind,q1d ha w,hx]
        have p2:(part f.type vs f.offset).run P w = .ok y w:=by simp [part,Sem.run_bind,q1d ha w,hy]
        have p3:(Op.equalIn d f.type x y).run P w = .ok b1 w:=by rw [hd'];exact jam hb1 d' w
        have:=ih b2 hb2
        cases b1
        · simp [Sem.run_bind,hname,p1,p2,p3]
        · simp [Sem.run_bind,hname,p1,p2,p3]
          simpa [Sem.run_bind] using this
      · rename_i ha
        split at h
        case h_2=>cases h
        rename_i m hm
        split at h
        case isFalse=>cases h
        rename_i hle
        split at h
        case h_2=>cases h
        rename_i b1 b2 hb1 hb2
        simp only [Option.some.injEq] at h
        subst h
        have e1:(us.extract f.offset (f.offset+m)).toList=(us.toList.drop f.offset).take m:=by rw [Array.toList_extract,List.extract_eq_take_drop];congr 1;omega
        have e2:(vs.extract f.offset (f.offset+m)).toList=(vs.toList.drop f.offset).take m:=by rw [Array.toList_extract,List.extract_eq_take_drop];congr 1;omega
        have hle':f.offset+m≤us.size∧f.offset+m≤vs.size:=by simpa using hle
        have p1:(part f.type us f.offset).run P w = .ok (.agg (us.extract f.offset (f.offset+m))) w:=by simp [part,Sem.run_bind,q1d ha w,q0t hm w,hle'.1]
        have p2:(part f.type vs f.offset).run P w = .ok (.agg (vs.extract f.offset (f.offset+m))) w:=by simp [part,Sem.run_bind,q1d ha w,q0t hm w,hle'.2]
        have p3:(Op.equalIn d f.type (.agg (us.extract f.offset (f.offset+m))) (.agg (vs.extract f.offset (f.offset+m)))).run P w = .ok b1 w:=jqj n (by rw [e1,e2];exact hb1) d (by omega)
        have:=ih b2 hb2
        cases b1
        · simp [Sem.run_bind,hname,p1,p2,p3]
        · simp [Sem.run_bind,hname,p1,p2,p3]
          simpa [Sem.run_bind] using this
      · cases h
def juy:List C→Option (List Value)
  | []=>some []
  | .d (.v x)::cs=>(juy cs).map (x :: ·)
  | _::_=>none
theorem jay : ∀ {us:List Value} {cs:List C} {xs:List Value},q0i (q1w e σ w) us cs→juy cs=some xs→us=xs
  | [],[],xs,_,h=>by simp only [juy,Option.some.injEq] at h;exact h
  | u::us,c::cs,xs,h,hv=>by
    unfold juy at hv
    split at hv
    · rename_i hh;cases hh
    · rename_i x cs' hh
      simp only [List.cons.injEq] at hh
      obtain ⟨rfl,rfl⟩:=hh
      obtain ⟨ys,hy,rfl⟩:=Option.map_eq_some_iff.1 hv
      rw [jay h.2 hy,qh0 h.1]
    · cases hv
  | [],_::_,_,h,_=>h.elim
  | _::_,[],_,h,_=>h.elim
def qef (P:Program) (t:TypeId) (xs ys:List C):Option Bool:=match juy xs,juy ys with
  | some us,some vs=>if P.eqGuardType P.depth t=false then eqS P 9 t us vs else none
  | _,_=>none
theorem qnd {t:TypeId} {xs ys:List C} {us vs:Array Value} {b:Bool} (hx:q0i (q1w e σ w) us.toList xs) (hy:q0i (q1w e σ w) vs.toList ys) (h:qef P t xs ys=some b) (x y:Operand) :
    (do eqGuard .eql t x y (.agg us) (.agg vs);pure (Value.bool (← Op.equal t (.agg us) (.agg vs))):Sem Value).run P w = .ok (.bool b) w∧P.eqGuardType P.depth t=false∧(Op.equal t (.agg us) (.agg vs)).run P w = .ok b w:=by
  unfold qef at h
  split at h
  case h_2=>cases h
  rename_i us' vs' hus hvs
  split at h
  case isFalse=>cases h
  rename_i hc2
  have e1:=jay hx hus
  have e2:=jay hy hvs
  subst e1 e2
  have heq:(Op.equal t (.agg us) (.agg vs)).run P w = .ok b w:=by
    unfold Op.equal Op.maxDepth
    exact jqj 9 h 10000 (by omega)
  refine ⟨?_,hc2,heq⟩
  simp [eqGuard,Sem.run_bind,hc2,heq]
def qcg (P:Program) (op:BinOp) (T:TypeId) (x y:D):Option Res:=match x,y with
  | .one (.c (.d (.v (.int k a)))),.one (.c (.d (.v (.int k' b))))=>match op with
    | .shl | .shr=>(jct op k a b).map fun (c,v)=>{ cond:=c,val:=q7b v }
    | _=>if k=k' then (qtc op k a b).map fun (c,v)=>{ cond:=c,val:=q7b v } else none
  | .one (.c (.d (.v (.string a)))),.one (.c (.d (.v (.string b))))=>(qya op a b).map fun (c,v)=>{ cond:=c,val:=q7b v }
  | .one (.c (.d (.v (.bool a)))),.one (.c (.d (.v (.bool b))))=>match op with
    | .eql=>(eqV P T (.bool a) (.bool b)).map fun v=>{ cond:=True,val:=q7b (.bool v) }
    | .neq=>(eqV P T (.bool a) (.bool b)).map fun v=>{ cond:=True,val:=q7b (.bool (!v)) }
    | _=>none
  | .one (.agg xs),.one (.agg ys)=>match op with
    | .eql=>(qef P T xs ys).map fun v=>{ cond:=True,val:=q7b (.bool v) }
    | .neq=>(qef P T xs ys).map fun v=>{ cond:=True,val:=q7b (.bool (!v)) }
    | _=>none
  | _,_=>none
theorem jzv {o:Oper} {op:BinOp} {T T':TypeId} {x y:Operand} {res:Res} (ho:o.op = .binOp op T x y T') (h:qcg P op T (opnd σ x) (opnd σ y)=some res):q1x P F o σ res:=by
  unfold qcg at h
  split at h
  · rename_i k a1 k' b1 hx hy
    have main : ∀ {c:Prop} {v:Value} (_ : ∀ w,c→(binOp op T (.int k a1) (.int k' b1)).run P w = .ok v w),q1x P F o σ { cond:=c,val:=q7b v }:=fun {c v} hrun=>by
      refine q1x.same fun e a w hR hc=>⟨v,?_,q06 _⟩
      have h1:=hR.opnd x
      have h2:=hR.opnd y
      rw [hx] at h1;rw [hy] at h2
      have hr:=hrun w hc
      cases op<;>simp [execOp,ho,q07 h1,q07 h2,eqGuard,hr]
    split at h
    · obtain ⟨⟨c,v⟩,h1,rfl⟩:=Option.map_eq_some_iff.1 h
      exact main fun w hc=>qwa h1 hc w
    · obtain ⟨⟨c,v⟩,h1,rfl⟩:=Option.map_eq_some_iff.1 h
      exact main fun w hc=>qwa h1 hc w
    · split at h
      case isFalse=>cases h
      rename_i hk
      subst hk
      obtain ⟨⟨c,v⟩,h1,rfl⟩:=Option.map_eq_some_iff.1 h
      exact main fun w hc=>jjc h1 hc w
  · rename_i a1 b1 hx hy
    obtain ⟨⟨c,v⟩,h1,rfl⟩:=Option.map_eq_some_iff.1 h
    refine q1x.same fun e a w hR hc=>⟨v,?_,q06 _⟩
    have g1:=hR.opnd x
    have g2:=hR.opnd y
    rw [hx] at g1;rw [hy] at g2
    have hr:=jic (P:=P) (T:=T) h1 hc w
    cases op<;>simp [execOp,ho,q07 g1,q07 g2,eqGuard,hr]
  · rename_i a1 b1 hx hy
    split at h
    · obtain ⟨v,h1,rfl⟩:=Option.map_eq_some_iff.1 h
      refine q1x.same fun e a w hR hc=>⟨.bool v,?_,q06 _⟩
      have g1:=hR.opnd x
      have g2:=hR.opnd y
      rw [hx] at g1;rw [hy] at g2
      have hr:=jam h1 9999 w
      simp [execOp,ho,q07 g1,q07 g2,eqGuard,binOp,Op.equal,Op.maxDepth,hr]
    · obtain ⟨v,h1,rfl⟩:=Option.map_eq_some_iff.1 h
      refine q1x.same fun e a w hR hc=>⟨.bool (!v),?_,q06 _⟩
      have g1:=hR.opnd x
      have g2:=hR.opnd y
      rw [hx] at g1;rw [hy] at g2
      have hr:=jam h1 9999 w
      simp [execOp,ho,q07 g1,q07 g2,eqGuard,binOp,Op.equal,Op.maxDepth,hr]
    · cases h
  · rename_i xs ys hx hy
    split at h
    · obtain ⟨v,h1,rfl⟩:=Option.map_eq_some_iff.1 h
      refine q1x.same fun e a w hR hc=>⟨.bool v,?_,q06 _⟩
      have g1:=hR.opnd x
      have g2:=hR.opnd y
      rw [hx] at g1;rw [hy] at g2
      obtain ⟨us,g3,g4⟩:=g1
      obtain ⟨vs,g5,g6⟩:=g2
      obtain ⟨_,r2,r3⟩:=qnd g4 g6 h1 x y
      simp [execOp,ho,g3,g5,Sem.run_bind,eqGuard,binOp,r2,r3]
    · obtain ⟨v,h1,rfl⟩:=Option.map_eq_some_iff.1 h
      refine q1x.same fun e a w hR hc=>⟨.bool (!v),?_,q06 _⟩
      have g1:=hR.opnd x
      have g2:=hR.opnd y
      rw [hx] at g1;rw [hy] at g2
      obtain ⟨us,g3,g4⟩:=g1
      obtain ⟨vs,g5,g6⟩:=g2
      obtain ⟨_,r2,r3⟩:=qnd g4 g6 h1 x y
      simp [execOp,ho,g3,g5,Sem.run_bind,eqGuard,binOp,r2,r3]
    · cases h
  · cases h
def jz1 (op:UnOp) (x:D):Option Res:=match op,x with
  | .not,.one (.c (.d (.v (.bool b))))=>some { cond:=True,val:=q7b (.bool (!b)) }
  | .neg,.one (.c (.d (.v (.int k n))))=>some { cond:=True,val:=q7b (.int k (k.wrap (0 - n))) }
  | _,_=>none
theorem ok_un {o:Oper} {op:UnOp} {T:TypeId} {x:Operand} {res:Res} (ho:o.op = .unOp op T x) (h:jz1 op (opnd σ x)=some res):q1x P F o σ res:=by
  unfold jz1 at h
  split at h
  · rename_i b hx
    simp only [Option.some.injEq] at h;subst h
    refine q1x.same fun e a w hR hc=>⟨.bool (!b),?_,q06 _⟩
    have h1:=hR.opnd x
    rw [hx] at h1
    simp [execOp,ho,q07 h1,Op.unary]
  · rename_i k n hx
    simp only [Option.some.injEq] at h;subst h
    refine q1x.same fun e a w hR hc=>⟨.int k (k.wrap (0 - n)),?_,q06 _⟩
    have h1:=hR.opnd x
    rw [hx] at h1
    simp [execOp,ho,q07 h1,Op.unary,Op.intArith]
  · cases h
def qfa (P:Program) (src dst:TypeId) (x:D):Option Res:=match P.underlying src,P.underlying dst,x with
  | some _,some (.int k),.one (.c (.d (.v (.int _ n))))=>some { cond:=True,val:=q7b (.int k (k.wrap n)) }
  | some .string,some .string,.one (.c (.d (.v (.string s))))=>some { cond:=True,val:=q7b (.string s) }
  | _,_,_=>none
theorem jyc {o:Oper} {src dst:TypeId} {x:Operand} {res:Res} (ho:o.op = .convert src dst x) (h:qfa P src dst (opnd σ x)=some res):q1x P F o σ res:=by
  unfold qfa at h
  split at h
  · rename_i ds k k' n hs hd hx
    simp only [Option.some.injEq] at h;subst h
    refine q1x.same fun e a w hR hc=>⟨.int k (k.wrap n),?_,q06 _⟩
    have h1:=hR.opnd x
    rw [hx] at h1
    simp [execOp,ho,q07 h1,Sem.run_bind,convert,run_underlying hs w,run_underlying hd w,Conv.intToInt]
  · rename_i s hs hd hx
    simp only [Option.some.injEq] at h;subst h
    refine q1x.same fun e a w hR hc=>⟨.string s,?_,q06 _⟩
    have h1:=hR.opnd x
    rw [hx] at h1
    simp [execOp,ho,q07 h1,Sem.run_bind,convert,run_underlying hs w,run_underlying hd w]
  · cases h
def j5q:List (List Dat)→Option (List Int)
  | []=>some []
  | [.v (.int .u8 n)]::r=>(j5q r).map (n :: ·)
  | _=>none
theorem jdz : ∀ {ys:List (List Dat)} {ns:List Int},j5q ys=some ns→ys.flatten=ns.map fun n=>Dat.v (.int .u8 n)
  | [],ns,h=>by simp only [j5q,Option.some.injEq] at h;subst h;rfl
  | y::r,ns,h=>by
    unfold j5q at h
    split at h
    · rename_i heq;cases heq
    · rename_i n r' heq
      obtain ⟨rfl,rfl⟩:=List.cons.inj heq
      obtain ⟨ms,h1,rfl⟩:=Option.map_eq_some_iff.1 h
      rw [List.flatten_cons,jdz h1];rfl
    · cases h
def strOf (ns:List Int):ByteArray:=ns.foldl (fun r n=>r.push (UInt8.ofNat n.toNat)) ByteArray.empty
def q32 (P:Program) (dst:Option Nat) (src d:TypeId) (x:D) (rw:Nat→Option Row):Option Res:=match P.underlying src,P.underlying d with
  | some (.slice e),some .string=>match P.underlying e,(qoz 1 x rw).bind j5q with
    | some (.int .u8),some ns=>some { cond:=True,val:=q7b (.string (strOf ns)) }
    | _,_=>none
  | some .string,some (.slice e)=>match P.underlying e,x,dst with
    | some (.int .u8),.one (.c (.d (.v (.string s)))),some i=>match rw i with
      | none=>if e<1099511627776 then some { cond:=s.size≤maxLen,val:=.one (.c (.row i 0)),row:=some (i,⟨0,e+1099511627776,1,true,s.data.toList.map fun b=>[.v (.int .u8 b.toNat)]⟩) } else none
      | some _=>none
    | _,_,_=>none
  | _,_=>none
theorem j7f {Pc:Nat→Nat→Prop} {w:World} : ∀ {news:List Value} {ns:List Int},q0i (DatRep Pc w) news (ns.map fun n=>Dat.v (.int .u8 n))→news=ns.map (Value.int .u8)
  | [],[],_=>rfl
  | v::news,n::ns,h=>by
    have h1:DatRep Pc w v (.v (.int .u8 n)):=h.1
    have h2:v = .int .u8 n:=by cases h1;rfl
    rw [h2,j7f (ns:=ns) h.2];rfl
  | [],_::_,h=>h.elim
  | _::_,[],h=>h.elim
theorem qwm {Pc:Nat→Nat→Prop} {w:World} : ∀ (l:List UInt8),q0i (DatRep Pc w) (l.map fun b=>Value.int .u8 b.toNat) ((l.map fun b=>[Dat.v (.int .u8 b.toNat)]).flatten)
  | []=>trivial
  | b::l=>⟨.v _,qwm l⟩
theorem jgi {o:Oper} {src d:TypeId} {x:Operand} {res:Res} (ho:o.op = .convert src d x) (h:q32 P o.dst src d (opnd σ x) σ.row=some res):q1x P F o σ res:=by
  unfold q32 at h
  split at h
  · rename_i e hs hd
    split at h
    case h_2=>cases h
    rename_i ns he hns
    simp only [Option.some.injEq] at h;subst h
    obtain ⟨ys,hys,hi⟩:=Option.bind_eq_some_iff.1 hns
    refine q1x.same fun ev a w hR hc=>⟨.string (strOf ns),?_,q06 _⟩
    obtain ⟨h1,news,h2,h3,h4⟩:=jqq hR hys
    have h5:=jdz hi
    have h6:=q6s ys h1
    rw [Nat.mul_one,h5,List.length_map] at h6
    rw [h5] at h2
    have h7:=j7f h2
    have hrun:(convert src d (a.eval x)).run P w = .ok (.string (strOf ns)) w:=by
      rcases h4 with ⟨ad,c,hx,hcells⟩|⟨c,hx,h0⟩
      · rw [hx,run_convert_bytes_string w src d e (some ad) ys.length c hs he hd]
        have hl:=run_loadCells_list (P:=P) (w:=w) ad news hcells
        rw [h7,List.length_map,h6] at hl
        exact run_bytesToString w ad ys.length c ns hl
      · rw [hx,run_convert_bytes_string w src d e none ys.length c hs he hd]
        rw [h0] at h6
        have hnil:ns = []:=List.eq_nil_of_length_eq_zero h6
        subst hnil
        rfl
    simp [execOp,ho,Sem.run_bind,hrun,Result.andThen]
  · rename_i e hs hd
    split at h
    case h_2=>cases h
    rename_i s i he hx hdst
    split at h
    case h_2=>cases h
    rename_i hrow
    split at h
    case isFalse=>cases h
    rename_i hlt
    simp only [Option.some.injEq] at h;subst h
    intro ev a w hR hc
    have hc':s.size≤maxLen:=hc
    have h1:=hR.opnd x
    rw [hx] at h1
    have hrun:=Lib.run_convert_string_bytes (P:=P) w src d e s hs hd he
    have hge:=grownCap_ge w s.size 0 e
    have hle:=grownCap_le_maxLen w s.size 0 e hc'
    have hsz:(Lib.bytesCells w e s).size=grownCap w s.size 0 e:=by
      unfold Lib.bytesCells
      have:s.data.size=s.size:=rfl
      simp;omega
    have hE:tyOf (e+1099511627776)=e:=by unfold tyOf;rw [Nat.add_mod_right,Nat.mod_eq_of_lt hlt]
    have hF : ∀ n,jy7 (e+1099511627776) n=(n,n+1):=fun n=>by unfold jy7;rw [if_neg (by omega)]
    have hbs:s.data.toList.length=s.size:=Array.length_toList
    have hown:q7h (Lib.bytesWorld w e s) F.w0.heap.size (e+1099511627776) 1 (.slice (some ⟨w.heap.size,0,none⟩) s.size (grownCap w s.size 0 e)) s.size (s.data.toList.map fun b=>Value.int .u8 b.toNat):=by
      refine ⟨by rw [List.length_map,hbs,Nat.mul_one],.inr ⟨w.heap.size,_,Lib.bytesCells w e s,rfl,hR.hp.sizeLe,?_,hge,hle,by rw [hsz,Nat.mul_one],?_⟩⟩
      · rw [hE,hF];exact Lib.bytesWorld_at_new w e s
      · unfold Lib.bytesCells
        rw [Nat.mul_one,Array.toList_append,Array.toList_map,List.take_append_of_le_length (by rw [List.length_map,hbs];exact Nat.le_refl _),List.take_of_length_le (by rw [List.length_map,hbs];exact Nat.le_refl _)]
    have hgr:w.grownBy (Lib.bytesWorld w e s) none:=by
      refine ⟨rfl,rfl,rfl,by rw [Lib.bytesWorld_size];omega,fun k hk _=>Lib.bytesWorld_at_old w e s k hk⟩
    have hln:(s.data.toList.map fun b=>[Dat.v (.int .u8 b.toNat)]).length=s.size:=by rw [List.length_map,hbs]
    obtain ⟨hf,hh⟩:=hR.hp.rowNext (w':=Lib.bytesWorld w e s) i ⟨0,e+1099511627776,1,true,s.data.toList.map fun b=>[.v (.int .u8 b.toNat)]⟩ (.slice none 0 0) (.slice (some ⟨w.heap.size,0,none⟩) s.size (grownCap w s.size 0 e)) (s.data.toList.map fun b=>Value.int .u8 b.toNat) (Or.inr ⟨hrow,rfl⟩)
      (fun y hy=>by obtain ⟨b,_,rfl⟩:=List.mem_map.1 hy;rfl) (by rw [hln];exact hown) hgr (fun r hr=>by rw [hrow] at hr;cases hr) (fun b hb=>Or.inr (Nat.le_of_eq (Option.some.inj hb)))
      (qwm _) (fun u hu=>by obtain ⟨b,_,rfl⟩:=List.mem_map.1 hu;rfl)
    refine ⟨_,_,_,.inl ?_,hf,hh,⟨⟨_,q0o _ _ _,Nat.le_refl _⟩,(q1l _ _ _ _).symm,_,_,_,rfl⟩⟩
    simp [execOp,ho,q07 h1,Sem.run_bind,hrun,Result.andThen]
  · cases h
def jlj (x:D):Option Res:=match x with
  | .one (.c (.box β o))=>some { cond:=True,val:=.one (.c (.box β o)) }
  | .one (.c (.rp cs))=>some { cond:=True,val:=.one (.c (.rp cs)) }
  | .one (.c (.wp t g k o))=>some { cond:=True,val:=.one (.c (.wp t g k o)) }
  | _=>none
theorem k1e {o:Oper} {x:Operand} {res:Res} (ho:o.op = .nilCheck x) (h:jlj (opnd σ x)=some res):q1x P F o σ res:=by
  unfold jlj at h
  split at h
  · rename_i β q hx
    simp only [Option.some.injEq] at h;subst h
    refine q1x.same fun e a w hR _=>?_
    have h1:=hR.opnd x
    rw [hx] at h1
    have h1':=h1
    obtain ⟨h2,h3⟩:(σ.box β).isSome=true∧a.eval x = .pointer (some ⟨e.m β,q,none⟩):=h1
    exact ⟨a.eval x,by simp [execOp,ho,h3],h1'⟩
  · rename_i cs hx
    simp only [Option.some.injEq] at h;subst h
    refine q1x.same fun e a w hR _=>?_
    have h1:=hR.opnd x
    rw [hx] at h1
    have h1':=h1
    obtain ⟨b,q,h3,_⟩ : ∃ b o',a.eval x = .pointer (some ⟨b,o',none⟩)∧∃ us:List Value,q0i (DatRep e.Pc w) us cs∧∀ (j:Nat) (h:j<us.length),e.Pc b (o'+j)∧w.cell? ⟨b,o'+j,none⟩=some us[j]∧(us[j]).oneCell'=true:=h1
    exact ⟨a.eval x,by simp [execOp,ho,h3],h1'⟩
  · rename_i t g k q hx
    simp only [Option.some.injEq] at h;subst h
    refine q1x.same fun e a w hR _=>?_
    have h1:=hR.opnd x
    rw [hx] at h1
    have h1':=h1
    obtain ⟨r,b,_,_,_,h3⟩ : ∃ r b,σ.row t=some r∧g≤r.gen∧(e.rv t g).ownBlock=some b∧a.eval x = .pointer (some ⟨b,k*r.sz+q,none⟩):=h1
    exact ⟨a.eval x,by simp [execOp,ho,h3],h1'⟩
  · cases h
def q2q (P:Program) (t:TypeId) (x:D) (lo hi:Option D) (rw:Nat→Option Row):Option Res:=match P.underlying t,x with
  | some (.slice el),.one (.c (.row tt g))=>match rw tt with
    | some r=>match bnd 0 lo,bnd r.xs.length hi with
      | some l,some h=>if r.gen=g∧tsz P el=some r.sz then some { cond:=0≤l∧l≤h∧h≤r.xs.length,val:=.one (.c (.d (.lst r.sz ((r.xs.drop l.toNat).take (h.toNat - l.toNat))))),row:=some (tt,{ r with wr:=false }) } else none
      | _,_=>none
    | none=>none
  | _,_=>none
theorem jax {o:Oper} {t:TypeId} {x:Operand} {lo hi:Option Operand} {res:Res} (ho:o.op = .slice t x lo hi none) (h:q2q P t (opnd σ x) (lo.map (opnd σ)) (hi.map (opnd σ)) σ.row=some res):q1x P F o σ res:=by
  unfold q2q at h
  split at h
  case h_2=>cases h
  rename_i el tt g hu hx
  split at h
  case h_2=>cases h
  rename_i r hr
  split at h
  case h_2=>cases h
  rename_i l hh hl hhh
  split at h
  case isFalse=>cases h
  rename_i hg
  obtain ⟨rfl,hsz⟩:=hg
  simp only [Option.some.injEq] at h
  subst h
  intro e a w hR hc
  obtain ⟨c1,c2,c3⟩:=hc
  have h1:=hR.opnd x
  rw [hx] at h1
  obtain ⟨_,h5,_⟩:(∃ r',σ.row tt=some r'∧r.gen≤r'.gen)∧a.eval x=e.rv tt r.gen∧_:=h1
  obtain ⟨e',hf,hh'⟩:=hR.hp.freeze hr
  have hrow:({ σ with row:=upd σ.row tt (some { r with wr:=false }) } : St).row tt=some { r with wr:=false }:=q0o _ _ _
  have hdat:=hh'.rowDat hrow rfl
  have hrv:=(hf.row tt r r.gen hr (Nat.le_refl _)).2
  have hdat':DatRep e'.Pc w (e.rv tt r.gen) (.lst r.sz r.xs):=by rw [← hrv];exact hdat
  rw [← h5] at hdat'
  generalize hv:a.eval x=v at hdat'
  have hdat2:=hdat'
  cases hdat' with
  | lst aa nn cap _ _ b off c hn hcap hmax hs ha hcc hrr =>
    have hb:=qmm (P:=P) (isSlice:=true) (len:=nn) (cap:=cap) hR hl (by rw [hn];exact hhh) c1 c2 (by omega) hcap
    refine ⟨.slice (if cap=l.toNat then aa else aa.map (·.add (l.toNat*r.sz))) (hh.toNat - l.toNat) (cap - l.toNat),w,e',.inl ?_,hf,hh',?_⟩
    · simp [execOp,ho,hv,Sem.run_bind,Instr.sliceAt,Instr.slice,run_underlying hu w,hb,q0t hsz w]
    · exact j5i hdat2 (by omega)
def qnp:Operand→Operand→Bool
  | .tmp i,.tmp j=>Nat.beq i j
  | .const (.int _ n),.const (.int _ m)=>decide (n=m)
  | _,_=>false
def qj5 (P:Program) (dst:Option Nat) (t:TypeId) (x:D) (rw:Nat→Option Row):Option Res:=match P.underlying t,dst,x with
  | some (.slice el),some i,.one (.c (.d (.v (.int _ n))))=>match rw i,(P.info? el).map (fun i=>(i.zero,i.size,i.bytes)) with
    | none,some (some (Value.int k q),1,b)=>if 0≤n∧n≤16777216∧b*n.toNat≤281474976710656∧el<1099511627776 then
        some { cond:=True,val:=.one (.c (.row i 0)),row:=some (i,⟨0,el,1,true,List.replicate n.toNat [.v (.int k q)]⟩) } else none
    | _,_=>none
  | _,_,_=>none
theorem joq {x y:Operand} (h:qnp x y=true) {k:IntKind} {n:Int} (hx:a.eval x = .int k n) : ∃ k',a.eval y = .int k' n:=by
  unfold qnp at h
  split at h
  · rename_i i j
    have:i=j:=Nat.eq_of_beq_eq_true h
    subst this
    exact ⟨k,hx⟩
  · rename_i k1 n1 k2 n2
    have e:=of_decide_eq_true h
    subst e
    have hx':Value.int k1 n1 = .int k n:=hx
    cases hx'
    exact ⟨k2,rfl⟩
  · cases h
theorem jpp (z:Value) (n:Nat):(madeCells #[z] n).toList=List.replicate n z:=by
  apply List.ext_getElem
  · simp [madeCells]
  · intro i h1 h2
    simp [madeCells,Nat.mod_one]
theorem jw0 {o:Oper} {t:TypeId} {x y:Operand} {res:Res} (ho:o.op = .makeSlice t x y) (hxy:qnp x y=true) (h:qj5 P o.dst t (opnd σ x) σ.row=some res):q1x P F o σ res:=by
  unfold qj5 at h
  split at h
  case h_2=>cases h
  rename_i el i kx n hu hd hx
  split at h
  case h_2=>cases h
  rename_i k q b hrow hinf
  split at h
  case isFalse=>cases h
  rename_i hc
  obtain ⟨h0,h1,h2,h3⟩:=hc
  simp only [Option.some.injEq] at h;subst h
  intro e a w hR _
  have hv:=hR.opnd x
  rw [hx] at hv
  have hv':a.eval x = .int kx n:=q07 hv
  obtain ⟨ky,hw'⟩:=joq hxy hv'
  obtain ⟨m,rfl⟩ : ∃ m:Nat,n=(m:Int):=⟨n.toNat,by omega⟩
  rw [Int.toNat_natCast] at h2
  have hrun:=run_make_row' (P:=P) t el (.int k q) b hu hinf rfl kx ky m h2 (by omega) w
  have hm:=jpp (.int k q) m
  have hown:q7h (w.alloc (.cells (madeCells #[.int k q] m) el)) F.w0.heap.size el 1 (.slice (some ⟨w.heap.size,0,none⟩) m m) m (List.replicate m (.int k q)) :=
    (q5b h3).2 ⟨by simp,.inr ⟨w.heap.size,m,_,rfl,hR.hp.sizeLe,heap_alloc_new w _,Nat.le_refl _,by unfold maxLen;omega,by rw [size_madeCells,Nat.mul_one],by rw [hm,Nat.mul_one,List.take_of_length_le (by simp)]⟩⟩
  have hdd : ∀ m:Nat,q0i (DatRep e.Pc w) (List.replicate m (.int k q)) (List.replicate m [Dat.v (.int k q)]).flatten:=by
    intro m
    have key : ∀ (w':World) (j:Nat),q0i (DatRep e.Pc w') (List.replicate j (Value.int k q)) (List.replicate j [Dat.v (.int k q)]).flatten:=by
      intro w' j
      induction j with
      | zero=>exact trivial
      | succ j ih=>rw [List.replicate_succ,List.replicate_succ,List.flatten_cons];exact ⟨.v _,ih⟩
    exact key _ m
  obtain ⟨hf,hh⟩:=hR.hp.rowNext (w':=w.alloc (.cells (madeCells #[.int k q] m) el)) i ⟨0,el,1,true,List.replicate m [.v (.int k q)]⟩ (.slice none 0 0) (.slice (some ⟨w.heap.size,0,none⟩) m m) (List.replicate m (.int k q)) (Or.inr ⟨hrow,rfl⟩)
    (fun y hy=>by rw [List.eq_of_mem_replicate hy];rfl) (by rw [List.length_replicate];exact hown) (World.grownBy_alloc w _ _) (fun r hr=>by rw [hrow] at hr;cases hr) (fun b hb=>Or.inr (Nat.le_of_eq (Option.some.inj hb)))
    (hdd m) (fun u hu=>by rw [List.eq_of_mem_replicate hu];rfl)
  refine ⟨.slice (some ⟨w.heap.size,0,none⟩) m m,_,_,.inl ?_,hf,hh,⟨⟨_,q0o _ _ _,Nat.le_refl _⟩,(q1l _ _ _ _).symm,_,_,_,rfl⟩⟩
  simp [execOp,ho,hv',hw',hrun]
def juc (f:Int→Int→Int) (x y:D):Option Res:=match x,y with
  | .one (.c (.d (.v (.int k n)))),.one (.c (.d (.v (.int _ m))))=>some { cond:=True,val:=q7b (.int k (f n m)) }
  | _,_=>none
theorem k1g {o:Oper} {x y:Operand} {t t':TypeId} {res:Res} (ho:o.op = .call { callee:=.builtin .max,args:=#[x,y],argTypes:=#[t,t'] }) (h:juc max (opnd σ x) (opnd σ y)=some res):q1x P F o σ res:=by
  unfold juc at h
  split at h
  case h_2=>cases h
  rename_i k n k' m hx hy
  simp only [Option.some.injEq] at h;subst h
  refine q1x.same fun e a w hR hc=>⟨.int k (max n m),?_,q06 _⟩
  have h1:=hR.opnd x
  have h2:=hR.opnd y
  rw [hx] at h1
  rw [hy] at h2
  simp [execOp,ho,q07 h1,q07 h2,Sem.run_bind,resolve,invoke,builtin,Lib.run_max_ints]
theorem k07 {o:Oper} {x y:Operand} {t t':TypeId} {res:Res} (ho:o.op = .call { callee:=.builtin .min,args:=#[x,y],argTypes:=#[t,t'] }) (h:juc min (opnd σ x) (opnd σ y)=some res):q1x P F o σ res:=by
  unfold juc at h
  split at h
  case h_2=>cases h
  rename_i k n k' m hx hy
  simp only [Option.some.injEq] at h;subst h
  refine q1x.same fun e a w hR hc=>⟨.int k (min n m),?_,q06 _⟩
  have h1:=hR.opnd x
  have h2:=hR.opnd y
  rw [hx] at h1
  rw [hy] at h2
  simp [execOp,ho,q07 h1,q07 h2,Sem.run_bind,resolve,invoke,builtin,Lib.run_min_ints]
end Go.Proofs.YtggoebaobojmjaaGreatDoor.AM
namespace Go.Proofs.YtggoebaobojmjaaGreatDoor.AM
open Go.RowKit
set_option linter.unusedVariables false
set_option linter.unusedSimpArgs false
variable {F:Fr} {σ:St} {e:Env} {a:Act} {w:World} {P:Program}
def mTy (P:Program) (t:TypeId):Option (Nat×TypeId):=match P.underlying t with
  | some (.map k e)=>match P.underlying k,tsz P e,qvc P e with
    | some .string,some vw,some va=>if vw<1024 then some (2199023255552+4096+2*vw+(bif va then 1 else 0),e) else none
    | _,_,_=>none
  | _=>none
theorem jo1 {t:TypeId} {T:Nat} {el:TypeId} (h:mTy P t=some (T,el)) : ∃ k vw va,P.underlying t=some (.map k el)∧P.underlying k=some .string∧tsz P el=some vw∧qvc P el=some va ∧
    2199023255552≤T∧mKw T=1∧mKa T=false∧mVw T=vw∧mVa T=va:=by
  unfold mTy at h
  split at h
  case h_2=>cases h
  rename_i k e' ht
  split at h
  case h_2=>cases h
  rename_i vw va hk hs hg
  split at h
  case isFalse=>cases h
  rename_i hv
  simp only [Option.some.injEq,Prod.mk.injEq] at h
  obtain ⟨rfl,rfl⟩:=h
  refine ⟨k,vw,va,ht,hk,hs,hg,?_⟩
  cases va
  · refine ⟨by simp only [cond_false];omega,by simp only [cond_false,mKw];omega,?_,by simp only [cond_false,mVw];omega,?_⟩
    · simp only [cond_false,mKa]
      have:(2199023255552+4096+2*vw+0) / 2048 % 2=0:=by omega
      rw [this];rfl
    · simp only [cond_false,mVa]
      have:(2199023255552+4096+2*vw+0) % 2=0:=by omega
      rw [this];rfl
  · refine ⟨by simp only [cond_true];omega,by simp only [cond_true,mKw];omega,?_,by simp only [cond_true,mVw];omega,?_⟩
    · simp only [cond_true,mKa]
      have:(2199023255552+4096+2*vw+1) / 2048 % 2=0:=by omega
      rw [this];rfl
    · simp only [cond_true,mVa]
      have:(2199023255552+4096+2*vw+1) % 2=1:=by omega
      rw [this];rfl
def qvi (s:ByteArray):List Dat→Option Bool
  | .v (.string s')::_=>some (decide (s=s'))
  | _=>none
def findD (s:ByteArray):List (List Dat)→Option (Option (List Dat))
  | []=>some none
  | r::rs=>match qvi s r with
    | some true=>some (some r)
    | some false=>findD s rs
    | none=>none
def jvj (s:ByteArray) (v:List Dat):List (List Dat)→Option (List (List Dat))
  | []=>some [.v (.string s)::v]
  | r::rs=>match qvi s r with
    | some true=>some ((.v (.string s)::v)::rs)
    | some false=>(jvj s v rs).map (r :: ·)
    | none=>none
def jxc (Pc:Nat→Nat→Prop) (w:World) (sz:Nat) (us:List Value) (x:List Dat):Prop:=q0i (DatRep Pc w) us x∧us.length=sz∧∀ u∈us,u.oneCell'=true
theorem jzh (s s':ByteArray):Instr.sameNow .string (.string s) (.string s')=some (decide (s=s')):=by
  obtain ⟨r,hr,hiff⟩:=MapKept.sameNow_of_keys (d:=.string) (a:=.string s) (b:=.string s') True.intro True.intro
  rw [hr]
  congr 1
  by_cases hh:s=s'
  · subst hh
    rw [decide_eq_true rfl]
    exact hiff.2 rfl
  · rw [decide_eq_false hh]
    cases r with
    | false=>rfl
    | true=>exact absurd (Value.string.inj (hiff.1 rfl)) hh
theorem jd6 {Pc:Nat→Nat→Prop} {s:ByteArray} {us:List Value} {x:List Dat} {b:Bool} (h:qvi s x=some b) (hr:q0i (DatRep Pc w) us x) : ∃ s' xr ur,x = .v (.string s')::xr∧us = .string s'::ur∧q0i (DatRep Pc w) ur xr∧b=decide (s=s'):=by
  unfold qvi at h
  split at h
  case h_2=>cases h
  rename_i s' xr
  simp only [Option.some.injEq] at h
  cases us with
  | nil=>exact hr.elim
  | cons u ur =>
    obtain ⟨h1,h2⟩:=hr
    cases h1
    exact ⟨s',xr,ur,rfl,rfl,h2,h.symm⟩
theorem j8g {Pc:Nat→Nat→Prop} {T sz:Nat} {s:ByteArray} (hk:mKw T=1) (ha:mKa T=false) : ∀ {es:List (List Value)} {xs:List (List Dat)} {i:Nat} {q:Option (List Dat)},q0i (jxc Pc w sz) es xs→findD s xs=some q →
    match q with
    | none=>Instr.findNow .string (.string s) (qox T i es) i=some none
    | some r=>∃ j us,Instr.findNow .string (.string s) (qox T i es) i=some (some (j,valOf (mVa T) us))∧q0i (DatRep Pc w) us (r.drop 1)∧(∀ u∈us,u.oneCell'=true)∧us.length=sz - 1
  | [],[],i,q,_,h=>by
    simp only [findD,Option.some.injEq] at h
    subst h;rfl
  | us::es,x::xs,i,q,hr,h=>by
    unfold findD at h
    cases hb:qvi s x with
    | none=>rw [hb] at h;cases h
    | some b =>
      rw [hb] at h
      obtain ⟨s',xr,ur,rfl,rfl,h2,hb'⟩:=jd6 hb hr.1.1
      have hkey:(qox T i ((Value.string s'::ur)::es)) = { key:=.string s',val:=valOf (mVa T) ur,born:=i } :: qox T (i+1) es:=by
        show ({ key:=valOf (mKa T) ((Value.string s'::ur).take (mKw T)),val:=valOf (mVa T) ((Value.string s'::ur).drop (mKw T)),born:=i } : MapEntry)::_=_
        rw [hk,ha];rfl
      have hnow:Instr.sameNow .string (.string s) (.string s')=some (decide (s=s')):=jzh s s'
      rw [hkey]
      cases b with
      | true =>
        simp only [Option.some.injEq] at h
        subst h
        refine ⟨i,ur,?_,h2,fun u hu=>hr.1.2.2 u (List.mem_cons_of_mem _ hu),?_⟩
        · show (match Instr.sameNow .string (.string s) (.string s') with|some true=>_|some false=>_|none=>_)=_
          rw [hnow,← hb']
        · have:=hr.1.2.1;simp only [List.length_cons] at this;omega
      | false =>
        simp only at h
        have ih:=j8g hk ha (i:=i+1) hr.2 h
        have hstep:Instr.findNow .string (.string s) ({ key:=.string s',val:=valOf (mVa T) ur,born:=i } :: qox T (i+1) es) i=Instr.findNow .string (.string s) (qox T (i+1) es) (i+1):=by
          show (match Instr.sameNow .string (.string s) (.string s') with|some true=>_|some false=>_|none=>_)=_
          rw [hnow,← hb']
        rw [hstep]
        exact ih
  | [],_::_,_,_,hr,_=>hr.elim
  | _::_,[],_,_,hr,_=>hr.elim
theorem jv0 {Pc:Nat→Nat→Prop} {T sz:Nat} {s:ByteArray} {vs:List Value} {v:List Dat} (hk:mKw T=1) (ha:mKa T=false) (hv:q0i (DatRep Pc w) vs v) (h1 : ∀ u∈vs,u.oneCell'=true) (hl:vs.length+1=sz) :
    ∀ {es:List (List Value)} {xs ys:List (List Dat)} {i:Nat},q0i (jxc Pc w sz) es xs→jvj s v xs=some ys →
    ∃ es',q0i (jxc Pc w sz) es' ys ∧
      ((
        Instr.findNow .string (.string s) (qox T i es) i=some none∧qox T i es'=qox T i es ++ [{ key:=.string s,val:=valOf (mVa T) vs,born:=i+es.length }]∧es'.length=es.length+1) ∨
        ∃ j u,Instr.findNow .string (.string s) (qox T i es) i=some (some (i+j,u))∧(qox T i es').toArray=(qox T i es).toArray.modify j (fun e=>{ e with key:=.string s,val:=valOf (mVa T) vs })∧es'.length=es.length∧((qox T i es)[j]?).map (·.key)=some (.string s))
  | [],[],ys,i,_,h=>by
    simp only [jvj,Option.some.injEq] at h
    subst h
    have hrow:jxc Pc w sz (Value.string s::vs) (Dat.v (.string s)::v):=⟨⟨DatRep.v _,hv⟩,by simpa using hl,fun u hu=>by
      rcases List.mem_cons.1 hu with rfl|hu
      · rfl
      · exact h1 u hu⟩
    refine ⟨[Value.string s::vs],⟨hrow,trivial⟩,Or.inl ⟨rfl,?_,rfl⟩⟩
    show [({ key:=valOf (mKa T) ((Value.string s::vs).take (mKw T)),val:=valOf (mVa T) ((Value.string s::vs).drop (mKw T)),born:=i } : MapEntry)]=_
    rw [hk,ha];rfl
  | us::es,x::xs,ys,i,hr,h=>by
    unfold jvj at h
    cases hb:qvi s x with
    | none=>rw [hb] at h;cases h
    | some b =>
      rw [hb] at h
      obtain ⟨s',xr,ur,rfl,rfl,h2,hb'⟩:=jd6 hb hr.1.1
      have hmk : ∀ (s0:ByteArray) (u0:List Value) (e0:List (List Value)),(qox T i ((Value.string s0::u0)::e0)) = { key:=.string s0,val:=valOf (mVa T) u0,born:=i } :: qox T (i+1) e0:=fun s0 u0 e0=>by
        show ({ key:=valOf (mKa T) ((Value.string s0::u0).take (mKw T)),val:=valOf (mVa T) ((Value.string s0::u0).drop (mKw T)),born:=i } : MapEntry)::_=_
        rw [hk,ha];rfl
      have hnow:Instr.sameNow .string (.string s) (.string s')=some (decide (s=s')):=jzh s s'
      cases b with
      | true =>
        simp only [Option.some.injEq] at h
        subst h
        have hs:s=s':=of_decide_eq_true hb'.symm
        subst hs
        have hrow:jxc Pc w sz (Value.string s::vs) (Dat.v (.string s)::v):=⟨⟨DatRep.v _,hv⟩,by simpa using hl,fun u hu=>by
          rcases List.mem_cons.1 hu with rfl|hu
          · rfl
          · exact h1 u hu⟩
        refine ⟨(Value.string s::vs)::es,⟨hrow,hr.2⟩,Or.inr ⟨0,valOf (mVa T) ur,?_,?_,rfl,?_⟩⟩
        · rw [hmk]
          show (match Instr.sameNow .string (.string s) (.string s) with|some true=>_|some false=>_|none=>_)=_
          rw [hnow,← hb']
          rfl
        · rw [hmk,hmk]
          apply Array.toList_inj.1
          simp
        · rw [hmk];rfl
      | false =>
        simp only at h
        obtain ⟨ys',h3,rfl⟩:=Option.map_eq_some_iff.1 h
        obtain ⟨es',k1,k2⟩:=jv0 hk ha hv h1 hl (i:=i+1) hr.2 h3
        have hstep:Instr.findNow .string (.string s) ({ key:=.string s',val:=valOf (mVa T) ur,born:=i } :: qox T (i+1) es) i=Instr.findNow .string (.string s) (qox T (i+1) es) (i+1):=by
          show (match Instr.sameNow .string (.string s) (.string s') with|some true=>_|some false=>_|none=>_)=_
          rw [hnow,← hb']
        refine ⟨(Value.string s'::ur)::es',⟨hr.1,k1⟩,?_⟩
        rw [hmk,hmk,hstep]
        rcases k2 with ⟨q1,q2,q3⟩|⟨j,u,q1,q2,q3,q4⟩
        · refine Or.inl ⟨q1,?_,by simp [q3]⟩
          rw [q2]
          simp only [List.cons_append,List.length_cons,List.cons.injEq,true_and,List.append_cancel_left_eq,MapEntry.mk.injEq,and_true]
          omega
        · refine Or.inr ⟨j+1,u,by rw [q1];congr 3;omega,?_,by simp [q3],?_⟩
          · have q2':=congrArg Array.toList q2
            apply Array.toList_inj.1
            simp only [Array.toList_modify,List.modify_cons,Nat.add_one_ne_zero,if_false,Nat.add_sub_cancel,List.cons.injEq,true_and] at q2' ⊢
            exact q2'
          · simpa using q4
  | [],_::_,_,_,hr,_=>hr.elim
  | _::_,[],_,_,hr,_=>hr.elim
def q3x (P:Program) (dst:Option Nat) (t:TypeId) (bx:Nat→Option (Nat×List C)):Option Res:=match dst,mTy P t with
  | some i,some (T,_)=>match bx i with
    | none=>if i<1000000 then some { cond:=True,val:=.one (.c (.mv i)),box:=some (i,(T,[.d (.lst (1+mVw T) [])])) } else none
    | some _=>none
  | _,_=>none
theorem jgn {o:Oper} {t:TypeId} {res:Res} (ho:o.op = .makeMap t none) (h:q3x P o.dst t σ.box=some res):q1x P F o σ res:=by
  unfold q3x at h
  split at h
  case h_2=>cases h
  rename_i i T el hd hT
  split at h
  case h_2=>cases h
  rename_i hb
  split at h
  case isFalse=>cases h
  rename_i hi
  simp only [Option.some.injEq] at h
  subst h
  obtain ⟨k,vw,va,_,_,_,_,t1,t2,t3,t4,t5⟩:=jo1 hT
  intro e a w hR _
  obtain ⟨hf,hh⟩:=hR.hp.allocO i T (.map #[] 0) [.d (.lst (1+mVw T) [])] hb hi fun _=>Or.inr ⟨t1,1+mVw T,[],rfl,by rw [t2],[],heap_alloc_new w _,trivial⟩
  refine ⟨.map (some w.heap.size),_,_,.inl ?_,hf,hh,?_⟩
  · simp [execOp,ho,Instr.makeMap,newObj,Sem.run_bind]
    rfl
  · show (upd σ.box i (some (T,_)) i).isSome=true∧Value.map (some w.heap.size) = .map (some (upd e.m i w.heap.size i))
    rw [q0o,q0o];exact ⟨rfl,rfl⟩
def vD (T:Nat) (ds:List Dat):D1:=match mVa T with
  | true=>.agg (ds.map .d)
  | false=>.c (.d (ds.headD (.v undef)))
def okD (ok:Bool) (x:D1) (b:Bool):D:=match ok with
  | true=>.tup [x,.c (qv6 (.bool b))]
  | false=>.one x
def k0x (P:Program) (t:TypeId):Option Value:=(P.info? t).bind (·.zero)
def of1:Value→D1
  | .agg cs=>.agg (cs.toList.map qv6)
  | x=>.c (qv6 x)
theorem jtf (x:Value):q9c e σ w x (of1 x):=by
  cases x<;>first|exact DatRep.v _|exact ⟨_,rfl,qb5 qv6 qem _⟩
def q3t (P:Program) (t:TypeId) (x i:D) (ok:Bool) (bx:Nat→Option (Nat×List C)):Option Res:=match mTy P t,x,i with
  | some (T,el),.one (.c (.mv β)),.one (.c (.d (.v (.string s))))=>match bx β,k0x P el with
    | some (T',[.d (.lst sz xs)]),some z=>if T'=T then match findD s xs with
      | some (some r)=>some { cond:=True,val:=okD ok (vD T (r.drop 1)) true }
      | some none=>some { cond:=True,val:=okD ok (of1 z) false }
      | none=>none
      else none
    | _,_=>none
  | _,_,_=>none
theorem jmt : ∀ {us:List Value} {ds:List Dat},q0i (DatRep e.Pc w) us ds→q0i (q1w e σ w) us (ds.map C.d)
  | [],[],_=>trivial
  | _::_,_::_,h=>⟨h.1,jmt h.2⟩
  | [],_::_,h=>h.elim
  | _::_,[],h=>h.elim
theorem vD_ok {T:Nat} {us:List Value} {ds:List Dat} (h:q0i (DatRep e.Pc w) us ds):q9c e σ w (valOf (mVa T) us) (vD T ds):=by
  unfold vD valOf
  cases mVa T with
  | true=>exact ⟨us.toArray,rfl,by simpa using jmt h⟩
  | false =>
    cases us with
    | nil=>cases ds with
      | nil=>exact DatRep.v _
      | cons d ds=>exact h.elim
    | cons u us=>cases ds with
      | nil=>exact h.elim
      | cons d ds=>exact h.1
theorem jv8 {ok b:Bool} {v:Value} {x:D1} (h:q9c e σ w v x):q1c e σ w (if ok=true then .tuple #[v,.bool b] else v) (okD ok x b):=by
  cases ok with
  | true=>exact ⟨#[v,.bool b],rfl,h,DatRep.v _,trivial⟩
  | false=>exact h
theorem jkh {o:Oper} {t:TypeId} {x i:Operand} {ok:Bool} {res:Res} (ho:o.op = .lookup t x i ok) (h:q3t P t (opnd σ x) (opnd σ i) ok σ.box=some res):q1x P F o σ res:=by
  unfold q3t at h
  split at h
  case h_2=>cases h
  rename_i T el β s hT hx hi
  split at h
  case h_2=>cases h
  rename_i T' sz xs z hb hz
  split at h
  case isFalse=>cases h
  rename_i hTT
  subst hTT
  obtain ⟨k,vw,va,u1,u2,u3,u4,t1,t2,t3,t4,t5⟩:=jo1 hT
  obtain ⟨inf,hinf,hz1⟩:=Option.bind_eq_some_iff.1 hz
  have main : ∀ e a w,R F σ e a w→∃ es:List (List Value),a.eval x = .map (some (e.m β))∧a.eval i = .string s∧w.heap[e.m β]? = some (.map (qox T' 0 es).toArray es.length)∧q0i (jxc e.Pc w sz) es xs:=fun e a w hR=>by
    have h1:=hR.opnd x
    rw [hx] at h1
    have h2:=hR.opnd i
    rw [hi] at h2
    obtain ⟨_,hB⟩:=hR.hp.boxes β T' _ hb
    rcases hB with ⟨h0,_⟩|⟨_,sz',xs',hc,_,es,h5,h6⟩
    · omega
    · simp only [List.cons.injEq,C.d.injEq,Dat.lst.injEq,and_true] at hc
      obtain ⟨rfl,rfl⟩:=hc
      exact ⟨es,h1.2,q07 h2,h5,h6⟩
  split at h
  · rename_i r hfd
    simp only [Option.some.injEq] at h
    subst h
    refine q1x.same fun e a w hR _=>?_
    obtain ⟨es,h1,h2,h3,h4⟩:=main e a w hR
    obtain ⟨j,us,h5,h6,_,_⟩:=j8g (i:=0) t2 t3 h4 hfd
    refine ⟨_,?_,jv8 (ok:=ok) (b:=true) (vD_ok (T:=T') h6)⟩
    simp only [execOp,ho,Instr.lookup,h1,h2,Sem.run_bind,run_underlying u1,MapKept.run_getObj_map h3,Result.andThen_ok,Sem.run_pure,MapKept.run_checkKey u2 (d:=.string) (k:=.string s) trivial,MapKept.run_findKey u2 h5]
  · rename_i hfd
    simp only [Option.some.injEq] at h
    subst h
    refine q1x.same fun e a w hR _=>?_
    obtain ⟨es,h1,h2,h3,h4⟩:=main e a w hR
    have h5:Instr.findNow .string (.string s) (qox T' 0 es) 0=some none:=j8g (i:=0) t2 t3 h4 hfd
    have hzr:(zeroValue el).run P w = .ok z w:=by simp [zeroValue,typeInfo,hinf,hz1]
    refine ⟨_,?_,jv8 (ok:=ok) (b:=false) (jtf z)⟩
    simp only [execOp,ho,Instr.lookup,h1,h2,Sem.run_bind,run_underlying u1,MapKept.run_getObj_map h3,Result.andThen_ok,Sem.run_pure,MapKept.run_checkKey u2 (d:=.string) (k:=.string s) trivial,MapKept.run_findKey u2 h5,hzr]
  · cases h
def jvd:D1→Bool
  | .agg _=>true
  | _=>false
def q2v (P:Program) (t:TypeId) (m i x:D) (bx:Nat→Option (Nat×List C)):Option Res:=match mTy P t,m,i with
  | some (T,_),.one (.c (.mv β)),.one (.c (.d (.v (.string s))))=>match bx β,x with
    | some (T',[.d (.lst sz xs)]),.one y=>if T'=T∧(q0n y).all okC=true∧(q0n y).length=mVw T∧jvd y=mVa T then
        match (q0n y).mapM qp2 with
        | some ds=>(jvj s ds xs).map fun ys=>{ cond:=True,val:=q7b undef,box:=some (β,(T,[.d (.lst sz ys)])) }
        | none=>none
      else none
    | _,_=>none
  | _,_,_=>none
theorem j3u {o:Oper} {t:TypeId} {m i x:Operand} {res:Res} (ho:o.op = .mapUpdate t m i x∨o.op = .insert t m i x) (h:q2v P t (opnd σ m) (opnd σ i) (opnd σ x) σ.box=some res):q1x P F o σ res:=by
  unfold q2v at h
  split at h
  case h_2=>cases h
  rename_i T el β s hT hm hi
  split at h
  case h_2=>cases h
  rename_i T' sz xs y hb hx
  split at h
  case isFalse=>cases h
  rename_i hc
  obtain ⟨rfl,hok,hlen,hag⟩:=hc
  split at h
  case h_2=>cases h
  rename_i ds hds
  obtain ⟨ys,hput,rfl⟩:=Option.map_eq_some_iff.1 h
  obtain ⟨k,vw,va,u1,u2,u3,u4,t1,t2,t3,t4,t5⟩:=jo1 hT
  intro e a w hR _
  have h1:=hR.opnd m
  rw [hm] at h1
  have h2:=hR.opnd i
  rw [hi] at h2
  have h2':=q07 h2
  have h3:=hR.opnd x
  rw [hx] at h3
  obtain ⟨h4,h5⟩:=qi8 (show q9c e σ w (a.eval x) y from h3) hok
  have h6:=qpb hds h4
  obtain ⟨g0,hB⟩:=hR.hp.boxes β T' _ hb
  obtain ⟨es,hsz,h7,h8⟩ : ∃ es:List (List Value),sz=mKw T'+mVw T'∧w.heap[e.m β]? = some (.map (qox T' 0 es).toArray es.length)∧q0i (jxc e.Pc w sz) es xs:=by
    rcases hB with ⟨h0,_⟩|⟨_,sz',xs',hc,hs,es,h5,h6⟩
    · omega
    · simp only [List.cons.injEq,C.d.injEq,Dat.lst.injEq,and_true] at hc
      obtain ⟨rfl,rfl⟩:=hc
      exact ⟨es,hs,h5,h6⟩
  have hval:a.eval x=valOf (mVa T') (a.eval x).cells.toList:=by
    rw [← hag]
    cases y with
    | c c =>
      show _=List.headD _ _
      have h1:okC c=true:=by simpa [q0n] using hok
      have h2:=jca (σ:=σ) (e:=e) (w:=w) (show q1w e σ w (a.eval x) c from h3) h1
      have h3:(a.eval x).cells = #[a.eval x]:=by
        revert h2;generalize a.eval x=v;intro h2
        cases v<;>first|rfl|cases h2
      rw [h3];rfl
    | agg cs =>
      obtain ⟨vs,hv,_⟩:=h3
      rw [hv]
      show Value.agg vs = .agg vs.toList.toArray
      simp
  have hvl:(a.eval x).cells.toList.length+1=sz:=by
    have:=h6.length
    have h9:ds.length=(q0n y).length:=by
      have:=h4.length;have:=h6.length;omega
    rw [hsz,t2];omega
  obtain ⟨es',k1,k2⟩:=jv0 (i:=0) t2 t3 h6 h5 hvl h8 hput
  have fin : ∀ w',w' = { w with heap:=w.heap.setIfInBounds (e.m β) (.map (qox T' 0 es').toArray es'.length) }→(Instr.mapUpdate t (.map (some (e.m β))) (.string s) (a.eval x)).run P w = .ok () w' →
      ∃ v w' e',((execOp a.eval o).run P w = .ok (.value v) w'∨((execOp a.eval o).run P w = .ok .skip w'∧v=undef)) ∧
    Fwd e σ w e' (σ.app { cond:=True,val:=q7b undef,box:=some (β,(T',[.d (.lst sz ys)])) }) w'∧Hp F (σ.app { cond:=True,val:=q7b undef,box:=some (β,(T',[.d (.lst sz ys)])) }) e' w'∧q1c e' (σ.app { cond:=True,val:=q7b undef,box:=some (β,(T',[.d (.lst sz ys)])) }) w' v (q7b undef):=fun w' hw' hrun=>by
    have hoth : ∀ k,k≠e.m β→w'.heap[k]? = w.heap[k]?:=fun k hk=>by rw [hw'];exact (MapKept.heap_set h7).2 k hk
    have hnew:w'.heap[e.m β]? = some (.map (qox T' 0 es').toArray es'.length):=by rw [hw'];exact (MapKept.heap_set h7).1
    have hbl:Below F.w0.heap.size F.w0 w':=hR.hp.below.trans ⟨by rw [hw'],by rw [hw'],by rw [hw'],by rw [hw'];simp,fun k hk=>hoth k (by omega)⟩
    have hcl : ∀ b o,b≠e.m β→w'.cell? ⟨b,o,none⟩=w.cell? ⟨b,o,none⟩:=fun b o hb=>World.cell?_of_block (w:=w) (hoth b hb)
    obtain ⟨hf,hh⟩:=hR.hp.setO β T' _ [.d (.lst sz ys)] hb hbl (by rw [hw'];simp) hoth hcl fun hf=>Or.inr ⟨t1,sz,ys,rfl,hsz,es',hnew,k1.mono fun us x ⟨m1,m2⟩=>⟨m1.mono fun _ _=>DatRep.mono hf.pc hf.cell,m2⟩⟩
    refine ⟨undef,w',e,.inr ⟨?_,rfl⟩,hf,hh,DatRep.v _⟩
    rcases ho with ho|ho<;>simp only [execOp,ho,h1.2,h2']<;>exact run_u hrun
  rcases k2 with ⟨q1,q2,q3⟩|⟨j,u,q1,q2,q3,q4⟩
  · refine fin _ rfl ?_
    simp only [Instr.mapUpdate,Sem.run_bind,run_underlying u1,MapKept.run_getObj_map h7,Result.andThen_ok,MapKept.run_checkKey u2 (d:=.string) (k:=.string s) trivial,MapKept.run_findKey u2 q1,MapKept.run_setObj_map _ h7]
    rw [q2,q3,← hval]
    simp
  · refine fin _ rfl ?_
    simp only [Nat.zero_add] at q1
    simp only [Instr.mapUpdate,Sem.run_bind,run_underlying u1,MapKept.run_getObj_map h7,Result.andThen_ok,MapKept.run_checkKey u2 (d:=.string) (k:=.string s) trivial,MapKept.run_findKey u2 q1]
    have q5:((qox T' 0 es).toArray[j]?).map (·.key)=some (.string s):=by simpa using q4
    rw [q5]
    simp only [Option.getD_some,MapKept.run_keyThatStays (d:=.string) (k:=.string s) trivial,Result.andThen_ok,MapKept.run_setObj_map _ h7]
    rw [q2,q3,← hval]
end Go.Proofs.YtggoebaobojmjaaGreatDoor.AM
namespace Go.Proofs.YtggoebaobojmjaaGreatDoor.AM
open Go.RowKit
set_option linter.unusedVariables false
variable {F:Fr} {σ:St} {e:Env} {a:Act} {w:World} {P:Program}
def jyu:C→Option Value
  | .d (.v x)=>some x
  | _=>none
def qz9:List C→Option (List Value)
  | []=>some []
  | c::cs=>match jyu c,qz9 cs with
    | some x,some xs=>some (x::xs)
    | _,_=>none
def k0g:D→Option Value
  | .one (.c c)=>jyu c
  | .one (.agg cs)=>(qz9 cs).map fun xs=>.agg ⟨xs⟩
  | .tup _=>none
theorem jlc {c:C} {x v:Value} (h:jyu c=some x) (hv:q1w e σ w v c):v=x:=by
  unfold jyu at h
  split at h
  · simp only [Option.some.injEq] at h;subst h;exact qh0 hv
  · cases h
theorem jd4 : ∀ {cs:List C} {xs vs:List Value},qz9 cs=some xs→q0i (q1w e σ w) vs cs→vs=xs
  | [],xs,vs,h,hv=>by
    simp only [qz9,Option.some.injEq] at h;subst h
    match vs,hv with
    | [],_=>rfl
  | c::cs,xs,vs,h,hv=>by
    unfold qz9 at h
    split at h
    case h_2=>cases h
    rename_i x ys hx hy
    simp only [Option.some.injEq] at h;subst h
    match vs,hv with
    | v::vs,hv=>rw [jlc hx hv.1,jd4 hy hv.2]
theorem jxj {d:D} {x v:Value} (h:k0g d=some x) (hv:q1c e σ w v d):v=x:=by
  unfold k0g at h
  split at h
  · exact jlc h hv
  · obtain ⟨xs,h1,rfl⟩:=Option.map_eq_some_iff.1 h
    obtain ⟨cs,rfl,h2⟩:=hv
    rw [← jd4 h1 h2]
  · cases h
def qgu (P:Program) (t:TypeId) (x:D):Option Res:=match P.concrete t,k0g x with
  | true,some v=>some { cond:=True,val:=q7b (.iface t v) }
  | _,_=>none
theorem jum {o:Oper} {t:TypeId} {x:Operand} {res:Res} (ho:o.op = .makeInterface t x) (h:qgu P t (opnd σ x)=some res):q1x P F o σ res:=by
  unfold qgu at h
  split at h
  case h_2=>cases h
  rename_i v hc hx
  simp only [Option.some.injEq] at h;subst h
  refine q1x.same fun e a w hR _=>⟨.iface t v,?_,q06 _⟩
  have h1:=jxj hx (hR.opnd x)
  simp [execOp,ho,h1,run_makeInterface w t v hc]
def qsd:Value→Option Bool
  | .nilIface=>some true
  | .iface _ _=>some false
  | _=>none
def qg4:Operand→Bool
  | .const .nilIface=>true
  | _=>false
@[push_cast] theorem jzr (t:Nat):qg4 (.tmp t)=false:=rfl
@[push_cast] theorem k11 (k:IntKind) (n:Int):qg4 (.const (.int k n))=false:=rfl
@[push_cast] theorem jz8 (b:Bool):qg4 (.const (.bool b))=false:=rfl
@[push_cast] theorem jzb (b:ByteArray):qg4 (.const (.string b))=false:=rfl
@[push_cast] theorem jwg (a:Option Addr) (n c:Nat):qg4 (.const (.slice a n c))=false:=rfl
@[push_cast] theorem k0d (a:Array Value):qg4 (.const (.agg a))=false:=rfl
@[push_cast] theorem k0f:qg4 (.const .nilIface)=true:=rfl
theorem jtl {y:Operand} (h:qg4 y=true):y = .const .nilIface:=by
  unfold qg4 at h
  split at h
  · rfl
  · cases h
def jfo (P:Program) (t:TypeId):Bool:=match P.underlying t with
  | some (.interface _)=>true
  | _=>false
theorem jqu {t:TypeId} (h:jfo P t=true):P.underlying t=some (.interface (P.methodsAt t)):=by
  unfold jfo at h
  unfold Program.methodsAt
  cases hu:P.underlying t with
  | none=>rw [hu] at h;cases h
  | some d=>rw [hu] at h;cases d<;>first|rfl|cases h
def qnv (P:Program) (op:BinOp) (t:TypeId) (x:D):Option Res:=match jfo P t,x with
  | true,.one (.c (.d (.v v)))=>match op with
    | .eql=>(qsd v).map fun b=>{ cond:=True,val:=q7b (.bool b) }
    | .neq=>(qsd v).map fun b=>{ cond:=True,val:=q7b (.bool (!b)) }
    | _=>none
  | _,_=>none
theorem qo8 {v:Value} {b:Bool} (h:qsd v=some b):(v = .nilIface∧b=true) ∨ ∃ t x,v = .iface t x∧b=false:=by
  unfold qsd at h
  split at h
  · exact Or.inl ⟨rfl,(Option.some.inj h).symm⟩
  · exact Or.inr ⟨_,_,rfl,(Option.some.inj h).symm⟩
  · cases h
theorem jxz {o:Oper} {op:BinOp} {t t':TypeId} {x y:Operand} {res:Res} (ho:o.op = .binOp op t x y t') (hy:qg4 y=true) (h:qnv P op t (opnd σ x)=some res):q1x P F o σ res:=by
  unfold qnv at h
  have hy':=jtl hy
  subst hy'
  split at h
  case h_2=>cases h
  rename_i v ht hx
  have hi:=jqu ht
  split at h
  case h_3=>cases h
  · obtain ⟨b,hb,rfl⟩:=Option.map_eq_some_iff.1 h
    refine q1x.same fun e a w hR _=>⟨.bool b,?_,q06 _⟩
    have h1:=hR.opnd x
    rw [hx] at h1
    have h2:=q07 h1
    have h3:a.eval (.const .nilIface) = .nilIface:=rfl
    rcases qo8 hb with ⟨rfl,rfl⟩|⟨u,z,rfl,rfl⟩
    · simp [execOp,ho,h2,h3,eqGuard_nil_constR,run_eql_nil_nil w t hi]
    · simp [execOp,ho,h2,h3,eqGuard,run_eql_held_nil w t u z hi]
  · obtain ⟨b,hb,rfl⟩:=Option.map_eq_some_iff.1 h
    refine q1x.same fun e a w hR _=>⟨.bool (!b),?_,q06 _⟩
    have h1:=hR.opnd x
    rw [hx] at h1
    have h2:=q07 h1
    have h3:a.eval (.const .nilIface) = .nilIface:=rfl
    rcases qo8 hb with ⟨rfl,rfl⟩|⟨u,z,rfl,rfl⟩
    · simp [execOp,ho,h2,h3,eqGuard_nil_constR,run_neq_nil_nil w t hi]
    · simp [execOp,ho,h2,h3,eqGuard,run_neq_held_nil w t u z hi]
def qr0:List D→Option (List Nat)
  | []=>some []
  | .one (.c (.box β 0))::ds=>(qr0 ds).map (β :: ·)
  | _=>none
def k0o (f:FuncId) (ds:List D):Option Res:=match qr0 ds with
  | some (c::cs)=>some { cond:=True,val:=.one (.c (.fn f (c::cs))) }
  | _=>none
theorem j65 {e:Env} {σ:St} {w:World} : ∀ {ds:List D} {cs:List Nat} {vs:List Value},qr0 ds=some cs→q0i (q1c e σ w) vs ds→(∀ β∈cs,(σ.box β).isSome=true)∧vs=cs.map fun β=>Value.pointer (some ⟨e.m β,0,none⟩)
  | [],cs,[],h,_=>by simp only [qr0,Option.some.injEq] at h;subst h;exact ⟨fun β hβ=>(by cases hβ),rfl⟩
  | [],cs,_::_,_,hv=>hv.elim
  | d::ds,cs,[],_,hv=>hv.elim
  | d::ds,cs,v::vs,h,hv=>by
    unfold qr0 at h
    split at h
    · rename_i h1;cases h1
    · rename_i β ds' h1
      simp only [List.cons.injEq] at h1
      obtain ⟨rfl,rfl⟩:=h1
      obtain ⟨cs',h2,rfl⟩:=Option.map_eq_some_iff.1 h
      obtain ⟨h3,h4⟩:=j65 h2 hv.2
      have h5:(σ.box β).isSome=true∧v = .pointer (some ⟨e.m β,0,none⟩):=hv.1
      refine ⟨fun b hb=>?_,by rw [List.map_cons,h4,h5.2]⟩
      rcases List.mem_cons.1 hb with rfl|hb
      · exact h5.1
      · exact h3 b hb
    · cases h
theorem jvl {e:Env} {a:Act} {w:World} (hR:R F σ e a w) : ∀ xs:List Operand,q0i (q1c e σ w) (xs.map a.eval) (xs.map (opnd σ))
  | []=>trivial
  | x::xs=>⟨hR.opnd x,jvl hR xs⟩
theorem ok_fn {o:Oper} {f:FuncId} {cs:Array Operand} {res:Res} (ho:o.op = .makeFunc (.func f) #[] cs) (h:k0o f (cs.toList.map (opnd σ))=some res):q1x P F o σ res:=by
  unfold k0o at h
  split at h
  case h_2=>cases h
  rename_i c cs' hc
  simp only [Option.some.injEq] at h
  subst h
  refine q1x.same fun e a w hR _=>?_
  obtain ⟨h1,h2⟩:=j65 (vs:=cs.toList.map a.eval) hc (jvl hR cs.toList)
  refine ⟨.func (.func f) #[] (cs.map a.eval),?_,h1,?_⟩
  · simp [execOp,ho,Instr.makeFunc]
  · rw [← h2]
    congr 1
    apply Array.toList_inj.1
    simp
def qfs (P:Program) (o:Oper) (ρ:Operand→D) (bx:Nat→Option (Nat×List C)) (rw:Nat→Option Row):Option Res:=match o.op with
  | .move x=>some { cond:=True,val:=ρ x }
  | .assign x=>some { cond:=True,val:=ρ x }
  | .pick c x y=>qx9 (ρ c) (ρ x) (ρ y)
  | .alloc t=>qaf P o.dst t bx
  | .box t x=>qq7 o.dst t (ρ x) bx
  | .load t x=>q9p P t (ρ x) bx rw
  | .store t x y=>q3a P t (ρ x) (ρ y) bx rw
  | .fieldAddr t x f=>q28 P t (ρ x) f
  | .field t x f=>qbq P t (ρ x) f
  | .index t x i=>q5h P t (ρ x) (ρ i)
  | .indexAddr t x i=>q0s P t (ρ x) (ρ i) rw
  | .extract x i=>q7g (ρ x) i
  | .build t ps=>qga P t ps ρ
  | .buildSlice t n ps=>q0u P o.dst t n ps ρ rw
  | .binOp op t x y _=>bif qg4 y then qnv P op t (ρ x) else qcg P op t (ρ x) (ρ y)
  | .makeInterface t x=>qgu P t (ρ x)
  | .unOp op _ x=>jz1 op (ρ x)
  | .convert s d x=>match qfa P s d (ρ x) with
    | some r=>some r
    | none=>q32 P o.dst s d (ρ x) rw
  | .slice t x lo hi none=>match q6y P t (ρ x) (lo.map ρ) (hi.map ρ) with
    | some r=>some r
    | none=>q2q P t (ρ x) (lo.map ρ) (hi.map ρ) rw
  | .nilCheck x=>jlj (ρ x)
  | .call ⟨.builtin .len,⟨[x]⟩,⟨[t]⟩⟩=>qlo P t (ρ x) rw
  | .call ⟨.builtin .append,⟨[s,x]⟩,⟨[t,t']⟩⟩=>if t=t' then q2p P o.dst t (ρ s) (ρ x) rw else none
  | .makeSlice t x y=>bif qnp x y then qj5 P o.dst t (ρ x) rw else none
  | .call ⟨.builtin .max,⟨[x,y]⟩,⟨[_,_]⟩⟩=>juc max (ρ x) (ρ y)
  | .call ⟨.builtin .min,⟨[x,y]⟩,⟨[_,_]⟩⟩=>juc min (ρ x) (ρ y)
  | .makeFunc (.func f) ⟨[]⟩ cs=>k0o f (cs.toList.map ρ)
  | .makeMap t none=>q3x P o.dst t bx
  | .lookup t m i ok=>q3t P t (ρ m) (ρ i) ok bx
  | .mapUpdate t m i x=>q2v P t (ρ m) (ρ i) (ρ x) bx
  | .insert t m i x=>q2v P t (ρ m) (ρ i) (ρ x) bx
  | _=>none
theorem jea {o:Oper} {res:Res} (h:qfs P o (opnd σ) σ.box σ.row=some res):q1x P F o σ res:=by
  unfold qfs at h
  split at h
  · rename_i ho;simp only [Option.some.injEq] at h;subst h;exact jo8 (Or.inl ho)
  · rename_i ho;simp only [Option.some.injEq] at h;subst h;exact jo8 (Or.inr ho)
  · rename_i ho;exact jwq ho h
  · rename_i ho;exact js1 ho h
  · rename_i ho;exact k0a ho h
  · rename_i ho;exact jx7 ho h
  · rename_i ho;exact jrd ho h
  · rename_i ho;exact j2q ho h
  · rename_i ho;exact jtk ho h
  · rename_i ho;exact jtj ho h
  · rename_i ho;exact j7p ho h
  · rename_i ho;exact ji6 ho h
  · rename_i ho;exact jui ho h
  · rename_i ho;exact j1g ho h
  · rename_i ho
    cases hn:qg4 _ with
    | true=>rw [hn] at h;exact jxz ho hn h
    | false=>rw [hn] at h;exact jzv ho h
  · rename_i ho;exact jum ho h
  · rename_i ho;exact ok_un ho h
  · rename_i ho
    split at h
    · rename_i r hr
      simp only [Option.some.injEq] at h;subst h
      exact jyc ho hr
    · exact jgi ho h
  · rename_i ho
    split at h
    · rename_i r hr
      simp only [Option.some.injEq] at h;subst h
      exact ok_slice ho hr
    · exact jax ho h
  · rename_i ho;exact k1e ho h
  · rename_i ho;exact k1d ho h
  · rename_i ho
    split at h
    case isFalse=>cases h
    rename_i ht
    subst ht
    exact jpu ho h
  · rename_i ho
    cases hs:qnp _ _ with
    | true=>rw [hs] at h;exact jw0 ho hs h
    | false=>rw [hs] at h;cases h
  · rename_i ho;exact k1g ho h
  · rename_i ho;exact k07 ho h
  · rename_i ho;exact ok_fn ho h
  · rename_i ho;exact jgn ho h
  · rename_i ho;exact jkh ho h
  · rename_i ho;exact j3u (Or.inl ho) h
  · rename_i ho;exact j3u (Or.inr ho) h
  · cases h
def q3r (ops:Array Oper) (σ:St) (o:Oper):Option Bool:=match o.guard with
  | none=>some true
  | some (g,want)=>match (ops[g]?).bind (·.dst) with
    | some t=>match σ.slot t with
      | .one (.c (.d (.v (.bool b))))=>some (b==want)
      | .one (.c (.d (.v (.tuple ⟨[]⟩))))=>some false
      | _=>none
    | none=>none
theorem q8c {ops:Array Oper} {o:Oper} {b:Bool} (hR:R F σ e a w) (h:q3r ops σ o=some b) (hn : ∀ g,o.guard=some g→∀ t,(ops[g.1]?).bind (·.dst)=some t→t<F.n):Region.wanted o (yielded ops a.tmps)=b:=by
  unfold q3r at h
  unfold Region.wanted
  split at h
  · rename_i hg
    simp only [Option.some.injEq] at h
    rw [hg];exact h
  · rename_i g want hg
    rw [hg]
    split at h
    case h_2=>cases h
    rename_i t ht
    have hlt:=hn _ hg t ht
    have hs:a.tmps[t]? = some (a.tmps.getD t undef):=by
      have:t<a.tmps.size:=by rw [hR.size];exact hlt
      simp [Array.getD,this]
    have h1:=hR.slots t
    split at h
    · rename_i b' hb
      rw [hb] at h1
      have h2:=q07 h1
      simp only [Option.some.injEq] at h
      subst h
      simp only [yielded,ht,Option.bind_some,hs,h2]
      cases b'<;>cases want<;>rfl
    · rename_i hb
      rw [hb] at h1
      have h2:=q07 h1
      simp only [Option.some.injEq] at h
      subst h
      simp only [yielded,ht,Option.bind_some,hs,h2]
      rfl
    · cases h
def q2y:St:={ slot:=fun _=>.one (.c .bad),box:=fun _=>none,row:=fun _=>none }
def q2i (Pc:Nat→Nat→Prop):Env:={ m:=fun _=>0,rv:=fun _ _=>undef,Pc:=Pc }
def qfc (P:Program) (G:World→Prop) (f:FuncId) (ds:List D) (d:D):Prop :=
  ∀ (Pc:Nat→Nat→Prop) (w:World) (vs:Array Value),G w→(∀ b o,Pc b o→b<w.heap.size)→q0i (q1c (q2i Pc) q2y w) vs.toList ds →
    Calls P f vs w fun e w'=>∃ v Pc',e = .returned v∧Below w.heap.size w w'∧(∀ b o,Pc b o→Pc' b o)∧(∀ b o,Pc' b o→Pc b o∨(w.heap.size≤b∧b<w'.heap.size))∧q1c (q2i Pc') q2y w' v d
def j7j (rw:Nat→Option Row):C→Option C
  | .d x=>some (.d x)
  | .rp cs=>some (.rp cs)
  | .row t g=>match rw t with
    | some r=>if r.gen=g∧r.wr=false then some (.d (.lst r.sz r.xs)) else none
    | none=>none
  | _=>none
def qhg (rw:Nat→Option Row):List C→Option (List C)
  | []=>some []
  | c::cs=>match j7j rw c,qhg rw cs with
    | some x,some xs=>some (x::xs)
    | _,_=>none
def jc3 (rw:Nat→Option Row):D1→Option D1
  | .c x=>(j7j rw x).map .c
  | .agg cs=>(qhg rw cs).map .agg
def j8l (rw:Nat→Option Row):D→Option D
  | .one x=>(jc3 rw x).map .one
  | .tup _=>none
def qbn (rw:Nat→Option Row):List D→Option (List D)
  | []=>some []
  | c::cs=>match j8l rw c,qbn rw cs with
    | some x,some xs=>some (x::xs)
    | _,_=>none
theorem qzn (h:Hp F σ e w) {v:Value} {c c':C} (hc:j7j σ.row c=some c') (hv:q1w e σ w v c):q1w (q2i e.Pc) q2y w v c':=by
  unfold j7j at hc
  split at hc
  · simp only [Option.some.injEq] at hc;subst hc;exact hv
  · simp only [Option.some.injEq] at hc;subst hc;exact hv
  · rename_i t g
    split at hc
    case h_2=>cases hc
    rename_i r hr
    split at hc
    case isFalse=>cases hc
    rename_i hg
    obtain ⟨rfl,hw⟩:=hg
    simp only [Option.some.injEq] at hc;subst hc
    obtain ⟨_,h5,_⟩:(∃ r',σ.row t=some r'∧r.gen≤r'.gen)∧v=e.rv t r.gen∧_:=hv
    rw [h5]
    exact h.rowDat hr hw
  · cases hc
theorem qtl (h:Hp F σ e w) : ∀ {vs:List Value} {cs cs':List C},qhg σ.row cs=some cs'→q0i (q1w e σ w) vs cs→q0i (q1w (q2i e.Pc) q2y w) vs cs'
  | [],[],cs',hc,_=>by simp only [qhg,Option.some.injEq] at hc;subst hc;trivial
  | v::vs,c::cs,cs',hc,hv=>by
    unfold qhg at hc
    split at hc
    case h_2=>cases hc
    rename_i x xs hx hxs
    simp only [Option.some.injEq] at hc;subst hc
    exact ⟨qzn h hx hv.1,qtl h hxs hv.2⟩
  | [],_::_,_,_,h=>h.elim
  | _::_,[],_,_,h=>h.elim
theorem jty (h:Hp F σ e w) {v:Value} {d d':D} (hd:j8l σ.row d=some d') (hv:q1c e σ w v d):q1c (q2i e.Pc) q2y w v d':=by
  cases d with
  | one x =>
    obtain ⟨y,hy,rfl⟩:=Option.map_eq_some_iff.1 hd
    cases x with
    | c x =>
      obtain ⟨z,hz,rfl⟩:=Option.map_eq_some_iff.1 hy
      exact qzn h hz hv
    | agg cs =>
      obtain ⟨z,hz,rfl⟩:=Option.map_eq_some_iff.1 hy
      obtain ⟨us,h1,h2⟩:=hv
      exact ⟨us,h1,qtl h hz h2⟩
  | tup xs=>cases hd
theorem qql (h:Hp F σ e w) : ∀ {vs:List Value} {ds ds':List D},qbn σ.row ds=some ds'→q0i (q1c e σ w) vs ds→q0i (q1c (q2i e.Pc) q2y w) vs ds'
  | [],[],cs',hc,_=>by simp only [qbn,Option.some.injEq] at hc;subst hc;trivial
  | v::vs,c::cs,cs',hc,hv=>by
    unfold qbn at hc
    split at hc
    case h_2=>cases hc
    rename_i x xs hx hxs
    simp only [Option.some.injEq] at hc;subst hc
    exact ⟨jty h hx hv.1,qql h hxs hv.2⟩
  | [],_::_,_,_,h=>h.elim
  | _::_,[],_,_,h=>h.elim
theorem qhz {f:FuncId} {ds:List D} {d:D} {vs:Array Value} (hc:qfc P F.G f ds d) (h:Hp F σ e w) (hv:q0i (q1c (q2i e.Pc) q2y w) vs.toList ds) :
    Calls P f vs w fun en w'=>∃ v e',en = .returned v∧Fwd e σ w e' σ w'∧Hp F σ e' w'∧q1c e' σ w' v d:=by
  refine (hc e.Pc w vs (F.gst _ _ F.g0 h.below) h.pcLt hv).mono ?_
  rintro en w' ⟨v,Pc',rfl,hb,hp1,hp2,hd⟩
  obtain ⟨hf,hh⟩:=h.grow hb
  have hsz:=hb.size
  obtain ⟨hf2,hh2⟩:=hh.more (fun b o=>Pc' b o∧w.heap.size≤b∧b<w'.heap.size) (fun b o hN=>⟨Nat.le_trans h.sizeLe hN.2.1,hN.2.2⟩)
    (fun b o hN β hβ he=>by have:=h.boxLt hβ;omega) (fun b o hN t r hr he=>by have:=(h.rowLt hr he).2;omega) (fun b o hN hk=>by have:=h.kp.lt hk;omega)
  refine ⟨v,_,rfl,⟨fun b o hp=>hf2.pc b o (hf.pc b o hp),fun b o hp=>hf.cell b o hp,fun β hβ=>⟨hβ,rfl⟩,fun t r g hr hg=>⟨⟨r,hr,hg,rfl⟩,rfl⟩⟩,hh2,?_⟩
  refine q1c.fwd (e:=q2i Pc') (σ:=q2y) (w:=w') ⟨fun b o hp=>?_,fun _ _ _=>rfl,(fun β hβ=>by cases hβ),(fun t r g hr=>by cases hr)⟩ hd
  rcases hp2 b o hp with h1|h1
  · exact Or.inl h1
  · exact Or.inr ⟨hp,h1⟩
def qvz (n:Nat) (o:Oper):Bool:=match o.dst with|some d=>decide (d<n)|none=>true
theorem qhi {n:Nat} {o:Oper} (h:qvz n o=true) : ∀ k,o.dst=some k→k<n:=by
  intro k hk
  unfold qvz at h
  rw [hk] at h
  exact of_decide_eq_true h
def qbo (n:Nat) (ops:Array Oper):Bool:=ops.all (qvz n)
def qok (P:Program) (F:Fr) (ops:Array Oper) (l:List Oper) (σ:St) (Q:St→Prop):Prop :=
  qbo F.n ops=true→(∀ o∈l,qvz F.n o=true)→∀ e a w,R F σ e a w→wpList P ops (fun ex a w=>ex = .normal∧∃ σ' e',Q σ'∧R F σ' e' a w) l a w
theorem q2b {n:Nat} {ops:Array Oper} (h:qbo n ops=true) {i:Nat} {t:Nat} (ht:(ops[i]?).bind (·.dst)=some t):t<n:=by
  obtain ⟨o,ho,hd⟩:=Option.bind_eq_some_iff.1 ht
  have:=Array.all_eq_true_iff_forall_mem.1 h o (Array.mem_of_getElem? ho)
  exact qhi this t hd
variable {ops:Array Oper} {o:Oper} {rest:List Oper} {Q:St→Prop}
theorem js0 (h:Q σ):qok P F ops [] σ Q:=fun _ _ e a w hR=>⟨rfl,σ,e,h,hR⟩
theorem j9k (hw:q3r ops σ o=some true) {res:Res} (he:qfs P o (opnd σ) σ.box σ.row=some res) (hc:res.cond)
    (h:qok P F ops rest ((σ.app res).put o.dst res.val) Q):qok P F ops (o::rest) σ Q:=by
  intro hn hall e a w hR
  have hd:=hall o (List.mem_cons_self ..)
  have hrest : ∀ o∈rest,qvz F.n o=true:=fun o' ho'=>hall o' (List.mem_cons_of_mem _ ho')
  obtain ⟨v,w',e',h1,h2,h3,h4⟩:=jea he e a w hR hc
  have hR':R F ((σ.app res).put o.dst res.val) e' (a.put o.dst v) w':=hR.next h2 h3 rfl o.dst (qhi hd) v res.val h4
  have hnext:=h hn hrest e' _ _ hR'
  unfold wpList
  rw [q8c hR hw (fun g _ t ht=>q2b hn ht),if_pos rfl]
  refine .inl ?_
  unfold Oper.wp
  rcases h1 with h1|⟨h1,rfl⟩
  · rw [h1];exact hnext
  · rw [h1];exact hnext
theorem j70 (hw:q3r ops σ o=some false) (h:qok P F ops rest (σ.put o.dst (q7b undef)) Q):qok P F ops (o::rest) σ Q:=by
  intro hn hall e a w hR
  have hd:=hall o (List.mem_cons_self ..)
  have hrest : ∀ o∈rest,qvz F.n o=true:=fun o' ho'=>hall o' (List.mem_cons_of_mem _ ho')
  have hR':R F (σ.put o.dst (q7b undef)) e (a.put o.dst undef) w:=hR.pure (qhi hd) (q06 _)
  have hnext:=h hn hrest e _ _ hR'
  unfold wpList
  rw [q8c hR hw (fun g _ t ht=>q2b hn ht),if_neg (by decide)]
  exact hnext
def q8z (P:Program) (f:FuncId):Bool:=match P.funcs[f]? with
  | some fn=>fn.body.isSome&&fn.name != "runtime.NumGoroutine"
  | none=>false
theorem qpk {f:FuncId} (h:q8z P f=true) (args:Array Value) (w:World):(callFunc f args).run P w = .ok (.enter f args) w:=by
  unfold q8z at h
  split at h
  case h_2=>cases h
  rename_i fn hf
  simp only [Bool.and_eq_true,bne_iff_ne,ne_eq] at h
  have hp:(program).run P w = .ok P w:=rfl
  have h3 : ¬ fn.body=none:=by intro he;rw [he] at h;simp at h
  simp [callFunc,Sem.run_bind,hp,hf,h.2,h3]
theorem qho (hR:R F σ e a w) : ∀ xs:List Operand,q0i (q1c e σ w) (xs.map a.eval) (xs.map (opnd σ))
  | []=>trivial
  | x::xs=>⟨hR.opnd x,qho hR xs⟩
def callee (σ:St) (x:Operand):Option FuncId:=match opnd σ x with
  | .one (.c (.d (.v (.func (.func f) ⟨[]⟩ ⟨[]⟩))))=>some f
  | _=>none
theorem k03 (hw:q3r ops σ o=some true) {x:Operand} {xs:Array Operand} {ts:Array TypeId} (ho:o.op = .call { callee:=.value x,args:=xs,argTypes:=ts })
    {f:FuncId} (hf:callee σ x=some f) (hb:q8z P f=true) {ds:List D} (hds:qbn σ.row (xs.toList.map (opnd σ))=some ds) {d:D} (hc:qfc P F.G f ds d)
    (h:qok P F ops rest (σ.put o.dst d) Q):qok P F ops (o::rest) σ Q:=by
  intro hn hall e a w hR
  have hd:=hall o (List.mem_cons_self ..)
  have hrest : ∀ o∈rest,qvz F.n o=true:=fun o' ho'=>hall o' (List.mem_cons_of_mem _ ho')
  unfold wpList
  rw [q8c hR hw (fun g _ t ht=>q2b hn ht),if_pos rfl]
  refine .inl ?_
  unfold callee at hf
  split at hf
  case h_2=>cases hf
  rename_i f' hx
  simp only [Option.some.injEq] at hf
  subst hf
  have h1:=hR.opnd x
  rw [hx] at h1
  have h2:=q07 h1
  have hrun:(execOp a.eval o).run P w = .ok (.enter f' (xs.map a.eval)) w:=by
    have:=qpk hb (xs.map a.eval) w
    simp [execOp,ho,resolve,h2,Deferred.ofValue,invoke,this]
  unfold Oper.wp
  rw [hrun]
  refine (qhz hc hR.hp (vs:=xs.map a.eval) (by rw [Array.toList_map];exact qql hR.hp hds (qho hR _))).mono ?_
  rintro en w' ⟨v,e',rfl,h3,h4,h5⟩
  exact h hn hrest e' _ _ (hR.next h3 h4 rfl o.dst (qhi hd) v d h5)
def jxu (σ:St) (dst:Option Nat) (K:St→Prop):Option Bool→Option Res→Prop
  | some true,some res=>res.cond∧K ((σ.app res).put dst res.val)
  | some false,_=>K (σ.put dst (q7b undef))
  | _,_=>False
theorem k05 (h : ∀ K:St→Prop,(∀ σ',qok P F ops rest σ' Q→K σ')→jxu σ o.dst K (q3r ops σ o) (qfs P o (opnd σ) σ.box σ.row)):qok P F ops (o::rest) σ Q:=by
  have h:=h (fun σ'=>qok P F ops rest σ' Q) (fun _ h=>h)
  unfold jxu at h
  split at h
  · rename_i res hw he
    exact j9k hw he h.1 h.2
  · rename_i hw
    exact j70 hw h
  · exact h.elim
end Go.Proofs.YtggoebaobojmjaaGreatDoor.AM
