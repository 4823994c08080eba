
import Derived.Lib.ConvBytes
import Derived.Laws.BytesString
import Derived.Deep.OwnRows
import Derived.Lib.MinMax
import Derived.Test.YtlkpgcifpnppeaaGreatDoorMv1
import Derived.MapKept
set_option linter.unusedVariables false
set_option linter.unusedSimpArgs false
namespace Go.Proofs.YtlkpgcifpnppeaaGreatDoor.AM
open Go.RowKit
variable {F:Fr} {σ:St} {e:Env} {a:Act} {w:World} {P:Program}
def qqe (op:BinOp) (x y:ByteArray):Option (Prop×Value):=match op with
 | .add=>some (x.size+y.size≤9223372036854775807,.string (x++y))
 | .eql=>some (True,.bool (decide (x=y)))
 | .neq=>some (True,.bool (!decide (x=y)))
 | .lss=>some (True,.bool (Op.bytesLess x.toList y.toList))
 | .leq=>some (True,.bool (Op.bytesLess x.toList y.toList||decide (x=y)))
 | .gtr=>some (True,.bool (!(Op.bytesLess x.toList y.toList||decide (x=y))))
 | .geq=>some (True,.bool (!Op.bytesLess x.toList y.toList))
 | _=>none
theorem j88 {op:BinOp} {T:TypeId} {x y:ByteArray} {c:Prop} {v:Value} (h:qqe op x y=some (c,v)) (hc:c) (w:World):(binOp op T (.string x) (.string y)).run P w = .ok v w:=by
 cases op<;>simp only [qqe,Option.some.injEq,Prod.mk.injEq,reduceCtorEq] at h<;>obtain ⟨rfl,rfl⟩:=h
 case add =>
  have : ¬ (((x.size+y.size:Nat):Int)>IntKind.i64.max):=by
   have e:IntKind.i64.max=9223372036854775807:=by decide
   rw [e];omega
  simp only [binOp,Op.stringOp,this,if_false,Sem.run_pure]
 all_goals simp only [binOp,Op.stringOp,qyf,Sem.run_pure]
def j5x (op:BinOp) (k:IntKind) (x y:Int):Option (Prop×Value):=match op with
 | .shl=>some (0≤y,.int k (k.wrap (x*2 ^ (min y.toNat k.bits))))
 | .shr=>some (0≤y,.int k (x.fdiv (2 ^ (min y.toNat k.bits))))
 | _=>none
theorem qpl {op:BinOp} {T:TypeId} {k k':IntKind} {x y:Int} {c:Prop} {v:Value} (h:j5x op k x y=some (c,v)) (hc:c) (w:World):(binOp op T (.int k x) (.int k' y)).run P w = .ok v w:=by
 cases op<;>simp only [j5x,Option.some.injEq,Prod.mk.injEq,reduceCtorEq] at h<;>obtain ⟨rfl,rfl⟩:=h
 all_goals
  have hc' : ¬ y<0:=by have:0≤y:=hc;omega
  simp only [binOp,Op.shift,hc',if_false,Sem.run_pure]
def eqV (P:Program) (t:TypeId) (x y:Value):Option Bool:=match P.underlying t,x,y with
 | some .bool,.bool a,.bool b=>some (decide (a=b))
 | some (.int _),.int k a,.int k' b=>if k=k' then some (decide (a=b)) else none
 | some .string,.string a,.string b=>some (decide (a=b))
 | _,_,_=>none
theorem qtx {t:TypeId} {x y:Value} {b:Bool} (h:eqV P t x y=some b) (d:Nat) (w:World):(Op.equalIn (d+1) t x y).run P w = .ok b w:=by
 unfold eqV at h
 split at h
 ·rename_i a b' hu
  simp only [Option.some.injEq] at h;subst h
  simp only [Op.equalIn,Sem.run_bind,run_underlying hu w,Result.andThen_ok,Sem.run_pure]
  cases a<;>cases b'<;>rfl
 ·rename_i k a k' b' hu
  split at h
  case isFalse=>cases h
  rename_i hk
  subst hk
  simp only [Option.some.injEq] at h;subst h
  simp only [Op.equalIn,Sem.run_bind,run_underlying hu w,Result.andThen_ok,Sem.run_pure,if_true]
  rfl
 ·rename_i a b' hu
  simp only [Option.some.injEq] at h;subst h
  simp only [Op.equalIn,Sem.run_bind,run_underlying hu w,Result.andThen_ok,Sem.run_pure]
  congr 1
  have e1:(a==b')=(a.data==b'.data):=rfl
  rw [e1,Bool.eq_iff_iff]
  simp only [beq_iff_eq,decide_eq_true_eq]
  exact ⟨fun h=>by cases a;cases b';simp only [ByteArray.mk.injEq];exact h,fun h=>by rw [h]⟩
 ·cases h
def jgk (P:Program) (rec:TypeId→List Value→List Value→Option Bool):List Field→List Value→List Value→Option Bool
 | [],_,_=>some true
 | f::fs,xs,ys=>if f.name = "_" then none else match qn8 P f.type with
  | some false=>match xs[f.offset]?,ys[f.offset]? with
   | some x,some y=>match eqV P f.type x y,jgk P rec fs xs ys with
    | some b,some c=>some (b&&c)
    | _,_=>none
   | _,_=>none
  | some true=>match tsz P f.type with
   | some m=>if f.offset+m≤xs.length∧f.offset+m≤ys.length then match rec f.type ((xs.drop f.offset).take m) ((ys.drop f.offset).take m),jgk P rec fs xs ys with
     | some b,some c=>some (b&&c)
     | _,_=>none
    else none
   | none=>none
  | none=>none
def eqS (P:Program):Nat→TypeId→List Value→List Value→Option Bool
 | 0,_,_,_=>none
 | n+1,t,us,vs=>match P.underlying t with
  | some (.struct fs)=>if P.stoodInHeld t=false then jgk P (eqS P n) fs.toList us vs else none
  | _=>none
theorem j0a {w:World} : ∀ (n:Nat) {t:TypeId} {us vs:Array Value} {b:Bool},eqS P n t us.toList vs.toList=some b→∀ d,n<d→(Op.equalIn d t (.agg us) (.agg vs)).run P w = .ok b w
 | 0,_,_,_,_,h,_,_=>by cases h
 | n+1,t,us,vs,b,h,d,hd=>by
  obtain ⟨d,rfl⟩ : ∃ d',d=d'+1:=⟨d - 1,by omega⟩
  obtain ⟨d',hd'⟩ : ∃ d',d=d'+1:=⟨d - 1,by omega⟩
  unfold eqS at h
  split at h
  case h_2=>cases h
  rename_i fs hu
  split at h
  case isFalse=>cases h
  rename_i hc1
  unfold Op.equalIn
  have hp:(program).run P w = .ok P w:=rfl
  simp only [Sem.run_bind,run_underlying hu w,Result.andThen_ok,hp,hc1,Bool.false_eq_true,if_false]
  rw [← Array.forIn_toList]
  generalize fs.toList=L at h ⊢
  clear hp hu
  induction L generalizing b with
  | nil =>
   simp only [jgk,Option.some.injEq] at h
   subst h
   simp
  | cons f fs ih =>
   unfold jgk at h
   split at h
   case isTrue=>cases h
   rename_i hname
   split at h
   ·rename_i ha
    split at h
    case h_2=>cases h
    rename_i x y hx hy
    split at h
    case h_2=>cases h
    rename_i b1 b2 hb1 hb2
    simp only [Option.some.injEq] at h
    subst h
    rw [Array.getElem?_toList] at hx hy
    have p1:(part f.type us f.offset).run P w = .ok x w:=by simp [part,Sem.run_bind,q1e ha w,hx]
    have p2:(part f.type vs f.offset).run P w = .ok y w:=by simp [part,Sem.run_bind,q1e ha w,hy]
    have p3:(Op.equalIn d f.type x y).run P w = .ok b1 w:=by rw [hd'];exact qtx hb1 d' w
    have:=ih b2 hb2
    cases b1
    ·simp [Sem.run_bind,hname,p1,p2,p3]
    ·simp [Sem.run_bind,hname,p1,p2,p3]
     simpa [Sem.run_bind] using this
   ·rename_i ha
    split at h
    case h_2=>cases h
    rename_i m hm
    split at h
    case isFalse=>cases h
    rename_i hle
    split at h
    case h_2=>cases h
    rename_i b1 b2 hb1 hb2
    simp only [Option.some.injEq] at h
    subst h
    have e1:(us.extract f.offset (f.offset+m)).toList=(us.toList.drop f.offset).take m:=by rw [Array.toList_extract,List.extract_eq_take_drop];congr 1;omega
    have e2:(vs.extract f.offset (f.offset+m)).toList=(vs.toList.drop f.offset).take m:=by rw [Array.toList_extract,List.extract_eq_take_drop];congr 1;omega
    have hle':f.offset+m≤us.size∧f.offset+m≤vs.size:=by simpa using hle
    have p1:(part f.type us f.offset).run P w = .ok (.agg (us.extract f.offset (f.offset+m))) w:=by simp [part,Sem.run_bind,q1e ha w,q0q hm w,hle'.1]
    have p2:(part f.type vs f.offset).run P w = .ok (.agg (vs.extract f.offset (f.offset+m))) w:=by simp [part,Sem.run_bind,q1e ha w,q0q hm w,hle'.2]
    have p3:(Op.equalIn d f.type (.agg (us.extract f.offset (f.offset+m))) (.agg (vs.extract f.offset (f.offset+m)))).run P w = .ok b1 w:=j0a n (by rw [e1,e2];exact hb1) d (by omega)
    have:=ih b2 hb2
    cases b1
    ·simp [Sem.run_bind,hname,p1,p2,p3]
    ·simp [Sem.run_bind,hname,p1,p2,p3]
     simpa [Sem.run_bind] using this
   ·cases h
def quw:List C→Option (List Value)
 | []=>some []
 | .d (.v x)::cs=>(quw cs).map (x :: ·)
 | _::_=>none
theorem qum : ∀ {us:List Value} {cs:List C} {xs:List Value},q0b (q2k e σ w) us cs→quw cs=some xs→us=xs
 | [],[],xs,_,h=>by simp only [quw,Option.some.injEq] at h;exact h
 | u::us,c::cs,xs,h,hv=>by
  unfold quw at hv
  split at hv
  ·rename_i hh;cases hh
  ·rename_i x cs' hh
   simp only [List.cons.injEq] at hh
   obtain ⟨rfl,rfl⟩:=hh
   obtain ⟨ys,hy,rfl⟩:=Option.map_eq_some_iff.1 hv
   rw [qum h.2 hy,qai h.1]
  ·cases hv
 | [],_::_,_,h,_=>h.elim
 | _::_,[],_,h,_=>h.elim
def qb0 (P:Program) (t:TypeId) (xs ys:List C):Option Bool:=match quw xs,quw ys with
 | some us,some vs=>if P.eqGuardType P.depth t=false then eqS P 9 t us vs else none
 | _,_=>none
theorem qig {t:TypeId} {xs ys:List C} {us vs:Array Value} {b:Bool} (hx:q0b (q2k e σ w) us.toList xs) (hy:q0b (q2k e σ w) vs.toList ys) (h:qb0 P t xs ys=some b) (x y:Operand) :
  (do eqGuard .eql t x y (.agg us) (.agg vs);pure (Value.bool (← Op.equal t (.agg us) (.agg vs))):Sem Value).run P w = .ok (.bool b) w∧P.eqGuardType P.depth t=false∧(Op.equal t (.agg us) (.agg vs)).run P w = .ok b w:=by
 unfold qb0 at h
 split at h
 case h_2=>cases h
 rename_i us' vs' hus hvs
 split at h
 case isFalse=>cases h
 rename_i hc2
 have e1:=qum hx hus
 have e2:=qum hy hvs
 subst e1 e2
 have heq:(Op.equal t (.agg us) (.agg vs)).run P w = .ok b w:=by
  unfold Op.equal Op.maxDepth
  exact j0a 9 h 10000 (by omega)
 refine ⟨?_,hc2,heq⟩
 simp [eqGuard,Sem.run_bind,hc2,heq]
def qaf (P:Program) (op:BinOp) (T:TypeId) (x y:D):Option Res:=match x,y with
 | .one (.c (.d (.v (.int k a)))),.one (.c (.d (.v (.int k' b))))=>match op with
  | .shl | .shr=>(j5x op k a b).map fun (c,v)=>{ cond:=c,val:=q67 v }
  | _=>if k=k' then (qng op k a b).map fun (c,v)=>{ cond:=c,val:=q67 v } else none
 | .one (.c (.d (.v (.string a)))),.one (.c (.d (.v (.string b))))=>(qqe op a b).map fun (c,v)=>{ cond:=c,val:=q67 v }
 | .one (.c (.d (.v (.bool a)))),.one (.c (.d (.v (.bool b))))=>match op with
  | .eql=>(eqV P T (.bool a) (.bool b)).map fun v=>{ cond:=True,val:=q67 (.bool v) }
  | .neq=>(eqV P T (.bool a) (.bool b)).map fun v=>{ cond:=True,val:=q67 (.bool (!v)) }
  | _=>none
 | .one (.agg xs),.one (.agg ys)=>match op with
  | .eql=>(qb0 P T xs ys).map fun v=>{ cond:=True,val:=q67 (.bool v) }
  | .neq=>(qb0 P T xs ys).map fun v=>{ cond:=True,val:=q67 (.bool (!v)) }
  | _=>none
 | _,_=>none
theorem jr2 {o:Oper} {op:BinOp} {T T':TypeId} {x y:Operand} {res:Res} (ho:o.op = .binOp op T x y T') (h:qaf P op T (opnd σ x) (opnd σ y)=some res):q1u P F o σ res:=by
 unfold qaf at h
 split at h
 ·rename_i k a1 k' b1 hx hy
  have main : ∀ {c:Prop} {v:Value} (_ : ∀ w,c→(binOp op T (.int k a1) (.int k' b1)).run P w = .ok v w),q1u P F o σ { cond:=c,val:=q67 v }:=fun {c v} hrun=>by
   refine q1u.same fun e a w hR hc=>⟨v,?_,q04 _⟩
   have h1:=hR.opnd x
   have h2:=hR.opnd y
   rw [hx] at h1;rw [hy] at h2
   have hr:=hrun w hc
   cases op<;>simp [execOp,ho,q07 h1,q07 h2,eqGuard,hr]
  split at h
  ·obtain ⟨⟨c,v⟩,h1,rfl⟩:=Option.map_eq_some_iff.1 h
   exact main fun w hc=>qpl h1 hc w
  ·obtain ⟨⟨c,v⟩,h1,rfl⟩:=Option.map_eq_some_iff.1 h
   exact main fun w hc=>qpl h1 hc w
  ·split at h
   case isFalse=>cases h
   rename_i hk
   subst hk
   obtain ⟨⟨c,v⟩,h1,rfl⟩:=Option.map_eq_some_iff.1 h
   exact main fun w hc=>j87 h1 hc w
 ·rename_i a1 b1 hx hy
  obtain ⟨⟨c,v⟩,h1,rfl⟩:=Option.map_eq_some_iff.1 h
  refine q1u.same fun e a w hR hc=>⟨v,?_,q04 _⟩
  have g1:=hR.opnd x
  have g2:=hR.opnd y
  rw [hx] at g1;rw [hy] at g2
  have hr:=j88 (P:=P) (T:=T) h1 hc w
  cases op<;>simp [execOp,ho,q07 g1,q07 g2,eqGuard,hr]
 ·rename_i a1 b1 hx hy
  split at h
  ·obtain ⟨v,h1,rfl⟩:=Option.map_eq_some_iff.1 h
   refine q1u.same fun e a w hR hc=>⟨.bool v,?_,q04 _⟩
   have g1:=hR.opnd x
   have g2:=hR.opnd y
   rw [hx] at g1;rw [hy] at g2
   have hr:=qtx h1 9999 w
   simp [execOp,ho,q07 g1,q07 g2,eqGuard,binOp,Op.equal,Op.maxDepth,hr]
  ·obtain ⟨v,h1,rfl⟩:=Option.map_eq_some_iff.1 h
   refine q1u.same fun e a w hR hc=>⟨.bool (!v),?_,q04 _⟩
   have g1:=hR.opnd x
   have g2:=hR.opnd y
   rw [hx] at g1;rw [hy] at g2
   have hr:=qtx h1 9999 w
   simp [execOp,ho,q07 g1,q07 g2,eqGuard,binOp,Op.equal,Op.maxDepth,hr]
  ·cases h
 ·rename_i xs ys hx hy
  split at h
  ·obtain ⟨v,h1,rfl⟩:=Option.map_eq_some_iff.1 h
   refine q1u.same fun e a w hR hc=>⟨.bool v,?_,q04 _⟩
   have g1:=hR.opnd x
   have g2:=hR.opnd y
   rw [hx] at g1;rw [hy] at g2
   obtain ⟨us,g3,g4⟩:=g1
   obtain ⟨vs,g5,g6⟩:=g2
   obtain ⟨_,r2,r3⟩:=qig g4 g6 h1 x y
   simp [execOp,ho,g3,g5,Sem.run_bind,eqGuard,binOp,r2,r3]
  ·obtain ⟨v,h1,rfl⟩:=Option.map_eq_some_iff.1 h
   refine q1u.same fun e a w hR hc=>⟨.bool (!v),?_,q04 _⟩
   have g1:=hR.opnd x
   have g2:=hR.opnd y
   rw [hx] at g1;rw [hy] at g2
   obtain ⟨us,g3,g4⟩:=g1
   obtain ⟨vs,g5,g6⟩:=g2
   obtain ⟨_,r2,r3⟩:=qig g4 g6 h1 x y
   simp [execOp,ho,g3,g5,Sem.run_bind,eqGuard,binOp,r2,r3]
  ·cases h
 ·cases h
def jou (op:UnOp) (x:D):Option Res:=match op,x with
 | .not,.one (.c (.d (.v (.bool b))))=>some { cond:=True,val:=q67 (.bool (!b)) }
 | .neg,.one (.c (.d (.v (.int k n))))=>some { cond:=True,val:=q67 (.int k (k.wrap (0 - n))) }
 | _,_=>none
theorem ok_un {o:Oper} {op:UnOp} {T:TypeId} {x:Operand} {res:Res} (ho:o.op = .unOp op T x) (h:jou op (opnd σ x)=some res):q1u P F o σ res:=by
 unfold jou at h
 split at h
 ·rename_i b hx
  simp only [Option.some.injEq] at h;subst h
  refine q1u.same fun e a w hR hc=>⟨.bool (!b),?_,q04 _⟩
  have h1:=hR.opnd x
  rw [hx] at h1
  simp [execOp,ho,q07 h1,Op.unary]
 ·rename_i k n hx
  simp only [Option.some.injEq] at h;subst h
  refine q1u.same fun e a w hR hc=>⟨.int k (k.wrap (0 - n)),?_,q04 _⟩
  have h1:=hR.opnd x
  rw [hx] at h1
  simp [execOp,ho,q07 h1,Op.unary,Op.intArith]
 ·cases h
def qc2 (P:Program) (src dst:TypeId) (x:D):Option Res:=match P.underlying src,P.underlying dst,x with
 | some _,some (.int k),.one (.c (.d (.v (.int _ n))))=>some { cond:=True,val:=q67 (.int k (k.wrap n)) }
 | some .string,some .string,.one (.c (.d (.v (.string s))))=>some { cond:=True,val:=q67 (.string s) }
 | _,_,_=>none
theorem jnf {o:Oper} {src dst:TypeId} {x:Operand} {res:Res} (ho:o.op = .convert src dst x) (h:qc2 P src dst (opnd σ x)=some res):q1u P F o σ res:=by
 unfold qc2 at h
 split at h
 ·rename_i ds k k' n hs hd hx
  simp only [Option.some.injEq] at h;subst h
  refine q1u.same fun e a w hR hc=>⟨.int k (k.wrap n),?_,q04 _⟩
  have h1:=hR.opnd x
  rw [hx] at h1
  simp [execOp,ho,q07 h1,Sem.run_bind,convert,run_underlying hs w,run_underlying hd w,Conv.intToInt]
 ·rename_i s hs hd hx
  simp only [Option.some.injEq] at h;subst h
  refine q1u.same fun e a w hR hc=>⟨.string s,?_,q04 _⟩
  have h1:=hR.opnd x
  rw [hx] at h1
  simp [execOp,ho,q07 h1,Sem.run_bind,convert,run_underlying hs w,run_underlying hd w]
 ·cases h
def qv4:List (List Dat)→Option (List Int)
 | []=>some []
 | [.v (.int .u8 n)]::r=>(qv4 r).map (n :: ·)
 | _=>none
theorem j5q : ∀ {ys:List (List Dat)} {ns:List Int},qv4 ys=some ns→ys.flatten=ns.map fun n=>Dat.v (.int .u8 n)
 | [],ns,h=>by simp only [qv4,Option.some.injEq] at h;subst h;rfl
 | y::r,ns,h=>by
  unfold qv4 at h
  split at h
  ·rename_i heq;cases heq
  ·rename_i n r' heq
   obtain ⟨rfl,rfl⟩:=List.cons.inj heq
   obtain ⟨ms,h1,rfl⟩:=Option.map_eq_some_iff.1 h
   rw [List.flatten_cons,j5q h1];rfl
  ·cases h
def strOf (ns:List Int):ByteArray:=ns.foldl (fun r n=>r.push (UInt8.ofNat n.toNat)) ByteArray.empty
def q3n (P:Program) (dst:Option Nat) (src d:TypeId) (x:D) (rw:Nat→Option Row):Option Res:=match P.underlying src,P.underlying d with
 | some (.slice e),some .string=>match P.underlying e,(qiz 1 x rw).bind qv4 with
  | some (.int .u8),some ns=>some { cond:=True,val:=q67 (.string (strOf ns)) }
  | _,_=>none
 | some .string,some (.slice e)=>match P.underlying e,x,dst with
  | some (.int .u8),.one (.c (.d (.v (.string s)))),some i=>match rw i with
   | none=>if e<1099511627776 then some { cond:=s.size≤maxLen,val:=.one (.c (.row i 0)),row:=some (i,⟨0,e+1099511627776,1,true,s.data.toList.map fun b=>[.v (.int .u8 b.toNat)]⟩) } else none
   | some _=>none
  | _,_,_=>none
 | _,_=>none
theorem qxb {Pc:Nat→Nat→Prop} {w:World} : ∀ {news:List Value} {ns:List Int},q0b (DatRep Pc w) news (ns.map fun n=>Dat.v (.int .u8 n))→news=ns.map (Value.int .u8)
 | [],[],_=>rfl
 | v::news,n::ns,h=>by
  have h1:DatRep Pc w v (.v (.int .u8 n)):=h.1
  have h2:v = .int .u8 n:=by cases h1;rfl
  rw [h2,qxb (ns:=ns) h.2];rfl
 | [],_::_,h=>h.elim
 | _::_,[],h=>h.elim
theorem qps {Pc:Nat→Nat→Prop} {w:World} : ∀ (l:Yy),q0b (DatRep Pc w) (l.map fun b=>Value.int .u8 b.toNat) ((l.map fun b=>[Dat.v (.int .u8 b.toNat)]).flatten)
 | []=>trivial
 | b::l=>⟨.v _,qps l⟩
theorem j8e {o:Oper} {src d:TypeId} {x:Operand} {res:Res} (ho:o.op = .convert src d x) (hdn : ∀ k,o.dst=some k→k<F.n) (h:q3n P o.dst src d (opnd σ x) σ.row=some res):q1u P F o σ res:=by
 unfold q3n at h
 split at h
 ·rename_i e hs hd
  split at h
  case h_2=>cases h
  rename_i ns he hns
  simp only [Option.some.injEq] at h;subst h
  obtain ⟨ys,hys,hi⟩:=Option.bind_eq_some_iff.1 hns
  refine q1u.same fun ev a w hR hc=>⟨.string (strOf ns),?_,q04 _⟩
  obtain ⟨h1,news,h2,h3,h4⟩:=jer hR hys
  have h5:=j5q hi
  have h6:=q6b ys h1
  rw [Nat.mul_one,h5,List.length_map] at h6
  rw [h5] at h2
  have h7:=qxb h2
  have hrun:(convert src d (a.eval x)).run P w = .ok (.string (strOf ns)) w:=by
   rcases h4 with ⟨ad,c,hx,hcells⟩|⟨c,hx,h0⟩
   ·rw [hx,run_convert_bytes_string w src d e (some ad) ys.length c hs he hd]
    have hl:=run_loadCells_list (P:=P) (w:=w) ad news hcells
    rw [h7,List.length_map,h6] at hl
    exact run_bytesToString w ad ys.length c ns hl
   ·rw [hx,run_convert_bytes_string w src d e none ys.length c hs he hd]
    rw [h0] at h6
    have hnil:ns = []:=List.eq_nil_of_length_eq_zero h6
    subst hnil
    rfl
  simp [execOp,ho,Sem.run_bind,hrun,Result.andThen]
 ·rename_i e hs hd
  split at h
  case h_2=>cases h
  rename_i s i he hx hdst
  split at h
  case h_2=>cases h
  rename_i hrow
  split at h
  case isFalse=>cases h
  rename_i hlt
  simp only [Option.some.injEq] at h;subst h
  intro ev a w hR hc
  have hc':s.size≤maxLen:=hc
  have h1:=hR.opnd x
  rw [hx] at h1
  have hrun:=Lib.run_convert_string_bytes (P:=P) w src d e s hs hd he
  have hge:=grownCap_ge w s.size 0 e
  have hle:=grownCap_le_maxLen w s.size 0 e hc'
  have hsz:(Lib.bytesCells w e s).size=grownCap w s.size 0 e:=by
   unfold Lib.bytesCells
   have:s.data.size=s.size:=rfl
   simp;omega
  have hE:tyOf (e+1099511627776)=e:=by unfold tyOf;rw [Nat.add_mod_right,Nat.mod_eq_of_lt hlt]
  have hF : ∀ n,jmi (e+1099511627776) n=(n,n+1):=fun n=>by unfold jmi;rw [if_neg (by omega)]
  have hbs:s.data.toList.length=s.size:=Array.length_toList
  have hown:q6v (Lib.bytesWorld w e s) F.w0.heap.size (e+1099511627776) 1 (.slice (some ⟨w.heap.size,0,none⟩) s.size (grownCap w s.size 0 e)) s.size (s.data.toList.map fun b=>Value.int .u8 b.toNat):=by
   refine ⟨by rw [List.length_map,hbs,Nat.mul_one],.inr ⟨w.heap.size,_,Lib.bytesCells w e s,rfl,hR.hp.sizeLe,?_,hge,hle,by rw [hsz,Nat.mul_one],?_⟩⟩
   ·rw [hE,hF];exact Lib.bytesWorld_at_new w e s
   ·unfold Lib.bytesCells
    rw [Nat.mul_one,Array.toList_append,Array.toList_map,List.take_append_of_le_length (by rw [List.length_map,hbs];exact Nat.le_refl _),List.take_of_length_le (by rw [List.length_map,hbs];exact Nat.le_refl _)]
  have hgr:w.grownBy (Lib.bytesWorld w e s) none:=by
   refine ⟨rfl,rfl,rfl,by rw [Lib.bytesWorld_size];omega,fun k hk _=>Lib.bytesWorld_at_old w e s k hk⟩
  have hln:(s.data.toList.map fun b=>[Dat.v (.int .u8 b.toNat)]).length=s.size:=by rw [List.length_map,hbs]
  obtain ⟨hf,hh⟩:=hR.hp.rowNext (w':=Lib.bytesWorld w e s) i ⟨0,e+1099511627776,1,true,s.data.toList.map fun b=>[.v (.int .u8 b.toNat)]⟩ (.slice none 0 0) (.slice (some ⟨w.heap.size,0,none⟩) s.size (grownCap w s.size 0 e)) (s.data.toList.map fun b=>Value.int .u8 b.toNat) (Or.inr ⟨hrow,rfl⟩)
   (fun y hy=>by obtain ⟨b,_,rfl⟩:=List.mem_map.1 hy;rfl) (by rw [hln];exact hown) hgr (fun r hr=>by rw [hrow] at hr;cases hr) (fun b hb=>Or.inr (Nat.le_of_eq (Option.some.inj hb)))
   (qps _) (fun u hu=>by obtain ⟨b,_,rfl⟩:=List.mem_map.1 hu;rfl) (fun v0 h0=>absurd h0 (F.r0n (hdn i hdst) v0))
  refine ⟨_,_,_,.inl ?_,hf,hh,⟨⟨_,q0n _ _ _,Nat.le_refl _⟩,(q0t _ _ _ _).symm,_,_,_,rfl⟩⟩
  simp [execOp,ho,q07 h1,Sem.run_bind,hrun,Result.andThen]
 ·cases h
def jda (x:D):Option Res:=match x with
 | .one (.c (.box β o))=>some { cond:=True,val:=.one (.c (.box β o)) }
 | .one (.c (.rp cs))=>some { cond:=True,val:=.one (.c (.rp cs)) }
 | .one (.c (.wp t g k o))=>some { cond:=True,val:=.one (.c (.wp t g k o)) }
 | _=>none
theorem jr4 {o:Oper} {x:Operand} {res:Res} (ho:o.op = .nilCheck x) (h:jda (opnd σ x)=some res):q1u P F o σ res:=by
 unfold jda at h
 split at h
 ·rename_i β q hx
  simp only [Option.some.injEq] at h;subst h
  refine q1u.same fun e a w hR _=>?_
  have h1:=hR.opnd x
  rw [hx] at h1
  have h1':=h1
  obtain ⟨h2,h3⟩:(σ.box β).isSome=true∧a.eval x = .pointer (some ⟨e.m β,q,none⟩):=h1
  exact ⟨a.eval x,by simp [execOp,ho,h3],h1'⟩
 ·rename_i cs hx
  simp only [Option.some.injEq] at h;subst h
  refine q1u.same fun e a w hR _=>?_
  have h1:=hR.opnd x
  rw [hx] at h1
  have h1':=h1
  obtain ⟨b,q,h3,_⟩ : ∃ b o',a.eval x = .pointer (some ⟨b,o',none⟩)∧∃ us:List Value,q0b (DatRep e.Pc w) us cs∧∀ (j:Nat) (h:j<us.length),e.Pc b (o'+j)∧w.cell? ⟨b,o'+j,none⟩=some us[j]∧(us[j]).oneCell'=true:=h1
  exact ⟨a.eval x,by simp [execOp,ho,h3],h1'⟩
 ·rename_i t g k q hx
  simp only [Option.some.injEq] at h;subst h
  refine q1u.same fun e a w hR _=>?_
  have h1:=hR.opnd x
  rw [hx] at h1
  have h1':=h1
  obtain ⟨r,b,_,_,_,h3⟩ : ∃ r b,σ.row t=some r∧g≤r.gen∧(e.rv t g).ownBlock=some b∧a.eval x = .pointer (some ⟨b,k*r.sz+q,none⟩):=h1
  exact ⟨a.eval x,by simp [execOp,ho,h3],h1'⟩
 ·cases h
def q33 (P:Program) (t:TypeId) (x:D) (lo hi:Option D) (rw:Nat→Option Row):Option Res:=match P.underlying t,x with
 | some (.slice el),.one (.c (.row tt g))=>match rw tt with
  | some r=>match bnd 0 lo,bnd r.xs.length hi with
   | some l,some h=>if r.gen=g∧tsz P el=some r.sz then some { cond:=0≤l∧l≤h∧h≤r.xs.length,val:=.one (.c (.d (.lst r.sz ((r.xs.drop l.toNat).take (h.toNat - l.toNat))))),row:=some (tt,{ r with wr:=false }) } else none
   | _,_=>none
  | none=>none
 | _,_=>none
theorem j2p {o:Oper} {t:TypeId} {x:Operand} {lo hi:Option Operand} {res:Res} (ho:o.op = .slice t x lo hi none) (h:q33 P t (opnd σ x) (lo.map (opnd σ)) (hi.map (opnd σ)) σ.row=some res):q1u P F o σ res:=by
 unfold q33 at h
 split at h
 case h_2=>cases h
 rename_i el tt g hu hx
 split at h
 case h_2=>cases h
 rename_i r hr
 split at h
 case h_2=>cases h
 rename_i l hh hl hhh
 split at h
 case isFalse=>cases h
 rename_i hg
 obtain ⟨rfl,hsz⟩:=hg
 simp only [Option.some.injEq] at h
 subst h
 intro e a w hR hc
 obtain ⟨c1,c2,c3⟩:=hc
 have h1:=hR.opnd x
 rw [hx] at h1
 obtain ⟨_,h5,_⟩:(∃ r',σ.row tt=some r'∧r.gen≤r'.gen)∧a.eval x=e.rv tt r.gen∧_:=h1
 obtain ⟨e',hf,hh'⟩:=hR.hp.freeze hr
 have hrow:({ σ with row:=upd σ.row tt (some { r with wr:=false }) } : St).row tt=some { r with wr:=false }:=q0n _ _ _
 have hdat:=hh'.rowDat hrow rfl
 have hrv:=(hf.row tt r r.gen hr (Nat.le_refl _)).2
 have hdat':DatRep e'.Pc w (e.rv tt r.gen) (.lst r.sz r.xs):=by rw [← hrv];exact hdat
 rw [← h5] at hdat'
 generalize hv:a.eval x=v at hdat'
 have hdat2:=hdat'
 cases hdat' with
 | lst aa nn cap _ _ b off c hn hcap hmax hs ha hcc hrr =>
  have hb:=qgo (P:=P) (isSlice:=true) (len:=nn) (cap:=cap) hR hl (by rw [hn];exact hhh) c1 c2 (by omega) hcap
  refine ⟨.slice (if cap=l.toNat then aa else aa.map (·.add (l.toNat*r.sz))) (hh.toNat - l.toNat) (cap - l.toNat),w,e',.inl ?_,hf,hh',?_⟩
  ·simp [execOp,ho,hv,Sem.run_bind,Instr.sliceAt,Instr.slice,run_underlying hu w,hb,q0q hsz w]
  ·exact qzv hdat2 (by omega)
def qi1:Operand→Operand→Bool
 | .tmp i,.tmp j=>Nat.beq i j
 | .const (.int _ n),.const (.int _ m)=>decide (n=m)
 | _,_=>false
def qfn (P:Program) (dst:Option Nat) (t:TypeId) (x:D) (rw:Nat→Option Row):Option Res:=match P.underlying t,dst,x with
 | some (.slice el),some i,.one (.c (.d (.v (.int _ n))))=>match rw i,(P.info? el).map (fun i=>(i.zero,i.size,i.bytes)) with
  | none,some (some (Value.int k q),1,b)=>if 0≤n∧n≤16777216∧b*n.toNat≤281474976710656∧el<1099511627776 then
    some { cond:=True,val:=.one (.c (.row i 0)),row:=some (i,⟨0,el,1,true,List.replicate n.toNat [.v (.int k q)]⟩) } else none
  | _,_=>none
 | _,_,_=>none
theorem jbb {x y:Operand} (h:qi1 x y=true) {k:IntKind} {n:Int} (hx:a.eval x = .int k n) : ∃ k',a.eval y = .int k' n:=by
 unfold qi1 at h
 split at h
 ·rename_i i j
  have:i=j:=Nat.eq_of_beq_eq_true h
  subst this
  exact ⟨k,hx⟩
 ·rename_i k1 n1 k2 n2
  have e:=of_decide_eq_true h
  subst e
  have hx':Value.int k1 n1 = .int k n:=hx
  cases hx'
  exact ⟨k2,rfl⟩
 ·cases h
theorem jfk (z:Value) (n:Nat):(madeCells #[z] n).toList=List.replicate n z:=by
 apply List.ext_getElem
 ·simp [madeCells]
 ·intro i h1 h2
  simp [madeCells,Nat.mod_one]
theorem job {o:Oper} {t:TypeId} {x y:Operand} {res:Res} (ho:o.op = .makeSlice t x y) (hxy:qi1 x y=true) (hdst : ∀ k,o.dst=some k→k<F.n) (h:qfn P o.dst t (opnd σ x) σ.row=some res):q1u P F o σ res:=by
 unfold qfn at h
 split at h
 case h_2=>cases h
 rename_i el i kx n hu hd hx
 split at h
 case h_2=>cases h
 rename_i k q b hrow hinf
 split at h
 case isFalse=>cases h
 rename_i hc
 obtain ⟨h0,h1,h2,h3⟩:=hc
 simp only [Option.some.injEq] at h;subst h
 intro e a w hR _
 have hv:=hR.opnd x
 rw [hx] at hv
 have hv':a.eval x = .int kx n:=q07 hv
 obtain ⟨ky,hw'⟩:=jbb hxy hv'
 obtain ⟨m,rfl⟩ : ∃ m:Nat,n=(m:Int):=⟨n.toNat,by omega⟩
 rw [Int.toNat_natCast] at h2
 have hrun:=run_make_row' (P:=P) t el (.int k q) b hu hinf rfl kx ky m h2 (by omega) w
 have hm:=jfk (.int k q) m
 have hown:q6v (w.alloc (.cells (madeCells #[.int k q] m) el)) F.w0.heap.size el 1 (.slice (some ⟨w.heap.size,0,none⟩) m m) m (List.replicate m (.int k q)) :=
  (q2c h3).2 ⟨by simp,.inr ⟨w.heap.size,m,_,rfl,hR.hp.sizeLe,heap_alloc_new w _,Nat.le_refl _,by unfold maxLen;omega,by rw [size_madeCells,Nat.mul_one],by rw [hm,Nat.mul_one,List.take_of_length_le (by simp)]⟩⟩
 have hdd : ∀ m:Nat,q0b (DatRep e.Pc w) (List.replicate m (.int k q)) (List.replicate m [Dat.v (.int k q)]).flatten:=by
  intro m
  have key : ∀ (w':World) (j:Nat),q0b (DatRep e.Pc w') (List.replicate j (Value.int k q)) (List.replicate j [Dat.v (.int k q)]).flatten:=by
   intro w' j
   induction j with
   | zero=>exact trivial
   | succ j ih=>rw [List.replicate_succ,List.replicate_succ,List.flatten_cons];exact ⟨.v _,ih⟩
  exact key _ m
 obtain ⟨hf,hh⟩:=hR.hp.rowNext (w':=w.alloc (.cells (madeCells #[.int k q] m) el)) i ⟨0,el,1,true,List.replicate m [.v (.int k q)]⟩ (.slice none 0 0) (.slice (some ⟨w.heap.size,0,none⟩) m m) (List.replicate m (.int k q)) (Or.inr ⟨hrow,rfl⟩)
  (fun y hy=>by rw [List.eq_of_mem_replicate hy];rfl) (by rw [List.length_replicate];exact hown) (World.grownBy_alloc w _ _) (fun r hr=>by rw [hrow] at hr;cases hr) (fun b hb=>Or.inr (Nat.le_of_eq (Option.some.inj hb)))
  (hdd m) (fun u hu=>by rw [List.eq_of_mem_replicate hu];rfl) (fun v0 h0=>absurd h0 (F.r0n (hdst i hd) v0))
 refine ⟨.slice (some ⟨w.heap.size,0,none⟩) m m,_,_,.inl ?_,hf,hh,⟨⟨_,q0n _ _ _,Nat.le_refl _⟩,(q0t _ _ _ _).symm,_,_,_,rfl⟩⟩
 simp [execOp,ho,hv',hw',hrun]
def jib (f:Int→Int→Int) (x y:D):Option Res:=match x,y with
 | .one (.c (.d (.v (.int k n)))),.one (.c (.d (.v (.int _ m))))=>some { cond:=True,val:=q67 (.int k (f n m)) }
 | _,_=>none
theorem jqb {o:Oper} {x y:Operand} {t t':TypeId} {res:Res} (ho:o.op = .call { callee:=.builtin .max,args:=#[x,y],argTypes:=#[t,t'] }) (h:jib max (opnd σ x) (opnd σ y)=some res):q1u P F o σ res:=by
 unfold jib at h
 split at h
 case h_2=>cases h
 rename_i k n k' m hx hy
 simp only [Option.some.injEq] at h;subst h
 refine q1u.same fun e a w hR hc=>⟨.int k (max n m),?_,q04 _⟩
 have h1:=hR.opnd x
 have h2:=hR.opnd y
 rw [hx] at h1
 rw [hy] at h2
 simp [execOp,ho,q07 h1,q07 h2,Sem.run_bind,resolve,invoke,builtin,Lib.run_max_ints]
theorem jqe {o:Oper} {x y:Operand} {t t':TypeId} {res:Res} (ho:o.op = .call { callee:=.builtin .min,args:=#[x,y],argTypes:=#[t,t'] }) (h:jib min (opnd σ x) (opnd σ y)=some res):q1u P F o σ res:=by
 unfold jib at h
 split at h
 case h_2=>cases h
 rename_i k n k' m hx hy
 simp only [Option.some.injEq] at h;subst h
 refine q1u.same fun e a w hR hc=>⟨.int k (min n m),?_,q04 _⟩
 have h1:=hR.opnd x
 have h2:=hR.opnd y
 rw [hx] at h1
 rw [hy] at h2
 simp [execOp,ho,q07 h1,q07 h2,Sem.run_bind,resolve,invoke,builtin,Lib.run_min_ints]
end Go.Proofs.YtlkpgcifpnppeaaGreatDoor.AM
namespace Go.Proofs.YtlkpgcifpnppeaaGreatDoor.AM
open Go.RowKit
variable {F:Fr} {σ:St} {e:Env} {a:Act} {w:World} {P:Program}
inductive KL where
 | s
 | i (k:IntKind)
def okK:KL→Value→Bool
 | .s,.string _=>true
 | .i k,.int k' _=>decide (k=k')
 | _,_=>false
def q6w:List KL→List Value→Bool
 | [],[]=>true
 | l::ls,u::us=>okK l u&&q6w ls us
 | _,_=>false
def eqK:Value→Value→Bool
 | .string a,.string b=>decide (a=b)
 | .int _ a,.int _ b=>decide (a=b)
 | _,_=>false
def qiy:List Value→List Value→Bool
 | [],[]=>true
 | u::us,v::vs=>eqK u v&&qiy us vs
 | _,_=>false
theorem jq3 {l:KL} {u v:Value} (hu:okK l u=true) (hv:okK l v=true):eqK u v=true↔u=v:=by
 cases l<;>cases u<;>simp only [okK,Bool.false_eq_true] at hu<;>cases v<;>simp only [okK,Bool.false_eq_true,decide_eq_true_eq] at hu hv
 ·simp [eqK]
 ·subst hu;subst hv;simp [eqK]
theorem j1d : ∀ {ls:List KL} {us vs:List Value},q6w ls us=true→q6w ls vs=true→(qiy us vs=true↔us=vs)
 | [],[],[],_,_=>by simp [qiy]
 | l::ls,u::us,v::vs,hu,hv=>by
  simp only [q6w,Bool.and_eq_true] at hu hv
  simp only [qiy,Bool.and_eq_true,jq3 hu.1 hv.1,j1d hu.2 hv.2,List.cons.injEq]
 | [],_::_,_,h,_=>by cases h
 | [],[],_::_,_,h=>by cases h
 | _::_,[],_,h,_=>by cases h
 | _::_,_::_,[],_,h=>by cases h
theorem q76 : ∀ {ls:List KL} {us:List Value},q6w ls us=true→us.length=ls.length
 | [],[],_=>rfl
 | l::ls,u::us,h=>by simp only [q6w,Bool.and_eq_true] at h;rw [List.length_cons,List.length_cons,q76 h.2]
 | [],_::_,h=>by cases h
 | _::_,[],h=>by cases h
theorem q9k : ∀ {ls ms:List KL} {us:List Value},q6w (ls++ms) us=true→q6w ls (us.take ls.length)=true∧q6w ms (us.drop ls.length)=true
 | [],ms,us,h=>⟨by simp [q6w],by simpa using h⟩
 | l::ls,ms,u::us,h=>by
  simp only [List.cons_append,q6w,Bool.and_eq_true] at h
  obtain ⟨h1,h2⟩:=q9k h.2
  exact ⟨by simp [q6w,h.1,h1],by simpa using h2⟩
 | _::_,_,[],h=>by cases h
theorem qq9 : ∀ (n:Nat) {us vs:List Value},us.length=vs.length→qiy us vs=(qiy (us.take n) (vs.take n)&&qiy (us.drop n) (vs.drop n))
 | 0,us,vs,_=>by simp [qiy]
 | n+1,[],[],_=>by simp [qiy]
 | n+1,u::us,v::vs,h=>by
  simp only [List.take_succ_cons,List.drop_succ_cons,qiy,qq9 n (us:=us) (vs:=vs) (by simpa using h),Bool.and_assoc]
 | _+1,[],_::_,h=>by simp at h
 | _+1,_::_,[],h=>by simp at h
theorem joj {l:KL} {u:Value} (h:okK l u=true):u.oneCell'=true:=by
 cases l<;>cases u<;>first|rfl|simp [okK] at h
theorem j59 : ∀ {ls:List KL} {us:List Value},q6w ls us=true→∀ u∈us,u.oneCell'=true
 | [],[],_,u,hu=>by cases hu
 | l::ls,x::us,h,u,hu=>by
  simp only [q6w,Bool.and_eq_true] at h
  rcases List.mem_cons.1 hu with rfl|hu
  ·exact joj h.1
  ·exact j59 h.2 u hu
 | [],_::_,h,_,_=>by cases h
 | _::_,[],h,_,_=>by cases h
def q5v (P:Program) (rec:TypeId→Option (List KL)):Nat→List Field→Option (List KL)
 | _,[]=>some []
 | o,f::fs=>if f.name = "_" ∨ f.offset≠o then none else match qn8 P f.type with
  | some false=>match P.underlying f.type,q5v P rec (o+1) fs with
   | some .string,some l=>some (.s::l)
   | some (.int k),some l=>some (.i k::l)
   | _,_=>none
  | some true=>match rec f.type,tsz P f.type with
   | some l1,some m=>if l1.length=m then (q5v P rec (o+m) fs).map (l1 ++ ·) else none
   | _,_=>none
  | none=>none
def leaves (P:Program):Nat→TypeId→Option (List KL)
 | 0,_=>none
 | n+1,t=>match P.underlying t with
  | some (.struct fs)=>if P.stoodInHeld t=false then q5v P (leaves P n) 0 fs.toList else none
  | _=>none
theorem ql0 {α:Type} {l:List α} {n:Nat} {x:α} {xs:List α} (h:l.drop n=x::xs):l[n]? = some x∧l.drop (n+1)=xs:=by
 constructor
 ·have:=congrArg (·[0]?) h;simpa using this
 ·have:=congrArg (List.drop 1) h;simpa [List.drop_drop] using this
theorem qg2 {rec:TypeId→Option (List KL)} {o:Nat} {f:Field} {fs:List Field} {ls:List KL} (h:q5v P rec o (f::fs)=some ls):f.name ≠ "_"∧f.offset=o ∧
  (
   (qn8 P f.type=some false∧∃ l l',ls=l::l'∧q5v P rec (o+1) fs=some l'∧((P.underlying f.type=some .string∧l = .s) ∨ ∃ k,P.underlying f.type=some (.int k)∧l = .i k)) ∨
   (qn8 P f.type=some true∧∃ l1 l2,rec f.type=some l1∧tsz P f.type=some l1.length∧q5v P rec (o+l1.length) fs=some l2∧ls=l1++l2)):=by
 unfold q5v at h
 split at h
 ·cases h
 rename_i hn
 rw [not_or] at hn
 refine ⟨hn.1,Decidable.of_not_not hn.2,?_⟩
 split at h
 ·rename_i ha
  split at h
  ·rename_i l hu hl
   simp only [Option.some.injEq] at h
   exact Or.inl ⟨ha,_,l,h.symm,hl,Or.inl ⟨hu,rfl⟩⟩
  ·rename_i k l hu hl
   simp only [Option.some.injEq] at h
   exact Or.inl ⟨ha,_,l,h.symm,hl,Or.inr ⟨k,hu,rfl⟩⟩
  ·cases h
 ·rename_i ha
  split at h
  case h_2=>cases h
  rename_i l1 m h1 h2
  split at h
  case isFalse=>cases h
  rename_i hm
  subst hm
  obtain ⟨l2,h3,rfl⟩:=Option.map_eq_some_iff.1 h
  exact Or.inr ⟨ha,l1,l2,h1,h2,h3,rfl⟩
 ·cases h
theorem j5o {t:TypeId} {l:KL} {x y:Value} (hl:(P.underlying t=some .string∧l = .s) ∨ ∃ k,P.underlying t=some (.int k)∧l = .i k) (hx:okK l x=true) (hy:okK l y=true):eqV P t x y=some (eqK x y):=by
 rcases hl with ⟨hu,rfl⟩|⟨k,hu,rfl⟩
 ·cases x<;>simp only [okK,Bool.false_eq_true] at hx
  cases y<;>simp only [okK,Bool.false_eq_true] at hy
  simp only [eqV,hu,eqK]
 ·cases x<;>simp only [okK,Bool.false_eq_true,decide_eq_true_eq] at hx
  cases y<;>simp only [okK,Bool.false_eq_true,decide_eq_true_eq] at hy
  subst hx;subst hy
  simp only [eqV,hu,eqK,if_true]
theorem qd2 {rec:TypeId→Option (List KL)} {er:TypeId→List Value→List Value→Option Bool} (hrec : ∀ t l xs ys,rec t=some l→q6w l xs=true→q6w l ys=true→er t xs ys=some (qiy xs ys)) :
  ∀ {fs:List Field} {o:Nat} {ls:List KL} {us vs:List Value},q5v P rec o fs=some ls→q6w ls (us.drop o)=true→q6w ls (vs.drop o)=true→o≤us.length→o≤vs.length→jgk P er fs us vs=some (qiy (us.drop o) (vs.drop o))
 | [],o,ls,us,vs,h,hu,hv,_,_=>by
  simp only [q5v,Option.some.injEq] at h
  subst h
  have h1:us.drop o = []:=List.eq_nil_of_length_eq_zero (q76 hu)
  have h2:vs.drop o = []:=List.eq_nil_of_length_eq_zero (q76 hv)
  rw [h1,h2];rfl
 | f::fs,o,ls,us,vs,h,hu,hv,lu,lv=>by
  obtain ⟨hn,ho,h⟩:=qg2 h
  rcases h with ⟨ha,l,l',rfl,hl',hl⟩|⟨ha,l1,l2,h1,hs,h2,rfl⟩
  ·cases hus:us.drop o with
   | nil=>rw [hus] at hu;cases hu
   | cons x xs =>
    cases hvs:vs.drop o with
    | nil=>rw [hvs] at hv;cases hv
    | cons y ys =>
     rw [hus] at hu;rw [hvs] at hv
     simp only [q6w,Bool.and_eq_true] at hu hv
     obtain ⟨a1,a2⟩:=ql0 hus
     obtain ⟨b1,b2⟩:=ql0 hvs
     have la:o+1≤us.length:=by have:=(List.getElem?_eq_some_iff.1 a1).1;omega
     have lb:o+1≤vs.length:=by have:=(List.getElem?_eq_some_iff.1 b1).1;omega
     have ih:=qd2 hrec (fs:=fs) (o:=o+1) (us:=us) (vs:=vs) hl' (by rw [a2];exact hu.2) (by rw [b2];exact hv.2) la lb
     unfold jgk
     rw [if_neg hn,ha,ho,a1,b1]
     simp only [j5o hl hu.1 hv.1,ih,a2,b2]
     rfl
  ·obtain ⟨u1,u2⟩:=q9k hu
   obtain ⟨v1,v2⟩:=q9k hv
   have e1:=q76 hu
   have e2:=q76 hv
   rw [List.length_append,List.length_drop] at e1 e2
   have hr:=hrec f.type l1 _ _ h1 u1 v1
   have ih:=qd2 hrec (fs:=fs) (o:=o+l1.length) (us:=us) (vs:=vs) h2 (by rw [← List.drop_drop];exact u2) (by rw [← List.drop_drop];exact v2) (by omega) (by omega)
   unfold jgk
   rw [if_neg hn,ha,ho,hs]
   simp only [hr,ih,← List.drop_drop]
   rw [if_pos ⟨by omega,by omega⟩,qq9 l1.length (us:=us.drop o) (vs:=vs.drop o) (by simp only [List.length_drop];omega)]
theorem qqc : ∀ (n:Nat) {t:TypeId} {ls:List KL} {us vs:List Value},leaves P n t=some ls→q6w ls us=true→q6w ls vs=true→eqS P n t us vs=some (qiy us vs)
 | 0,_,_,_,_,h,_,_=>by cases h
 | n+1,t,ls,us,vs,h,hu,hv=>by
  unfold leaves at h
  split at h
  case h_2=>cases h
  rename_i fs hun
  split at h
  case isFalse=>cases h
  rename_i hs
  unfold eqS
  rw [hun]
  simp only [hs,if_true]
  have:=qd2 (P:=P) (rec:=leaves P n) (er:=eqS P n) (fun t l xs ys h1 h2 h3=>qqc n h1 h2 h3) (fs:=fs.toList) (o:=0) (us:=us) (vs:=vs) h (by simpa using hu) (by simpa using hv) (Nat.zero_le _) (Nat.zero_le _)
  simpa using this
theorem qlb {em:Bool} : ∀ (n:Nat) {t:TypeId} {ls:List KL} {us:Array Value},leaves P n t=some ls→q6w ls us.toList=true→∀ d,n<d→(Instr.checkKey em d t (.agg us)).run P w = .ok () w
 | 0,_,_,_,h,_,_,_=>by cases h
 | n+1,t,ls,us,h,hu,d,hd=>by
  obtain ⟨d,rfl⟩ : ∃ d',d=d'+1:=⟨d - 1,by omega⟩
  obtain ⟨d',hd'⟩ : ∃ d',d=d'+1:=⟨d - 1,by omega⟩
  unfold leaves at h
  split at h
  case h_2=>cases h
  rename_i fs hun
  split at h
  case isFalse=>cases h
  unfold Instr.checkKey
  simp only [Sem.run_bind,run_underlying hun w,Result.andThen_ok]
  rw [← Array.forIn_toList]
  generalize fs.toList=L at h ⊢
  replace hu:q6w ls (us.toList.drop 0)=true:=by simpa using hu
  have lu:0≤us.toList.length:=Nat.zero_le _
  generalize (0:Nat)=o at h hu lu
  clear hun
  induction L generalizing o ls with
  | nil=>simp
  | cons f fs ih =>
   obtain ⟨hn,ho,h⟩:=qg2 h
   rcases h with ⟨ha,l,l',rfl,hl',hl⟩|⟨ha,l1,l2,h1,hs,h2,rfl⟩
   ·cases hus:us.toList.drop o with
    | nil=>rw [hus] at hu;cases hu
    | cons x xs =>
     rw [hus] at hu
     simp only [q6w,Bool.and_eq_true] at hu
     obtain ⟨a1,a2⟩:=ql0 hus
     have la:o+1≤us.toList.length:=by have:=(List.getElem?_eq_some_iff.1 a1).1;omega
     have:=ih (ls:=l') (o:=o+1) hl' (by rw [a2];exact hu.2) la
     rw [Array.getElem?_toList] at a1
     have p1:(part f.type us f.offset).run P w = .ok x w:=by simp [part,Sem.run_bind,q1e ha w,ho,a1]
     have p2:(Instr.checkKey em d f.type x).run P w = .ok () w:=by
      rw [hd']
      rcases hl with ⟨hu1,rfl⟩|⟨k,hu1,rfl⟩<;>cases x<;>simp only [okK,Bool.false_eq_true] at hu<;>first|(exact absurd hu.1 (by decide))|simp [Instr.checkKey,Sem.run_bind,run_underlying hu1 w]
     simp [Sem.run_bind,hn,p1,p2]
     simpa [Sem.run_bind] using this
   ·obtain ⟨u1,u2⟩:=q9k hu
    have e1:=q76 hu
    rw [List.length_append,List.length_drop] at e1
    have:=ih (ls:=l2) (o:=o+l1.length) h2 (by rw [← List.drop_drop];exact u2) (by omega)
    have q1:(us.extract f.offset (f.offset+l1.length)).toList=(us.toList.drop o).take l1.length:=by rw [Array.toList_extract,List.extract_eq_take_drop,ho];congr 1;omega
    have p1:(part f.type us f.offset).run P w = .ok (.agg (us.extract f.offset (f.offset+l1.length))) w:=by
     simp [part,Sem.run_bind,q1e ha w,q0q hs w]
    have p2:(Instr.checkKey em d f.type (.agg (us.extract f.offset (f.offset+l1.length)))).run P w = .ok () w:=qlb n h1 (by rw [q1];exact u1) d (by omega)
    simp [Sem.run_bind,hn,p1,p2]
    simpa [Sem.run_bind] using this
def j8a (P:Program) (k:TypeId):Option (Bool×List KL):=match P.underlying k with
 | some .string=>some (false,[.s])
 | some (.int q)=>some (false,[.i q])
 | some (.struct _)=>(leaves P 9 k).map fun l=>(true,l)
 | _=>none
def j8k (P:Program) (t:TypeId):Option (Nat×TypeId×List KL):=match P.underlying t with
 | some (.map k e)=>match j8a P k,tsz P e,qn8 P e with
  | some (ka,ls),some vw,some va=>if vw<1024∧ls.length<1024∧0<ls.length then some (2199023255552+4096*ls.length+(bif ka then 2048 else 0)+2*vw+(bif va then 1 else 0),e,ls) else none
  | _,_,_=>none
 | _=>none
theorem qau {t:TypeId} {T:Nat} {el:TypeId} {ls:List KL} (h:j8k P t=some (T,el,ls)) : ∃ k ka vw va,P.underlying t=some (.map k el)∧j8a P k=some (ka,ls)∧tsz P el=some vw∧qn8 P el=some va ∧
  2199023255552≤T∧mKw T=ls.length∧mKa T=ka∧mVw T=vw∧mVa T=va∧0<ls.length:=by
 unfold j8k at h
 split at h
 case h_2=>cases h
 rename_i k e' ht
 split at h
 case h_2=>cases h
 rename_i ka ls' vw va hk hs hg
 split at h
 case isFalse=>cases h
 rename_i hv
 obtain ⟨hv,hl,hl0⟩:=hv
 simp only [Option.some.injEq,Prod.mk.injEq] at h
 obtain ⟨rfl,rfl,rfl⟩:=h
 refine ⟨k,ka,vw,va,ht,hk,hs,hg,?_⟩
 generalize ls'.length=n at hl hl0 ⊢
 cases ka<;>cases va<;>simp only [cond_false,cond_true,mKw,mKa,mVw,mVa]<;>refine ⟨by omega,by omega,?_,by omega,?_,hl0⟩
 ·have:(2199023255552+4096*n+0+2*vw+0) / 2048 % 2=0:=by omega
  rw [this];rfl
 ·have:(2199023255552+4096*n+0+2*vw+0) % 2=0:=by omega
  rw [this];rfl
 ·have:(2199023255552+4096*n+0+2*vw+1) / 2048 % 2=0:=by omega
  rw [this];rfl
 ·have:(2199023255552+4096*n+0+2*vw+1) % 2=1:=by omega
  rw [this];rfl
 ·have:(2199023255552+4096*n+2048+2*vw+0) / 2048 % 2=1:=by omega
  rw [this];rfl
 ·have:(2199023255552+4096*n+2048+2*vw+0) % 2=0:=by omega
  rw [this];rfl
 ·have:(2199023255552+4096*n+2048+2*vw+1) / 2048 % 2=1:=by omega
  rw [this];rfl
 ·have:(2199023255552+4096*n+2048+2*vw+1) % 2=1:=by omega
  rw [this];rfl
structure Finder (P:Program) (w:World) (k:TypeId) (ka:Bool) (ls:List KL) (us:List Value) (f:List MapEntry→Nat→Sem (Option (Nat×Value))):Prop where
 nil : ∀ i,(f [] i).run P w = .ok none w
 hit : ∀ vs v b es i,q6w ls vs=true→qiy us vs=true→(f ({ key:=valOf ka vs,val:=v,born:=b } :: es) i).run P w = .ok (some (i,v)) w
 miss : ∀ vs v b es i,q6w ls vs=true→qiy us vs=false→(f ({ key:=valOf ka vs,val:=v,born:=b } :: es) i).run P w=(f es (i+1)).run P w
theorem jqv {l:KL} {d:TypeDesc} {u v:Value} (hd:(d = .string∧l = .s) ∨ ∃ k,d = .int k∧l = .i k) (hu:okK l u=true) (hv:okK l v=true):Instr.sameNow d u v=some (eqK u v):=by
 rcases hd with ⟨rfl,rfl⟩|⟨k,rfl,rfl⟩
 ·cases u<;>simp only [okK,Bool.false_eq_true] at hu
  cases v<;>simp only [okK,Bool.false_eq_true] at hv
  rename_i a b
  show some (a==b)=some (decide (a=b))
  congr 1
  have e1:(a==b)=(a.data==b.data):=rfl
  rw [e1,Bool.eq_iff_iff]
  simp only [beq_iff_eq,decide_eq_true_eq]
  exact ⟨fun h=>by cases a;cases b;simp only [ByteArray.mk.injEq];exact h,fun h=>by rw [h]⟩
 ·cases u<;>simp only [okK,Bool.false_eq_true,decide_eq_true_eq] at hu
  cases v<;>simp only [okK,Bool.false_eq_true,decide_eq_true_eq] at hv
  subst hu;subst hv
  simp only [Instr.sameNow,if_true,eqK]
  congr 1
theorem jdw (us:List Value):valOf true us = .agg us.toArray:=rfl
theorem qba {k:TypeId} {ka:Bool} {ls:List KL} {us:List Value} (hk:j8a P k=some (ka,ls)) (hu:q6w ls us=true) (w:World) :
  (∀ em,(Instr.checkKey em 10000 k (valOf ka us)).run P w = .ok () w)∧(Instr.keyThatStays (valOf ka us) (valOf ka us)).run P w = .ok (valOf ka us) w ∧
  ∃ f,Finder P w k ka ls us f∧∀ es,(Instr.findKey k (valOf ka us) es).run P w=(f es 0).run P w:=by
 have one : ∀ (d:TypeDesc) (l:KL),P.underlying k=some d→((d = .string∧l = .s) ∨ ∃ k,d = .int k∧l = .i k)→ka=false→ls = [l]→(∀ em,(Instr.checkKey em 10000 k (valOf ka us)).run P w = .ok () w)∧(Instr.keyThatStays (valOf ka us) (valOf ka us)).run P w = .ok (valOf ka us) w ∧
  ∃ f,Finder P w k ka ls us f∧∀ es,(Instr.findKey k (valOf ka us) es).run P w=(f es 0).run P w:=by
  rintro d l hun hd rfl rfl
  cases us with
  | nil=>cases hu
  | cons u us =>
   simp only [q6w,Bool.and_eq_true] at hu
   obtain ⟨hu1,hu2⟩:=hu
   cases us with
   | cons _ _=>cases hu2
   | nil =>
    have hik:MapKept.IsKey d u:=by
     rcases hd with ⟨rfl,rfl⟩|⟨k,rfl,rfl⟩<;>cases u<;>simp only [okK,Bool.false_eq_true,decide_eq_true_eq] at hu1
     ·exact trivial
     ·subst hu1;exact rfl
    refine ⟨fun em=>MapKept.run_checkKey hun hik em 9999,MapKept.run_keyThatStays (d:=d) hik,fun es i=>(match Instr.findNow d u es i with|some r=>pure r|none=>Instr.findAsking k u es i),⟨fun i=>rfl,fun vs v b es i hv he=>?_,fun vs v b es i hv he=>?_⟩,fun es=>?_⟩
    ·cases vs with
     | nil=>cases hv
     | cons x xs =>
      simp only [q6w,qiy,Bool.and_eq_true] at hv he
      have:=jqv hd hu1 hv.1
      rw [he.1] at this
      show (match Instr.findNow d u (({ key:=x,val:=v,born:=b } : MapEntry)::es) i with|some r=>(pure r:Sem _)|none=>Instr.findAsking k u (({ key:=x,val:=v,born:=b } : MapEntry)::es) i).run P w=_
      simp only [Instr.findNow,this]
      rfl
    ·cases vs with
     | nil=>cases hv
     | cons x xs =>
      simp only [q6w,qiy,Bool.and_eq_true] at hv he
      cases xs with
      | cons _ _=>cases hv.2
      | nil =>
       have:=jqv hd hu1 hv.1
       simp only [qiy,Bool.and_true] at he
       rw [he] at this
       have heq:(Op.equal k u x).run P w = .ok false w:=by
        have hl:(P.underlying k=some .string∧l = .s) ∨ ∃ q,P.underlying k=some (.int q)∧l = .i q:=by
         rcases hd with ⟨rfl,rfl⟩|⟨q,rfl,rfl⟩
         ·exact Or.inl ⟨hun,rfl⟩
         ·exact Or.inr ⟨q,hun,rfl⟩
        have h3:=j5o hl hu1 hv.1
        rw [he] at h3
        exact qtx h3 9999 w
       show (match Instr.findNow d u (({ key:=x,val:=v,born:=b } : MapEntry)::es) i with|some r=>(pure r:Sem _)|none=>Instr.findAsking k u (({ key:=x,val:=v,born:=b } : MapEntry)::es) i).run P w=(match Instr.findNow d u es (i+1) with|some r=>(pure r:Sem _)|none=>Instr.findAsking k u es (i+1)).run P w
       simp only [Instr.findNow,this]
       cases Instr.findNow d u es (i+1) with
       | some r=>rfl
       | none=>simp [Instr.findAsking,Sem.run_bind,heq]
    ·show (Instr.findKey k u es).run P w=_
     unfold Instr.findKey
     simp only [Sem.run_bind,run_underlying hun w,Result.andThen_ok]
     rfl
 unfold j8a at hk
 split at hk
 ·rename_i hun
  simp only [Option.some.injEq,Prod.mk.injEq] at hk
  exact one _ .s hun (Or.inl ⟨rfl,rfl⟩) hk.1.symm hk.2.symm
 ·rename_i q hun
  simp only [Option.some.injEq,Prod.mk.injEq] at hk
  exact one _ (.i q) hun (Or.inr ⟨q,rfl,rfl⟩) hk.1.symm hk.2.symm
 ·rename_i fs hun
  obtain ⟨l,hl,hk2⟩:=Option.map_eq_some_iff.1 hk
  simp only [Prod.mk.injEq] at hk2
  obtain ⟨rfl,rfl⟩:=hk2
  have heq : ∀ vs:List Value,q6w l vs=true→(Op.equal k (.agg us.toArray) (.agg vs.toArray)).run P w = .ok (qiy us vs) w:=fun vs hv=>by
   unfold Op.equal Op.maxDepth
   exact j0a 9 (us:=us.toArray) (vs:=vs.toArray) (by simpa using qqc 9 hl hu hv) 10000 (by omega)
  refine ⟨fun em=>qlb 9 (us:=us.toArray) hl (by simpa using hu) 10000 (by omega),?_,fun es i=>Instr.findAsking k (.agg us.toArray) es i,⟨fun i=>rfl,fun vs v b es i hv he=>?_,fun vs v b es i hv he=>?_⟩,fun es=>?_⟩
  ·have:Instr.sameBits 10000 (.agg us.toArray) (.agg us.toArray)=true:=by
    show (us.toArray.size==us.toArray.size&&(us.toArray.toList.zip us.toArray.toList).all fun (x,y)=>Instr.sameBits 9999 x y)=true
    simp only [BEq.rfl,Bool.true_and]
    have hz : ∀ {ls:List KL} {us:List Value},q6w ls us=true→(us.zip us).all (fun (x,y)=>Instr.sameBits 9999 x y)=true:=by
     intro ls
     induction ls with
     | nil=>intro us h;cases us with
      | nil=>rfl
      | cons _ _=>cases h
     | cons l ls ih=>intro us h;cases us with
      | nil=>cases h
      | cons u us =>
       simp only [q6w,Bool.and_eq_true] at h
       simp only [List.zip_cons_cons,List.all_cons,ih h.2,Bool.and_true]
       have h1:=h.1
       cases l<;>cases u<;>simp only [okK,Bool.false_eq_true] at h1
       ·exact (MapKept.bytes_beq _ _).2 rfl
       ·simp [Instr.sameBits]
    exact hz hu
   show (Instr.keyThatStays (.agg us.toArray) (.agg us.toArray)).run P w=_
   unfold Instr.keyThatStays
   rw [if_pos this];rfl
  ·show (Instr.findAsking k (.agg us.toArray) ({ key:=.agg vs.toArray,val:=v,born:=b } :: es) i).run P w=_
   have:=heq vs hv
   rw [he] at this
   simp [Instr.findAsking,Sem.run_bind,this]
  ·show (Instr.findAsking k (.agg us.toArray) ({ key:=.agg vs.toArray,val:=v,born:=b } :: es) i).run P w=_
   have:=heq vs hv
   rw [he] at this
   simp [Instr.findAsking,Sem.run_bind,this]
  ·show (Instr.findKey k (.agg us.toArray) es).run P w=_
   unfold Instr.findKey
   simp only [Sem.run_bind,run_underlying hun w,Result.andThen_ok]
   cases es with
   | nil=>rfl
   | cons e es =>
    have:Instr.findNow (.struct fs) (.agg us.toArray) (e::es) 0=none:=by simp [Instr.findNow,Instr.sameNow]
    rw [this]
 ·cases hk
def qzq:Nat→List Dat→Option (List Value)
 | 0,_=>some []
 | n+1,.v x::r=>(qzq n r).map (x :: ·)
 | _+1,_=>none
def qey (ls:List KL) (us:List Value) (r:List Dat):Option Bool:=match qzq ls.length r with
 | some vs=>if q6w ls vs=true then some (qiy us vs) else none
 | none=>none
def findD (ls:List KL) (us:List Value):List (List Dat)→Option (Option (List Dat))
 | []=>some none
 | r::rs=>match qey ls us r with
  | some true=>some (some r)
  | some false=>findD ls us rs
  | none=>none
def jcc (ls:List KL) (us:List Value) (v:List Dat):List (List Dat)→Option (List (List Dat))
 | []=>some [us.map .v++v]
 | r::rs=>match qey ls us r with
  | some true=>some ((us.map .v++v)::rs)
  | some false=>(jcc ls us v rs).map (r :: ·)
  | none=>none
def jp6 (Pc:Nat→Nat→Prop) (w:World) (sz:Nat) (us:List Value) (x:List Dat):Prop:=q0b (DatRep Pc w) us x∧us.length=sz∧∀ u∈us,u.oneCell'=true
theorem j5r {Pc:Nat→Nat→Prop} : ∀ (n:Nat) {x:List Dat} {us vs:List Value},qzq n x=some vs→q0b (DatRep Pc w) us x→us.take n=vs∧q0b (DatRep Pc w) (us.drop n) (x.drop n)∧vs.length=n
 | 0,x,us,vs,h,hr=>by simp only [qzq,Option.some.injEq] at h;subst h;exact ⟨rfl,hr,rfl⟩
 | n+1,[],us,vs,h,hr=>by cases h
 | n+1,.lst _ _::_,us,vs,h,hr=>by cases h
 | n+1,.v y::r,us,vs,h,hr=>by
  simp only [qzq] at h
  obtain ⟨vs',h1,rfl⟩:=Option.map_eq_some_iff.1 h
  cases us with
  | nil=>exact hr.elim
  | cons u us =>
   obtain ⟨h2,h3⟩:=hr
   cases h2
   obtain ⟨h4,h5,h6⟩:=j5r n h1 h3
   exact ⟨by rw [List.take_succ_cons,h4],h5,by simp [h6]⟩
theorem j68 {Pc:Nat→Nat→Prop} {ls:List KL} {ks us:List Value} {x:List Dat} {b:Bool} (h:qey ls ks x=some b) (hr:q0b (DatRep Pc w) us x):q6w ls (us.take ls.length)=true∧qiy ks (us.take ls.length)=b∧q0b (DatRep Pc w) (us.drop ls.length) (x.drop ls.length):=by
 unfold qey at h
 split at h
 case h_2=>cases h
 rename_i vs hvs
 split at h
 case isFalse=>cases h
 rename_i hok
 obtain ⟨h1,h2,_⟩:=j5r _ hvs hr
 simp only [Option.some.injEq] at h
 exact ⟨by rw [h1];exact hok,by rw [h1];exact h,h2⟩
theorem q6m {T:Nat} (i:Nat) (us:List Value) (es:List (List Value)):qaa T i (us::es) = { key:=valOf (mKa T) (us.take (mKw T)),val:=valOf (mVa T) (us.drop (mKw T)),born:=i } :: qaa T (i+1) es:=rfl
theorem qhn {Pc:Nat→Nat→Prop} {T sz:Nat} {k:TypeId} {ls:List KL} {ks:List Value} {f:List MapEntry→Nat→Sem (Option (Nat×Value))} (hF:Finder P w k (mKa T) ls ks f) (hk:mKw T=ls.length) : ∀ {es:List (List Value)} {xs:List (List Dat)} {i:Nat} {q:Option (List Dat)},q0b (jp6 Pc w sz) es xs→findD ls ks xs=some q →
  match q with
  | none=>(f (qaa T i es) i).run P w = .ok none w
  | some r=>∃ j us,(f (qaa T i es) i).run P w = .ok (some (j,valOf (mVa T) us)) w∧q0b (DatRep Pc w) us (r.drop ls.length)∧(∀ u∈us,u.oneCell'=true)∧us.length=sz - ls.length
 | [],[],i,q,_,h=>by
  simp only [findD,Option.some.injEq] at h
  subst h;exact hF.nil i
 | us::es,x::xs,i,q,hr,h=>by
  unfold findD at h
  cases hb:qey ls ks x with
  | none=>rw [hb] at h;cases h
  | some b =>
   rw [hb] at h
   obtain ⟨h1,h2,h3⟩:=j68 hb hr.1.1
   rw [q6m,hk]
   cases b with
   | true =>
    simp only [Option.some.injEq] at h
    subst h
    refine ⟨i,us.drop ls.length,hF.hit _ _ _ _ _ h1 h2,h3,fun u hu=>hr.1.2.2 u (List.mem_of_mem_drop hu),?_⟩
    rw [List.length_drop,hr.1.2.1]
   | false =>
    simp only at h
    have ih:=qhn hF hk (i:=i+1) hr.2 h
    have hm:=hF.miss _ (valOf (mVa T) (us.drop ls.length)) i (qaa T (i+1) es) i h1 h2
    rw [hm]
    exact ih
 | [],_::_,_,_,hr,_=>hr.elim
 | _::_,[],_,_,hr,_=>hr.elim
theorem j75 {Pc:Nat→Nat→Prop} : ∀ us:List Value,q0b (DatRep Pc w) us (us.map Dat.v)
 | []=>trivial
 | _::us=>⟨DatRep.v _,j75 us⟩
theorem jl6 {Pc:Nat→Nat→Prop} {T sz:Nat} {k:TypeId} {ls:List KL} {ks vs:List Value} {v:List Dat} {f:List MapEntry→Nat→Sem (Option (Nat×Value))} (hF:Finder P w k (mKa T) ls ks f) (hks:q6w ls ks=true) (hk:mKw T=ls.length) (hv:q0b (DatRep Pc w) vs v) (h1 : ∀ u∈vs,u.oneCell'=true) (hl:vs.length+ls.length=sz) :
  ∀ {es:List (List Value)} {xs ys:List (List Dat)} {i:Nat},q0b (jp6 Pc w sz) es xs→jcc ls ks v xs=some ys →
  ∃ es',q0b (jp6 Pc w sz) es' ys ∧
   ((
    (f (qaa T i es) i).run P w = .ok none w∧qaa T i es'=qaa T i es ++ [{ key:=valOf (mKa T) ks,val:=valOf (mVa T) vs,born:=i+es.length }]∧es'.length=es.length+1) ∨
    ∃ j u,(f (qaa T i es) i).run P w = .ok (some (i+j,u)) w∧(qaa T i es').toArray=(qaa T i es).toArray.modify j (fun e=>{ e with key:=valOf (mKa T) ks,val:=valOf (mVa T) vs })∧es'.length=es.length∧((qaa T i es)[j]?).map (·.key)=some (valOf (mKa T) ks)):=by
 have hkl:=q76 hks
 have hrow:jp6 Pc w sz (ks++vs) (ks.map Dat.v++v):=⟨(j75 ks).append hv,by rw [List.length_append];omega,fun u hu=>by
   rcases List.mem_append.1 hu with hu|hu
   ·exact j59 hks u hu
   ·exact h1 u hu⟩
 have hnew : ∀ i e0,qaa T i ((ks++vs)::e0) = { key:=valOf (mKa T) ks,val:=valOf (mVa T) vs,born:=i } :: qaa T (i+1) e0:=fun i e0=>by
  rw [q6m,hk,← hkl,List.take_left,List.drop_left]
 intro es
 induction es with
 | nil =>
  intro xs ys i hr h
  cases xs with
  | cons _ _=>exact hr.elim
  | nil =>
   simp only [jcc,Option.some.injEq] at h
   subst h
   exact ⟨[ks++vs],⟨hrow,trivial⟩,Or.inl ⟨hF.nil i,hnew i [],rfl⟩⟩
 | cons us es ih =>
  intro xs ys i hr h
  cases xs with
  | nil=>exact hr.elim
  | cons x xs =>
  unfold jcc at h
  cases hb:qey ls ks x with
  | none=>rw [hb] at h;cases h
  | some b =>
   rw [hb] at h
   obtain ⟨k1,k2,k3⟩:=j68 hb hr.1.1
   cases b with
   | true =>
    simp only [Option.some.injEq] at h
    subst h
    have hs:ks=us.take ls.length:=(j1d hks k1).1 k2
    refine ⟨(ks++vs)::es,⟨hrow,hr.2⟩,Or.inr ⟨0,valOf (mVa T) (us.drop ls.length),?_,?_,rfl,?_⟩⟩
    ·rw [q6m,hk]
     exact hF.hit _ _ _ _ _ k1 k2
    ·rw [hnew,q6m]
     apply Array.toList_inj.1
     simp
    ·rw [q6m,hk,← hs];rfl
   | false =>
    simp only at h
    obtain ⟨ys',h3,rfl⟩:=Option.map_eq_some_iff.1 h
    obtain ⟨es',q0,q⟩:=ih (i:=i+1) hr.2 h3
    have hm:=hF.miss _ (valOf (mVa T) (us.drop ls.length)) i (qaa T (i+1) es) i k1 k2
    refine ⟨us::es',⟨hr.1,q0⟩,?_⟩
    rw [q6m,q6m,hk,hm]
    rcases q with ⟨q1,q2,q3⟩|⟨j,u,q1,q2,q3,q4⟩
    ·refine Or.inl ⟨q1,?_,by simp [q3]⟩
     rw [q2]
     simp only [List.cons_append,List.length_cons,List.cons.injEq,true_and,List.append_cancel_left_eq,MapEntry.mk.injEq,and_true]
     omega
    ·refine Or.inr ⟨j+1,u,by rw [q1];congr 3;omega,?_,by simp [q3],?_⟩
     ·have q2':=congrArg Array.toList q2
      apply Array.toList_inj.1
      simp only [Array.toList_modify,List.modify_cons,Nat.add_one_ne_zero,if_false,Nat.add_sub_cancel,List.cons.injEq,true_and] at q2' ⊢
      exact q2'
     ·simpa using q4
def q4a (P:Program) (dst:Option Nat) (t:TypeId) (bx:Nat→Option (Nat×List C)):Option Res:=match dst,j8k P t with
 | some i,some (T,_,ls)=>match bx i with
  | none=>if i<1000000 then some { cond:=True,val:=.one (.c (.mv i)),box:=some (i,(T,[.d (.lst (ls.length+mVw T) [])])) } else none
  | some _=>none
 | _,_=>none
theorem jal {o:Oper} {t:TypeId} {res:Res} (ho:o.op = .makeMap t none) (h:q4a P o.dst t σ.box=some res):q1u P F o σ res:=by
 unfold q4a at h
 split at h
 case h_2=>cases h
 rename_i i T el ls hd hT
 split at h
 case h_2=>cases h
 rename_i hb
 split at h
 case isFalse=>cases h
 rename_i hi
 simp only [Option.some.injEq] at h
 subst h
 obtain ⟨k,ka,vw,va,_,_,_,_,t1,t2,t3,t4,t5,_⟩:=qau hT
 intro e a w hR _
 obtain ⟨hf,hh⟩:=hR.hp.allocO i T (.map #[] 0) [.d (.lst (ls.length+mVw T) [])] hb hi fun _=>Or.inr ⟨t1,ls.length+mVw T,[],rfl,by rw [t2],[],heap_alloc_new w _,trivial⟩
 refine ⟨.map (some w.heap.size),_,_,.inl ?_,hf,hh,?_⟩
 ·simp [execOp,ho,Instr.makeMap,newObj,Sem.run_bind]
  rfl
 ·show (upd σ.box i (some (T,_)) i).isSome=true∧Value.map (some w.heap.size) = .map (some (upd e.m i w.heap.size i))
  rw [q0n,q0n];exact ⟨rfl,rfl⟩
def vD (T:Nat) (ds:List Dat):D1:=match mVa T with
 | true=>.agg (ds.map .d)
 | false=>.c (.d (ds.headD (.v undef)))
def okD (ok:Bool) (x:D1) (b:Bool):D:=match ok with
 | true=>.tup [x,.c (qns (.bool b))]
 | false=>.one x
def jo0 (P:Program) (t:TypeId):Option Value:=(P.info? t).bind (·.zero)
def of1:Value→D1
 | .agg cs=>.agg (cs.toList.map qns)
 | x=>.c (qns x)
theorem jhc (x:Value):q80 e σ w x (of1 x):=by
 cases x<;>first|exact DatRep.v _|exact ⟨_,rfl,q9e qns qb8 _⟩
def jp5:D→Option (Bool×List Value)
 | .one (.c (.d (.v x)))=>some (false,[x])
 | .one (.agg cs)=>(quw cs).map fun us=>(true,us)
 | _=>none
theorem jf6 {i:D} {ka:Bool} {us:List Value} {v:Value} (h:jp5 i=some (ka,us)) (hv:q1l e σ w v i):v=valOf ka us:=by
 unfold jp5 at h
 split at h
 ·simp only [Option.some.injEq,Prod.mk.injEq] at h
  obtain ⟨rfl,rfl⟩:=h
  exact q07 hv
 ·obtain ⟨us',h1,h2⟩:=Option.map_eq_some_iff.1 h
  simp only [Prod.mk.injEq] at h2
  obtain ⟨rfl,rfl⟩:=h2
  obtain ⟨vs,rfl,h3⟩:=hv
  rw [jdw,← qum h3 h1]
 ·cases h
def q2m (P:Program) (t:TypeId) (x i:D) (ok:Bool) (bx:Nat→Option (Nat×List C)):Option Res:=match j8k P t,x with
 | some (T,el,ls),.one (.c (.mv β))=>match bx β with
  | some (T',[.d (.lst sz xs)])=>(match jo0 P el,jp5 i with
  | some z,some (ka,us)=>if T'=T∧ka=mKa T∧q6w ls us=true then match findD ls us xs with
   | some (some r)=>some { cond:=True,val:=okD ok (vD T (r.drop ls.length)) true }
   | some none=>some { cond:=True,val:=okD ok (of1 z) false }
   | none=>none
   else none
  | _,_=>none)
  | _=>none
 | _,_=>none
theorem jeb : ∀ {us:List Value} {ds:List Dat},q0b (DatRep e.Pc w) us ds→q0b (q2k e σ w) us (ds.map C.d)
 | [],[],_=>trivial
 | _::_,_::_,h=>⟨h.1,jeb h.2⟩
 | [],_::_,h=>h.elim
 | _::_,[],h=>h.elim
theorem vD_ok {T:Nat} {us:List Value} {ds:List Dat} (h:q0b (DatRep e.Pc w) us ds):q80 e σ w (valOf (mVa T) us) (vD T ds):=by
 unfold vD valOf
 cases mVa T with
 | true=>exact ⟨us.toArray,rfl,by simpa using jeb h⟩
 | false =>
  cases us with
  | nil=>cases ds with
   | nil=>exact DatRep.v _
   | cons d ds=>exact h.elim
  | cons u us=>cases ds with
   | nil=>exact h.elim
   | cons d ds=>exact h.1
theorem jka {ok b:Bool} {v:Value} {x:D1} (h:q80 e σ w v x):q1l e σ w (if ok=true then .tuple #[v,.bool b] else v) (okD ok x b):=by
 cases ok with
 | true=>exact ⟨#[v,.bool b],rfl,h,DatRep.v _,trivial⟩
 | false=>exact h
theorem jcu {o:Oper} {t:TypeId} {x i:Operand} {ok:Bool} {res:Res} (ho:o.op = .lookup t x i ok) (h:q2m P t (opnd σ x) (opnd σ i) ok σ.box=some res):q1u P F o σ res:=by
 unfold q2m at h
 split at h
 case h_2=>cases h
 rename_i T el ls β hT hx
 split at h
 case h_2=>cases h
 rename_i T' sz xs hb
 split at h
 case h_2=>cases h
 rename_i z ka us hz hi
 split at h
 case isFalse=>cases h
 rename_i hTT
 obtain ⟨rfl,rfl,hus⟩:=hTT
 obtain ⟨k,ka,vw,va,u1,u2,u3,u4,t1,t2,rfl,t4,t5,_⟩:=qau hT
 obtain ⟨inf,hinf,hz1⟩:=Option.bind_eq_some_iff.1 hz
 have main : ∀ e a w,R F σ e a w→∃ es:List (List Value),a.eval x = .map (some (e.m β))∧a.eval i=valOf (mKa T') us∧w.heap[e.m β]? = some (.map (qaa T' 0 es).toArray es.length)∧q0b (jp6 e.Pc w sz) es xs:=fun e a w hR=>by
  have h1:=hR.opnd x
  rw [hx] at h1
  obtain ⟨_,hB⟩:=hR.hp.boxes β T' _ hb
  rcases hB with ⟨h0,_⟩|⟨_,sz',xs',hc,_,es,h5,h6⟩
  ·omega
  ·simp only [List.cons.injEq,C.d.injEq,Dat.lst.injEq,and_true] at hc
   obtain ⟨rfl,rfl⟩:=hc
   exact ⟨es,h1.2,jf6 hi (hR.opnd i),h5,h6⟩
 split at h
 ·rename_i r hfd
  simp only [Option.some.injEq] at h
  subst h
  refine q1u.same fun e a w hR _=>?_
  obtain ⟨es,h1,h2,h3,h4⟩:=main e a w hR
  obtain ⟨c1,_,f,hF,c2⟩:=qba u2 hus w
  obtain ⟨j,us',h5,h6,_,_⟩:=qhn (i:=0) hF t2 h4 hfd
  refine ⟨_,?_,jka (ok:=ok) (b:=true) (vD_ok (T:=T') h6)⟩
  simp only [execOp,ho,Instr.lookup,h1,h2,Sem.run_bind,run_underlying u1,MapKept.run_getObj_map h3,Result.andThen_ok,Sem.run_pure,c1,c2,h5]
 ·rename_i hfd
  simp only [Option.some.injEq] at h
  subst h
  refine q1u.same fun e a w hR _=>?_
  obtain ⟨es,h1,h2,h3,h4⟩:=main e a w hR
  obtain ⟨c1,_,f,hF,c2⟩:=qba u2 hus w
  have h5:(f (qaa T' 0 es) 0).run P w = .ok none w:=qhn (i:=0) hF t2 h4 hfd
  have hzr:(zeroValue el).run P w = .ok z w:=by simp [zeroValue,typeInfo,hinf,hz1]
  refine ⟨_,?_,jka (ok:=ok) (b:=false) (jhc z)⟩
  simp only [execOp,ho,Instr.lookup,h1,h2,Sem.run_bind,run_underlying u1,MapKept.run_getObj_map h3,Result.andThen_ok,Sem.run_pure,c1,c2,h5,hzr]
 ·cases h
def jks:D1→Bool
 | .agg _=>true
 | _=>false
def q2x (P:Program) (t:TypeId) (m i x:D) (bx:Nat→Option (Nat×List C)):Option Res:=match j8k P t,m with
 | some (T,_,ls),.one (.c (.mv β))=>match bx β with
  | some (T',[.d (.lst sz xs)])=>(match x,jp5 i with
   | .one y,some (ka,us)=>if T'=T∧(q0j y).all okC=true∧(q0j y).length=mVw T∧jks y=mVa T∧ka=mKa T∧q6w ls us=true then
     match (q0j y).mapM qiq with
     | some ds=>(jcc ls us ds xs).map fun ys=>{ cond:=True,val:=q67 undef,box:=some (β,(T,[.d (.lst sz ys)])) }
     | none=>none
    else none
   | _,_=>none)
  | _=>none
 | _,_=>none
theorem qzk {o:Oper} {t:TypeId} {m i x:Operand} {res:Res} (ho:o.op = .mapUpdate t m i x∨o.op = .insert t m i x) (h:q2x P t (opnd σ m) (opnd σ i) (opnd σ x) σ.box=some res):q1u P F o σ res:=by
 unfold q2x at h
 split at h
 case h_2=>cases h
 rename_i T el ls β hT hm
 split at h
 case h_2=>cases h
 rename_i T' sz xs hb
 split at h
 case h_2=>cases h
 rename_i y ka us hx hi
 split at h
 case isFalse=>cases h
 rename_i hc
 obtain ⟨rfl,hok,hlen,hag,rfl,hus⟩:=hc
 split at h
 case h_2=>cases h
 rename_i ds hds
 obtain ⟨ys,hput,rfl⟩:=Option.map_eq_some_iff.1 h
 obtain ⟨k,ka,vw,va,u1,u2,u3,u4,t1,t2,rfl,t4,t5,_⟩:=qau hT
 intro e a w hR _
 have h1:=hR.opnd m
 rw [hm] at h1
 have h2':=jf6 hi (hR.opnd i)
 have h3:=hR.opnd x
 rw [hx] at h3
 obtain ⟨h4,h5⟩:=qf2 (show q80 e σ w (a.eval x) y from h3) hok
 have h6:=qjq hds h4
 obtain ⟨g0,hB⟩:=hR.hp.boxes β T' _ hb
 obtain ⟨es,hsz,h7,h8⟩ : ∃ es:List (List Value),sz=mKw T'+mVw T'∧w.heap[e.m β]? = some (.map (qaa T' 0 es).toArray es.length)∧q0b (jp6 e.Pc w sz) es xs:=by
  rcases hB with ⟨h0,_⟩|⟨_,sz',xs',hc,hs,es,h5,h6⟩
  ·omega
  ·simp only [List.cons.injEq,C.d.injEq,Dat.lst.injEq,and_true] at hc
   obtain ⟨rfl,rfl⟩:=hc
   exact ⟨es,hs,h5,h6⟩
 have hval:a.eval x=valOf (mVa T') (a.eval x).cells.toList:=by
  rw [← hag]
  cases y with
  | c c =>
   show _=List.headD _ _
   have h1:okC c=true:=by simpa [q0j] using hok
   have h2:=j3b (σ:=σ) (e:=e) (w:=w) (show q2k e σ w (a.eval x) c from h3) h1
   have h3:(a.eval x).cells = #[a.eval x]:=by
    revert h2;generalize a.eval x=v;intro h2
    cases v<;>first|rfl|cases h2
   rw [h3];rfl
  | agg cs =>
   obtain ⟨vs,hv,_⟩:=h3
   rw [hv]
   show Value.agg vs = .agg vs.toList.toArray
   simp
 have hvl:(a.eval x).cells.toList.length+ls.length=sz:=by
  have:=h6.length
  have h9:ds.length=(q0j y).length:=by
   have:=h4.length;have:=h6.length;omega
  rw [hsz,t2];omega
 obtain ⟨c1,c3,f,hF,c2⟩:=qba u2 hus w
 obtain ⟨es',k1,k2⟩:=jl6 (i:=0) hF hus t2 h6 h5 hvl h8 hput
 have fin : ∀ w',w' = { w with heap:=w.heap.setIfInBounds (e.m β) (.map (qaa T' 0 es').toArray es'.length) }→(Instr.mapUpdate t (.map (some (e.m β))) (valOf (mKa T') us) (a.eval x)).run P w = .ok () w' →
   ∃ v w' e',((execOp a.eval o).run P w = .ok (.value v) w'∨((execOp a.eval o).run P w = .ok .skip w'∧v=undef)) ∧
  Fwd e σ w e' (σ.app { cond:=True,val:=q67 undef,box:=some (β,(T',[.d (.lst sz ys)])) }) w'∧Hp F (σ.app { cond:=True,val:=q67 undef,box:=some (β,(T',[.d (.lst sz ys)])) }) e' w'∧q1l e' (σ.app { cond:=True,val:=q67 undef,box:=some (β,(T',[.d (.lst sz ys)])) }) w' v (q67 undef):=fun w' hw' hrun=>by
  have hoth : ∀ k,k≠e.m β→w'.heap[k]? = w.heap[k]?:=fun k hk=>by rw [hw'];exact (MapKept.heap_set h7).2 k hk
  have hnew:w'.heap[e.m β]? = some (.map (qaa T' 0 es').toArray es'.length):=by rw [hw'];exact (MapKept.heap_set h7).1
  have hbl:Below F.w0.heap.size F.w0 w':=hR.hp.below.trans ⟨by rw [hw'],by rw [hw'],by rw [hw'],by rw [hw'];simp,fun k hk=>hoth k (by omega)⟩
  have hcl : ∀ b o,b≠e.m β→w'.cell? ⟨b,o,none⟩=w.cell? ⟨b,o,none⟩:=fun b o hb=>World.cell?_of_block (w:=w) (hoth b hb)
  obtain ⟨hf,hh⟩:=hR.hp.setO β T' _ [.d (.lst sz ys)] hb hbl (by rw [hw'];simp) hoth hcl fun hf=>Or.inr ⟨t1,sz,ys,rfl,hsz,es',hnew,k1.mono fun us x ⟨m1,m2⟩=>⟨m1.mono fun _ _=>DatRep.mono hf.pc hf.cell,m2⟩⟩
  refine ⟨undef,w',e,.inr ⟨?_,rfl⟩,hf,hh,DatRep.v _⟩
  rcases ho with ho|ho<;>simp only [execOp,ho,h1.2,h2']<;>exact run_u hrun
 rcases k2 with ⟨q1,q2,q3⟩|⟨j,u,q1,q2,q3,q4⟩
 ·refine fin _ rfl ?_
  simp only [Instr.mapUpdate,Sem.run_bind,run_underlying u1,MapKept.run_getObj_map h7,Result.andThen_ok,c1,c2,q1,MapKept.run_setObj_map _ h7]
  rw [q2,q3,← hval]
  simp
 ·refine fin _ rfl ?_
  simp only [Nat.zero_add] at q1
  simp only [Instr.mapUpdate,Sem.run_bind,run_underlying u1,MapKept.run_getObj_map h7,Result.andThen_ok,c1,c2,q1]
  have q5:((qaa T' 0 es).toArray[j]?).map (·.key)=some (valOf (mKa T') us):=by simpa using q4
  rw [q5]
  simp only [Option.getD_some,c3,Result.andThen_ok,MapKept.run_setObj_map _ h7]
  rw [q2,q3,← hval]
end Go.Proofs.YtlkpgcifpnppeaaGreatDoor.AM
