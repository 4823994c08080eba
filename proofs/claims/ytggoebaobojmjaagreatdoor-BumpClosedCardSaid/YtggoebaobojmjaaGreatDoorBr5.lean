
import Derived.Test.YtggoebaobojmjaaGreatDoorBr4
namespace Go.Proofs.YtggoebaobojmjaaGreatDoor.AM
open Go.RowKit
set_option linter.unusedVariables false
set_option linter.unusedSimpArgs false
variable {α:Type} {P:Program} {σ:TSt}
def intT (op:BinOp) (k k':IntKind) (a b:Int) (c:TC→Option α):Option α:=match op with
 | .shl=>(shlO k a b).bind fun z=>c (.d (.int k) z)
 | .shr=>(shrO k a b).bind fun z=>c (.d (.int k) z)
 | .add=>if k=k' then q0e (k.wrap (a+b)) fun z=>c (.d (.int k) z) else none
 | .sub=>if k=k' then q0e (k.wrap (a - b)) fun z=>c (.d (.int k) z) else none
 | .mul=>if k=k' then q0e (k.wrap (a*b)) fun z=>c (.d (.int k) z) else none
 | .quo=>if k=k' then (quoO k a b).bind fun z=>c (.d (.int k) z) else none
 | .rem=>if k=k' then (remO a b).bind fun z=>c (.d (.int k) z) else none
 | .and=>if k=k' then q0e (andI k a b) fun z=>c (.d (.int k) z) else none
 | .or=>if k=k' then q0e (orI k a b) fun z=>c (.d (.int k) z) else none
 | .xor=>if k=k' then q0e (xorI k a b) fun z=>c (.d (.int k) z) else none
 | .eql=>if k=k' then c (.d .bool (decide (a=b))) else none
 | .neq=>if k=k' then c (.d .bool (!decide (a=b))) else none
 | .lss=>if k=k' then c (.d .bool (decide (a<b))) else none
 | .leq=>if k=k' then c (.d .bool (decide (a≤b))) else none
 | .gtr=>if k=k' then c (.d .bool (decide (b<a))) else none
 | .geq=>if k=k' then c (.d .bool (decide (b≤a))) else none
 | _=>none
def strT (op:BinOp) (s t:List UInt8) (c:TC→Option α):Option α:=match op with
 | .add=>(catO s t).bind fun z=>c (.d .str z)
 | .eql=>c (.d .bool (decide (s=t)))
 | .neq=>c (.d .bool (!decide (s=t)))
 | .lss=>c (.d .bool (ltS s t))
 | .leq=>c (.d .bool (ltS s t||decide (s=t)))
 | .gtr=>c (.d .bool (!(ltS s t||decide (s=t))))
 | .geq=>c (.d .bool (!ltS s t))
 | _=>none
def vC (c:TC):TRes:={ val:=.one (.c c) }
theorem jw7 {op:BinOp} {T:TypeId} {k k':IntKind} {a b:Int} {c:TC→Option α} {r:α} (h:intT op k k' a b c=some r) :
  ∃ x,c x=some r∧Sim (qcg P op T (.one (.c (.d (.v (.int k a))))) (.one (.c (.d (.v (.int k' b)))))) (vC x):=by
 unfold intT at h
 split at h
 case h_1 =>
  obtain ⟨z,hz,h⟩:=Option.bind_eq_some_iff.1 h
  unfold shlO at hz
  split at hz
  case isFalse=>cases hz
  rename_i hb
  simp only [Option.some.injEq] at hz;subst hz
  exact ⟨_,h,_,hb,rfl⟩
 case h_2 =>
  obtain ⟨z,hz,h⟩:=Option.bind_eq_some_iff.1 h
  unfold shrO at hz
  split at hz
  case isFalse=>cases hz
  rename_i hb
  simp only [Option.some.injEq] at hz;subst hz
  exact ⟨_,h,_,hb,rfl⟩
 case h_6 =>
  split at h
  case isFalse=>cases h
  rename_i hk;subst hk
  obtain ⟨z,hz,h⟩:=Option.bind_eq_some_iff.1 h
  unfold quoO at hz
  split at hz
  case isFalse=>cases hz
  rename_i hb
  simp only [Option.some.injEq] at hz;subst hz
  refine ⟨_,h,_,hb,?_⟩
  simp only [qcg,if_true,qtc,Option.map_some];rfl
 case h_7 =>
  split at h
  case isFalse=>cases h
  rename_i hk;subst hk
  obtain ⟨z,hz,h⟩:=Option.bind_eq_some_iff.1 h
  unfold remO at hz
  split at hz
  case isFalse=>cases hz
  rename_i hb
  simp only [Option.some.injEq] at hz;subst hz
  refine ⟨_,h,_,hb,?_⟩
  simp only [qcg,if_true,qtc,Option.map_some];rfl
 case h_17=>cases h
 all_goals
  split at h
  case isFalse=>cases h
  rename_i hk;subst hk
  refine ⟨_,h,Sim.tr ?_⟩
  simp only [qcg,if_true,qtc,Option.map_some];rfl
theorem jzq {s t:List UInt8} : (ba s=ba t)=(s=t):=by
 apply propext
 constructor
 ·intro h
  have:=congrArg ByteArray.data h
  exact Array.toList_inj.2 this |> fun h=>by simpa [ba] using h
 ·rintro rfl;rfl
theorem q9t (s:List UInt8):(ba s).toList=s:=by rw [ByteArray.toList_eq];rfl
theorem jqi (s t:List UInt8):ba s++ba t=ba (s++t):=by
 apply ByteArray.ext
 rw [ByteArray.data_append]
 simp [ba]
theorem jg0 (s t:List UInt8):decide (ba s=ba t)=decide (s=t):=by simp only [jzq]
theorem jxf {op:BinOp} {T:TypeId} {s t:List UInt8} {c:TC→Option α} {r:α} (h:strT op s t c=some r) :
  ∃ x,c x=some r∧Sim (qcg P op T (.one (.c (.d (.v (.string (ba s)))))) (.one (.c (.d (.v (.string (ba t))))))) (vC x):=by
 unfold strT at h
 split at h
 case h_1 =>
  obtain ⟨z,hz,h⟩:=Option.bind_eq_some_iff.1 h
  unfold catO at hz
  split at hz
  case isFalse=>cases hz
  rename_i hb
  simp only [Option.some.injEq] at hz;subst hz
  refine ⟨_,h,_,hb,?_⟩
  simp only [qcg,qya,Option.map_some,q3j,jqi];rfl
 case h_8=>cases h
 all_goals
  refine ⟨_,h,Sim.tr ?_⟩
  simp only [qcg,qya,Option.map_some,q9t,jg0];rfl
def eqC1 (P:Program) (t:TypeId) (x y:TC):Option Bool:=match P.underlying t,x,y with
 | some .bool,.d .bool a,.d .bool b=>some (decide ((a:Bool)=b))
 | some (.int _),.d (.int k) a,.d (.int k') b=>if k=k' then some (decide ((a:Int)=b)) else none
 | some .string,.d .str a,.d .str b=>some (decide ((a:List UInt8)=b))
 | _,_,_=>none
def vT:TC→Option Value
 | .d (.int k) n=>some (.int k n)
 | .d .bool b=>some (.bool b)
 | .d .str s=>some (.string (ba s))
 | _=>none
def vTs:List TC→Option (List Value)
 | []=>some []
 | c::cs=>match vT c,vTs cs with
  | some x,some xs=>some (x::xs)
  | _,_=>none
theorem vT_ok {c:TC} {v:Value} (h:vT c=some v):eC c = .d (.v v):=by
 unfold vT at h
 split at h<;>simp only [Option.some.injEq,reduceCtorEq] at h<;>subst h<;>rfl
theorem jn8 : ∀ {cs:List TC} {xs:List Value},vTs cs=some xs→juy (cs.map eC)=some xs
 | [],xs,h=>by simp only [vTs,Option.some.injEq] at h;subst h;rfl
 | c::cs,xs,h=>by
  unfold vTs at h
  split at h
  case h_2=>cases h
  rename_i x ys hx hy
  simp only [Option.some.injEq] at h;subst h
  rw [List.map_cons,vT_ok hx]
  show (juy (cs.map eC)).map (x :: ·)=_
  rw [jn8 hy];rfl
def jl2 (P:Program) (rec:TypeId→List TC→List TC→Option Bool):List Field→List TC→List TC→Option Bool
 | [],_,_=>some true
 | f::fs,xs,ys=>if f.name = "_" then none else match qvc P f.type with
  | some false=>match nth xs f.offset,nth ys f.offset with
   | some x,some y=>match eqC1 P f.type x y,jl2 P rec fs xs ys with
    | some b,some c=>some (b&&c)
    | _,_=>none
   | _,_=>none
  | some true=>match tsz P f.type with
   | some m=>if f.offset+m≤xs.length∧f.offset+m≤ys.length then match rec f.type ((xs.drop f.offset).take m) ((ys.drop f.offset).take m),jl2 P rec fs xs ys with
     | some b,some c=>some (b&&c)
     | _,_=>none
    else none
   | none=>none
  | none=>none
def eqST (P:Program):Nat→TypeId→List TC→List TC→Option Bool
 | 0,_,_,_=>none
 | n+1,t,xs,ys=>match P.underlying t with
  | some (.struct fs)=>if P.stoodInHeld t=false then jl2 P (eqST P n) fs.toList xs ys else none
  | _=>none
theorem jy6 {t:TypeId} {x y:TC} {u v:Value} {b:Bool} (hx:vT x=some u) (hy:vT y=some v) (h:eqC1 P t x y=some b):eqV P t u v=some b:=by
 unfold eqC1 at h
 split at h
 ·rename_i hu
  simp only [vT,Option.some.injEq] at hx hy h;subst hx hy h
  simp only [eqV,hu]
 ·rename_i hu
  split at h
  case isFalse=>cases h
  rename_i hk;subst hk
  simp only [vT,Option.some.injEq] at hx hy h;subst hx hy h
  simp only [eqV,hu,if_true]
 ·rename_i hu
  simp only [vT,Option.some.injEq] at hx hy h;subst hx hy h
  simp only [eqV,hu,jg0]
 ·cases h
theorem jbq : ∀ {cs:List TC} {xs:List Value} {i:Nat} {c:TC},vTs cs=some xs→nth cs i=some c→∃ v,xs[i]? = some v∧vT c=some v
 | [],_,_,_,_,h=>by cases h
 | c0::cs,xs,i,c,h,hn=>by
  unfold vTs at h
  split at h
  case h_2=>cases h
  rename_i x ys hx hy
  simp only [Option.some.injEq] at h;subst h
  cases i with
  | zero=>simp only [nth,Option.some.injEq] at hn;subst hn;exact ⟨x,rfl,hx⟩
  | succ i =>
   obtain ⟨v,h1,h2⟩:=jbq hy (show nth cs i=some c from hn)
   exact ⟨v,by simpa using h1,h2⟩
theorem jk5 : ∀ {cs:List TC} {xs:List Value} (o m:Nat),vTs cs=some xs→vTs ((cs.drop o).take m)=some ((xs.drop o).take m):=by
 have tk : ∀ {cs:List TC} {xs:List Value} (m:Nat),vTs cs=some xs→vTs (cs.take m)=some (xs.take m):=by
  intro cs
  induction cs with
  | nil=>intro xs m h;simp only [vTs,Option.some.injEq] at h;subst h;simp [vTs]
  | cons c cs ih =>
   intro xs m h
   unfold vTs at h
   split at h
   case h_2=>cases h
   rename_i x ys hx hy
   simp only [Option.some.injEq] at h;subst h
   cases m with
   | zero=>rfl
   | succ m =>
    rw [List.take_succ_cons,List.take_succ_cons]
    unfold vTs
    rw [hx,ih m hy]
 have dr : ∀ {cs:List TC} {xs:List Value} (o:Nat),vTs cs=some xs→vTs (cs.drop o)=some (xs.drop o):=by
  intro cs
  induction cs with
  | nil=>intro xs o h;simp only [vTs,Option.some.injEq] at h;subst h;simp [vTs]
  | cons c cs ih =>
   intro xs o h
   cases o with
   | zero=>exact h
   | succ o =>
    unfold vTs at h
    split at h
    case h_2=>cases h
    rename_i x ys hx hy
    simp only [Option.some.injEq] at h;subst h
    rw [List.drop_succ_cons,List.drop_succ_cons]
    exact ih o hy
 intro cs xs o m h
 exact tk m (dr o h)
theorem jbf : ∀ {cs:List TC} {xs:List Value},vTs cs=some xs→xs.length=cs.length
 | [],xs,h=>by simp only [vTs,Option.some.injEq] at h;subst h;rfl
 | c::cs,xs,h=>by
  unfold vTs at h
  split at h
  case h_2=>cases h
  rename_i x ys hx hy
  simp only [Option.some.injEq] at h;subst h
  rw [List.length_cons,List.length_cons,jbf hy]
theorem j0k {rec:TypeId→List TC→List TC→Option Bool} {rec':TypeId→List Value→List Value→Option Bool} {us vs:List Value} {xs ys:List TC} (hx:vTs xs=some us) (hy:vTs ys=some vs)
  (hr : ∀ t o m b,rec t ((xs.drop o).take m) ((ys.drop o).take m)=some b→rec' t ((us.drop o).take m) ((vs.drop o).take m)=some b) : ∀ {fs:List Field} {b:Bool},jl2 P rec fs xs ys=some b→jvx P rec' fs us vs=some b
 | [],b,h=>h
 | f::fs,b,h=>by
  unfold jl2 at h
  split at h
  case isTrue=>cases h
  rename_i hn
  split at h
  ·rename_i h3
   split at h
   case h_2=>cases h
   rename_i x y h1 h2
   split at h
   case h_2=>cases h
   rename_i b1 b2 h4 h5
   obtain ⟨u,k1,k2⟩:=jbq hx h1
   obtain ⟨v,k3,k4⟩:=jbq hy h2
   unfold jvx
   rw [if_neg hn,h3]
   simp only [k1,k3,jy6 k2 k4 h4,j0k hx hy hr h5]
   exact h
  ·rename_i h3
   split at h
   case h_2=>cases h
   rename_i m hm
   split at h
   case isFalse=>cases h
   rename_i hle
   split at h
   case h_2=>cases h
   rename_i b1 b2 h4 h5
   unfold jvx
   rw [if_neg hn,h3,hm]
   have hle':f.offset+m≤us.length∧f.offset+m≤vs.length:=by rw [jbf hx,jbf hy];exact hle
   simp only [hle',and_self,if_true,hr _ _ _ _ h4,j0k hx hy hr h5]
   exact h
  ·cases h
theorem jou : ∀ (n:Nat) {t:TypeId} {us vs:List Value} {xs ys:List TC} {b:Bool},vTs xs=some us→vTs ys=some vs→eqST P n t xs ys=some b→eqS P n t us vs=some b
 | 0,_,_,_,_,_,_,_,_,h=>by cases h
 | n+1,t,us,vs,xs,ys,b,hx,hy,h=>by
  unfold eqST at h
  split at h
  case h_2=>cases h
  rename_i fs hu
  split at h
  case isFalse=>cases h
  rename_i hc
  unfold eqS
  rw [hu]
  simp only [hc,if_true]
  exact j0k hx hy (fun t o m b hh=>jou n (jk5 o m hx) (jk5 o m hy) hh) h
def qqe (P:Program) (t:TypeId) (xs ys:List TC):Option Bool:=match vTs xs,vTs ys with
 | some _,some _=>if P.eqGuardType P.depth t=false then eqST P 9 t xs ys else none
 | _,_=>none
theorem qns {t:TypeId} {xs ys:List TC} {b:Bool} (h:qqe P t xs ys=some b):qef P t (xs.map eC) (ys.map eC)=some b:=by
 unfold qqe at h
 split at h
 case h_2=>cases h
 rename_i us vs hx hy
 split at h
 case isFalse=>cases h
 rename_i hc
 unfold qef
 rw [jn8 hx,jn8 hy]
 simp only
 rw [if_pos hc]
 exact jou 9 hx hy h
def jlr (P:Program) (op:BinOp) (T:TypeId) (x y:TD) (k:TRes→Option α):Option α:=match x,y with
 | .one (.c (.d (.int kx) a)),.one (.c (.d (.int ky) b))=>intT op kx ky a b (fun c=>k (vC c))
 | .one (.c (.d .str s)),.one (.c (.d .str t))=>strT op s t (fun c=>k (vC c))
 | .one (.c (.d .bool a)),.one (.c (.d .bool b))=>match P.underlying T,op with
  | some .bool,.eql=>k (vC (.d .bool (decide ((a:Bool)=b))))
  | some .bool,.neq=>k (vC (.d .bool (!decide ((a:Bool)=b))))
  | _,_=>none
 | .one (.agg xs),.one (.agg ys)=>match op,qqe P T xs ys with
  | .eql,some b=>k (vC (.d .bool b))
  | .neq,some b=>k (vC (.d .bool (!b)))
  | _,_=>none
 | _,_=>none
theorem jmu {op:BinOp} {T:TypeId} {x y:TD} {k:TRes→Option α} {r:α} (h:jlr P op T x y k=some r) : ∃ z,k z=some r∧Sim (qcg P op T (eD x) (eD y)) z:=by
 unfold jlr at h
 split at h
 ·obtain ⟨z,h1,h2⟩:=jw7 (P:=P) (T:=T) h
  exact ⟨_,h1,h2⟩
 ·obtain ⟨z,h1,h2⟩:=jxf (P:=P) (T:=T) h
  exact ⟨_,h1,h2⟩
 ·split at h
  ·rename_i hu
   exact ⟨_,h,Sim.tr (by simp only [qcg,eD,e1,eC,q03,List.headD_cons,eqV,hu,Option.map_some];rfl)⟩
  ·rename_i hu
   exact ⟨_,h,Sim.tr (by simp only [qcg,eD,e1,eC,q03,List.headD_cons,eqV,hu,Option.map_some];rfl)⟩
  ·cases h
 ·split at h
  ·rename_i b hb
   exact ⟨_,h,Sim.tr (by simp only [qcg,eD,e1,qns hb,Option.map_some];rfl)⟩
  ·rename_i b hb
   exact ⟨_,h,Sim.tr (by simp only [qcg,eD,e1,qns hb,Option.map_some];rfl)⟩
  ·cases h
 ·cases h
def jxv (op:UnOp) (x:TD) (k:TRes→Option α):Option α:=match op,x with
 | .not,.one (.c (.d .bool b))=>k (vC (.d .bool (!(b:Bool))))
 | .neg,.one (.c (.d (.int kk) n))=>k (vC (.d (.int kk) (kk.wrap (0 - (n:Int)))))
 | _,_=>none
theorem jra {op:UnOp} {x:TD} {k:TRes→Option α} {r:α} (h:jxv op x k=some r) : ∃ z,k z=some r∧Sim (jz1 op (eD x)) z:=by
 unfold jxv at h
 split at h
 ·exact ⟨_,h,Sim.tr rfl⟩
 ·exact ⟨_,h,Sim.tr rfl⟩
 ·cases h
def j8m (P:Program) (src dst:TypeId) (x:TD) (k:TRes→Option α):Option α:=match P.underlying src,P.underlying dst,x with
 | some _,some (.int kk),.one (.c (.d (.int _) n))=>q0e (kk.wrap n) fun z=>k (vC (.d (.int kk) z))
 | some .string,some .string,.one (.c (.d .str s))=>k (vC (.d .str s))
 | _,_,_=>none
theorem jih {src dst:TypeId} {x:TD} {k:TRes→Option α} {r:α} (h:j8m P src dst x k=some r) : ∃ z,k z=some r∧Sim (qfa P src dst (eD x)) z:=by
 unfold j8m at h
 split at h
 ·rename_i h1 h2
  exact ⟨_,h,Sim.tr (by simp only [qfa,eD,e1,eC,q03,List.headD_cons,h1,h2];rfl)⟩
 ·rename_i h1 h2
  exact ⟨_,h,Sim.tr (by simp only [qfa,eD,e1,eC,q03,List.headD_cons,h1,h2];rfl)⟩
 ·cases h
def j1k (P:Program) (src dst:TypeId):Bool:=match P.underlying src,P.underlying dst with
 | some (.slice _),some .string=>true
 | some .string,some (.slice _)=>true
 | _,_=>false
def bytO (s:List UInt8):Option (List Int):=if s.length≤9223372036854775807 then some (s.map fun b=>((b.toNat:Nat):Int)) else none
def qmd (P:Program) (o:Option Nat) (src dst:TypeId) (x:TD) (σ:TSt) (k:TRes→Option α):Option α:=match P.underlying src,P.underlying dst with
 | some (.slice e),some .string=>match P.underlying e,srcT x σ with
  | some (.int .u8),some ⟨.int .u8,xs⟩=>k (vC (.d .str ((xs:List Int).map fun n=>UInt8.ofNat n.toNat)))
  | _,_=>none
 | some .string,some (.slice e)=>match P.underlying e,x,o with
  | some (.int .u8),.one (.c (.d .str s)),some i=>match lk σ.rows i with
   | none=>if e<1099511627776 then (bytO s).bind fun xs=>k { val:=.one (.c (.row i 0)),row:=some (i,⟨0,e+1099511627776,true,.int .u8,xs⟩) } else none
   | some _=>none
  | _,_,_=>none
 | _,_=>none
theorem j5c : ∀ (xs:List Int),j5q (xs.map (q03 (.int .u8)))=some xs
 | []=>rfl
 | x::xs=>by
  show (j5q (xs.map (q03 (.int .u8)))).map (x :: ·)=_
  rw [j5c xs];rfl
theorem jcv : ∀ (xs:List Int) (b:List UInt8),xs.foldl (fun r n=>r.push (UInt8.ofNat n.toNat)) (ba b)=ba (b++xs.map fun n=>UInt8.ofNat n.toNat)
 | [],b=>by simp
 | x::xs,b=>by
  rw [List.foldl_cons,show (ba b).push (UInt8.ofNat x.toNat)=ba (b ++ [UInt8.ofNat x.toNat]) from by simp [ba,ByteArray.push],jcv xs]
  simp
theorem ju1 (xs:List Int):strOf xs=ba (xs.map fun n=>UInt8.ofNat n.toNat):=by
 have:=jcv xs []
 rw [List.nil_append] at this
 exact this
theorem j8h {src dst:TypeId} {x:D} (h:j1k P src dst=true):qfa P src dst x=none:=by
 unfold j1k at h
 unfold qfa
 split at h
 ·rename_i h1 h2;rw [h1,h2]
 ·rename_i h1 h2;rw [h1,h2]
 ·cases h
theorem j13 {o:Option Nat} {src dst:TypeId} {x:TD} {k:TRes→Option α} {r:α} (h:qmd P o src dst x σ k=some r) : ∃ z,k z=some r∧Sim (q32 P o src dst (eD x) (eS σ).row) z:=by
 unfold qmd at h
 split at h
 ·rename_i e h1 h2
  split at h
  case h_2=>cases h
  rename_i xs he hx
  have hs:=jla hx
  have hs':qoz 1 (eD x) (eS σ).row=some (xs.map (q03 (.int .u8))):=hs
  refine ⟨_,h,Sim.tr ?_⟩
  have hi:j5q (List.map (q03 (.int .u8)) xs)=some xs:=j5c xs
  simp only [q32,h1,h2,he,hs',Option.bind_some]
  rw [hi]
  simp only [ju1]
  rfl
 ·rename_i e h1 h2
  split at h
  case h_2=>cases h
  rename_i s i he
  split at h
  case h_2=>cases h
  rename_i hr
  split at h
  case isFalse=>cases h
  rename_i hlt
  obtain ⟨xs,hxs,h⟩:=Option.bind_eq_some_iff.1 h
  unfold bytO at hxs
  split at hxs
  case isFalse=>cases hxs
  rename_i hle
  simp only [Option.some.injEq] at hxs;subst hxs
  refine ⟨_,h,(ba s).size≤maxLen,by rw [q3j];exact hle,?_⟩
  simp only [q32,h1,h2,he,eD,e1,eC,q03,List.headD_cons,qa3 hr]
  rw [if_pos hlt]
  have e3:(ba s).data.toList=s:=by simp [ba]
  rw [e3]
  simp only [qcd,eD,e1,eC,Option.map_none,Option.map_some,eR,List.map_map]
  rfl
 ·cases h
def j9h (c x y:TD) (k:TRes→Option α):Option α:=match c with
 | .one (.c (.d .bool t))=>bif t then k { val:=x } else k { val:=y }
 | _=>none
theorem jjm {c x y:TD} {k:TRes→Option α} {r:α} (h:j9h c x y k=some r) : ∃ z,k z=some r∧Sim (qx9 (eD c) (eD x) (eD y)) z:=by
 unfold j9h at h
 split at h
 case h_2=>cases h
 rename_i t
 cases t with
 | true=>exact ⟨_,h,Sim.tr rfl⟩
 | false=>exact ⟨_,h,Sim.tr rfl⟩
def makO (b:Nat) (q:Int) (n:Int):Option (List Int):=if 0≤n∧n≤16777216∧b*n.toNat≤281474976710656 then some (List.replicate n.toNat q) else none
def j9q (P:Program) (dst:Option Nat) (t:TypeId) (x:TD) (σ:TSt) (k:TRes→Option α):Option α:=match P.underlying t,dst,x with
 | some (.slice el),some i,.one (.c (.d (.int _) n))=>match lk σ.rows i,(P.info? el).map (fun i=>(i.zero,i.size,i.bytes)) with
  | none,some (some (Value.int kk q),1,b)=>bif Nat.blt el 1099511627776 then (makO b q n).bind fun xs=>k { val:=.one (.c (.row i 0)),row:=some (i,⟨0,el,true,.int kk,xs⟩) } else none
  | _,_=>none
 | _,_,_=>none
theorem jhi {dst:Option Nat} {t:TypeId} {x:TD} {k:TRes→Option α} {r:α} (h:j9q P dst t x σ k=some r) : ∃ y,k y=some r∧Sim (qj5 P dst t (eD x) (eS σ).row) y:=by
 unfold j9q at h
 split at h
 case h_2=>cases h
 rename_i el i kx n hu
 split at h
 case h_2=>cases h
 rename_i kk q b hr hinf
 cases hb:Nat.blt el 1099511627776 with
 | false=>rw [hb] at h;cases h
 | true =>
  rw [hb] at h
  have hlt:el<1099511627776:=by simpa using hb
  obtain ⟨xs,hxs,h⟩:=Option.bind_eq_some_iff.1 h
  unfold makO at hxs
  split at hxs
  case isFalse=>cases hxs
  rename_i hc
  simp only [Option.some.injEq] at hxs;subst hxs
  refine ⟨_,h,Sim.tr ?_⟩
  simp only [qj5,hu,eD,e1,eC,q03,List.headD_cons,qa3 hr,hinf]
  rw [if_pos ⟨hc.1,hc.2.1,hc.2.2,hlt⟩]
  simp only [qcd,eD,e1,eC,Option.map_none,Option.map_some,eR,List.map_replicate]
  rfl
def jt4 (f:Int→Int→Int) (x y:TD) (k:TRes→Option α):Option α:=match x,y with
 | .one (.c (.d (.int kk) n)),.one (.c (.d (.int _) m))=>q0e (f n m) fun z=>k (vC (.d (.int kk) z))
 | _,_=>none
theorem jcs {f:Int→Int→Int} {x y:TD} {k:TRes→Option α} {r:α} (h:jt4 f x y k=some r) : ∃ z,k z=some r∧Sim (juc f (eD x) (eD y)) z:=by
 unfold jt4 at h
 split at h
 case h_2=>cases h
 exact ⟨_,h,Sim.tr rfl⟩
def vTI:TC→Option Value
 | .d (.int k) n=>some (.int k n)
 | .d .bool b=>some (.bool b)
 | .d .str s=>some (.string (ba s))
 | .d .any v=>some (Subtype.val (v:IV))
 | _=>none
def jzl:List TC→Option (List Value)
 | []=>some []
 | c::cs=>match vTI c,jzl cs with
  | some x,some xs=>some (x::xs)
  | _,_=>none
def vTD:TD→Option Value
 | .one (.c c)=>vTI c
 | .one (.agg cs)=>(jzl cs).map fun xs=>.agg ⟨xs⟩
 | .tup _=>none
theorem jv7 {c:TC} {v:Value} (h:vTI c=some v):jyu (eC c)=some v:=by
 unfold vTI at h
 split at h<;>simp only [Option.some.injEq,reduceCtorEq] at h<;>subst h<;>rfl
theorem jn2 : ∀ {cs:List TC} {xs:List Value},jzl cs=some xs→qz9 (cs.map eC)=some xs
 | [],xs,h=>by simp only [jzl,Option.some.injEq] at h;subst h;rfl
 | c::cs,xs,h=>by
  unfold jzl at h
  split at h
  case h_2=>cases h
  rename_i x ys hx hy
  simp only [Option.some.injEq] at h;subst h
  rw [List.map_cons]
  unfold qz9
  rw [jv7 hx,jn2 hy]
theorem jzg {d:TD} {v:Value} (h:vTD d=some v):k0g (eD d)=some v:=by
 unfold vTD at h
 split at h
 ·exact jv7 h
 ·obtain ⟨xs,h1,rfl⟩:=Option.map_eq_some_iff.1 h
  show (qz9 _).map _=_
  rw [jn2 h1];rfl
 ·cases h
def j04 (P:Program) (t:TypeId) (x:TD) (k:TRes→Option α):Option α:=match P.concrete t,vTD x with
 | true,some v=>k (vC (.d .any (mkIV t v)))
 | _,_=>none
theorem j9x {t:TypeId} {x:TD} {k:TRes→Option α} {r:α} (h:j04 P t x k=some r) : ∃ z,k z=some r∧Sim (qgu P t (eD x)) z:=by
 unfold j04 at h
 split at h
 case h_2=>cases h
 rename_i v hc hv
 exact ⟨_,h,Sim.tr (by unfold qgu;rw [hc,jzg hv];rfl)⟩
def j9s (P:Program) (op:BinOp) (t:TypeId) (x:TD) (k:TRes→Option α):Option α:=match jfo P t,op,x with
 | true,.eql,.one (.c (.d .any v))=>(qsd (Subtype.val (v:IV))).bind fun b=>k (vC (.d .bool b))
 | true,.neq,.one (.c (.d .any v))=>(qsd (Subtype.val (v:IV))).bind fun b=>k (vC (.d .bool (!b)))
 | _,_,_=>none
theorem jgy {op:BinOp} {t:TypeId} {x:TD} {k:TRes→Option α} {r:α} (h:j9s P op t x k=some r) : ∃ z,k z=some r∧Sim (qnv P op t (eD x)) z:=by
 unfold j9s at h
 split at h
 case h_3=>cases h
 ·rename_i v hc
  obtain ⟨b,hb,h⟩:=Option.bind_eq_some_iff.1 h
  exact ⟨_,h,Sim.tr (by simp only [qnv,hc,eD,e1,eC,q03,List.headD_cons,hb,Option.map_some];rfl)⟩
 ·rename_i v hc
  obtain ⟨b,hb,h⟩:=Option.bind_eq_some_iff.1 h
  exact ⟨_,h,Sim.tr (by simp only [qnv,hc,eD,e1,eC,q03,List.headD_cons,hb,Option.map_some];rfl)⟩
def w1 (x:Option TD) (f:TD→Option α):Option α:=match x with|some y=>f y|none=>none
def w0 (σ:TSt) (x:Option Operand) (f:Option TD→Option α):Option α:=match x with
 | none=>f none
 | some x=>match q0r σ x with|some y=>f (some y)|none=>none
theorem q0j {x:Option TD} {f:TD→Option α} {r:α} (h:w1 x f=some r) : ∃ y,x=some y∧f y=some r:=by
 cases x with
 | none=>cases h
 | some y=>exact ⟨y,rfl,h⟩
theorem jqr {x:Option Operand} {f:Option TD→Option α} {r:α} (h:w0 σ x f=some r) : ∃ y,x.map (opnd (eS σ))=y.map eD∧f y=some r:=by
 cases x with
 | none=>exact ⟨none,rfl,h⟩
 | some x =>
  unfold w0 at h
  simp only at h
  split at h
  ·rename_i y hy
   exact ⟨some y,by rw [Option.map_some,Option.map_some,q09 hy],h⟩
  ·cases h
def q58 (σ:TSt):List Operand→Option (List TD)
 | []=>some []
 | x::xs=>match q0r σ x,q58 σ xs with
  | some y,some ys=>some (y::ys)
  | _,_=>none
theorem qjv : ∀ {xs:List Operand} {ys:List TD},q58 σ xs=some ys→xs.map (opnd (eS σ))=ys.map eD
 | [],ys,h=>by simp only [q58,Option.some.injEq] at h;subst h;rfl
 | x::xs,ys,h=>by
  unfold q58 at h
  split at h
  case h_2=>cases h
  rename_i y zs h1 h2
  simp only [Option.some.injEq] at h;subst h
  rw [List.map_cons,List.map_cons,q09 h1,qjv h2]
def jds:List TD→Option (List Nat)
 | []=>some []
 | .one (.c (.box β 0))::ds=>(jds ds).map (β :: ·)
 | _=>none
theorem j2r : ∀ {ds:List TD} {cs:List Nat},jds ds=some cs→qr0 (ds.map eD)=some cs
 | [],cs,h=>h
 | d::ds,cs,h=>by
  unfold jds at h
  split at h
  ·rename_i h1;cases h1
  ·rename_i β ds' h1
   simp only [List.cons.injEq] at h1
   obtain ⟨rfl,rfl⟩:=h1
   obtain ⟨cs',h2,rfl⟩:=Option.map_eq_some_iff.1 h
   show (qr0 (ds.map eD)).map _=_
   rw [j2r h2];rfl
  ·cases h
def jzx (f:Nat) (ds:Option (List TD)) (k:TRes→Option α):Option α:=match ds with
 | some ds=>match jds ds with
  | some (c::cs)=>k { val:=.one (.c (.fn f (c::cs))) }
  | _=>none
 | none=>none
def j9u {β:Type} (s:List UInt8):List (List UInt8×β)→Option β
 | []=>none
 | (k,v)::l=>if s=k then some v else j9u s l
def jzi {β:Type} (s:List UInt8) (y:β):List (List UInt8×β)→List (List UInt8×β)
 | []=>[(s,y)]
 | (k,v)::l=>if s=k then (s,y)::l else (k,v)::jzi s y l
def jyd {β:Type} (o:Option β) (z:β) (f:β→Bool→Option α):Option α:=f (o.getD z) o.isSome
theorem j57 (V:Ty) (s:List UInt8) (y:den V):q03 (.prod .str V) ((s,y):List UInt8×den V)=Dat.v (.string (ba s))::q03 V y:=rfl
theorem jfd {V:Ty} (s:List UInt8) : ∀ (xs:List (List UInt8×den V)),findD (ba s) (xs.map (q03 (.prod .str V)))=some ((j9u s xs).map fun y=>q03 (.prod .str V) ((s,y):List UInt8×den V))
 | []=>rfl
 | (k,v)::xs=>by
  show (match qvi (ba s) (q03 (.prod .str V) ((k,v):List UInt8×den V)) with|some true=>some (some (q03 (.prod .str V) ((k,v):List UInt8×den V)))|some false=>findD (ba s) (xs.map (q03 (.prod .str V)))|none=>none)=_
  have h1:qvi (ba s) (q03 (.prod .str V) ((k,v):List UInt8×den V))=some (decide (s=k)):=by
   rw [j57]
   show some (decide (ba s=ba k))=_
   rw [jg0]
  rw [h1,j9u]
  by_cases hk:s=k
  ·subst hk
   rw [decide_eq_true rfl,if_pos rfl];rfl
  ·rw [decide_eq_false hk,if_neg hk]
   exact jfd s xs
theorem jpw {V:Ty} (s:List UInt8) (y:den V) : ∀ (xs:List (List UInt8×den V)),jvj (ba s) (q03 V y) (xs.map (q03 (.prod .str V)))=some ((jzi s y xs).map (q03 (.prod .str V)))
 | []=>rfl
 | (k,v)::xs=>by
  show (match qvi (ba s) (q03 (.prod .str V) ((k,v):List UInt8×den V)) with|some true=>some ((Dat.v (.string (ba s))::q03 V y)::xs.map (q03 (.prod .str V)))|some false=>(jvj (ba s) (q03 V y) (xs.map (q03 (.prod .str V)))).map (q03 (.prod .str V) ((k,v):List UInt8×den V) :: ·)|none=>none)=_
  have h1:qvi (ba s) (q03 (.prod .str V) ((k,v):List UInt8×den V))=some (decide (s=k)):=by
   rw [j57]
   show some (decide (ba s=ba k))=_
   rw [jg0]
  rw [h1,jzi]
  by_cases hk:s=k
  ·subst hk
   rw [decide_eq_true rfl,if_pos rfl];rfl
  ·rw [decide_eq_false hk,if_neg hk]
   show (jvj (ba s) (q03 V y) (xs.map (q03 (.prod .str V)))).map _=_
   rw [jpw s y xs];rfl
def qmy (P:Program) (dst:Option Nat) (t:TypeId) (σ:TSt) (k:TRes→Option α):Option α:=match dst,mTy P t with
 | some i,some (T,el)=>match lk σ.boxes i,tyE P el with
  | none,some V=>if i<1000000∧width V=mVw T then k { val:=.one (.c (.mv i)),box:=some (i,(T,[.d (.lst (.prod .str V)) ([]:List (List UInt8×den V))])) } else none
  | _,_=>none
 | _,_=>none
theorem qz6 {dst:Option Nat} {t:TypeId} {k:TRes→Option α} {r:α} (h:qmy P dst t σ k=some r) : ∃ y,k y=some r∧Sim (q3x P dst t (eS σ).box) y:=by
 unfold qmy at h
 split at h
 case h_2=>cases h
 rename_i i T el hT
 split at h
 case h_2=>cases h
 rename_i V hb hV
 split at h
 case isFalse=>cases h
 rename_i hc
 refine ⟨_,h,Sim.tr ?_⟩
 simp only [q3x,hT,qp6 hb,hc.1,if_true,← hc.2]
 rfl
def tvD (T:Nat) (V:Ty) (y:den V):TD1:=match mVa T with
 | true=>.agg (qtb V y)
 | false=>.c (.d V y)
def tokD (ok:Bool) (x:TD1) (b:Bool):TD:=match ok with
 | true=>.tup [x,.c (.d .bool b)]
 | false=>.one x
def k0r:Value→Bool
 | .agg _=>true
 | _=>false
def jzy:TD1→Bool
 | .agg _=>true
 | _=>false
def qqq (P:Program) (t:TypeId) (x i:TD) (ok:Bool) (σ:TSt) (k:TRes→Option α):Option α:=match mTy P t,x,i with
 | some (T,el),.one (.c (.mv β)),.one (.c (.d .str s))=>match lk σ.boxes β,k0x P el with
  | some (T',[.d (.lst (.prod .str V)) xs]),some z=>if T'=T∧k0r z=mVa T then
    match quc z.cells.toList with
    | some zs=>match j6z V zs with
     | some z0=>jyd (j9u s (xs:List (List UInt8×den V))) z0 fun y b=>k { val:=tokD ok (tvD T V y) b }
     | none=>none
    | none=>none
   else none
  | _,_=>none
 | _,_,_=>none
theorem j71 {t:TypeId} {x i:TD} {ok:Bool} {k:TRes→Option α} {r:α} (h:qqq P t x i ok σ k=some r) : ∃ y,k y=some r∧Sim (q3t P t (eD x) (eD i) ok (eS σ).box) y:=by
 unfold qqq at h
 split at h
 case h_2=>cases h
 rename_i T el β s hT
 split at h
 case h_2=>cases h
 rename_i T' V xs z hb hz
 split at h
 case isFalse=>cases h
 rename_i hc
 obtain ⟨rfl,hag⟩:=hc
 split at h
 case h_2=>cases h
 rename_i zs hzs
 split at h
 case h_2=>cases h
 rename_i z0 hz0
 refine ⟨_,h,Sim.tr ?_⟩
 have hfd:=jfd s (xs:List (List UInt8×den V))
 have hbx:(eS σ).box β=some (T',[.d (.lst (width (.prod .str V)) ((xs:List (List UInt8×den V)).map (q03 (.prod .str V))))]):=q5k hb
 show q3t P t (.one (.c (.mv β))) (.one (.c (.d (.v (.string (ba s)))))) ok (eS σ).box=_
 simp only [q3t,hT,hbx,hz,if_true,hfd]
 have hd : ∀ (x:D1) (y:TD1) (b:Bool),x=e1 y→okD ok x b=eD (tokD ok y b):=fun x y b hxy=>by
  subst hxy;cases ok<;>rfl
 cases hm:j9u s (xs:List (List UInt8×den V)) with
 | some y =>
  simp only [Option.map_some,Option.getD_some,Option.isSome_some]
  rw [hd (vD T' ((q03 (.prod .str V) ((s,y):List UInt8×den V)).drop 1)) (tvD T' V y) true ?_]
  ·rfl
  ·show vD T' (q03 V y)=_
   unfold vD tvD
   cases mVa T' with
   | true=>show D1.agg _ = .agg _;rw [q7e]
   | false=>rfl
 | none =>
  simp only [Option.map_none,Option.getD_none,Option.isSome_none]
  rw [hd (of1 z) (tvD T' V z0) false ?_]
  ·rfl
  ·have h1:=qe3 hz0
   rw [q7l hzs] at h1
   unfold tvD
   rw [← hag]
   cases z with
   | agg cs =>
    show D1.agg _ = .agg _
    rw [q7e,← h1];rfl
   | _ =>
    have h2 : [_]=q03 V z0:=jx8 (l:=[_]) h1
    show D1.c _ = .c (.d ((q03 V z0).headD _))
    rw [← h2];rfl
def qih (P:Program) (t:TypeId) (m i x:TD) (σ:TSt) (k:TRes→Option α):Option α:=match mTy P t,m,i with
 | some (T,_),.one (.c (.mv β)),.one (.c (.d .str s))=>match lk σ.boxes β,x with
  | some (T',[.d (.lst (.prod .str V)) xs]),.one y=>if T'=T∧(q7o y).all okT=true∧(q7o y).length=mVw T∧jzy y=mVa T then
    match j6z V (q7o y) with
    | some v=>k { val:=.one (.c .undef),box:=some (β,(T,[.d (.lst (.prod .str V)) (jzi s v (xs:List (List UInt8×den V)))])) }
    | none=>none
   else none
  | _,_=>none
 | _,_,_=>none
theorem qno {t:TypeId} {m i x:TD} {k:TRes→Option α} {r:α} (h:qih P t m i x σ k=some r) : ∃ y,k y=some r∧Sim (q2v P t (eD m) (eD i) (eD x) (eS σ).box) y:=by
 unfold qih at h
 split at h
 case h_2=>cases h
 rename_i T el β s hT
 split at h
 case h_2=>cases h
 rename_i T' V xs y hb
 split at h
 case isFalse=>cases h
 rename_i hc
 obtain ⟨rfl,hok,hlen,hag⟩:=hc
 split at h
 case h_2=>cases h
 rename_i v hv
 refine ⟨_,h,Sim.tr ?_⟩
 have hbx:(eS σ).box β=some (T',[.d (.lst (width (.prod .str V)) ((xs:List (List UInt8×den V)).map (q03 (.prod .str V))))]):=q5k hb
 show q2v P t (.one (.c (.mv β))) (.one (.c (.d (.v (.string (ba s)))))) (.one (e1 y)) (eS σ).box=_
 have h1:(q0n (e1 y)).all okC=true:=by rw [q2c];exact j01 hok
 have h2:(q0n (e1 y)).length=mVw T':=by rw [q2c,List.length_map];exact hlen
 have h3:jvd (e1 y)=mVa T':=by rw [← hag];cases y<;>rfl
 have h4:(q0n (e1 y)).mapM qp2=some (q03 V v):=by rw [q2c,qe3 hv,q9v]
 generalize e1 y=y1 at h1 h2 h3 h4
 have hput:=jpw s v (xs:List (List UInt8×den V))
 simp only [q2v,hT,hbx,h1,h2,h3,and_self,if_true,h4,hput,Option.map_some]
 rfl
def rowD:TD→Bool
 | .one (.c (.row _ _))=>true
 | _=>false
def tev (P:Program) (o:Oper) (σ:TSt) (k:TRes→Option α):Option α:=match o.op with
 | .move x=>w1 (q0r σ x) fun y=>k { val:=y }
 | .assign x=>w1 (q0r σ x) fun y=>k { val:=y }
 | .pick c x y=>w1 (q0r σ c) fun c=>w1 (q0r σ x) fun x=>w1 (q0r σ y) fun y=>j9h c x y k
 | .alloc t=>j1m P o.dst t σ k
 | .box t x=>w1 (q0r σ x) fun x=>jle o.dst t x σ k
 | .load t x=>w1 (q0r σ x) fun x=>jb2 P t x σ k
 | .store t x y=>w1 (q0r σ x) fun x=>w1 (q0r σ y) fun y=>j06 P t x y σ k
 | .fieldAddr t x f=>w1 (q0r σ x) fun x=>qd3 P t x f k
 | .field t x f=>w1 (q0r σ x) fun x=>j16 P t x f k
 | .index t x i=>w1 (q0r σ x) fun x=>w1 (q0r σ i) fun i=>j14 P t x i k
 | .indexAddr t x i=>w1 (q0r σ x) fun x=>w1 (q0r σ i) fun i=>qcp P t x i σ k
 | .extract x i=>w1 (q0r σ x) fun x=>qln x i k
 | .build t ps=>j23 P t ps σ k
 | .buildSlice t n ps=>qb8 P o.dst t n ps σ k
 | .binOp op t x y _=>bif qg4 y then w1 (q0r σ x) fun x=>j9s P op t x k else w1 (q0r σ x) fun x=>w1 (q0r σ y) fun y=>jlr P op t x y k
 | .makeInterface t x=>w1 (q0r σ x) fun x=>j04 P t x k
 | .unOp op _ x=>w1 (q0r σ x) fun x=>jxv op x k
 | .convert s d x=>w1 (q0r σ x) fun x=>bif j1k P s d then qmd P o.dst s d x σ k else j8m P s d x k
 | .slice t x lo hi none=>w1 (q0r σ x) fun x=>w0 σ lo fun lo=>w0 σ hi fun hi=>bif rowD x then qgd P t x lo hi σ k else j0p P t x lo hi k
 | .nilCheck x=>w1 (q0r σ x) fun x=>jnt x k
 | .call ⟨.builtin .len,⟨[x]⟩,⟨[t]⟩⟩=>w1 (q0r σ x) fun x=>jks P t x σ k
 | .call ⟨.builtin .append,⟨[s,x]⟩,⟨[t,t']⟩⟩=>if t=t' then w1 (q0r σ s) fun s=>w1 (q0r σ x) fun x=>qss P o.dst t s x σ k else none
 | .makeSlice t x y=>bif qnp x y then w1 (q0r σ x) fun x=>j9q P o.dst t x σ k else none
 | .call ⟨.builtin .max,⟨[x,y]⟩,⟨[_,_]⟩⟩=>w1 (q0r σ x) fun x=>w1 (q0r σ y) fun y=>jt4 max x y k
 | .call ⟨.builtin .min,⟨[x,y]⟩,⟨[_,_]⟩⟩=>w1 (q0r σ x) fun x=>w1 (q0r σ y) fun y=>jt4 min x y k
 | .makeFunc (.func f) ⟨[]⟩ cs=>jzx f (q58 σ cs.toList) k
 | .makeMap t none=>qmy P o.dst t σ k
 | .lookup t m i ok=>w1 (q0r σ m) fun m=>w1 (q0r σ i) fun i=>qqq P t m i ok σ k
 | .mapUpdate t m i x=>w1 (q0r σ m) fun m=>w1 (q0r σ i) fun i=>w1 (q0r σ x) fun x=>qih P t m i x σ k
 | .insert t m i x=>w1 (q0r σ m) fun m=>w1 (q0r σ i) fun i=>w1 (q0r σ x) fun x=>qih P t m i x σ k
 | _=>none
theorem jvo {o:Oper} {k:TRes→Option α} {r:α} (h:tev P o σ k=some r) : ∃ y,k y=some r∧Sim (qfs P o (opnd (eS σ)) (eS σ).box (eS σ).row) y:=by
 unfold tev at h
 unfold qfs
 split at h
 ·rename_i ho;rw [ho]
  obtain ⟨x1,e1',h⟩:=q0j h
  exact ⟨_,h,Sim.tr (by show some _=_;rw [q09 e1'];rfl)⟩
 ·rename_i ho;rw [ho]
  obtain ⟨x1,e1',h⟩:=q0j h
  exact ⟨_,h,Sim.tr (by show some _=_;rw [q09 e1'];rfl)⟩
 ·rename_i ho;rw [ho]
  obtain ⟨x1,e1',h⟩:=q0j h
  obtain ⟨x2,e2',h⟩:=q0j h
  obtain ⟨x3,e3',h⟩:=q0j h
  show ∃ y,_∧Sim (qx9 _ _ _) y
  rw [q09 e1',q09 e2',q09 e3'];exact jjm h
 ·rename_i ho;rw [ho]
  exact j9r h
 ·rename_i ho;rw [ho]
  obtain ⟨x1,e1',h⟩:=q0j h
  show ∃ y,_∧Sim (qq7 _ _ _ _) y
  rw [q09 e1'];exact jmf h
 ·rename_i ho;rw [ho]
  obtain ⟨x1,e1',h⟩:=q0j h
  show ∃ y,_∧Sim (q9p _ _ _ _ _) y
  rw [q09 e1'];exact jhe h
 ·rename_i ho;rw [ho]
  obtain ⟨x1,e1',h⟩:=q0j h
  obtain ⟨x2,e2',h⟩:=q0j h
  show ∃ y,_∧Sim (q3a _ _ _ _ _ _) y
  rw [q09 e1',q09 e2'];exact j8p h
 ·rename_i ho;rw [ho]
  obtain ⟨x1,e1',h⟩:=q0j h
  show ∃ y,_∧Sim (q28 _ _ _ _) y
  rw [q09 e1'];exact qt7 h
 ·rename_i ho;rw [ho]
  obtain ⟨x1,e1',h⟩:=q0j h
  show ∃ y,_∧Sim (qbq _ _ _ _) y
  rw [q09 e1'];exact j85 h
 ·rename_i ho;rw [ho]
  obtain ⟨x1,e1',h⟩:=q0j h
  obtain ⟨x2,e2',h⟩:=q0j h
  show ∃ y,_∧Sim (q5h _ _ _ _) y
  rw [q09 e1',q09 e2'];exact j86 h
 ·rename_i ho;rw [ho]
  obtain ⟨x1,e1',h⟩:=q0j h
  obtain ⟨x2,e2',h⟩:=q0j h
  show ∃ y,_∧Sim (q0s _ _ _ _ _) y
  rw [q09 e1',q09 e2'];exact qtn h
 ·rename_i ho;rw [ho]
  obtain ⟨x1,e1',h⟩:=q0j h
  show ∃ y,_∧Sim (q7g _ _) y
  rw [q09 e1'];exact qzw h
 ·rename_i ho;rw [ho]
  exact jb4 h
 ·rename_i ho;rw [ho]
  exact qou h
 ·rename_i ho;rw [ho]
  show ∃ y,_∧Sim (bif qg4 _ then qnv _ _ _ _ else qcg _ _ _ _ _) y
  cases hn:qg4 _ with
  | true =>
   rw [hn] at h
   obtain ⟨x1,e1',h⟩:=q0j h
   rw [q09 e1'];exact jgy h
  | false =>
   rw [hn] at h
   obtain ⟨x1,e1',h⟩:=q0j h
   obtain ⟨x2,e2',h⟩:=q0j h
   rw [q09 e1',q09 e2'];exact jmu h
 ·rename_i ho;rw [ho]
  obtain ⟨x1,e1',h⟩:=q0j h
  show ∃ y,_∧Sim (qgu _ _ _) y
  rw [q09 e1'];exact j9x h
 ·rename_i ho;rw [ho]
  obtain ⟨x1,e1',h⟩:=q0j h
  show ∃ y,_∧Sim (jz1 _ _) y
  rw [q09 e1'];exact jra h
 ·rename_i ho;rw [ho]
  obtain ⟨x1,e1',h⟩:=q0j h
  show ∃ y,_∧Sim (match qfa _ _ _ _ with|some r=>some r|none=>q32 _ _ _ _ _ _) y
  rw [q09 e1']
  cases hb:j1k P _ _ with
  | true =>
   rw [hb] at h
   rw [j8h hb]
   exact j13 h
  | false =>
   rw [hb] at h
   obtain ⟨y,h1,c,h2,h3⟩:=jih (P:=P) h
   rw [h3]
   exact ⟨y,h1,c,h2,rfl⟩
 ·rename_i ho;rw [ho]
  obtain ⟨x1,e1',h⟩:=q0j h
  obtain ⟨x2,e2',h⟩:=jqr h
  obtain ⟨x3,e3',h⟩:=jqr h
  show ∃ y,_∧Sim (match q6y _ _ _ _ _ with|some r=>some r|none=>q2q _ _ _ _ _ _) y
  rw [q09 e1',e2',e3']
  cases hb:rowD x1 with
  | true =>
   rw [hb] at h
   obtain ⟨y,h1,h2,h3⟩:=qvl (P:=P) h
   rw [h2]
   exact ⟨y,h1,h3⟩
  | false =>
   rw [hb] at h
   obtain ⟨y,h1,c,h2,h3⟩:=jab (P:=P) h
   rw [h3]
   exact ⟨y,h1,c,h2,rfl⟩
 ·rename_i ho;rw [ho]
  obtain ⟨x1,e1',h⟩:=q0j h
  show ∃ y,_∧Sim (jlj _) y
  rw [q09 e1'];exact jmm h
 ·rename_i ho;rw [ho]
  obtain ⟨x1,e1',h⟩:=q0j h
  show ∃ y,_∧Sim (qlo _ _ _ _) y
  rw [q09 e1'];exact jlw h
 ·rename_i ho;rw [ho]
  split at h
  case isFalse=>cases h
  rename_i ht
  obtain ⟨x1,e1',h⟩:=q0j h
  obtain ⟨x2,e2',h⟩:=q0j h
  show ∃ y,_∧Sim (if _=_ then q2p _ _ _ _ _ _ else none) y
  rw [if_pos ht,q09 e1',q09 e2'];exact j5v h
 ·rename_i ho;rw [ho]
  cases hs:qnp _ _ with
  | false=>rw [hs] at h;cases h
  | true =>
   rw [hs] at h
   obtain ⟨x1,e1',h⟩:=q0j h
   show ∃ y,_∧Sim (bif qnp _ _ then qj5 _ _ _ _ _ else none) y
   rw [hs,q09 e1'];exact jhi h
 ·rename_i ho;rw [ho]
  obtain ⟨x1,e1',h⟩:=q0j h
  obtain ⟨x2,e2',h⟩:=q0j h
  show ∃ y,_∧Sim (juc _ _ _) y
  rw [q09 e1',q09 e2'];exact jcs h
 ·rename_i ho;rw [ho]
  obtain ⟨x1,e1',h⟩:=q0j h
  obtain ⟨x2,e2',h⟩:=q0j h
  show ∃ y,_∧Sim (juc _ _ _) y
  rw [q09 e1',q09 e2'];exact jcs h
 ·rename_i f cs ho;rw [ho]
  unfold jzx at h
  split at h
  case h_2=>cases h
  rename_i ds hds
  split at h
  case h_2=>cases h
  rename_i c cs' hc
  refine ⟨_,h,Sim.tr ?_⟩
  show k0o f (cs.toList.map (opnd (eS σ)))=_
  rw [qjv hds]
  unfold k0o
  rw [j2r hc]
  rfl
 ·rename_i ho;rw [ho]
  exact qz6 h
 ·rename_i ho;rw [ho]
  obtain ⟨x1,e1',h⟩:=q0j h
  obtain ⟨x2,e2',h⟩:=q0j h
  show ∃ y,_∧Sim (q3t _ _ _ _ _ _) y
  rw [q09 e1',q09 e2'];exact j71 h
 ·rename_i ho;rw [ho]
  obtain ⟨x1,e1',h⟩:=q0j h
  obtain ⟨x2,e2',h⟩:=q0j h
  obtain ⟨x3,e3',h⟩:=q0j h
  show ∃ y,_∧Sim (q2v _ _ _ _ _ _) y
  rw [q09 e1',q09 e2',q09 e3'];exact qno h
 ·rename_i ho;rw [ho]
  obtain ⟨x1,e1',h⟩:=q0j h
  obtain ⟨x2,e2',h⟩:=q0j h
  obtain ⟨x3,e3',h⟩:=q0j h
  show ∃ y,_∧Sim (q2v _ _ _ _ _ _) y
  rw [q09 e1',q09 e2',q09 e3'];exact qno h
 ·cases h
end Go.Proofs.YtggoebaobojmjaaGreatDoor.AM
namespace Go.Proofs.YtggoebaobojmjaaGreatDoor.AM
open Go.RowKit
set_option linter.unusedVariables false
set_option linter.unusedSimpArgs false
inductive SC where
 | d (ty:Ty)
 | nil
 | box (β off:Nat)
 | row (t:Nat)
 | fn (f:Nat) (caps:List Nat)
 | mv (β:Nat)
 | undef
 | bad
inductive S1 where
 | c (x:SC)
 | agg (cs:List SC)
inductive SD where
 | one (x:S1)
 | tup (xs:List S1)
@[reducible] def pC:SC→Type
 | .d ty=>den ty
 | _=>Unit
@[reducible] def pCs:List SC→Type
 | []=>Unit
 | [c]=>pC c
 | c::c'::cs=>pC c×pCs (c'::cs)
@[reducible] def p1:S1→Type
 | .c x=>pC x
 | .agg cs=>pCs cs
@[reducible] def p1s:List S1→Type
 | []=>Unit
 | [x]=>p1 x
 | x::x'::xs=>p1 x×p1s (x'::xs)
@[reducible] def pD:SD→Type
 | .one x=>p1 x
 | .tup xs=>p1s xs
@[reducible] def pDs:List SD→Type
 | []=>Unit
 | [x]=>pD x
 | x::x'::xs=>pD x×pDs (x'::xs)
def rC:(c:SC)→pC c→TC
 | .d ty,x=>.d ty x
 | .nil,_=>.nil
 | .box β o,_=>.box β o
 | .row t,_=>.row t 0
 | .fn f cs,_=>.fn f cs
 | .mv β,_=>.mv β
 | .undef,_=>.undef
 | .bad,_=>.bad
def rCs:(cs:List SC)→pCs cs→List TC
 | [],_=>[]
 | [c],x=>[rC c x]
 | c::c'::cs,(p:pC c×pCs (c'::cs))=>rC c p.1::rCs (c'::cs) p.2
def r1:(s:S1)→p1 s→TD1
 | .c x,p=>.c (rC x p)
 | .agg cs,p=>.agg (rCs cs p)
def r1s:(xs:List S1)→p1s xs→List TD1
 | [],_=>[]
 | [x],p=>[r1 x p]
 | x::x'::xs,(p:p1 x×p1s (x'::xs))=>r1 x p.1::r1s (x'::xs) p.2
def rD:(d:SD)→pD d→TD
 | .one x,p=>.one (r1 x p)
 | .tup xs,p=>.tup (r1s xs p)
def rDs:(ds:List SD)→pDs ds→List TD
 | [],_=>[]
 | [x],p=>[rD x p]
 | x::x'::xs,(p:pD x×pDs (x'::xs))=>rD x p.1::rDs (x'::xs) p.2
structure SR where
 E:Nat
 wr:Bool
 e:Ty
structure SSt where
 slots:List (Nat×SD)
 boxes:List (Nat×(Nat×List SC))
 rows:List (Nat×SR)
@[reducible] def pSl:List (Nat×SD)→Type
 | []=>Unit
 | x::l=>pD x.2×pSl l
@[reducible] def pBx:List (Nat×(Nat×List SC))→Type
 | []=>Unit
 | x::l=>pCs x.2.2×pBx l
@[reducible] def pRw:List (Nat×SR)→Type
 | []=>Unit
 | x::l=>List (den x.2.e)×pRw l
@[reducible] def pSt (sh:SSt):Type:=pSl sh.slots×pBx sh.boxes×pRw sh.rows
def rSl:(l:List (Nat×SD))→pSl l→List (Nat×TD)
 | [],_=>[]
 | x::l,(p:pD x.2×pSl l)=>(x.1,rD x.2 p.1)::rSl l p.2
def rBx:(l:List (Nat×(Nat×List SC)))→pBx l→List (Nat×(Nat×List TC))
 | [],_=>[]
 | x::l,(p:pCs x.2.2×pBx l)=>(x.1,(x.2.1,rCs x.2.2 p.1))::rBx l p.2
def rRw:(l:List (Nat×SR))→pRw l→List (Nat×TRow)
 | [],_=>[]
 | x::l,(p:List (den x.2.e)×pRw l)=>(x.1,⟨0,x.2.E,x.2.wr,x.2.e,p.1⟩)::rRw l p.2
def rSt (sh:SSt) (p:pSt sh):TSt:=⟨rSl sh.slots p.1,rBx sh.boxes p.2.1,rRw sh.rows p.2.2⟩
def isS {β:Type} : Option β→Bool
 | some _=>true
 | none=>false
def cDat (σ:TSt) (ty:Ty):TC→Option (den ty)
 | .d ty' y=>if h:ty'=ty then some (h ▸ y) else none
 | .nil=>match ty with
  | .lst e=>some ([]:List (den e))
  | _=>none
 | .row t g=>match lk σ.rows t with
  | some r=>if h:Ty.lst r.e=ty then (if r.gen=g∧r.wr=false then some (h ▸ r.xs) else none) else none
  | none=>none
 | _=>none
def cC (sh:SSt) (σ:TSt):(c:SC)→TC→Option (pC c)
 | .d ty,x=>cDat σ ty x
 | .bad,_=>some ()
 | .nil,.nil=>some ()
 | .box β o,.box β' o'=>if β=β'∧o=o'∧isS (lk sh.boxes β)=true then some () else none
 | .row t,.row t' g=>match lk σ.rows t' with
  | some r=>if t=t'∧r.gen=g∧isS (lk sh.rows t)=true then some () else none
  | none=>none
 | .row t,.nil=>if isS (lk σ.rows t)=false∧isS (lk sh.rows t)=true then some () else none
 | .fn f cs,.fn f' cs'=>if f=f'∧cs=cs'∧cs.all (fun β=>isS (lk sh.boxes β))=true then some () else none
 | .mv β,.mv β'=>if β=β'∧isS (lk sh.boxes β)=true then some () else none
 | .undef,.undef=>some ()
 | _,_=>none
def cCs (sh:SSt) (σ:TSt):(cs:List SC)→List TC→Option (pCs cs)
 | [],[]=>some ()
 | [c],[x]=>cC sh σ c x
 | c::c'::cs,x::xs=>match cC sh σ c x,cCs sh σ (c'::cs) xs with
  | some p,some q=>some (p,q)
  | _,_=>none
 | _,_=>none
def c1 (sh:SSt) (σ:TSt):(s:S1)→TD1→Option (p1 s)
 | .c c,.c x=>cC sh σ c x
 | .agg cs,.agg xs=>cCs sh σ cs xs
 | _,_=>none
def c1s (sh:SSt) (σ:TSt):(ss:List S1)→List TD1→Option (p1s ss)
 | [],[]=>some ()
 | [c],[x]=>c1 sh σ c x
 | c::c'::cs,x::xs=>match c1 sh σ c x,c1s sh σ (c'::cs) xs with
  | some p,some q=>some (p,q)
  | _,_=>none
 | _,_=>none
def cD (sh:SSt) (σ:TSt):(d:SD)→TD→Option (pD d)
 | .one s,.one x=>c1 sh σ s x
 | .tup ss,.tup xs=>c1s sh σ ss xs
 | _,_=>none
def cDs (sh:SSt) (σ:TSt):(ds:List SD)→List TD→Option (pDs ds)
 | [],[]=>some ()
 | [c],[x]=>cD sh σ c x
 | c::c'::cs,x::xs=>match cD sh σ c x,cDs sh σ (c'::cs) xs with
  | some p,some q=>some (p,q)
  | _,_=>none
 | _,_=>none
def cSl (sh:SSt) (σ:TSt):(l:List (Nat×SD))→Option (pSl l)
 | []=>some ()
 | x::l=>match (lk σ.slots x.1).bind (cD sh σ x.2),cSl sh σ l with
  | some p,some q=>some (p,q)
  | _,_=>none
def mSh2:List SC→List TC→Bool
 | [.d _],[.d _ _]=>true
 | _,_=>false
theorem jwf {cs:List SC} {xs:List TC} (h:(bif false then true else mSh2 cs xs)=true) : ∃ ty ty' y,cs = [.d ty]∧xs = [.d ty' y]:=by
 replace h:mSh2 cs xs=true:=h
 unfold mSh2 at h
 split at h
 ·exact ⟨_,_,_,rfl,rfl⟩
 ·cases h
def mSh (T:Nat) (cs:List SC) (xs:List TC):Bool:=bif q7y T then true else mSh2 cs xs
def cBx (sh:SSt) (σ:TSt):(l:List (Nat×(Nat×List SC)))→Option (pBx l)
 | []=>some ()
 | x::l=>match (lk σ.boxes x.1).bind (fun q=>if q.1=x.2.1∧mSh x.2.1 x.2.2 q.2=true then cCs sh σ x.2.2 q.2 else none),cBx sh σ l with
  | some p,some q=>some (p,q)
  | _,_=>none
def cR (sr:SR):Option TRow→Option (List (den sr.e))
 | none=>some []
 | some r=>if h:r.e=sr.e then (if r.E=sr.E∧r.wr=sr.wr then some (h ▸ r.xs) else none) else none
def cRw (σ:TSt):(l:List (Nat×SR))→Option (pRw l)
 | []=>some ()
 | x::l=>match cR x.2 (lk σ.rows x.1),cRw σ l with
  | some p,some q=>some (p,q)
  | _,_=>none
def cSt (sh:SSt) (σ:TSt):Option (pSt sh):=match cSl sh σ sh.slots,cBx sh σ sh.boxes,cRw σ sh.rows with
 | some a,some b,some c=>some (a,b,c)
 | _,_,_=>none
structure Rd (sh:SSt) (σ:TSt) (F:Fr) (σa:St) (e:Env) (w:World) (σ':St) (e':Env):Prop where
 hp:Hp F σa e w
 pc:e'.Pc=e.Pc
 bx : ∀ β,isS (lk sh.boxes β)=true→(σ'.box β).isSome=true∧e'.m β=e.m β
 rw : ∀ t,isS (lk sh.rows t)=true→(∃ r',σ'.row t=some r'∧0≤r'.gen)∧e'.rv t 0=match lk σ.rows t with|some r=>e.rv t r.gen|none=>.slice none 0 0
def jvy (σ:TSt) (σa:St):TC→Prop
 | .row t _=>∀ r,lk σ.rows t=some r→σa.row t=some (eR r)
 | _=>True
variable {sh:SSt} {σ:TSt} {F:Fr} {σa σ':St} {e e':Env} {w:World}
theorem qq9 {Pc:Nat→Nat→Prop} {w:World} (sz:Nat):DatRep Pc w (.slice none 0 0) (.lst sz []) :=
 .lst none 0 0 sz [] 0 0 (fun _ _=>undef) rfl (Nat.le_refl _) (by unfold maxLen;omega) (fun x hx=>by cases hx) (fun h0=>by simp at h0) (fun k j hk=>by simp at hk) (fun k j hk=>by simp at hk)
theorem k08 {β:Type} {x:Option β} (h:isS x=false):x=none:=by
 cases x with
 | none=>rfl
 | some y=>cases h
theorem jw8 (h:Rd sh σ F σa e w σ' e') {ty:Ty} {x:TC} {p:den ty} (hc:cDat σ ty x=some p) (hs:jvy σ σa x) {v:Value} (hv:q1w e σa w v (eC x)):q1w e' σ' w v (eC (.d ty p)):=by
 unfold cDat at hc
 split at hc
 ·rename_i ty' y
  split at hc
  case isFalse=>cases hc
  rename_i ht
  subst ht
  simp only [Option.some.injEq] at hc
  subst hc
  show DatRep e'.Pc w v _
  rw [h.pc];exact hv
 ·split at hc
  ·simp only [Option.some.injEq] at hc
   subst hc
   have:v = .slice none 0 0:=qh0 hv
   subst this
   show DatRep e'.Pc w _ _
   exact qq9 _
  ·cases hc
 ·rename_i t g
  split at hc
  case h_2=>cases hc
  rename_i r hr
  split at hc
  case isFalse=>cases hc
  rename_i ht
  subst ht
  split at hc
  case isFalse=>cases hc
  rename_i hg
  obtain ⟨rfl,hw⟩:=hg
  simp only [Option.some.injEq] at hc
  subst hc
  obtain ⟨_,h5,_⟩:(∃ r',σa.row t=some r'∧r.gen≤r'.gen)∧v=e.rv t r.gen∧_:=hv
  show DatRep e'.Pc w v _
  rw [h.pc,h5]
  exact h.hp.rowDat (r:=eR r) (hs r hr) hw
 ·cases hc
theorem jyl (h:Rd sh σ F σa e w σ' e') {c:SC} {x:TC} {p:pC c} (hc:cC sh σ c x=some p) (hs:jvy σ σa x) {v:Value} (hv:q1w e σa w v (eC x)):q1w e' σ' w v (eC (rC c p)):=by
 unfold cC at hc
 split at hc
 ·exact jw8 h hc hs hv
 ·trivial
 ·show DatRep e'.Pc w v _
  rw [h.pc];exact hv
 ·rename_i β o β' o'
  split at hc
  case isFalse=>cases hc
  rename_i hh
  obtain ⟨rfl,rfl,hb⟩:=hh
  obtain ⟨h1,h2⟩:=h.bx β hb
  exact ⟨h1,by rw [h2];exact hv.2⟩
 ·rename_i t t' g
  split at hc
  case h_2=>cases hc
  rename_i r hr
  split at hc
  case isFalse=>cases hc
  rename_i hh
  obtain ⟨rfl,rfl,hb⟩:=hh
  obtain ⟨h1,h2⟩:=h.rw t hb
  refine ⟨h1,?_,hv.2.2⟩
  rw [h2,hr];exact hv.2.1
 ·rename_i t
  split at hc
  case isFalse=>cases hc
  rename_i hh
  obtain ⟨hn,hb⟩:=hh
  obtain ⟨h1,h2⟩:=h.rw t hb
  have:v = .slice none 0 0:=qh0 hv
  subst this
  refine ⟨h1,?_,none,0,0,rfl⟩
  rw [h2,k08 hn]
 ·rename_i f cs f' cs'
  split at hc
  case isFalse=>cases hc
  rename_i hh
  obtain ⟨rfl,rfl,hb⟩:=hh
  cases cs with
  | nil =>
   show DatRep e'.Pc w v _
   rw [h.pc];exact hv
  | cons c cs =>
   have hv':(∀ β∈c::cs,(σa.box β).isSome=true)∧v = .func (.func f) #[] ((c::cs).map fun β=>Value.pointer (some ⟨e.m β,0,none⟩)).toArray:=hv
   refine ⟨fun β hβ=>(h.bx β (List.all_eq_true.1 hb β hβ)).1,?_⟩
   rw [hv'.2]
   congr 2
   apply List.map_congr_left
   intro β hβ
   rw [(h.bx β (List.all_eq_true.1 hb β hβ)).2]
 ·rename_i β β'
  split at hc
  case isFalse=>cases hc
  rename_i hh
  obtain ⟨rfl,hb⟩:=hh
  obtain ⟨h1,h2⟩:=h.bx β hb
  exact ⟨h1,by rw [h2];exact hv.2⟩
 ·show DatRep e'.Pc w v _
  rw [h.pc];exact hv
 ·cases hc
theorem jkp (h:Rd sh σ F σa e w σ' e') : ∀ {cs:List SC} {xs:List TC} {p:pCs cs},cCs sh σ cs xs=some p→(∀ x∈xs,jvy σ σa x)→∀ {vs:List Value},q0i (q1w e σa w) vs (xs.map eC)→q0i (q1w e' σ' w) vs ((rCs cs p).map eC)
 | [],[],p,_,_,[],_=>trivial
 | [],[],p,_,_,_::_,hv=>hv.elim
 | [c],[x],p,hc,hs,[v],hv=>⟨jyl h hc (hs _ (List.mem_cons_self ..)) hv.1,trivial⟩
 | [c],[x],p,hc,hs,[],hv=>hv.elim
 | [c],[x],p,hc,hs,_::_::_,hv=>hv.2.elim
 | c::c'::cs,x::xs,p,hc,hs,v::vs,hv=>by
  unfold cCs at hc
  split at hc
  case h_2=>cases hc
  rename_i p1 q1 h1 h2
  obtain rfl:(p1,q1)=p:=Option.some.inj hc
  exact ⟨jyl h h1 (hs _ (List.mem_cons_self ..)) hv.1,jkp h h2 (fun y hy=>hs y (List.mem_cons_of_mem _ hy)) hv.2⟩
 | c::c'::cs,x::xs,p,hc,hs,[],hv=>hv.elim
 | [],_::_,_,hc,_,_,_=>by simp [cCs] at hc
 | [_],[],_,hc,_,_,_=>by simp [cCs] at hc
 | [_],_::_::_,_,hc,_,_,_=>by simp [cCs] at hc
 | _::_::_,[],_,hc,_,_,_=>by simp [cCs] at hc
theorem jwh (h:Rd sh σ F σa e w σ' e') {b T:Nat} {cs:List SC} {xs:List TC} {p:pCs cs} (hm:mSh T cs xs=true) (hc:cCs sh σ cs xs=some p) (hs : ∀ x∈xs,jvy σ σa x) (hv:j2c e σa w b T (xs.map eC)):j2c e' σ' w b T ((rCs cs p).map eC):=by
 rcases hv with ⟨h0,vs,h1,h2,h3⟩|⟨h0,sz,ys,h1,h2⟩
 ·exact Or.inl ⟨h0,vs,h1,jkp h hc hs h2,h3⟩
 ·unfold mSh at hm
  cases hb:q7y T with
  | true=>have:=q2z hb;omega
  | false =>
  rw [hb] at hm
  obtain ⟨ty,ty',y,rfl,rfl⟩:=jwf hm
  replace hc:(if h:ty'=ty then some (h ▸ y) else none)=some p:=hc
  split at hc
  case isFalse=>cases hc
  rename_i ht
  subst ht
  have hp:y=p:=Option.some.inj hc
  subst hp
  exact Or.inr ⟨h0,sz,ys,h1,by rw [h.pc];exact h2⟩
def jzs (σ:TSt) (σa:St):TD1→Prop
 | .c x=>jvy σ σa x
 | .agg xs=>∀ x∈xs,jvy σ σa x
theorem jr6 (h:Rd sh σ F σa e w σ' e') {s:S1} {x:TD1} {p:p1 s} (hc:c1 sh σ s x=some p) (hs:jzs σ σa x) {v:Value} (hv:q9c e σa w v (e1 x)):q9c e' σ' w v (e1 (r1 s p)):=by
 unfold c1 at hc
 split at hc
 ·exact jyl h hc hs hv
 ·obtain ⟨vs,rfl,h2⟩:=hv
  exact ⟨vs,rfl,jkp h hc hs h2⟩
 ·cases hc
theorem jq4 (h:Rd sh σ F σa e w σ' e') : ∀ {cs:List S1} {xs:List TD1} {p:p1s cs},c1s sh σ cs xs=some p→(∀ x∈xs,jzs σ σa x)→∀ {vs:List Value},q0i (q9c e σa w) vs (xs.map e1)→q0i (q9c e' σ' w) vs ((r1s cs p).map e1)
 | [],[],p,_,_,[],_=>trivial
 | [],[],p,_,_,_::_,hv=>hv.elim
 | [c],[x],p,hc,hs,[v],hv=>⟨jr6 h hc (hs _ (List.mem_cons_self ..)) hv.1,trivial⟩
 | [c],[x],p,hc,hs,[],hv=>hv.elim
 | [c],[x],p,hc,hs,_::_::_,hv=>hv.2.elim
 | c::c'::cs,x::xs,p,hc,hs,v::vs,hv=>by
  unfold c1s at hc
  split at hc
  case h_2=>cases hc
  rename_i p1 q1 h1 h2
  obtain rfl:(p1,q1)=p:=Option.some.inj hc
  exact ⟨jr6 h h1 (hs _ (List.mem_cons_self ..)) hv.1,jq4 h h2 (fun y hy=>hs y (List.mem_cons_of_mem _ hy)) hv.2⟩
 | c::c'::cs,x::xs,p,hc,hs,[],hv=>hv.elim
 | [],_::_,_,hc,_,_,_=>by simp [c1s] at hc
 | [_],[],_,hc,_,_,_=>by simp [c1s] at hc
 | [_],_::_::_,_,hc,_,_,_=>by simp [c1s] at hc
 | _::_::_,[],_,hc,_,_,_=>by simp [c1s] at hc
def SrcD (σ:TSt) (σa:St):TD→Prop
 | .one x=>jzs σ σa x
 | .tup xs=>∀ x∈xs,jzs σ σa x
theorem jw3 (h:Rd sh σ F σa e w σ' e') {d:SD} {x:TD} {p:pD d} (hc:cD sh σ d x=some p) (hs:SrcD σ σa x) {v:Value} (hv:q1c e σa w v (eD x)):q1c e' σ' w v (eD (rD d p)):=by
 unfold cD at hc
 split at hc
 ·exact jr6 h hc hs hv
 ·obtain ⟨vs,rfl,h2⟩:=hv
  exact ⟨vs,rfl,jq4 h hc hs h2⟩
 ·cases hc
theorem jdb (h:Rd sh σ F σa e w σ' e') : ∀ {cs:List SD} {xs:List TD} {p:pDs cs},cDs sh σ cs xs=some p→(∀ x∈xs,SrcD σ σa x)→∀ {vs:List Value},q0i (q1c e σa w) vs (xs.map eD)→q0i (q1c e' σ' w) vs ((rDs cs p).map eD)
 | [],[],p,_,_,[],_=>trivial
 | [],[],p,_,_,_::_,hv=>hv.elim
 | [c],[x],p,hc,hs,[v],hv=>⟨jw3 h hc (hs _ (List.mem_cons_self ..)) hv.1,trivial⟩
 | [c],[x],p,hc,hs,[],hv=>hv.elim
 | [c],[x],p,hc,hs,_::_::_,hv=>hv.2.elim
 | c::c'::cs,x::xs,p,hc,hs,v::vs,hv=>by
  unfold cDs at hc
  split at hc
  case h_2=>cases hc
  rename_i p1 q1 h1 h2
  obtain rfl:(p1,q1)=p:=Option.some.inj hc
  exact ⟨jw3 h h1 (hs _ (List.mem_cons_self ..)) hv.1,jdb h h2 (fun y hy=>hs y (List.mem_cons_of_mem _ hy)) hv.2⟩
 | c::c'::cs,x::xs,p,hc,hs,[],hv=>hv.elim
 | [],_::_,_,hc,_,_,_=>by simp [cDs] at hc
 | [_],[],_,hc,_,_,_=>by simp [cDs] at hc
 | [_],_::_::_,_,hc,_,_,_=>by simp [cDs] at hc
 | _::_::_,[],_,hc,_,_,_=>by simp [cDs] at hc
theorem jbh : ∀ x:TC,jvy σ (eS σ) x
 | .row t g=>fun r hr=>q2w hr
 | .d _ _=>trivial
 | .nil=>trivial
 | .box _ _=>trivial
 | .mv _=>trivial
 | .rp _ _ _=>trivial
 | .wp _ _ _ _=>trivial
 | .bp _ _ _ _=>trivial
 | .fn _ _=>trivial
 | .undef=>trivial
 | .bad=>trivial
theorem qz1 (x:TD1):jzs σ (eS σ) x:=by
 cases x with
 | c x=>exact jbh x
 | agg xs=>exact fun x _=>jbh x
theorem jau (x:TD):SrcD σ (eS σ) x:=by
 cases x with
 | one x=>exact qz1 x
 | tup xs=>exact fun x _=>qz1 x
theorem jv3 : ∀ {l:List (Nat×SD)} {p:pSl l} {i:Nat},cSl sh σ l=some p→(lk (rSl l p) i=none) ∨ ∃ d x q,lk σ.slots i=some x∧cD sh σ d x=some q∧lk (rSl l p) i=some (rD d q)
 | [],_,i,_=>Or.inl rfl
 | x::l,p,i,h=>by
  unfold cSl at h
  split at h
  case h_2=>cases h
  rename_i p1 q1 h1 h2
  obtain rfl:(p1,q1)=p:=Option.some.inj h
  obtain ⟨y,hy,h3⟩:=Option.bind_eq_some_iff.1 h1
  have e0:lk (rSl (x::l) (p1,q1)) i=if i=x.1 then some (rD x.2 p1) else lk (rSl l q1) i:=q0l ..
  rw [e0]
  by_cases hi:i=x.1
  ·rw [if_pos hi];subst hi
   exact Or.inr ⟨x.2,y,p1,hy,h3,rfl⟩
  ·rw [if_neg hi]
   exact jv3 h2
theorem jqo : ∀ {l:List (Nat×(Nat×List SC))} {p:pBx l} {i:Nat},cBx sh σ l=some p→(lk (rBx l p) i=none∧lk l i=none) ∨ ∃ T cs xs q,lk σ.boxes i=some (T,xs)∧cCs sh σ cs xs=some q∧lk (rBx l p) i=some (T,rCs cs q)∧lk l i=some (T,cs)∧mSh T cs xs=true
 | [],_,i,_=>Or.inl ⟨rfl,rfl⟩
 | x::l,p,i,h=>by
  unfold cBx at h
  split at h
  case h_2=>cases h
  rename_i p1 q1 h1 h2
  obtain rfl:(p1,q1)=p:=Option.some.inj h
  obtain ⟨y,hy,h3⟩:=Option.bind_eq_some_iff.1 h1
  split at h3
  case isFalse=>cases h3
  rename_i hT
  obtain ⟨hT,hsh⟩:=hT
  have e0:lk (rBx (x::l) (p1,q1)) i=if i=x.1 then some (x.2.1,rCs x.2.2 p1) else lk (rBx l q1) i:=q0l ..
  have e1:lk (x::l) i=if i=x.1 then some x.2 else lk l i:=q0l ..
  rw [e0,e1]
  by_cases hi:i=x.1
  ·rw [if_pos hi,if_pos hi];subst hi
   exact Or.inr ⟨x.2.1,x.2.2,y.2,p1,by rw [hy,← hT],h3,rfl,rfl,hsh⟩
  ·rw [if_neg hi,if_neg hi]
   exact jqo h2
theorem jl9 : ∀ {l:List (Nat×SR)} {p:pRw l} {i:Nat},cRw σ l=some p→(lk (rRw l p) i=none∧lk l i=none) ∨ ∃ r' sr,lk (rRw l p) i=some r'∧lk l i=some sr∧r'.gen=0∧((∃ r,lk σ.rows i=some r∧r' = { r with gen:=0 })∨(lk σ.rows i=none∧r'.xs = []))
 | [],_,i,_=>Or.inl ⟨rfl,rfl⟩
 | x::l,p,i,h=>by
  unfold cRw at h
  split at h
  case h_2=>cases h
  rename_i p1 q1 h1 h2
  obtain rfl:(p1,q1)=p:=Option.some.inj h
  have e0:lk (rRw (x::l) (p1,q1)) i=if i=x.1 then some ⟨0,x.2.E,x.2.wr,x.2.e,p1⟩ else lk (rRw l q1) i:=q0l ..
  have e1:lk (x::l) i=if i=x.1 then some x.2 else lk l i:=q0l ..
  rw [e0,e1]
  by_cases hi:i=x.1
  ·rw [if_pos hi,if_pos hi];subst hi
   refine Or.inr ⟨_,_,rfl,rfl,rfl,?_⟩
   unfold cR at h1
   split at h1
   ·rename_i hn
    simp only [Option.some.injEq] at h1
    exact Or.inr ⟨hn,h1.symm⟩
   ·rename_i r hr
    obtain ⟨i,⟨E,wr,e⟩⟩:=x
    obtain ⟨gen,E',wr',e',xs⟩:=r
    split at h1
    case isFalse=>cases h1
    rename_i he
    have he':e'=e:=he
    subst he'
    split at h1
    case isFalse=>cases h1
    rename_i hh
    obtain ⟨hh1,hh2⟩:=hh
    have hh1':E'=E:=hh1
    have hh2':wr'=wr:=hh2
    subst hh1' hh2'
    have h1':xs=p1:=Option.some.inj h1
    subst h1'
    exact Or.inl ⟨_,hr,rfl⟩
  ·rw [if_neg hi,if_neg hi]
   exact jl9 h2
def jz7 (σ:TSt) (e:Env):Env:={ e with rv:=fun t g=>match lk σ.rows t with|some r=>e.rv t r.gen|none=>.slice none 0 0 }
theorem jfn {p:pSt sh} (h:cSt sh σ=some p):cSl sh σ sh.slots=some p.1∧cBx sh σ sh.boxes=some p.2.1∧cRw σ sh.rows=some p.2.2:=by
 unfold cSt at h
 split at h
 case h_2=>cases h
 rename_i a b c h1 h2 h3
 obtain rfl:(a,b,c)=p:=Option.some.inj h
 exact ⟨h1,h2,h3⟩
theorem jzj {p:pSt sh} (h:cSt sh σ=some p) (hp:Hp F (eS σ) e w):Rd sh σ F (eS σ) e w (eS (rSt sh p)) (jz7 σ e):=by
 obtain ⟨h1,h2,h3⟩:=jfn h
 refine ⟨hp,rfl,fun β hβ=>⟨?_,rfl⟩,fun t ht=>⟨?_,rfl⟩⟩
 ·rcases jqo (i:=β) h2 with ⟨_,h5⟩|⟨T,cs,xs,q,h5,h6,h7,h8⟩
  ·rw [h5] at hβ;cases hβ
  ·rw [q5k (σ:=rSt sh p) (show lk (rSt sh p).boxes β=_ from h7)];rfl
 ·rcases jl9 (i:=t) h3 with ⟨_,h5⟩|⟨r',sr,h5,h6,h7,h8⟩
  ·rw [h5] at ht;cases ht
  ·exact ⟨eR r',q2w (σ:=rSt sh p) h5,Nat.zero_le _⟩
theorem jfu {a:Act} {p:pSt sh} (h:cSt sh σ=some p) (hR:R F (eS σ) e a w):R F (eS (rSt sh p)) (jz7 σ e) a w:=by
 have hd:=jzj h hR.hp
 obtain ⟨h1,h2,h3⟩:=jfn h
 have hp:=hR.hp
 have boxes : ∀ β T cs',(eS (rSt sh p)).box β=some (T,cs')→∃ cs xs q,lk σ.boxes β=some (T,xs)∧cCs sh σ cs xs=some q∧cs'=(rCs cs q).map eC∧mSh T cs xs=true:=fun β T cs' hb=>by
  rcases jqo (i:=β) h2 with ⟨h5,_⟩|⟨T',cs,xs,q,h5,h6,h7,h8⟩
  ·rw [qp6 (σ:=rSt sh p) h5] at hb;cases hb
  ·rw [q5k (σ:=rSt sh p) (show lk (rSt sh p).boxes β=_ from h7)] at hb
   simp only [Option.some.injEq,Prod.mk.injEq] at hb
   obtain ⟨rfl,rfl⟩:=hb
   exact ⟨cs,xs,q,h5,h6,rfl,h8.2⟩
 have boxS : ∀ β,((eS (rSt sh p)).box β).isSome=true→((eS σ).box β).isSome=true:=fun β hβ=>by
  obtain ⟨⟨T,cs⟩,hx⟩:=Option.isSome_iff_exists.1 hβ
  obtain ⟨_,xs,_,h5,_⟩:=boxes β T cs hx
  rw [q5k h5];rfl
 have rows : ∀ t r',(eS (rSt sh p)).row t=some r'→(∃ r,lk σ.rows t=some r∧r' = { eR r with gen:=0 }∧(jz7 σ e).rv t r'.gen=e.rv t r.gen)∨(lk σ.rows t=none∧r'.xs = []∧(jz7 σ e).rv t r'.gen = .slice none 0 0):=fun t r' hr=>by
  rcases jl9 (i:=t) h3 with ⟨h5,_⟩|⟨r1,sr,h5,h6,h7,h8⟩
  ·rw [qa3 (σ:=rSt sh p) h5] at hr;cases hr
  ·rw [q2w (σ:=rSt sh p) h5] at hr
   simp only [Option.some.injEq] at hr
   subst hr
   rcases h8 with ⟨r,h9,rfl⟩|⟨h9,h10⟩
   ·exact Or.inl ⟨r,h9,rfl,by show (match lk σ.rows t with|some r=>e.rv t r.gen|none=>_)=_;rw [h9]⟩
   ·exact Or.inr ⟨h9,by show r1.xs.map _ = [];rw [h10];rfl,by show (match lk σ.rows t with|some r=>e.rv t r.gen|none=>_)=_;rw [h9]⟩
 refine ⟨hR.defers,hR.size,fun i=>?_,?_⟩
 ·rcases jv3 (i:=i) h1 with h5|⟨d,x,q,h5,h6,h7⟩
  ·show q1c _ _ w _ (match lk (rSl sh.slots p.1) i with|some x=>eD x|none=>.one (.c .bad))
   rw [h5];trivial
  ·show q1c _ _ w _ (match lk (rSl sh.slots p.1) i with|some x=>eD x|none=>.one (.c .bad))
   rw [h7]
   refine jw3 hd h6 (jau x) ?_
   have:=hR.slots i
   show q1c e (eS σ) w _ (eD x)
   have e5:(eS σ).slot i=eD x:=by show (match lk σ.slots i with|some x=>eD x|none=>_)=_;rw [h5]
   rw [← e5];exact this
 ·refine ⟨hp.below,hp.pc0,hp.pcNew,hp.pcLt,fun β T cs' hx=>?_,fun β hβ=>hp.boxPc β (boxS β hβ),fun β β' hβ hβ'=>hp.boxNe β β' (boxS β hβ) (boxS β' hβ'),fun t r' hr=>?_,fun t r' b hr hw hb o ho=>?_,fun t r' b hr hb o ho=>?_,fun t r' b β hr hb hβ=>?_,fun t t' r r' b hn hr hr' hb=>?_,⟨hp.kp.keep,hp.kp.wkLe,fun β hβ=>hp.kp.boxK β (boxS β hβ),fun t r' b hr hb=>?_,hp.kp.pcK,hp.kp.cellK,hp.kp.boxM⟩⟩
  ·obtain ⟨cs,xs,q,h5,h6,rfl,h7⟩:=boxes β T cs' hx
   obtain ⟨g1,g2⟩:=hp.boxes β T (xs.map eC) (q5k h5)
   exact ⟨g1,jwh hd h7 h6 (fun x _=>jbh x) g2⟩
  ·rcases rows t r' hr with ⟨r,h5,rfl,h6⟩|⟨h5,h6,h7⟩
   ·obtain ⟨g1,cells,g2,g3,g4⟩:=hp.rows t (eR r) (q2w h5)
    refine ⟨g1,cells,?_,g3,g4⟩
    rw [h6];exact g2
   ·rw [h7,h6]
    exact ⟨fun x hx=>(by cases hx),[],j4u _ _ _ _,trivial,fun u hu=>(by cases hu)⟩
  ·rcases rows t r' hr with ⟨r,h5,rfl,h6⟩|⟨h5,h6,h7⟩
   ·rw [h6] at hb
    exact hp.rowPro t (eR r) b (q2w h5) hw hb o ho
   ·rw [h7] at hb;cases hb
  ·rcases rows t r' hr with ⟨r,h5,rfl,h6⟩|⟨h5,h6,h7⟩
   ·rw [h6] at hb
    exact hp.rowPc t (eR r) b (q2w h5) hb o ho
   ·rw [h7] at hb;cases hb
  ·rcases rows t r' hr with ⟨r,h5,rfl,h6⟩|⟨h5,h6,h7⟩
   ·rw [h6] at hb
    exact hp.rowBox t (eR r) b β (q2w h5) hb (boxS β hβ)
   ·rw [h7] at hb;cases hb
  ·rcases rows t r hr with ⟨r1,h5,rfl,h6⟩|⟨h5,h6,h7⟩
   ·rw [h6] at hb
    rcases rows t' r' hr' with ⟨r2,k5,rfl,k6⟩|⟨k5,k6,k7⟩
    ·rw [k6];exact hp.rowNe t t' (eR r1) (eR r2) b hn (q2w h5) (q2w k5) hb
    ·rw [k7];simp [Value.ownBlock]
   ·rw [h7] at hb;cases hb
  ·rcases rows t r' hr with ⟨r,h5,rfl,h6⟩|⟨h5,h6,h7⟩
   ·rw [h6] at hb
    exact hp.kp.rowK t (eR r) b (q2w h5) hb
   ·rw [h7] at hb;cases hb
end Go.Proofs.YtggoebaobojmjaaGreatDoor.AM
