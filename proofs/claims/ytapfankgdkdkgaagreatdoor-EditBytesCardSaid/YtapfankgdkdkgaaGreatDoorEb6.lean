
import Derived.Test.YtapfankgdkdkgaaGreatDoorEb5
set_option linter.unusedVariables false
set_option linter.unusedSimpArgs false
namespace Go.Proofs.YtapfankgdkdkgaaGreatDoor.AM
open Go.RowKit
variable {α:Type} {P:Program} {σ:TSt}
def intT (op:BinOp) (k k':IntKind) (a b:Int) (c:TC→Option α):Option α:=match op with
 | .shl=>(shlO k a b).bind fun z=>c (.d (.int k) z)
 | .shr=>(shrO k a b).bind fun z=>c (.d (.int k) z)
 | .add=>if k=k' then q04 (k.wrap (a+b)) fun z=>c (.d (.int k) z) else none
 | .sub=>if k=k' then q04 (k.wrap (a - b)) fun z=>c (.d (.int k) z) else none
 | .mul=>if k=k' then q04 (k.wrap (a*b)) fun z=>c (.d (.int k) z) else none
 | .quo=>if k=k' then (k72 k a b).bind fun z=>c (.d (.int k) z) else none
 | .rem=>if k=k' then (k2h a b).bind fun z=>c (.d (.int k) z) else none
 | .and=>if k=k' then q04 (andI k a b) fun z=>c (.d (.int k) z) else none
 | .or=>if k=k' then q04 (orI k a b) fun z=>c (.d (.int k) z) else none
 | .xor=>if k=k' then q04 (xorI k a b) fun z=>c (.d (.int k) z) else none
 | .eql=>if k=k' then c (.d .bool (decide (a=b))) else none
 | .neq=>if k=k' then c (.d .bool (!decide (a=b))) else none
 | .lss=>if k=k' then c (.d .bool (decide (a<b))) else none
 | .leq=>if k=k' then c (.d .bool (decide (a≤b))) else none
 | .gtr=>if k=k' then c (.d .bool (decide (b<a))) else none
 | .geq=>if k=k' then c (.d .bool (decide (b≤a))) else none
 | _=>none
def strT (op:BinOp) (s t:Yy) (c:TC→Option α):Option α:=match op with
 | .add=>(q7s s t).bind fun z=>c (.d .str z)
 | .eql=>c (.d .bool (decide (s=t)))
 | .neq=>c (.d .bool (!decide (s=t)))
 | .lss=>c (.d .bool (ltS s t))
 | .leq=>c (.d .bool (ltS s t||decide (s=t)))
 | .gtr=>c (.d .bool (!(ltS s t||decide (s=t))))
 | .geq=>c (.d .bool (!ltS s t))
 | _=>none
def vC (c:TC):TRes:={ val:=.one (.c c) }
theorem k6j {op:BinOp} {T:TypeId} {k k':IntKind} {a b:Int} {c:TC→Option α} {r:α} (h:intT op k k' a b c=some r) :
  ∃ x,c x=some r∧Sim (qe2 P op T (.one (.c (.d (.v (.int k a))))) (.one (.c (.d (.v (.int k' b)))))) (vC x):=by
 unfold intT at h
 split at h
 case h_1 =>
  obtain ⟨z,hz,h⟩:=Option.bind_eq_some_iff.1 h
  unfold shlO at hz
  split at hz
  case isFalse=>cases hz
  rename_i hb
  simp only [Option.some.injEq] at hz;subst hz
  exact ⟨_,h,_,hb,rfl⟩
 case h_2 =>
  obtain ⟨z,hz,h⟩:=Option.bind_eq_some_iff.1 h
  unfold shrO at hz
  split at hz
  case isFalse=>cases hz
  rename_i hb
  simp only [Option.some.injEq] at hz;subst hz
  exact ⟨_,h,_,hb,rfl⟩
 case h_6 =>
  split at h
  case isFalse=>cases h
  rename_i hk;subst hk
  obtain ⟨z,hz,h⟩:=Option.bind_eq_some_iff.1 h
  unfold k72 at hz
  split at hz
  case isFalse=>cases hz
  rename_i hb
  simp only [Option.some.injEq] at hz;subst hz
  refine ⟨_,h,_,hb,?_⟩
  simp only [qe2,if_true,qsu,Option.map_some];rfl
 case h_7 =>
  split at h
  case isFalse=>cases h
  rename_i hk;subst hk
  obtain ⟨z,hz,h⟩:=Option.bind_eq_some_iff.1 h
  unfold k2h at hz
  split at hz
  case isFalse=>cases hz
  rename_i hb
  simp only [Option.some.injEq] at hz;subst hz
  refine ⟨_,h,_,hb,?_⟩
  simp only [qe2,if_true,qsu,Option.map_some];rfl
 case h_17=>cases h
 all_goals
  split at h
  case isFalse=>cases h
  rename_i hk;subst hk
  refine ⟨_,h,Sim.tr ?_⟩
  simp only [qe2,if_true,qsu,Option.map_some];rfl
theorem k8m {s t:Yy} : (ba s=ba t)=(s=t):=by
 apply propext
 constructor
 ·intro h
  have:=congrArg ByteArray.data h
  exact Array.toList_inj.2 this |> fun h=>by simpa [ba] using h
 ·rintro rfl;rfl
theorem qaa (s:Yy):(ba s).toList=s:=by rw [ByteArray.toList_eq];rfl
theorem jqe (s t:Yy):ba s++ba t=ba (s++t):=by
 apply ByteArray.ext
 rw [ByteArray.data_append]
 simp [ba]
theorem js1 (s t:Yy):decide (ba s=ba t)=decide (s=t):=by simp only [k8m]
theorem k5p {op:BinOp} {T:TypeId} {s t:Yy} {c:TC→Option α} {r:α} (h:strT op s t c=some r) :
  ∃ x,c x=some r∧Sim (qe2 P op T (.one (.c (.d (.v (.string (ba s)))))) (.one (.c (.d (.v (.string (ba t))))))) (vC x):=by
 unfold strT at h
 split at h
 case h_1 =>
  obtain ⟨z,hz,h⟩:=Option.bind_eq_some_iff.1 h
  unfold q7s at hz
  split at hz
  case isFalse=>cases hz
  rename_i hb
  simp only [Option.some.injEq] at hz;subst hz
  refine ⟨_,h,_,hb,?_⟩
  simp only [qe2,j02,Option.map_some,q3m,jqe];rfl
 case h_8=>cases h
 all_goals
  refine ⟨_,h,Sim.tr ?_⟩
  simp only [qe2,j02,Option.map_some,qaa,js1];rfl
def eqC1 (P:Program) (t:TypeId) (x y:TC):Option Bool:=match P.underlying t,x,y with
 | some .bool,.d .bool a,.d .bool b=>some (decide ((a:Bool)=b))
 | some (.int _),.d (.int k) a,.d (.int k') b=>if k=k' then some (decide ((a:Int)=b)) else none
 | some .string,.d .str a,.d .str b=>some (decide ((a:Yy)=b))
 | _,_,_=>none
def vT:TC→Option Value
 | .d (.int k) n=>some (.int k n)
 | .d .bool b=>some (.bool b)
 | .d .str s=>some (.string (ba s))
 | _=>none
def vTs:List TC→Option (List Value)
 | []=>some []
 | c::cs=>match vT c,vTs cs with
  | some x,some xs=>some (x::xs)
  | _,_=>none
theorem vT_ok {c:TC} {v:Value} (h:vT c=some v):eC c = .d (.v v):=by
 unfold vT at h
 split at h<;>simp only [Option.some.injEq,reduceCtorEq] at h<;>subst h<;>rfl
theorem jte : ∀ {cs:List TC} {xs:List Value},vTs cs=some xs→jpg (cs.map eC)=some xs
 | [],xs,h=>by simp only [vTs,Option.some.injEq] at h;subst h;rfl
 | c::cs,xs,h=>by
  unfold vTs at h
  split at h
  case h_2=>cases h
  rename_i x ys hx hy
  simp only [Option.some.injEq] at h;subst h
  rw [List.map_cons,vT_ok hx]
  show (jpg (cs.map eC)).map (x :: ·)=_
  rw [jte hy];rfl
def jsv (P:Program) (rec:TypeId→List TC→List TC→Option Bool):List Field→List TC→List TC→Option Bool
 | [],_,_=>some true
 | f::fs,xs,ys=>if f.name = "_" then none else match j10 P f.type with
  | some false=>match nth xs f.offset,nth ys f.offset with
   | some x,some y=>match eqC1 P f.type x y,jsv P rec fs xs ys with
    | some b,some c=>some (b&&c)
    | _,_=>none
   | _,_=>none
  | some true=>match tsz P f.type with
   | some m=>if f.offset+m≤xs.length∧f.offset+m≤ys.length then match rec f.type ((xs.drop f.offset).take m) ((ys.drop f.offset).take m),jsv P rec fs xs ys with
     | some b,some c=>some (b&&c)
     | _,_=>none
    else none
   | none=>none
  | none=>none
def eqST (P:Program):Nat→TypeId→List TC→List TC→Option Bool
 | 0,_,_,_=>none
 | n+1,t,xs,ys=>match P.underlying t with
  | some (.struct fs)=>if P.stoodInHeld t=false then jsv P (eqST P n) fs.toList xs ys else none
  | _=>none
theorem k4a {t:TypeId} {x y:TC} {u v:Value} {b:Bool} (hx:vT x=some u) (hy:vT y=some v) (h:eqC1 P t x y=some b):eqV P t u v=some b:=by
 unfold eqC1 at h
 split at h
 ·rename_i hu
  simp only [vT,Option.some.injEq] at hx hy h;subst hx hy h
  simp only [eqV,hu]
 ·rename_i hu
  split at h
  case isFalse=>cases h
  rename_i hk;subst hk
  simp only [vT,Option.some.injEq] at hx hy h;subst hx hy h
  simp only [eqV,hu,if_true]
 ·rename_i hu
  simp only [vT,Option.some.injEq] at hx hy h;subst hx hy h
  simp only [eqV,hu,js1]
 ·cases h
theorem jg9 : ∀ {cs:List TC} {xs:List Value} {i:Nat} {c:TC},vTs cs=some xs→nth cs i=some c→∃ v,xs[i]? = some v∧vT c=some v
 | [],_,_,_,_,h=>by cases h
 | c0::cs,xs,i,c,h,hn=>by
  unfold vTs at h
  split at h
  case h_2=>cases h
  rename_i x ys hx hy
  simp only [Option.some.injEq] at h;subst h
  cases i with
  | zero=>simp only [nth,Option.some.injEq] at hn;subst hn;exact ⟨x,rfl,hx⟩
  | succ i =>
   obtain ⟨v,h1,h2⟩:=jg9 hy (show nth cs i=some c from hn)
   exact ⟨v,by simpa using h1,h2⟩
theorem jqf : ∀ {cs:List TC} {xs:List Value} (o m:Nat),vTs cs=some xs→vTs ((cs.drop o).take m)=some ((xs.drop o).take m):=by
 have tk : ∀ {cs:List TC} {xs:List Value} (m:Nat),vTs cs=some xs→vTs (cs.take m)=some (xs.take m):=by
  intro cs
  induction cs with
  | nil=>intro xs m h;simp only [vTs,Option.some.injEq] at h;subst h;simp [vTs]
  | cons c cs ih =>
   intro xs m h
   unfold vTs at h
   split at h
   case h_2=>cases h
   rename_i x ys hx hy
   simp only [Option.some.injEq] at h;subst h
   cases m with
   | zero=>rfl
   | succ m =>
    rw [List.take_succ_cons,List.take_succ_cons]
    unfold vTs
    rw [hx,ih m hy]
 have dr : ∀ {cs:List TC} {xs:List Value} (o:Nat),vTs cs=some xs→vTs (cs.drop o)=some (xs.drop o):=by
  intro cs
  induction cs with
  | nil=>intro xs o h;simp only [vTs,Option.some.injEq] at h;subst h;simp [vTs]
  | cons c cs ih =>
   intro xs o h
   cases o with
   | zero=>exact h
   | succ o =>
    unfold vTs at h
    split at h
    case h_2=>cases h
    rename_i x ys hx hy
    simp only [Option.some.injEq] at h;subst h
    rw [List.drop_succ_cons,List.drop_succ_cons]
    exact ih o hy
 intro cs xs o m h
 exact tk m (dr o h)
theorem jcl : ∀ {cs:List TC} {xs:List Value},vTs cs=some xs→xs.length=cs.length
 | [],xs,h=>by simp only [vTs,Option.some.injEq] at h;subst h;rfl
 | c::cs,xs,h=>by
  unfold vTs at h
  split at h
  case h_2=>cases h
  rename_i x ys hx hy
  simp only [Option.some.injEq] at h;subst h
  rw [List.length_cons,List.length_cons,jcl hy]
theorem j34 {rec:TypeId→List TC→List TC→Option Bool} {rec':TypeId→List Value→List Value→Option Bool} {us vs:List Value} {xs ys:List TC} (hx:vTs xs=some us) (hy:vTs ys=some vs)
  (hr : ∀ t o m b,rec t ((xs.drop o).take m) ((ys.drop o).take m)=some b→rec' t ((us.drop o).take m) ((vs.drop o).take m)=some b) : ∀ {fs:List Field} {b:Bool},jsv P rec fs xs ys=some b→jrm P rec' fs us vs=some b
 | [],b,h=>h
 | f::fs,b,h=>by
  unfold jsv at h
  split at h
  case isTrue=>cases h
  rename_i hn
  split at h
  ·rename_i h3
   split at h
   case h_2=>cases h
   rename_i x y h1 h2
   split at h
   case h_2=>cases h
   rename_i b1 b2 h4 h5
   obtain ⟨u,k1,k2⟩:=jg9 hx h1
   obtain ⟨v,k3,k4⟩:=jg9 hy h2
   unfold jrm
   rw [if_neg hn,h3]
   simp only [k1,k3,k4a k2 k4 h4,j34 hx hy hr h5]
   exact h
  ·rename_i h3
   split at h
   case h_2=>cases h
   rename_i m hm
   split at h
   case isFalse=>cases h
   rename_i hle
   split at h
   case h_2=>cases h
   rename_i b1 b2 h4 h5
   unfold jrm
   rw [if_neg hn,h3,hm]
   have hle':f.offset+m≤us.length∧f.offset+m≤vs.length:=by rw [jcl hx,jcl hy];exact hle
   simp only [hle',and_self,if_true,hr _ _ _ _ h4,j34 hx hy hr h5]
   exact h
  ·cases h
theorem jw7 : ∀ (n:Nat) {t:TypeId} {us vs:List Value} {xs ys:List TC} {b:Bool},vTs xs=some us→vTs ys=some vs→eqST P n t xs ys=some b→eqS P n t us vs=some b
 | 0,_,_,_,_,_,_,_,_,h=>by cases h
 | n+1,t,us,vs,xs,ys,b,hx,hy,h=>by
  unfold eqST at h
  split at h
  case h_2=>cases h
  rename_i fs hu
  split at h
  case isFalse=>cases h
  rename_i hc
  unfold eqS
  rw [hu]
  simp only [hc,if_true]
  exact j34 hx hy (fun t o m b hh=>jw7 n (jqf o m hx) (jqf o m hy) hh) h
def qth (P:Program) (t:TypeId) (xs ys:List TC):Option Bool:=match vTs xs,vTs ys with
 | some _,some _=>if P.eqGuardType P.depth t=false then eqST P 9 t xs ys else none
 | _,_=>none
theorem qox {t:TypeId} {xs ys:List TC} {b:Bool} (h:qth P t xs ys=some b):qfb P t (xs.map eC) (ys.map eC)=some b:=by
 unfold qth at h
 split at h
 case h_2=>cases h
 rename_i us vs hx hy
 split at h
 case isFalse=>cases h
 rename_i hc
 unfold qfb
 rw [jte hx,jte hy]
 simp only
 rw [if_pos hc]
 exact jw7 9 hx hy h
def ju8 (P:Program) (op:BinOp) (T:TypeId) (x y:TD) (k:TRes→Option α):Option α:=match x,y with
 | .one (.c (.d (.int kx) a)),.one (.c (.d (.int ky) b))=>intT op kx ky a b (fun c=>k (vC c))
 | .one (.c (.d .str s)),.one (.c (.d .str t))=>strT op s t (fun c=>k (vC c))
 | .one (.c (.d .bool a)),.one (.c (.d .bool b))=>match P.underlying T,op with
  | some .bool,.eql=>k (vC (.d .bool (decide ((a:Bool)=b))))
  | some .bool,.neq=>k (vC (.d .bool (!decide ((a:Bool)=b))))
  | _,_=>none
 | .one (.agg xs),.one (.agg ys)=>match op,qth P T xs ys with
  | .eql,some b=>k (vC (.d .bool b))
  | .neq,some b=>k (vC (.d .bool (!b)))
  | _,_=>none
 | _,_=>none
theorem jw0 {op:BinOp} {T:TypeId} {x y:TD} {k:TRes→Option α} {r:α} (h:ju8 P op T x y k=some r) : ∃ z,k z=some r∧Sim (qe2 P op T (eD x) (eD y)) z:=by
 unfold ju8 at h
 split at h
 ·obtain ⟨z,h1,h2⟩:=k6j (P:=P) (T:=T) h
  exact ⟨_,h1,h2⟩
 ·obtain ⟨z,h1,h2⟩:=k5p (P:=P) (T:=T) h
  exact ⟨_,h1,h2⟩
 ·split at h
  ·rename_i hu
   exact ⟨_,h,Sim.tr (by simp only [qe2,eD,e1,eC,q05,List.headD_cons,eqV,hu,Option.map_some];rfl)⟩
  ·rename_i hu
   exact ⟨_,h,Sim.tr (by simp only [qe2,eD,e1,eC,q05,List.headD_cons,eqV,hu,Option.map_some];rfl)⟩
  ·cases h
 ·split at h
  ·rename_i b hb
   exact ⟨_,h,Sim.tr (by simp only [qe2,eD,e1,qox hb,Option.map_some];rfl)⟩
  ·rename_i b hb
   exact ⟨_,h,Sim.tr (by simp only [qe2,eD,e1,qox hb,Option.map_some];rfl)⟩
  ·cases h
 ·cases h
def k4m (op:UnOp) (x:TD) (k:TRes→Option α):Option α:=match op,x with
 | .not,.one (.c (.d .bool b))=>k (vC (.d .bool (!(b:Bool))))
 | .neg,.one (.c (.d (.int kk) n))=>k (vC (.d (.int kk) (kk.wrap (0 - (n:Int)))))
 | _,_=>none
theorem jyh {op:UnOp} {x:TD} {k:TRes→Option α} {r:α} (h:k4m op x k=some r) : ∃ z,k z=some r∧Sim (k71 op (eD x)) z:=by
 unfold k4m at h
 split at h
 ·exact ⟨_,h,Sim.tr rfl⟩
 ·exact ⟨_,h,Sim.tr rfl⟩
 ·cases h
def jcp (P:Program) (src dst:TypeId) (x:TD) (k:TRes→Option α):Option α:=match P.underlying src,P.underlying dst,x with
 | some _,some (.int kk),.one (.c (.d (.int _) n))=>q04 (kk.wrap n) fun z=>k (vC (.d (.int kk) z))
 | some .string,some .string,.one (.c (.d .str s))=>k (vC (.d .str s))
 | _,_,_=>none
theorem jo1 {src dst:TypeId} {x:TD} {k:TRes→Option α} {r:α} (h:jcp P src dst x k=some r) : ∃ z,k z=some r∧Sim (qgf P src dst (eD x)) z:=by
 unfold jcp at h
 split at h
 ·rename_i h1 h2
  exact ⟨_,h,Sim.tr (by simp only [qgf,eD,e1,eC,q05,List.headD_cons,h1,h2];rfl)⟩
 ·rename_i h1 h2
  exact ⟨_,h,Sim.tr (by simp only [qgf,eD,e1,eC,q05,List.headD_cons,h1,h2];rfl)⟩
 ·cases h
def j4p (P:Program) (src dst:TypeId):Bool:=match P.underlying src,P.underlying dst with
 | some (.slice _),some .string=>true
 | some .string,some (.slice _)=>true
 | _,_=>false
def bytO (s:Yy):Option (List Int):=if s.length≤9223372036854775807 then some (s.map fun b=>((b.toNat:Nat):Int)) else none
def qn4 (P:Program) (o:Option Nat) (src dst:TypeId) (x:TD) (σ:TSt) (k:TRes→Option α):Option α:=match P.underlying src,P.underlying dst with
 | some (.slice e),some .string=>match P.underlying e,srcT x σ with
  | some (.int .u8),some ⟨.int .u8,xs⟩=>k (vC (.d .str ((xs:List Int).map fun n=>UInt8.ofNat n.toNat)))
  | _,_=>none
 | some .string,some (.slice e)=>match P.underlying e,x,o with
  | some (.int .u8),.one (.c (.d .str s)),some i=>match lk σ.rows i with
   | none=>if e<1099511627776 then (bytO s).bind fun xs=>k { val:=.one (.c (.row i 0)),row:=some (i,⟨0,e+1099511627776,true,.int .u8,xs⟩) } else none
   | some _=>none
  | _,_,_=>none
 | _,_=>none
theorem j5n : ∀ (xs:List Int),jat (xs.map (q05 (.int .u8)))=some xs
 | []=>rfl
 | x::xs=>by
  show (jat (xs.map (q05 (.int .u8)))).map (x :: ·)=_
  rw [j5n xs];rfl
theorem jj8 : ∀ (xs:List Int) (b:Yy),xs.foldl (fun r n=>r.push (UInt8.ofNat n.toNat)) (ba b)=ba (b++xs.map fun n=>UInt8.ofNat n.toNat)
 | [],b=>by simp
 | x::xs,b=>by
  rw [List.foldl_cons,show (ba b).push (UInt8.ofNat x.toNat)=ba (b ++ [UInt8.ofNat x.toNat]) from by simp [ba,ByteArray.push],jj8 xs]
  simp
theorem k13 (xs:List Int):strOf xs=ba (xs.map fun n=>UInt8.ofNat n.toNat):=by
 have:=jj8 xs []
 rw [List.nil_append] at this
 exact this
theorem jdr {src dst:TypeId} {x:D} (h:j4p P src dst=true):qgf P src dst x=none:=by
 unfold j4p at h
 unfold qgf
 split at h
 ·rename_i h1 h2;rw [h1,h2]
 ·rename_i h1 h2;rw [h1,h2]
 ·cases h
theorem j4h {o:Option Nat} {src dst:TypeId} {x:TD} {k:TRes→Option α} {r:α} (h:qn4 P o src dst x σ k=some r) : ∃ z,k z=some r∧Sim (q3o P o src dst (eD x) (eS σ).row) z:=by
 unfold qn4 at h
 split at h
 ·rename_i e h1 h2
  split at h
  case h_2=>cases h
  rename_i xs he hx
  have hs:=jv4 hx
  have hs':qpk 1 (eD x) (eS σ).row=some (xs.map (q05 (.int .u8))):=hs
  refine ⟨_,h,Sim.tr ?_⟩
  have hi:jat (List.map (q05 (.int .u8)) xs)=some xs:=j5n xs
  simp only [q3o,h1,h2,he,hs',Option.bind_some]
  rw [hi]
  simp only [k13]
  rfl
 ·rename_i e h1 h2
  split at h
  case h_2=>cases h
  rename_i s i he
  split at h
  case h_2=>cases h
  rename_i hr
  split at h
  case isFalse=>cases h
  rename_i hlt
  obtain ⟨xs,hxs,h⟩:=Option.bind_eq_some_iff.1 h
  unfold bytO at hxs
  split at hxs
  case isFalse=>cases hxs
  rename_i hle
  simp only [Option.some.injEq] at hxs;subst hxs
  refine ⟨_,h,(ba s).size≤maxLen,by rw [q3m];exact hle,?_⟩
  simp only [q3o,h1,h2,he,eD,e1,eC,q05,List.headD_cons,qbc hr]
  rw [if_pos hlt]
  have e3:(ba s).data.toList=s:=by simp [ba]
  rw [e3]
  simp only [qcr,eD,e1,eC,Option.map_none,Option.map_some,eR,List.map_map]
  rfl
 ·cases h
def jgn (c x y:TD) (k:TRes→Option α):Option α:=match c with
 | .one (.c (.d .bool t))=>bif t then k { val:=x } else k { val:=y }
 | _=>none
theorem jnp {c x y:TD} {k:TRes→Option α} {r:α} (h:jgn c x y k=some r) : ∃ z,k z=some r∧Sim (j1y (eD c) (eD x) (eD y)) z:=by
 unfold jgn at h
 split at h
 case h_2=>cases h
 rename_i t
 cases t with
 | true=>exact ⟨_,h,Sim.tr rfl⟩
 | false=>exact ⟨_,h,Sim.tr rfl⟩
def makO (b:Nat) (q:Int) (n:Int):Option (List Int):=if 0≤n∧n≤16777216∧b*n.toNat≤281474976710656 then some (List.replicate n.toNat q) else none
def jgy (P:Program) (dst:Option Nat) (t:TypeId) (x:TD) (σ:TSt) (k:TRes→Option α):Option α:=match P.underlying t,dst,x with
 | some (.slice el),some i,.one (.c (.d (.int _) n))=>match lk σ.rows i,(P.info? el).map (fun i=>(i.zero,i.size,i.bytes)) with
  | none,some (some (Value.int kk q),1,b)=>bif Nat.blt el 1099511627776 then (makO b q n).bind fun xs=>k { val:=.one (.c (.row i 0)),row:=some (i,⟨0,el,true,.int kk,xs⟩) } else none
  | _,_=>none
 | _,_,_=>none
theorem jn7 {dst:Option Nat} {t:TypeId} {x:TD} {k:TRes→Option α} {r:α} (h:jgy P dst t x σ k=some r) : ∃ y,k y=some r∧Sim (qij P dst t (eD x) (eS σ).row) y:=by
 unfold jgy at h
 split at h
 case h_2=>cases h
 rename_i el i kx n hu
 split at h
 case h_2=>cases h
 rename_i kk q b hr hinf
 cases hb:Nat.blt el 1099511627776 with
 | false=>rw [hb] at h;cases h
 | true =>
  rw [hb] at h
  have hlt:el<1099511627776:=by simpa using hb
  obtain ⟨xs,hxs,h⟩:=Option.bind_eq_some_iff.1 h
  unfold makO at hxs
  split at hxs
  case isFalse=>cases hxs
  rename_i hc
  simp only [Option.some.injEq] at hxs;subst hxs
  refine ⟨_,h,Sim.tr ?_⟩
  simp only [qij,hu,eD,e1,eC,q05,List.headD_cons,qbc hr,hinf]
  rw [if_pos ⟨hc.1,hc.2.1,hc.2.2,hlt⟩]
  simp only [qcr,eD,e1,eC,Option.map_none,Option.map_some,eR,List.map_replicate]
  rfl
def k1p (f:Int→Int→Int) (x y:TD) (k:TRes→Option α):Option α:=match x,y with
 | .one (.c (.d (.int kk) n)),.one (.c (.d (.int _) m))=>q04 (f n m) fun z=>k (vC (.d (.int kk) z))
 | _,_=>none
theorem jl4 {f:Int→Int→Int} {x y:TD} {k:TRes→Option α} {r:α} (h:k1p f x y k=some r) : ∃ z,k z=some r∧Sim (jzv f (eD x) (eD y)) z:=by
 unfold k1p at h
 split at h
 case h_2=>cases h
 exact ⟨_,h,Sim.tr rfl⟩
def vTI:TC→Option Value
 | .d (.int k) n=>some (.int k n)
 | .d .bool b=>some (.bool b)
 | .d .str s=>some (.string (ba s))
 | .d .any v=>some (Subtype.val (v:IV))
 | _=>none
def k8x:List TC→Option (List Value)
 | []=>some []
 | c::cs=>match vTI c,k8x cs with
  | some x,some xs=>some (x::xs)
  | _,_=>none
def vTD:TD→Option Value
 | .one (.c c)=>vTI c
 | .one (.agg cs)=>(k8x cs).map fun xs=>.agg ⟨xs⟩
 | .tup _=>none
theorem k1z {c:TC} {v:Value} (h:vTI c=some v):k6q (eC c)=some v:=by
 unfold vTI at h
 split at h<;>simp only [Option.some.injEq,reduceCtorEq] at h<;>subst h<;>rfl
theorem jxp : ∀ {cs:List TC} {xs:List Value},k8x cs=some xs→j4o (cs.map eC)=some xs
 | [],xs,h=>by simp only [k8x,Option.some.injEq] at h;subst h;rfl
 | c::cs,xs,h=>by
  unfold k8x at h
  split at h
  case h_2=>cases h
  rename_i x ys hx hy
  simp only [Option.some.injEq] at h;subst h
  rw [List.map_cons]
  unfold j4o
  rw [k1z hx,jxp hy]
theorem k83 {d:TD} {v:Value} (h:vTD d=some v):k9n (eD d)=some v:=by
 unfold vTD at h
 split at h
 ·exact k1z h
 ·obtain ⟨xs,h1,rfl⟩:=Option.map_eq_some_iff.1 h
  show (j4o _).map _=_
  rw [jxp h1];rfl
 ·cases h
def j42 (P:Program) (t:TypeId) (x:TD) (k:TRes→Option α):Option α:=match P.concrete t,vTD x with
 | true,some v=>k (vC (.d .any (qqr t v)))
 | _,_=>none
theorem jgg {t:TypeId} {x:TD} {k:TRes→Option α} {r:α} (h:j42 P t x k=some r) : ∃ z,k z=some r∧Sim (qh8 P t (eD x)) z:=by
 unfold j42 at h
 split at h
 case h_2=>cases h
 rename_i v hc hv
 exact ⟨_,h,Sim.tr (by unfold qh8;rw [hc,k83 hv];rfl)⟩
def jep (P:Program) (op:BinOp) (t:TypeId) (x:TD) (k:TRes→Option α):Option α:=match ji3 P t,op,x with
 | true,.eql,.one (.c (.d .any v))=>(q4w (Subtype.val (v:IV))).bind fun b=>k (vC (.d .bool b))
 | true,.neq,.one (.c (.d .any v))=>(q4w (Subtype.val (v:IV))).bind fun b=>k (vC (.d .bool (!b)))
 | _,_,_=>none
theorem jna {op:BinOp} {t:TypeId} {x:TD} {k:TRes→Option α} {r:α} (h:jep P op t x k=some r) : ∃ z,k z=some r∧Sim (qov P op t (eD x)) z:=by
 unfold jep at h
 split at h
 case h_3=>cases h
 ·rename_i v hc
  obtain ⟨b,hb,h⟩:=Option.bind_eq_some_iff.1 h
  exact ⟨_,h,Sim.tr (by simp only [qov,hc,eD,e1,eC,q05,List.headD_cons,hb,Option.map_some];rfl)⟩
 ·rename_i v hc
  obtain ⟨b,hb,h⟩:=Option.bind_eq_some_iff.1 h
  exact ⟨_,h,Sim.tr (by simp only [qov,hc,eD,e1,eC,q05,List.headD_cons,hb,Option.map_some];rfl)⟩
def w1 (x:Option TD) (f:TD→Option α):Option α:=match x with|some y=>f y|none=>none
def w0 (σ:TSt) (x:Option Operand) (f:Option TD→Option α):Option α:=match x with
 | none=>f none
 | some x=>match q0y σ x with|some y=>f (some y)|none=>none
theorem q0m {x:Option TD} {f:TD→Option α} {r:α} (h:w1 x f=some r) : ∃ y,x=some y∧f y=some r:=by
 cases x with
 | none=>cases h
 | some y=>exact ⟨y,rfl,h⟩
theorem jty {x:Option Operand} {f:Option TD→Option α} {r:α} (h:w0 σ x f=some r) : ∃ y,x.map (opnd (eS σ))=y.map eD∧f y=some r:=by
 cases x with
 | none=>exact ⟨none,rfl,h⟩
 | some x =>
  unfold w0 at h
  simp only at h
  split at h
  ·rename_i y hy
   exact ⟨some y,by rw [Option.map_some,Option.map_some,q0b hy],h⟩
  ·cases h
def q4x (σ:TSt):List Operand→Option (List TD)
 | []=>some []
 | x::xs=>match q0y σ x,q4x σ xs with
  | some y,some ys=>some (y::ys)
  | _,_=>none
theorem qid : ∀ {xs:List Operand} {ys:List TD},q4x σ xs=some ys→xs.map (opnd (eS σ))=ys.map eD
 | [],ys,h=>by simp only [q4x,Option.some.injEq] at h;subst h;rfl
 | x::xs,ys,h=>by
  unfold q4x at h
  split at h
  case h_2=>cases h
  rename_i y zs h1 h2
  simp only [Option.some.injEq] at h;subst h
  rw [List.map_cons,List.map_cons,q0b h1,qid h2]
def jj6:List TD→Option (List Nat)
 | []=>some []
 | .one (.c (.box β 0))::ds=>(jj6 ds).map (β :: ·)
 | _=>none
theorem j93 : ∀ {ds:List TD} {cs:List Nat},jj6 ds=some cs→qw7 (ds.map eD)=some cs
 | [],cs,h=>h
 | d::ds,cs,h=>by
  unfold jj6 at h
  split at h
  ·rename_i h1;cases h1
  ·rename_i β ds' h1
   simp only [List.cons.injEq] at h1
   obtain ⟨rfl,rfl⟩:=h1
   obtain ⟨cs',h2,rfl⟩:=Option.map_eq_some_iff.1 h
   show (qw7 (ds.map eD)).map _=_
   rw [j93 h2];rfl
  ·cases h
def k9a (f:Nat) (ds:Option (List TD)) (k:TRes→Option α):Option α:=match ds with
 | some ds=>match jj6 ds with
  | some (c::cs)=>k { val:=.one (.c (.fn f (c::cs))) }
  | _=>none
 | none=>none
def qga {β:Type} (s:Yy):List (Yy×β)→Option β
 | []=>none
 | (k,v)::l=>if s=k then some v else qga s l
def jxv {β:Type} (s:Yy) (y:β):List (Yy×β)→List (Yy×β)
 | []=>[(s,y)]
 | (k,v)::l=>if s=k then (s,y)::l else (k,v)::jxv s y l
def jp1 {β:Type} (o:Option β) (z:β) (f:β→Bool→Option α):Option α:=f (o.getD z) o.isSome
def eqT:(K:Ty)→den K→den K→Bool
 | .str,a,b=>decide ((a:Yy)=b)
 | .int _,a,b=>decide ((a:Int)=b)
 | .prod a b,(x:den a×den b),(y:den a×den b)=>eqT a x.1 y.1&&eqT b x.2 y.2
 | _,_,_=>false
def q0c {β:Type} (K:Ty) (s:den K):List (den K×β)→Option β
 | []=>none
 | (k,v)::l=>bif eqT K s k then some v else q0c K s l
def q3x {β:Type} (K:Ty) (s:den K) (y:β):List (den K×β)→List (den K×β)
 | []=>[(s,y)]
 | (k,v)::l=>bif eqT K s k then (s,y)::l else (k,v)::q3x K s y l
def jud {β:Type} : (K:Ty)→den K→List (den K×β)→Option β
 | .str,s,l=>qga s l
 | .int k,s,l=>q0c (.int k) s l
 | .prod a b,s,l=>q0c (.prod a b) s l
 | .bool,s,l=>q0c .bool s l
 | .lst e,s,l=>q0c (.lst e) s l
 | .any,s,l=>q0c .any s l
def k95 {β:Type} : (K:Ty)→den K→β→List (den K×β)→List (den K×β)
 | .str,s,y,l=>jxv s y l
 | .int k,s,y,l=>q3x (.int k) s y l
 | .prod a b,s,y,l=>q3x (.prod a b) s y l
 | .bool,s,y,l=>q3x .bool s y l
 | .lst e,s,y,l=>q3x (.lst e) s y l
 | .any,s,y,l=>q3x .any s y l
theorem jba {β:Type} (s:Yy) : ∀ l:List (Yy×β),qga s l=q0c .str s l
 | []=>rfl
 | (k,v)::l=>by
  show (if s=k then some v else qga s l)=bif decide (s=k) then some v else q0c .str s l
  by_cases h:s=k
  ·rw [if_pos h,decide_eq_true h];rfl
  ·rw [if_neg h,decide_eq_false h,jba s l];rfl
theorem jl7 {β:Type} (s:Yy) (y:β) : ∀ l:List (Yy×β),jxv s y l=q3x .str s y l
 | []=>rfl
 | (k,v)::l=>by
  show (if s=k then (s,y)::l else (k,v)::jxv s y l)=bif decide (s=k) then (s,y)::l else (k,v)::q3x .str s y l
  by_cases h:s=k
  ·rw [if_pos h,decide_eq_true h];rfl
  ·rw [if_neg h,decide_eq_false h,jl7 s y l];rfl
theorem jpn {β:Type} : ∀ (K:Ty) (s:den K) (l:List (den K×β)),jud K s l=q0c K s l
 | .str,s,l=>jba s l
 | .int k,s,l=>rfl
 | .prod a b,s,l=>rfl
 | .bool,s,l=>rfl
 | .lst e,s,l=>rfl
 | .any,s,l=>rfl
theorem k0l {β:Type} : ∀ (K:Ty) (s:den K) (y:β) (l:List (den K×β)),k95 K s y l=q3x K s y l
 | .str,s,y,l=>jl7 s y l
 | .int k,s,y,l=>rfl
 | .prod a b,s,y,l=>rfl
 | .bool,s,y,l=>rfl
 | .lst e,s,y,l=>rfl
 | .any,s,y,l=>rfl
def jdw:KL→Ty
 | .s=>.str
 | .i k=>.int k
def q2u:List KL→Ty
 | []=>.bool
 | [l]=>jdw l
 | l::l'::ls=>.prod (jdw l) (q2u (l'::ls))
def jpf:(l:KL)→den (jdw l)→Value
 | .s,(x:Yy)=>.string (ba x)
 | .i k,(n:Int)=>.int k n
def q7i:(ls:List KL)→den (q2u ls)→List Value
 | [],_=>[]
 | [l],x=>[jpf l x]
 | l::l'::ls,(x:den (jdw l)×den (q2u (l'::ls)))=>jpf l x.1::q7i (l'::ls) x.2
theorem jjf : ∀ (l:KL) (x:den (jdw l)),q05 (jdw l) x = [.v (jpf l x)]
 | .s,_=>rfl
 | .i _,_=>rfl
theorem qqx : ∀ (ls:List KL),0<ls.length→∀ x:den (q2u ls),q05 (q2u ls) x=(q7i ls x).map .v
 | [],h,_=>absurd h (by decide)
 | [l],_,x=>jjf l x
 | l::l'::ls,_,(x:den (jdw l)×den (q2u (l'::ls)))=>by
  show q05 (jdw l) x.1++q05 (q2u (l'::ls)) x.2=_
  rw [jjf,qqx (l'::ls) (Nat.succ_pos _) x.2];rfl
theorem ok_1 : ∀ (l:KL) (x:den (jdw l)),okK l (jpf l x)=true
 | .s,_=>rfl
 | .i _,_=>by simp [okK,jpf]
theorem k6n : ∀ (ls:List KL) (x:den (q2u ls)),qai ls (q7i ls x)=true
 | [],_=>rfl
 | [l],x=>(Bool.and_true _).trans (ok_1 l x)
 | l::l'::ls,(x:den (jdw l)×den (q2u (l'::ls)))=>by
  show (okK l (jpf l x.1)&&qai (l'::ls) (q7i (l'::ls) x.2))=true
  rw [ok_1,k6n (l'::ls) x.2];rfl
theorem k4w (ls:List KL) (x:den (q2u ls)):(q7i ls x).length=ls.length:=q7z (k6n ls x)
theorem eq_1 : ∀ (l:KL) (x y:den (jdw l)),eqK (jpf l x) (jpf l y)=eqT (jdw l) x y
 | .s,x,y=>js1 x y
 | .i _,x,y=>rfl
theorem eq_K : ∀ (ls:List KL),0<ls.length→∀ x y:den (q2u ls),qrm (q7i ls x) (q7i ls y)=eqT (q2u ls) x y
 | [],h,_,_=>absurd h (by decide)
 | [l],_,x,y=>by show (eqK (jpf l x) (jpf l y)&&true)=_;rw [Bool.and_true];exact eq_1 l x y
 | l::l'::ls,_,(x:den (jdw l)×den (q2u (l'::ls))),(y:den (jdw l)×den (q2u (l'::ls)))=>by
  show (eqK (jpf l x.1) (jpf l y.1)&&qrm (q7i (l'::ls) x.2) (q7i (l'::ls) y.2))=(eqT (jdw l) x.1 y.1&&eqT (q2u (l'::ls)) x.2 y.2)
  rw [eq_1,eq_K (l'::ls) (Nat.succ_pos _)]
theorem j9f : ∀ (us:List Value) (r:List Dat),jd7 us.length (us.map .v++r)=some us
 | [],_=>rfl
 | u::us,r=>by
  show (jd7 us.length (us.map .v++r)).map (u :: ·)=_
  rw [j9f us r];rfl
theorem qkk (ls:List KL) (h:0<ls.length) (V:Ty) (s:den (q2u ls)) (y:den V):q05 (.prod (q2u ls) V) ((s,y):den (q2u ls)×den V)=(q7i ls s).map .v++q05 V y:=by
 show q05 (q2u ls) s++q05 V y=_
 rw [qqx ls h]
theorem jr6 (ls:List KL) (h:0<ls.length) (V:Ty) (s k:den (q2u ls)) (y:den V):qy4 ls (q7i ls s) (q05 (.prod (q2u ls) V) ((k,y):den (q2u ls)×den V))=some (eqT (q2u ls) s k):=by
 unfold qy4
 rw [qkk ls h]
 have:=j9f (q7i ls k) (q05 V y)
 rw [k4w] at this
 rw [this]
 simp only [k6n,if_true,eq_K ls h]
theorem jlk {ls:List KL} (h:0<ls.length) {V:Ty} (s:den (q2u ls)) : ∀ (xs:List (den (q2u ls)×den V)),∃ q,findD ls (q7i ls s) (xs.map (q05 (.prod (q2u ls) V)))=some q∧q.map (List.drop ls.length)=(q0c (q2u ls) s xs).map (q05 V)
 | []=>⟨none,rfl,rfl⟩
 | (k,v)::xs=>by
  show ∃ q,(match qy4 ls (q7i ls s) (q05 (.prod (q2u ls) V) ((k,v):den (q2u ls)×den V)) with|some true=>some (some (q05 (.prod (q2u ls) V) ((k,v):den (q2u ls)×den V)))|some false=>findD ls (q7i ls s) (xs.map (q05 (.prod (q2u ls) V)))|none=>none)=some q∧q.map (List.drop ls.length)=(bif eqT (q2u ls) s k then some v else q0c (q2u ls) s xs).map (q05 V)
  rw [jr6 ls h]
  cases eqT (q2u ls) s k with
  | true =>
   refine ⟨_,rfl,?_⟩
   simp only [cond_true,Option.map_some,Option.some.injEq]
   rw [qkk ls h]
   have:(List.map Dat.v (q7i ls k)).length=ls.length:=by rw [List.length_map,k4w]
   rw [← this,List.drop_left]
  | false=>exact jlk h s xs
theorem jse {ls:List KL} (h:0<ls.length) {V:Ty} (s:den (q2u ls)) (y:den V) : ∀ (xs:List (den (q2u ls)×den V)),k3s ls (q7i ls s) (q05 V y) (xs.map (q05 (.prod (q2u ls) V)))=some ((q3x (q2u ls) s y xs).map (q05 (.prod (q2u ls) V)))
 | []=>by
  show some [(q7i ls s).map Dat.v++q05 V y]=some [q05 (.prod (q2u ls) V) ((s,y):den (q2u ls)×den V)]
  rw [qkk ls h]
 | (k,v)::xs=>by
  show (match qy4 ls (q7i ls s) (q05 (.prod (q2u ls) V) ((k,v):den (q2u ls)×den V)) with|some true=>some (((q7i ls s).map Dat.v++q05 V y)::xs.map (q05 (.prod (q2u ls) V)))|some false=>(k3s ls (q7i ls s) (q05 V y) (xs.map (q05 (.prod (q2u ls) V)))).map (q05 (.prod (q2u ls) V) ((k,v):den (q2u ls)×den V) :: ·)|none=>none)=some ((bif eqT (q2u ls) s k then (s,y)::xs else (k,v)::q3x (q2u ls) s y xs).map (q05 (.prod (q2u ls) V)))
  rw [jr6 ls h]
  cases eqT (q2u ls) s k with
  | true =>
   simp only [cond_true,List.map_cons]
   rw [qkk ls h]
  | false =>
   simp only [cond_false,List.map_cons]
   rw [jse h s y xs];rfl
def k1e (K:Ty) (ka:Bool):TD→Option (den K)
 | .one (.c c)=>bif ka then none else qym K [c]
 | .one (.agg cs)=>bif ka then qym K cs else none
 | _=>none
theorem jiq {ls:List KL} (h:0<ls.length) {ka:Bool} (hka:ka=false→ls.length=1) {i:TD} {s:den (q2u ls)} (hs:k1e (q2u ls) ka i=some s):k6r (eD i)=some (ka,q7i ls s):=by
 have hv : ∀ us:List Value,jpg (us.map fun u=>C.d (.v u))=some us:=fun us=>by
  induction us with
  | nil=>rfl
  | cons u us ih=>show (jpg _).map (u :: ·)=_;rw [ih];rfl
 unfold k1e at hs
 split at hs
 ·rename_i c
  cases ka with
  | true=>cases hs
  | false =>
   simp only [cond_false] at hs
   have h1:=q90 hs
   rw [qqx ls h] at h1
   have h2:=k4w ls s
   rw [hka rfl] at h2
   match hvs:q7i ls s,h2 with
   | [v],_ =>
    rw [hvs] at h1
    have h3:eC c = .d (.v v):=(List.cons.inj h1).1
    show k6r (.one (.c (eC c)))=_
    rw [h3];rfl
 ·rename_i cs
  cases ka with
  | false=>cases hs
  | true =>
   simp only [cond_true] at hs
   have h1:=q90 hs
   rw [qqx ls h,List.map_map] at h1
   show (jpg (cs.map eC)).map _=_
   rw [h1,show (C.d ∘ Dat.v)=fun u=>C.d (.v u) from rfl,hv];rfl
 ·cases hs
theorem jas {k:TypeId} {ls:List KL} (h:jp2 P k=some (false,ls)):ls.length=1:=by
 unfold jp2 at h
 split at h
 ·simp only [Option.some.injEq,Prod.mk.injEq] at h;rw [← h.2];rfl
 ·simp only [Option.some.injEq,Prod.mk.injEq] at h;rw [← h.2];rfl
 ·obtain ⟨l,_,h2⟩:=Option.map_eq_some_iff.1 h
  simp only [Prod.mk.injEq] at h2
  cases h2.1
 ·cases h
def qlx (P:Program) (dst:Option Nat) (t:TypeId) (σ:TSt) (k:TRes→Option α):Option α:=match dst,k2l P t with
 | some i,some (T,el,ls)=>match lk σ.boxes i,tyE P el with
  | none,some V=>if i<1000000∧width V=mVw T∧width (q2u ls)=ls.length then k { val:=.one (.c (.mv i)),box:=some (i,(T,[.d (.lst (.prod (q2u ls) V)) ([]:List (den (q2u ls)×den V))])) } else none
  | _,_=>none
 | _,_=>none
theorem j2w {dst:Option Nat} {t:TypeId} {k:TRes→Option α} {r:α} (h:qlx P dst t σ k=some r) : ∃ y,k y=some r∧Sim (q4j P dst t (eS σ).box) y:=by
 unfold qlx at h
 split at h
 case h_2=>cases h
 rename_i i T el ls hT
 split at h
 case h_2=>cases h
 rename_i V hb hV
 split at h
 case isFalse=>cases h
 rename_i hc
 refine ⟨_,h,Sim.tr ?_⟩
 simp only [q4j,hT,qpp hb,hc.1,if_true,← hc.2.1,← hc.2.2]
 rfl
def tvD (T:Nat) (V:Ty) (y:den V):TD1:=match mVa T with
 | true=>.agg (qww V y)
 | false=>.c (.d V y)
def k2r (ok:Bool) (x:TD1) (b:Bool):TD:=match ok with
 | true=>.tup [x,.c (.d .bool b)]
 | false=>.one x
def k1w:Value→Bool
 | .agg _=>true
 | _=>false
def k7k:TD1→Bool
 | .agg _=>true
 | _=>false
def qvm (P:Program) (t:TypeId) (x i:TD) (ok:Bool) (σ:TSt) (k:TRes→Option α):Option α:=match k2l P t,x with
 | some (T,el,ls),.one (.c (.mv β))=>match lk σ.boxes β,k9c P el with
  | some (T',[.d (.lst (.prod K V)) xs]),some z=>if T'=T∧k1w z=mVa T∧K=q2u ls then
    match qrr z.cells.toList with
    | some zs=>match k1e K (mKa T) i with
     | some s=>match qym V zs with
      | some z0=>jp1 (jud K s (xs:List (den K×den V))) z0 fun y b=>k { val:=k2r ok (tvD T V y) b }
      | none=>bif k1w z then qsf (jud K s (xs:List (den K×den V))) (fun y=>k { val:=k2r ok (tvD T V y) true }) (k { val:=k2r ok (.agg zs) false }) else none
     | none=>none
    | none=>none
   else none
  | _,_=>none
 | _,_=>none
theorem jbt {t:TypeId} {x i:TD} {ok:Bool} {k:TRes→Option α} {r:α} (h:qvm P t x i ok σ k=some r) : ∃ y,k y=some r∧Sim (q2x P t (eD x) (eD i) ok (eS σ).box) y:=by
 unfold qvm at h
 split at h
 case h_2=>cases h
 rename_i T el ls β hT
 split at h
 case h_2=>cases h
 rename_i T' K V xs z hb hz
 split at h
 case isFalse=>cases h
 rename_i hc
 obtain ⟨rfl,hag,rfl⟩:=hc
 split at h
 case h_2=>cases h
 rename_i zs hzs
 split at h
 case h_2=>cases h
 rename_i s hs
 rw [jpn] at h
 obtain ⟨kt,ka,vw,va,_,hkl,_,_,_,_,hka,_,_,hl0⟩:=qu7 hT
 have hkey:=jiq hl0 (fun h0=>by rw [hka] at h0;subst h0;exact jas hkl) hs
 obtain ⟨q,hfd,hq⟩:=jlk hl0 s (xs:List (den (q2u ls)×den V))
 have hbx:(eS σ).box β=some (T',[.d (.lst (width (.prod (q2u ls) V)) ((xs:List (den (q2u ls)×den V)).map (q05 (.prod (q2u ls) V))))]):=q67 hb
 have hd : ∀ (x:D1) (y:TD1) (b:Bool),x=e1 y→okD ok x b=eD (k2r ok y b):=fun x y b hxy=>by
  subst hxy;cases ok<;>rfl
 have fnd : ∀ y,q0c (q2u ls) s (xs:List (den (q2u ls)×den V))=some y→q2x P t (.one (.c (.mv β))) (eD i) ok (eS σ).box=some (qcr True { val:=k2r ok (tvD T' V y) true }):=fun y hm=>by
  rw [hm] at hq
  obtain ⟨r0,rfl,hr0⟩:=Option.map_eq_some_iff.1 hq
  simp only [q2x,hT,hbx,hz,hkey,k6n,and_self,if_true,hfd]
  rw [hd (vD T' (r0.drop ls.length)) (tvD T' V y) true ?_]
  ·rfl
  ·rw [hr0]
   show vD T' (q05 V y)=_
   unfold vD tvD
   cases mVa T' with
   | true=>show D1.agg _ = .agg _;rw [q7b]
   | false=>rfl
 have nfd : ∀ zt:TD1,of1 z=e1 zt→q0c (q2u ls) s (xs:List (den (q2u ls)×den V))=none→q2x P t (.one (.c (.mv β))) (eD i) ok (eS σ).box=some (qcr True { val:=k2r ok zt false }):=fun zt hzt hm=>by
  rw [hm] at hq
  have hq0:q=none:=by simpa using hq
  subst hq0
  simp only [q2x,hT,hbx,hz,hkey,k6n,and_self,if_true,hfd]
  rw [hd (of1 z) zt false hzt]
  rfl
 split at h
 ·rename_i z0 hz0
  refine ⟨_,h,Sim.tr ?_⟩
  show q2x P t (.one (.c (.mv β))) (eD i) ok (eS σ).box=_
  cases hm:q0c (q2u ls) s (xs:List (den (q2u ls)×den V)) with
  | some y=>exact fnd y hm
  | none =>
   simp only [Option.getD_none,Option.isSome_none]
   refine nfd (tvD T' V z0) ?_ hm
   have h1:=q90 hz0
   rw [q6w hzs] at h1
   unfold tvD
   rw [← hag]
   cases z with
   | agg cs =>
    show D1.agg _ = .agg _
    rw [q7b,← h1];rfl
   | _ =>
    have h2 : [_]=q05 V z0:=k5d (l:=[_]) h1
    show D1.c _ = .c (.d ((q05 V z0).headD _))
    rw [← h2];rfl
 ·cases z with
  | agg cs =>
   replace h:qsf (q0c (q2u ls) s (xs:List (den (q2u ls)×den V))) (fun y=>k { val:=k2r ok (tvD T' V y) true }) (k { val:=k2r ok (.agg zs) false })=some r:=h
   unfold qsf at h
   split at h
   ·rename_i y hy
    exact ⟨_,h,Sim.tr (fnd y hy)⟩
   ·rename_i hn
    refine ⟨_,h,Sim.tr (nfd (.agg zs) ?_ hn)⟩
    show D1.agg (cs.toList.map qvb) = .agg (zs.map eC)
    rw [q6w hzs];rfl
  | _=>cases h
def j3o (f:Nat):IV:=⟨.func (.func f) #[] #[],rfl⟩
def fnD:TC→TC
 | .fn f []=>.d .any (j3o f)
 | c=>c
theorem k88 (c:TC):eC (fnD c)=eC c:=by
 unfold fnD
 split
 ·rfl
 ·rfl
theorem k48 (cs:List TC):(cs.map fnD).map eC=cs.map eC:=by
 rw [List.map_map];exact List.map_congr_left fun c _=>k88 c
def qjn (P:Program) (t:TypeId) (m i x:TD) (σ:TSt) (k:TRes→Option α):Option α:=match k2l P t,m with
 | some (T,_,ls),.one (.c (.mv β))=>match lk σ.boxes β,x with
  | some (T',[.d (.lst (.prod K V)) xs]),.one y=>if T'=T∧(q8q y).all okT=true∧(q8q y).length=mVw T∧k7k y=mVa T∧K=q2u ls then
    match qym V ((q8q y).map fnD),k1e K (mKa T) i with
    | some v,some s=>k { val:=.one (.c .undef),box:=some (β,(T,[.d (.lst (.prod K V)) (k95 K s v (xs:List (den K×den V)))])) }
    | _,_=>none
   else none
  | _,_=>none
 | _,_=>none
theorem qp6 {t:TypeId} {m i x:TD} {k:TRes→Option α} {r:α} (h:qjn P t m i x σ k=some r) : ∃ y,k y=some r∧Sim (q3c P t (eD m) (eD i) (eD x) (eS σ).box) y:=by
 unfold qjn at h
 split at h
 case h_2=>cases h
 rename_i T el ls β hT
 split at h
 case h_2=>cases h
 rename_i T' K V xs y hb
 split at h
 case isFalse=>cases h
 rename_i hc
 obtain ⟨rfl,hok,hlen,hag,rfl⟩:=hc
 split at h
 case h_2=>cases h
 rename_i v s hv hs
 rw [k0l] at h
 refine ⟨_,h,Sim.tr ?_⟩
 obtain ⟨kt,ka,vw,va,_,hkl,_,_,_,_,hka,_,_,hl0⟩:=qu7 hT
 have hkey:=jiq hl0 (fun h0=>by rw [hka] at h0;subst h0;exact jas hkl) hs
 have hbx:(eS σ).box β=some (T',[.d (.lst (width (.prod (q2u ls) V)) ((xs:List (den (q2u ls)×den V)).map (q05 (.prod (q2u ls) V))))]):=q67 hb
 show q3c P t (.one (.c (.mv β))) (eD i) (.one (e1 y)) (eS σ).box=_
 have h1:(q0r (e1 y)).all okC=true:=by rw [q2p];exact j21 hok
 have h2:(q0r (e1 y)).length=mVw T':=by rw [q2p,List.length_map];exact hlen
 have h3:k2e (e1 y)=mVa T':=by rw [← hag];cases y<;>rfl
 have h4:(q0r (e1 y)).mapM qpf=some (q05 V v):=by rw [q2p,← k48,q90 hv,qa1]
 generalize e1 y=y1 at h1 h2 h3 h4
 have hput:=jse hl0 s v (xs:List (den (q2u ls)×den V))
 simp only [q3c,hT,hbx,hkey,h1,h2,h3,k6n,and_self,if_true,h4,hput,Option.map_some]
 rfl
def rowD:TD→Bool
 | .one (.c (.row _ _))=>true
 | _=>false
def tev (P:Program) (o:Oper) (σ:TSt) (k:TRes→Option α):Option α:=match o.op with
 | .move x=>w1 (q0y σ x) fun y=>k { val:=y }
 | .assign x=>w1 (q0y σ x) fun y=>k { val:=y }
 | .pick c x y=>w1 (q0y σ c) fun c=>w1 (q0y σ x) fun x=>w1 (q0y σ y) fun y=>jgn c x y k
 | .alloc t=>j3y P o.dst t σ k
 | .box t x=>w1 (q0y σ x) fun x=>jv2 o.dst t x σ k
 | .load t x=>w1 (q0y σ x) fun x=>jd2 P t x σ k
 | .store t x y=>w1 (q0y σ x) fun x=>w1 (q0y σ y) fun y=>j2r P t x y σ k
 | .fieldAddr t x f=>w1 (q0y σ x) fun x=>qdi P t x f k
 | .field t x f=>w1 (q0y σ x) fun x=>j46 P t x f k
 | .index t x i=>w1 (q0y σ x) fun x=>w1 (q0y σ i) fun i=>j2u P t x i k
 | .indexAddr t x i=>w1 (q0y σ x) fun x=>w1 (q0y σ i) fun i=>qdv P t x i σ k
 | .extract x i=>w1 (q0y σ x) fun x=>qms x i k
 | .build t ps=>j26 P t ps σ k
 | .buildSlice t n ps=>qc3 P o.dst t n ps σ k
 | .binOp op t x y _=>bif qgy y then w1 (q0y σ x) fun x=>jep P op t x k else w1 (q0y σ x) fun x=>w1 (q0y σ y) fun y=>ju8 P op t x y k
 | .makeInterface t x=>w1 (q0y σ x) fun x=>j42 P t x k
 | .unOp op _ x=>w1 (q0y σ x) fun x=>k4m op x k
 | .convert s d x=>w1 (q0y σ x) fun x=>bif j4p P s d then qn4 P o.dst s d x σ k else jcp P s d x k
 | .slice t x lo hi none=>w1 (q0y σ x) fun x=>w0 σ lo fun lo=>w0 σ hi fun hi=>bif rowD x then qhs P t x lo hi σ k else j5g P t x lo hi k
 | .nilCheck x=>w1 (q0y σ x) fun x=>jv9 x k
 | .call ⟨.builtin .len,⟨[x]⟩,⟨[t]⟩⟩=>w1 (q0y σ x) fun x=>jqu P t x σ k
 | .call ⟨.builtin .append,⟨[s,x]⟩,⟨[t,t']⟩⟩=>if t=t' then w1 (q0y σ s) fun s=>w1 (q0y σ x) fun x=>qvh P o.dst t s x σ k else none
 | .makeSlice t x y=>bif qof x y then w1 (q0y σ x) fun x=>jgy P o.dst t x σ k else none
 | .call ⟨.builtin .max,⟨[x,y]⟩,⟨[_,_]⟩⟩=>w1 (q0y σ x) fun x=>w1 (q0y σ y) fun y=>k1p max x y k
 | .call ⟨.builtin .min,⟨[x,y]⟩,⟨[_,_]⟩⟩=>w1 (q0y σ x) fun x=>w1 (q0y σ y) fun y=>k1p min x y k
 | .makeFunc (.func f) ⟨[]⟩ cs=>k9a f (q4x σ cs.toList) k
 | .makeMap t none=>qlx P o.dst t σ k
 | .lookup t m i ok=>w1 (q0y σ m) fun m=>w1 (q0y σ i) fun i=>qvm P t m i ok σ k
 | .mapUpdate t m i x=>w1 (q0y σ m) fun m=>w1 (q0y σ i) fun i=>w1 (q0y σ x) fun x=>qjn P t m i x σ k
 | .insert t m i x=>w1 (q0y σ m) fun m=>w1 (q0y σ i) fun i=>w1 (q0y σ x) fun x=>qjn P t m i x σ k
 | _=>none
theorem jhf {o:Oper} {k:TRes→Option α} {r:α} (h:tev P o σ k=some r) : ∃ y,k y=some r∧Sim (qhg P o (opnd (eS σ)) (eS σ).box (eS σ).row) y:=by
 unfold tev at h
 unfold qhg
 split at h
 ·rename_i ho;rw [ho]
  obtain ⟨x1,e1',h⟩:=q0m h
  exact ⟨_,h,Sim.tr (by show some _=_;rw [q0b e1'];rfl)⟩
 ·rename_i ho;rw [ho]
  obtain ⟨x1,e1',h⟩:=q0m h
  exact ⟨_,h,Sim.tr (by show some _=_;rw [q0b e1'];rfl)⟩
 ·rename_i ho;rw [ho]
  obtain ⟨x1,e1',h⟩:=q0m h
  obtain ⟨x2,e2',h⟩:=q0m h
  obtain ⟨x3,e3',h⟩:=q0m h
  show ∃ y,_∧Sim (j1y _ _ _) y
  rw [q0b e1',q0b e2',q0b e3'];exact jnp h
 ·rename_i ho;rw [ho]
  exact jd8 h
 ·rename_i ho;rw [ho]
  obtain ⟨x1,e1',h⟩:=q0m h
  show ∃ y,_∧Sim (qxo _ _ _ _) y
  rw [q0b e1'];exact jva h
 ·rename_i ho;rw [ho]
  obtain ⟨x1,e1',h⟩:=q0m h
  show ∃ y,_∧Sim (q9e _ _ _ _ _) y
  rw [q0b e1'];exact jm6 h
 ·rename_i ho;rw [ho]
  obtain ⟨x1,e1',h⟩:=q0m h
  obtain ⟨x2,e2',h⟩:=q0m h
  show ∃ y,_∧Sim (q3z _ _ _ _ _ _) y
  rw [q0b e1',q0b e2'];exact jgo h
 ·rename_i ho;rw [ho]
  obtain ⟨x1,e1',h⟩:=q0m h
  show ∃ y,_∧Sim (q2m _ _ _ _) y
  rw [q0b e1'];exact qta h
 ·rename_i ho;rw [ho]
  obtain ⟨x1,e1',h⟩:=q0m h
  show ∃ y,_∧Sim (qd1 _ _ _ _) y
  rw [q0b e1'];exact jfc h
 ·rename_i ho;rw [ho]
  obtain ⟨x1,e1',h⟩:=q0m h
  obtain ⟨x2,e2',h⟩:=q0m h
  show ∃ y,_∧Sim (q65 _ _ _ _) y
  rw [q0b e1',q0b e2'];exact jex h
 ·rename_i ho;rw [ho]
  obtain ⟨x1,e1',h⟩:=q0m h
  obtain ⟨x2,e2',h⟩:=q0m h
  show ∃ y,_∧Sim (q19 _ _ _ _ _) y
  rw [q0b e1',q0b e2'];exact qu0 h
 ·rename_i ho;rw [ho]
  obtain ⟨x1,e1',h⟩:=q0m h
  show ∃ y,_∧Sim (q78 _ _) y
  rw [q0b e1'];exact j3n h
 ·rename_i ho;rw [ho]
  exact jco h
 ·rename_i ho;rw [ho]
  exact qpj h
 ·rename_i ho;rw [ho]
  show ∃ y,_∧Sim (bif qgy _ then qov _ _ _ _ else qe2 _ _ _ _ _) y
  cases hn:qgy _ with
  | true =>
   rw [hn] at h
   obtain ⟨x1,e1',h⟩:=q0m h
   rw [q0b e1'];exact jna h
  | false =>
   rw [hn] at h
   obtain ⟨x1,e1',h⟩:=q0m h
   obtain ⟨x2,e2',h⟩:=q0m h
   rw [q0b e1',q0b e2'];exact jw0 h
 ·rename_i ho;rw [ho]
  obtain ⟨x1,e1',h⟩:=q0m h
  show ∃ y,_∧Sim (qh8 _ _ _) y
  rw [q0b e1'];exact jgg h
 ·rename_i ho;rw [ho]
  obtain ⟨x1,e1',h⟩:=q0m h
  show ∃ y,_∧Sim (k71 _ _) y
  rw [q0b e1'];exact jyh h
 ·rename_i ho;rw [ho]
  obtain ⟨x1,e1',h⟩:=q0m h
  show ∃ y,_∧Sim (match qgf _ _ _ _ with|some r=>some r|none=>q3o _ _ _ _ _ _) y
  rw [q0b e1']
  cases hb:j4p P _ _ with
  | true =>
   rw [hb] at h
   rw [jdr hb]
   exact j4h h
  | false =>
   rw [hb] at h
   obtain ⟨y,h1,c,h2,h3⟩:=jo1 (P:=P) h
   rw [h3]
   exact ⟨y,h1,c,h2,rfl⟩
 ·rename_i ho;rw [ho]
  obtain ⟨x1,e1',h⟩:=q0m h
  obtain ⟨x2,e2',h⟩:=jty h
  obtain ⟨x3,e3',h⟩:=jty h
  show ∃ y,_∧Sim (match q7c _ _ _ _ _ with|some r=>some r|none=>q3f _ _ _ _ _ _) y
  rw [q0b e1',e2',e3']
  cases hb:rowD x1 with
  | true =>
   rw [hb] at h
   obtain ⟨y,h1,h2,h3⟩:=qy5 (P:=P) h
   rw [h2]
   exact ⟨y,h1,h3⟩
  | false =>
   rw [hb] at h
   obtain ⟨y,h1,c,h2,h3⟩:=jeb (P:=P) h
   rw [h3]
   exact ⟨y,h1,c,h2,rfl⟩
 ·rename_i ho;rw [ho]
  obtain ⟨x1,e1',h⟩:=q0m h
  show ∃ y,_∧Sim (jt3 _) y
  rw [q0b e1'];exact jxk h
 ·rename_i ho;rw [ho]
  obtain ⟨x1,e1',h⟩:=q0m h
  show ∃ y,_∧Sim (qmy _ _ _ _) y
  rw [q0b e1'];exact jsu h
 ·rename_i ho;rw [ho]
  split at h
  case isFalse=>cases h
  rename_i ht
  obtain ⟨x1,e1',h⟩:=q0m h
  obtain ⟨x2,e2',h⟩:=q0m h
  show ∃ y,_∧Sim (if _=_ then q3d _ _ _ _ _ _ else none) y
  rw [if_pos ht,q0b e1',q0b e2'];exact j63 h
 ·rename_i ho;rw [ho]
  cases hs:qof _ _ with
  | false=>rw [hs] at h;cases h
  | true =>
   rw [hs] at h
   obtain ⟨x1,e1',h⟩:=q0m h
   show ∃ y,_∧Sim (bif qof _ _ then qij _ _ _ _ _ else none) y
   rw [hs,q0b e1'];exact jn7 h
 ·rename_i ho;rw [ho]
  obtain ⟨x1,e1',h⟩:=q0m h
  obtain ⟨x2,e2',h⟩:=q0m h
  show ∃ y,_∧Sim (jzv _ _ _) y
  rw [q0b e1',q0b e2'];exact jl4 h
 ·rename_i ho;rw [ho]
  obtain ⟨x1,e1',h⟩:=q0m h
  obtain ⟨x2,e2',h⟩:=q0m h
  show ∃ y,_∧Sim (jzv _ _ _) y
  rw [q0b e1',q0b e2'];exact jl4 h
 ·rename_i f cs ho;rw [ho]
  unfold k9a at h
  split at h
  case h_2=>cases h
  rename_i ds hds
  split at h
  case h_2=>cases h
  rename_i c cs' hc
  refine ⟨_,h,Sim.tr ?_⟩
  show k99 f (cs.toList.map (opnd (eS σ)))=_
  rw [qid hds]
  unfold k99
  rw [j93 hc]
  rfl
 ·rename_i ho;rw [ho]
  exact j2w h
 ·rename_i ho;rw [ho]
  obtain ⟨x1,e1',h⟩:=q0m h
  obtain ⟨x2,e2',h⟩:=q0m h
  show ∃ y,_∧Sim (q2x _ _ _ _ _ _) y
  rw [q0b e1',q0b e2'];exact jbt h
 ·rename_i ho;rw [ho]
  obtain ⟨x1,e1',h⟩:=q0m h
  obtain ⟨x2,e2',h⟩:=q0m h
  obtain ⟨x3,e3',h⟩:=q0m h
  show ∃ y,_∧Sim (q3c _ _ _ _ _ _) y
  rw [q0b e1',q0b e2',q0b e3'];exact qp6 h
 ·rename_i ho;rw [ho]
  obtain ⟨x1,e1',h⟩:=q0m h
  obtain ⟨x2,e2',h⟩:=q0m h
  obtain ⟨x3,e3',h⟩:=q0m h
  show ∃ y,_∧Sim (q3c _ _ _ _ _ _) y
  rw [q0b e1',q0b e2',q0b e3'];exact qp6 h
 ·cases h
end Go.Proofs.YtapfankgdkdkgaaGreatDoor.AM
namespace Go.Proofs.YtapfankgdkdkgaaGreatDoor.AM
open Go.RowKit
inductive SC where
 | d (ty:Ty)
 | nil
 | box (β off:Nat)
 | row (t:Nat)
 | fn (f:Nat) (caps:List Nat)
 | mv (β:Nat)
 | undef
 | bad
inductive S1 where
 | c (x:SC)
 | agg (cs:List SC)
inductive SD where
 | one (x:S1)
 | tup (xs:List S1)
@[reducible] def pC:SC→Type
 | .d ty=>den ty
 | _=>Unit
@[reducible] def pCs:List SC→Type
 | []=>Unit
 | [c]=>pC c
 | c::c'::cs=>pC c×pCs (c'::cs)
@[reducible] def p1:S1→Type
 | .c x=>pC x
 | .agg cs=>pCs cs
@[reducible] def p1s:List S1→Type
 | []=>Unit
 | [x]=>p1 x
 | x::x'::xs=>p1 x×p1s (x'::xs)
@[reducible] def pD:SD→Type
 | .one x=>p1 x
 | .tup xs=>p1s xs
@[reducible] def pDs:List SD→Type
 | []=>Unit
 | [x]=>pD x
 | x::x'::xs=>pD x×pDs (x'::xs)
def rC:(c:SC)→pC c→TC
 | .d ty,x=>.d ty x
 | .nil,_=>.nil
 | .box β o,_=>.box β o
 | .row t,_=>.row t 0
 | .fn f cs,_=>.fn f cs
 | .mv β,_=>.mv β
 | .undef,_=>.undef
 | .bad,_=>.bad
def rCs:(cs:List SC)→pCs cs→List TC
 | [],_=>[]
 | [c],x=>[rC c x]
 | c::c'::cs,(p:pC c×pCs (c'::cs))=>rC c p.1::rCs (c'::cs) p.2
def r1:(s:S1)→p1 s→TD1
 | .c x,p=>.c (rC x p)
 | .agg cs,p=>.agg (rCs cs p)
def r1s:(xs:List S1)→p1s xs→List TD1
 | [],_=>[]
 | [x],p=>[r1 x p]
 | x::x'::xs,(p:p1 x×p1s (x'::xs))=>r1 x p.1::r1s (x'::xs) p.2
def rD:(d:SD)→pD d→TD
 | .one x,p=>.one (r1 x p)
 | .tup xs,p=>.tup (r1s xs p)
def rDs:(ds:List SD)→pDs ds→List TD
 | [],_=>[]
 | [x],p=>[rD x p]
 | x::x'::xs,(p:pD x×pDs (x'::xs))=>rD x p.1::rDs (x'::xs) p.2
structure SR where
 E:Nat
 wr:Bool
 e:Ty
structure SSt where
 slots:List (Nat×SD)
 boxes:List (Nat×(Nat×List SC))
 rows:List (Nat×SR)
@[reducible] def pSl:List (Nat×SD)→Type
 | []=>Unit
 | x::l=>pD x.2×pSl l
@[reducible] def pBx:List (Nat×(Nat×List SC))→Type
 | []=>Unit
 | x::l=>pCs x.2.2×pBx l
@[reducible] def pRw:List (Nat×SR)→Type
 | []=>Unit
 | x::l=>List (den x.2.e)×pRw l
@[reducible] def pSt (sh:SSt):Type:=pSl sh.slots×pBx sh.boxes×pRw sh.rows
def rSl:(l:List (Nat×SD))→pSl l→List (Nat×TD)
 | [],_=>[]
 | x::l,(p:pD x.2×pSl l)=>(x.1,rD x.2 p.1)::rSl l p.2
def rBx:(l:List (Nat×(Nat×List SC)))→pBx l→List (Nat×(Nat×List TC))
 | [],_=>[]
 | x::l,(p:pCs x.2.2×pBx l)=>(x.1,(x.2.1,rCs x.2.2 p.1))::rBx l p.2
def rRw:(l:List (Nat×SR))→pRw l→List (Nat×TRow)
 | [],_=>[]
 | x::l,(p:List (den x.2.e)×pRw l)=>(x.1,⟨0,x.2.E,x.2.wr,x.2.e,p.1⟩)::rRw l p.2
def rSt (sh:SSt) (p:pSt sh):TSt:=⟨rSl sh.slots p.1,rBx sh.boxes p.2.1,rRw sh.rows p.2.2⟩
def isS {β:Type} : Option β→Bool
 | some _=>true
 | none=>false
def cDat (σ:TSt) (ty:Ty):TC→Option (den ty)
 | .d ty' y=>if h:ty'=ty then some (h ▸ y) else none
 | .nil=>match ty with
  | .lst e=>some ([]:List (den e))
  | _=>none
 | .row t g=>match lk σ.rows t with
  | some r=>if h:Ty.lst r.e=ty then (if r.gen=g∧r.wr=false then some (h ▸ r.xs) else none) else none
  | none=>none
 | _=>none
def cC (sh:SSt) (σ:TSt):(c:SC)→TC→Option (pC c)
 | .d ty,x=>cDat σ ty x
 | .bad,_=>some ()
 | .nil,.nil=>some ()
 | .box β o,.box β' o'=>if β=β'∧o=o'∧isS (lk sh.boxes β)=true then some () else none
 | .row t,.row t' g=>match lk σ.rows t' with
  | some r=>if t=t'∧r.gen=g∧isS (lk sh.rows t)=true then some () else none
  | none=>none
 | .row t,.nil=>if isS (lk σ.rows t)=false∧isS (lk sh.rows t)=true then some () else none
 | .fn f cs,.fn f' cs'=>if f=f'∧cs=cs'∧cs.all (fun β=>isS (lk sh.boxes β))=true then some () else none
 | .mv β,.mv β'=>if β=β'∧isS (lk sh.boxes β)=true then some () else none
 | .undef,.undef=>some ()
 | _,_=>none
def cCs (sh:SSt) (σ:TSt):(cs:List SC)→List TC→Option (pCs cs)
 | [],[]=>some ()
 | [c],[x]=>cC sh σ c x
 | c::c'::cs,x::xs=>match cC sh σ c x,cCs sh σ (c'::cs) xs with
  | some p,some q=>some (p,q)
  | _,_=>none
 | _,_=>none
def c1 (sh:SSt) (σ:TSt):(s:S1)→TD1→Option (p1 s)
 | .c c,.c x=>cC sh σ c x
 | .agg cs,.agg xs=>cCs sh σ cs xs
 | _,_=>none
def c1s (sh:SSt) (σ:TSt):(ss:List S1)→List TD1→Option (p1s ss)
 | [],[]=>some ()
 | [c],[x]=>c1 sh σ c x
 | c::c'::cs,x::xs=>match c1 sh σ c x,c1s sh σ (c'::cs) xs with
  | some p,some q=>some (p,q)
  | _,_=>none
 | _,_=>none
def cD (sh:SSt) (σ:TSt):(d:SD)→TD→Option (pD d)
 | .one s,.one x=>c1 sh σ s x
 | .tup ss,.tup xs=>c1s sh σ ss xs
 | _,_=>none
def cDs (sh:SSt) (σ:TSt):(ds:List SD)→List TD→Option (pDs ds)
 | [],[]=>some ()
 | [c],[x]=>cD sh σ c x
 | c::c'::cs,x::xs=>match cD sh σ c x,cDs sh σ (c'::cs) xs with
  | some p,some q=>some (p,q)
  | _,_=>none
 | _,_=>none
def cSl (sh:SSt) (σ:TSt):(l:List (Nat×SD))→Option (pSl l)
 | []=>some ()
 | x::l=>match (lk σ.slots x.1).bind (cD sh σ x.2),cSl sh σ l with
  | some p,some q=>some (p,q)
  | _,_=>none
def mSh2:List SC→List TC→Bool
 | [.d _],[.d _ _]=>true
 | _,_=>false
theorem k3r {cs:List SC} {xs:List TC} (h:(bif false then true else mSh2 cs xs)=true) : ∃ ty ty' y,cs = [.d ty]∧xs = [.d ty' y]:=by
 replace h:mSh2 cs xs=true:=h
 unfold mSh2 at h
 split at h
 ·exact ⟨_,_,_,rfl,rfl⟩
 ·cases h
def mSh (T:Nat) (cs:List SC) (xs:List TC):Bool:=bif q89 T then true else mSh2 cs xs
def cBx (sh:SSt) (σ:TSt):(l:List (Nat×(Nat×List SC)))→Option (pBx l)
 | []=>some ()
 | x::l=>match (lk σ.boxes x.1).bind (fun q=>if q.1=x.2.1∧mSh x.2.1 x.2.2 q.2=true then cCs sh σ x.2.2 q.2 else none),cBx sh σ l with
  | some p,some q=>some (p,q)
  | _,_=>none
def cR (sr:SR):Option TRow→Option (List (den sr.e))
 | none=>some []
 | some r=>if h:r.e=sr.e then (if r.E=sr.E∧r.wr=sr.wr then some (h ▸ r.xs) else none) else none
def cRw (σ:TSt):(l:List (Nat×SR))→Option (pRw l)
 | []=>some ()
 | x::l=>match cR x.2 (lk σ.rows x.1),cRw σ l with
  | some p,some q=>some (p,q)
  | _,_=>none
def cSt (sh:SSt) (σ:TSt):Option (pSt sh):=match cSl sh σ sh.slots,cBx sh σ sh.boxes,cRw σ sh.rows with
 | some a,some b,some c=>some (a,b,c)
 | _,_,_=>none
structure Rd (sh:SSt) (σ:TSt) (F:Fr) (σa:St) (e:Env) (w:World) (σ':St) (e':Env):Prop where
 hp:Hp F σa e w
 pc:e'.Pc=e.Pc
 bx : ∀ β,isS (lk sh.boxes β)=true→(σ'.box β).isSome=true∧e'.m β=e.m β
 rw : ∀ t,isS (lk sh.rows t)=true→(∃ r',σ'.row t=some r'∧0≤r'.gen)∧e'.rv t 0=match lk σ.rows t with|some r=>e.rv t r.gen|none=>.slice none 0 0
def k24 (σ:TSt) (σa:St):TC→Prop
 | .row t _=>∀ r,lk σ.rows t=some r→σa.row t=some (eR r)
 | _=>True
variable {sh:SSt} {σ:TSt} {F:Fr} {σa σ':St} {e e':Env} {w:World}
theorem qxk {Pc:Nat→Nat→Prop} {w:World} (sz:Nat):DatRep Pc w (.slice none 0 0) (.lst sz []) :=
 .lst none 0 0 sz [] 0 0 (fun _ _=>undef) rfl (Nat.le_refl _) (by unfold maxLen;omega) (fun x hx=>by cases hx) (fun h0=>by simp at h0) (fun k j hk=>by simp at hk) (fun k j hk=>by simp at hk)
theorem k7d {β:Type} {x:Option β} (h:isS x=false):x=none:=by
 cases x with
 | none=>rfl
 | some y=>cases h
theorem k60 (h:Rd sh σ F σa e w σ' e') {ty:Ty} {x:TC} {p:den ty} (hc:cDat σ ty x=some p) (hs:k24 σ σa x) {v:Value} (hv:q2v e σa w v (eC x)):q2v e' σ' w v (eC (.d ty p)):=by
 unfold cDat at hc
 split at hc
 ·rename_i ty' y
  split at hc
  case isFalse=>cases hc
  rename_i ht
  subst ht
  simp only [Option.some.injEq] at hc
  subst hc
  show DatRep e'.Pc w v _
  rw [h.pc];exact hv
 ·split at hc
  ·simp only [Option.some.injEq] at hc
   subst hc
   have:v = .slice none 0 0:=qcu hv
   subst this
   show DatRep e'.Pc w _ _
   exact qxk _
  ·cases hc
 ·rename_i t g
  split at hc
  case h_2=>cases hc
  rename_i r hr
  split at hc
  case isFalse=>cases hc
  rename_i ht
  subst ht
  split at hc
  case isFalse=>cases hc
  rename_i hg
  obtain ⟨rfl,hw⟩:=hg
  simp only [Option.some.injEq] at hc
  subst hc
  obtain ⟨_,h5,_⟩:(∃ r',σa.row t=some r'∧r.gen≤r'.gen)∧v=e.rv t r.gen∧_:=hv
  show DatRep e'.Pc w v _
  rw [h.pc,h5]
  exact h.hp.rowDat (r:=eR r) (hs r hr) hw
 ·cases hc
theorem k66 (h:Rd sh σ F σa e w σ' e') {c:SC} {x:TC} {p:pC c} (hc:cC sh σ c x=some p) (hs:k24 σ σa x) {v:Value} (hv:q2v e σa w v (eC x)):q2v e' σ' w v (eC (rC c p)):=by
 unfold cC at hc
 split at hc
 ·exact k60 h hc hs hv
 ·trivial
 ·show DatRep e'.Pc w v _
  rw [h.pc];exact hv
 ·rename_i β o β' o'
  split at hc
  case isFalse=>cases hc
  rename_i hh
  obtain ⟨rfl,rfl,hb⟩:=hh
  obtain ⟨h1,h2⟩:=h.bx β hb
  exact ⟨h1,by rw [h2];exact hv.2⟩
 ·rename_i t t' g
  split at hc
  case h_2=>cases hc
  rename_i r hr
  split at hc
  case isFalse=>cases hc
  rename_i hh
  obtain ⟨rfl,rfl,hb⟩:=hh
  obtain ⟨h1,h2⟩:=h.rw t hb
  refine ⟨h1,?_,hv.2.2⟩
  rw [h2,hr];exact hv.2.1
 ·rename_i t
  split at hc
  case isFalse=>cases hc
  rename_i hh
  obtain ⟨hn,hb⟩:=hh
  obtain ⟨h1,h2⟩:=h.rw t hb
  have:v = .slice none 0 0:=qcu hv
  subst this
  refine ⟨h1,?_,none,0,0,rfl⟩
  rw [h2,k7d hn]
 ·rename_i f cs f' cs'
  split at hc
  case isFalse=>cases hc
  rename_i hh
  obtain ⟨rfl,rfl,hb⟩:=hh
  cases cs with
  | nil =>
   show DatRep e'.Pc w v _
   rw [h.pc];exact hv
  | cons c cs =>
   have hv':(∀ β∈c::cs,(σa.box β).isSome=true)∧v = .func (.func f) #[] ((c::cs).map fun β=>Value.pointer (some ⟨e.m β,0,none⟩)).toArray:=hv
   refine ⟨fun β hβ=>(h.bx β (List.all_eq_true.1 hb β hβ)).1,?_⟩
   rw [hv'.2]
   congr 2
   apply List.map_congr_left
   intro β hβ
   rw [(h.bx β (List.all_eq_true.1 hb β hβ)).2]
 ·rename_i β β'
  split at hc
  case isFalse=>cases hc
  rename_i hh
  obtain ⟨rfl,hb⟩:=hh
  obtain ⟨h1,h2⟩:=h.bx β hb
  exact ⟨h1,by rw [h2];exact hv.2⟩
 ·show DatRep e'.Pc w v _
  rw [h.pc];exact hv
 ·cases hc
theorem jrk (h:Rd sh σ F σa e w σ' e') : ∀ {cs:List SC} {xs:List TC} {p:pCs cs},cCs sh σ cs xs=some p→(∀ x∈xs,k24 σ σa x)→∀ {vs:List Value},q0j (q2v e σa w) vs (xs.map eC)→q0j (q2v e' σ' w) vs ((rCs cs p).map eC)
 | [],[],p,_,_,[],_=>trivial
 | [],[],p,_,_,_::_,hv=>hv.elim
 | [c],[x],p,hc,hs,[v],hv=>⟨k66 h hc (hs _ (List.mem_cons_self ..)) hv.1,trivial⟩
 | [c],[x],p,hc,hs,[],hv=>hv.elim
 | [c],[x],p,hc,hs,_::_::_,hv=>hv.2.elim
 | c::c'::cs,x::xs,p,hc,hs,v::vs,hv=>by
  unfold cCs at hc
  split at hc
  case h_2=>cases hc
  rename_i p1 q1 h1 h2
  obtain rfl:(p1,q1)=p:=Option.some.inj hc
  exact ⟨k66 h h1 (hs _ (List.mem_cons_self ..)) hv.1,jrk h h2 (fun y hy=>hs y (List.mem_cons_of_mem _ hy)) hv.2⟩
 | c::c'::cs,x::xs,p,hc,hs,[],hv=>hv.elim
 | [],_::_,_,hc,_,_,_=>by simp [cCs] at hc
 | [_],[],_,hc,_,_,_=>by simp [cCs] at hc
 | [_],_::_::_,_,hc,_,_,_=>by simp [cCs] at hc
 | _::_::_,[],_,hc,_,_,_=>by simp [cCs] at hc
theorem k4o (h:Rd sh σ F σa e w σ' e') {b T:Nat} {cs:List SC} {xs:List TC} {p:pCs cs} (hm:mSh T cs xs=true) (hc:cCs sh σ cs xs=some p) (hs : ∀ x∈xs,k24 σ σa x) (hv:j5h e σa w b T (xs.map eC)):j5h e' σ' w b T ((rCs cs p).map eC):=by
 rcases hv with ⟨h0,vs,h1,h2,h3⟩|⟨h0,sz,ys,h1,h2⟩
 ·exact Or.inl ⟨h0,vs,h1,jrk h hc hs h2,h3⟩
 ·unfold mSh at hm
  cases hb:q89 T with
  | true=>have:=q3l hb;omega
  | false =>
  rw [hb] at hm
  obtain ⟨ty,ty',y,rfl,rfl⟩:=k3r hm
  replace hc:(if h:ty'=ty then some (h ▸ y) else none)=some p:=hc
  split at hc
  case isFalse=>cases hc
  rename_i ht
  subst ht
  have hp:y=p:=Option.some.inj hc
  subst hp
  exact Or.inr ⟨h0,sz,ys,h1,by rw [h.pc];exact h2⟩
def k7j (σ:TSt) (σa:St):TD1→Prop
 | .c x=>k24 σ σa x
 | .agg xs=>∀ x∈xs,k24 σ σa x
theorem k1f (h:Rd sh σ F σa e w σ' e') {s:S1} {x:TD1} {p:p1 s} (hc:c1 sh σ s x=some p) (hs:k7j σ σa x) {v:Value} (hv:q9g e σa w v (e1 x)):q9g e' σ' w v (e1 (r1 s p)):=by
 unfold c1 at hc
 split at hc
 ·exact k66 h hc hs hv
 ·obtain ⟨vs,rfl,h2⟩:=hv
  exact ⟨vs,rfl,jrk h hc hs h2⟩
 ·cases hc
theorem jut (h:Rd sh σ F σa e w σ' e') : ∀ {cs:List S1} {xs:List TD1} {p:p1s cs},c1s sh σ cs xs=some p→(∀ x∈xs,k7j σ σa x)→∀ {vs:List Value},q0j (q9g e σa w) vs (xs.map e1)→q0j (q9g e' σ' w) vs ((r1s cs p).map e1)
 | [],[],p,_,_,[],_=>trivial
 | [],[],p,_,_,_::_,hv=>hv.elim
 | [c],[x],p,hc,hs,[v],hv=>⟨k1f h hc (hs _ (List.mem_cons_self ..)) hv.1,trivial⟩
 | [c],[x],p,hc,hs,[],hv=>hv.elim
 | [c],[x],p,hc,hs,_::_::_,hv=>hv.2.elim
 | c::c'::cs,x::xs,p,hc,hs,v::vs,hv=>by
  unfold c1s at hc
  split at hc
  case h_2=>cases hc
  rename_i p1 q1 h1 h2
  obtain rfl:(p1,q1)=p:=Option.some.inj hc
  exact ⟨k1f h h1 (hs _ (List.mem_cons_self ..)) hv.1,jut h h2 (fun y hy=>hs y (List.mem_cons_of_mem _ hy)) hv.2⟩
 | c::c'::cs,x::xs,p,hc,hs,[],hv=>hv.elim
 | [],_::_,_,hc,_,_,_=>by simp [c1s] at hc
 | [_],[],_,hc,_,_,_=>by simp [c1s] at hc
 | [_],_::_::_,_,hc,_,_,_=>by simp [c1s] at hc
 | _::_::_,[],_,hc,_,_,_=>by simp [c1s] at hc
def SrcD (σ:TSt) (σa:St):TD→Prop
 | .one x=>k7j σ σa x
 | .tup xs=>∀ x∈xs,k7j σ σa x
theorem k3l (h:Rd sh σ F σa e w σ' e') {d:SD} {x:TD} {p:pD d} (hc:cD sh σ d x=some p) (hs:SrcD σ σa x) {v:Value} (hv:q2a e σa w v (eD x)):q2a e' σ' w v (eD (rD d p)):=by
 unfold cD at hc
 split at hc
 ·exact k1f h hc hs hv
 ·obtain ⟨vs,rfl,h2⟩:=hv
  exact ⟨vs,rfl,jut h hc hs h2⟩
 ·cases hc
theorem jim (h:Rd sh σ F σa e w σ' e') : ∀ {cs:List SD} {xs:List TD} {p:pDs cs},cDs sh σ cs xs=some p→(∀ x∈xs,SrcD σ σa x)→∀ {vs:List Value},q0j (q2a e σa w) vs (xs.map eD)→q0j (q2a e' σ' w) vs ((rDs cs p).map eD)
 | [],[],p,_,_,[],_=>trivial
 | [],[],p,_,_,_::_,hv=>hv.elim
 | [c],[x],p,hc,hs,[v],hv=>⟨k3l h hc (hs _ (List.mem_cons_self ..)) hv.1,trivial⟩
 | [c],[x],p,hc,hs,[],hv=>hv.elim
 | [c],[x],p,hc,hs,_::_::_,hv=>hv.2.elim
 | c::c'::cs,x::xs,p,hc,hs,v::vs,hv=>by
  unfold cDs at hc
  split at hc
  case h_2=>cases hc
  rename_i p1 q1 h1 h2
  obtain rfl:(p1,q1)=p:=Option.some.inj hc
  exact ⟨k3l h h1 (hs _ (List.mem_cons_self ..)) hv.1,jim h h2 (fun y hy=>hs y (List.mem_cons_of_mem _ hy)) hv.2⟩
 | c::c'::cs,x::xs,p,hc,hs,[],hv=>hv.elim
 | [],_::_,_,hc,_,_,_=>by simp [cDs] at hc
 | [_],[],_,hc,_,_,_=>by simp [cDs] at hc
 | [_],_::_::_,_,hc,_,_,_=>by simp [cDs] at hc
 | _::_::_,[],_,hc,_,_,_=>by simp [cDs] at hc
theorem jg2 : ∀ x:TC,k24 σ (eS σ) x
 | .row t g=>fun r hr=>q3j hr
 | .d _ _=>trivial
 | .nil=>trivial
 | .box _ _=>trivial
 | .mv _=>trivial
 | .rp _ _ _=>trivial
 | .wp _ _ _ _=>trivial
 | .bp _ _ _ _=>trivial
 | .fn _ _=>trivial
 | .undef=>trivial
 | .bad=>trivial
theorem j59 (x:TD1):k7j σ (eS σ) x:=by
 cases x with
 | c x=>exact jg2 x
 | agg xs=>exact fun x _=>jg2 x
theorem jh9 (x:TD):SrcD σ (eS σ) x:=by
 cases x with
 | one x=>exact j59 x
 | tup xs=>exact fun x _=>j59 x
theorem k2n : ∀ {l:List (Nat×SD)} {p:pSl l} {i:Nat},cSl sh σ l=some p→(lk (rSl l p) i=none) ∨ ∃ d x q,lk σ.slots i=some x∧cD sh σ d x=some q∧lk (rSl l p) i=some (rD d q)
 | [],_,i,_=>Or.inl rfl
 | x::l,p,i,h=>by
  unfold cSl at h
  split at h
  case h_2=>cases h
  rename_i p1 q1 h1 h2
  obtain rfl:(p1,q1)=p:=Option.some.inj h
  obtain ⟨y,hy,h3⟩:=Option.bind_eq_some_iff.1 h1
  have e0:lk (rSl (x::l) (p1,q1)) i=if i=x.1 then some (rD x.2 p1) else lk (rSl l q1) i:=q0q ..
  rw [e0]
  by_cases hi:i=x.1
  ·rw [if_pos hi];subst hi
   exact Or.inr ⟨x.2,y,p1,hy,h3,rfl⟩
  ·rw [if_neg hi]
   exact k2n h2
theorem jvm : ∀ {l:List (Nat×(Nat×List SC))} {p:pBx l} {i:Nat},cBx sh σ l=some p→(lk (rBx l p) i=none∧lk l i=none) ∨ ∃ T cs xs q,lk σ.boxes i=some (T,xs)∧cCs sh σ cs xs=some q∧lk (rBx l p) i=some (T,rCs cs q)∧lk l i=some (T,cs)∧mSh T cs xs=true
 | [],_,i,_=>Or.inl ⟨rfl,rfl⟩
 | x::l,p,i,h=>by
  unfold cBx at h
  split at h
  case h_2=>cases h
  rename_i p1 q1 h1 h2
  obtain rfl:(p1,q1)=p:=Option.some.inj h
  obtain ⟨y,hy,h3⟩:=Option.bind_eq_some_iff.1 h1
  split at h3
  case isFalse=>cases h3
  rename_i hT
  obtain ⟨hT,hsh⟩:=hT
  have e0:lk (rBx (x::l) (p1,q1)) i=if i=x.1 then some (x.2.1,rCs x.2.2 p1) else lk (rBx l q1) i:=q0q ..
  have e1:lk (x::l) i=if i=x.1 then some x.2 else lk l i:=q0q ..
  rw [e0,e1]
  by_cases hi:i=x.1
  ·rw [if_pos hi,if_pos hi];subst hi
   exact Or.inr ⟨x.2.1,x.2.2,y.2,p1,by rw [hy,← hT],h3,rfl,rfl,hsh⟩
  ·rw [if_neg hi,if_neg hi]
   exact jvm h2
theorem jqv : ∀ {l:List (Nat×SR)} {p:pRw l} {i:Nat},cRw σ l=some p→(lk (rRw l p) i=none∧lk l i=none) ∨ ∃ r' sr,lk (rRw l p) i=some r'∧lk l i=some sr∧r'.gen=0∧((∃ r,lk σ.rows i=some r∧r' = { r with gen:=0 })∨(lk σ.rows i=none∧r'.xs = []))
 | [],_,i,_=>Or.inl ⟨rfl,rfl⟩
 | x::l,p,i,h=>by
  unfold cRw at h
  split at h
  case h_2=>cases h
  rename_i p1 q1 h1 h2
  obtain rfl:(p1,q1)=p:=Option.some.inj h
  have e0:lk (rRw (x::l) (p1,q1)) i=if i=x.1 then some ⟨0,x.2.E,x.2.wr,x.2.e,p1⟩ else lk (rRw l q1) i:=q0q ..
  have e1:lk (x::l) i=if i=x.1 then some x.2 else lk l i:=q0q ..
  rw [e0,e1]
  by_cases hi:i=x.1
  ·rw [if_pos hi,if_pos hi];subst hi
   refine Or.inr ⟨_,_,rfl,rfl,rfl,?_⟩
   unfold cR at h1
   split at h1
   ·rename_i hn
    simp only [Option.some.injEq] at h1
    exact Or.inr ⟨hn,h1.symm⟩
   ·rename_i r hr
    obtain ⟨i,⟨E,wr,e⟩⟩:=x
    obtain ⟨gen,E',wr',e',xs⟩:=r
    split at h1
    case isFalse=>cases h1
    rename_i he
    have he':e'=e:=he
    subst he'
    split at h1
    case isFalse=>cases h1
    rename_i hh
    obtain ⟨hh1,hh2⟩:=hh
    have hh1':E'=E:=hh1
    have hh2':wr'=wr:=hh2
    subst hh1' hh2'
    have h1':xs=p1:=Option.some.inj h1
    subst h1'
    exact Or.inl ⟨_,hr,rfl⟩
  ·rw [if_neg hi,if_neg hi]
   exact jqv h2
def k70 (σ:TSt) (e:Env):Env:={ e with rv:=fun t g=>match lk σ.rows t with|some r=>e.rv t r.gen|none=>.slice none 0 0 }
theorem jjj {p:pSt sh} (h:cSt sh σ=some p):cSl sh σ sh.slots=some p.1∧cBx sh σ sh.boxes=some p.2.1∧cRw σ sh.rows=some p.2.2:=by
 unfold cSt at h
 split at h
 case h_2=>cases h
 rename_i a b c h1 h2 h3
 obtain rfl:(a,b,c)=p:=Option.some.inj h
 exact ⟨h1,h2,h3⟩
theorem k7i {p:pSt sh} (h:cSt sh σ=some p) (hp:Hp F (eS σ) e w):Rd sh σ F (eS σ) e w (eS (rSt sh p)) (k70 σ e):=by
 obtain ⟨h1,h2,h3⟩:=jjj h
 refine ⟨hp,rfl,fun β hβ=>⟨?_,rfl⟩,fun t ht=>⟨?_,rfl⟩⟩
 ·rcases jvm (i:=β) h2 with ⟨_,h5⟩|⟨T,cs,xs,q,h5,h6,h7,h8⟩
  ·rw [h5] at hβ;cases hβ
  ·rw [q67 (σ:=rSt sh p) (show lk (rSt sh p).boxes β=_ from h7)];rfl
 ·rcases jqv (i:=t) h3 with ⟨_,h5⟩|⟨r',sr,h5,h6,h7,h8⟩
  ·rw [h5] at ht;cases ht
  ·exact ⟨eR r',q3j (σ:=rSt sh p) h5,Nat.zero_le _⟩
theorem jpo {a:Act} {p:pSt sh} (h:cSt sh σ=some p) (hR:R F (eS σ) e a w):R F (eS (rSt sh p)) (k70 σ e) a w:=by
 have hd:=k7i h hR.hp
 obtain ⟨h1,h2,h3⟩:=jjj h
 have hp:=hR.hp
 have boxes : ∀ β T cs',(eS (rSt sh p)).box β=some (T,cs')→∃ cs xs q,lk σ.boxes β=some (T,xs)∧cCs sh σ cs xs=some q∧cs'=(rCs cs q).map eC∧mSh T cs xs=true:=fun β T cs' hb=>by
  rcases jvm (i:=β) h2 with ⟨h5,_⟩|⟨T',cs,xs,q,h5,h6,h7,h8⟩
  ·rw [qpp (σ:=rSt sh p) h5] at hb;cases hb
  ·rw [q67 (σ:=rSt sh p) (show lk (rSt sh p).boxes β=_ from h7)] at hb
   simp only [Option.some.injEq,Prod.mk.injEq] at hb
   obtain ⟨rfl,rfl⟩:=hb
   exact ⟨cs,xs,q,h5,h6,rfl,h8.2⟩
 have boxS : ∀ β,((eS (rSt sh p)).box β).isSome=true→((eS σ).box β).isSome=true:=fun β hβ=>by
  obtain ⟨⟨T,cs⟩,hx⟩:=Option.isSome_iff_exists.1 hβ
  obtain ⟨_,xs,_,h5,_⟩:=boxes β T cs hx
  rw [q67 h5];rfl
 have rows : ∀ t r',(eS (rSt sh p)).row t=some r'→(∃ r,lk σ.rows t=some r∧r' = { eR r with gen:=0 }∧(k70 σ e).rv t r'.gen=e.rv t r.gen)∨(lk σ.rows t=none∧r'.xs = []∧(k70 σ e).rv t r'.gen = .slice none 0 0):=fun t r' hr=>by
  rcases jqv (i:=t) h3 with ⟨h5,_⟩|⟨r1,sr,h5,h6,h7,h8⟩
  ·rw [qbc (σ:=rSt sh p) h5] at hr;cases hr
  ·rw [q3j (σ:=rSt sh p) h5] at hr
   simp only [Option.some.injEq] at hr
   subst hr
   rcases h8 with ⟨r,h9,rfl⟩|⟨h9,h10⟩
   ·exact Or.inl ⟨r,h9,rfl,by show (match lk σ.rows t with|some r=>e.rv t r.gen|none=>_)=_;rw [h9]⟩
   ·exact Or.inr ⟨h9,by show r1.xs.map _ = [];rw [h10];rfl,by show (match lk σ.rows t with|some r=>e.rv t r.gen|none=>_)=_;rw [h9]⟩
 refine ⟨hR.defers,hR.size,fun i=>?_,?_⟩
 ·rcases k2n (i:=i) h1 with h5|⟨d,x,q,h5,h6,h7⟩
  ·show q2a _ _ w _ (match lk (rSl sh.slots p.1) i with|some x=>eD x|none=>.one (.c .bad))
   rw [h5];trivial
  ·show q2a _ _ w _ (match lk (rSl sh.slots p.1) i with|some x=>eD x|none=>.one (.c .bad))
   rw [h7]
   refine k3l hd h6 (jh9 x) ?_
   have:=hR.slots i
   show q2a e (eS σ) w _ (eD x)
   have e5:(eS σ).slot i=eD x:=by show (match lk σ.slots i with|some x=>eD x|none=>_)=_;rw [h5]
   rw [← e5];exact this
 ·refine ⟨hp.below,hp.pc0,hp.pcNew,hp.pcLt,fun β T cs' hx=>?_,fun β hβ=>hp.boxPc β (boxS β hβ),fun β β' hβ hβ'=>hp.boxNe β β' (boxS β hβ) (boxS β' hβ'),fun t r' hr=>?_,fun t r' b hr hw hb o ho=>?_,fun t r' b hr hb o ho=>?_,fun t r' b β hr hb hβ=>?_,fun t t' r r' b hn hr hr' hb=>?_,⟨hp.kp.keep,hp.kp.wkLe,fun β hβ=>hp.kp.boxK β (boxS β hβ),fun t r' b hr hb=>?_,hp.kp.pcK,hp.kp.cellK,hp.kp.boxM⟩⟩
  ·obtain ⟨cs,xs,q,h5,h6,rfl,h7⟩:=boxes β T cs' hx
   obtain ⟨g1,g2⟩:=hp.boxes β T (xs.map eC) (q67 h5)
   exact ⟨g1,k4o hd h7 h6 (fun x _=>jg2 x) g2⟩
  ·rcases rows t r' hr with ⟨r,h5,rfl,h6⟩|⟨h5,h6,h7⟩
   ·obtain ⟨g1,cells,g2,g3,g4⟩:=hp.rows t (eR r) (q3j h5)
    refine ⟨g1,cells,?_,g3,g4⟩
    rw [h6];exact g2
   ·rw [h7,h6]
    exact ⟨fun x hx=>(by cases hx),[],js4 _ _ _ _,trivial,fun u hu=>(by cases hu)⟩
  ·rcases rows t r' hr with ⟨r,h5,rfl,h6⟩|⟨h5,h6,h7⟩
   ·rw [h6] at hb
    exact hp.rowPro t (eR r) b (q3j h5) hw hb o ho
   ·rw [h7] at hb;cases hb
  ·rcases rows t r' hr with ⟨r,h5,rfl,h6⟩|⟨h5,h6,h7⟩
   ·rw [h6] at hb
    exact hp.rowPc t (eR r) b (q3j h5) hb o ho
   ·rw [h7] at hb;cases hb
  ·rcases rows t r' hr with ⟨r,h5,rfl,h6⟩|⟨h5,h6,h7⟩
   ·rw [h6] at hb
    exact hp.rowBox t (eR r) b β (q3j h5) hb (boxS β hβ)
   ·rw [h7] at hb;cases hb
  ·rcases rows t r hr with ⟨r1,h5,rfl,h6⟩|⟨h5,h6,h7⟩
   ·rw [h6] at hb
    rcases rows t' r' hr' with ⟨r2,k5,rfl,k6⟩|⟨k5,k6,k7⟩
    ·rw [k6];exact hp.rowNe t t' (eR r1) (eR r2) b hn (q3j h5) (q3j k5) hb
    ·rw [k7];simp [Value.ownBlock]
   ·rw [h7] at hb;cases hb
  ·rcases rows t r' hr with ⟨r,h5,rfl,h6⟩|⟨h5,h6,h7⟩
   ·rw [h6] at hb
    exact hp.kp.rowK t (eR r) b (q3j h5) hb
   ·rw [h7] at hb;cases hb
end Go.Proofs.YtapfankgdkdkgaaGreatDoor.AM
