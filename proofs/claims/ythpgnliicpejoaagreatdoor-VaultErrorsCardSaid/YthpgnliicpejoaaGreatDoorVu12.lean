
import Derived.Test.YthpgnliicpejoaaGreatDoorVu3
namespace Go.Proofs.YthpgnliicpejoaaGreatDoor.AM
open Go.RowKit
set_option linter.unusedVariables false
set_option linter.unusedSimpArgs false
abbrev IV:={ v:Value // v.oneCell'=true }
def j1d:IV:=⟨.nilIface,rfl⟩
def jdw (t:TypeId) (v:Value):IV:=⟨.iface t v,rfl⟩
inductive Ty where
 | int (k:IntKind)
 | bool
 | str
 | lst (e:Ty)
 | prod (a b:Ty)
 | any
deriving DecidableEq
@[reducible] def den:Ty→Type
 | .int _=>Int
 | .bool=>Bool
 | .str=>List UInt8
 | .lst e=>List (den e)
 | .prod a b=>den a×den b
 | .any=>IV
def width:Ty→Nat
 | .prod a b=>width a+width b
 | _=>1
def ba (s:List UInt8):ByteArray:=⟨s.toArray⟩
def q0j:(e:Ty)→den e→List Dat
 | .int k,(n:Int)=>[.v (.int k n)]
 | .bool,(b:Bool)=>[.v (.bool b)]
 | .str,(s:List UInt8)=>[.v (.string (ba s))]
 | .lst e,(l:List (den e))=>[.lst (width e) (l.map (q0j e))]
 | .prod a b,(p:den a×den b)=>q0j a p.1++q0j b p.2
 | .any,(v:IV)=>[.v v.1]
theorem qi3 (a b:Ty) (p:den (.prod a b)):q0j (.prod a b) p=q0j a (Prod.fst (p:den a×den b))++q0j b (Prod.snd (p:den a×den b)):=rfl
theorem q27 : ∀ (e:Ty) (x:den e),(q0j e x).length=width e
 | .int _,_=>rfl
 | .bool,_=>rfl
 | .str,_=>rfl
 | .lst _,_=>rfl
 | .prod a b,p=>by rw [qi3,List.length_append,q27 a,q27 b];rfl
 | .any,_=>rfl
inductive TC where
 | d (ty:Ty) (x:den ty)
 | nil
 | box (β off:Nat)
 | row (t g:Nat)
 | rp (e:Ty) (off:Nat) (x:den e)
 | wp (t g k off:Nat)
 | fn (f:Nat) (caps:List Nat)
 | undef
 | bad
def eC:TC→C
 | .d ty x=>.d ((q0j ty x).headD (.v Go.undef))
 | .nil=>.d (.v (.slice none 0 0))
 | .box β o=>.box β o
 | .row t g=>.row t g
 | .rp e off x=>.rp ((q0j e x).drop off)
 | .wp t g k o=>.wp t g k o
 | .fn f []=>.d (.v (.func (.func f) #[] #[]))
 | .fn f (c::cs)=>.fn f (c::cs)
 | .undef=>.d (.v Go.undef)
 | .bad=>.bad
inductive TD1 where
 | c (x:TC)
 | agg (cs:List TC)
inductive TD where
 | one (x:TD1)
 | tup (xs:List TD1)
def e1:TD1→D1
 | .c x=>.c (eC x)
 | .agg cs=>.agg (cs.map eC)
def eD:TD→D
 | .one x=>.one (e1 x)
 | .tup xs=>.tup (xs.map e1)
structure TRow where
 gen:Nat
 E:Nat
 wr:Bool
 e:Ty
 xs:List (den e)
def eR (r:TRow):Row:=⟨r.gen,r.E,width r.e,r.wr,r.xs.map (q0j r.e)⟩
structure TSt where
 slots:List (Nat×TD)
 boxes:List (Nat×(Nat×List TC))
 rows:List (Nat×TRow)
def lk {α:Type} : List (Nat×α)→Nat→Option α
 | [],_=>none
 | (j,x)::l,i=>bif Nat.beq j i then some x else lk l i
def eB (p:Nat×List TC):Nat×List C:=(p.1,p.2.map eC)
def eS (σ:TSt):St :=
 {slot:=fun i=>match lk σ.slots i with|some x=>eD x|none=>.one (.c .bad)
  box:=fun i=>(lk σ.boxes i).map eB
  row:=fun i=>(lk σ.rows i).map eR }
theorem q1c {α:Type} (j:Nat) (x:α) (l:List (Nat×α)) (i:Nat):lk ((j,x)::l) i=if i=j then some x else lk l i:=by
 show (bif Nat.beq j i then some x else lk l i)=_
 by_cases h:i=j
 ·subst h;rw [if_pos rfl];have:Nat.beq i i=true:=Nat.beq_refl i;rw [this];rfl
 ·rw [if_neg h]
  cases hb:Nat.beq j i with
  | false=>rfl
  | true=>exact absurd (Nat.eq_of_beq_eq_true hb).symm h
structure TRes where
 val:TD
 box:Option (Nat×(Nat×List TC)):=none
 row:Option (Nat×TRow):=none
def q9y (c:Prop) (t:TRes):Res:={ cond:=c,val:=eD t.val,box:=t.box.map fun p=>(p.1,eB p.2),row:=t.row.map fun p=>(p.1,eR p.2) }
def TSt.app (σ:TSt) (r:TRes):TSt :=
 {slots:=σ.slots
  boxes:=match r.box with|some p=>p::σ.boxes|none=>σ.boxes
  rows:=match r.row with|some p=>p::σ.rows|none=>σ.rows }
def TSt.put (σ:TSt) (d:Option Nat) (x:TD):TSt:=match d with
 | some i=>{ σ with slots:=(i,x)::σ.slots }
 | none=>σ
theorem je8 (σ:TSt) (r:TRes) (c:Prop):eS (σ.app r)=(eS σ).app (q9y c r):=by
 obtain ⟨v,bx,rw⟩:=r
 unfold eS TSt.app St.app q9y
 congr 1
 ·cases bx with
  | none=>rfl
  | some p =>
   funext i
   obtain ⟨j,x⟩:=p
   simp only [Option.map_some,q1c,upd]
   split<;>rfl
 ·cases rw with
  | none=>rfl
  | some p =>
   funext i
   obtain ⟨j,x⟩:=p
   simp only [Option.map_some,q1c,upd]
   split<;>rfl
theorem qhz (σ:TSt) (d:Option Nat) (x:TD):eS (σ.put d x)=(eS σ).put d (eD x):=by
 cases d with
 | none=>rfl
 | some i =>
  unfold eS TSt.put St.put
  simp only
  congr 1
  funext j
  simp only [q1c,upd]
  by_cases hj:j=i
  ·simp only [hj,if_true]
  ·simp only [hj,if_false]
def tval:Value→Option TC
 | .int k n=>some (.d (.int k) n)
 | .bool b=>some (.d .bool b)
 | .string s=>some (.d .str s.data.toList)
 | .slice none 0 0=>some .nil
 | .func (.func f) ⟨[]⟩ ⟨[]⟩=>some (.fn f [])
 | .tuple ⟨[]⟩=>some .undef
 | .nilIface=>some (.d .any j1d)
 | _=>none
def qpl:List Value→Option (List TC)
 | []=>some []
 | v::vs=>match tval v,qpl vs with
  | some x,some xs=>some (x::xs)
  | _,_=>none
theorem j5a {v:Value} {x:TC} (h:tval v=some x):eC x=qg4 v:=by
 unfold tval at h
 split at h<;>simp only [Option.some.injEq,reduceCtorEq] at h<;>subst h<;>first|rfl|skip
theorem q9q : ∀ {vs:List Value} {xs:List TC},qpl vs=some xs→xs.map eC=vs.map qg4
 | [],xs,h=>by simp only [qpl,Option.some.injEq] at h;subst h;rfl
 | v::vs,xs,h=>by
  unfold qpl at h
  split at h
  case h_2=>cases h
  rename_i x ys hx hy
  simp only [Option.some.injEq] at h
  subst h
  rw [List.map_cons,List.map_cons,j5a hx,q9q hy]
def jie:Value→Option TD
 | .agg cs=>(qpl cs.toList).map fun xs=>.one (.agg xs)
 | v=>(tval v).map fun x=>.one (.c x)
theorem jcu {v:Value} {x:TD} (h:jie v=some x):eD x=j14 v:=by
 unfold jie at h
 split at h
 ·obtain ⟨xs,h1,rfl⟩:=Option.map_eq_some_iff.1 h
  simp only [eD,e1,j14,q9q h1]
 ·rename_i v' hv
  obtain ⟨xs,h1,rfl⟩:=Option.map_eq_some_iff.1 h
  simp only [eD,e1,j5a h1]
  cases v<;>first|rfl|exact absurd rfl (hv _)
def q1q (σ:TSt):Operand→Option TD
 | .tmp t=>lk σ.slots t
 | .const v=>jie v
 | .func f=>some (.one (.c (.fn f [])))
 | .global g=>none
theorem q0p {σ:TSt} {x:Operand} {y:TD} (h:q1q σ x=some y):opnd (eS σ) x=eD y:=by
 cases x with
 | tmp t=>unfold q1q at h;simp only [opnd,eS,h]
 | const v=>exact (jcu h).symm
 | func f=>simp only [q1q,Option.some.injEq] at h;subst h;rfl
 | global g=>cases h
def ql1 (e:Ty) (x:den e):List TC:=match e,x with
 | .int k,x=>[.d (.int k) x]
 | .bool,x=>[.d .bool x]
 | .str,x=>[.d .str x]
 | .lst e,x=>[.d (.lst e) x]
 | .prod a b,(p:den a×den b)=>ql1 a p.1++ql1 b p.2
 | .any,x=>[.d .any x]
theorem q8t : ∀ (e:Ty) (x:den e),(ql1 e x).map eC=(q0j e x).map C.d
 | .int _,_=>rfl
 | .bool,_=>rfl
 | .str,_=>rfl
 | .lst _,_=>rfl
 | .prod a b,p=>by rw [qi3,List.map_append,← q8t a,← q8t b,← List.map_append];rfl
 | .any,_=>rfl
def unD (ty:Ty):List TC→Option (den ty)
 | [.d ty' x]=>if h:ty'=ty then some (h ▸ x) else none
 | _=>none
theorem qmc {ty:Ty} {cs:List TC} {x:den ty} (h:unD ty cs=some x):cs = [.d ty x]:=by
 unfold unD at h
 split at h
 ·rename_i ty' y
  split at h
  ·rename_i hty
   subst hty
   simp only [Option.some.injEq] at h
   subst h;rfl
  ·cases h
 ·cases h
def j2m:(e:Ty)→List TC→Option (den e)
 | .prod a b,cs=>match j2m a (cs.take (width a)),j2m b (cs.drop (width a)) with
  | some x,some y=>some (x,y)
  | _,_=>none
 | .int k,cs=>unD (.int k) cs
 | .bool,cs=>unD .bool cs
 | .str,cs=>unD .str cs
 | .lst e,cs=>unD (.lst e) cs
 | .any,cs=>unD .any cs
theorem qg0 : ∀ {e:Ty} {cs:List TC} {x:den e},j2m e cs=some x→cs.map eC=(q0j e x).map C.d
 | .prod a b,cs,x,h=>by
  unfold j2m at h
  split at h
  case h_2=>cases h
  rename_i y z hy hz
  obtain rfl:(y,z)=x:=Option.some.inj h
  have h1:=qg0 hy
  have h2:=qg0 hz
  show List.map eC cs=List.map C.d (q0j a y++q0j b z)
  rw [List.map_append,← h1,← h2,← List.map_append,List.take_append_drop]
 | .int k,cs,x,h=>by rw [qmc h];rfl
 | .bool,cs,x,h=>by rw [qmc h];rfl
 | .str,cs,x,h=>by rw [qmc h];rfl
 | .lst e,cs,x,h=>by rw [qmc h];rfl
 | .any,cs,x,h=>by rw [qmc h];rfl
end Go.Proofs.YthpgnliicpejoaaGreatDoor.AM
namespace Go.Proofs.YthpgnliicpejoaaGreatDoor.AM
open Go.RowKit
set_option linter.unusedVariables false
set_option linter.unusedSimpArgs false
variable {α:Type} {P:Program} {σ:TSt}
def nth {β:Type} : List β→Nat→Option β
 | [],_=>none
 | x::_,0=>some x
 | _::l,n+1=>nth l n
theorem q6h {β:Type} : ∀ (l:List β) (n:Nat),nth l n=l[n]?
 | [],n=>by simp [nth]
 | _::_,0=>rfl
 | _::l,n+1=>by rw [nth,q6h l n];simp
def q1a {β:Type} (l:List β) (i:Int):Option β:=if 0≤i then nth l i.toNat else none
def sAt (s:List UInt8) (i:Int):Option Int:=(q1a s i).map fun c=>(c.toNat:Int)
def q4i {β:Type} (l:List β) (a b:Int):Option (List β):=if 0≤a∧a≤b∧b≤l.length then some ((l.drop a.toNat).take (b.toNat - a.toNat)) else none
def qff (s t:List UInt8):Option (List UInt8):=if s.length+t.length≤9223372036854775807 then some (s++t) else none
def q3k {β:Type} (bytes:Nat) (xs ys:List β):Option (List β):=if (xs.length+ys.length)*bytes≤140737488355328 then some (xs++ys) else none
def q0n {β:Type} (x:β) (f:β→Option α):Option α:=f x
def qsq (k:IntKind) (x y:Int):Option Int:=if y≠0 then some (k.wrap (x.tdiv y)) else none
def jdv (x y:Int):Option Int:=if y≠0 then some (x.tmod y) else none
def jir (k:IntKind) (x y:Int):Option Int:=if 0≤y then some (k.wrap (x*2 ^ (min y.toNat k.bits))) else none
def jeo (k:IntKind) (x y:Int):Option Int:=if 0≤y then some (x.fdiv (2 ^ (min y.toNat k.bits))) else none
def andI (k:IntKind) (x y:Int):Int:=k.wrap (BitVec.ofInt k.bits x &&& BitVec.ofInt k.bits y).toNat
def orI (k:IntKind) (x y:Int):Int:=k.wrap (BitVec.ofInt k.bits x ||| BitVec.ofInt k.bits y).toNat
def xorI (k:IntKind) (x y:Int):Int:=k.wrap (BitVec.ofInt k.bits x ^^^ BitVec.ofInt k.bits y).toNat
def ltS (s t:List UInt8):Bool:=Op.bytesLess s t
def Sim (x:Option Res) (t:TRes):Prop:=∃ c:Prop,c∧x=some (q9y c t)
theorem Sim.tr {x:Option Res} {t:TRes} (h:x=some (q9y True t)):Sim x t:=⟨True,trivial,h⟩
theorem q8s {i:Nat} {p:Nat×List TC} (h:lk σ.boxes i=some p):(eS σ).box i=some (p.1,p.2.map eC):=by show (lk σ.boxes i).map eB=_;rw [h];rfl
theorem q3e {i:Nat} {r:TRow} (h:lk σ.rows i=some r):(eS σ).row i=some (eR r):=by show (lk σ.rows i).map eR=_;rw [h];rfl
theorem qmt {i:Nat} (h:lk σ.boxes i=none):(eS σ).box i=none:=by show (lk σ.boxes i).map eB=_;rw [h];rfl
theorem q9s {i:Nat} (h:lk σ.rows i=none):(eS σ).row i=none:=by show (lk σ.rows i).map eR=_;rw [h];rfl
theorem qbr {β γ:Type} (f:β→γ) (l:List β) (off:Nat) (xs:List β):(setAt l off xs).map f=setAt (l.map f) off (xs.map f):=by
 unfold setAt;simp
def loadT (P:Program) (t:TypeId) (cs:List TC):Option TD:=match qew P t,tsz P t with
 | some true,some n=>if n≤cs.length then some (.one (.agg (cs.take n))) else none
 | some false,_=>match cs with|c::_=>some (.one (.c c)) | []=>none
 | _,_=>none
theorem qga {t:TypeId} {cs:List TC} {d:TD} (h:loadT P t cs=some d):qn2 P t (cs.map eC)=some (eD d):=by
 unfold loadT at h
 unfold qn2
 split at h
 ·rename_i n h1 h2
  rw [h1,h2]
  split at h
  ·rename_i hle
   simp only [Option.some.injEq] at h
   subst h
   simp only [List.length_map,hle,if_true,eD,e1,List.map_take]
  ·cases h
 ·rename_i h1
  rw [h1]
  split at h
  ·simp only [Option.some.injEq] at h
   subst h;rfl
  ·cases h
 ·cases h
def qup (P:Program) (t:TypeId) (p:TD) (σ:TSt) (k:TRes→Option α):Option α:=match p with
 | .one (.c (.box β off))=>match lk σ.boxes β with
  | some q=>match loadT P t (q.2.drop off) with|some d=>k { val:=d } | none=>none
  | none=>none
 | .one (.c (.rp e off x))=>match loadT P t ((ql1 e x).drop off) with|some d=>k { val:=d } | none=>none
 | .one (.c (.wp tt g j off))=>match lk σ.rows tt with
  | some r=>if r.gen=g then (nth r.xs j).bind fun x=>match loadT P t ((ql1 r.e x).drop off) with|some d=>k { val:=d } | none=>none else none
  | none=>none
 | _=>none
theorem qmn {e:Ty} {xs:List (den e)} {j:Nat} {x:den e} (h:nth xs j=some x):(xs.map (q0j e)).getD j []=q0j e x∧j<(xs.map (q0j e)).length:=by
 rw [q6h] at h
 obtain ⟨h1,rfl⟩:=List.getElem?_eq_some_iff.1 h
 have:j<(xs.map (q0j e)).length:=by rw [List.length_map];exact h1
 exact ⟨by simp [List.getD,h1],this⟩
theorem j2d {t:TypeId} {p:TD} {k:TRes→Option α} {r:α} (h:qup P t p σ k=some r) :
  ∃ x,k x=some r∧Sim (q7s P t (eD p) (eS σ).box (eS σ).row) x:=by
 unfold qup at h
 split at h
 ·rename_i β off
  split at h
  case h_2=>cases h
  rename_i q hq
  split at h
  case h_2=>cases h
  rename_i d hd
  refine ⟨_,h,Sim.tr ?_⟩
  have:=qga hd
  rw [List.map_drop] at this
  simp only [q7s,eD,e1,eC,q8s hq,this,Option.map_some]
  rfl
 ·rename_i e off x
  split at h
  case h_2=>cases h
  rename_i d hd
  refine ⟨_,h,Sim.tr ?_⟩
  have:=qga hd
  rw [List.map_drop,q8t] at this
  simp only [q7s,eD,e1,eC,List.map_drop,this,Option.map_some]
  rfl
 ·rename_i tt g j off
  split at h
  case h_2=>cases h
  rename_i r' hr
  split at h
  case isFalse=>cases h
  rename_i hg
  obtain ⟨x,hx,h⟩:=Option.bind_eq_some_iff.1 h
  split at h
  case h_2=>cases h
  rename_i d hd
  have:=qga hd
  rw [List.map_drop,q8t] at this
  obtain ⟨h1,h2⟩:=qmn hx
  refine ⟨_,h,_,h2,?_⟩
  simp only [q7s,eD,e1,eC,q3e hr]
  have hg':(eR r').gen=g:=hg
  rw [if_pos hg']
  have h3:(eR r').xs.getD j []=q0j r'.e x:=h1
  rw [h3,List.map_drop,this]
  rfl
 ·cases h
def qco:TD1→List TC
 | .c x=>[x]
 | .agg cs=>cs
def okTy:Ty→Bool
 | .prod _ _=>false
 | _=>true
def okT:TC→Bool
 | .d ty _=>okTy ty
 | .undef=>false
 | .bad=>false
 | _=>true
theorem jkh : ∀ {x:TC},okT x=true→okC (eC x)=true
 | .d (.int _) _,_=>rfl
 | .d .bool _,_=>rfl
 | .d .str _,_=>rfl
 | .d (.lst _) _,_=>rfl
 | .d .any v,_=>by
  show okC (.d (.v (Subtype.val (v:IV))))=true
  exact (v:IV).2
 | .nil,_=>rfl
 | .box _ _,_=>rfl
 | .row _ _,_=>rfl
 | .rp _ _ _,_=>rfl
 | .wp _ _ _ _,_=>rfl
 | .fn _ [],_=>rfl
 | .fn _ (_::_),_=>rfl
theorem q4j (x:TD1):q1r (e1 x)=(qco x).map eC:=by cases x<;>rfl
theorem quc {cs:List TC} (h:cs.all okT=true):(cs.map eC).all okC=true:=by
 rw [List.all_map]
 refine List.all_eq_true.2 fun x hx=>jkh (List.all_eq_true.1 h x hx)
theorem qeb : ∀ (l:List Dat),(l.map C.d).mapM qkd=some l
 | []=>rfl
 | x::l=>by rw [List.map_cons,List.mapM_cons,qeb l];rfl
def setT (e:Ty) (x:den e) (off:Nat) (ys:List TC):Option (den e):=j2m e (setAt (ql1 e x) off ys)
def qpa (P:Program) (t:TypeId) (p x:TD) (σ:TSt) (k:TRes→Option α):Option α:=match x with
 | .one x=>match tsz P t with
  | some n=>if (qco x).length=n∧(qco x).all okT=true then
    match p with
    | .one (.c (.box β off))=>match lk σ.boxes β with
     | some q=>if off+n≤q.2.length then k { val:=.one (.c .undef),box:=some (β,(q.1,setAt q.2 off (qco x))) } else none
     | none=>none
    | .one (.c (.wp tt g j off))=>match lk σ.rows tt with
     | some r=>if r.gen=g∧r.wr=true∧off+n≤width r.e then (nth r.xs j).bind fun y=>match setT r.e y off (qco x) with
       | some y'=>k { val:=.one (.c .undef),row:=some (tt,{ r with xs:=r.xs.set j y' }) }
       | none=>none
      else none
     | none=>none
    | _=>none
   else none
  | none=>none
 | _=>none
theorem jkw : ∀ {l m:List Dat},l.map C.d=m.map C.d→l=m
 | [],[],_=>rfl
 | x::l,y::m,h=>by
  simp only [List.map_cons,List.cons.injEq,C.d.injEq] at h
  rw [h.1,jkw h.2]
 | [],_::_,h=>by simp at h
 | _::_,[],h=>by simp at h
theorem jfo {e:Ty} {x x':den e} {off:Nat} {ys:List TC} (h:setT e x off ys=some x') (hl:off+ys.length≤width e) :
  ∃ ds,(ys.map eC).mapM qkd=some ds∧q0j e x'=setAt (q0j e x) off ds:=by
 have h1:=qg0 h
 rw [qbr,q8t] at h1
 have hx:=q27 e x
 have hx':=q27 e x'
 have h2:ys.map eC=(((q0j e x').drop off).take ys.length).map C.d:=by
  rw [List.map_take,List.map_drop,← h1]
  unfold setAt
  have e0:((List.map C.d (q0j e x)).take off).length=off:=by rw [List.length_take,List.length_map];omega
  rw [List.append_assoc,List.drop_append,e0,Nat.sub_self,List.drop_zero,List.drop_eq_nil_of_le (by omega),List.nil_append,List.take_append_of_le_length (by rw [List.length_map];omega),List.take_of_length_le (by rw [List.length_map];omega)]
 refine ⟨_,by rw [h2];exact qeb _,?_⟩
 apply jkw
 rw [← h1,qbr,h2]
theorem qvh {t:TypeId} {p x:TD} {k:TRes→Option α} {r:α} (h:qpa P t p x σ k=some r) :
  ∃ y,k y=some r∧Sim (q41 P t (eD p) (eD x) (eS σ).box (eS σ).row) y:=by
 unfold qpa at h
 split at h
 case h_2=>cases h
 rename_i x1
 split at h
 case h_2=>cases h
 rename_i n hn
 split at h
 case isFalse=>cases h
 rename_i hc
 obtain ⟨hc1,hc2⟩:=hc
 have hc1':(q1r (e1 x1)).length=n:=by rw [q4j,List.length_map];exact hc1
 have hc2':(q1r (e1 x1)).all okC=true:=by rw [q4j];exact quc hc2
 split at h
 ·rename_i β off
  split at h
  case h_2=>cases h
  rename_i q hq
  split at h
  case isFalse=>cases h
  rename_i hle
  refine ⟨_,h,Sim.tr ?_⟩
  show q41 P t (.one (.c (.box β off))) (.one (e1 x1)) _ _=_
  have e5:=q4j x1
  generalize e1 x1=y1 at hc1' hc2' e5
  rw [e5] at hc2'
  simp only [q41,hn,e5,hc1,hc2',and_self,if_true,q8s hq,List.length_map,hle,q9y,Option.map_some,eB,qbr]
  rfl
 ·rename_i tt g j off
  split at h
  case h_2=>cases h
  rename_i r' hr
  split at h
  case isFalse=>cases h
  rename_i hg
  obtain ⟨hg1,hg2,hg3⟩:=hg
  obtain ⟨y,hy,h⟩:=Option.bind_eq_some_iff.1 h
  split at h
  case h_2=>cases h
  rename_i y' hy'
  obtain ⟨ds,k1,k2⟩:=jfo hy' (by omega)
  obtain ⟨h1,h2⟩:=qmn hy
  refine ⟨_,h,_,h2,?_⟩
  rw [← q4j] at k1
  show q41 P t (.one (.c (.wp tt g j off))) (.one (e1 x1)) _ _=_
  generalize e1 x1=y1 at hc1' hc2' k1
  simp only [q41,hn,hc1',hc2',and_self,if_true,q3e hr,k1]
  have hg':(eR r').gen=g∧(eR r').wr=true∧off+n≤(eR r').sz:=⟨hg1,hg2,hg3⟩
  rw [if_pos hg']
  have h3:(eR r').xs.getD j []=q0j r'.e y:=h1
  rw [h3,← k2]
  simp only [q9y,Option.map_some,eR,List.map_set]
  rfl
 ·cases h
def qp2 (P:Program) (dst:Option Nat) (t:TypeId) (σ:TSt) (k:TRes→Option α):Option α:=match dst,qca P t with
 | some i,some z=>match lk σ.boxes i,qpl z with
  | none,some cs=>if z.all Value.oneCell'=true∧i<1000000 then k { val:=.one (.c (.box i 0)),box:=some (i,(t,cs)) } else none
  | _,_=>none
 | _,_=>none
theorem qvq {dst:Option Nat} {t:TypeId} {k:TRes→Option α} {r:α} (h:qp2 P dst t σ k=some r) :
  ∃ y,k y=some r∧Sim (q6u P dst t (eS σ).box) y:=by
 unfold qp2 at h
 split at h
 case h_2=>cases h
 rename_i i z hz
 split at h
 case h_2=>cases h
 rename_i cs hb hcs
 split at h
 case isFalse=>cases h
 rename_i ha
 refine ⟨_,h,Sim.tr ?_⟩
 obtain ⟨ha,hi⟩:=ha
 simp only [q6u,hz,qmt hb,ha,hi,and_self,if_true,q9y,eD,e1,eC,Option.map_some,eB,q9q hcs,Option.map_none]
def j6e (dst:Option Nat) (t:TypeId) (x:TD) (σ:TSt) (k:TRes→Option α):Option α:=match dst,x with
 | some i,.one x=>match lk σ.boxes i with
  | none=>if (qco x).all okT=true∧i<1000000 then k { val:=.one (.c (.box i 0)),box:=some (i,(t,qco x)) } else none
  | some _=>none
 | _,_=>none
theorem j98 {dst:Option Nat} {t:TypeId} {x:TD} {k:TRes→Option α} {r:α} (h:j6e dst t x σ k=some r) :
  ∃ y,k y=some r∧Sim (qj0 dst t (eD x) (eS σ).box) y:=by
 unfold j6e at h
 split at h
 case h_2=>cases h
 rename_i i x1
 split at h
 case h_2=>cases h
 rename_i hb
 split at h
 case isFalse=>cases h
 rename_i ha
 refine ⟨_,h,Sim.tr ?_⟩
 obtain ⟨ha,hi⟩:=ha
 have ha':(q1r (e1 x1)).all okC=true:=by rw [q4j];exact quc ha
 show qj0 (some i) t (.one (e1 x1)) _=_
 have e5:=q4j x1
 generalize e1 x1=y1 at ha' e5
 rw [e5] at ha'
 simp only [qj0,e5,qmt hb,ha',hi,and_self,if_true,q9y,Option.map_some,eB,Option.map_none]
 rfl
def q8c (P:Program) (t:TypeId) (p:TD) (f:Nat) (k:TRes→Option α):Option α:=match q62 P t f with
 | some (off,_)=>match p with
  | .one (.c (.box β o))=>k { val:=.one (.c (.box β (o+off))) }
  | .one (.c (.rp e o x))=>if o+off≤width e then k { val:=.one (.c (.rp e (o+off) x)) } else none
  | .one (.c (.wp tt g j o))=>k { val:=.one (.c (.wp tt g j (o+off))) }
  | _=>none
 | none=>none
theorem qhs {t:TypeId} {p:TD} {f:Nat} {k:TRes→Option α} {r:α} (h:q8c P t p f k=some r) :
  ∃ y,k y=some r∧Sim (q2c P t (eD p) f) y:=by
 unfold q8c at h
 split at h
 case h_2=>cases h
 rename_i off ft hf
 split at h
 ·exact ⟨_,h,Sim.tr (by simp only [q2c,hf,eD,e1,eC];rfl)⟩
 ·rename_i e o x
  split at h
  case isFalse=>cases h
  rename_i hle
  refine ⟨_,h,Sim.tr ?_⟩
  have:off≤((q0j e x).drop o).length:=by rw [List.length_drop,q27];omega
  simp only [q2c,hf,eD,e1,eC,this,if_true,List.drop_drop,q9y,Option.map_none]
 ·exact ⟨_,h,Sim.tr (by simp only [q2c,hf,eD,e1,eC];rfl)⟩
 ·cases h
def qoq (P:Program) (t:TypeId) (x:TD) (f:Nat) (k:TRes→Option α):Option α:=match q62 P t f,x with
 | some (off,ft),.one (.agg cs)=>match qew P ft,tsz P ft with
  | some true,some n=>if off+n≤cs.length then k { val:=.one (.agg ((cs.drop off).take n)) } else none
  | some false,_=>match nth cs off with
   | some c=>k { val:=.one (.c c) }
   | none=>none
  | _,_=>none
 | _,_=>none
theorem qwl {t:TypeId} {x:TD} {f:Nat} {k:TRes→Option α} {r:α} (h:qoq P t x f k=some r) :
  ∃ y,k y=some r∧Sim (q8b P t (eD x) f) y:=by
 unfold qoq at h
 split at h
 case h_2=>cases h
 rename_i off ft cs hf
 split at h
 ·rename_i n h1 h2
  split at h
  case isFalse=>cases h
  rename_i hle
  refine ⟨_,h,Sim.tr ?_⟩
  simp only [q8b,hf,eD,e1,h1,h2,List.length_map,hle,if_true,q9y,List.map_take,List.map_drop,Option.map_none]
 ·rename_i h1
  split at h
  case h_2=>cases h
  rename_i c hc
  refine ⟨_,h,Sim.tr ?_⟩
  rw [q6h] at hc
  simp only [q8b,hf,eD,e1,h1,List.getElem?_map,hc,Option.map_some,q9y,Option.map_none]
 ·cases h
def qdv (x:TD) (i:Nat) (k:TRes→Option α):Option α:=match x with
 | .tup xs=>match nth xs i with
  | some y=>k { val:=.one y }
  | none=>none
 | _=>none
theorem qpk {x:TD} {i:Nat} {k:TRes→Option α} {r:α} (h:qdv x i k=some r) : ∃ y,k y=some r∧Sim (q5d (eD x) i) y:=by
 unfold qdv at h
 split at h
 case h_2=>cases h
 rename_i xs
 split at h
 case h_2=>cases h
 rename_i y hy
 rw [q6h] at hy
 exact ⟨_,h,Sim.tr (by simp only [q5d,eD,List.getElem?_map,hy,Option.map_some,q9y,Option.map_none])⟩
def jkb (ty:Ty):List TC→Option (List (den ty))
 | []=>some []
 | c::cs=>match unD ty [c],jkb ty cs with
  | some x,some xs=>some (x::xs)
  | _,_=>none
theorem j7j {ty:Ty} : ∀ {cs:List TC} {xs:List (den ty)},jkb ty cs=some xs→cs=xs.map (TC.d ty)
 | [],xs,h=>by simp only [jkb,Option.some.injEq] at h;subst h;rfl
 | c::cs,xs,h=>by
  unfold jkb at h
  split at h
  case h_2=>cases h
  rename_i x ys h1 h2
  simp only [Option.some.injEq] at h
  subst h
  have:=qmc h1
  simp only [List.cons.injEq,and_true] at this
  rw [List.map_cons,← j7j h2,this]
def jiw (n:Int) (len:Nat) (f:Nat→Option α):Option α:=if n=0 then (bif Nat.blt 0 len then f 0 else none) else if n=1 then (bif Nat.blt 1 len then f 1 else none) else none
theorem qse {n:Int} {len:Nat} {f:Nat→Option α} {r:α} (h:jiw n len f=some r) : ∃ j:Nat,n=j∧j<len∧f j=some r:=by
 unfold jiw at h
 split at h
 ·rename_i h0
  cases hb:Nat.blt 0 len with
  | false=>rw [hb] at h;cases h
  | true=>rw [hb] at h;exact ⟨0,h0,by simpa using hb,h⟩
 ·split at h
  case isFalse=>cases h
  rename_i h1
  cases hb:Nat.blt 1 len with
  | false=>rw [hb] at h;cases h
  | true=>rw [hb] at h;exact ⟨1,h1,by simpa using hb,h⟩
def qat (P:Program) (t:TypeId) (cs:List TC) (n:Int) (k:TRes→Option α):Option α:=match cs,P.underlying t with
 | .d e _::_,some (.array m el)=>match tsz P el,qew P el,jkb e cs with
  | some 1,some false,some xs=>if m=xs.length then (q1a xs n).bind fun y=>k { val:=.one (.c (.d e y)) } else none
  | _,_,_=>none
 | _,_=>none
def jdt (P:Program) (t:TypeId):Bool:=match P.underlying t with
 | some (.array _ el)=>match qew P el with
  | some true=>true
  | _=>false
 | _=>false
def qak (P:Program) (t:TypeId) (cs:List TC) (n:Int) (k:TRes→Option α):Option α:=match P.underlying t with
 | some (.array m el)=>match tsz P el,qew P el with
  | some z,some true=>bif (Nat.ble m 2&&Nat.beq cs.length (m*z)) then jiw n m (fun j=>k { val:=.one (.agg ((cs.drop (j*z)).take z)) }) else none
  | _,_=>none
 | _=>none
theorem qka {t:TypeId} {cs:List TC} {ik:IntKind} {n:Int} {k:TRes→Option α} {r:α} (h:qak P t cs n k=some r) :
  ∃ y,k y=some r∧Sim (q4o P t (eD (.one (.agg cs))) (eD (.one (.c (.d (.int ik) n))))) y:=by
 unfold qak at h
 split at h
 case h_2=>cases h
 rename_i m el hu
 split at h
 case h_2=>cases h
 rename_i z hs ha
 cases hc:(Nat.ble m 2&&Nat.beq cs.length (m*z)) with
 | false=>rw [hc] at h;cases h
 | true =>
  rw [hc] at h
  replace h:jiw n m (fun j=>k { val:=.one (.agg ((cs.drop (j*z)).take z)) })=some r:=h
  have hl:cs.length=m*z:=Nat.eq_of_beq_eq_true (Bool.and_eq_true_iff.1 hc).2
  obtain ⟨j,hj,hjl,h⟩:=qse h
  have hj':Int.toNat n=j:=by rw [hj];rfl
  refine ⟨_,h,((0:Int)≤n∧n<(m:Int)∧(cs.map eC).length=m*z),⟨by rw [hj];exact Int.natCast_nonneg j,by rw [hj];exact Int.ofNat_lt.2 hjl,by rw [List.length_map];exact hl⟩,?_⟩
  have e0 : ∀ z':Nat,z'=z→q4o P t (.one (.agg (cs.map eC))) (.one (.c (.d (.v (.int ik n)))))=some { cond:=(0:Int)≤n∧n<(m:Int)∧(cs.map eC).length=m*z,val:=.one (.agg (((cs.map eC).drop (j*z)).take z)) }:=fun z' _=>by
   simp only [q4o,hu,hs,ha,hj']
  rw [show eD (.one (.agg cs)) = .one (.agg (cs.map eC)) from rfl,show eD (.one (.c (.d (.int ik) n))) = .one (.c (.d (.v (.int ik n)))) from rfl,e0 z rfl]
  simp only [q9y,eD,e1,Option.map_none,List.map_take,List.map_drop]
def qpd (P:Program) (t:TypeId) (x i:TD) (k:TRes→Option α):Option α:=match x,i with
 | .one (.c (.d .str s)),.one (.c (.d (.int _) n))=>match P.underlying t with
  | some .string=>(sAt s n).bind fun c=>k { val:=.one (.c (.d (.int .u8) c)) }
  | _=>none
 | .one (.agg cs),.one (.c (.d (.int _) n))=>bif jdt P t then qak P t cs n k else qat P t cs n k
 | _,_=>none
theorem jcd {s:List UInt8} {n c:Int} (h:sAt s n=some c):(0≤n∧n<(ba s).size)∧c=qqv (ba s) n:=by
 unfold sAt q1a at h
 split at h
 case isFalse=>cases h
 rename_i hn
 obtain ⟨b,hb,rfl⟩:=Option.map_eq_some_iff.1 h
 rw [q6h] at hb
 obtain ⟨h1,rfl⟩:=List.getElem?_eq_some_iff.1 hb
 have hsz:(ba s).size=s.length:=by simp [ba,ByteArray.size]
 refine ⟨⟨hn,by omega⟩,?_⟩
 unfold qqv ba
 simp [List.getD,h1]
theorem j2j {β:Type} {l:List β} {n:Int} {y:β} (h:q1a l n=some y):(0≤n∧n<l.length)∧nth l n.toNat=some y:=by
 unfold q1a at h
 split at h
 case isFalse=>cases h
 rename_i hn
 have h':=h
 rw [q6h] at h'
 obtain ⟨h1,_⟩:=List.getElem?_eq_some_iff.1 h'
 exact ⟨⟨hn,by omega⟩,h⟩
theorem qk9 {t:TypeId} {cs:List TC} {ik:IntKind} {n:Int} {k:TRes→Option α} {r:α} (h:qat P t cs n k=some r) : ∃ y,k y=some r∧Sim (q4o P t (.one (.agg (cs.map eC))) (.one (.c (.d (.v (.int ik n)))))) y:=by
 unfold qat at h
 split at h
 case h_2=>cases h
 rename_i e x0 cs0 m el hu
 split at h
 case h_2=>cases h
 rename_i xs hs ha hxs
 split at h
 case isFalse=>cases h
 rename_i hm
 obtain ⟨y,hy,h⟩:=Option.bind_eq_some_iff.1 h
 obtain ⟨h1,h2⟩:=j2j hy
 have hcs:=j7j hxs
 refine ⟨_,h,(0≤n∧n<((List.map eC (TC.d e x0::cs0)).length:Int)∧m=(List.map eC (TC.d e x0::cs0)).length),?_,?_⟩
 ·rw [hcs,List.length_map,List.length_map]
  exact ⟨h1.1,h1.2,hm⟩
 ·have e5:(List.map eC (TC.d e x0::cs0)).getD n.toNat C.bad=eC (TC.d e y):=by
   rw [q6h] at h2
   rw [hcs]
   simp [List.getD,h2]
  simp only [q4o,hu,hs,ha,e5,q9y,Option.map_none]
  rfl
theorem qvc {t:TypeId} {x i:TD} {k:TRes→Option α} {r:α} (h:qpd P t x i k=some r) : ∃ y,k y=some r∧Sim (q4o P t (eD x) (eD i)) y:=by
 unfold qpd at h
 split at h
 case h_3=>cases h
 case h_2 =>
  rename_i cs ik n
  cases hb:jdt P t with
  | true=>rw [hb] at h;exact qka (ik:=ik) h
  | false=>rw [hb] at h;exact qk9 (ik:=ik) h
 rename_i s k' n
 split at h
 case h_2=>cases h
 rename_i hu
 obtain ⟨c,hc,h⟩:=Option.bind_eq_some_iff.1 h
 obtain ⟨h1,rfl⟩:=jcd hc
 refine ⟨_,h,_,h1,?_⟩
 simp only [eD,e1,eC,q0j,List.headD_cons,q4o,hu]
 rfl
def q81 (P:Program) (t:TypeId) (x i:TD) (σ:TSt) (k:TRes→Option α):Option α:=match P.underlying t with
 | some (.slice el)=>match tsz P el,x,i with
  | some m,.one (.c (.d (.lst e) l)),.one (.c (.d (.int _) n))=>if m=width e then (q1a l n).bind fun y=>k { val:=.one (.c (.rp e 0 y)) } else none
  | some m,.one (.c (.row tt g)),.one (.c (.d (.int _) n))=>match lk σ.rows tt with
   | some r=>if r.gen=g∧width r.e=m then (q1a r.xs n).bind fun _=>k { val:=.one (.c (.wp tt g (Int.toNat n) 0)) } else none
   | none=>none
  | _,_,_=>none
 | some (.array len el)=>match tsz P el,x,i with
  | some m,.one (.c (.box β o)),.one (.c (.d (.int _) n))=>bif Nat.ble len 2 then jiw n len (fun j=>k { val:=.one (.c (.box β (o+j*m))) }) else if (@LE.le Int _ 0 n∧@LT.lt Int _ n ((len:Nat):Int)) then k { val:=.one (.c (.box β (o+Int.toNat n*m))) } else none
  | _,_,_=>none
 | _=>none
theorem qso {β:Type} {l:List β} {n:Int} {y:β} (h:q1a l n=some y):(0≤n∧n<l.length)∧nth l n.toNat=some y:=by
 unfold q1a at h
 split at h
 case isFalse=>cases h
 rename_i hn
 have h':=h
 rw [q6h] at h'
 obtain ⟨h1,_⟩:=List.getElem?_eq_some_iff.1 h'
 exact ⟨⟨hn,by omega⟩,h⟩
theorem qi2 {t:TypeId} {x i:TD} {k:TRes→Option α} {r:α} (h:q81 P t x i σ k=some r) : ∃ y,k y=some r∧Sim (q1i P t (eD x) (eD i) (eS σ).row) y:=by
 unfold q81 at h
 split at h
 case h_3=>cases h
 case h_2 =>
  rename_i len el hu
  split at h
  case h_2=>cases h
  rename_i m β o k' n hm
  cases hle:Nat.ble len 2 with
  | true =>
   rw [hle] at h
   replace h:jiw n len (fun j=>k { val:=.one (.c (.box β (o+j*m))) })=some r:=h
   obtain ⟨j,hj,hjl,h⟩:=qse h
   have hj':Int.toNat n=j:=by rw [hj];rfl
   exact ⟨_,h,(@LE.le Int _ 0 n∧@LT.lt Int _ n ((len:Nat):Int)),⟨by rw [hj];exact Int.natCast_nonneg j,by rw [hj];exact Int.ofNat_lt.2 hjl⟩,by simp only [eD,e1,eC,q0j,List.headD_cons,q1i,hu,hm,q9y,Option.map_none,hj']⟩
  | false =>
  rw [hle] at h
  replace h:(if (@LE.le Int _ 0 n∧@LT.lt Int _ n ((len:Nat):Int)) then k { val:=.one (.c (.box β (o+Int.toNat n*m))) } else none)=some r:=h
  split at h
  case isFalse=>cases h
  rename_i hc
  exact ⟨_,h,(@LE.le Int _ 0 n∧@LT.lt Int _ n ((len:Nat):Int)),hc,by simp only [eD,e1,eC,q0j,List.headD_cons,q1i,hu,hm,q9y,Option.map_none]⟩
 rename_i el hu
 split at h
 ·rename_i m e l k' n hm
  split at h
  case isFalse=>cases h
  rename_i hme
  subst hme
  obtain ⟨y,hy,h⟩:=Option.bind_eq_some_iff.1 h
  obtain ⟨h1,h2⟩:=qso hy
  obtain ⟨h3,h4⟩:=qmn h2
  refine ⟨_,h,(@LE.le Int _ 0 n∧@LT.lt Int _ n ((l.map (q0j e)).length:Nat)),by rw [List.length_map];exact h1,?_⟩
  have h3':((l:List (den e)).map (q0j e)).getD (Int.toNat n) []=q0j e y:=h3
  simp only [eD,e1,eC,q0j,List.headD_cons,q1i,hu,hm,if_true,h3',q9y,Option.map_none,List.drop_zero]
 ·rename_i m tt g k' n hm
  split at h
  case h_2=>cases h
  rename_i r' hr
  split at h
  case isFalse=>cases h
  rename_i hg
  obtain ⟨y,hy,h⟩:=Option.bind_eq_some_iff.1 h
  obtain ⟨h1,h2⟩:=qso hy
  refine ⟨_,h,(@LE.le Int _ 0 n∧@LT.lt Int _ n ((eR r').xs.length:Nat)),by show _∧@LT.lt Int _ n ((r'.xs.map (q0j r'.e)).length:Nat);rw [List.length_map];exact h1,?_⟩
  have hg':(eR r').gen=g∧(eR r').sz=m:=hg
  simp only [eD,e1,eC,q0j,List.headD_cons,q1i,hu,hm,q3e hr,hg',and_self,if_true,q9y,Option.map_none]
 ·cases h
end Go.Proofs.YthpgnliicpejoaaGreatDoor.AM
namespace Go.Proofs.YthpgnliicpejoaaGreatDoor.AM
open Go.RowKit
set_option linter.unusedVariables false
set_option linter.unusedSimpArgs false
variable {α:Type} {P:Program} {σ:TSt}
def jeb (d:Int):Option TD→Option Int
 | none=>some d
 | some (.one (.c (.d (.int _) n)))=>some n
 | some _=>none
theorem qen {d n:Int} {x:Option TD} (h:jeb d x=some n):bnd d (x.map eD)=some n:=by
 unfold jeb at h
 split at h
 ·simp only [Option.some.injEq] at h;subst h;rfl
 ·simp only [Option.some.injEq] at h;subst h;rfl
 ·cases h
def qoh (P:Program) (t:TypeId) (x:TD) (lo hi:Option TD) (k:TRes→Option α):Option α:=match P.underlying t,x with
 | some .string,.one (.c (.d .str s))=>match jeb 0 lo,jeb (List.length s) hi with
  | some l,some h=>(q4i s l h).bind fun y=>k { val:=.one (.c (.d .str y)) }
  | _,_=>none
 | some (.slice el),.one (.c (.d (.lst e) xs))=>match jeb 0 lo,jeb (List.length xs) hi with
  | some l,some h=>if tsz P el=some (width e) then (q4i xs l h).bind fun y=>k { val:=.one (.c (.d (.lst e) y)) } else none
  | _,_=>none
 | _,_=>none
theorem qhc {β:Type} {l:List β} {a b:Int} {y:List β} (h:q4i l a b=some y):(0≤a∧a≤b∧b≤l.length)∧y=(l.drop a.toNat).take (b.toNat - a.toNat):=by
 unfold q4i at h
 split at h
 case isFalse=>cases h
 rename_i hc
 simp only [Option.some.injEq] at h
 exact ⟨hc,h.symm⟩
theorem q21 (s:List UInt8):(ba s).size=s.length:=by simp [ba,ByteArray.size]
theorem q9d (s:List UInt8) (a b:Nat):(ba s).extract a b=ba ((s.drop a).take (b - a)):=by
 unfold ba
 apply ByteArray.ext
 rw [ByteArray.data_extract]
 apply Array.toList_inj.1
 rw [Array.toList_extract,List.extract_eq_take_drop]
theorem qvi {t:TypeId} {x:TD} {lo hi:Option TD} {k:TRes→Option α} {r:α} (h:qoh P t x lo hi k=some r) : ∃ y,k y=some r∧Sim (q5k P t (eD x) (lo.map eD) (hi.map eD)) y:=by
 unfold qoh at h
 split at h
 ·rename_i s hu
  split at h
  case h_2=>cases h
  rename_i l hh hl hhh
  obtain ⟨y,hy,h⟩:=Option.bind_eq_some_iff.1 h
  obtain ⟨h1,rfl⟩:=qhc hy
  refine ⟨_,h,_,h1,?_⟩
  simp only [q5k,eD,e1,eC,q0j,List.headD_cons,hu,qen hl,q9d,q21,qen hhh]
  rfl
 ·rename_i el e xs hu
  split at h
  case h_2=>cases h
  rename_i l hh hl hhh
  split at h
  case isFalse=>cases h
  rename_i hsz
  obtain ⟨y,hy,h⟩:=Option.bind_eq_some_iff.1 h
  obtain ⟨h1,rfl⟩:=qhc hy
  refine ⟨_,h,_,h1,?_⟩
  simp only [q5k,eD,e1,eC,q0j,List.headD_cons,hu,qen hl,hsz,if_true,List.length_map,← List.map_drop,← List.map_take,qen hhh]
  rfl
 ·cases h
def qas (P:Program) (t:TypeId) (x:TD) (lo hi:Option TD) (σ:TSt) (k:TRes→Option α):Option α:=match P.underlying t,x with
 | some (.slice el),.one (.c (.row tt g))=>match lk σ.rows tt with
  | some r=>match jeb 0 lo,jeb (List.length r.xs) hi with
   | some l,some h=>if r.gen=g∧tsz P el=some (width r.e) then (q4i r.xs l h).bind fun y=>k { val:=.one (.c (.d (.lst r.e) y)),row:=some (tt,{ r with wr:=false }) } else none
   | _,_=>none
  | none=>none
 | _,_=>none
theorem qvv {t:TypeId} {tt g:Nat} {lo hi:Option D} : q5k P t (.one (.c (.row tt g))) lo hi=none:=by
 unfold q5k
 split
 ·rename_i h;cases h
 ·rename_i h;cases h
 ·rfl
theorem qkb {t:TypeId} {x:TD} {lo hi:Option TD} {k:TRes→Option α} {r:α} (h:qas P t x lo hi σ k=some r) : ∃ y,k y=some r∧q5k P t (eD x) (lo.map eD) (hi.map eD)=none∧Sim (q36 P t (eD x) (lo.map eD) (hi.map eD) (eS σ).row) y:=by
 unfold qas at h
 split at h
 case h_2=>cases h
 rename_i el tt g hu
 split at h
 case h_2=>cases h
 rename_i r' hr
 split at h
 case h_2=>cases h
 rename_i l hh hl hhh
 split at h
 case isFalse=>cases h
 rename_i hg
 obtain ⟨y,hy,h⟩:=Option.bind_eq_some_iff.1 h
 obtain ⟨h1,rfl⟩:=qhc hy
 refine ⟨_,h,qvv,_,h1,?_⟩
 have hlen:(eR r').xs.length=r'.xs.length:=by simp [eR]
 obtain ⟨rfl,hsz⟩:=hg
 have hg':(eR r').gen=r'.gen∧tsz P el=some (eR r').sz:=⟨rfl,hsz⟩
 simp only [q36,eD,e1,eC,hu,q3e hr,qen hl,hlen,qen hhh]
 rw [if_pos hg']
 have e2:((eR r').xs.drop l.toNat).take (hh.toNat - l.toNat)=((r'.xs.drop l.toNat).take (hh.toNat - l.toNat)).map (q0j r'.e):=by simp [eR]
 rw [e2]
 rfl
def j6z (x:TD) (k:TRes→Option α):Option α:=match x with
 | .one (.c (.box β o))=>k { val:=.one (.c (.box β o)) }
 | .one (.c (.rp e o y))=>k { val:=.one (.c (.rp e o y)) }
 | .one (.c (.wp t g j o))=>k { val:=.one (.c (.wp t g j o)) }
 | _=>none
theorem j8s {x:TD} {k:TRes→Option α} {r:α} (h:j6z x k=some r) : ∃ y,k y=some r∧Sim (j94 (eD x)) y:=by
 unfold j6z at h
 split at h
 ·exact ⟨_,h,Sim.tr rfl⟩
 ·exact ⟨_,h,Sim.tr rfl⟩
 ·exact ⟨_,h,Sim.tr rfl⟩
 ·cases h
def j3w (P:Program) (t:TypeId) (x:TD) (σ:TSt) (k:TRes→Option α):Option α:=match P.underlying t,x with
 | some .string,.one (.c (.d .str s))=>k { val:=.one (.c (.d (.int .i64) (List.length s:Nat))) }
 | some (.slice _),.one (.c (.d (.lst _) xs))=>k { val:=.one (.c (.d (.int .i64) (List.length xs:Nat))) }
 | some (.slice _),.one (.c .nil)=>k { val:=.one (.c (.d (.int .i64) (0:Int))) }
 | some (.slice _),.one (.c (.row tt g))=>match lk σ.rows tt with
  | some r=>if r.gen=g then k { val:=.one (.c (.d (.int .i64) (List.length r.xs:Nat))) } else none
  | none=>none
 | _,_=>none
theorem j51 {t:TypeId} {x:TD} {k:TRes→Option α} {r:α} (h:j3w P t x σ k=some r) : ∃ y,k y=some r∧Sim (qdh P t (eD x) (eS σ).row) y:=by
 unfold j3w at h
 split at h
 ·rename_i s hu
  refine ⟨_,h,Sim.tr ?_⟩
  simp only [qdh,eD,e1,eC,q0j,List.headD_cons,hu,q21]
  rfl
 ·rename_i el e xs hu
  refine ⟨_,h,Sim.tr ?_⟩
  simp only [qdh,eD,e1,eC,q0j,List.headD_cons,hu,List.length_map]
  rfl
 ·rename_i el hu
  refine ⟨_,h,Sim.tr ?_⟩
  simp only [qdh,eD,e1,eC,hu]
  rfl
 ·rename_i el tt g hu
  split at h
  case h_2=>cases h
  rename_i r' hr
  split at h
  case isFalse=>cases h
  rename_i hg
  refine ⟨_,h,Sim.tr ?_⟩
  have hg':(eR r').gen=g:=hg
  simp only [qdh,eD,e1,eC,hu,q3e hr,hg',if_true]
  have:(eR r').xs.length=r'.xs.length:=by simp [eR]
  rw [this]
  rfl
 ·cases h
def qtx (place:Nat→Option (Nat×Nat)) (cs:List TC):List (Nat×List TC)→Option (List TC)
 | []=>some cs
 | (i,xs)::rest=>match place i with
  | some (off,size)=>if xs.length=size∧off+xs.length≤cs.length then qtx place (setAt cs off xs) rest else none
  | none=>none
def eQ (q:Nat×List TC):Nat×List C:=(q.1,q.2.map eC)
theorem qg1 {place:Nat→Option (Nat×Nat)} : ∀ {qs:List (Nat×List TC)} {cs cs':List TC},qtx place cs qs=some cs'→qdd place (cs.map eC) (qs.map eQ)=some (cs'.map eC)
 | [],cs,cs',h=>by simp only [qtx,Option.some.injEq] at h;subst h;rfl
 | (i,xs)::rest,cs,cs',h=>by
  unfold qtx at h
  split at h
  case h_2=>cases h
  rename_i off size hp
  split at h
  case isFalse=>cases h
  rename_i hc
  have h3:=qg1 h
  rw [qbr] at h3
  show (match place i with|some (off,size)=>if (xs.map eC).length=size∧off+(xs.map eC).length≤(cs.map eC).length then qdd place (setAt (cs.map eC) off (xs.map eC)) (rest.map eQ) else none|none=>none)=_
  rw [hp]
  simp only [List.length_map]
  rw [if_pos hc,h3]
def j7c (P:Program) (t:TypeId) (parts:List (Nat×List TC)):Option (List TC):=match qca P t,jk4 P t,arrT P t with
 | some z,some pl,_=>match qpl z with
  | some cs=>if z.all Value.oneCell'=true then qtx (fun i=>nth pl i) cs parts else none
  | none=>none
 | some z,none,some n=>match qpl z with
  | some cs=>if z.all Value.oneCell'=true then qtx (fun i=>some (i*n,n)) cs parts else none
  | none=>none
 | _,_,_=>none
theorem ja3 {t:TypeId} {parts:List (Nat×List TC)} {cs:List TC} (h:j7c P t parts=some cs):qjn P t (parts.map eQ)=some (cs.map eC):=by
 unfold j7c at h
 split at h
 ·rename_i z pl hz hl
  split at h
  case h_2=>cases h
  rename_i cs0 hcs
  split at h
  case isFalse=>cases h
  rename_i ha
  have:=qg1 h
  rw [q9q hcs] at this
  simp only [qjn,hz,hl,ha,if_true]
  rw [← this]
  congr 1
  funext i
  rw [q6h];simp
 ·rename_i z n hz hl hn
  split at h
  case h_2=>cases h
  rename_i cs0 hcs
  split at h
  case isFalse=>cases h
  rename_i ha
  have:=qg1 h
  rw [q9q hcs] at this
  simp only [qjn,hz,hl,hn,ha,if_true]
  exact this
 ·cases h
def qkr (σ:TSt):List (Nat×Operand)→Option (List (Nat×List TC))
 | []=>some []
 | (i,x)::rest=>match q1q σ x,qkr σ rest with
  | some (.one d),some r=>if (qco d).all okT=true then some ((i,qco d)::r) else none
  | _,_=>none
theorem qiz : ∀ {ps:List (Nat×Operand)} {qs:List (Nat×List TC)},qkr σ ps=some qs→q7w (opnd (eS σ)) ps=some (qs.map eQ)
 | [],qs,h=>by simp only [qkr,Option.some.injEq] at h;subst h;rfl
 | (i,x)::ps,qs,h=>by
  unfold qkr at h
  split at h
  case h_2=>cases h
  rename_i d r hd hr
  split at h
  case isFalse=>cases h
  rename_i ha
  simp only [Option.some.injEq] at h
  subst h
  have h1:=q0p hd
  have h2:=qiz hr
  have ha':(q1r (e1 d)).all okC=true:=by rw [q4j];exact quc ha
  unfold q7w
  rw [h1,h2]
  show (if (q1r (e1 d)).all okC=true then _ else _)=_
  rw [if_pos ha',q4j]
  rfl
def qn5 (P:Program) (t:TypeId) (ps:Array (Nat×Operand)) (σ:TSt) (k:TRes→Option α):Option α:=match qkr σ ps.toList with
 | some qs=>match j7c P t qs with
  | some cs=>k { val:=.one (.agg cs) }
  | none=>none
 | none=>none
theorem qwe {t:TypeId} {ps:Array (Nat×Operand)} {k:TRes→Option α} {r:α} (h:qn5 P t ps σ k=some r) : ∃ y,k y=some r∧Sim (qaq P t ps (opnd (eS σ))) y:=by
 unfold qn5 at h
 split at h
 case h_2=>cases h
 rename_i qs hqs
 split at h
 case h_2=>cases h
 rename_i cs hcs
 exact ⟨_,h,Sim.tr (by simp only [qaq,qiz hqs,ja3 hcs,q9y,eD,e1,Option.map_none])⟩
def jji (f:TypeId→Option (List Ty)):List Field→Option (List Ty)
 | []=>some []
 | fd::fs=>match f fd.type,jji f fs with
  | some a,some b=>some (a++b)
  | _,_=>none
def jhn:List Ty→Option Ty
 | []=>none
 | [t]=>some t
 | t::t'::ts=>(jhn (t'::ts)).map (.prod t)
def tysP (P:Program):Nat→TypeId→Option (List Ty)
 | 0,_=>none
 | n+1,t=>match P.underlying t with
  | some (.int k)=>some [.int k]
  | some .bool=>some [.bool]
  | some .string=>some [.str]
  | some (.slice e)=>((tysP P n e).bind jhn).map fun x=>[.lst x]
  | some (.struct fs)=>jji (tysP P n) fs.toList
  | _=>none
def tyE (P:Program) (t:TypeId):Option Ty:=(tysP P 9 t).bind jhn
def j2o (e:Ty):Nat→List TC→Option (List (den e))
 | 0,[]=>some []
 | 0,_::_=>none
 | n+1,cs=>match j2m e (cs.take (width e)),j2o e n (cs.drop (width e)) with
  | some x,some xs=>some (x::xs)
  | _,_=>none
theorem qxs {e:Ty} : ∀ {n:Nat} {cs:List TC} {xs:List (den e)},j2o e n cs=some xs→cs.map eC=((xs.map (q0j e)).flatten).map C.d∧chunk (width e) n (xs.map (q0j e)).flatten=xs.map (q0j e)
 | 0,[],xs,h=>by simp only [j2o,Option.some.injEq] at h;subst h;exact ⟨rfl,rfl⟩
 | 0,_::_,xs,h=>by simp [j2o] at h
 | n+1,cs,xs,h=>by
  unfold j2o at h
  split at h
  case h_2=>cases h
  rename_i y ys hy hys
  simp only [Option.some.injEq] at h
  subst h
  obtain ⟨h1,h2⟩:=qxs hys
  have h3:=qg0 hy
  refine ⟨?_,?_⟩
  ·rw [List.map_cons,List.flatten_cons,List.map_append,← h3,← h1,← List.map_append,List.take_append_drop]
  ·rw [List.map_cons,List.flatten_cons,chunk,List.take_append_of_le_length (by rw [q27];exact Nat.le_refl _),List.take_of_length_le (by rw [q27];exact Nat.le_refl _),List.drop_append_of_le_length (by rw [q27];exact Nat.le_refl _),List.drop_eq_nil_of_le (by rw [q27];exact Nat.le_refl _),List.nil_append,h2]
theorem qwr {β γ:Type} (f:β→γ) (z:List β) : ∀ n,(rep z n).map f=rep (z.map f) n
 | 0=>rfl
 | n+1=>by rw [rep,rep,List.map_append,qwr f z n]
def q72 (P:Program) (dst:Option Nat) (t:TypeId) (n:Nat) (ps:Array (Nat×Operand)) (σ:TSt) (k:TRes→Option α):Option α:=match P.underlying t,dst with
 | some (.slice el),some i=>match lk σ.rows i,qca P el,tyE P el,qkr σ ps.toList with
  | none,some z,some e,some qs=>match qpl z with
   | some zt=>if tsz P el=some (width e)∧n*width e≤2 ^ 24∧n≤2 ^ 24∧z.length=width e∧0<width e∧z.all Value.oneCell'=true∧el<1099511627776 then match qtx (fun i=>some (i*width e,width e)) (rep zt n) qs with
     | some cs=>match j2o e n cs with
      | some xs=>k { val:=.one (.c (.row i 0)),row:=some (i,⟨0,el,true,e,xs⟩) }
      | none=>none
     | none=>none
    else none
   | none=>none
  | _,_,_,_=>none
 | _,_=>none
theorem qfu {dst:Option Nat} {t:TypeId} {n:Nat} {ps:Array (Nat×Operand)} {k:TRes→Option α} {r:α} (h:q72 P dst t n ps σ k=some r) : ∃ y,k y=some r∧Sim (q1t P dst t n ps (opnd (eS σ)) (eS σ).row) y:=by
 unfold q72 at h
 split at h
 case h_2=>cases h
 rename_i el i hu
 split at h
 case h_2=>cases h
 rename_i z e qs hr hz he hqs
 split at h
 case h_2=>cases h
 rename_i zt hzt
 split at h
 case isFalse=>cases h
 rename_i hc
 obtain ⟨c1,c2,c3,c4,c5,c6,c7⟩:=hc
 split at h
 case h_2=>cases h
 rename_i cs hcs
 split at h
 case h_2=>cases h
 rename_i xs hxs
 obtain ⟨k1,k2⟩:=qxs hxs
 have h2:=qg1 hcs
 rw [qwr,q9q hzt,← qwr] at h2
 refine ⟨_,h,Sim.tr ?_⟩
 simp only [q1t,hu,q9s hr,c1,hz,qiz hqs]
 rw [if_pos ⟨c2,c3,c4,c5,c6,c7⟩,h2]
 simp only [k1,qeb,k2,q9y,eD,e1,eC,Option.map_none,Option.map_some,eR]
def srcT (x:TD) (σ:TSt):Option ((e:Ty)×List (den e)):=match x with
 | .one (.c (.d (.lst e) xs))=>some ⟨e,xs⟩
 | .one (.c (.row t g))=>match lk σ.rows t with
  | some r=>if r.gen=g then some ⟨r.e,r.xs⟩ else none
  | none=>none
 | _=>none
theorem j67 {x:TD} {s:(e:Ty)×List (den e)} (h:srcT x σ=some s):qfv (width s.1) (eD x) (eS σ).row=some (s.2.map (q0j s.1)):=by
 unfold srcT at h
 split at h
 ·simp only [Option.some.injEq] at h;subst h
  simp only [qfv,eD,e1,eC,q0j,List.headD_cons,if_true]
 ·split at h
  case h_2=>cases h
  rename_i r hr
  split at h
  case isFalse=>cases h
  rename_i hg
  simp only [Option.some.injEq] at h;subst h
  have hg':(eR r).gen=_∧(eR r).sz=width r.e:=⟨hg,rfl⟩
  simp only [qfv,eD,e1,eC,q3e hr]
  rw [if_pos hg'];rfl
 ·cases h
def qil (P:Program) (dst:Option Nat) (t:TypeId) (s x:TD) (σ:TSt) (k:TRes→Option α):Option α:=match P.underlying t with
 | some (.slice el)=>match qlu P el,srcT x σ with
  | some (m,bytes),some src=>if m=width src.1 then match s with
    | .one (.c (.row tt g))=>match lk σ.rows tt with
     | some r=>if h:src.1=r.e then if r.gen=g∧r.E=el then
       (q3k bytes r.xs (h ▸ src.2)).bind fun ys=>k { val:=.one (.c (.row tt (g+1))),row:=some (tt,{ r with gen:=g+1,xs:=ys }) } else none else none
     | none=>none
    | .one (.c .nil)=>match dst with
     | some i=>match lk σ.rows i with
      | none=>(q3k bytes [] src.2).bind fun ys=>k { val:=.one (.c (.row i 0)),row:=some (i,⟨0,el,true,src.1,ys⟩) }
      | some _=>none
     | none=>none
    | _=>none
   else none
  | _,_=>none
 | _=>none
theorem qt5 {β:Type} {b:Nat} {xs ys zs:List β} (h:q3k b xs ys=some zs):(xs.length+ys.length)*b≤140737488355328∧zs=xs++ys:=by
 unfold q3k at h
 split at h
 case isFalse=>cases h
 rename_i hc
 exact ⟨hc,(Option.some.inj h).symm⟩
theorem qr0 {dst:Option Nat} {t:TypeId} {s x:TD} {k:TRes→Option α} {r:α} (h:qil P dst t s x σ k=some r) : ∃ y,k y=some r∧Sim (q33 P dst t (eD s) (eD x) (eS σ).row) y:=by
 unfold qil at h
 split at h
 case h_2=>cases h
 rename_i el hu
 split at h
 case h_2=>cases h
 rename_i m bytes src hel hsrc
 split at h
 case isFalse=>cases h
 rename_i hm
 subst hm
 have h1:=j67 hsrc
 split at h
 ·rename_i tt g
  split at h
  case h_2=>cases h
  rename_i r' hr
  split at h
  case isFalse=>cases h
  rename_i he
  split at h
  case isFalse=>cases h
  rename_i hg
  obtain ⟨e',ys⟩:=src
  obtain ⟨gen,E,wr,e,xs⟩:=r'
  have he':e'=e:=he
  subst he'
  obtain ⟨hg1,hg2⟩:=hg
  have hg1':gen=g:=hg1
  have hg2':E=el:=hg2
  subst hg1' hg2'
  obtain ⟨zs,hz,h⟩:=Option.bind_eq_some_iff.1 h
  obtain ⟨c1,rfl⟩:=qt5 hz
  refine ⟨_,h,_,c1,?_⟩
  simp only at h1
  show q33 P dst t (.one (.c (.row tt gen))) (eD x) _=_
  generalize eD x=y at h1
  simp only [q33,hu,hel,h1,eD,e1,eC,q3e hr,eR,and_self,if_true,q9y,Option.map_none,Option.map_some,List.map_append,List.length_map]
 ·split at h
  case h_2=>cases h
  rename_i i
  split at h
  case h_2=>cases h
  rename_i hr
  obtain ⟨e',ys⟩:=src
  obtain ⟨zs,hz,h⟩:=Option.bind_eq_some_iff.1 h
  obtain ⟨c1,hzz⟩:=qt5 hz
  have hzz':zs=ys:=hzz
  clear hzz hz
  rw [hzz'] at h
  clear hzz' zs
  refine ⟨_,h,_,c1,?_⟩
  simp only at h1
  show q33 P (some i) t (.one (.c (.d (.v (.slice none 0 0))))) (eD x) _=_
  generalize eD x=y at h1
  simp only [q33,hu,hel,h1,eD,e1,eC,q9s hr,eR,q9y,Option.map_none,Option.map_some,List.map_append,List.length_map,List.nil_append,List.length_nil,Nat.zero_add]
 ·cases h
end Go.Proofs.YthpgnliicpejoaaGreatDoor.AM
namespace Go.Proofs.YthpgnliicpejoaaGreatDoor.AM
open Go.RowKit
set_option linter.unusedVariables false
set_option linter.unusedSimpArgs false
variable {α:Type} {P:Program} {σ:TSt}
def intT (op:BinOp) (k k':IntKind) (a b:Int) (c:TC→Option α):Option α:=match op with
 | .shl=>(jir k a b).bind fun z=>c (.d (.int k) z)
 | .shr=>(jeo k a b).bind fun z=>c (.d (.int k) z)
 | .add=>if k=k' then q0n (k.wrap (a+b)) fun z=>c (.d (.int k) z) else none
 | .sub=>if k=k' then q0n (k.wrap (a - b)) fun z=>c (.d (.int k) z) else none
 | .mul=>if k=k' then q0n (k.wrap (a*b)) fun z=>c (.d (.int k) z) else none
 | .quo=>if k=k' then (qsq k a b).bind fun z=>c (.d (.int k) z) else none
 | .rem=>if k=k' then (jdv a b).bind fun z=>c (.d (.int k) z) else none
 | .and=>if k=k' then q0n (andI k a b) fun z=>c (.d (.int k) z) else none
 | .or=>if k=k' then q0n (orI k a b) fun z=>c (.d (.int k) z) else none
 | .xor=>if k=k' then q0n (xorI k a b) fun z=>c (.d (.int k) z) else none
 | .eql=>if k=k' then c (.d .bool (decide (a=b))) else none
 | .neq=>if k=k' then c (.d .bool (!decide (a=b))) else none
 | .lss=>if k=k' then c (.d .bool (decide (a<b))) else none
 | .leq=>if k=k' then c (.d .bool (decide (a≤b))) else none
 | .gtr=>if k=k' then c (.d .bool (decide (b<a))) else none
 | .geq=>if k=k' then c (.d .bool (decide (b≤a))) else none
 | _=>none
def strT (op:BinOp) (s t:List UInt8) (c:TC→Option α):Option α:=match op with
 | .add=>(qff s t).bind fun z=>c (.d .str z)
 | .eql=>c (.d .bool (decide (s=t)))
 | .neq=>c (.d .bool (!decide (s=t)))
 | .lss=>c (.d .bool (ltS s t))
 | .leq=>c (.d .bool (ltS s t||decide (s=t)))
 | .gtr=>c (.d .bool (!(ltS s t||decide (s=t))))
 | .geq=>c (.d .bool (!ltS s t))
 | _=>none
def vC (c:TC):TRes:={ val:=.one (.c c) }
theorem ji2 {op:BinOp} {T:TypeId} {k k':IntKind} {a b:Int} {c:TC→Option α} {r:α} (h:intT op k k' a b c=some r) :
  ∃ x,c x=some r∧Sim (q8e P op T (.one (.c (.d (.v (.int k a))))) (.one (.c (.d (.v (.int k' b)))))) (vC x):=by
 unfold intT at h
 split at h
 case h_1 =>
  obtain ⟨z,hz,h⟩:=Option.bind_eq_some_iff.1 h
  unfold jir at hz
  split at hz
  case isFalse=>cases hz
  rename_i hb
  simp only [Option.some.injEq] at hz;subst hz
  exact ⟨_,h,_,hb,rfl⟩
 case h_2 =>
  obtain ⟨z,hz,h⟩:=Option.bind_eq_some_iff.1 h
  unfold jeo at hz
  split at hz
  case isFalse=>cases hz
  rename_i hb
  simp only [Option.some.injEq] at hz;subst hz
  exact ⟨_,h,_,hb,rfl⟩
 case h_6 =>
  split at h
  case isFalse=>cases h
  rename_i hk;subst hk
  obtain ⟨z,hz,h⟩:=Option.bind_eq_some_iff.1 h
  unfold qsq at hz
  split at hz
  case isFalse=>cases hz
  rename_i hb
  simp only [Option.some.injEq] at hz;subst hz
  refine ⟨_,h,_,hb,?_⟩
  simp only [q8e,if_true,qh3,Option.map_some];rfl
 case h_7 =>
  split at h
  case isFalse=>cases h
  rename_i hk;subst hk
  obtain ⟨z,hz,h⟩:=Option.bind_eq_some_iff.1 h
  unfold jdv at hz
  split at hz
  case isFalse=>cases hz
  rename_i hb
  simp only [Option.some.injEq] at hz;subst hz
  refine ⟨_,h,_,hb,?_⟩
  simp only [q8e,if_true,qh3,Option.map_some];rfl
 case h_17=>cases h
 all_goals
  split at h
  case isFalse=>cases h
  rename_i hk;subst hk
  refine ⟨_,h,Sim.tr ?_⟩
  simp only [q8e,if_true,qh3,Option.map_some];rfl
theorem jku {s t:List UInt8} : (ba s=ba t)=(s=t):=by
 apply propext
 constructor
 ·intro h
  have:=congrArg ByteArray.data h
  exact Array.toList_inj.2 this |> fun h=>by simpa [ba] using h
 ·rintro rfl;rfl
theorem qik (s:List UInt8):(ba s).toList=s:=by rw [ByteArray.toList_eq];rfl
theorem j9c (s t:List UInt8):ba s++ba t=ba (s++t):=by
 apply ByteArray.ext
 rw [ByteArray.data_append]
 simp [ba]
theorem je3 (s t:List UInt8):decide (ba s=ba t)=decide (s=t):=by simp only [jku]
theorem jho {op:BinOp} {T:TypeId} {s t:List UInt8} {c:TC→Option α} {r:α} (h:strT op s t c=some r) :
  ∃ x,c x=some r∧Sim (q8e P op T (.one (.c (.d (.v (.string (ba s)))))) (.one (.c (.d (.v (.string (ba t))))))) (vC x):=by
 unfold strT at h
 split at h
 case h_1 =>
  obtain ⟨z,hz,h⟩:=Option.bind_eq_some_iff.1 h
  unfold qff at hz
  split at hz
  case isFalse=>cases hz
  rename_i hb
  simp only [Option.some.injEq] at hz;subst hz
  refine ⟨_,h,_,hb,?_⟩
  simp only [q8e,qkp,Option.map_some,q21,j9c];rfl
 case h_8=>cases h
 all_goals
  refine ⟨_,h,Sim.tr ?_⟩
  simp only [q8e,qkp,Option.map_some,qik,je3];rfl
def eqC1 (P:Program) (t:TypeId) (x y:TC):Option Bool:=match P.underlying t,x,y with
 | some .bool,.d .bool a,.d .bool b=>some (decide ((a:Bool)=b))
 | some (.int _),.d (.int k) a,.d (.int k') b=>if k=k' then some (decide ((a:Int)=b)) else none
 | some .string,.d .str a,.d .str b=>some (decide ((a:List UInt8)=b))
 | _,_,_=>none
def vT:TC→Option Value
 | .d (.int k) n=>some (.int k n)
 | .d .bool b=>some (.bool b)
 | .d .str s=>some (.string (ba s))
 | _=>none
def vTs:List TC→Option (List Value)
 | []=>some []
 | c::cs=>match vT c,vTs cs with
  | some x,some xs=>some (x::xs)
  | _,_=>none
theorem vT_ok {c:TC} {v:Value} (h:vT c=some v):eC c = .d (.v v):=by
 unfold vT at h
 split at h<;>simp only [Option.some.injEq,reduceCtorEq] at h<;>subst h<;>rfl
theorem j75 : ∀ {cs:List TC} {xs:List Value},vTs cs=some xs→jex (cs.map eC)=some xs
 | [],xs,h=>by simp only [vTs,Option.some.injEq] at h;subst h;rfl
 | c::cs,xs,h=>by
  unfold vTs at h
  split at h
  case h_2=>cases h
  rename_i x ys hx hy
  simp only [Option.some.injEq] at h;subst h
  rw [List.map_cons,vT_ok hx]
  show (jex (cs.map eC)).map (x :: ·)=_
  rw [j75 hy];rfl
def jd6 (P:Program):List Field→List TC→List TC→Option Bool
 | [],_,_=>some true
 | f::fs,xs,ys=>if f.name = "_" then none else match nth xs f.offset,nth ys f.offset,qew P f.type with
  | some x,some y,some false=>match eqC1 P f.type x y,jd6 P fs xs ys with
   | some b,some c=>some (b&&c)
   | _,_=>none
  | _,_,_=>none
theorem jgg {t:TypeId} {x y:TC} {u v:Value} {b:Bool} (hx:vT x=some u) (hy:vT y=some v) (h:eqC1 P t x y=some b):eqV P t u v=some b:=by
 unfold eqC1 at h
 split at h
 ·rename_i hu
  simp only [vT,Option.some.injEq] at hx hy h;subst hx hy h
  simp only [eqV,hu]
 ·rename_i hu
  split at h
  case isFalse=>cases h
  rename_i hk;subst hk
  simp only [vT,Option.some.injEq] at hx hy h;subst hx hy h
  simp only [eqV,hu,if_true]
 ·rename_i hu
  simp only [vT,Option.some.injEq] at hx hy h;subst hx hy h
  simp only [eqV,hu,je3]
 ·cases h
theorem qvm : ∀ {cs:List TC} {xs:List Value} {i:Nat} {c:TC},vTs cs=some xs→nth cs i=some c→∃ v,xs[i]? = some v∧vT c=some v
 | [],_,_,_,_,h=>by cases h
 | c0::cs,xs,i,c,h,hn=>by
  unfold vTs at h
  split at h
  case h_2=>cases h
  rename_i x ys hx hy
  simp only [Option.some.injEq] at h;subst h
  cases i with
  | zero=>simp only [nth,Option.some.injEq] at hn;subst hn;exact ⟨x,rfl,hx⟩
  | succ i =>
   obtain ⟨v,h1,h2⟩:=qvm hy (show nth cs i=some c from hn)
   exact ⟨v,by simpa using h1,h2⟩
theorem qzw {us vs:List Value} {xs ys:List TC} (hx:vTs xs=some us) (hy:vTs ys=some vs) : ∀ {fs:List Field} {b:Bool},jd6 P fs xs ys=some b→jj0 P fs us vs=some b
 | [],b,h=>h
 | f::fs,b,h=>by
  unfold jd6 at h
  split at h
  case isTrue=>cases h
  rename_i hn
  split at h
  case h_2=>cases h
  rename_i x y h1 h2 h3
  split at h
  case h_2=>cases h
  rename_i b1 b2 h4 h5
  obtain ⟨u,k1,k2⟩:=qvm hx h1
  obtain ⟨v,k3,k4⟩:=qvm hy h2
  unfold jj0
  rw [if_neg hn,k1,k3,h3]
  simp only [jgg k2 k4 h4,qzw hx hy h5]
  exact h
def qjx (P:Program) (t:TypeId) (xs ys:List TC):Option Bool:=match P.underlying t,vTs xs,vTs ys with
 | some (.struct fs),some _,some _=>if P.stoodInHeld t=false∧P.eqGuardType P.depth t=false then jd6 P fs.toList xs ys else none
 | _,_,_=>none
theorem qf1 {t:TypeId} {xs ys:List TC} {b:Bool} (h:qjx P t xs ys=some b):q91 P t (xs.map eC) (ys.map eC)=some b:=by
 unfold qjx at h
 split at h
 case h_2=>cases h
 rename_i fs us vs hu hx hy
 split at h
 case isFalse=>cases h
 rename_i hc
 unfold q91
 rw [hu,j75 hx,j75 hy]
 simp only
 rw [if_pos hc]
 exact qzw hx hy h
def j7x (P:Program) (op:BinOp) (T:TypeId) (x y:TD) (k:TRes→Option α):Option α:=match x,y with
 | .one (.c (.d (.int kx) a)),.one (.c (.d (.int ky) b))=>intT op kx ky a b (fun c=>k (vC c))
 | .one (.c (.d .str s)),.one (.c (.d .str t))=>strT op s t (fun c=>k (vC c))
 | .one (.c (.d .bool a)),.one (.c (.d .bool b))=>match P.underlying T,op with
  | some .bool,.eql=>k (vC (.d .bool (decide ((a:Bool)=b))))
  | some .bool,.neq=>k (vC (.d .bool (!decide ((a:Bool)=b))))
  | _,_=>none
 | .one (.agg xs),.one (.agg ys)=>match op,qjx P T xs ys with
  | .eql,some b=>k (vC (.d .bool b))
  | .neq,some b=>k (vC (.d .bool (!b)))
  | _,_=>none
 | _,_=>none
theorem j87 {op:BinOp} {T:TypeId} {x y:TD} {k:TRes→Option α} {r:α} (h:j7x P op T x y k=some r) : ∃ z,k z=some r∧Sim (q8e P op T (eD x) (eD y)) z:=by
 unfold j7x at h
 split at h
 ·obtain ⟨z,h1,h2⟩:=ji2 (P:=P) (T:=T) h
  exact ⟨_,h1,h2⟩
 ·obtain ⟨z,h1,h2⟩:=jho (P:=P) (T:=T) h
  exact ⟨_,h1,h2⟩
 ·split at h
  ·rename_i hu
   exact ⟨_,h,Sim.tr (by simp only [q8e,eD,e1,eC,q0j,List.headD_cons,eqV,hu,Option.map_some];rfl)⟩
  ·rename_i hu
   exact ⟨_,h,Sim.tr (by simp only [q8e,eD,e1,eC,q0j,List.headD_cons,eqV,hu,Option.map_some];rfl)⟩
  ·cases h
 ·split at h
  ·rename_i b hb
   exact ⟨_,h,Sim.tr (by simp only [q8e,eD,e1,qf1 hb,Option.map_some];rfl)⟩
  ·rename_i b hb
   exact ⟨_,h,Sim.tr (by simp only [q8e,eD,e1,qf1 hb,Option.map_some];rfl)⟩
  ·cases h
 ·cases h
def jhg (op:UnOp) (x:TD) (k:TRes→Option α):Option α:=match op,x with
 | .not,.one (.c (.d .bool b))=>k (vC (.d .bool (!(b:Bool))))
 | .neg,.one (.c (.d (.int kk) n))=>k (vC (.d (.int kk) (kk.wrap (0 - (n:Int)))))
 | _,_=>none
theorem jd0 {op:UnOp} {x:TD} {k:TRes→Option α} {r:α} (h:jhg op x k=some r) : ∃ z,k z=some r∧Sim (jit op (eD x)) z:=by
 unfold jhg at h
 split at h
 ·exact ⟨_,h,Sim.tr rfl⟩
 ·exact ⟨_,h,Sim.tr rfl⟩
 ·cases h
def qve (P:Program) (src dst:TypeId) (x:TD) (k:TRes→Option α):Option α:=match P.underlying src,P.underlying dst,x with
 | some _,some (.int kk),.one (.c (.d (.int _) n))=>q0n (kk.wrap n) fun z=>k (vC (.d (.int kk) z))
 | some .string,some .string,.one (.c (.d .str s))=>k (vC (.d .str s))
 | _,_,_=>none
theorem j2v {src dst:TypeId} {x:TD} {k:TRes→Option α} {r:α} (h:qve P src dst x k=some r) : ∃ z,k z=some r∧Sim (qa7 P src dst (eD x)) z:=by
 unfold qve at h
 split at h
 ·rename_i h1 h2
  exact ⟨_,h,Sim.tr (by simp only [qa7,eD,e1,eC,q0j,List.headD_cons,h1,h2];rfl)⟩
 ·rename_i h1 h2
  exact ⟨_,h,Sim.tr (by simp only [qa7,eD,e1,eC,q0j,List.headD_cons,h1,h2];rfl)⟩
 ·cases h
def qpx (P:Program) (src dst:TypeId):Bool:=match P.underlying src,P.underlying dst with
 | some (.slice _),some .string=>true
 | some .string,some (.slice _)=>true
 | _,_=>false
def bytO (s:List UInt8):Option (List Int):=if s.length≤9223372036854775807 then some (s.map fun b=>((b.toNat:Nat):Int)) else none
def qda (P:Program) (o:Option Nat) (src dst:TypeId) (x:TD) (σ:TSt) (k:TRes→Option α):Option α:=match P.underlying src,P.underlying dst with
 | some (.slice e),some .string=>match P.underlying e,srcT x σ with
  | some (.int .u8),some ⟨.int .u8,xs⟩=>k (vC (.d .str ((xs:List Int).map fun n=>UInt8.ofNat n.toNat)))
  | _,_=>none
 | some .string,some (.slice e)=>match P.underlying e,x,o with
  | some (.int .u8),.one (.c (.d .str s)),some i=>match lk σ.rows i with
   | none=>if e<1099511627776 then (bytO s).bind fun xs=>k { val:=.one (.c (.row i 0)),row:=some (i,⟨0,e+1099511627776,true,.int .u8,xs⟩) } else none
   | some _=>none
  | _,_,_=>none
 | _,_=>none
theorem qsc : ∀ (xs:List Int),qs7 (xs.map (q0j (.int .u8)))=some xs
 | []=>rfl
 | x::xs=>by
  show (qs7 (xs.map (q0j (.int .u8)))).map (x :: ·)=_
  rw [qsc xs];rfl
theorem qyj : ∀ (xs:List Int) (b:List UInt8),xs.foldl (fun r n=>r.push (UInt8.ofNat n.toNat)) (ba b)=ba (b++xs.map fun n=>UInt8.ofNat n.toNat)
 | [],b=>by simp
 | x::xs,b=>by
  rw [List.foldl_cons,show (ba b).push (UInt8.ofNat x.toNat)=ba (b ++ [UInt8.ofNat x.toNat]) from by simp [ba,ByteArray.push],qyj xs]
  simp
theorem jcn (xs:List Int):strOf xs=ba (xs.map fun n=>UInt8.ofNat n.toNat):=by
 have:=qyj xs []
 rw [List.nil_append] at this
 exact this
theorem qvf {src dst:TypeId} {x:D} (h:qpx P src dst=true):qa7 P src dst x=none:=by
 unfold qpx at h
 unfold qa7
 split at h
 ·rename_i h1 h2;rw [h1,h2]
 ·rename_i h1 h2;rw [h1,h2]
 ·cases h
theorem qp5 {o:Option Nat} {src dst:TypeId} {x:TD} {k:TRes→Option α} {r:α} (h:qda P o src dst x σ k=some r) : ∃ z,k z=some r∧Sim (q3c P o src dst (eD x) (eS σ).row) z:=by
 unfold qda at h
 split at h
 ·rename_i e h1 h2
  split at h
  case h_2=>cases h
  rename_i xs he hx
  have hs:=j67 hx
  have hs':qfv 1 (eD x) (eS σ).row=some (xs.map (q0j (.int .u8))):=hs
  refine ⟨_,h,Sim.tr ?_⟩
  have hi:qs7 (List.map (q0j (.int .u8)) xs)=some xs:=qsc xs
  simp only [q3c,h1,h2,he,hs',Option.bind_some]
  rw [hi]
  simp only [jcn]
  rfl
 ·rename_i e h1 h2
  split at h
  case h_2=>cases h
  rename_i s i he
  split at h
  case h_2=>cases h
  rename_i hr
  split at h
  case isFalse=>cases h
  rename_i hlt
  obtain ⟨xs,hxs,h⟩:=Option.bind_eq_some_iff.1 h
  unfold bytO at hxs
  split at hxs
  case isFalse=>cases hxs
  rename_i hle
  simp only [Option.some.injEq] at hxs;subst hxs
  refine ⟨_,h,(ba s).size≤maxLen,by rw [q21];exact hle,?_⟩
  simp only [q3c,h1,h2,he,eD,e1,eC,q0j,List.headD_cons,q9s hr]
  rw [if_pos hlt]
  have e3:(ba s).data.toList=s:=by simp [ba]
  rw [e3]
  simp only [q9y,eD,e1,eC,Option.map_none,Option.map_some,eR,List.map_map]
  rfl
 ·cases h
def qwt (c x y:TD) (k:TRes→Option α):Option α:=match c with
 | .one (.c (.d .bool t))=>bif t then k { val:=x } else k { val:=y }
 | _=>none
theorem j0v {c x y:TD} {k:TRes→Option α} {r:α} (h:qwt c x y k=some r) : ∃ z,k z=some r∧Sim (ql6 (eD c) (eD x) (eD y)) z:=by
 unfold qwt at h
 split at h
 case h_2=>cases h
 rename_i t
 cases t with
 | true=>exact ⟨_,h,Sim.tr rfl⟩
 | false=>exact ⟨_,h,Sim.tr rfl⟩
def makO (b:Nat) (q:Int) (n:Int):Option (List Int):=if 0≤n∧n≤16777216∧b*n.toNat≤281474976710656 then some (List.replicate n.toNat q) else none
def qwj (P:Program) (dst:Option Nat) (t:TypeId) (x:TD) (σ:TSt) (k:TRes→Option α):Option α:=match P.underlying t,dst,x with
 | some (.slice el),some i,.one (.c (.d (.int _) n))=>match lk σ.rows i,(P.info? el).map (fun i=>(i.zero,i.size,i.bytes)) with
  | none,some (some (Value.int kk q),1,b)=>bif Nat.blt el 1099511627776 then (makO b q n).bind fun xs=>k { val:=.one (.c (.row i 0)),row:=some (i,⟨0,el,true,.int kk,xs⟩) } else none
  | _,_=>none
 | _,_,_=>none
theorem j1i {dst:Option Nat} {t:TypeId} {x:TD} {k:TRes→Option α} {r:α} (h:qwj P dst t x σ k=some r) : ∃ y,k y=some r∧Sim (qbq P dst t (eD x) (eS σ).row) y:=by
 unfold qwj at h
 split at h
 case h_2=>cases h
 rename_i el i kx n hu
 split at h
 case h_2=>cases h
 rename_i kk q b hr hinf
 cases hb:Nat.blt el 1099511627776 with
 | false=>rw [hb] at h;cases h
 | true =>
  rw [hb] at h
  have hlt:el<1099511627776:=by simpa using hb
  obtain ⟨xs,hxs,h⟩:=Option.bind_eq_some_iff.1 h
  unfold makO at hxs
  split at hxs
  case isFalse=>cases hxs
  rename_i hc
  simp only [Option.some.injEq] at hxs;subst hxs
  refine ⟨_,h,Sim.tr ?_⟩
  simp only [qbq,hu,eD,e1,eC,q0j,List.headD_cons,q9s hr,hinf]
  rw [if_pos ⟨hc.1,hc.2.1,hc.2.2,hlt⟩]
  simp only [q9y,eD,e1,eC,Option.map_none,Option.map_some,eR,List.map_replicate]
  rfl
def jcs (f:Int→Int→Int) (x y:TD) (k:TRes→Option α):Option α:=match x,y with
 | .one (.c (.d (.int kk) n)),.one (.c (.d (.int _) m))=>q0n (f n m) fun z=>k (vC (.d (.int kk) z))
 | _,_=>none
theorem qzj {f:Int→Int→Int} {x y:TD} {k:TRes→Option α} {r:α} (h:jcs f x y k=some r) : ∃ z,k z=some r∧Sim (jc1 f (eD x) (eD y)) z:=by
 unfold jcs at h
 split at h
 case h_2=>cases h
 exact ⟨_,h,Sim.tr rfl⟩
def vTI:TC→Option Value
 | .d (.int k) n=>some (.int k n)
 | .d .bool b=>some (.bool b)
 | .d .str s=>some (.string (ba s))
 | .d .any v=>some (Subtype.val (v:IV))
 | _=>none
def jl1:List TC→Option (List Value)
 | []=>some []
 | c::cs=>match vTI c,jl1 cs with
  | some x,some xs=>some (x::xs)
  | _,_=>none
def vTD:TD→Option Value
 | .one (.c c)=>vTI c
 | .one (.agg cs)=>(jl1 cs).map fun xs=>.agg ⟨xs⟩
 | .tup _=>none
theorem jdz {c:TC} {v:Value} (h:vTI c=some v):jip (eC c)=some v:=by
 unfold vTI at h
 split at h<;>simp only [Option.some.injEq,reduceCtorEq] at h<;>subst h<;>rfl
theorem j9g : ∀ {cs:List TC} {xs:List Value},jl1 cs=some xs→qn8 (cs.map eC)=some xs
 | [],xs,h=>by simp only [jl1,Option.some.injEq] at h;subst h;rfl
 | c::cs,xs,h=>by
  unfold jl1 at h
  split at h
  case h_2=>cases h
  rename_i x ys hx hy
  simp only [Option.some.injEq] at h;subst h
  rw [List.map_cons]
  unfold qn8
  rw [jdz hx,j9g hy]
theorem jjw {d:TD} {v:Value} (h:vTD d=some v):jjv (eD d)=some v:=by
 unfold vTD at h
 split at h
 ·exact jdz h
 ·obtain ⟨xs,h1,rfl⟩:=Option.map_eq_some_iff.1 h
  show (qn8 _).map _=_
  rw [j9g h1];rfl
 ·cases h
def qow (P:Program) (t:TypeId) (x:TD) (k:TRes→Option α):Option α:=match P.concrete t,vTD x with
 | true,some v=>k (vC (.d .any (jdw t v)))
 | _,_=>none
theorem qv6 {t:TypeId} {x:TD} {k:TRes→Option α} {r:α} (h:qow P t x k=some r) : ∃ z,k z=some r∧Sim (qac P t (eD x)) z:=by
 unfold qow at h
 split at h
 case h_2=>cases h
 rename_i v hc hv
 exact ⟨_,h,Sim.tr (by unfold qac;rw [hc,jjw hv];rfl)⟩
def qw7 (P:Program) (op:BinOp) (t:TypeId) (x:TD) (k:TRes→Option α):Option α:=match qys P t,op,x with
 | true,.eql,.one (.c (.d .any v))=>(q5s (Subtype.val (v:IV))).bind fun b=>k (vC (.d .bool b))
 | true,.neq,.one (.c (.d .any v))=>(q5s (Subtype.val (v:IV))).bind fun b=>k (vC (.d .bool (!b)))
 | _,_,_=>none
theorem j39 {op:BinOp} {t:TypeId} {x:TD} {k:TRes→Option α} {r:α} (h:qw7 P op t x k=some r) : ∃ z,k z=some r∧Sim (qf7 P op t (eD x)) z:=by
 unfold qw7 at h
 split at h
 case h_3=>cases h
 ·rename_i v hc
  obtain ⟨b,hb,h⟩:=Option.bind_eq_some_iff.1 h
  exact ⟨_,h,Sim.tr (by simp only [qf7,hc,eD,e1,eC,q0j,List.headD_cons,hb,Option.map_some];rfl)⟩
 ·rename_i v hc
  obtain ⟨b,hb,h⟩:=Option.bind_eq_some_iff.1 h
  exact ⟨_,h,Sim.tr (by simp only [qf7,hc,eD,e1,eC,q0j,List.headD_cons,hb,Option.map_some];rfl)⟩
def w1 (x:Option TD) (f:TD→Option α):Option α:=match x with|some y=>f y|none=>none
def w0 (σ:TSt) (x:Option Operand) (f:Option TD→Option α):Option α:=match x with
 | none=>f none
 | some x=>match q1q σ x with|some y=>f (some y)|none=>none
theorem q17 {x:Option TD} {f:TD→Option α} {r:α} (h:w1 x f=some r) : ∃ y,x=some y∧f y=some r:=by
 cases x with
 | none=>cases h
 | some y=>exact ⟨y,rfl,h⟩
theorem j4r {x:Option Operand} {f:Option TD→Option α} {r:α} (h:w0 σ x f=some r) : ∃ y,x.map (opnd (eS σ))=y.map eD∧f y=some r:=by
 cases x with
 | none=>exact ⟨none,rfl,h⟩
 | some x =>
  unfold w0 at h
  simp only at h
  split at h
  ·rename_i y hy
   exact ⟨some y,by rw [Option.map_some,Option.map_some,q0p hy],h⟩
  ·cases h
def rowD:TD→Bool
 | .one (.c (.row _ _))=>true
 | _=>false
def tev (P:Program) (o:Oper) (σ:TSt) (k:TRes→Option α):Option α:=match o.op with
 | .move x=>w1 (q1q σ x) fun y=>k { val:=y }
 | .assign x=>w1 (q1q σ x) fun y=>k { val:=y }
 | .pick c x y=>w1 (q1q σ c) fun c=>w1 (q1q σ x) fun x=>w1 (q1q σ y) fun y=>qwt c x y k
 | .alloc t=>qp2 P o.dst t σ k
 | .box t x=>w1 (q1q σ x) fun x=>j6e o.dst t x σ k
 | .load t x=>w1 (q1q σ x) fun x=>qup P t x σ k
 | .store t x y=>w1 (q1q σ x) fun x=>w1 (q1q σ y) fun y=>qpa P t x y σ k
 | .fieldAddr t x f=>w1 (q1q σ x) fun x=>q8c P t x f k
 | .field t x f=>w1 (q1q σ x) fun x=>qoq P t x f k
 | .index t x i=>w1 (q1q σ x) fun x=>w1 (q1q σ i) fun i=>qpd P t x i k
 | .indexAddr t x i=>w1 (q1q σ x) fun x=>w1 (q1q σ i) fun i=>q81 P t x i σ k
 | .extract x i=>w1 (q1q σ x) fun x=>qdv x i k
 | .build t ps=>qn5 P t ps σ k
 | .buildSlice t n ps=>q72 P o.dst t n ps σ k
 | .binOp op t x y _=>bif qaz y then w1 (q1q σ x) fun x=>qw7 P op t x k else w1 (q1q σ x) fun x=>w1 (q1q σ y) fun y=>j7x P op t x y k
 | .makeInterface t x=>w1 (q1q σ x) fun x=>qow P t x k
 | .unOp op _ x=>w1 (q1q σ x) fun x=>jhg op x k
 | .convert s d x=>w1 (q1q σ x) fun x=>bif qpx P s d then qda P o.dst s d x σ k else qve P s d x k
 | .slice t x lo hi none=>w1 (q1q σ x) fun x=>w0 σ lo fun lo=>w0 σ hi fun hi=>bif rowD x then qas P t x lo hi σ k else qoh P t x lo hi k
 | .nilCheck x=>w1 (q1q σ x) fun x=>j6z x k
 | .call ⟨.builtin .len,⟨[x]⟩,⟨[t]⟩⟩=>w1 (q1q σ x) fun x=>j3w P t x σ k
 | .call ⟨.builtin .append,⟨[s,x]⟩,⟨[t,t']⟩⟩=>if t=t' then w1 (q1q σ s) fun s=>w1 (q1q σ x) fun x=>qil P o.dst t s x σ k else none
 | .makeSlice t x y=>bif qf5 x y then w1 (q1q σ x) fun x=>qwj P o.dst t x σ k else none
 | .call ⟨.builtin .max,⟨[x,y]⟩,⟨[_,_]⟩⟩=>w1 (q1q σ x) fun x=>w1 (q1q σ y) fun y=>jcs max x y k
 | .call ⟨.builtin .min,⟨[x,y]⟩,⟨[_,_]⟩⟩=>w1 (q1q σ x) fun x=>w1 (q1q σ y) fun y=>jcs min x y k
 | _=>none
theorem jeu {o:Oper} {k:TRes→Option α} {r:α} (h:tev P o σ k=some r) : ∃ y,k y=some r∧Sim (qe9 P o (opnd (eS σ)) (eS σ).box (eS σ).row) y:=by
 unfold tev at h
 unfold qe9
 split at h
 ·rename_i ho;rw [ho]
  obtain ⟨x1,e1',h⟩:=q17 h
  exact ⟨_,h,Sim.tr (by show some _=_;rw [q0p e1'];rfl)⟩
 ·rename_i ho;rw [ho]
  obtain ⟨x1,e1',h⟩:=q17 h
  exact ⟨_,h,Sim.tr (by show some _=_;rw [q0p e1'];rfl)⟩
 ·rename_i ho;rw [ho]
  obtain ⟨x1,e1',h⟩:=q17 h
  obtain ⟨x2,e2',h⟩:=q17 h
  obtain ⟨x3,e3',h⟩:=q17 h
  show ∃ y,_∧Sim (ql6 _ _ _) y
  rw [q0p e1',q0p e2',q0p e3'];exact j0v h
 ·rename_i ho;rw [ho]
  exact qvq h
 ·rename_i ho;rw [ho]
  obtain ⟨x1,e1',h⟩:=q17 h
  show ∃ y,_∧Sim (qj0 _ _ _ _) y
  rw [q0p e1'];exact j98 h
 ·rename_i ho;rw [ho]
  obtain ⟨x1,e1',h⟩:=q17 h
  show ∃ y,_∧Sim (q7s _ _ _ _ _) y
  rw [q0p e1'];exact j2d h
 ·rename_i ho;rw [ho]
  obtain ⟨x1,e1',h⟩:=q17 h
  obtain ⟨x2,e2',h⟩:=q17 h
  show ∃ y,_∧Sim (q41 _ _ _ _ _ _) y
  rw [q0p e1',q0p e2'];exact qvh h
 ·rename_i ho;rw [ho]
  obtain ⟨x1,e1',h⟩:=q17 h
  show ∃ y,_∧Sim (q2c _ _ _ _) y
  rw [q0p e1'];exact qhs h
 ·rename_i ho;rw [ho]
  obtain ⟨x1,e1',h⟩:=q17 h
  show ∃ y,_∧Sim (q8b _ _ _ _) y
  rw [q0p e1'];exact qwl h
 ·rename_i ho;rw [ho]
  obtain ⟨x1,e1',h⟩:=q17 h
  obtain ⟨x2,e2',h⟩:=q17 h
  show ∃ y,_∧Sim (q4o _ _ _ _) y
  rw [q0p e1',q0p e2'];exact qvc h
 ·rename_i ho;rw [ho]
  obtain ⟨x1,e1',h⟩:=q17 h
  obtain ⟨x2,e2',h⟩:=q17 h
  show ∃ y,_∧Sim (q1i _ _ _ _ _) y
  rw [q0p e1',q0p e2'];exact qi2 h
 ·rename_i ho;rw [ho]
  obtain ⟨x1,e1',h⟩:=q17 h
  show ∃ y,_∧Sim (q5d _ _) y
  rw [q0p e1'];exact qpk h
 ·rename_i ho;rw [ho]
  exact qwe h
 ·rename_i ho;rw [ho]
  exact qfu h
 ·rename_i ho;rw [ho]
  show ∃ y,_∧Sim (bif qaz _ then qf7 _ _ _ _ else q8e _ _ _ _ _) y
  cases hn:qaz _ with
  | true =>
   rw [hn] at h
   obtain ⟨x1,e1',h⟩:=q17 h
   rw [q0p e1'];exact j39 h
  | false =>
   rw [hn] at h
   obtain ⟨x1,e1',h⟩:=q17 h
   obtain ⟨x2,e2',h⟩:=q17 h
   rw [q0p e1',q0p e2'];exact j87 h
 ·rename_i ho;rw [ho]
  obtain ⟨x1,e1',h⟩:=q17 h
  show ∃ y,_∧Sim (qac _ _ _) y
  rw [q0p e1'];exact qv6 h
 ·rename_i ho;rw [ho]
  obtain ⟨x1,e1',h⟩:=q17 h
  show ∃ y,_∧Sim (jit _ _) y
  rw [q0p e1'];exact jd0 h
 ·rename_i ho;rw [ho]
  obtain ⟨x1,e1',h⟩:=q17 h
  show ∃ y,_∧Sim (match qa7 _ _ _ _ with|some r=>some r|none=>q3c _ _ _ _ _ _) y
  rw [q0p e1']
  cases hb:qpx P _ _ with
  | true =>
   rw [hb] at h
   rw [qvf hb]
   exact qp5 h
  | false =>
   rw [hb] at h
   obtain ⟨y,h1,c,h2,h3⟩:=j2v (P:=P) h
   rw [h3]
   exact ⟨y,h1,c,h2,rfl⟩
 ·rename_i ho;rw [ho]
  obtain ⟨x1,e1',h⟩:=q17 h
  obtain ⟨x2,e2',h⟩:=j4r h
  obtain ⟨x3,e3',h⟩:=j4r h
  show ∃ y,_∧Sim (match q5k _ _ _ _ _ with|some r=>some r|none=>q36 _ _ _ _ _ _) y
  rw [q0p e1',e2',e3']
  cases hb:rowD x1 with
  | true =>
   rw [hb] at h
   obtain ⟨y,h1,h2,h3⟩:=qkb (P:=P) h
   rw [h2]
   exact ⟨y,h1,h3⟩
  | false =>
   rw [hb] at h
   obtain ⟨y,h1,c,h2,h3⟩:=qvi (P:=P) h
   rw [h3]
   exact ⟨y,h1,c,h2,rfl⟩
 ·rename_i ho;rw [ho]
  obtain ⟨x1,e1',h⟩:=q17 h
  show ∃ y,_∧Sim (j94 _) y
  rw [q0p e1'];exact j8s h
 ·rename_i ho;rw [ho]
  obtain ⟨x1,e1',h⟩:=q17 h
  show ∃ y,_∧Sim (qdh _ _ _ _) y
  rw [q0p e1'];exact j51 h
 ·rename_i ho;rw [ho]
  split at h
  case isFalse=>cases h
  rename_i ht
  obtain ⟨x1,e1',h⟩:=q17 h
  obtain ⟨x2,e2',h⟩:=q17 h
  show ∃ y,_∧Sim (if _=_ then q33 _ _ _ _ _ _ else none) y
  rw [if_pos ht,q0p e1',q0p e2'];exact qr0 h
 ·rename_i ho;rw [ho]
  cases hs:qf5 _ _ with
  | false=>rw [hs] at h;cases h
  | true =>
   rw [hs] at h
   obtain ⟨x1,e1',h⟩:=q17 h
   show ∃ y,_∧Sim (bif qf5 _ _ then qbq _ _ _ _ _ else none) y
   rw [hs,q0p e1'];exact j1i h
 ·rename_i ho;rw [ho]
  obtain ⟨x1,e1',h⟩:=q17 h
  obtain ⟨x2,e2',h⟩:=q17 h
  show ∃ y,_∧Sim (jc1 _ _ _) y
  rw [q0p e1',q0p e2'];exact qzj h
 ·rename_i ho;rw [ho]
  obtain ⟨x1,e1',h⟩:=q17 h
  obtain ⟨x2,e2',h⟩:=q17 h
  show ∃ y,_∧Sim (jc1 _ _ _) y
  rw [q0p e1',q0p e2'];exact qzj h
 ·cases h
end Go.Proofs.YthpgnliicpejoaaGreatDoor.AM
