
import Derived.Test.YthpgnliicpejoaaGreatDoorVp3
namespace Go.Proofs.YthpgnliicpejoaaGreatDoor.AM
open Go.RowKit
set_option linter.unusedVariables false
set_option linter.unusedSimpArgs false
abbrev IV:={ v:Value // v.oneCell'=true }
def j23:IV:=⟨.nilIface,rfl⟩
def jeo (t:TypeId) (v:Value):IV:=⟨.iface t v,rfl⟩
inductive Ty where
 | int (k:IntKind)
 | bool
 | str
 | lst (e:Ty)
 | prod (a b:Ty)
 | any
deriving DecidableEq
@[reducible] def den:Ty→Type
 | .int _=>Int
 | .bool=>Bool
 | .str=>List UInt8
 | .lst e=>List (den e)
 | .prod a b=>den a×den b
 | .any=>IV
def width:Ty→Nat
 | .prod a b=>width a+width b
 | _=>1
def ba (s:List UInt8):ByteArray:=⟨s.toArray⟩
def q0j:(e:Ty)→den e→List Dat
 | .int k,(n:Int)=>[.v (.int k n)]
 | .bool,(b:Bool)=>[.v (.bool b)]
 | .str,(s:List UInt8)=>[.v (.string (ba s))]
 | .lst e,(l:List (den e))=>[.lst (width e) (l.map (q0j e))]
 | .prod a b,(p:den a×den b)=>q0j a p.1++q0j b p.2
 | .any,(v:IV)=>[.v v.1]
theorem qhk (a b:Ty) (p:den (.prod a b)):q0j (.prod a b) p=q0j a (Prod.fst (p:den a×den b))++q0j b (Prod.snd (p:den a×den b)):=rfl
theorem q28 : ∀ (e:Ty) (x:den e),(q0j e x).length=width e
 | .int _,_=>rfl
 | .bool,_=>rfl
 | .str,_=>rfl
 | .lst _,_=>rfl
 | .prod a b,p=>by rw [qhk,List.length_append,q28 a,q28 b];rfl
 | .any,_=>rfl
inductive TC where
 | d (ty:Ty) (x:den ty)
 | nil
 | box (β off:Nat)
 | row (t g:Nat)
 | rp (e:Ty) (off:Nat) (x:den e)
 | wp (t g k off:Nat)
 | fn (f:Nat) (caps:List Nat)
 | undef
 | bad
def eC:TC→C
 | .d ty x=>.d ((q0j ty x).headD (.v Go.undef))
 | .nil=>.d (.v (.slice none 0 0))
 | .box β o=>.box β o
 | .row t g=>.row t g
 | .rp e off x=>.rp ((q0j e x).drop off)
 | .wp t g k o=>.wp t g k o
 | .fn f []=>.d (.v (.func (.func f) #[] #[]))
 | .fn f (c::cs)=>.fn f (c::cs)
 | .undef=>.d (.v Go.undef)
 | .bad=>.bad
inductive TD1 where
 | c (x:TC)
 | agg (cs:List TC)
inductive TD where
 | one (x:TD1)
 | tup (xs:List TD1)
def e1:TD1→D1
 | .c x=>.c (eC x)
 | .agg cs=>.agg (cs.map eC)
def eD:TD→D
 | .one x=>.one (e1 x)
 | .tup xs=>.tup (xs.map e1)
structure TRow where
 gen:Nat
 E:Nat
 wr:Bool
 e:Ty
 xs:List (den e)
def eR (r:TRow):Row:=⟨r.gen,r.E,width r.e,r.wr,r.xs.map (q0j r.e)⟩
structure TSt where
 slots:List (Nat×TD)
 boxes:List (Nat×(Nat×List TC))
 rows:List (Nat×TRow)
def lk {α:Type} : List (Nat×α)→Nat→Option α
 | [],_=>none
 | (j,x)::l,i=>bif Nat.beq j i then some x else lk l i
def eB (p:Nat×List TC):Nat×List C:=(p.1,p.2.map eC)
def eS (σ:TSt):St :=
 {slot:=fun i=>match lk σ.slots i with|some x=>eD x|none=>.one (.c .bad)
  box:=fun i=>(lk σ.boxes i).map eB
  row:=fun i=>(lk σ.rows i).map eR }
theorem q1b {α:Type} (j:Nat) (x:α) (l:List (Nat×α)) (i:Nat):lk ((j,x)::l) i=if i=j then some x else lk l i:=by
 show (bif Nat.beq j i then some x else lk l i)=_
 by_cases h:i=j
 ·subst h;rw [if_pos rfl];have:Nat.beq i i=true:=Nat.beq_refl i;rw [this];rfl
 ·rw [if_neg h]
  cases hb:Nat.beq j i with
  | false=>rfl
  | true=>exact absurd (Nat.eq_of_beq_eq_true hb).symm h
structure TRes where
 val:TD
 box:Option (Nat×(Nat×List TC)):=none
 row:Option (Nat×TRow):=none
def q9n (c:Prop) (t:TRes):Res:={ cond:=c,val:=eD t.val,box:=t.box.map fun p=>(p.1,eB p.2),row:=t.row.map fun p=>(p.1,eR p.2) }
def TSt.app (σ:TSt) (r:TRes):TSt :=
 {slots:=σ.slots
  boxes:=match r.box with|some p=>p::σ.boxes|none=>σ.boxes
  rows:=match r.row with|some p=>p::σ.rows|none=>σ.rows }
def TSt.put (σ:TSt) (d:Option Nat) (x:TD):TSt:=match d with
 | some i=>{ σ with slots:=(i,x)::σ.slots }
 | none=>σ
theorem jdu (σ:TSt) (r:TRes) (c:Prop):eS (σ.app r)=(eS σ).app (q9n c r):=by
 obtain ⟨v,bx,rw⟩:=r
 unfold eS TSt.app St.app q9n
 congr 1
 ·cases bx with
  | none=>rfl
  | some p =>
   funext i
   obtain ⟨j,x⟩:=p
   simp only [Option.map_some,q1b,upd]
   split<;>rfl
 ·cases rw with
  | none=>rfl
  | some p =>
   funext i
   obtain ⟨j,x⟩:=p
   simp only [Option.map_some,q1b,upd]
   split<;>rfl
theorem qjg (σ:TSt) (d:Option Nat) (x:TD):eS (σ.put d x)=(eS σ).put d (eD x):=by
 cases d with
 | none=>rfl
 | some i =>
  unfold eS TSt.put St.put
  simp only
  congr 1
  funext j
  simp only [q1b,upd]
  by_cases hj:j=i
  ·simp only [hj,if_true]
  ·simp only [hj,if_false]
def tval:Value→Option TC
 | .int k n=>some (.d (.int k) n)
 | .bool b=>some (.d .bool b)
 | .string s=>some (.d .str s.data.toList)
 | .slice none 0 0=>some .nil
 | .func (.func f) ⟨[]⟩ ⟨[]⟩=>some (.fn f [])
 | .tuple ⟨[]⟩=>some .undef
 | .nilIface=>some (.d .any j23)
 | _=>none
def qom:List Value→Option (List TC)
 | []=>some []
 | v::vs=>match tval v,qom vs with
  | some x,some xs=>some (x::xs)
  | _,_=>none
theorem j9h {v:Value} {x:TC} (h:tval v=some x):eC x=qfq v:=by
 unfold tval at h
 split at h<;>simp only [Option.some.injEq,reduceCtorEq] at h<;>subst h<;>first|rfl|skip
theorem q9l : ∀ {vs:List Value} {xs:List TC},qom vs=some xs→xs.map eC=vs.map qfq
 | [],xs,h=>by simp only [qom,Option.some.injEq] at h;subst h;rfl
 | v::vs,xs,h=>by
  unfold qom at h
  split at h
  case h_2=>cases h
  rename_i x ys hx hy
  simp only [Option.some.injEq] at h
  subst h
  rw [List.map_cons,List.map_cons,j9h hx,q9l hy]
def jep:Value→Option TD
 | .agg cs=>(qom cs.toList).map fun xs=>.one (.agg xs)
 | v=>(tval v).map fun x=>.one (.c x)
theorem jd0 {v:Value} {x:TD} (h:jep v=some x):eD x=j1j v:=by
 unfold jep at h
 split at h
 ·obtain ⟨xs,h1,rfl⟩:=Option.map_eq_some_iff.1 h
  simp only [eD,e1,j1j,q9l h1]
 ·rename_i v' hv
  obtain ⟨xs,h1,rfl⟩:=Option.map_eq_some_iff.1 h
  simp only [eD,e1,j9h h1]
  cases v<;>first|rfl|exact absurd rfl (hv _)
def q1o (σ:TSt):Operand→Option TD
 | .tmp t=>lk σ.slots t
 | .const v=>jep v
 | .func f=>some (.one (.c (.fn f [])))
 | .global g=>none
theorem q0o {σ:TSt} {x:Operand} {y:TD} (h:q1o σ x=some y):opnd (eS σ) x=eD y:=by
 cases x with
 | tmp t=>unfold q1o at h;simp only [opnd,eS,h]
 | const v=>exact (jd0 h).symm
 | func f=>simp only [q1o,Option.some.injEq] at h;subst h;rfl
 | global g=>cases h
def qkk (e:Ty) (x:den e):List TC:=match e,x with
 | .int k,x=>[.d (.int k) x]
 | .bool,x=>[.d .bool x]
 | .str,x=>[.d .str x]
 | .lst e,x=>[.d (.lst e) x]
 | .prod a b,(p:den a×den b)=>qkk a p.1++qkk b p.2
 | .any,x=>[.d .any x]
theorem q8d : ∀ (e:Ty) (x:den e),(qkk e x).map eC=(q0j e x).map C.d
 | .int _,_=>rfl
 | .bool,_=>rfl
 | .str,_=>rfl
 | .lst _,_=>rfl
 | .prod a b,p=>by rw [qhk,List.map_append,← q8d a,← q8d b,← List.map_append];rfl
 | .any,_=>rfl
def unD (ty:Ty):List TC→Option (den ty)
 | [.d ty' x]=>if h:ty'=ty then some (h ▸ x) else none
 | _=>none
theorem qk7 {ty:Ty} {cs:List TC} {x:den ty} (h:unD ty cs=some x):cs = [.d ty x]:=by
 unfold unD at h
 split at h
 ·rename_i ty' y
  split at h
  ·rename_i hty
   subst hty
   simp only [Option.some.injEq] at h
   subst h;rfl
  ·cases h
 ·cases h
def j2e:(e:Ty)→List TC→Option (den e)
 | .prod a b,cs=>match j2e a (cs.take (width a)),j2e b (cs.drop (width a)) with
  | some x,some y=>some (x,y)
  | _,_=>none
 | .int k,cs=>unD (.int k) cs
 | .bool,cs=>unD .bool cs
 | .str,cs=>unD .str cs
 | .lst e,cs=>unD (.lst e) cs
 | .any,cs=>unD .any cs
theorem qfj : ∀ {e:Ty} {cs:List TC} {x:den e},j2e e cs=some x→cs.map eC=(q0j e x).map C.d
 | .prod a b,cs,x,h=>by
  unfold j2e at h
  split at h
  case h_2=>cases h
  rename_i y z hy hz
  obtain rfl:(y,z)=x:=Option.some.inj h
  have h1:=qfj hy
  have h2:=qfj hz
  show List.map eC cs=List.map C.d (q0j a y++q0j b z)
  rw [List.map_append,← h1,← h2,← List.map_append,List.take_append_drop]
 | .int k,cs,x,h=>by rw [qk7 h];rfl
 | .bool,cs,x,h=>by rw [qk7 h];rfl
 | .str,cs,x,h=>by rw [qk7 h];rfl
 | .lst e,cs,x,h=>by rw [qk7 h];rfl
 | .any,cs,x,h=>by rw [qk7 h];rfl
end Go.Proofs.YthpgnliicpejoaaGreatDoor.AM
namespace Go.Proofs.YthpgnliicpejoaaGreatDoor.AM
open Go.RowKit
set_option linter.unusedVariables false
set_option linter.unusedSimpArgs false
variable {α:Type} {P:Program} {σ:TSt}
def nth {β:Type} : List β→Nat→Option β
 | [],_=>none
 | x::_,0=>some x
 | _::l,n+1=>nth l n
theorem q6d {β:Type} : ∀ (l:List β) (n:Nat),nth l n=l[n]?
 | [],n=>by simp [nth]
 | _::_,0=>rfl
 | _::l,n+1=>by rw [nth,q6d l n];simp
def q21 {β:Type} (l:List β) (i:Int):Option β:=if 0≤i then nth l i.toNat else none
def sAt (s:List UInt8) (i:Int):Option Int:=(q21 s i).map fun c=>(c.toNat:Int)
def q4a {β:Type} (l:List β) (a b:Int):Option (List β):=if 0≤a∧a≤b∧b≤l.length then some ((l.drop a.toNat).take (b.toNat - a.toNat)) else none
def je4 (s t:List UInt8):Option (List UInt8):=if s.length+t.length≤9223372036854775807 then some (s++t) else none
def q50 {β:Type} (bytes:Nat) (xs ys:List β):Option (List β):=if (xs.length+ys.length)*bytes≤140737488355328 then some (xs++ys) else none
def q0u {β:Type} (x:β) (f:β→Option α):Option α:=f x
def jg9 (k:IntKind) (x y:Int):Option Int:=if y≠0 then some (k.wrap (x.tdiv y)) else none
def remO (x y:Int):Option Int:=if y≠0 then some (x.tmod y) else none
def jit (k:IntKind) (x y:Int):Option Int:=if 0≤y then some (k.wrap (x*2 ^ (min y.toNat k.bits))) else none
def jec (k:IntKind) (x y:Int):Option Int:=if 0≤y then some (x.fdiv (2 ^ (min y.toNat k.bits))) else none
def andI (k:IntKind) (x y:Int):Int:=k.wrap (BitVec.ofInt k.bits x &&& BitVec.ofInt k.bits y).toNat
def orI (k:IntKind) (x y:Int):Int:=k.wrap (BitVec.ofInt k.bits x ||| BitVec.ofInt k.bits y).toNat
def xorI (k:IntKind) (x y:Int):Int:=k.wrap (BitVec.ofInt k.bits x ^^^ BitVec.ofInt k.bits y).toNat
def ltS (s t:List UInt8):Bool:=Op.bytesLess s t
def Sim (x:Option Res) (t:TRes):Prop:=∃ c:Prop,c∧x=some (q9n c t)
theorem Sim.tr {x:Option Res} {t:TRes} (h:x=some (q9n True t)):Sim x t:=⟨True,trivial,h⟩
theorem q7x {i:Nat} {p:Nat×List TC} (h:lk σ.boxes i=some p):(eS σ).box i=some (p.1,p.2.map eC):=by show (lk σ.boxes i).map eB=_;rw [h];rfl
theorem q38 {i:Nat} {r:TRow} (h:lk σ.rows i=some r):(eS σ).row i=some (eR r):=by show (lk σ.rows i).map eR=_;rw [h];rfl
theorem qo0 {i:Nat} (h:lk σ.boxes i=none):(eS σ).box i=none:=by show (lk σ.boxes i).map eB=_;rw [h];rfl
theorem q8s {i:Nat} (h:lk σ.rows i=none):(eS σ).row i=none:=by show (lk σ.rows i).map eR=_;rw [h];rfl
theorem qbx {β γ:Type} (f:β→γ) (l:List β) (off:Nat) (xs:List β):(setAt l off xs).map f=setAt (l.map f) off (xs.map f):=by
 unfold setAt;simp
def loadT (P:Program) (t:TypeId) (cs:List TC):Option TD:=match qd3 P t,tsz P t with
 | some true,some n=>if n≤cs.length then some (.one (.agg (cs.take n))) else none
 | some false,_=>match cs with|c::_=>some (.one (.c c)) | []=>none
 | _,_=>none
theorem qfi {t:TypeId} {cs:List TC} {d:TD} (h:loadT P t cs=some d):qoa P t (cs.map eC)=some (eD d):=by
 unfold loadT at h
 unfold qoa
 split at h
 ·rename_i n h1 h2
  rw [h1,h2]
  split at h
  ·rename_i hle
   simp only [Option.some.injEq] at h
   subst h
   simp only [List.length_map,hle,if_true,eD,e1,List.map_take]
  ·cases h
 ·rename_i h1
  rw [h1]
  split at h
  ·simp only [Option.some.injEq] at h
   subst h;rfl
  ·cases h
 ·cases h
def qvi (P:Program) (t:TypeId) (p:TD) (σ:TSt) (k:TRes→Option α):Option α:=match p with
 | .one (.c (.box β off))=>match lk σ.boxes β with
  | some q=>match loadT P t (q.2.drop off) with|some d=>k { val:=d } | none=>none
  | none=>none
 | .one (.c (.rp e off x))=>match loadT P t ((qkk e x).drop off) with|some d=>k { val:=d } | none=>none
 | .one (.c (.wp tt g j off))=>match lk σ.rows tt with
  | some r=>if r.gen=g then (nth r.xs j).bind fun x=>match loadT P t ((qkk r.e x).drop off) with|some d=>k { val:=d } | none=>none else none
  | none=>none
 | _=>none
theorem qnu {e:Ty} {xs:List (den e)} {j:Nat} {x:den e} (h:nth xs j=some x):(xs.map (q0j e)).getD j []=q0j e x∧j<(xs.map (q0j e)).length:=by
 rw [q6d] at h
 obtain ⟨h1,rfl⟩:=List.getElem?_eq_some_iff.1 h
 have:j<(xs.map (q0j e)).length:=by rw [List.length_map];exact h1
 exact ⟨by simp [List.getD,h1],this⟩
theorem j2s {t:TypeId} {p:TD} {k:TRes→Option α} {r:α} (h:qvi P t p σ k=some r) :
  ∃ x,k x=some r∧Sim (q7q P t (eD p) (eS σ).box (eS σ).row) x:=by
 unfold qvi at h
 split at h
 ·rename_i β off
  split at h
  case h_2=>cases h
  rename_i q hq
  split at h
  case h_2=>cases h
  rename_i d hd
  refine ⟨_,h,Sim.tr ?_⟩
  have:=qfi hd
  rw [List.map_drop] at this
  simp only [q7q,eD,e1,eC,q7x hq,this,Option.map_some]
  rfl
 ·rename_i e off x
  split at h
  case h_2=>cases h
  rename_i d hd
  refine ⟨_,h,Sim.tr ?_⟩
  have:=qfi hd
  rw [List.map_drop,q8d] at this
  simp only [q7q,eD,e1,eC,List.map_drop,this,Option.map_some]
  rfl
 ·rename_i tt g j off
  split at h
  case h_2=>cases h
  rename_i r' hr
  split at h
  case isFalse=>cases h
  rename_i hg
  obtain ⟨x,hx,h⟩:=Option.bind_eq_some_iff.1 h
  split at h
  case h_2=>cases h
  rename_i d hd
  have:=qfi hd
  rw [List.map_drop,q8d] at this
  obtain ⟨h1,h2⟩:=qnu hx
  refine ⟨_,h,_,h2,?_⟩
  simp only [q7q,eD,e1,eC,q38 hr]
  have hg':(eR r').gen=g:=hg
  rw [if_pos hg']
  have h3:(eR r').xs.getD j []=q0j r'.e x:=h1
  rw [h3,List.map_drop,this]
  rfl
 ·cases h
def qb6:TD1→List TC
 | .c x=>[x]
 | .agg cs=>cs
def okTy:Ty→Bool
 | .prod _ _=>false
 | _=>true
def okT:TC→Bool
 | .d ty _=>okTy ty
 | .undef=>false
 | .bad=>false
 | _=>true
theorem jky : ∀ {x:TC},okT x=true→okC (eC x)=true
 | .d (.int _) _,_=>rfl
 | .d .bool _,_=>rfl
 | .d .str _,_=>rfl
 | .d (.lst _) _,_=>rfl
 | .d .any v,_=>by
  show okC (.d (.v (Subtype.val (v:IV))))=true
  exact (v:IV).2
 | .nil,_=>rfl
 | .box _ _,_=>rfl
 | .row _ _,_=>rfl
 | .rp _ _ _,_=>rfl
 | .wp _ _ _ _,_=>rfl
 | .fn _ [],_=>rfl
 | .fn _ (_::_),_=>rfl
theorem q44 (x:TD1):q1p (e1 x)=(qb6 x).map eC:=by cases x<;>rfl
theorem qtd {cs:List TC} (h:cs.all okT=true):(cs.map eC).all okC=true:=by
 rw [List.all_map]
 refine List.all_eq_true.2 fun x hx=>jky (List.all_eq_true.1 h x hx)
theorem qdc : ∀ (l:List Dat),(l.map C.d).mapM qjz=some l
 | []=>rfl
 | x::l=>by rw [List.map_cons,List.mapM_cons,qdc l];rfl
def setT (e:Ty) (x:den e) (off:Nat) (ys:List TC):Option (den e):=j2e e (setAt (qkk e x) off ys)
def qns (P:Program) (t:TypeId) (p x:TD) (σ:TSt) (k:TRes→Option α):Option α:=match x with
 | .one x=>match tsz P t with
  | some n=>if (qb6 x).length=n∧(qb6 x).all okT=true then
    match p with
    | .one (.c (.box β off))=>match lk σ.boxes β with
     | some q=>if off+n≤q.2.length then k { val:=.one (.c .undef),box:=some (β,(q.1,setAt q.2 off (qb6 x))) } else none
     | none=>none
    | .one (.c (.wp tt g j off))=>match lk σ.rows tt with
     | some r=>if r.gen=g∧r.wr=true∧off+n≤width r.e then (nth r.xs j).bind fun y=>match setT r.e y off (qb6 x) with
       | some y'=>k { val:=.one (.c .undef),row:=some (tt,{ r with xs:=r.xs.set j y' }) }
       | none=>none
      else none
     | none=>none
    | _=>none
   else none
  | none=>none
 | _=>none
theorem jjz : ∀ {l m:List Dat},l.map C.d=m.map C.d→l=m
 | [],[],_=>rfl
 | x::l,y::m,h=>by
  simp only [List.map_cons,List.cons.injEq,C.d.injEq] at h
  rw [h.1,jjz h.2]
 | [],_::_,h=>by simp at h
 | _::_,[],h=>by simp at h
theorem jfe {e:Ty} {x x':den e} {off:Nat} {ys:List TC} (h:setT e x off ys=some x') (hl:off+ys.length≤width e) :
  ∃ ds,(ys.map eC).mapM qjz=some ds∧q0j e x'=setAt (q0j e x) off ds:=by
 have h1:=qfj h
 rw [qbx,q8d] at h1
 have hx:=q28 e x
 have hx':=q28 e x'
 have h2:ys.map eC=(((q0j e x').drop off).take ys.length).map C.d:=by
  rw [List.map_take,List.map_drop,← h1]
  unfold setAt
  have e0:((List.map C.d (q0j e x)).take off).length=off:=by rw [List.length_take,List.length_map];omega
  rw [List.append_assoc,List.drop_append,e0,Nat.sub_self,List.drop_zero,List.drop_eq_nil_of_le (by omega),List.nil_append,List.take_append_of_le_length (by rw [List.length_map];omega),List.take_of_length_le (by rw [List.length_map];omega)]
 refine ⟨_,by rw [h2];exact qdc _,?_⟩
 apply jjz
 rw [← h1,qbx,h2]
theorem qty {t:TypeId} {p x:TD} {k:TRes→Option α} {r:α} (h:qns P t p x σ k=some r) :
  ∃ y,k y=some r∧Sim (q3w P t (eD p) (eD x) (eS σ).box (eS σ).row) y:=by
 unfold qns at h
 split at h
 case h_2=>cases h
 rename_i x1
 split at h
 case h_2=>cases h
 rename_i n hn
 split at h
 case isFalse=>cases h
 rename_i hc
 obtain ⟨hc1,hc2⟩:=hc
 have hc1':(q1p (e1 x1)).length=n:=by rw [q44,List.length_map];exact hc1
 have hc2':(q1p (e1 x1)).all okC=true:=by rw [q44];exact qtd hc2
 split at h
 ·rename_i β off
  split at h
  case h_2=>cases h
  rename_i q hq
  split at h
  case isFalse=>cases h
  rename_i hle
  refine ⟨_,h,Sim.tr ?_⟩
  show q3w P t (.one (.c (.box β off))) (.one (e1 x1)) _ _=_
  have e5:=q44 x1
  generalize e1 x1=y1 at hc1' hc2' e5
  rw [e5] at hc2'
  simp only [q3w,hn,e5,hc1,hc2',and_self,if_true,q7x hq,List.length_map,hle,q9n,Option.map_some,eB,qbx]
  rfl
 ·rename_i tt g j off
  split at h
  case h_2=>cases h
  rename_i r' hr
  split at h
  case isFalse=>cases h
  rename_i hg
  obtain ⟨hg1,hg2,hg3⟩:=hg
  obtain ⟨y,hy,h⟩:=Option.bind_eq_some_iff.1 h
  split at h
  case h_2=>cases h
  rename_i y' hy'
  obtain ⟨ds,k1,k2⟩:=jfe hy' (by omega)
  obtain ⟨h1,h2⟩:=qnu hy
  refine ⟨_,h,_,h2,?_⟩
  rw [← q44] at k1
  show q3w P t (.one (.c (.wp tt g j off))) (.one (e1 x1)) _ _=_
  generalize e1 x1=y1 at hc1' hc2' k1
  simp only [q3w,hn,hc1',hc2',and_self,if_true,q38 hr,k1]
  have hg':(eR r').gen=g∧(eR r').wr=true∧off+n≤(eR r').sz:=⟨hg1,hg2,hg3⟩
  rw [if_pos hg']
  have h3:(eR r').xs.getD j []=q0j r'.e y:=h1
  rw [h3,← k2]
  simp only [q9n,Option.map_some,eR,List.map_set]
  rfl
 ·cases h
def qov (P:Program) (dst:Option Nat) (t:TypeId) (σ:TSt) (k:TRes→Option α):Option α:=match dst,qb3 P t with
 | some i,some z=>match lk σ.boxes i,qom z with
  | none,some cs=>if z.all Value.oneCell'=true∧i<1000000 then k { val:=.one (.c (.box i 0)),box:=some (i,(t,cs)) } else none
  | _,_=>none
 | _,_=>none
theorem qv9 {dst:Option Nat} {t:TypeId} {k:TRes→Option α} {r:α} (h:qov P dst t σ k=some r) :
  ∃ y,k y=some r∧Sim (q6w P dst t (eS σ).box) y:=by
 unfold qov at h
 split at h
 case h_2=>cases h
 rename_i i z hz
 split at h
 case h_2=>cases h
 rename_i cs hb hcs
 split at h
 case isFalse=>cases h
 rename_i ha
 refine ⟨_,h,Sim.tr ?_⟩
 obtain ⟨ha,hi⟩:=ha
 simp only [q6w,hz,qo0 hb,ha,hi,and_self,if_true,q9n,eD,e1,eC,Option.map_some,eB,q9l hcs,Option.map_none]
def j3g (dst:Option Nat) (t:TypeId) (x:TD) (σ:TSt) (k:TRes→Option α):Option α:=match dst,x with
 | some i,.one x=>match lk σ.boxes i with
  | none=>if (qb6 x).all okT=true∧i<1000000 then k { val:=.one (.c (.box i 0)),box:=some (i,(t,qb6 x)) } else none
  | some _=>none
 | _,_=>none
theorem j5l {dst:Option Nat} {t:TypeId} {x:TD} {k:TRes→Option α} {r:α} (h:j3g dst t x σ k=some r) :
  ∃ y,k y=some r∧Sim (qj5 dst t (eD x) (eS σ).box) y:=by
 unfold j3g at h
 split at h
 case h_2=>cases h
 rename_i i x1
 split at h
 case h_2=>cases h
 rename_i hb
 split at h
 case isFalse=>cases h
 rename_i ha
 refine ⟨_,h,Sim.tr ?_⟩
 obtain ⟨ha,hi⟩:=ha
 have ha':(q1p (e1 x1)).all okC=true:=by rw [q44];exact qtd ha
 show qj5 (some i) t (.one (e1 x1)) _=_
 have e5:=q44 x1
 generalize e1 x1=y1 at ha' e5
 rw [e5] at ha'
 simp only [qj5,e5,qo0 hb,ha',hi,and_self,if_true,q9n,Option.map_some,eB,Option.map_none]
 rfl
def q8j (P:Program) (t:TypeId) (p:TD) (f:Nat) (k:TRes→Option α):Option α:=match q5u P t f with
 | some (off,_)=>match p with
  | .one (.c (.box β o))=>k { val:=.one (.c (.box β (o+off))) }
  | .one (.c (.rp e o x))=>if o+off≤width e then k { val:=.one (.c (.rp e (o+off) x)) } else none
  | .one (.c (.wp tt g j o))=>k { val:=.one (.c (.wp tt g j (o+off))) }
  | _=>none
 | none=>none
theorem qj1 {t:TypeId} {p:TD} {f:Nat} {k:TRes→Option α} {r:α} (h:q8j P t p f k=some r) :
  ∃ y,k y=some r∧Sim (q2h P t (eD p) f) y:=by
 unfold q8j at h
 split at h
 case h_2=>cases h
 rename_i off ft hf
 split at h
 ·exact ⟨_,h,Sim.tr (by simp only [q2h,hf,eD,e1,eC];rfl)⟩
 ·rename_i e o x
  split at h
  case isFalse=>cases h
  rename_i hle
  refine ⟨_,h,Sim.tr ?_⟩
  have:off≤((q0j e x).drop o).length:=by rw [List.length_drop,q28];omega
  simp only [q2h,hf,eD,e1,eC,this,if_true,List.drop_drop,q9n,Option.map_none]
 ·exact ⟨_,h,Sim.tr (by simp only [q2h,hf,eD,e1,eC];rfl)⟩
 ·cases h
def qnf (P:Program) (t:TypeId) (x:TD) (f:Nat) (k:TRes→Option α):Option α:=match q5u P t f,x with
 | some (off,ft),.one (.agg cs)=>match qd3 P ft,tsz P ft with
  | some true,some n=>if off+n≤cs.length then k { val:=.one (.agg ((cs.drop off).take n)) } else none
  | some false,_=>match nth cs off with
   | some c=>k { val:=.one (.c c) }
   | none=>none
  | _,_=>none
 | _,_=>none
theorem qtx {t:TypeId} {x:TD} {f:Nat} {k:TRes→Option α} {r:α} (h:qnf P t x f k=some r) :
  ∃ y,k y=some r∧Sim (q7v P t (eD x) f) y:=by
 unfold qnf at h
 split at h
 case h_2=>cases h
 rename_i off ft cs hf
 split at h
 ·rename_i n h1 h2
  split at h
  case isFalse=>cases h
  rename_i hle
  refine ⟨_,h,Sim.tr ?_⟩
  simp only [q7v,hf,eD,e1,h1,h2,List.length_map,hle,if_true,q9n,List.map_take,List.map_drop,Option.map_none]
 ·rename_i h1
  split at h
  case h_2=>cases h
  rename_i c hc
  refine ⟨_,h,Sim.tr ?_⟩
  rw [q6d] at hc
  simp only [q7v,hf,eD,e1,h1,List.getElem?_map,hc,Option.map_some,q9n,Option.map_none]
 ·cases h
def qdv (x:TD) (i:Nat) (k:TRes→Option α):Option α:=match x with
 | .tup xs=>match nth xs i with
  | some y=>k { val:=.one y }
  | none=>none
 | _=>none
theorem qor {x:TD} {i:Nat} {k:TRes→Option α} {r:α} (h:qdv x i k=some r) : ∃ y,k y=some r∧Sim (q51 (eD x) i) y:=by
 unfold qdv at h
 split at h
 case h_2=>cases h
 rename_i xs
 split at h
 case h_2=>cases h
 rename_i y hy
 rw [q6d] at hy
 exact ⟨_,h,Sim.tr (by simp only [q51,eD,List.getElem?_map,hy,Option.map_some,q9n,Option.map_none])⟩
def jk2 (ty:Ty):List TC→Option (List (den ty))
 | []=>some []
 | c::cs=>match unD ty [c],jk2 ty cs with
  | some x,some xs=>some (x::xs)
  | _,_=>none
theorem j69 {ty:Ty} : ∀ {cs:List TC} {xs:List (den ty)},jk2 ty cs=some xs→cs=xs.map (TC.d ty)
 | [],xs,h=>by simp only [jk2,Option.some.injEq] at h;subst h;rfl
 | c::cs,xs,h=>by
  unfold jk2 at h
  split at h
  case h_2=>cases h
  rename_i x ys h1 h2
  simp only [Option.some.injEq] at h
  subst h
  have:=qk7 h1
  simp only [List.cons.injEq,and_true] at this
  rw [List.map_cons,← j69 h2,this]
def jip (n:Int) (len:Nat) (f:Nat→Option α):Option α:=if n=0 then (bif Nat.blt 0 len then f 0 else none) else if n=1 then (bif Nat.blt 1 len then f 1 else none) else none
theorem qr5 {n:Int} {len:Nat} {f:Nat→Option α} {r:α} (h:jip n len f=some r) : ∃ j:Nat,n=j∧j<len∧f j=some r:=by
 unfold jip at h
 split at h
 ·rename_i h0
  cases hb:Nat.blt 0 len with
  | false=>rw [hb] at h;cases h
  | true=>rw [hb] at h;exact ⟨0,h0,by simpa using hb,h⟩
 ·split at h
  case isFalse=>cases h
  rename_i h1
  cases hb:Nat.blt 1 len with
  | false=>rw [hb] at h;cases h
  | true=>rw [hb] at h;exact ⟨1,h1,by simpa using hb,h⟩
def qah (P:Program) (t:TypeId) (cs:List TC) (n:Int) (k:TRes→Option α):Option α:=match cs,P.underlying t with
 | .d e _::_,some (.array m el)=>match tsz P el,qd3 P el,jk2 e cs with
  | some 1,some false,some xs=>if m=xs.length then (q21 xs n).bind fun y=>k { val:=.one (.c (.d e y)) } else none
  | _,_,_=>none
 | _,_=>none
def jdz (P:Program) (t:TypeId):Bool:=match P.underlying t with
 | some (.array _ el)=>match qd3 P el with
  | some true=>true
  | _=>false
 | _=>false
def qa6 (P:Program) (t:TypeId) (cs:List TC) (n:Int) (k:TRes→Option α):Option α:=match P.underlying t with
 | some (.array m el)=>match tsz P el,qd3 P el with
  | some z,some true=>bif (Nat.ble m 2&&Nat.beq cs.length (m*z)) then jip n m (fun j=>k { val:=.one (.agg ((cs.drop (j*z)).take z)) }) else none
  | _,_=>none
 | _=>none
theorem qjr {t:TypeId} {cs:List TC} {ik:IntKind} {n:Int} {k:TRes→Option α} {r:α} (h:qa6 P t cs n k=some r) :
  ∃ y,k y=some r∧Sim (q4e P t (eD (.one (.agg cs))) (eD (.one (.c (.d (.int ik) n))))) y:=by
 unfold qa6 at h
 split at h
 case h_2=>cases h
 rename_i m el hu
 split at h
 case h_2=>cases h
 rename_i z hs ha
 cases hc:(Nat.ble m 2&&Nat.beq cs.length (m*z)) with
 | false=>rw [hc] at h;cases h
 | true =>
  rw [hc] at h
  replace h:jip n m (fun j=>k { val:=.one (.agg ((cs.drop (j*z)).take z)) })=some r:=h
  have hl:cs.length=m*z:=Nat.eq_of_beq_eq_true (Bool.and_eq_true_iff.1 hc).2
  obtain ⟨j,hj,hjl,h⟩:=qr5 h
  have hj':Int.toNat n=j:=by rw [hj];rfl
  refine ⟨_,h,((0:Int)≤n∧n<(m:Int)∧(cs.map eC).length=m*z),⟨by rw [hj];exact Int.natCast_nonneg j,by rw [hj];exact Int.ofNat_lt.2 hjl,by rw [List.length_map];exact hl⟩,?_⟩
  have e0 : ∀ z':Nat,z'=z→q4e P t (.one (.agg (cs.map eC))) (.one (.c (.d (.v (.int ik n)))))=some { cond:=(0:Int)≤n∧n<(m:Int)∧(cs.map eC).length=m*z,val:=.one (.agg (((cs.map eC).drop (j*z)).take z)) }:=fun z' _=>by
   simp only [q4e,hu,hs,ha,hj']
  rw [show eD (.one (.agg cs)) = .one (.agg (cs.map eC)) from rfl,show eD (.one (.c (.d (.int ik) n))) = .one (.c (.d (.v (.int ik n)))) from rfl,e0 z rfl]
  simp only [q9n,eD,e1,Option.map_none,List.map_take,List.map_drop]
def qox (P:Program) (t:TypeId) (x i:TD) (k:TRes→Option α):Option α:=match x,i with
 | .one (.c (.d .str s)),.one (.c (.d (.int _) n))=>match P.underlying t with
  | some .string=>(sAt s n).bind fun c=>k { val:=.one (.c (.d (.int .u8) c)) }
  | _=>none
 | .one (.agg cs),.one (.c (.d (.int _) n))=>bif jdz P t then qa6 P t cs n k else qah P t cs n k
 | _,_=>none
theorem jca {s:List UInt8} {n c:Int} (h:sAt s n=some c):(0≤n∧n<(ba s).size)∧c=qsk (ba s) n:=by
 unfold sAt q21 at h
 split at h
 case isFalse=>cases h
 rename_i hn
 obtain ⟨b,hb,rfl⟩:=Option.map_eq_some_iff.1 h
 rw [q6d] at hb
 obtain ⟨h1,rfl⟩:=List.getElem?_eq_some_iff.1 hb
 have hsz:(ba s).size=s.length:=by simp [ba,ByteArray.size]
 refine ⟨⟨hn,by omega⟩,?_⟩
 unfold qsk ba
 simp [List.getD,h1]
theorem j0k {β:Type} {l:List β} {n:Int} {y:β} (h:q21 l n=some y):(0≤n∧n<l.length)∧nth l n.toNat=some y:=by
 unfold q21 at h
 split at h
 case isFalse=>cases h
 rename_i hn
 have h':=h
 rw [q6d] at h'
 obtain ⟨h1,_⟩:=List.getElem?_eq_some_iff.1 h'
 exact ⟨⟨hn,by omega⟩,h⟩
theorem qk0 {t:TypeId} {cs:List TC} {ik:IntKind} {n:Int} {k:TRes→Option α} {r:α} (h:qah P t cs n k=some r) : ∃ y,k y=some r∧Sim (q4e P t (.one (.agg (cs.map eC))) (.one (.c (.d (.v (.int ik n)))))) y:=by
 unfold qah at h
 split at h
 case h_2=>cases h
 rename_i e x0 cs0 m el hu
 split at h
 case h_2=>cases h
 rename_i xs hs ha hxs
 split at h
 case isFalse=>cases h
 rename_i hm
 obtain ⟨y,hy,h⟩:=Option.bind_eq_some_iff.1 h
 obtain ⟨h1,h2⟩:=j0k hy
 have hcs:=j69 hxs
 refine ⟨_,h,(0≤n∧n<((List.map eC (TC.d e x0::cs0)).length:Int)∧m=(List.map eC (TC.d e x0::cs0)).length),?_,?_⟩
 ·rw [hcs,List.length_map,List.length_map]
  exact ⟨h1.1,h1.2,hm⟩
 ·have e5:(List.map eC (TC.d e x0::cs0)).getD n.toNat C.bad=eC (TC.d e y):=by
   rw [q6d] at h2
   rw [hcs]
   simp [List.getD,h2]
  simp only [q4e,hu,hs,ha,e5,q9n,Option.map_none]
  rfl
theorem qur {t:TypeId} {x i:TD} {k:TRes→Option α} {r:α} (h:qox P t x i k=some r) : ∃ y,k y=some r∧Sim (q4e P t (eD x) (eD i)) y:=by
 unfold qox at h
 split at h
 case h_3=>cases h
 case h_2 =>
  rename_i cs ik n
  cases hb:jdz P t with
  | true=>rw [hb] at h;exact qjr (ik:=ik) h
  | false=>rw [hb] at h;exact qk0 (ik:=ik) h
 rename_i s k' n
 split at h
 case h_2=>cases h
 rename_i hu
 obtain ⟨c,hc,h⟩:=Option.bind_eq_some_iff.1 h
 obtain ⟨h1,rfl⟩:=jca hc
 refine ⟨_,h,_,h1,?_⟩
 simp only [eD,e1,eC,q0j,List.headD_cons,q4e,hu]
 rfl
def q83 (P:Program) (t:TypeId) (x i:TD) (σ:TSt) (k:TRes→Option α):Option α:=match P.underlying t with
 | some (.slice el)=>match tsz P el,x,i with
  | some m,.one (.c (.d (.lst e) l)),.one (.c (.d (.int _) n))=>if m=width e then (q21 l n).bind fun y=>k { val:=.one (.c (.rp e 0 y)) } else none
  | some m,.one (.c (.row tt g)),.one (.c (.d (.int _) n))=>match lk σ.rows tt with
   | some r=>if r.gen=g∧width r.e=m then (q21 r.xs n).bind fun _=>k { val:=.one (.c (.wp tt g (Int.toNat n) 0)) } else none
   | none=>none
  | _,_,_=>none
 | some (.array len el)=>match tsz P el,x,i with
  | some m,.one (.c (.box β o)),.one (.c (.d (.int _) n))=>bif Nat.ble len 2 then jip n len (fun j=>k { val:=.one (.c (.box β (o+j*m))) }) else if (@LE.le Int _ 0 n∧@LT.lt Int _ n ((len:Nat):Int)) then k { val:=.one (.c (.box β (o+Int.toNat n*m))) } else none
  | _,_,_=>none
 | _=>none
theorem qqr {β:Type} {l:List β} {n:Int} {y:β} (h:q21 l n=some y):(0≤n∧n<l.length)∧nth l n.toNat=some y:=by
 unfold q21 at h
 split at h
 case isFalse=>cases h
 rename_i hn
 have h':=h
 rw [q6d] at h'
 obtain ⟨h1,_⟩:=List.getElem?_eq_some_iff.1 h'
 exact ⟨⟨hn,by omega⟩,h⟩
theorem qh7 {t:TypeId} {x i:TD} {k:TRes→Option α} {r:α} (h:q83 P t x i σ k=some r) : ∃ y,k y=some r∧Sim (q1i P t (eD x) (eD i) (eS σ).row) y:=by
 unfold q83 at h
 split at h
 case h_3=>cases h
 case h_2 =>
  rename_i len el hu
  split at h
  case h_2=>cases h
  rename_i m β o k' n hm
  cases hle:Nat.ble len 2 with
  | true =>
   rw [hle] at h
   replace h:jip n len (fun j=>k { val:=.one (.c (.box β (o+j*m))) })=some r:=h
   obtain ⟨j,hj,hjl,h⟩:=qr5 h
   have hj':Int.toNat n=j:=by rw [hj];rfl
   exact ⟨_,h,(@LE.le Int _ 0 n∧@LT.lt Int _ n ((len:Nat):Int)),⟨by rw [hj];exact Int.natCast_nonneg j,by rw [hj];exact Int.ofNat_lt.2 hjl⟩,by simp only [eD,e1,eC,q0j,List.headD_cons,q1i,hu,hm,q9n,Option.map_none,hj']⟩
  | false =>
  rw [hle] at h
  replace h:(if (@LE.le Int _ 0 n∧@LT.lt Int _ n ((len:Nat):Int)) then k { val:=.one (.c (.box β (o+Int.toNat n*m))) } else none)=some r:=h
  split at h
  case isFalse=>cases h
  rename_i hc
  exact ⟨_,h,(@LE.le Int _ 0 n∧@LT.lt Int _ n ((len:Nat):Int)),hc,by simp only [eD,e1,eC,q0j,List.headD_cons,q1i,hu,hm,q9n,Option.map_none]⟩
 rename_i el hu
 split at h
 ·rename_i m e l k' n hm
  split at h
  case isFalse=>cases h
  rename_i hme
  subst hme
  obtain ⟨y,hy,h⟩:=Option.bind_eq_some_iff.1 h
  obtain ⟨h1,h2⟩:=qqr hy
  obtain ⟨h3,h4⟩:=qnu h2
  refine ⟨_,h,(@LE.le Int _ 0 n∧@LT.lt Int _ n ((l.map (q0j e)).length:Nat)),by rw [List.length_map];exact h1,?_⟩
  have h3':((l:List (den e)).map (q0j e)).getD (Int.toNat n) []=q0j e y:=h3
  simp only [eD,e1,eC,q0j,List.headD_cons,q1i,hu,hm,if_true,h3',q9n,Option.map_none,List.drop_zero]
 ·rename_i m tt g k' n hm
  split at h
  case h_2=>cases h
  rename_i r' hr
  split at h
  case isFalse=>cases h
  rename_i hg
  obtain ⟨y,hy,h⟩:=Option.bind_eq_some_iff.1 h
  obtain ⟨h1,h2⟩:=qqr hy
  refine ⟨_,h,(@LE.le Int _ 0 n∧@LT.lt Int _ n ((eR r').xs.length:Nat)),by show _∧@LT.lt Int _ n ((r'.xs.map (q0j r'.e)).length:Nat);rw [List.length_map];exact h1,?_⟩
  have hg':(eR r').gen=g∧(eR r').sz=m:=hg
  simp only [eD,e1,eC,q0j,List.headD_cons,q1i,hu,hm,q38 hr,hg',and_self,if_true,q9n,Option.map_none]
 ·cases h
end Go.Proofs.YthpgnliicpejoaaGreatDoor.AM
namespace Go.Proofs.YthpgnliicpejoaaGreatDoor.AM
open Go.RowKit
set_option linter.unusedVariables false
set_option linter.unusedSimpArgs false
variable {α:Type} {P:Program} {σ:TSt}
def je8 (d:Int):Option TD→Option Int
 | none=>some d
 | some (.one (.c (.d (.int _) n)))=>some n
 | some _=>none
theorem qdp {d n:Int} {x:Option TD} (h:je8 d x=some n):bnd d (x.map eD)=some n:=by
 unfold je8 at h
 split at h
 ·simp only [Option.some.injEq] at h;subst h;rfl
 ·simp only [Option.some.injEq] at h;subst h;rfl
 ·cases h
def qo1 (P:Program) (t:TypeId) (x:TD) (lo hi:Option TD) (k:TRes→Option α):Option α:=match P.underlying t,x with
 | some .string,.one (.c (.d .str s))=>match je8 0 lo,je8 (List.length s) hi with
  | some l,some h=>(q4a s l h).bind fun y=>k { val:=.one (.c (.d .str y)) }
  | _,_=>none
 | some (.slice el),.one (.c (.d (.lst e) xs))=>match je8 0 lo,je8 (List.length xs) hi with
  | some l,some h=>if tsz P el=some (width e) then (q4a xs l h).bind fun y=>k { val:=.one (.c (.d (.lst e) y)) } else none
  | _,_=>none
 | _,_=>none
theorem qjk {β:Type} {l:List β} {a b:Int} {y:List β} (h:q4a l a b=some y):(0≤a∧a≤b∧b≤l.length)∧y=(l.drop a.toNat).take (b.toNat - a.toNat):=by
 unfold q4a at h
 split at h
 case isFalse=>cases h
 rename_i hc
 simp only [Option.some.injEq] at h
 exact ⟨hc,h.symm⟩
theorem q29 (s:List UInt8):(ba s).size=s.length:=by simp [ba,ByteArray.size]
theorem q91 (s:List UInt8) (a b:Nat):(ba s).extract a b=ba ((s.drop a).take (b - a)):=by
 unfold ba
 apply ByteArray.ext
 rw [ByteArray.data_extract]
 apply Array.toList_inj.1
 rw [Array.toList_extract,List.extract_eq_take_drop]
theorem quj {t:TypeId} {x:TD} {lo hi:Option TD} {k:TRes→Option α} {r:α} (h:qo1 P t x lo hi k=some r) : ∃ y,k y=some r∧Sim (q4x P t (eD x) (lo.map eD) (hi.map eD)) y:=by
 unfold qo1 at h
 split at h
 ·rename_i s hu
  split at h
  case h_2=>cases h
  rename_i l hh hl hhh
  obtain ⟨y,hy,h⟩:=Option.bind_eq_some_iff.1 h
  obtain ⟨h1,rfl⟩:=qjk hy
  refine ⟨_,h,_,h1,?_⟩
  simp only [q4x,eD,e1,eC,q0j,List.headD_cons,hu,qdp hl,q91,q29,qdp hhh]
  rfl
 ·rename_i el e xs hu
  split at h
  case h_2=>cases h
  rename_i l hh hl hhh
  split at h
  case isFalse=>cases h
  rename_i hsz
  obtain ⟨y,hy,h⟩:=Option.bind_eq_some_iff.1 h
  obtain ⟨h1,rfl⟩:=qjk hy
  refine ⟨_,h,_,h1,?_⟩
  simp only [q4x,eD,e1,eC,q0j,List.headD_cons,hu,qdp hl,hsz,if_true,List.length_map,← List.map_drop,← List.map_take,qdp hhh]
  rfl
 ·cases h
def qai (P:Program) (t:TypeId) (x:TD) (lo hi:Option TD) (σ:TSt) (k:TRes→Option α):Option α:=match P.underlying t,x with
 | some (.slice el),.one (.c (.row tt g))=>match lk σ.rows tt with
  | some r=>match je8 0 lo,je8 (List.length r.xs) hi with
   | some l,some h=>if r.gen=g∧tsz P el=some (width r.e) then (q4a r.xs l h).bind fun y=>k { val:=.one (.c (.d (.lst r.e) y)),row:=some (tt,{ r with wr:=false }) } else none
   | _,_=>none
  | none=>none
 | _,_=>none
theorem qu7 {t:TypeId} {tt g:Nat} {lo hi:Option D} : q4x P t (.one (.c (.row tt g))) lo hi=none:=by
 unfold q4x
 split
 ·rename_i h;cases h
 ·rename_i h;cases h
 ·rfl
theorem qjt {t:TypeId} {x:TD} {lo hi:Option TD} {k:TRes→Option α} {r:α} (h:qai P t x lo hi σ k=some r) : ∃ y,k y=some r∧q4x P t (eD x) (lo.map eD) (hi.map eD)=none∧Sim (q32 P t (eD x) (lo.map eD) (hi.map eD) (eS σ).row) y:=by
 unfold qai at h
 split at h
 case h_2=>cases h
 rename_i el tt g hu
 split at h
 case h_2=>cases h
 rename_i r' hr
 split at h
 case h_2=>cases h
 rename_i l hh hl hhh
 split at h
 case isFalse=>cases h
 rename_i hg
 obtain ⟨y,hy,h⟩:=Option.bind_eq_some_iff.1 h
 obtain ⟨h1,rfl⟩:=qjk hy
 refine ⟨_,h,qu7,_,h1,?_⟩
 have hlen:(eR r').xs.length=r'.xs.length:=by simp [eR]
 obtain ⟨rfl,hsz⟩:=hg
 have hg':(eR r').gen=r'.gen∧tsz P el=some (eR r').sz:=⟨rfl,hsz⟩
 simp only [q32,eD,e1,eC,hu,q38 hr,qdp hl,hlen,qdp hhh]
 rw [if_pos hg']
 have e2:((eR r').xs.drop l.toNat).take (hh.toNat - l.toNat)=((r'.xs.drop l.toNat).take (hh.toNat - l.toNat)).map (q0j r'.e):=by simp [eR]
 rw [e2]
 rfl
def j7m (x:TD) (k:TRes→Option α):Option α:=match x with
 | .one (.c (.box β o))=>k { val:=.one (.c (.box β o)) }
 | .one (.c (.rp e o y))=>k { val:=.one (.c (.rp e o y)) }
 | .one (.c (.wp t g j o))=>k { val:=.one (.c (.wp t g j o)) }
 | _=>none
theorem j6u {x:TD} {k:TRes→Option α} {r:α} (h:j7m x k=some r) : ∃ y,k y=some r∧Sim (j7b (eD x)) y:=by
 unfold j7m at h
 split at h
 ·exact ⟨_,h,Sim.tr rfl⟩
 ·exact ⟨_,h,Sim.tr rfl⟩
 ·exact ⟨_,h,Sim.tr rfl⟩
 ·cases h
def j3o (P:Program) (t:TypeId) (x:TD) (σ:TSt) (k:TRes→Option α):Option α:=match P.underlying t,x with
 | some .string,.one (.c (.d .str s))=>k { val:=.one (.c (.d (.int .i64) (List.length s:Nat))) }
 | some (.slice _),.one (.c (.d (.lst _) xs))=>k { val:=.one (.c (.d (.int .i64) (List.length xs:Nat))) }
 | some (.slice _),.one (.c .nil)=>k { val:=.one (.c (.d (.int .i64) (0:Int))) }
 | some (.slice _),.one (.c (.row tt g))=>match lk σ.rows tt with
  | some r=>if r.gen=g then k { val:=.one (.c (.d (.int .i64) (List.length r.xs:Nat))) } else none
  | none=>none
 | _,_=>none
theorem j3m {t:TypeId} {x:TD} {k:TRes→Option α} {r:α} (h:j3o P t x σ k=some r) : ∃ y,k y=some r∧Sim (qcy P t (eD x) (eS σ).row) y:=by
 unfold j3o at h
 split at h
 ·rename_i s hu
  refine ⟨_,h,Sim.tr ?_⟩
  simp only [qcy,eD,e1,eC,q0j,List.headD_cons,hu,q29]
  rfl
 ·rename_i el e xs hu
  refine ⟨_,h,Sim.tr ?_⟩
  simp only [qcy,eD,e1,eC,q0j,List.headD_cons,hu,List.length_map]
  rfl
 ·rename_i el hu
  refine ⟨_,h,Sim.tr ?_⟩
  simp only [qcy,eD,e1,eC,hu]
  rfl
 ·rename_i el tt g hu
  split at h
  case h_2=>cases h
  rename_i r' hr
  split at h
  case isFalse=>cases h
  rename_i hg
  refine ⟨_,h,Sim.tr ?_⟩
  have hg':(eR r').gen=g:=hg
  simp only [qcy,eD,e1,eC,hu,q38 hr,hg',if_true]
  have:(eR r').xs.length=r'.xs.length:=by simp [eR]
  rw [this]
  rfl
 ·cases h
def qvw (place:Nat→Option (Nat×Nat)) (cs:List TC):List (Nat×List TC)→Option (List TC)
 | []=>some cs
 | (i,xs)::rest=>match place i with
  | some (off,size)=>if xs.length=size∧off+xs.length≤cs.length then qvw place (setAt cs off xs) rest else none
  | none=>none
def eQ (q:Nat×List TC):Nat×List C:=(q.1,q.2.map eC)
theorem qg0 {place:Nat→Option (Nat×Nat)} : ∀ {qs:List (Nat×List TC)} {cs cs':List TC},qvw place cs qs=some cs'→qdu place (cs.map eC) (qs.map eQ)=some (cs'.map eC)
 | [],cs,cs',h=>by simp only [qvw,Option.some.injEq] at h;subst h;rfl
 | (i,xs)::rest,cs,cs',h=>by
  unfold qvw at h
  split at h
  case h_2=>cases h
  rename_i off size hp
  split at h
  case isFalse=>cases h
  rename_i hc
  have h3:=qg0 h
  rw [qbx] at h3
  show (match place i with|some (off,size)=>if (xs.map eC).length=size∧off+(xs.map eC).length≤(cs.map eC).length then qdu place (setAt (cs.map eC) off (xs.map eC)) (rest.map eQ) else none|none=>none)=_
  rw [hp]
  simp only [List.length_map]
  rw [if_pos hc,h3]
def j59 (P:Program) (t:TypeId) (parts:List (Nat×List TC)):Option (List TC):=match qb3 P t,jkc P t,arrT P t with
 | some z,some pl,_=>match qom z with
  | some cs=>if z.all Value.oneCell'=true then qvw (fun i=>nth pl i) cs parts else none
  | none=>none
 | some z,none,some n=>match qom z with
  | some cs=>if z.all Value.oneCell'=true then qvw (fun i=>some (i*n,n)) cs parts else none
  | none=>none
 | _,_,_=>none
theorem j45 {t:TypeId} {parts:List (Nat×List TC)} {cs:List TC} (h:j59 P t parts=some cs):qiv P t (parts.map eQ)=some (cs.map eC):=by
 unfold j59 at h
 split at h
 ·rename_i z pl hz hl
  split at h
  case h_2=>cases h
  rename_i cs0 hcs
  split at h
  case isFalse=>cases h
  rename_i ha
  have:=qg0 h
  rw [q9l hcs] at this
  simp only [qiv,hz,hl,ha,if_true]
  rw [← this]
  congr 1
  funext i
  rw [q6d];simp
 ·rename_i z n hz hl hn
  split at h
  case h_2=>cases h
  rename_i cs0 hcs
  split at h
  case isFalse=>cases h
  rename_i ha
  have:=qg0 h
  rw [q9l hcs] at this
  simp only [qiv,hz,hl,hn,ha,if_true]
  exact this
 ·cases h
def qla (σ:TSt):List (Nat×Operand)→Option (List (Nat×List TC))
 | []=>some []
 | (i,x)::rest=>match q1o σ x,qla σ rest with
  | some (.one d),some r=>if (qb6 d).all okT=true then some ((i,qb6 d)::r) else none
  | _,_=>none
theorem qhu : ∀ {ps:List (Nat×Operand)} {qs:List (Nat×List TC)},qla σ ps=some qs→q7p (opnd (eS σ)) ps=some (qs.map eQ)
 | [],qs,h=>by simp only [qla,Option.some.injEq] at h;subst h;rfl
 | (i,x)::ps,qs,h=>by
  unfold qla at h
  split at h
  case h_2=>cases h
  rename_i d r hd hr
  split at h
  case isFalse=>cases h
  rename_i ha
  simp only [Option.some.injEq] at h
  subst h
  have h1:=q0o hd
  have h2:=qhu hr
  have ha':(q1p (e1 d)).all okC=true:=by rw [q44];exact qtd ha
  unfold q7p
  rw [h1,h2]
  show (if (q1p (e1 d)).all okC=true then _ else _)=_
  rw [if_pos ha',q44]
  rfl
def qnx (P:Program) (t:TypeId) (ps:Array (Nat×Operand)) (σ:TSt) (k:TRes→Option α):Option α:=match qla σ ps.toList with
 | some qs=>match j59 P t qs with
  | some cs=>k { val:=.one (.agg cs) }
  | none=>none
 | none=>none
theorem qus {t:TypeId} {ps:Array (Nat×Operand)} {k:TRes→Option α} {r:α} (h:qnx P t ps σ k=some r) : ∃ y,k y=some r∧Sim (qad P t ps (opnd (eS σ))) y:=by
 unfold qnx at h
 split at h
 case h_2=>cases h
 rename_i qs hqs
 split at h
 case h_2=>cases h
 rename_i cs hcs
 exact ⟨_,h,Sim.tr (by simp only [qad,qhu hqs,j45 hcs,q9n,eD,e1,Option.map_none])⟩
def jku (f:TypeId→Option (List Ty)):List Field→Option (List Ty)
 | []=>some []
 | fd::fs=>match f fd.type,jku f fs with
  | some a,some b=>some (a++b)
  | _,_=>none
def jfy:List Ty→Option Ty
 | []=>none
 | [t]=>some t
 | t::t'::ts=>(jfy (t'::ts)).map (.prod t)
def tysP (P:Program):Nat→TypeId→Option (List Ty)
 | 0,_=>none
 | n+1,t=>match P.underlying t with
  | some (.int k)=>some [.int k]
  | some .bool=>some [.bool]
  | some .string=>some [.str]
  | some (.slice e)=>((tysP P n e).bind jfy).map fun x=>[.lst x]
  | some (.struct fs)=>jku (tysP P n) fs.toList
  | _=>none
def tyE (P:Program) (t:TypeId):Option Ty:=(tysP P 9 t).bind jfy
def j17 (e:Ty):Nat→List TC→Option (List (den e))
 | 0,[]=>some []
 | 0,_::_=>none
 | n+1,cs=>match j2e e (cs.take (width e)),j17 e n (cs.drop (width e)) with
  | some x,some xs=>some (x::xs)
  | _,_=>none
theorem qy8 {e:Ty} : ∀ {n:Nat} {cs:List TC} {xs:List (den e)},j17 e n cs=some xs→cs.map eC=((xs.map (q0j e)).flatten).map C.d∧chunk (width e) n (xs.map (q0j e)).flatten=xs.map (q0j e)
 | 0,[],xs,h=>by simp only [j17,Option.some.injEq] at h;subst h;exact ⟨rfl,rfl⟩
 | 0,_::_,xs,h=>by simp [j17] at h
 | n+1,cs,xs,h=>by
  unfold j17 at h
  split at h
  case h_2=>cases h
  rename_i y ys hy hys
  simp only [Option.some.injEq] at h
  subst h
  obtain ⟨h1,h2⟩:=qy8 hys
  have h3:=qfj hy
  refine ⟨?_,?_⟩
  ·rw [List.map_cons,List.flatten_cons,List.map_append,← h3,← h1,← List.map_append,List.take_append_drop]
  ·rw [List.map_cons,List.flatten_cons,chunk,List.take_append_of_le_length (by rw [q28];exact Nat.le_refl _),List.take_of_length_le (by rw [q28];exact Nat.le_refl _),List.drop_append_of_le_length (by rw [q28];exact Nat.le_refl _),List.drop_eq_nil_of_le (by rw [q28];exact Nat.le_refl _),List.nil_append,h2]
theorem quk {β γ:Type} (f:β→γ) (z:List β) : ∀ n,(rep z n).map f=rep (z.map f) n
 | 0=>rfl
 | n+1=>by rw [rep,rep,List.map_append,quk f z n]
def q78 (P:Program) (dst:Option Nat) (t:TypeId) (n:Nat) (ps:Array (Nat×Operand)) (σ:TSt) (k:TRes→Option α):Option α:=match P.underlying t,dst with
 | some (.slice el),some i=>match lk σ.rows i,qb3 P el,tyE P el,qla σ ps.toList with
  | none,some z,some e,some qs=>match qom z with
   | some zt=>if tsz P el=some (width e)∧n*width e≤2 ^ 24∧n≤2 ^ 24∧z.length=width e∧0<width e∧z.all Value.oneCell'=true∧el<1099511627776 then match qvw (fun i=>some (i*width e,width e)) (rep zt n) qs with
     | some cs=>match j17 e n cs with
      | some xs=>k { val:=.one (.c (.row i 0)),row:=some (i,⟨0,el,true,e,xs⟩) }
      | none=>none
     | none=>none
    else none
   | none=>none
  | _,_,_,_=>none
 | _,_=>none
theorem qfd {dst:Option Nat} {t:TypeId} {n:Nat} {ps:Array (Nat×Operand)} {k:TRes→Option α} {r:α} (h:q78 P dst t n ps σ k=some r) : ∃ y,k y=some r∧Sim (q1q P dst t n ps (opnd (eS σ)) (eS σ).row) y:=by
 unfold q78 at h
 split at h
 case h_2=>cases h
 rename_i el i hu
 split at h
 case h_2=>cases h
 rename_i z e qs hr hz he hqs
 split at h
 case h_2=>cases h
 rename_i zt hzt
 split at h
 case isFalse=>cases h
 rename_i hc
 obtain ⟨c1,c2,c3,c4,c5,c6,c7⟩:=hc
 split at h
 case h_2=>cases h
 rename_i cs hcs
 split at h
 case h_2=>cases h
 rename_i xs hxs
 obtain ⟨k1,k2⟩:=qy8 hxs
 have h2:=qg0 hcs
 rw [quk,q9l hzt,← quk] at h2
 refine ⟨_,h,Sim.tr ?_⟩
 simp only [q1q,hu,q8s hr,c1,hz,qhu hqs]
 rw [if_pos ⟨c2,c3,c4,c5,c6,c7⟩,h2]
 simp only [k1,qdc,k2,q9n,eD,e1,eC,Option.map_none,Option.map_some,eR]
def srcT (x:TD) (σ:TSt):Option ((e:Ty)×List (den e)):=match x with
 | .one (.c (.d (.lst e) xs))=>some ⟨e,xs⟩
 | .one (.c (.row t g))=>match lk σ.rows t with
  | some r=>if r.gen=g then some ⟨r.e,r.xs⟩ else none
  | none=>none
 | _=>none
theorem j7r {x:TD} {s:(e:Ty)×List (den e)} (h:srcT x σ=some s):qf5 (width s.1) (eD x) (eS σ).row=some (s.2.map (q0j s.1)):=by
 unfold srcT at h
 split at h
 ·simp only [Option.some.injEq] at h;subst h
  simp only [qf5,eD,e1,eC,q0j,List.headD_cons,if_true]
 ·split at h
  case h_2=>cases h
  rename_i r hr
  split at h
  case isFalse=>cases h
  rename_i hg
  simp only [Option.some.injEq] at h;subst h
  have hg':(eR r).gen=_∧(eR r).sz=width r.e:=⟨hg,rfl⟩
  simp only [qf5,eD,e1,eC,q38 hr]
  rw [if_pos hg'];rfl
 ·cases h
def qiz (P:Program) (dst:Option Nat) (t:TypeId) (s x:TD) (σ:TSt) (k:TRes→Option α):Option α:=match P.underlying t with
 | some (.slice el)=>match qll P el,srcT x σ with
  | some (m,bytes),some src=>if m=width src.1 then match s with
    | .one (.c (.row tt g))=>match lk σ.rows tt with
     | some r=>if h:src.1=r.e then if r.gen=g∧r.E=el then
       (q50 bytes r.xs (h ▸ src.2)).bind fun ys=>k { val:=.one (.c (.row tt (g+1))),row:=some (tt,{ r with gen:=g+1,xs:=ys }) } else none else none
     | none=>none
    | .one (.c .nil)=>match dst with
     | some i=>match lk σ.rows i with
      | none=>(q50 bytes [] src.2).bind fun ys=>k { val:=.one (.c (.row i 0)),row:=some (i,⟨0,el,true,src.1,ys⟩) }
      | some _=>none
     | none=>none
    | _=>none
   else none
  | _,_=>none
 | _=>none
theorem qr3 {β:Type} {b:Nat} {xs ys zs:List β} (h:q50 b xs ys=some zs):(xs.length+ys.length)*b≤140737488355328∧zs=xs++ys:=by
 unfold q50 at h
 split at h
 case isFalse=>cases h
 rename_i hc
 exact ⟨hc,(Option.some.inj h).symm⟩
theorem qrv {dst:Option Nat} {t:TypeId} {s x:TD} {k:TRes→Option α} {r:α} (h:qiz P dst t s x σ k=some r) : ∃ y,k y=some r∧Sim (q33 P dst t (eD s) (eD x) (eS σ).row) y:=by
 unfold qiz at h
 split at h
 case h_2=>cases h
 rename_i el hu
 split at h
 case h_2=>cases h
 rename_i m bytes src hel hsrc
 split at h
 case isFalse=>cases h
 rename_i hm
 subst hm
 have h1:=j7r hsrc
 split at h
 ·rename_i tt g
  split at h
  case h_2=>cases h
  rename_i r' hr
  split at h
  case isFalse=>cases h
  rename_i he
  split at h
  case isFalse=>cases h
  rename_i hg
  obtain ⟨e',ys⟩:=src
  obtain ⟨gen,E,wr,e,xs⟩:=r'
  have he':e'=e:=he
  subst he'
  obtain ⟨hg1,hg2⟩:=hg
  have hg1':gen=g:=hg1
  have hg2':E=el:=hg2
  subst hg1' hg2'
  obtain ⟨zs,hz,h⟩:=Option.bind_eq_some_iff.1 h
  obtain ⟨c1,rfl⟩:=qr3 hz
  refine ⟨_,h,_,c1,?_⟩
  simp only at h1
  show q33 P dst t (.one (.c (.row tt gen))) (eD x) _=_
  generalize eD x=y at h1
  simp only [q33,hu,hel,h1,eD,e1,eC,q38 hr,eR,and_self,if_true,q9n,Option.map_none,Option.map_some,List.map_append,List.length_map]
 ·split at h
  case h_2=>cases h
  rename_i i
  split at h
  case h_2=>cases h
  rename_i hr
  obtain ⟨e',ys⟩:=src
  obtain ⟨zs,hz,h⟩:=Option.bind_eq_some_iff.1 h
  obtain ⟨c1,hzz⟩:=qr3 hz
  have hzz':zs=ys:=hzz
  clear hzz hz
  rw [hzz'] at h
  clear hzz' zs
  refine ⟨_,h,_,c1,?_⟩
  simp only at h1
  show q33 P (some i) t (.one (.c (.d (.v (.slice none 0 0))))) (eD x) _=_
  generalize eD x=y at h1
  simp only [q33,hu,hel,h1,eD,e1,eC,q8s hr,eR,q9n,Option.map_none,Option.map_some,List.map_append,List.length_map,List.nil_append,List.length_nil,Nat.zero_add]
 ·cases h
end Go.Proofs.YthpgnliicpejoaaGreatDoor.AM
namespace Go.Proofs.YthpgnliicpejoaaGreatDoor.AM
open Go.RowKit
set_option linter.unusedVariables false
set_option linter.unusedSimpArgs false
variable {α:Type} {P:Program} {σ:TSt}
def intT (op:BinOp) (k k':IntKind) (a b:Int) (c:TC→Option α):Option α:=match op with
 | .shl=>(jit k a b).bind fun z=>c (.d (.int k) z)
 | .shr=>(jec k a b).bind fun z=>c (.d (.int k) z)
 | .add=>if k=k' then q0u (k.wrap (a+b)) fun z=>c (.d (.int k) z) else none
 | .sub=>if k=k' then q0u (k.wrap (a - b)) fun z=>c (.d (.int k) z) else none
 | .mul=>if k=k' then q0u (k.wrap (a*b)) fun z=>c (.d (.int k) z) else none
 | .quo=>if k=k' then (jg9 k a b).bind fun z=>c (.d (.int k) z) else none
 | .rem=>if k=k' then (remO a b).bind fun z=>c (.d (.int k) z) else none
 | .and=>if k=k' then q0u (andI k a b) fun z=>c (.d (.int k) z) else none
 | .or=>if k=k' then q0u (orI k a b) fun z=>c (.d (.int k) z) else none
 | .xor=>if k=k' then q0u (xorI k a b) fun z=>c (.d (.int k) z) else none
 | .eql=>if k=k' then c (.d .bool (decide (a=b))) else none
 | .neq=>if k=k' then c (.d .bool (!decide (a=b))) else none
 | .lss=>if k=k' then c (.d .bool (decide (a<b))) else none
 | .leq=>if k=k' then c (.d .bool (decide (a≤b))) else none
 | .gtr=>if k=k' then c (.d .bool (decide (b<a))) else none
 | .geq=>if k=k' then c (.d .bool (decide (b≤a))) else none
 | _=>none
def strT (op:BinOp) (s t:List UInt8) (c:TC→Option α):Option α:=match op with
 | .add=>(je4 s t).bind fun z=>c (.d .str z)
 | .eql=>c (.d .bool (decide (s=t)))
 | .neq=>c (.d .bool (!decide (s=t)))
 | .lss=>c (.d .bool (ltS s t))
 | .leq=>c (.d .bool (ltS s t||decide (s=t)))
 | .gtr=>c (.d .bool (!(ltS s t||decide (s=t))))
 | .geq=>c (.d .bool (!ltS s t))
 | _=>none
def vC (c:TC):TRes:={ val:=.one (.c c) }
theorem jez {op:BinOp} {T:TypeId} {k k':IntKind} {a b:Int} {c:TC→Option α} {r:α} (h:intT op k k' a b c=some r) :
  ∃ x,c x=some r∧Sim (q82 P op T (.one (.c (.d (.v (.int k a))))) (.one (.c (.d (.v (.int k' b)))))) (vC x):=by
 unfold intT at h
 split at h
 case h_1 =>
  obtain ⟨z,hz,h⟩:=Option.bind_eq_some_iff.1 h
  unfold jit at hz
  split at hz
  case isFalse=>cases hz
  rename_i hb
  simp only [Option.some.injEq] at hz;subst hz
  exact ⟨_,h,_,hb,rfl⟩
 case h_2 =>
  obtain ⟨z,hz,h⟩:=Option.bind_eq_some_iff.1 h
  unfold jec at hz
  split at hz
  case isFalse=>cases hz
  rename_i hb
  simp only [Option.some.injEq] at hz;subst hz
  exact ⟨_,h,_,hb,rfl⟩
 case h_6 =>
  split at h
  case isFalse=>cases h
  rename_i hk;subst hk
  obtain ⟨z,hz,h⟩:=Option.bind_eq_some_iff.1 h
  unfold jg9 at hz
  split at hz
  case isFalse=>cases hz
  rename_i hb
  simp only [Option.some.injEq] at hz;subst hz
  refine ⟨_,h,_,hb,?_⟩
  simp only [q82,if_true,qgc,Option.map_some];rfl
 case h_7 =>
  split at h
  case isFalse=>cases h
  rename_i hk;subst hk
  obtain ⟨z,hz,h⟩:=Option.bind_eq_some_iff.1 h
  unfold remO at hz
  split at hz
  case isFalse=>cases hz
  rename_i hb
  simp only [Option.some.injEq] at hz;subst hz
  refine ⟨_,h,_,hb,?_⟩
  simp only [q82,if_true,qgc,Option.map_some];rfl
 case h_17=>cases h
 all_goals
  split at h
  case isFalse=>cases h
  rename_i hk;subst hk
  refine ⟨_,h,Sim.tr ?_⟩
  simp only [q82,if_true,qgc,Option.map_some];rfl
theorem jj5 {s t:List UInt8} : (ba s=ba t)=(s=t):=by
 apply propext
 constructor
 ·intro h
  have:=congrArg ByteArray.data h
  exact Array.toList_inj.2 this |> fun h=>by simpa [ba] using h
 ·rintro rfl;rfl
theorem qj3 (s:List UInt8):(ba s).toList=s:=by rw [ByteArray.toList_eq];rfl
theorem j5x (s t:List UInt8):ba s++ba t=ba (s++t):=by
 apply ByteArray.ext
 rw [ByteArray.data_append]
 simp [ba]
theorem jeh (s t:List UInt8):decide (ba s=ba t)=decide (s=t):=by simp only [jj5]
theorem jia {op:BinOp} {T:TypeId} {s t:List UInt8} {c:TC→Option α} {r:α} (h:strT op s t c=some r) :
  ∃ x,c x=some r∧Sim (q82 P op T (.one (.c (.d (.v (.string (ba s)))))) (.one (.c (.d (.v (.string (ba t))))))) (vC x):=by
 unfold strT at h
 split at h
 case h_1 =>
  obtain ⟨z,hz,h⟩:=Option.bind_eq_some_iff.1 h
  unfold je4 at hz
  split at hz
  case isFalse=>cases hz
  rename_i hb
  simp only [Option.some.injEq] at hz;subst hz
  refine ⟨_,h,_,hb,?_⟩
  simp only [q82,qka,Option.map_some,q29,j5x];rfl
 case h_8=>cases h
 all_goals
  refine ⟨_,h,Sim.tr ?_⟩
  simp only [q82,qka,Option.map_some,qj3,jeh];rfl
def eqC1 (P:Program) (t:TypeId) (x y:TC):Option Bool:=match P.underlying t,x,y with
 | some .bool,.d .bool a,.d .bool b=>some (decide ((a:Bool)=b))
 | some (.int _),.d (.int k) a,.d (.int k') b=>if k=k' then some (decide ((a:Int)=b)) else none
 | some .string,.d .str a,.d .str b=>some (decide ((a:List UInt8)=b))
 | _,_,_=>none
def vT:TC→Option Value
 | .d (.int k) n=>some (.int k n)
 | .d .bool b=>some (.bool b)
 | .d .str s=>some (.string (ba s))
 | _=>none
def vTs:List TC→Option (List Value)
 | []=>some []
 | c::cs=>match vT c,vTs cs with
  | some x,some xs=>some (x::xs)
  | _,_=>none
theorem vT_ok {c:TC} {v:Value} (h:vT c=some v):eC c = .d (.v v):=by
 unfold vT at h
 split at h<;>simp only [Option.some.injEq,reduceCtorEq] at h<;>subst h<;>rfl
theorem j5s : ∀ {cs:List TC} {xs:List Value},vTs cs=some xs→jdx (cs.map eC)=some xs
 | [],xs,h=>by simp only [vTs,Option.some.injEq] at h;subst h;rfl
 | c::cs,xs,h=>by
  unfold vTs at h
  split at h
  case h_2=>cases h
  rename_i x ys hx hy
  simp only [Option.some.injEq] at h;subst h
  rw [List.map_cons,vT_ok hx]
  show (jdx (cs.map eC)).map (x :: ·)=_
  rw [j5s hy];rfl
def jcw (P:Program):List Field→List TC→List TC→Option Bool
 | [],_,_=>some true
 | f::fs,xs,ys=>if f.name = "_" then none else match nth xs f.offset,nth ys f.offset,qd3 P f.type with
  | some x,some y,some false=>match eqC1 P f.type x y,jcw P fs xs ys with
   | some b,some c=>some (b&&c)
   | _,_=>none
  | _,_,_=>none
theorem jfl {t:TypeId} {x y:TC} {u v:Value} {b:Bool} (hx:vT x=some u) (hy:vT y=some v) (h:eqC1 P t x y=some b):eqV P t u v=some b:=by
 unfold eqC1 at h
 split at h
 ·rename_i hu
  simp only [vT,Option.some.injEq] at hx hy h;subst hx hy h
  simp only [eqV,hu]
 ·rename_i hu
  split at h
  case isFalse=>cases h
  rename_i hk;subst hk
  simp only [vT,Option.some.injEq] at hx hy h;subst hx hy h
  simp only [eqV,hu,if_true]
 ·rename_i hu
  simp only [vT,Option.some.injEq] at hx hy h;subst hx hy h
  simp only [eqV,hu,jeh]
 ·cases h
theorem qu3 : ∀ {cs:List TC} {xs:List Value} {i:Nat} {c:TC},vTs cs=some xs→nth cs i=some c→∃ v,xs[i]? = some v∧vT c=some v
 | [],_,_,_,_,h=>by cases h
 | c0::cs,xs,i,c,h,hn=>by
  unfold vTs at h
  split at h
  case h_2=>cases h
  rename_i x ys hx hy
  simp only [Option.some.injEq] at h;subst h
  cases i with
  | zero=>simp only [nth,Option.some.injEq] at hn;subst hn;exact ⟨x,rfl,hx⟩
  | succ i =>
   obtain ⟨v,h1,h2⟩:=qu3 hy (show nth cs i=some c from hn)
   exact ⟨v,by simpa using h1,h2⟩
theorem qwx {us vs:List Value} {xs ys:List TC} (hx:vTs xs=some us) (hy:vTs ys=some vs) : ∀ {fs:List Field} {b:Bool},jcw P fs xs ys=some b→jij P fs us vs=some b
 | [],b,h=>h
 | f::fs,b,h=>by
  unfold jcw at h
  split at h
  case isTrue=>cases h
  rename_i hn
  split at h
  case h_2=>cases h
  rename_i x y h1 h2 h3
  split at h
  case h_2=>cases h
  rename_i b1 b2 h4 h5
  obtain ⟨u,k1,k2⟩:=qu3 hx h1
  obtain ⟨v,k3,k4⟩:=qu3 hy h2
  unfold jij
  rw [if_neg hn,k1,k3,h3]
  simp only [jfl k2 k4 h4,qwx hx hy h5]
  exact h
def qig (P:Program) (t:TypeId) (xs ys:List TC):Option Bool:=match P.underlying t,vTs xs,vTs ys with
 | some (.struct fs),some _,some _=>if P.stoodInHeld t=false∧P.eqGuardType P.depth t=false then jcw P fs.toList xs ys else none
 | _,_,_=>none
theorem qez {t:TypeId} {xs ys:List TC} {b:Bool} (h:qig P t xs ys=some b):q9h P t (xs.map eC) (ys.map eC)=some b:=by
 unfold qig at h
 split at h
 case h_2=>cases h
 rename_i fs us vs hu hx hy
 split at h
 case isFalse=>cases h
 rename_i hc
 unfold q9h
 rw [hu,j5s hx,j5s hy]
 simp only
 rw [if_pos hc]
 exact qwx hx hy h
def j5w (P:Program) (op:BinOp) (T:TypeId) (x y:TD) (k:TRes→Option α):Option α:=match x,y with
 | .one (.c (.d (.int kx) a)),.one (.c (.d (.int ky) b))=>intT op kx ky a b (fun c=>k (vC c))
 | .one (.c (.d .str s)),.one (.c (.d .str t))=>strT op s t (fun c=>k (vC c))
 | .one (.c (.d .bool a)),.one (.c (.d .bool b))=>match P.underlying T,op with
  | some .bool,.eql=>k (vC (.d .bool (decide ((a:Bool)=b))))
  | some .bool,.neq=>k (vC (.d .bool (!decide ((a:Bool)=b))))
  | _,_=>none
 | .one (.agg xs),.one (.agg ys)=>match op,qig P T xs ys with
  | .eql,some b=>k (vC (.d .bool b))
  | .neq,some b=>k (vC (.d .bool (!b)))
  | _,_=>none
 | _,_=>none
theorem j8v {op:BinOp} {T:TypeId} {x y:TD} {k:TRes→Option α} {r:α} (h:j5w P op T x y k=some r) : ∃ z,k z=some r∧Sim (q82 P op T (eD x) (eD y)) z:=by
 unfold j5w at h
 split at h
 ·obtain ⟨z,h1,h2⟩:=jez (P:=P) (T:=T) h
  exact ⟨_,h1,h2⟩
 ·obtain ⟨z,h1,h2⟩:=jia (P:=P) (T:=T) h
  exact ⟨_,h1,h2⟩
 ·split at h
  ·rename_i hu
   exact ⟨_,h,Sim.tr (by simp only [q82,eD,e1,eC,q0j,List.headD_cons,eqV,hu,Option.map_some];rfl)⟩
  ·rename_i hu
   exact ⟨_,h,Sim.tr (by simp only [q82,eD,e1,eC,q0j,List.headD_cons,eqV,hu,Option.map_some];rfl)⟩
  ·cases h
 ·split at h
  ·rename_i b hb
   exact ⟨_,h,Sim.tr (by simp only [q82,eD,e1,qez hb,Option.map_some];rfl)⟩
  ·rename_i b hb
   exact ⟨_,h,Sim.tr (by simp only [q82,eD,e1,qez hb,Option.map_some];rfl)⟩
  ·cases h
 ·cases h
def jhr (op:UnOp) (x:TD) (k:TRes→Option α):Option α:=match op,x with
 | .not,.one (.c (.d .bool b))=>k (vC (.d .bool (!(b:Bool))))
 | .neg,.one (.c (.d (.int kk) n))=>k (vC (.d (.int kk) (kk.wrap (0 - (n:Int)))))
 | _,_=>none
theorem jc4 {op:UnOp} {x:TD} {k:TRes→Option α} {r:α} (h:jhr op x k=some r) : ∃ z,k z=some r∧Sim (jim op (eD x)) z:=by
 unfold jhr at h
 split at h
 ·exact ⟨_,h,Sim.tr rfl⟩
 ·exact ⟨_,h,Sim.tr rfl⟩
 ·cases h
def quw (P:Program) (src dst:TypeId) (x:TD) (k:TRes→Option α):Option α:=match P.underlying src,P.underlying dst,x with
 | some _,some (.int kk),.one (.c (.d (.int _) n))=>q0u (kk.wrap n) fun z=>k (vC (.d (.int kk) z))
 | some .string,some .string,.one (.c (.d .str s))=>k (vC (.d .str s))
 | _,_,_=>none
theorem j0b {src dst:TypeId} {x:TD} {k:TRes→Option α} {r:α} (h:quw P src dst x k=some r) : ∃ z,k z=some r∧Sim (q9t P src dst (eD x)) z:=by
 unfold quw at h
 split at h
 ·rename_i h1 h2
  exact ⟨_,h,Sim.tr (by simp only [q9t,eD,e1,eC,q0j,List.headD_cons,h1,h2];rfl)⟩
 ·rename_i h1 h2
  exact ⟨_,h,Sim.tr (by simp only [q9t,eD,e1,eC,q0j,List.headD_cons,h1,h2];rfl)⟩
 ·cases h
def qmt (P:Program) (src dst:TypeId):Bool:=match P.underlying src,P.underlying dst with
 | some (.slice _),some .string=>true
 | some .string,some (.slice _)=>true
 | _,_=>false
def bytO (s:List UInt8):Option (List Int):=if s.length≤9223372036854775807 then some (s.map fun b=>((b.toNat:Nat):Int)) else none
def qdn (P:Program) (o:Option Nat) (src dst:TypeId) (x:TD) (σ:TSt) (k:TRes→Option α):Option α:=match P.underlying src,P.underlying dst with
 | some (.slice e),some .string=>match P.underlying e,srcT x σ with
  | some (.int .u8),some ⟨.int .u8,xs⟩=>k (vC (.d .str ((xs:List Int).map fun n=>UInt8.ofNat n.toNat)))
  | _,_=>none
 | some .string,some (.slice e)=>match P.underlying e,x,o with
  | some (.int .u8),.one (.c (.d .str s)),some i=>match lk σ.rows i with
   | none=>if e<1099511627776 then (bytO s).bind fun xs=>k { val:=.one (.c (.row i 0)),row:=some (i,⟨0,e+1099511627776,true,.int .u8,xs⟩) } else none
   | some _=>none
  | _,_,_=>none
 | _,_=>none
theorem qrs : ∀ (xs:List Int),qpy (xs.map (q0j (.int .u8)))=some xs
 | []=>rfl
 | x::xs=>by
  show (qpy (xs.map (q0j (.int .u8)))).map (x :: ·)=_
  rw [qrs xs];rfl
theorem qxi : ∀ (xs:List Int) (b:List UInt8),xs.foldl (fun r n=>r.push (UInt8.ofNat n.toNat)) (ba b)=ba (b++xs.map fun n=>UInt8.ofNat n.toNat)
 | [],b=>by simp
 | x::xs,b=>by
  rw [List.foldl_cons,show (ba b).push (UInt8.ofNat x.toNat)=ba (b ++ [UInt8.ofNat x.toNat]) from by simp [ba,ByteArray.push],qxi xs]
  simp
theorem jbk (xs:List Int):strOf xs=ba (xs.map fun n=>UInt8.ofNat n.toNat):=by
 have:=qxi xs []
 rw [List.nil_append] at this
 exact this
theorem qtw {src dst:TypeId} {x:D} (h:qmt P src dst=true):q9t P src dst x=none:=by
 unfold qmt at h
 unfold q9t
 split at h
 ·rename_i h1 h2;rw [h1,h2]
 ·rename_i h1 h2;rw [h1,h2]
 ·cases h
theorem qn7 {o:Option Nat} {src dst:TypeId} {x:TD} {k:TRes→Option α} {r:α} (h:qdn P o src dst x σ k=some r) : ∃ z,k z=some r∧Sim (q3d P o src dst (eD x) (eS σ).row) z:=by
 unfold qdn at h
 split at h
 ·rename_i e h1 h2
  split at h
  case h_2=>cases h
  rename_i xs he hx
  have hs:=j7r hx
  have hs':qf5 1 (eD x) (eS σ).row=some (xs.map (q0j (.int .u8))):=hs
  refine ⟨_,h,Sim.tr ?_⟩
  have hi:qpy (List.map (q0j (.int .u8)) xs)=some xs:=qrs xs
  simp only [q3d,h1,h2,he,hs',Option.bind_some]
  rw [hi]
  simp only [jbk]
  rfl
 ·rename_i e h1 h2
  split at h
  case h_2=>cases h
  rename_i s i he
  split at h
  case h_2=>cases h
  rename_i hr
  split at h
  case isFalse=>cases h
  rename_i hlt
  obtain ⟨xs,hxs,h⟩:=Option.bind_eq_some_iff.1 h
  unfold bytO at hxs
  split at hxs
  case isFalse=>cases hxs
  rename_i hle
  simp only [Option.some.injEq] at hxs;subst hxs
  refine ⟨_,h,(ba s).size≤maxLen,by rw [q29];exact hle,?_⟩
  simp only [q3d,h1,h2,he,eD,e1,eC,q0j,List.headD_cons,q8s hr]
  rw [if_pos hlt]
  have e3:(ba s).data.toList=s:=by simp [ba]
  rw [e3]
  simp only [q9n,eD,e1,eC,Option.map_none,Option.map_some,eR,List.map_map]
  rfl
 ·cases h
def qwj (c x y:TD) (k:TRes→Option α):Option α:=match c with
 | .one (.c (.d .bool t))=>bif t then k { val:=x } else k { val:=y }
 | _=>none
theorem j1e {c x y:TD} {k:TRes→Option α} {r:α} (h:qwj c x y k=some r) : ∃ z,k z=some r∧Sim (qki (eD c) (eD x) (eD y)) z:=by
 unfold qwj at h
 split at h
 case h_2=>cases h
 rename_i t
 cases t with
 | true=>exact ⟨_,h,Sim.tr rfl⟩
 | false=>exact ⟨_,h,Sim.tr rfl⟩
def makO (b:Nat) (q:Int) (n:Int):Option (List Int):=if 0≤n∧n≤16777216∧b*n.toNat≤281474976710656 then some (List.replicate n.toNat q) else none
def qvj (P:Program) (dst:Option Nat) (t:TypeId) (x:TD) (σ:TSt) (k:TRes→Option α):Option α:=match P.underlying t,dst,x with
 | some (.slice el),some i,.one (.c (.d (.int _) n))=>match lk σ.rows i,(P.info? el).map (fun i=>(i.zero,i.size,i.bytes)) with
  | none,some (some (Value.int kk q),1,b)=>bif Nat.blt el 1099511627776 then (makO b q n).bind fun xs=>k { val:=.one (.c (.row i 0)),row:=some (i,⟨0,el,true,.int kk,xs⟩) } else none
  | _,_=>none
 | _,_,_=>none
theorem j1w {dst:Option Nat} {t:TypeId} {x:TD} {k:TRes→Option α} {r:α} (h:qvj P dst t x σ k=some r) : ∃ y,k y=some r∧Sim (qbf P dst t (eD x) (eS σ).row) y:=by
 unfold qvj at h
 split at h
 case h_2=>cases h
 rename_i el i kx n hu
 split at h
 case h_2=>cases h
 rename_i kk q b hr hinf
 cases hb:Nat.blt el 1099511627776 with
 | false=>rw [hb] at h;cases h
 | true =>
  rw [hb] at h
  have hlt:el<1099511627776:=by simpa using hb
  obtain ⟨xs,hxs,h⟩:=Option.bind_eq_some_iff.1 h
  unfold makO at hxs
  split at hxs
  case isFalse=>cases hxs
  rename_i hc
  simp only [Option.some.injEq] at hxs;subst hxs
  refine ⟨_,h,Sim.tr ?_⟩
  simp only [qbf,hu,eD,e1,eC,q0j,List.headD_cons,q8s hr,hinf]
  rw [if_pos ⟨hc.1,hc.2.1,hc.2.2,hlt⟩]
  simp only [q9n,eD,e1,eC,Option.map_none,Option.map_some,eR,List.map_replicate]
  rfl
def jb5 (f:Int→Int→Int) (x y:TD) (k:TRes→Option α):Option α:=match x,y with
 | .one (.c (.d (.int kk) n)),.one (.c (.d (.int _) m))=>q0u (f n m) fun z=>k (vC (.d (.int kk) z))
 | _,_=>none
theorem qy2 {f:Int→Int→Int} {x y:TD} {k:TRes→Option α} {r:α} (h:jb5 f x y k=some r) : ∃ z,k z=some r∧Sim (jcd f (eD x) (eD y)) z:=by
 unfold jb5 at h
 split at h
 case h_2=>cases h
 exact ⟨_,h,Sim.tr rfl⟩
def vTI:TC→Option Value
 | .d (.int k) n=>some (.int k n)
 | .d .bool b=>some (.bool b)
 | .d .str s=>some (.string (ba s))
 | .d .any v=>some (Subtype.val (v:IV))
 | _=>none
def jlf:List TC→Option (List Value)
 | []=>some []
 | c::cs=>match vTI c,jlf cs with
  | some x,some xs=>some (x::xs)
  | _,_=>none
def vTD:TD→Option Value
 | .one (.c c)=>vTI c
 | .one (.agg cs)=>(jlf cs).map fun xs=>.agg ⟨xs⟩
 | .tup _=>none
theorem jdn {c:TC} {v:Value} (h:vTI c=some v):jiv (eC c)=some v:=by
 unfold vTI at h
 split at h<;>simp only [Option.some.injEq,reduceCtorEq] at h<;>subst h<;>rfl
theorem j3v : ∀ {cs:List TC} {xs:List Value},jlf cs=some xs→qpb (cs.map eC)=some xs
 | [],xs,h=>by simp only [jlf,Option.some.injEq] at h;subst h;rfl
 | c::cs,xs,h=>by
  unfold jlf at h
  split at h
  case h_2=>cases h
  rename_i x ys hx hy
  simp only [Option.some.injEq] at h;subst h
  rw [List.map_cons]
  unfold qpb
  rw [jdn hx,j3v hy]
theorem jld {d:TD} {v:Value} (h:vTD d=some v):jj7 (eD d)=some v:=by
 unfold vTD at h
 split at h
 ·exact jdn h
 ·obtain ⟨xs,h1,rfl⟩:=Option.map_eq_some_iff.1 h
  show (qpb _).map _=_
  rw [j3v h1];rfl
 ·cases h
def qmd (P:Program) (t:TypeId) (x:TD) (k:TRes→Option α):Option α:=match P.concrete t,vTD x with
 | true,some v=>k (vC (.d .any (jeo t v)))
 | _,_=>none
theorem qul {t:TypeId} {x:TD} {k:TRes→Option α} {r:α} (h:qmd P t x k=some r) : ∃ z,k z=some r∧Sim (qa7 P t (eD x)) z:=by
 unfold qmd at h
 split at h
 case h_2=>cases h
 rename_i v hc hv
 exact ⟨_,h,Sim.tr (by unfold qa7;rw [hc,jld hv];rfl)⟩
def qub (P:Program) (op:BinOp) (t:TypeId) (x:TD) (k:TRes→Option α):Option α:=match qzn P t,op,x with
 | true,.eql,.one (.c (.d .any v))=>(q5e (Subtype.val (v:IV))).bind fun b=>k (vC (.d .bool b))
 | true,.neq,.one (.c (.d .any v))=>(q5e (Subtype.val (v:IV))).bind fun b=>k (vC (.d .bool (!b)))
 | _,_,_=>none
theorem j2p {op:BinOp} {t:TypeId} {x:TD} {k:TRes→Option α} {r:α} (h:qub P op t x k=some r) : ∃ z,k z=some r∧Sim (qeo P op t (eD x)) z:=by
 unfold qub at h
 split at h
 case h_3=>cases h
 ·rename_i v hc
  obtain ⟨b,hb,h⟩:=Option.bind_eq_some_iff.1 h
  exact ⟨_,h,Sim.tr (by simp only [qeo,hc,eD,e1,eC,q0j,List.headD_cons,hb,Option.map_some];rfl)⟩
 ·rename_i v hc
  obtain ⟨b,hb,h⟩:=Option.bind_eq_some_iff.1 h
  exact ⟨_,h,Sim.tr (by simp only [qeo,hc,eD,e1,eC,q0j,List.headD_cons,hb,Option.map_some];rfl)⟩
def w1 (x:Option TD) (f:TD→Option α):Option α:=match x with|some y=>f y|none=>none
def w0 (σ:TSt) (x:Option Operand) (f:Option TD→Option α):Option α:=match x with
 | none=>f none
 | some x=>match q1o σ x with|some y=>f (some y)|none=>none
theorem q18 {x:Option TD} {f:TD→Option α} {r:α} (h:w1 x f=some r) : ∃ y,x=some y∧f y=some r:=by
 cases x with
 | none=>cases h
 | some y=>exact ⟨y,rfl,h⟩
theorem j90 {x:Option Operand} {f:Option TD→Option α} {r:α} (h:w0 σ x f=some r) : ∃ y,x.map (opnd (eS σ))=y.map eD∧f y=some r:=by
 cases x with
 | none=>exact ⟨none,rfl,h⟩
 | some x =>
  unfold w0 at h
  simp only at h
  split at h
  ·rename_i y hy
   exact ⟨some y,by rw [Option.map_some,Option.map_some,q0o hy],h⟩
  ·cases h
def rowD:TD→Bool
 | .one (.c (.row _ _))=>true
 | _=>false
def tev (P:Program) (o:Oper) (σ:TSt) (k:TRes→Option α):Option α:=match o.op with
 | .move x=>w1 (q1o σ x) fun y=>k { val:=y }
 | .assign x=>w1 (q1o σ x) fun y=>k { val:=y }
 | .pick c x y=>w1 (q1o σ c) fun c=>w1 (q1o σ x) fun x=>w1 (q1o σ y) fun y=>qwj c x y k
 | .alloc t=>qov P o.dst t σ k
 | .box t x=>w1 (q1o σ x) fun x=>j3g o.dst t x σ k
 | .load t x=>w1 (q1o σ x) fun x=>qvi P t x σ k
 | .store t x y=>w1 (q1o σ x) fun x=>w1 (q1o σ y) fun y=>qns P t x y σ k
 | .fieldAddr t x f=>w1 (q1o σ x) fun x=>q8j P t x f k
 | .field t x f=>w1 (q1o σ x) fun x=>qnf P t x f k
 | .index t x i=>w1 (q1o σ x) fun x=>w1 (q1o σ i) fun i=>qox P t x i k
 | .indexAddr t x i=>w1 (q1o σ x) fun x=>w1 (q1o σ i) fun i=>q83 P t x i σ k
 | .extract x i=>w1 (q1o σ x) fun x=>qdv x i k
 | .build t ps=>qnx P t ps σ k
 | .buildSlice t n ps=>q78 P o.dst t n ps σ k
 | .binOp op t x y _=>bif qan y then w1 (q1o σ x) fun x=>qub P op t x k else w1 (q1o σ x) fun x=>w1 (q1o σ y) fun y=>j5w P op t x y k
 | .makeInterface t x=>w1 (q1o σ x) fun x=>qmd P t x k
 | .unOp op _ x=>w1 (q1o σ x) fun x=>jhr op x k
 | .convert s d x=>w1 (q1o σ x) fun x=>bif qmt P s d then qdn P o.dst s d x σ k else quw P s d x k
 | .slice t x lo hi none=>w1 (q1o σ x) fun x=>w0 σ lo fun lo=>w0 σ hi fun hi=>bif rowD x then qai P t x lo hi σ k else qo1 P t x lo hi k
 | .nilCheck x=>w1 (q1o σ x) fun x=>j7m x k
 | .call ⟨.builtin .len,⟨[x]⟩,⟨[t]⟩⟩=>w1 (q1o σ x) fun x=>j3o P t x σ k
 | .call ⟨.builtin .append,⟨[s,x]⟩,⟨[t,t']⟩⟩=>if t=t' then w1 (q1o σ s) fun s=>w1 (q1o σ x) fun x=>qiz P o.dst t s x σ k else none
 | .makeSlice t x y=>bif qeq x y then w1 (q1o σ x) fun x=>qvj P o.dst t x σ k else none
 | .call ⟨.builtin .max,⟨[x,y]⟩,⟨[_,_]⟩⟩=>w1 (q1o σ x) fun x=>w1 (q1o σ y) fun y=>jb5 max x y k
 | .call ⟨.builtin .min,⟨[x,y]⟩,⟨[_,_]⟩⟩=>w1 (q1o σ x) fun x=>w1 (q1o σ y) fun y=>jb5 min x y k
 | _=>none
theorem jen {o:Oper} {k:TRes→Option α} {r:α} (h:tev P o σ k=some r) : ∃ y,k y=some r∧Sim (qd5 P o (opnd (eS σ)) (eS σ).box (eS σ).row) y:=by
 unfold tev at h
 unfold qd5
 split at h
 ·rename_i ho;rw [ho]
  obtain ⟨x1,e1',h⟩:=q18 h
  exact ⟨_,h,Sim.tr (by show some _=_;rw [q0o e1'];rfl)⟩
 ·rename_i ho;rw [ho]
  obtain ⟨x1,e1',h⟩:=q18 h
  exact ⟨_,h,Sim.tr (by show some _=_;rw [q0o e1'];rfl)⟩
 ·rename_i ho;rw [ho]
  obtain ⟨x1,e1',h⟩:=q18 h
  obtain ⟨x2,e2',h⟩:=q18 h
  obtain ⟨x3,e3',h⟩:=q18 h
  show ∃ y,_∧Sim (qki _ _ _) y
  rw [q0o e1',q0o e2',q0o e3'];exact j1e h
 ·rename_i ho;rw [ho]
  exact qv9 h
 ·rename_i ho;rw [ho]
  obtain ⟨x1,e1',h⟩:=q18 h
  show ∃ y,_∧Sim (qj5 _ _ _ _) y
  rw [q0o e1'];exact j5l h
 ·rename_i ho;rw [ho]
  obtain ⟨x1,e1',h⟩:=q18 h
  show ∃ y,_∧Sim (q7q _ _ _ _ _) y
  rw [q0o e1'];exact j2s h
 ·rename_i ho;rw [ho]
  obtain ⟨x1,e1',h⟩:=q18 h
  obtain ⟨x2,e2',h⟩:=q18 h
  show ∃ y,_∧Sim (q3w _ _ _ _ _ _) y
  rw [q0o e1',q0o e2'];exact qty h
 ·rename_i ho;rw [ho]
  obtain ⟨x1,e1',h⟩:=q18 h
  show ∃ y,_∧Sim (q2h _ _ _ _) y
  rw [q0o e1'];exact qj1 h
 ·rename_i ho;rw [ho]
  obtain ⟨x1,e1',h⟩:=q18 h
  show ∃ y,_∧Sim (q7v _ _ _ _) y
  rw [q0o e1'];exact qtx h
 ·rename_i ho;rw [ho]
  obtain ⟨x1,e1',h⟩:=q18 h
  obtain ⟨x2,e2',h⟩:=q18 h
  show ∃ y,_∧Sim (q4e _ _ _ _) y
  rw [q0o e1',q0o e2'];exact qur h
 ·rename_i ho;rw [ho]
  obtain ⟨x1,e1',h⟩:=q18 h
  obtain ⟨x2,e2',h⟩:=q18 h
  show ∃ y,_∧Sim (q1i _ _ _ _ _) y
  rw [q0o e1',q0o e2'];exact qh7 h
 ·rename_i ho;rw [ho]
  obtain ⟨x1,e1',h⟩:=q18 h
  show ∃ y,_∧Sim (q51 _ _) y
  rw [q0o e1'];exact qor h
 ·rename_i ho;rw [ho]
  exact qus h
 ·rename_i ho;rw [ho]
  exact qfd h
 ·rename_i ho;rw [ho]
  show ∃ y,_∧Sim (bif qan _ then qeo _ _ _ _ else q82 _ _ _ _ _) y
  cases hn:qan _ with
  | true =>
   rw [hn] at h
   obtain ⟨x1,e1',h⟩:=q18 h
   rw [q0o e1'];exact j2p h
  | false =>
   rw [hn] at h
   obtain ⟨x1,e1',h⟩:=q18 h
   obtain ⟨x2,e2',h⟩:=q18 h
   rw [q0o e1',q0o e2'];exact j8v h
 ·rename_i ho;rw [ho]
  obtain ⟨x1,e1',h⟩:=q18 h
  show ∃ y,_∧Sim (qa7 _ _ _) y
  rw [q0o e1'];exact qul h
 ·rename_i ho;rw [ho]
  obtain ⟨x1,e1',h⟩:=q18 h
  show ∃ y,_∧Sim (jim _ _) y
  rw [q0o e1'];exact jc4 h
 ·rename_i ho;rw [ho]
  obtain ⟨x1,e1',h⟩:=q18 h
  show ∃ y,_∧Sim (match q9t _ _ _ _ with|some r=>some r|none=>q3d _ _ _ _ _ _) y
  rw [q0o e1']
  cases hb:qmt P _ _ with
  | true =>
   rw [hb] at h
   rw [qtw hb]
   exact qn7 h
  | false =>
   rw [hb] at h
   obtain ⟨y,h1,c,h2,h3⟩:=j0b (P:=P) h
   rw [h3]
   exact ⟨y,h1,c,h2,rfl⟩
 ·rename_i ho;rw [ho]
  obtain ⟨x1,e1',h⟩:=q18 h
  obtain ⟨x2,e2',h⟩:=j90 h
  obtain ⟨x3,e3',h⟩:=j90 h
  show ∃ y,_∧Sim (match q4x _ _ _ _ _ with|some r=>some r|none=>q32 _ _ _ _ _ _) y
  rw [q0o e1',e2',e3']
  cases hb:rowD x1 with
  | true =>
   rw [hb] at h
   obtain ⟨y,h1,h2,h3⟩:=qjt (P:=P) h
   rw [h2]
   exact ⟨y,h1,h3⟩
  | false =>
   rw [hb] at h
   obtain ⟨y,h1,c,h2,h3⟩:=quj (P:=P) h
   rw [h3]
   exact ⟨y,h1,c,h2,rfl⟩
 ·rename_i ho;rw [ho]
  obtain ⟨x1,e1',h⟩:=q18 h
  show ∃ y,_∧Sim (j7b _) y
  rw [q0o e1'];exact j6u h
 ·rename_i ho;rw [ho]
  obtain ⟨x1,e1',h⟩:=q18 h
  show ∃ y,_∧Sim (qcy _ _ _ _) y
  rw [q0o e1'];exact j3m h
 ·rename_i ho;rw [ho]
  split at h
  case isFalse=>cases h
  rename_i ht
  obtain ⟨x1,e1',h⟩:=q18 h
  obtain ⟨x2,e2',h⟩:=q18 h
  show ∃ y,_∧Sim (if _=_ then q33 _ _ _ _ _ _ else none) y
  rw [if_pos ht,q0o e1',q0o e2'];exact qrv h
 ·rename_i ho;rw [ho]
  cases hs:qeq _ _ with
  | false=>rw [hs] at h;cases h
  | true =>
   rw [hs] at h
   obtain ⟨x1,e1',h⟩:=q18 h
   show ∃ y,_∧Sim (bif qeq _ _ then qbf _ _ _ _ _ else none) y
   rw [hs,q0o e1'];exact j1w h
 ·rename_i ho;rw [ho]
  obtain ⟨x1,e1',h⟩:=q18 h
  obtain ⟨x2,e2',h⟩:=q18 h
  show ∃ y,_∧Sim (jcd _ _ _) y
  rw [q0o e1',q0o e2'];exact qy2 h
 ·rename_i ho;rw [ho]
  obtain ⟨x1,e1',h⟩:=q18 h
  obtain ⟨x2,e2',h⟩:=q18 h
  show ∃ y,_∧Sim (jcd _ _ _) y
  rw [q0o e1',q0o e2'];exact qy2 h
 ·cases h
end Go.Proofs.YthpgnliicpejoaaGreatDoor.AM
