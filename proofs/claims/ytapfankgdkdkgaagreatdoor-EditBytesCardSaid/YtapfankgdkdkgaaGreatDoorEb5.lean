
import Derived.Test.YtapfankgdkdkgaaGreatDoorEb4
set_option linter.unusedVariables false
set_option linter.unusedSimpArgs false
namespace Go.Proofs.YtapfankgdkdkgaaGreatDoor.AM
open Go.RowKit
abbrev IV:={ v:Value // v.oneCell'=true }
def qdt:IV:=⟨.nilIface,rfl⟩
def nilFV:IV:=⟨.nilFunc,rfl⟩
def jaw:IV:=⟨.pointer none,rfl⟩
def nilMV:IV:=⟨.map none,rfl⟩
def qqr (t:TypeId) (v:Value):IV:=⟨.iface t v,rfl⟩
inductive Ty where
 | int (k:IntKind)
 | bool
 | str
 | lst (e:Ty)
 | prod (a b:Ty)
 | any
deriving DecidableEq
@[reducible] def den:Ty->Type
 | .int _=>Int
 | .bool=>Bool
 | .str=>Yy
 | .lst e=>List (den e)
 | .prod a b=>den a×den b
 | .any=>IV
def width:Ty->Nat
 | .prod a b=>width a+width b
 | _=>1
def ba (s:Yy):ByteArray:=⟨s.toArray⟩
def q05:(e:Ty)->den e->List Dat
 | .int k,(n:Int)=>[.v (.int k n)]
 | .bool,(b:Bool)=>[.v (.bool b)]
 | .str,(s:Yy)=>[.v (.string (ba s))]
 | .lst e,(l:List (den e))=>[.lst (width e) (l.map (q05 e))]
 | .prod a b,(p:den a×den b)=>q05 a p.1++q05 b p.2
 | .any,(v:IV)=>[.v v.1]
theorem qvg (a b:Ty) (p:den (.prod a b)):q05 (.prod a b) p=q05 a (Prod.fst (p:den a×den b))++q05 b (Prod.snd (p:den a×den b)):=rfl
theorem q2d : ∀(e:Ty) (x:den e),(q05 e x).length=width e
 | .int _,_=>rfl
 | .bool,_=>rfl
 | .str,_=>rfl
 | .lst _,_=>rfl
 | .prod a b,p=>by rw [qvg,List.length_append,q2d a,q2d b];rfl
 | .any,_=>rfl
inductive TC where
 | d (ty:Ty) (x:den ty)
 | nil
 | box (β off:Nat)
 | row (t g:Nat)
 | rp (e:Ty) (off:Nat) (x:den e)
 | wp (t g k off:Nat)
 | bp (β off len:Nat) (n:Int)
 | mv (β:Nat)
 | fn (f:Nat) (caps:List Nat)
 | undef
 | bad
def eC:TC->C
 | .d ty x=>.d ((q05 ty x).headD (.v Go.undef))
 | .nil=>.d (.v (.slice none 0 0))
 | .box β o=>.box β o
 | .row t g=>.row t g
 | .rp e off x=>.rp ((q05 e x).drop off)
 | .wp t g k o=>.wp t g k o
 | .bp β o _ n=>.box β (o+Int.toNat n*1)
 | .mv β=>.mv β
 | .fn f []=>.d (.v (.func (.func f) #[] #[]))
 | .fn f (c::cs)=>.fn f (c::cs)
 | .undef=>.d (.v Go.undef)
 | .bad=>.bad
def q89 (T:Nat):Bool:=Nat.blt T 2199023255552
theorem q3l {T:Nat} (h:q89 T=true):T<2199023255552:=Nat.le_of_ble_eq_true h
theorem k85 {T:Nat} (h:q89 T=false):2199023255552<=T:=by
 by_cases h1:T<2199023255552
 ·rw [show q89 T=true from Nat.ble_eq_true_of_le h1] at h;cases h
 ·omega
inductive TD1 where
 | c (x:TC)
 | agg (cs:List TC)
inductive TD where
 | one (x:TD1)
 | tup (xs:List TD1)
def e1:TD1->D1
 | .c x=>.c (eC x)
 | .agg cs=>.agg (cs.map eC)
def eD:TD->D
 | .one x=>.one (e1 x)
 | .tup xs=>.tup (xs.map e1)
structure TRow where
 gen:Nat
 E:Nat
 wr:Bool
 e:Ty
 xs:List (den e)
def eR (r:TRow):Row:=⟨r.gen,r.E,width r.e,r.wr,r.xs.map (q05 r.e)⟩
structure TSt where
 slots:List (Nat×TD)
 boxes:List (Nat×(Nat×List TC))
 rows:List (Nat×TRow)
def lk {α:Type} : List (Nat×α)->Nat->Option α
 | [],_=>none
 | (j,x)::l,i=>bif Nat.beq j i then some x else lk l i
def eB (p:Nat×List TC):Nat×List C:=(p.1,p.2.map eC)
def eS (σ:TSt):St :=
 {slot:=fun i=>match lk σ.slots i with|some x=>eD x|none=>.one (.c .bad)
  box:=fun i=>(lk σ.boxes i).map eB
  row:=fun i=>(lk σ.rows i).map eR }
theorem q0q {α:Type} (j:Nat) (x:α) (l:List (Nat×α)) (i:Nat):lk ((j,x)::l) i=if i=j then some x else lk l i:=by
 show (bif Nat.beq j i then some x else lk l i)=_
 by_cases h:i=j
 ·subst h;rw [if_pos rfl];have:Nat.beq i i=true:=Nat.beq_refl i;rw [this];rfl
 ·rw [if_neg h]
  cases hb:Nat.beq j i with
  | false=>rfl
  | true=>exact absurd (Nat.eq_of_beq_eq_true hb).symm h
structure TRes where
 val:TD
 box:Option (Nat×(Nat×List TC)):=none
 row:Option (Nat×TRow):=none
def qcr (c:Prop) (t:TRes):Res:={ cond:=c,val:=eD t.val,box:=t.box.map fun p=>(p.1,eB p.2),row:=t.row.map fun p=>(p.1,eR p.2) }
def TSt.app (σ:TSt) (r:TRes):TSt :=
 {slots:=σ.slots
  boxes:=match r.box with|some p=>p::σ.boxes|none=>σ.boxes
  rows:=match r.row with|some p=>p::σ.rows|none=>σ.rows }
def TSt.put (σ:TSt) (d:Option Nat) (x:TD):TSt:=match d with
 | some i=>{ σ with slots:=(i,x)::σ.slots }
 | none=>σ
theorem j97 (σ:TSt) (r:TRes) (c:Prop):eS (σ.app r)=(eS σ).app (qcr c r):=by
 obtain ⟨v,bx,rw⟩:=r
 unfold eS TSt.app St.app qcr
 congr 1
 ·cases bx with
  | none=>rfl
  | some p =>
   funext i
   obtain ⟨j,x⟩:=p
   simp only [Option.map_some,q0q,upd]
   split<;>rfl
 ·cases rw with
  | none=>rfl
  | some p =>
   funext i
   obtain ⟨j,x⟩:=p
   simp only [Option.map_some,q0q,upd]
   split<;>rfl
theorem qgr (σ:TSt) (d:Option Nat) (x:TD):eS (σ.put d x)=(eS σ).put d (eD x):=by
 cases d with
 | none=>rfl
 | some i =>
  unfold eS TSt.put St.put
  simp only
  congr 1
  funext j
  simp only [q0q,upd]
  by_cases hj:j=i
  ·simp only [hj,if_true]
  ·simp only [hj,if_false]
def tval:Value->Option TC
 | .int k n=>some (.d (.int k) n)
 | .bool b=>some (.d .bool b)
 | .string s=>some (.d .str s.data.toList)
 | .slice none 0 0=>some .nil
 | .func (.func f) ⟨[]⟩ ⟨[]⟩=>some (.fn f [])
 | .tuple ⟨[]⟩=>some .undef
 | .nilIface=>some (.d .any qdt)
 | .nilFunc=>some (.d .any nilFV)
 | .pointer none=>some (.d .any jaw)
 | .map none=>some (.d .any nilMV)
 | _=>none
def qrr:List Value->Option (List TC)
 | []=>some []
 | v::vs=>match tval v,qrr vs with
  | some x,some xs=>some (x::xs)
  | _,_=>none
theorem jqg {v:Value} {x:TC} (h:tval v=some x):eC x=qvb v:=by
 unfold tval at h
 split at h<;>simp only [Option.some.injEq,reduceCtorEq] at h<;>subst h<;>first|rfl|skip
theorem q6w : ∀{vs:List Value} {xs:List TC},qrr vs=some xs->xs.map eC=vs.map qvb
 | [],xs,h=>by simp only [qrr,Option.some.injEq] at h;subst h;rfl
 | v::vs,xs,h=>by
  unfold qrr at h
  split at h
  case h_2=>cases h
  rename_i x ys hx hy
  simp only [Option.some.injEq] at h
  subst h
  rw [List.map_cons,List.map_cons,jqg hx,q6w hy]
def k5v:Value->Option TD
 | .agg cs=>(qrr cs.toList).map fun xs=>.one (.agg xs)
 | v=>(tval v).map fun x=>.one (.c x)
theorem jzm {v:Value} {x:TD} (h:k5v v=some x):eD x=jom v:=by
 unfold k5v at h
 split at h
 ·obtain ⟨xs,h1,rfl⟩:=Option.map_eq_some_iff.1 h
  simp only [eD,e1,jom,q6w h1]
 ·rename_i v' hv
  obtain ⟨xs,h1,rfl⟩:=Option.map_eq_some_iff.1 h
  simp only [eD,e1,jqg h1]
  cases v<;>first|rfl|exact absurd rfl (hv _)
def q0y (σ:TSt):Operand->Option TD
 | .tmp t=>lk σ.slots t
 | .const v=>k5v v
 | .func f=>some (.one (.c (.fn f [])))
 | .global g=>none
theorem q0b {σ:TSt} {x:Operand} {y:TD} (h:q0y σ x=some y):opnd (eS σ) x=eD y:=by
 cases x with
 | tmp t=>unfold q0y at h;simp only [opnd,eS,h]
 | const v=>exact (jzm h).symm
 | func f=>simp only [q0y,Option.some.injEq] at h;subst h;rfl
 | global g=>cases h
def qww (e:Ty) (x:den e):List TC:=match e,x with
 | .int k,x=>[.d (.int k) x]
 | .bool,x=>[.d .bool x]
 | .str,x=>[.d .str x]
 | .lst e,x=>[.d (.lst e) x]
 | .prod a b,(p:den a×den b)=>qww a p.1++qww b p.2
 | .any,x=>[.d .any x]
theorem q7b : ∀(e:Ty) (x:den e),(qww e x).map eC=(q05 e x).map C.d
 | .int _,_=>rfl
 | .bool,_=>rfl
 | .str,_=>rfl
 | .lst _,_=>rfl
 | .prod a b,p=>by rw [qvg,List.map_append,<-q7b a,<-q7b b,<-List.map_append];rfl
 | .any,_=>rfl
def unD (ty:Ty):List TC->Option (den ty)
 | [.d ty' x]=>if h:ty'=ty then some (h ▸ x) else none
 | _=>none
theorem qz8 {ty:Ty} {cs:List TC} {x:den ty} (h:unD ty cs=some x):cs = [.d ty x]:=by
 unfold unD at h
 split at h
 ·rename_i ty' y
  split at h
  ·rename_i hty
   subst hty
   simp only [Option.some.injEq] at h
   subst h;rfl
  ·cases h
 ·cases h
def qym:(e:Ty)->List TC->Option (den e)
 | .prod a b,cs=>match qym a (cs.take (width a)),qym b (cs.drop (width a)) with
  | some x,some y=>some (x,y)
  | _,_=>none
 | .int k,cs=>unD (.int k) cs
 | .bool,cs=>unD .bool cs
 | .str,cs=>unD .str cs
 | .lst e,cs=>unD (.lst e) cs
 | .any,cs=>unD .any cs
theorem q90 : ∀{e:Ty} {cs:List TC} {x:den e},qym e cs=some x->cs.map eC=(q05 e x).map C.d
 | .prod a b,cs,x,h=>by
  unfold qym at h
  split at h
  case h_2=>cases h
  rename_i y z hy hz
  obtain rfl:(y,z)=x:=Option.some.inj h
  have h1:=q90 hy
  have h2:=q90 hz
  show List.map eC cs=List.map C.d (q05 a y++q05 b z)
  rw [List.map_append,<-h1,<-h2,<-List.map_append,List.take_append_drop]
 | .int k,cs,x,h=>by rw [qz8 h];rfl
 | .bool,cs,x,h=>by rw [qz8 h];rfl
 | .str,cs,x,h=>by rw [qz8 h];rfl
 | .lst e,cs,x,h=>by rw [qz8 h];rfl
 | .any,cs,x,h=>by rw [qz8 h];rfl
end Go.Proofs.YtapfankgdkdkgaaGreatDoor.AM
namespace Go.Proofs.YtapfankgdkdkgaaGreatDoor.AM
open Go.RowKit
variable {α:Type} {P:Program} {σ:TSt}
def nth {β:Type} : List β->Nat->Option β
 | [],_=>none
 | x::_,0=>some x
 | _::l,n+1=>nth l n
theorem q68 {β:Type} : ∀(l:List β) (n:Nat),nth l n=l[n]?
 | [],n=>by simp [nth]
 | _::_,0=>rfl
 | _::l,n+1=>by rw [nth,q68 l n];simp
def q0n {β:Type} (l:List β) (i:Int):Option β:=if 0<=i then nth l i.toNat else none
def sAt (s:Yy) (i:Int):Option Int:=(q0n s i).map fun c=>(c.toNat:Int)
def q1d {β:Type} (l:List β) (a b:Int):Option (List β):=if 0<=a/\a<=b/\b<=l.length then some ((l.drop a.toNat).take (b.toNat - a.toNat)) else none
def q7s (s t:Yy):Option (Yy):=if s.length+t.length<=9223372036854775807 then some (s++t) else none
def q2g {β:Type} (bytes:Nat) (xs ys:List β):Option (List β):=if (xs.length+ys.length)*bytes<=140737488355328 then some (xs++ys) else none
def q04 {β:Type} (x:β) (f:β->Option α):Option α:=f x
def qsf {β:Type} (x:Option β) (f:β->Option α) (g:Option α):Option α:=match x with
 | some q=>f q
 | none=>g
def k72 (k:IntKind) (x y:Int):Option Int:=if y≠0 then some (k.wrap (x.tdiv y)) else none
def k2h (x y:Int):Option Int:=if y≠0 then some (x.tmod y) else none
def shlO (k:IntKind) (x y:Int):Option Int:=if 0<=y then some (k.wrap (x*2 ^ (min y.toNat k.bits))) else none
def shrO (k:IntKind) (x y:Int):Option Int:=if 0<=y then some (x.fdiv (2 ^ (min y.toNat k.bits))) else none
def andI (k:IntKind) (x y:Int):Int:=k.wrap (BitVec.ofInt k.bits x &&& BitVec.ofInt k.bits y).toNat
def orI (k:IntKind) (x y:Int):Int:=k.wrap (BitVec.ofInt k.bits x ||| BitVec.ofInt k.bits y).toNat
def xorI (k:IntKind) (x y:Int):Int:=k.wrap (BitVec.ofInt k.bits x ^^^ BitVec.ofInt k.bits y).toNat
def ltS (s t:Yy):Bool:=Op.bytesLess s t
def inA (n:Int) (len:Nat):Bool:=decide (0<=n)&&decide (n<(len:Int))
theorem k1t {n:Int} {len:Nat} (h:inA n len=true):0<=n/\n<(len:Int):=by
 simp only [inA,Bool.and_eq_true,decide_eq_true_eq] at h;exact h
def upd1 {β:Type} (i:Nat) (n:Int) (y x:β):β:=bif Nat.beq i (Int.toNat n) then y else x
def k1x {β:Type} (n:Int) (y:β):Nat->List β->List β
 | _,[]=>[]
 | i,x::xs=>upd1 i n y x::k1x n y (i+1) xs
theorem jql {β:Type} (n:Int) (y:β) : ∀(xs:List β) (i:Nat),k1x n y i xs=if i<=n.toNat then xs.set (n.toNat - i) y else xs
 | [],i=>by simp [k1x]
 | x::xs,i=>by
  rw [k1x,jql n y xs (i+1),upd1]
  by_cases h:i=n.toNat
  ·have hb:Nat.beq i n.toNat=true:=by rw [h];exact Nat.beq_refl _
   rw [hb,if_neg (by omega),if_pos (by omega),h,Nat.sub_self];rfl
  ·have hb:Nat.beq i n.toNat=false:=by
    cases hb:Nat.beq i n.toNat with
    | false=>rfl
    | true=>exact absurd (Nat.eq_of_beq_eq_true hb) h
   rw [hb]
   by_cases hi:i<=n.toNat
   ·rw [if_pos (by omega),if_pos hi]
    obtain ⟨k,hk⟩ : ∃ k,n.toNat - i=k+1:=⟨n.toNat - i - 1,by omega⟩
    have:n.toNat - (i+1)=k:=by omega
    rw [hk,this];rfl
   ·rw [if_neg (by omega),if_neg hi];rfl
theorem jzi {β:Type} (n:Int) (y:β) (xs:List β):k1x n y 0 xs=xs.set n.toNat y:=by
 rw [jql,if_pos (Nat.zero_le _),Nat.sub_zero]
theorem k3g {β:Type} {l xs:List β} {o len j:Nat} {c:β} (h:(l.drop o).take len=xs) (hj:j<xs.length):l.take o++xs.set j c++l.drop (o+len)=setAt l (o+j) [c]:=by
 subst h
 have hl:j<(l.drop o).length/\j<len:=by rw [List.length_take] at hj;omega
 have ho:o+j<l.length:=by rw [List.length_drop] at hl;omega
 unfold setAt
 apply List.ext_getElem?
 intro i
 rw [List.append_assoc,List.append_assoc,List.getElem?_append,List.getElem?_append,List.getElem?_append,List.getElem?_append,List.getElem?_set,List.getElem?_take,List.getElem?_take,List.getElem?_take,List.getElem?_drop,List.getElem?_drop,List.getElem?_drop]
 simp only [List.length_take,List.length_set,List.length_drop,List.length_cons,List.length_nil]
 by_cases h1:i<o
 ·rw [if_pos (by omega),if_pos h1,if_pos (by omega),if_pos (by omega)]
 ·rw [if_neg (by omega)]
  have e1:min o l.length=o:=by omega
  have e2:min (o+j) l.length=o+j:=by omega
  rw [e1,e2]
  by_cases h2:i<o+j
  ·rw [if_pos h2,if_pos (by omega),if_pos h2,if_neg (by omega),if_pos (by omega)]
   congr 1;omega
  ·rw [if_neg h2]
   by_cases h3:i=o+j
   ·subst h3
    have e3:o+j - o=j:=by omega
    rw [e3,Nat.sub_self,if_pos (by omega),if_pos rfl,if_pos (by omega),if_pos (by omega)];rfl
   ·rw [if_neg (by omega : ¬ i - (o+j)<0+1)]
    by_cases h4:i - o<min len (l.length - o)
    ·rw [if_pos h4,if_neg (by omega),if_pos (by omega)]
     congr 1;omega
    ·rw [if_neg h4]
     by_cases h5:len<=l.length - o
     ·congr 1;omega
     ·rw [List.getElem?_eq_none (by omega),List.getElem?_eq_none (by omega)]
def Sim (x:Option Res) (t:TRes):Prop:=∃ c:Prop,c/\x=some (qcr c t)
theorem Sim.tr {x:Option Res} {t:TRes} (h:x=some (qcr True t)):Sim x t:=⟨True,trivial,h⟩
theorem q67 {i:Nat} {p:Nat×List TC} (h:lk σ.boxes i=some p):(eS σ).box i=some (p.1,p.2.map eC):=by show (lk σ.boxes i).map eB=_;rw [h];rfl
theorem q3j {i:Nat} {r:TRow} (h:lk σ.rows i=some r):(eS σ).row i=some (eR r):=by show (lk σ.rows i).map eR=_;rw [h];rfl
theorem qpp {i:Nat} (h:lk σ.boxes i=none):(eS σ).box i=none:=by show (lk σ.boxes i).map eB=_;rw [h];rfl
theorem qbc {i:Nat} (h:lk σ.rows i=none):(eS σ).row i=none:=by show (lk σ.rows i).map eR=_;rw [h];rfl
theorem qd4 {β γ:Type} (f:β->γ) (l:List β) (off:Nat) (xs:List β):(setAt l off xs).map f=setAt (l.map f) off (xs.map f):=by
 unfold setAt;simp
def k65 (ty:Ty):List TC->Option (List (den ty))
 | []=>some []
 | c::cs=>match unD ty [c],k65 ty cs with
  | some x,some xs=>some (x::xs)
  | _,_=>none
theorem j2t {ty:Ty} : ∀{cs:List TC} {xs:List (den ty)},k65 ty cs=some xs->cs=xs.map (TC.d ty)
 | [],xs,h=>by simp only [k65,Option.some.injEq] at h;subst h;rfl
 | c::cs,xs,h=>by
  unfold k65 at h
  split at h
  case h_2=>cases h
  rename_i x ys h1 h2
  simp only [Option.some.injEq] at h
  subst h
  have:=qz8 h1
  simp only [List.cons.injEq,and_true] at this
  rw [List.map_cons,<-j2t h2,this]
def loadT (P:Program) (t:TypeId) (cs:List TC):Option TD:=match j10 P t,tsz P t with
 | some true,some n=>if n<=cs.length then some (.one (.agg (cs.take n))) else none
 | some false,_=>match cs with|c::_=>some (.one (.c c)) | []=>none
 | _,_=>none
theorem qqv {t:TypeId} {cs:List TC} {d:TD} (h:loadT P t cs=some d):qtp P t (cs.map eC)=some (eD d):=by
 unfold loadT at h
 unfold qtp
 split at h
 ·rename_i n h1 h2
  rw [h1,h2]
  split at h
  ·rename_i hle
   simp only [Option.some.injEq] at h
   subst h
   simp only [List.length_map,hle,if_true,eD,e1,List.map_take]
  ·cases h
 ·rename_i h1
  rw [h1]
  split at h
  ·simp only [Option.some.injEq] at h
   subst h;rfl
  ·cases h
 ·cases h
theorem qpr {b:Bool} {x:Option α} {r:α} (h:(bif b then x else none)=some r):b=true/\x=some r:=by
 cases b with
 | true=>exact ⟨rfl,h⟩
 | false=>cases h
def jd2 (P:Program) (t:TypeId) (p:TD) (σ:TSt) (k:TRes->Option α):Option α:=match p with
 | .one (.c (.box β off))=>match lk σ.boxes β with
  | some q=>bif q89 q.1 then (match loadT P t (q.2.drop off) with|some d=>k { val:=d } | none=>none) else none
  | none=>none
 | .one (.c (.rp e off x))=>match loadT P t ((qww e x).drop off) with|some d=>k { val:=d } | none=>none
 | .one (.c (.wp tt g j off))=>match lk σ.rows tt with
  | some r=>if r.gen=g then (nth r.xs j).bind fun x=>match loadT P t ((qww r.e x).drop off) with|some d=>k { val:=d } | none=>none else none
  | none=>none
 | .one (.c (.bp β o len n))=>match j10 P t,lk σ.boxes β with
  | some false,some q=>bif q89 q.1 then (match (q.2.drop o).take len with
   | .d e x0::cs0=>match k65 e (.d e x0::cs0) with
    | some xs=>(nth xs (Int.toNat n)).bind fun y=>k { val:=.one (.c (.d e y)) }
    | none=>none
   | _=>none) else none
  | _,_=>none
 | _=>none
theorem j58 {e:Ty} {xs:List (den e)} {j:Nat} {x:den e} (h:nth xs j=some x):(xs.map (q05 e)).getD j []=q05 e x/\j<(xs.map (q05 e)).length:=by
 rw [q68] at h
 obtain ⟨h1,rfl⟩:=List.getElem?_eq_some_iff.1 h
 have:j<(xs.map (q05 e)).length:=by rw [List.length_map];exact h1
 exact ⟨by simp [List.getD,h1],this⟩
theorem jm6 {t:TypeId} {p:TD} {k:TRes->Option α} {r:α} (h:jd2 P t p σ k=some r) :
  ∃ x,k x=some r/\Sim (q9e P t (eD p) (eS σ).box (eS σ).row) x:=by
 unfold jd2 at h
 split at h
 ·rename_i β off
  split at h
  case h_2=>cases h
  rename_i q hq
  obtain ⟨hpb,h⟩:=qpr h
  split at h
  case h_2=>cases h
  rename_i d hd
  refine ⟨_,h,Sim.tr ?_⟩
  have:=qqv hd
  rw [List.map_drop] at this
  simp only [q9e,eD,e1,eC,q67 hq,q3l hpb,if_true,this,Option.map_some]
  rfl
 ·rename_i e off x
  split at h
  case h_2=>cases h
  rename_i d hd
  refine ⟨_,h,Sim.tr ?_⟩
  have:=qqv hd
  rw [List.map_drop,q7b] at this
  simp only [q9e,eD,e1,eC,List.map_drop,this,Option.map_some]
  rfl
 ·rename_i tt g j off
  split at h
  case h_2=>cases h
  rename_i r' hr
  split at h
  case isFalse=>cases h
  rename_i hg
  obtain ⟨x,hx,h⟩:=Option.bind_eq_some_iff.1 h
  split at h
  case h_2=>cases h
  rename_i d hd
  have:=qqv hd
  rw [List.map_drop,q7b] at this
  obtain ⟨h1,h2⟩:=j58 hx
  refine ⟨_,h,_,h2,?_⟩
  simp only [q9e,eD,e1,eC,q3j hr]
  have hg':(eR r').gen=g:=hg
  rw [if_pos hg']
  have h3:(eR r').xs.getD j []=q05 r'.e x:=h1
  rw [h3,List.map_drop,this]
  rfl
 ·rename_i β o len n
  split at h
  case h_2=>cases h
  rename_i q ha hq
  obtain ⟨hpb,h⟩:=qpr h
  split at h
  case h_2=>cases h
  rename_i e x0 cs0 hcs
  split at h
  case h_2=>cases h
  rename_i xs hxs
  obtain ⟨y,hy,h⟩:=Option.bind_eq_some_iff.1 h
  rw [q68] at hy
  have h1:=j2t hxs
  rw [h1] at hcs
  have h2:(q.2.drop (o+n.toNat*1)).head? = some (.d e y):=by
   have h3:((q.2.drop o).take len)[n.toNat]? = some (.d e y):=by rw [hcs,List.getElem?_map,hy];rfl
   rw [List.getElem?_take] at h3
   split at h3
   ·rw [List.getElem?_drop] at h3
    rw [List.head?_drop,Nat.mul_one];exact h3
   ·cases h3
  refine ⟨_,h,Sim.tr ?_⟩
  have h4:qtp P t ((q.2.map eC).drop (o+n.toNat*1))=some (eD (.one (.c (.d e y)))):=by
   rw [<-List.map_drop]
   generalize q.2.drop (o+n.toNat*1)=l at h2
   cases l with
   | nil=>cases h2
   | cons c cs =>
    simp only [List.head?_cons,Option.some.injEq] at h2
    subst h2
    simp only [qtp,ha,List.map_cons]
    rfl
  simp only [q9e,eD,e1,eC,q67 hq,q3l hpb,if_true,h4,Option.map_some]
  rfl
 ·cases h
def q8q:TD1->List TC
 | .c x=>[x]
 | .agg cs=>cs
def okTy:Ty->Bool
 | .prod _ _=>false
 | _=>true
def okT:TC->Bool
 | .d ty _=>okTy ty
 | .undef=>false
 | .bad=>false
 | .bp _ _ _ _=>false
 | _=>true
theorem k8h : ∀{x:TC},okT x=true->okC (eC x)=true
 | .d (.int _) _,_=>rfl
 | .d .bool _,_=>rfl
 | .d .str _,_=>rfl
 | .d (.lst _) _,_=>rfl
 | .d .any v,_=>by
  show okC (.d (.v (Subtype.val (v:IV))))=true
  exact (v:IV).2
 | .nil,_=>rfl
 | .box _ _,_=>rfl
 | .row _ _,_=>rfl
 | .rp _ _ _,_=>rfl
 | .wp _ _ _ _,_=>rfl
 | .fn _ [],_=>rfl
 | .fn _ (_::_),_=>rfl
 | .mv _,_=>rfl
theorem q2p (x:TD1):q0r (e1 x)=(q8q x).map eC:=by cases x<;>rfl
theorem j21 {cs:List TC} (h:cs.all okT=true):(cs.map eC).all okC=true:=by
 rw [List.all_map]
 refine List.all_eq_true.2 fun x hx=>k8h (List.all_eq_true.1 h x hx)
theorem qa1 : ∀(l:List Dat),(l.map C.d).mapM qpf=some l
 | []=>rfl
 | x::l=>by rw [List.map_cons,List.mapM_cons,qa1 l];rfl
def setT (e:Ty) (x:den e) (off:Nat) (ys:List TC):Option (den e):=qym e (setAt (qww e x) off ys)
def j2r (P:Program) (t:TypeId) (p x:TD) (σ:TSt) (k:TRes->Option α):Option α:=match x with
 | .one x=>match tsz P t with
  | some n=>if (q8q x).length=n/\(q8q x).all okT=true then
    match p with
    | .one (.c (.box β off))=>match lk σ.boxes β with
     | some q=>if off+n<=q.2.length/\q89 q.1=true then k { val:=.one (.c .undef),box:=some (β,(q.1,setAt q.2 off (q8q x))) } else none
     | none=>none
    | .one (.c (.wp tt g j off))=>match lk σ.rows tt with
     | some r=>if r.gen=g/\r.wr=true/\off+n<=width r.e then (nth r.xs j).bind fun y=>match setT r.e y off (q8q x) with
       | some y'=>k { val:=.one (.c .undef),row:=some (tt,{ r with xs:=r.xs.set j y' }) }
       | none=>none
      else none
     | none=>none
    | .one (.c (.bp β o len n))=>match lk σ.boxes β,q8q x with
     | some q,[.d e y]=>match k65 e ((q.2.drop o).take len) with
      | some xs=>bif q89 q.1&&inA n xs.length then k { val:=.one (.c .undef),box:=some (β,(q.1,q.2.take o++(k1x n y 0 xs).map (TC.d e)++q.2.drop (o+len))) } else none
      | none=>none
     | _,_=>none
    | _=>none
   else none
  | none=>none
 | _=>none
theorem k5d : ∀{l m:List Dat},l.map C.d=m.map C.d->l=m
 | [],[],_=>rfl
 | x::l,y::m,h=>by
  simp only [List.map_cons,List.cons.injEq,C.d.injEq] at h
  rw [h.1,k5d h.2]
 | [],_::_,h=>by simp at h
 | _::_,[],h=>by simp at h
theorem k3z {e:Ty} {x x':den e} {off:Nat} {ys:List TC} (h:setT e x off ys=some x') (hl:off+ys.length<=width e) :
  ∃ ds,(ys.map eC).mapM qpf=some ds/\q05 e x'=setAt (q05 e x) off ds:=by
 have h1:=q90 h
 rw [qd4,q7b] at h1
 have hx:=q2d e x
 have hx':=q2d e x'
 have h2:ys.map eC=(((q05 e x').drop off).take ys.length).map C.d:=by
  rw [List.map_take,List.map_drop,<-h1]
  unfold setAt
  have e0:((List.map C.d (q05 e x)).take off).length=off:=by rw [List.length_take,List.length_map];omega
  rw [List.append_assoc,List.drop_append,e0,Nat.sub_self,List.drop_zero,List.drop_eq_nil_of_le (by omega),List.nil_append,List.take_append_of_le_length (by rw [List.length_map];omega),List.take_of_length_le (by rw [List.length_map];omega)]
 refine ⟨_,by rw [h2];exact qa1 _,?_⟩
 apply k5d
 rw [<-h1,qd4,h2]
theorem jgo {t:TypeId} {p x:TD} {k:TRes->Option α} {r:α} (h:j2r P t p x σ k=some r) :
  ∃ y,k y=some r/\Sim (q3z P t (eD p) (eD x) (eS σ).box (eS σ).row) y:=by
 unfold j2r at h
 split at h
 case h_2=>cases h
 rename_i x1
 split at h
 case h_2=>cases h
 rename_i n hn
 split at h
 case isFalse=>cases h
 rename_i hc
 obtain ⟨hc1,hc2⟩:=hc
 have hc1':(q0r (e1 x1)).length=n:=by rw [q2p,List.length_map];exact hc1
 have hc2':(q0r (e1 x1)).all okC=true:=by rw [q2p];exact j21 hc2
 split at h
 ·rename_i β off
  split at h
  case h_2=>cases h
  rename_i q hq
  split at h
  case isFalse=>cases h
  rename_i hle
  obtain ⟨hle,hpb⟩:=hle
  refine ⟨_,h,Sim.tr ?_⟩
  show q3z P t (.one (.c (.box β off))) (.one (e1 x1)) _ _=_
  have e5:=q2p x1
  generalize e1 x1=y1 at hc1' hc2' e5
  rw [e5] at hc2'
  simp only [q3z,hn,e5,hc1,hc2',and_self,if_true,q67 hq,List.length_map,hle,q3l hpb,qcr,Option.map_some,eB,qd4]
  rfl
 ·rename_i tt g j off
  split at h
  case h_2=>cases h
  rename_i r' hr
  split at h
  case isFalse=>cases h
  rename_i hg
  obtain ⟨hg1,hg2,hg3⟩:=hg
  obtain ⟨y,hy,h⟩:=Option.bind_eq_some_iff.1 h
  split at h
  case h_2=>cases h
  rename_i y' hy'
  obtain ⟨ds,k1,k2⟩:=k3z hy' (by omega)
  obtain ⟨h1,h2⟩:=j58 hy
  refine ⟨_,h,_,h2,?_⟩
  rw [<-q2p] at k1
  show q3z P t (.one (.c (.wp tt g j off))) (.one (e1 x1)) _ _=_
  generalize e1 x1=y1 at hc1' hc2' k1
  simp only [q3z,hn,hc1',hc2',and_self,if_true,q3j hr,k1]
  have hg':(eR r').gen=g/\(eR r').wr=true/\off+n<=(eR r').sz:=⟨hg1,hg2,hg3⟩
  rw [if_pos hg']
  have h3:(eR r').xs.getD j []=q05 r'.e y:=h1
  rw [h3,<-k2]
  simp only [qcr,Option.map_some,eR,List.map_set]
  rfl
 ·rename_i β o len m
  split at h
  case h_2=>cases h
  rename_i q e y hq hy
  split at h
  case h_2=>cases h
  rename_i xs hxs
  obtain ⟨hb0,h⟩:=qpr h
  obtain ⟨hpb,hb⟩:=Bool.and_eq_true_iff.1 hb0
  replace h:k { val:=.one (.c .undef),box:=some (β,(q.1,q.2.take o++(k1x m y 0 xs).map (TC.d e)++q.2.drop (o+len))) } = some r:=h
  obtain ⟨hb1,hb2⟩:=k1t hb
  refine ⟨_,h,Sim.tr ?_⟩
  have hmid:=j2t hxs
  have hj:m.toNat<(xs.map (TC.d e)).length:=by rw [List.length_map];omega
  have key:q.2.take o++(k1x m y 0 xs).map (TC.d e)++q.2.drop (o+len)=setAt q.2 (o+m.toNat*1) [.d e y]:=by
   rw [jzi,List.map_set,Nat.mul_one]
   exact k3g hmid hj
  have hlen:o+m.toNat*1+1<=q.2.length:=by
   have:=congrArg List.length hmid
   rw [List.length_take,List.length_drop] at this
   omega
  rw [key]
  have hn1:n=1:=by rw [<-hc1,hy];rfl
  subst hn1
  show q3z P t (.one (.c (.box β (o+m.toNat*1)))) (.one (e1 x1)) _ _=_
  have e5:=q2p x1
  generalize e1 x1=y1 at hc1' hc2' e5
  rw [e5] at hc2'
  rw [hy] at e5 hc2'
  simp only [q3z,hn,e5,List.map_cons,List.map_nil,List.length_cons,List.length_nil,q67 hq,List.length_map,qcr,Option.map_some,eB,qd4]
  rw [if_pos ⟨trivial,by simpa using hc2'⟩,if_pos ⟨hlen,q3l hpb⟩]
  rfl
 ·cases h
def j3y (P:Program) (dst:Option Nat) (t:TypeId) (σ:TSt) (k:TRes->Option α):Option α:=match dst,qtg P t with
 | some i,some z=>match lk σ.boxes i,qrr z with
  | none,some cs=>if z.all Value.oneCell'=true/\i<1000000/\q89 t=true then k { val:=.one (.c (.box i 0)),box:=some (i,(t,cs)) } else none
  | _,_=>none
 | _,_=>none
theorem jd8 {dst:Option Nat} {t:TypeId} {k:TRes->Option α} {r:α} (h:j3y P dst t σ k=some r) :
  ∃ y,k y=some r/\Sim (qcf P dst t (eS σ).box) y:=by
 unfold j3y at h
 split at h
 case h_2=>cases h
 rename_i i z hz
 split at h
 case h_2=>cases h
 rename_i cs hb hcs
 split at h
 case isFalse=>cases h
 rename_i ha
 refine ⟨_,h,Sim.tr ?_⟩
 obtain ⟨ha,hi,hpb⟩:=ha
 simp only [qcf,hz,qpp hb,ha,hi,q3l hpb,and_self,if_true,qcr,eD,e1,eC,Option.map_some,eB,q6w hcs,Option.map_none]
def jv2 (dst:Option Nat) (t:TypeId) (x:TD) (σ:TSt) (k:TRes->Option α):Option α:=match dst,x with
 | some i,.one x=>match lk σ.boxes i with
  | none=>if (q8q x).all okT=true/\i<1000000/\q89 t=true then k { val:=.one (.c (.box i 0)),box:=some (i,(t,q8q x)) } else none
  | some _=>none
 | _,_=>none
theorem jva {dst:Option Nat} {t:TypeId} {x:TD} {k:TRes->Option α} {r:α} (h:jv2 dst t x σ k=some r) :
  ∃ y,k y=some r/\Sim (qxo dst t (eD x) (eS σ).box) y:=by
 unfold jv2 at h
 split at h
 case h_2=>cases h
 rename_i i x1
 split at h
 case h_2=>cases h
 rename_i hb
 split at h
 case isFalse=>cases h
 rename_i ha
 refine ⟨_,h,Sim.tr ?_⟩
 obtain ⟨ha,hi,hpb⟩:=ha
 have ha':(q0r (e1 x1)).all okC=true:=by rw [q2p];exact j21 ha
 show qxo (some i) t (.one (e1 x1)) _=_
 have e5:=q2p x1
 generalize e1 x1=y1 at ha' e5
 rw [e5] at ha'
 simp only [qxo,e5,qpp hb,ha',hi,q3l hpb,and_self,if_true,qcr,Option.map_some,eB,Option.map_none]
 rfl
def qdi (P:Program) (t:TypeId) (p:TD) (f:Nat) (k:TRes->Option α):Option α:=match quu P t f with
 | some (off,_)=>match p with
  | .one (.c (.box β o))=>k { val:=.one (.c (.box β (o+off))) }
  | .one (.c (.rp e o x))=>if o+off<=width e then k { val:=.one (.c (.rp e (o+off) x)) } else none
  | .one (.c (.wp tt g j o))=>k { val:=.one (.c (.wp tt g j (o+off))) }
  | _=>none
 | none=>none
theorem qta {t:TypeId} {p:TD} {f:Nat} {k:TRes->Option α} {r:α} (h:qdi P t p f k=some r) :
  ∃ y,k y=some r/\Sim (q2m P t (eD p) f) y:=by
 unfold qdi at h
 split at h
 case h_2=>cases h
 rename_i off ft hf
 split at h
 ·exact ⟨_,h,Sim.tr (by simp only [q2m,hf,eD,e1,eC];rfl)⟩
 ·rename_i e o x
  split at h
  case isFalse=>cases h
  rename_i hle
  refine ⟨_,h,Sim.tr ?_⟩
  have:off<=((q05 e x).drop o).length:=by rw [List.length_drop,q2d];omega
  simp only [q2m,hf,eD,e1,eC,this,if_true,List.drop_drop,qcr,Option.map_none]
 ·exact ⟨_,h,Sim.tr (by simp only [q2m,hf,eD,e1,eC];rfl)⟩
 ·cases h
def j46 (P:Program) (t:TypeId) (x:TD) (f:Nat) (k:TRes->Option α):Option α:=match quu P t f,x with
 | some (off,ft),.one (.agg cs)=>match j10 P ft,tsz P ft with
  | some true,some n=>if off+n<=cs.length then k { val:=.one (.agg ((cs.drop off).take n)) } else none
  | some false,_=>match nth cs off with
   | some c=>k { val:=.one (.c c) }
   | none=>none
  | _,_=>none
 | _,_=>none
theorem jfc {t:TypeId} {x:TD} {f:Nat} {k:TRes->Option α} {r:α} (h:j46 P t x f k=some r) :
  ∃ y,k y=some r/\Sim (qd1 P t (eD x) f) y:=by
 unfold j46 at h
 split at h
 case h_2=>cases h
 rename_i off ft cs hf
 split at h
 ·rename_i n h1 h2
  split at h
  case isFalse=>cases h
  rename_i hle
  refine ⟨_,h,Sim.tr ?_⟩
  simp only [qd1,hf,eD,e1,h1,h2,List.length_map,hle,if_true,qcr,List.map_take,List.map_drop,Option.map_none]
 ·rename_i h1
  split at h
  case h_2=>cases h
  rename_i c hc
  refine ⟨_,h,Sim.tr ?_⟩
  rw [q68] at hc
  simp only [qd1,hf,eD,e1,h1,List.getElem?_map,hc,Option.map_some,qcr,Option.map_none]
 ·cases h
def qms (x:TD) (i:Nat) (k:TRes->Option α):Option α:=match x with
 | .tup xs=>match nth xs i with
  | some y=>k { val:=.one y }
  | none=>none
 | _=>none
theorem j3n {x:TD} {i:Nat} {k:TRes->Option α} {r:α} (h:qms x i k=some r) : ∃ y,k y=some r/\Sim (q78 (eD x) i) y:=by
 unfold qms at h
 split at h
 case h_2=>cases h
 rename_i xs
 split at h
 case h_2=>cases h
 rename_i y hy
 rw [q68] at hy
 exact ⟨_,h,Sim.tr (by simp only [q78,eD,List.getElem?_map,hy,Option.map_some,qcr,Option.map_none])⟩
def k6k (n:Int) (len:Nat) (f:Nat->Option α):Option α:=if n=0 then (bif Nat.blt 0 len then f 0 else none) else if n=1 then (bif Nat.blt 1 len then f 1 else none) else none
theorem j75 {n:Int} {len:Nat} {f:Nat->Option α} {r:α} (h:k6k n len f=some r) : ∃ j:Nat,n=j/\j<len/\f j=some r:=by
 unfold k6k at h
 split at h
 ·rename_i h0
  cases hb:Nat.blt 0 len with
  | false=>rw [hb] at h;cases h
  | true=>rw [hb] at h;exact ⟨0,h0,by simpa using hb,h⟩
 ·split at h
  case isFalse=>cases h
  rename_i h1
  cases hb:Nat.blt 1 len with
  | false=>rw [hb] at h;cases h
  | true=>rw [hb] at h;exact ⟨1,h1,by simpa using hb,h⟩
def qhh (P:Program) (t:TypeId) (cs:List TC) (n:Int) (k:TRes->Option α):Option α:=match cs,P.underlying t with
 | .d e _::_,some (.array m el)=>match tsz P el,j10 P el,k65 e cs with
  | some 1,some false,some xs=>if m=xs.length then (q0n xs n).bind fun y=>k { val:=.one (.c (.d e y)) } else none
  | _,_,_=>none
 | _,_=>none
def k1v (P:Program) (t:TypeId):Bool:=match P.underlying t with
 | some (.array _ el)=>match j10 P el with
  | some true=>true
  | _=>false
 | _=>false
def qht (P:Program) (t:TypeId) (cs:List TC) (n:Int) (k:TRes->Option α):Option α:=match P.underlying t with
 | some (.array m el)=>match tsz P el,j10 P el with
  | some z,some true=>bif (Nat.ble m 2&&Nat.beq cs.length (m*z)) then k6k n m (fun j=>k { val:=.one (.agg ((cs.drop (j*z)).take z)) }) else none
  | _,_=>none
 | _=>none
theorem qyb {t:TypeId} {cs:List TC} {ik:IntKind} {n:Int} {k:TRes->Option α} {r:α} (h:qht P t cs n k=some r) :
  ∃ y,k y=some r/\Sim (q65 P t (eD (.one (.agg cs))) (eD (.one (.c (.d (.int ik) n))))) y:=by
 unfold qht at h
 split at h
 case h_2=>cases h
 rename_i m el hu
 split at h
 case h_2=>cases h
 rename_i z hs ha
 cases hc:(Nat.ble m 2&&Nat.beq cs.length (m*z)) with
 | false=>rw [hc] at h;cases h
 | true =>
  rw [hc] at h
  replace h:k6k n m (fun j=>k { val:=.one (.agg ((cs.drop (j*z)).take z)) })=some r:=h
  have hl:cs.length=m*z:=Nat.eq_of_beq_eq_true (Bool.and_eq_true_iff.1 hc).2
  obtain ⟨j,hj,hjl,h⟩:=j75 h
  have hj':Int.toNat n=j:=by rw [hj];rfl
  refine ⟨_,h,((0:Int)<=n/\n<(m:Int)/\(cs.map eC).length=m*z),⟨by rw [hj];exact Int.natCast_nonneg j,by rw [hj];exact Int.ofNat_lt.2 hjl,by rw [List.length_map];exact hl⟩,?_⟩
  have e0 : ∀z':Nat,z'=z->q65 P t (.one (.agg (cs.map eC))) (.one (.c (.d (.v (.int ik n)))))=some { cond:=(0:Int)<=n/\n<(m:Int)/\(cs.map eC).length=m*z,val:=.one (.agg (((cs.map eC).drop (j*z)).take z)) }:=fun z' _=>by
   simp only [q65,hu,hs,ha,hj']
  rw [show eD (.one (.agg cs)) = .one (.agg (cs.map eC)) from rfl,show eD (.one (.c (.d (.int ik) n))) = .one (.c (.d (.v (.int ik n)))) from rfl,e0 z rfl]
  simp only [qcr,eD,e1,Option.map_none,List.map_take,List.map_drop]
def j2u (P:Program) (t:TypeId) (x i:TD) (k:TRes->Option α):Option α:=match x,i with
 | .one (.c (.d .str s)),.one (.c (.d (.int _) n))=>match P.underlying t with
  | some .string=>(sAt s n).bind fun c=>k { val:=.one (.c (.d (.int .u8) c)) }
  | _=>none
 | .one (.agg cs),.one (.c (.d (.int _) n))=>bif k1v P t then qht P t cs n k else qhh P t cs n k
 | _,_=>none
theorem jzg {s:Yy} {n c:Int} (h:sAt s n=some c):(0<=n/\n<(ba s).size)/\c=j5y (ba s) n:=by
 unfold sAt q0n at h
 split at h
 case isFalse=>cases h
 rename_i hn
 obtain ⟨b,hb,rfl⟩:=Option.map_eq_some_iff.1 h
 rw [q68] at hb
 obtain ⟨h1,rfl⟩:=List.getElem?_eq_some_iff.1 hb
 have hsz:(ba s).size=s.length:=by simp [ba,ByteArray.size]
 refine ⟨⟨hn,by omega⟩,?_⟩
 unfold j5y ba
 simp [List.getD,h1]
theorem jo2 {β:Type} {l:List β} {n:Int} {y:β} (h:q0n l n=some y):(0<=n/\n<l.length)/\nth l n.toNat=some y:=by
 unfold q0n at h
 split at h
 case isFalse=>cases h
 rename_i hn
 have h':=h
 rw [q68] at h'
 obtain ⟨h1,_⟩:=List.getElem?_eq_some_iff.1 h'
 exact ⟨⟨hn,by omega⟩,h⟩
theorem qyh {t:TypeId} {cs:List TC} {ik:IntKind} {n:Int} {k:TRes->Option α} {r:α} (h:qhh P t cs n k=some r) : ∃ y,k y=some r/\Sim (q65 P t (.one (.agg (cs.map eC))) (.one (.c (.d (.v (.int ik n)))))) y:=by
 unfold qhh at h
 split at h
 case h_2=>cases h
 rename_i e x0 cs0 m el hu
 split at h
 case h_2=>cases h
 rename_i xs hs ha hxs
 split at h
 case isFalse=>cases h
 rename_i hm
 obtain ⟨y,hy,h⟩:=Option.bind_eq_some_iff.1 h
 obtain ⟨h1,h2⟩:=jo2 hy
 have hcs:=j2t hxs
 refine ⟨_,h,(0<=n/\n<((List.map eC (TC.d e x0::cs0)).length:Int)/\m=(List.map eC (TC.d e x0::cs0)).length),?_,?_⟩
 ·rw [hcs,List.length_map,List.length_map]
  exact ⟨h1.1,h1.2,hm⟩
 ·have e5:(List.map eC (TC.d e x0::cs0)).getD n.toNat C.bad=eC (TC.d e y):=by
   rw [q68] at h2
   rw [hcs]
   simp [List.getD,h2]
  simp only [q65,hu,hs,ha,e5,qcr,Option.map_none]
  rfl
theorem jex {t:TypeId} {x i:TD} {k:TRes->Option α} {r:α} (h:j2u P t x i k=some r) : ∃ y,k y=some r/\Sim (q65 P t (eD x) (eD i)) y:=by
 unfold j2u at h
 split at h
 case h_3=>cases h
 case h_2 =>
  rename_i cs ik n
  cases hb:k1v P t with
  | true=>rw [hb] at h;exact qyb (ik:=ik) h
  | false=>rw [hb] at h;exact qyh (ik:=ik) h
 rename_i s k' n
 split at h
 case h_2=>cases h
 rename_i hu
 obtain ⟨c,hc,h⟩:=Option.bind_eq_some_iff.1 h
 obtain ⟨h1,rfl⟩:=jzg hc
 refine ⟨_,h,_,h1,?_⟩
 simp only [eD,e1,eC,q05,List.headD_cons,q65,hu]
 rfl
def qdv (P:Program) (t:TypeId) (x i:TD) (σ:TSt) (k:TRes->Option α):Option α:=match P.underlying t with
 | some (.slice el)=>match tsz P el,x,i with
  | some m,.one (.c (.d (.lst e) l)),.one (.c (.d (.int _) n))=>if m=width e then (q0n l n).bind fun y=>k { val:=.one (.c (.rp e 0 y)) } else none
  | some m,.one (.c (.row tt g)),.one (.c (.d (.int _) n))=>match lk σ.rows tt with
   | some r=>if r.gen=g/\width r.e=m then (q0n r.xs n).bind fun _=>k { val:=.one (.c (.wp tt g (Int.toNat n) 0)) } else none
   | none=>none
  | _,_,_=>none
 | some (.array len el)=>match tsz P el,x,i with
  | some m,.one (.c (.box β o)),.one (.c (.d (.int _) n))=>bif Nat.beq len 12&&Nat.beq m 1 then (bif inA n len then k { val:=.one (.c (.bp β o len n)) } else none) else bif Nat.ble len 2 then k6k n len (fun j=>k { val:=.one (.c (.box β (o+j*m))) }) else if (@LE.le Int _ 0 n/\@LT.lt Int _ n ((len:Nat):Int)) then k { val:=.one (.c (.box β (o+Int.toNat n*m))) } else none
  | _,_,_=>none
 | _=>none
theorem j78 {β:Type} {l:List β} {n:Int} {y:β} (h:q0n l n=some y):(0<=n/\n<l.length)/\nth l n.toNat=some y:=by
 unfold q0n at h
 split at h
 case isFalse=>cases h
 rename_i hn
 have h':=h
 rw [q68] at h'
 obtain ⟨h1,_⟩:=List.getElem?_eq_some_iff.1 h'
 exact ⟨⟨hn,by omega⟩,h⟩
theorem qu0 {t:TypeId} {x i:TD} {k:TRes->Option α} {r:α} (h:qdv P t x i σ k=some r) : ∃ y,k y=some r/\Sim (q19 P t (eD x) (eD i) (eS σ).row) y:=by
 unfold qdv at h
 split at h
 case h_3=>cases h
 case h_2 =>
  rename_i len el hu
  split at h
  case h_2=>cases h
  rename_i m β o k' n hm
  cases h12:Nat.beq len 12&&Nat.beq m 1 with
  | true =>
   rw [h12] at h
   replace h:(bif inA n len then k { val:=.one (.c (.bp β o len n)) } else none)=some r:=h
   cases hb:inA n len with
   | false=>rw [hb] at h;cases h
   | true =>
   rw [hb] at h
   have hm1:m=1:=Nat.eq_of_beq_eq_true (Bool.and_eq_true_iff.1 h12).2
   subst hm1
   exact ⟨_,h,(@LE.le Int _ 0 n/\@LT.lt Int _ n ((len:Nat):Int)),k1t hb,by simp only [eD,e1,eC,q05,List.headD_cons,q19,hu,hm,qcr,Option.map_none]⟩
  | false =>
  rw [h12] at h
  cases hle:Nat.ble len 2 with
  | true =>
   rw [hle] at h
   replace h:k6k n len (fun j=>k { val:=.one (.c (.box β (o+j*m))) })=some r:=h
   obtain ⟨j,hj,hjl,h⟩:=j75 h
   have hj':Int.toNat n=j:=by rw [hj];rfl
   exact ⟨_,h,(@LE.le Int _ 0 n/\@LT.lt Int _ n ((len:Nat):Int)),⟨by rw [hj];exact Int.natCast_nonneg j,by rw [hj];exact Int.ofNat_lt.2 hjl⟩,by simp only [eD,e1,eC,q05,List.headD_cons,q19,hu,hm,qcr,Option.map_none,hj']⟩
  | false =>
  rw [hle] at h
  replace h:(if (@LE.le Int _ 0 n/\@LT.lt Int _ n ((len:Nat):Int)) then k { val:=.one (.c (.box β (o+Int.toNat n*m))) } else none)=some r:=h
  split at h
  case isFalse=>cases h
  rename_i hc
  exact ⟨_,h,(@LE.le Int _ 0 n/\@LT.lt Int _ n ((len:Nat):Int)),hc,by simp only [eD,e1,eC,q05,List.headD_cons,q19,hu,hm,qcr,Option.map_none]⟩
 rename_i el hu
 split at h
 ·rename_i m e l k' n hm
  split at h
  case isFalse=>cases h
  rename_i hme
  subst hme
  obtain ⟨y,hy,h⟩:=Option.bind_eq_some_iff.1 h
  obtain ⟨h1,h2⟩:=j78 hy
  obtain ⟨h3,h4⟩:=j58 h2
  refine ⟨_,h,(@LE.le Int _ 0 n/\@LT.lt Int _ n ((l.map (q05 e)).length:Nat)),by rw [List.length_map];exact h1,?_⟩
  have h3':((l:List (den e)).map (q05 e)).getD (Int.toNat n) []=q05 e y:=h3
  simp only [eD,e1,eC,q05,List.headD_cons,q19,hu,hm,if_true,h3',qcr,Option.map_none,List.drop_zero]
 ·rename_i m tt g k' n hm
  split at h
  case h_2=>cases h
  rename_i r' hr
  split at h
  case isFalse=>cases h
  rename_i hg
  obtain ⟨y,hy,h⟩:=Option.bind_eq_some_iff.1 h
  obtain ⟨h1,h2⟩:=j78 hy
  refine ⟨_,h,(@LE.le Int _ 0 n/\@LT.lt Int _ n ((eR r').xs.length:Nat)),by show _/\@LT.lt Int _ n ((r'.xs.map (q05 r'.e)).length:Nat);rw [List.length_map];exact h1,?_⟩
  have hg':(eR r').gen=g/\(eR r').sz=m:=hg
  simp only [eD,e1,eC,q05,List.headD_cons,q19,hu,hm,q3j hr,hg',and_self,if_true,qcr,Option.map_none]
 ·cases h
end Go.Proofs.YtapfankgdkdkgaaGreatDoor.AM
namespace Go.Proofs.YtapfankgdkdkgaaGreatDoor.AM
open Go.RowKit
variable {α:Type} {P:Program} {σ:TSt}
def k29 (d:Int):Option TD->Option Int
 | none=>some d
 | some (.one (.c (.d (.int _) n)))=>some n
 | some _=>none
theorem qm4 {d n:Int} {x:Option TD} (h:k29 d x=some n):bnd d (x.map eD)=some n:=by
 unfold k29 at h
 split at h
 ·simp only [Option.some.injEq] at h;subst h;rfl
 ·simp only [Option.some.injEq] at h;subst h;rfl
 ·cases h
def j5g (P:Program) (t:TypeId) (x:TD) (lo hi:Option TD) (k:TRes->Option α):Option α:=match P.underlying t,x with
 | some .string,.one (.c (.d .str s))=>match k29 0 lo,k29 (List.length s) hi with
  | some l,some h=>(q1d s l h).bind fun y=>k { val:=.one (.c (.d .str y)) }
  | _,_=>none
 | some (.slice el),.one (.c (.d (.lst e) xs))=>match k29 0 lo,k29 (List.length xs) hi with
  | some l,some h=>if tsz P el=some (width e) then (q1d xs l h).bind fun y=>k { val:=.one (.c (.d (.lst e) y)) } else none
  | _,_=>none
 | _,_=>none
theorem qux {β:Type} {l:List β} {a b:Int} {y:List β} (h:q1d l a b=some y):(0<=a/\a<=b/\b<=l.length)/\y=(l.drop a.toNat).take (b.toNat - a.toNat):=by
 unfold q1d at h
 split at h
 case isFalse=>cases h
 rename_i hc
 simp only [Option.some.injEq] at h
 exact ⟨hc,h.symm⟩
theorem q3m (s:Yy):(ba s).size=s.length:=by simp [ba,ByteArray.size]
theorem qlz (s:Yy) (a b:Nat):(ba s).extract a b=ba ((s.drop a).take (b - a)):=by
 unfold ba
 apply ByteArray.ext
 rw [ByteArray.data_extract]
 apply Array.toList_inj.1
 rw [Array.toList_extract,List.extract_eq_take_drop]
theorem jeb {t:TypeId} {x:TD} {lo hi:Option TD} {k:TRes->Option α} {r:α} (h:j5g P t x lo hi k=some r) : ∃ y,k y=some r/\Sim (q7c P t (eD x) (lo.map eD) (hi.map eD)) y:=by
 unfold j5g at h
 split at h
 ·rename_i s hu
  split at h
  case h_2=>cases h
  rename_i l hh hl hhh
  obtain ⟨y,hy,h⟩:=Option.bind_eq_some_iff.1 h
  obtain ⟨h1,rfl⟩:=qux hy
  refine ⟨_,h,_,h1,?_⟩
  simp only [q7c,eD,e1,eC,q05,List.headD_cons,hu,qm4 hl,qlz,q3m,qm4 hhh]
  rfl
 ·rename_i el e xs hu
  split at h
  case h_2=>cases h
  rename_i l hh hl hhh
  split at h
  case isFalse=>cases h
  rename_i hsz
  obtain ⟨y,hy,h⟩:=Option.bind_eq_some_iff.1 h
  obtain ⟨h1,rfl⟩:=qux hy
  refine ⟨_,h,_,h1,?_⟩
  simp only [q7c,eD,e1,eC,q05,List.headD_cons,hu,qm4 hl,hsz,if_true,List.length_map,<-List.map_drop,<-List.map_take,qm4 hhh]
  rfl
 ·cases h
def qhs (P:Program) (t:TypeId) (x:TD) (lo hi:Option TD) (σ:TSt) (k:TRes->Option α):Option α:=match P.underlying t,x with
 | some (.slice el),.one (.c (.row tt g))=>match lk σ.rows tt with
  | some r=>match k29 0 lo,k29 (List.length r.xs) hi with
   | some l,some h=>if r.gen=g/\tsz P el=some (width r.e) then (q1d r.xs l h).bind fun y=>k { val:=.one (.c (.d (.lst r.e) y)),row:=some (tt,{ r with wr:=false }) } else none
   | _,_=>none
  | none=>none
 | _,_=>none
theorem jhb {t:TypeId} {tt g:Nat} {lo hi:Option D} : q7c P t (.one (.c (.row tt g))) lo hi=none:=by
 unfold q7c
 split
 ·rename_i h;cases h
 ·rename_i h;cases h
 ·rfl
theorem qy5 {t:TypeId} {x:TD} {lo hi:Option TD} {k:TRes->Option α} {r:α} (h:qhs P t x lo hi σ k=some r) : ∃ y,k y=some r/\q7c P t (eD x) (lo.map eD) (hi.map eD)=none/\Sim (q3f P t (eD x) (lo.map eD) (hi.map eD) (eS σ).row) y:=by
 unfold qhs at h
 split at h
 case h_2=>cases h
 rename_i el tt g hu
 split at h
 case h_2=>cases h
 rename_i r' hr
 split at h
 case h_2=>cases h
 rename_i l hh hl hhh
 split at h
 case isFalse=>cases h
 rename_i hg
 obtain ⟨y,hy,h⟩:=Option.bind_eq_some_iff.1 h
 obtain ⟨h1,rfl⟩:=qux hy
 refine ⟨_,h,jhb,_,h1,?_⟩
 have hlen:(eR r').xs.length=r'.xs.length:=by simp [eR]
 obtain ⟨rfl,hsz⟩:=hg
 have hg':(eR r').gen=r'.gen/\tsz P el=some (eR r').sz:=⟨rfl,hsz⟩
 simp only [q3f,eD,e1,eC,hu,q3j hr,qm4 hl,hlen,qm4 hhh]
 rw [if_pos hg']
 have e2:((eR r').xs.drop l.toNat).take (hh.toNat - l.toNat)=((r'.xs.drop l.toNat).take (hh.toNat - l.toNat)).map (q05 r'.e):=by simp [eR]
 rw [e2]
 rfl
def jv9 (x:TD) (k:TRes->Option α):Option α:=match x with
 | .one (.c (.box β o))=>k { val:=.one (.c (.box β o)) }
 | .one (.c (.rp e o y))=>k { val:=.one (.c (.rp e o y)) }
 | .one (.c (.wp t g j o))=>k { val:=.one (.c (.wp t g j o)) }
 | .one (.c (.bp β o l n))=>k { val:=.one (.c (.bp β o l n)) }
 | _=>none
theorem jxk {x:TD} {k:TRes->Option α} {r:α} (h:jv9 x k=some r) : ∃ y,k y=some r/\Sim (jt3 (eD x)) y:=by
 unfold jv9 at h
 split at h
 ·exact ⟨_,h,Sim.tr rfl⟩
 ·exact ⟨_,h,Sim.tr rfl⟩
 ·exact ⟨_,h,Sim.tr rfl⟩
 ·exact ⟨_,h,Sim.tr rfl⟩
 ·cases h
def jqu (P:Program) (t:TypeId) (x:TD) (σ:TSt) (k:TRes->Option α):Option α:=match P.underlying t,x with
 | some .string,.one (.c (.d .str s))=>k { val:=.one (.c (.d (.int .i64) (List.length s:Nat))) }
 | some (.slice _),.one (.c (.d (.lst _) xs))=>k { val:=.one (.c (.d (.int .i64) (List.length xs:Nat))) }
 | some (.slice _),.one (.c .nil)=>k { val:=.one (.c (.d (.int .i64) (0:Int))) }
 | some (.slice _),.one (.c (.row tt g))=>match lk σ.rows tt with
  | some r=>if r.gen=g then k { val:=.one (.c (.d (.int .i64) (List.length r.xs:Nat))) } else none
  | none=>none
 | _,_=>none
theorem jsu {t:TypeId} {x:TD} {k:TRes->Option α} {r:α} (h:jqu P t x σ k=some r) : ∃ y,k y=some r/\Sim (qmy P t (eD x) (eS σ).row) y:=by
 unfold jqu at h
 split at h
 ·rename_i s hu
  refine ⟨_,h,Sim.tr ?_⟩
  simp only [qmy,eD,e1,eC,q05,List.headD_cons,hu,q3m]
  rfl
 ·rename_i el e xs hu
  refine ⟨_,h,Sim.tr ?_⟩
  simp only [qmy,eD,e1,eC,q05,List.headD_cons,hu,List.length_map]
  rfl
 ·rename_i el hu
  refine ⟨_,h,Sim.tr ?_⟩
  simp only [qmy,eD,e1,eC,hu]
  rfl
 ·rename_i el tt g hu
  split at h
  case h_2=>cases h
  rename_i r' hr
  split at h
  case isFalse=>cases h
  rename_i hg
  refine ⟨_,h,Sim.tr ?_⟩
  have hg':(eR r').gen=g:=hg
  simp only [qmy,eD,e1,eC,hu,q3j hr,hg',if_true]
  have:(eR r').xs.length=r'.xs.length:=by simp [eR]
  rw [this]
  rfl
 ·cases h
def ja1 (place:Nat->Option (Nat×Nat)) (cs:List TC):List (Nat×List TC)->Option (List TC)
 | []=>some cs
 | (i,xs)::rest=>match place i with
  | some (off,size)=>if xs.length=size/\off+xs.length<=cs.length then ja1 place (setAt cs off xs) rest else none
  | none=>none
def eQ (q:Nat×List TC):Nat×List C:=(q.1,q.2.map eC)
theorem qk8 {place:Nat->Option (Nat×Nat)} : ∀{qs:List (Nat×List TC)} {cs cs':List TC},ja1 place cs qs=some cs'->qm3 place (cs.map eC) (qs.map eQ)=some (cs'.map eC)
 | [],cs,cs',h=>by simp only [ja1,Option.some.injEq] at h;subst h;rfl
 | (i,xs)::rest,cs,cs',h=>by
  unfold ja1 at h
  split at h
  case h_2=>cases h
  rename_i off size hp
  split at h
  case isFalse=>cases h
  rename_i hc
  have h3:=qk8 h
  rw [qd4] at h3
  show (match place i with|some (off,size)=>if (xs.map eC).length=size/\off+(xs.map eC).length<=(cs.map eC).length then qm3 place (setAt (cs.map eC) off (xs.map eC)) (rest.map eQ) else none|none=>none)=_
  rw [hp]
  simp only [List.length_map]
  rw [if_pos hc,h3]
def jwn (P:Program) (t:TypeId) (parts:List (Nat×List TC)):Option (List TC):=match qtg P t,layT P t,arrT P t with
 | some z,some pl,_=>match qrr z with
  | some cs=>if z.all Value.oneCell'=true then ja1 (fun i=>nth pl i) cs parts else none
  | none=>none
 | some z,none,some n=>match qrr z with
  | some cs=>if z.all Value.oneCell'=true then ja1 (fun i=>some (i*n,n)) cs parts else none
  | none=>none
 | _,_,_=>none
theorem juo {t:TypeId} {parts:List (Nat×List TC)} {cs:List TC} (h:jwn P t parts=some cs):qwz P t (parts.map eQ)=some (cs.map eC):=by
 unfold jwn at h
 split at h
 ·rename_i z pl hz hl
  split at h
  case h_2=>cases h
  rename_i cs0 hcs
  split at h
  case isFalse=>cases h
  rename_i ha
  have:=qk8 h
  rw [q6w hcs] at this
  simp only [qwz,hz,hl,ha,if_true]
  rw [<-this]
  congr 1
  funext i
  rw [q68];simp
 ·rename_i z n hz hl hn
  split at h
  case h_2=>cases h
  rename_i cs0 hcs
  split at h
  case isFalse=>cases h
  rename_i ha
  have:=qk8 h
  rw [q6w hcs] at this
  simp only [qwz,hz,hl,hn,ha,if_true]
  exact this
 ·cases h
def qxh (σ:TSt):List (Nat×Operand)->Option (List (Nat×List TC))
 | []=>some []
 | (i,x)::rest=>match q0y σ x,qxh σ rest with
  | some (.one d),some r=>if (q8q d).all okT=true then some ((i,q8q d)::r) else none
  | _,_=>none
theorem qkp : ∀{ps:List (Nat×Operand)} {qs:List (Nat×List TC)},qxh σ ps=some qs->qcn (opnd (eS σ)) ps=some (qs.map eQ)
 | [],qs,h=>by simp only [qxh,Option.some.injEq] at h;subst h;rfl
 | (i,x)::ps,qs,h=>by
  unfold qxh at h
  split at h
  case h_2=>cases h
  rename_i d r hd hr
  split at h
  case isFalse=>cases h
  rename_i ha
  simp only [Option.some.injEq] at h
  subst h
  have h1:=q0b hd
  have h2:=qkp hr
  have ha':(q0r (e1 d)).all okC=true:=by rw [q2p];exact j21 ha
  unfold qcn
  rw [h1,h2]
  show (if (q0r (e1 d)).all okC=true then _ else _)=_
  rw [if_pos ha',q2p]
  rfl
def j26 (P:Program) (t:TypeId) (ps:Array (Nat×Operand)) (σ:TSt) (k:TRes->Option α):Option α:=match qxh σ ps.toList with
 | some qs=>match jwn P t qs with
  | some cs=>k { val:=.one (.agg cs) }
  | none=>none
 | none=>none
theorem jco {t:TypeId} {ps:Array (Nat×Operand)} {k:TRes->Option α} {r:α} (h:j26 P t ps σ k=some r) : ∃ y,k y=some r/\Sim (qh6 P t ps (opnd (eS σ))) y:=by
 unfold j26 at h
 split at h
 case h_2=>cases h
 rename_i qs hqs
 split at h
 case h_2=>cases h
 rename_i cs hcs
 exact ⟨_,h,Sim.tr (by simp only [qh6,qkp hqs,juo hcs,qcr,eD,e1,Option.map_none])⟩
def k8k (f:TypeId->Option (List Ty)):List Field->Option (List Ty)
 | []=>some []
 | fd::fs=>match f fd.type,k8k f fs with
  | some a,some b=>some (a++b)
  | _,_=>none
def k4d:List Ty->Option Ty
 | []=>none
 | [t]=>some t
 | t::t'::ts=>(k4d (t'::ts)).map (.prod t)
def tysP (P:Program):Nat->TypeId->Option (List Ty)
 | 0,_=>none
 | n+1,t=>match P.underlying t with
  | some (.int k)=>some [.int k]
  | some .bool=>some [.bool]
  | some .string=>some [.str]
  | some (.slice e)=>((tysP P n e).bind k4d).map fun x=>[.lst x]
  | some (.struct fs)=>k8k (tysP P n) fs.toList
  | some (.interface _)=>some [.any]
  | some (.func _ _ _)=>some [.any]
  | some (.pointer _)=>some [.any]
  | _=>none
def tyE (P:Program) (t:TypeId):Option Ty:=(tysP P 9 t).bind k4d
def jgl (e:Ty):Nat->List TC->Option (List (den e))
 | 0,[]=>some []
 | 0,_::_=>none
 | n+1,cs=>match qym e (cs.take (width e)),jgl e n (cs.drop (width e)) with
  | some x,some xs=>some (x::xs)
  | _,_=>none
theorem j49 {e:Ty} : ∀{n:Nat} {cs:List TC} {xs:List (den e)},jgl e n cs=some xs->cs.map eC=((xs.map (q05 e)).flatten).map C.d/\chunk (width e) n (xs.map (q05 e)).flatten=xs.map (q05 e)
 | 0,[],xs,h=>by simp only [jgl,Option.some.injEq] at h;subst h;exact ⟨rfl,rfl⟩
 | 0,_::_,xs,h=>by simp [jgl] at h
 | n+1,cs,xs,h=>by
  unfold jgl at h
  split at h
  case h_2=>cases h
  rename_i y ys hy hys
  simp only [Option.some.injEq] at h
  subst h
  obtain ⟨h1,h2⟩:=j49 hys
  have h3:=q90 hy
  refine ⟨?_,?_⟩
  ·rw [List.map_cons,List.flatten_cons,List.map_append,<-h3,<-h1,<-List.map_append,List.take_append_drop]
  ·rw [List.map_cons,List.flatten_cons,chunk,List.take_append_of_le_length (by rw [q2d];exact Nat.le_refl _),List.take_of_length_le (by rw [q2d];exact Nat.le_refl _),List.drop_append_of_le_length (by rw [q2d];exact Nat.le_refl _),List.drop_eq_nil_of_le (by rw [q2d];exact Nat.le_refl _),List.nil_append,h2]
theorem qwj {β γ:Type} (f:β->γ) (z:List β) : ∀n,(rep z n).map f=rep (z.map f) n
 | 0=>rfl
 | n+1=>by rw [rep,rep,List.map_append,qwj f z n]
def qc3 (P:Program) (dst:Option Nat) (t:TypeId) (n:Nat) (ps:Array (Nat×Operand)) (σ:TSt) (k:TRes->Option α):Option α:=match P.underlying t,dst with
 | some (.slice el),some i=>match lk σ.rows i,qtg P el,tyE P el,qxh σ ps.toList with
  | none,some z,some e,some qs=>match qrr z with
   | some zt=>if tsz P el=some (width e)/\n*width e<=2 ^ 24/\n<=2 ^ 24/\z.length=width e/\0<width e/\z.all Value.oneCell'=true/\el<1099511627776 then match ja1 (fun i=>some (i*width e,width e)) (rep zt n) qs with
     | some cs=>match jgl e n cs with
      | some xs=>k { val:=.one (.c (.row i 0)),row:=some (i,⟨0,el,true,e,xs⟩) }
      | none=>none
     | none=>none
    else none
   | none=>none
  | _,_,_,_=>none
 | _,_=>none
theorem qpj {dst:Option Nat} {t:TypeId} {n:Nat} {ps:Array (Nat×Operand)} {k:TRes->Option α} {r:α} (h:qc3 P dst t n ps σ k=some r) : ∃ y,k y=some r/\Sim (q1a P dst t n ps (opnd (eS σ)) (eS σ).row) y:=by
 unfold qc3 at h
 split at h
 case h_2=>cases h
 rename_i el i hu
 split at h
 case h_2=>cases h
 rename_i z e qs hr hz he hqs
 split at h
 case h_2=>cases h
 rename_i zt hzt
 split at h
 case isFalse=>cases h
 rename_i hc
 obtain ⟨c1,c2,c3,c4,c5,c6,c7⟩:=hc
 split at h
 case h_2=>cases h
 rename_i cs hcs
 split at h
 case h_2=>cases h
 rename_i xs hxs
 obtain ⟨k1,k2⟩:=j49 hxs
 have h2:=qk8 hcs
 rw [qwj,q6w hzt,<-qwj] at h2
 refine ⟨_,h,Sim.tr ?_⟩
 simp only [q1a,hu,qbc hr,c1,hz,qkp hqs]
 rw [if_pos ⟨c2,c3,c4,c5,c6,c7⟩,h2]
 simp only [k1,qa1,k2,qcr,eD,e1,eC,Option.map_none,Option.map_some,eR]
def srcT (x:TD) (σ:TSt):Option ((e:Ty)×List (den e)):=match x with
 | .one (.c (.d (.lst e) xs))=>some ⟨e,xs⟩
 | .one (.c (.row t g))=>match lk σ.rows t with
  | some r=>if r.gen=g then some ⟨r.e,r.xs⟩ else none
  | none=>none
 | _=>none
theorem jv4 {x:TD} {s:(e:Ty)×List (den e)} (h:srcT x σ=some s):qpk (width s.1) (eD x) (eS σ).row=some (s.2.map (q05 s.1)):=by
 unfold srcT at h
 split at h
 ·simp only [Option.some.injEq] at h;subst h
  simp only [qpk,eD,e1,eC,q05,List.headD_cons,if_true]
 ·split at h
  case h_2=>cases h
  rename_i r hr
  split at h
  case isFalse=>cases h
  rename_i hg
  simp only [Option.some.injEq] at h;subst h
  have hg':(eR r).gen=_/\(eR r).sz=width r.e:=⟨hg,rfl⟩
  simp only [qpk,eD,e1,eC,q3j hr]
  rw [if_pos hg'];rfl
 ·cases h
def qvh (P:Program) (dst:Option Nat) (t:TypeId) (s x:TD) (σ:TSt) (k:TRes->Option α):Option α:=match P.underlying t with
 | some (.slice el)=>match juc P el,srcT x σ with
  | some (m,bytes),some src=>if m=width src.1 then match s with
    | .one (.c (.row tt g))=>match lk σ.rows tt with
     | some r=>if h:src.1=r.e then if r.gen=g/\r.E=el then
       (q2g bytes r.xs (h ▸ src.2)).bind fun ys=>k { val:=.one (.c (.row tt (g+1))),row:=some (tt,{ r with gen:=g+1,xs:=ys }) } else none else none
     | none=>none
    | .one (.c .nil)=>match dst with
     | some i=>match lk σ.rows i with
      | none=>(q2g bytes [] src.2).bind fun ys=>k { val:=.one (.c (.row i 0)),row:=some (i,⟨0,el,true,src.1,ys⟩) }
      | some _=>none
     | none=>none
    | _=>none
   else none
  | _,_=>none
 | _=>none
theorem j9k {β:Type} {b:Nat} {xs ys zs:List β} (h:q2g b xs ys=some zs):(xs.length+ys.length)*b<=140737488355328/\zs=xs++ys:=by
 unfold q2g at h
 split at h
 case isFalse=>cases h
 rename_i hc
 exact ⟨hc,(Option.some.inj h).symm⟩
theorem j63 {dst:Option Nat} {t:TypeId} {s x:TD} {k:TRes->Option α} {r:α} (h:qvh P dst t s x σ k=some r) : ∃ y,k y=some r/\Sim (q3d P dst t (eD s) (eD x) (eS σ).row) y:=by
 unfold qvh at h
 split at h
 case h_2=>cases h
 rename_i el hu
 split at h
 case h_2=>cases h
 rename_i m bytes src hel hsrc
 split at h
 case isFalse=>cases h
 rename_i hm
 subst hm
 have h1:=jv4 hsrc
 split at h
 ·rename_i tt g
  split at h
  case h_2=>cases h
  rename_i r' hr
  split at h
  case isFalse=>cases h
  rename_i he
  split at h
  case isFalse=>cases h
  rename_i hg
  obtain ⟨e',ys⟩:=src
  obtain ⟨gen,E,wr,e,xs⟩:=r'
  have he':e'=e:=he
  subst he'
  obtain ⟨hg1,hg2⟩:=hg
  have hg1':gen=g:=hg1
  have hg2':E=el:=hg2
  subst hg1' hg2'
  obtain ⟨zs,hz,h⟩:=Option.bind_eq_some_iff.1 h
  obtain ⟨c1,rfl⟩:=j9k hz
  refine ⟨_,h,_,c1,?_⟩
  simp only at h1
  show q3d P dst t (.one (.c (.row tt gen))) (eD x) _=_
  generalize eD x=y at h1
  simp only [q3d,hu,hel,h1,eD,e1,eC,q3j hr,eR,and_self,if_true,qcr,Option.map_none,Option.map_some,List.map_append,List.length_map]
 ·split at h
  case h_2=>cases h
  rename_i i
  split at h
  case h_2=>cases h
  rename_i hr
  obtain ⟨e',ys⟩:=src
  obtain ⟨zs,hz,h⟩:=Option.bind_eq_some_iff.1 h
  obtain ⟨c1,hzz⟩:=j9k hz
  have hzz':zs=ys:=hzz
  clear hzz hz
  rw [hzz'] at h
  clear hzz' zs
  refine ⟨_,h,_,c1,?_⟩
  simp only at h1
  show q3d P (some i) t (.one (.c (.d (.v (.slice none 0 0))))) (eD x) _=_
  generalize eD x=y at h1
  simp only [q3d,hu,hel,h1,eD,e1,eC,qbc hr,eR,qcr,Option.map_none,Option.map_some,List.map_append,List.length_map,List.nil_append,List.length_nil,Nat.zero_add]
 ·cases h
end Go.Proofs.YtapfankgdkdkgaaGreatDoor.AM
