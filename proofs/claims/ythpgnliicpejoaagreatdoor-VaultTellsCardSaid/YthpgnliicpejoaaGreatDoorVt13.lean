
import Derived.Test.YthpgnliicpejoaaGreatDoorVt12
namespace Go.Proofs.YthpgnliicpejoaaGreatDoor.AM
open Go.RowKit
set_option linter.unusedVariables false
set_option linter.unusedSimpArgs false
variable {α:Type} {P:Program} {σ:TSt}
def nth {β:Type} : List β→Nat→Option β
 | [],_=>none
 | x::_,0=>some x
 | _::l,n+1=>nth l n
theorem q76 {β:Type} : ∀ (l:List β) (n:Nat),nth l n=l[n]?
 | [],n=>by simp [nth]
 | _::_,0=>rfl
 | _::l,n+1=>by rw [nth,q76 l n];simp
def q1f {β:Type} (l:List β) (i:Int):Option β:=if 0≤i then nth l i.toNat else none
def sAt (s:List UInt8) (i:Int):Option Int:=(q1f s i).map fun c=>(c.toNat:Int)
def q3g {β:Type} (l:List β) (a b:Int):Option (List β):=if 0≤a∧a≤b∧b≤l.length then some ((l.drop a.toNat).take (b.toNat - a.toNat)) else none
def q4s (s t:List UInt8):Option (List UInt8):=if s.length+t.length≤9223372036854775807 then some (s++t) else none
def q2g {β:Type} (bytes:Nat) (xs ys:List β):Option (List β):=if (xs.length+ys.length)*bytes≤140737488355328 then some (xs++ys) else none
def q0n {β:Type} (x:β) (f:β→Option α):Option α:=f x
def qo9 (k:IntKind) (x y:Int):Option Int:=if y≠0 then some (k.wrap (x.tdiv y)) else none
def j71 (x y:Int):Option Int:=if y≠0 then some (x.tmod y) else none
def jr7 (k:IntKind) (x y:Int):Option Int:=if 0≤y then some (k.wrap (x*2 ^ (min y.toNat k.bits))) else none
def jmf (k:IntKind) (x y:Int):Option Int:=if 0≤y then some (x.fdiv (2 ^ (min y.toNat k.bits))) else none
def andI (k:IntKind) (x y:Int):Int:=k.wrap (BitVec.ofInt k.bits x &&& BitVec.ofInt k.bits y).toNat
def orI (k:IntKind) (x y:Int):Int:=k.wrap (BitVec.ofInt k.bits x ||| BitVec.ofInt k.bits y).toNat
def xorI (k:IntKind) (x y:Int):Int:=k.wrap (BitVec.ofInt k.bits x ^^^ BitVec.ofInt k.bits y).toNat
def ltS (s t:List UInt8):Bool:=Op.bytesLess s t
def Sim (x:Option Res) (t:TRes):Prop:=∃ c:Prop,c∧x=some (qbk c t)
theorem Sim.tr {x:Option Res} {t:TRes} (h:x=some (qbk True t)):Sim x t:=⟨True,trivial,h⟩
theorem q93 {i:Nat} {p:Nat×List TC} (h:lk σ.boxes i=some p):(eS σ).box i=some (p.1,p.2.map eC):=by show (lk σ.boxes i).map eB=_;rw [h];rfl
theorem q33 {i:Nat} {r:TRow} (h:lk σ.rows i=some r):(eS σ).row i=some (eR r):=by show (lk σ.rows i).map eR=_;rw [h];rfl
theorem qtm {i:Nat} (h:lk σ.boxes i=none):(eS σ).box i=none:=by show (lk σ.boxes i).map eB=_;rw [h];rfl
theorem qac {i:Nat} (h:lk σ.rows i=none):(eS σ).row i=none:=by show (lk σ.rows i).map eR=_;rw [h];rfl
theorem qfc {β γ:Type} (f:β→γ) (l:List β) (off:Nat) (xs:List β):(setAt l off xs).map f=setAt (l.map f) off (xs.map f):=by
 unfold setAt;simp
def loadT (P:Program) (t:TypeId) (cs:List TC):Option TD:=match qhj P t,tsz P t with
 | some true,some n=>if n≤cs.length then some (.one (.agg (cs.take n))) else none
 | some false,_=>match cs with|c::_=>some (.one (.c c)) | []=>none
 | _,_=>none
theorem qjb {t:TypeId} {cs:List TC} {d:TD} (h:loadT P t cs=some d):qrh P t (cs.map eC)=some (eD d):=by
 unfold loadT at h
 unfold qrh
 split at h
 ·rename_i n h1 h2
  rw [h1,h2]
  split at h
  ·rename_i hle
   simp only [Option.some.injEq] at h
   subst h
   simp only [List.length_map,hle,if_true,eD,e1,List.map_take]
  ·cases h
 ·rename_i h1
  rw [h1]
  split at h
  ·simp only [Option.some.injEq] at h
   subst h;rfl
  ·cases h
 ·cases h
def j17 (P:Program) (t:TypeId) (p:TD) (σ:TSt) (k:TRes→Option α):Option α:=match p with
 | .one (.c (.box β off))=>match lk σ.boxes β with
  | some q=>match loadT P t (q.2.drop off) with|some d=>k { val:=d } | none=>none
  | none=>none
 | .one (.c (.rp e off x))=>match loadT P t ((qr2 e x).drop off) with|some d=>k { val:=d } | none=>none
 | .one (.c (.wp tt g j off))=>match lk σ.rows tt with
  | some r=>if r.gen=g then (nth r.xs j).bind fun x=>match loadT P t ((qr2 r.e x).drop off) with|some d=>k { val:=d } | none=>none else none
  | none=>none
 | _=>none
theorem qur {e:Ty} {xs:List (den e)} {j:Nat} {x:den e} (h:nth xs j=some x):(xs.map (q0l e)).getD j []=q0l e x∧j<(xs.map (q0l e)).length:=by
 rw [q76] at h
 obtain ⟨h1,rfl⟩:=List.getElem?_eq_some_iff.1 h
 have:j<(xs.map (q0l e)).length:=by rw [List.length_map];exact h1
 exact ⟨by simp [List.getD,h1],this⟩
theorem j9d {t:TypeId} {p:TD} {k:TRes→Option α} {r:α} (h:j17 P t p σ k=some r) :
  ∃ x,k x=some r∧Sim (q8k P t (eD p) (eS σ).box (eS σ).row) x:=by
 unfold j17 at h
 split at h
 ·rename_i β off
  split at h
  case h_2=>cases h
  rename_i q hq
  split at h
  case h_2=>cases h
  rename_i d hd
  refine ⟨_,h,Sim.tr ?_⟩
  have:=qjb hd
  rw [List.map_drop] at this
  simp only [q8k,eD,e1,eC,q93 hq,this,Option.map_some]
  rfl
 ·rename_i e off x
  split at h
  case h_2=>cases h
  rename_i d hd
  refine ⟨_,h,Sim.tr ?_⟩
  have:=qjb hd
  rw [List.map_drop,q9x] at this
  simp only [q8k,eD,e1,eC,List.map_drop,this,Option.map_some]
  rfl
 ·rename_i tt g j off
  split at h
  case h_2=>cases h
  rename_i r' hr
  split at h
  case isFalse=>cases h
  rename_i hg
  obtain ⟨x,hx,h⟩:=Option.bind_eq_some_iff.1 h
  split at h
  case h_2=>cases h
  rename_i d hd
  have:=qjb hd
  rw [List.map_drop,q9x] at this
  obtain ⟨h1,h2⟩:=qur hx
  refine ⟨_,h,_,h2,?_⟩
  simp only [q8k,eD,e1,eC,q33 hr]
  have hg':(eR r').gen=g:=hg
  rw [if_pos hg']
  have h3:(eR r').xs.getD j []=q0l r'.e x:=h1
  rw [h3,List.map_drop,this]
  rfl
 ·cases h
def qfd:TD1→List TC
 | .c x=>[x]
 | .agg cs=>cs
def okTy:Ty→Bool
 | .prod _ _=>false
 | _=>true
def okT:TC→Bool
 | .d ty _=>okTy ty
 | .undef=>false
 | .bad=>false
 | _=>true
theorem jtz : ∀ {x:TC},okT x=true→okC (eC x)=true
 | .d (.int _) _,_=>rfl
 | .d .bool _,_=>rfl
 | .d .str _,_=>rfl
 | .d (.lst _) _,_=>rfl
 | .d .any v,_=>by
  show okC (.d (.v (Subtype.val (v:IV))))=true
  exact (v:IV).2
 | .nil,_=>rfl
 | .box _ _,_=>rfl
 | .row _ _,_=>rfl
 | .rp _ _ _,_=>rfl
 | .wp _ _ _ _,_=>rfl
 | .fn _ [],_=>rfl
 | .fn _ (_::_),_=>rfl
theorem q4g (x:TD1):q1v (e1 x)=(qfd x).map eC:=by cases x<;>rfl
theorem j1j {cs:List TC} (h:cs.all okT=true):(cs.map eC).all okC=true:=by
 rw [List.all_map]
 refine List.all_eq_true.2 fun x hx=>jtz (List.all_eq_true.1 h x hx)
theorem qfp : ∀ (l:List Dat),(l.map C.d).mapM qol=some l
 | []=>rfl
 | x::l=>by rw [List.map_cons,List.mapM_cons,qfp l];rfl
def setT (e:Ty) (x:den e) (off:Nat) (ys:List TC):Option (den e):=j96 e (setAt (qr2 e x) off ys)
def qrx (P:Program) (t:TypeId) (p x:TD) (σ:TSt) (k:TRes→Option α):Option α:=match x with
 | .one x=>match tsz P t with
  | some n=>if (qfd x).length=n∧(qfd x).all okT=true then
    match p with
    | .one (.c (.box β off))=>match lk σ.boxes β with
     | some q=>if off+n≤q.2.length then k { val:=.one (.c .undef),box:=some (β,(q.1,setAt q.2 off (qfd x))) } else none
     | none=>none
    | .one (.c (.wp tt g j off))=>match lk σ.rows tt with
     | some r=>if r.gen=g∧r.wr=true∧off+n≤width r.e then (nth r.xs j).bind fun y=>match setT r.e y off (qfd x) with
       | some y'=>k { val:=.one (.c .undef),row:=some (tt,{ r with xs:=r.xs.set j y' }) }
       | none=>none
      else none
     | none=>none
    | _=>none
   else none
  | none=>none
 | _=>none
theorem jtl : ∀ {l m:List Dat},l.map C.d=m.map C.d→l=m
 | [],[],_=>rfl
 | x::l,y::m,h=>by
  simp only [List.map_cons,List.cons.injEq,C.d.injEq] at h
  rw [h.1,jtl h.2]
 | [],_::_,h=>by simp at h
 | _::_,[],h=>by simp at h
theorem jqp {e:Ty} {x x':den e} {off:Nat} {ys:List TC} (h:setT e x off ys=some x') (hl:off+ys.length≤width e) :
  ∃ ds,(ys.map eC).mapM qol=some ds∧q0l e x'=setAt (q0l e x) off ds:=by
 have h1:=qjf h
 rw [qfc,q9x] at h1
 have hx:=q2a e x
 have hx':=q2a e x'
 have h2:ys.map eC=(((q0l e x').drop off).take ys.length).map C.d:=by
  rw [List.map_take,List.map_drop,← h1]
  unfold setAt
  have e0:((List.map C.d (q0l e x)).take off).length=off:=by rw [List.length_take,List.length_map];omega
  rw [List.append_assoc,List.drop_append,e0,Nat.sub_self,List.drop_zero,List.drop_eq_nil_of_le (by omega),List.nil_append,List.take_append_of_le_length (by rw [List.length_map];omega),List.take_of_length_le (by rw [List.length_map];omega)]
 refine ⟨_,by rw [h2];exact qfp _,?_⟩
 apply jtl
 rw [← h1,qfc,h2]
theorem j20 {t:TypeId} {p x:TD} {k:TRes→Option α} {r:α} (h:qrx P t p x σ k=some r) :
  ∃ y,k y=some r∧Sim (q41 P t (eD p) (eD x) (eS σ).box (eS σ).row) y:=by
 unfold qrx at h
 split at h
 case h_2=>cases h
 rename_i x1
 split at h
 case h_2=>cases h
 rename_i n hn
 split at h
 case isFalse=>cases h
 rename_i hc
 obtain ⟨hc1,hc2⟩:=hc
 have hc1':(q1v (e1 x1)).length=n:=by rw [q4g,List.length_map];exact hc1
 have hc2':(q1v (e1 x1)).all okC=true:=by rw [q4g];exact j1j hc2
 split at h
 ·rename_i β off
  split at h
  case h_2=>cases h
  rename_i q hq
  split at h
  case isFalse=>cases h
  rename_i hle
  refine ⟨_,h,Sim.tr ?_⟩
  show q41 P t (.one (.c (.box β off))) (.one (e1 x1)) _ _=_
  have e5:=q4g x1
  generalize e1 x1=y1 at hc1' hc2' e5
  rw [e5] at hc2'
  simp only [q41,hn,e5,hc1,hc2',and_self,if_true,q93 hq,List.length_map,hle,qbk,Option.map_some,eB,qfc]
  rfl
 ·rename_i tt g j off
  split at h
  case h_2=>cases h
  rename_i r' hr
  split at h
  case isFalse=>cases h
  rename_i hg
  obtain ⟨hg1,hg2,hg3⟩:=hg
  obtain ⟨y,hy,h⟩:=Option.bind_eq_some_iff.1 h
  split at h
  case h_2=>cases h
  rename_i y' hy'
  obtain ⟨ds,k1,k2⟩:=jqp hy' (by omega)
  obtain ⟨h1,h2⟩:=qur hy
  refine ⟨_,h,_,h2,?_⟩
  rw [← q4g] at k1
  show q41 P t (.one (.c (.wp tt g j off))) (.one (e1 x1)) _ _=_
  generalize e1 x1=y1 at hc1' hc2' k1
  simp only [q41,hn,hc1',hc2',and_self,if_true,q33 hr,k1]
  have hg':(eR r').gen=g∧(eR r').wr=true∧off+n≤(eR r').sz:=⟨hg1,hg2,hg3⟩
  rw [if_pos hg']
  have h3:(eR r').xs.getD j []=q0l r'.e y:=h1
  rw [h3,← k2]
  simp only [qbk,Option.map_some,eR,List.map_set]
  rfl
 ·cases h
def qub (P:Program) (dst:Option Nat) (t:TypeId) (σ:TSt) (k:TRes→Option α):Option α:=match dst,qdv P t with
 | some i,some z=>match lk σ.boxes i,qsf z with
  | none,some cs=>if z.all Value.oneCell'=true∧i<1000000 then k { val:=.one (.c (.box i 0)),box:=some (i,(t,cs)) } else none
  | _,_=>none
 | _,_=>none
theorem j16 {dst:Option Nat} {t:TypeId} {k:TRes→Option α} {r:α} (h:qub P dst t σ k=some r) :
  ∃ y,k y=some r∧Sim (q7p P dst t (eS σ).box) y:=by
 unfold qub at h
 split at h
 case h_2=>cases h
 rename_i i z hz
 split at h
 case h_2=>cases h
 rename_i cs hb hcs
 split at h
 case isFalse=>cases h
 rename_i ha
 refine ⟨_,h,Sim.tr ?_⟩
 obtain ⟨ha,hi⟩:=ha
 simp only [q7p,hz,qtm hb,ha,hi,and_self,if_true,qbk,eD,e1,eC,Option.map_some,eB,qbb hcs,Option.map_none]
def jdk (dst:Option Nat) (t:TypeId) (x:TD) (σ:TSt) (k:TRes→Option α):Option α:=match dst,x with
 | some i,.one x=>match lk σ.boxes i with
  | none=>if (qfd x).all okT=true∧i<1000000 then k { val:=.one (.c (.box i 0)),box:=some (i,(t,qfd x)) } else none
  | some _=>none
 | _,_=>none
theorem jbj {dst:Option Nat} {t:TypeId} {x:TD} {k:TRes→Option α} {r:α} (h:jdk dst t x σ k=some r) :
  ∃ y,k y=some r∧Sim (qmw dst t (eD x) (eS σ).box) y:=by
 unfold jdk at h
 split at h
 case h_2=>cases h
 rename_i i x1
 split at h
 case h_2=>cases h
 rename_i hb
 split at h
 case isFalse=>cases h
 rename_i ha
 refine ⟨_,h,Sim.tr ?_⟩
 obtain ⟨ha,hi⟩:=ha
 have ha':(q1v (e1 x1)).all okC=true:=by rw [q4g];exact j1j ha
 show qmw (some i) t (.one (e1 x1)) _=_
 have e5:=q4g x1
 generalize e1 x1=y1 at ha' e5
 rw [e5] at ha'
 simp only [qmw,e5,qtm hb,ha',hi,and_self,if_true,qbk,Option.map_some,eB,Option.map_none]
 rfl
def q9f (P:Program) (t:TypeId) (p:TD) (f:Nat) (k:TRes→Option α):Option α:=match q68 P t f with
 | some (off,_)=>match p with
  | .one (.c (.box β o))=>k { val:=.one (.c (.box β (o+off))) }
  | .one (.c (.rp e o x))=>if o+off≤width e then k { val:=.one (.c (.rp e (o+off) x)) } else none
  | .one (.c (.wp tt g j o))=>k { val:=.one (.c (.wp tt g j (o+off))) }
  | _=>none
 | none=>none
theorem qmh {t:TypeId} {p:TD} {f:Nat} {k:TRes→Option α} {r:α} (h:q9f P t p f k=some r) :
  ∃ y,k y=some r∧Sim (q2e P t (eD p) f) y:=by
 unfold q9f at h
 split at h
 case h_2=>cases h
 rename_i off ft hf
 split at h
 ·exact ⟨_,h,Sim.tr (by simp only [q2e,hf,eD,e1,eC];rfl)⟩
 ·rename_i e o x
  split at h
  case isFalse=>cases h
  rename_i hle
  refine ⟨_,h,Sim.tr ?_⟩
  have:off≤((q0l e x).drop o).length:=by rw [List.length_drop,q2a];omega
  simp only [q2e,hf,eD,e1,eC,this,if_true,List.drop_drop,qbk,Option.map_none]
 ·exact ⟨_,h,Sim.tr (by simp only [q2e,hf,eD,e1,eC];rfl)⟩
 ·cases h
def qu9 (P:Program) (t:TypeId) (x:TD) (f:Nat) (k:TRes→Option α):Option α:=match q68 P t f,x with
 | some (off,ft),.one (.agg cs)=>match qhj P ft,tsz P ft with
  | some true,some n=>if off+n≤cs.length then k { val:=.one (.agg ((cs.drop off).take n)) } else none
  | some false,_=>match nth cs off with
   | some c=>k { val:=.one (.c c) }
   | none=>none
  | _,_=>none
 | _,_=>none
theorem j32 {t:TypeId} {x:TD} {f:Nat} {k:TRes→Option α} {r:α} (h:qu9 P t x f k=some r) :
  ∃ y,k y=some r∧Sim (q99 P t (eD x) f) y:=by
 unfold qu9 at h
 split at h
 case h_2=>cases h
 rename_i off ft cs hf
 split at h
 ·rename_i n h1 h2
  split at h
  case isFalse=>cases h
  rename_i hle
  refine ⟨_,h,Sim.tr ?_⟩
  simp only [q99,hf,eD,e1,h1,h2,List.length_map,hle,if_true,qbk,List.map_take,List.map_drop,Option.map_none]
 ·rename_i h1
  split at h
  case h_2=>cases h
  rename_i c hc
  refine ⟨_,h,Sim.tr ?_⟩
  rw [q76] at hc
  simp only [q99,hf,eD,e1,h1,List.getElem?_map,hc,Option.map_some,qbk,Option.map_none]
 ·cases h
def qga (x:TD) (i:Nat) (k:TRes→Option α):Option α:=match x with
 | .tup xs=>match nth xs i with
  | some y=>k { val:=.one y }
  | none=>none
 | _=>none
theorem qsm {x:TD} {i:Nat} {k:TRes→Option α} {r:α} (h:qga x i k=some r) : ∃ y,k y=some r∧Sim (q5a (eD x) i) y:=by
 unfold qga at h
 split at h
 case h_2=>cases h
 rename_i xs
 split at h
 case h_2=>cases h
 rename_i y hy
 rw [q76] at hy
 exact ⟨_,h,Sim.tr (by simp only [q5a,eD,List.getElem?_map,hy,Option.map_some,qbk,Option.map_none])⟩
def jsz (ty:Ty):List TC→Option (List (den ty))
 | []=>some []
 | c::cs=>match unD ty [c],jsz ty cs with
  | some x,some xs=>some (x::xs)
  | _,_=>none
theorem jbm {ty:Ty} : ∀ {cs:List TC} {xs:List (den ty)},jsz ty cs=some xs→cs=xs.map (TC.d ty)
 | [],xs,h=>by simp only [jsz,Option.some.injEq] at h;subst h;rfl
 | c::cs,xs,h=>by
  unfold jsz at h
  split at h
  case h_2=>cases h
  rename_i x ys h1 h2
  simp only [Option.some.injEq] at h
  subst h
  have:=qp0 h1
  simp only [List.cons.injEq,and_true] at this
  rw [List.map_cons,← jbm h2,this]
def jri (n:Int) (len:Nat) (f:Nat→Option α):Option α:=if n=0 then (bif Nat.blt 0 len then f 0 else none) else if n=1 then (bif Nat.blt 1 len then f 1 else none) else none
theorem qv4 {n:Int} {len:Nat} {f:Nat→Option α} {r:α} (h:jri n len f=some r) : ∃ j:Nat,n=j∧j<len∧f j=some r:=by
 unfold jri at h
 split at h
 ·rename_i h0
  cases hb:Nat.blt 0 len with
  | false=>rw [hb] at h;cases h
  | true=>rw [hb] at h;exact ⟨0,h0,by simpa using hb,h⟩
 ·split at h
  case isFalse=>cases h
  rename_i h1
  cases hb:Nat.blt 1 len with
  | false=>rw [hb] at h;cases h
  | true=>rw [hb] at h;exact ⟨1,h1,by simpa using hb,h⟩
def qd7 (P:Program) (t:TypeId) (cs:List TC) (n:Int) (k:TRes→Option α):Option α:=match cs,P.underlying t with
 | .d e _::_,some (.array m el)=>match tsz P el,qhj P el,jsz e cs with
  | some 1,some false,some xs=>if m=xs.length then (q1f xs n).bind fun y=>k { val:=.one (.c (.d e y)) } else none
  | _,_,_=>none
 | _,_=>none
def jm2 (P:Program) (t:TypeId):Bool:=match P.underlying t with
 | some (.array _ el)=>match qhj P el with
  | some true=>true
  | _=>false
 | _=>false
def qcz (P:Program) (t:TypeId) (cs:List TC) (n:Int) (k:TRes→Option α):Option α:=match P.underlying t with
 | some (.array m el)=>match tsz P el,qhj P el with
  | some z,some true=>bif (Nat.ble m 2&&Nat.beq cs.length (m*z)) then jri n m (fun j=>k { val:=.one (.agg ((cs.drop (j*z)).take z)) }) else none
  | _,_=>none
 | _=>none
theorem qof {t:TypeId} {cs:List TC} {ik:IntKind} {n:Int} {k:TRes→Option α} {r:α} (h:qcz P t cs n k=some r) :
  ∃ y,k y=some r∧Sim (q4p P t (eD (.one (.agg cs))) (eD (.one (.c (.d (.int ik) n))))) y:=by
 unfold qcz at h
 split at h
 case h_2=>cases h
 rename_i m el hu
 split at h
 case h_2=>cases h
 rename_i z hs ha
 cases hc:(Nat.ble m 2&&Nat.beq cs.length (m*z)) with
 | false=>rw [hc] at h;cases h
 | true =>
  rw [hc] at h
  replace h:jri n m (fun j=>k { val:=.one (.agg ((cs.drop (j*z)).take z)) })=some r:=h
  have hl:cs.length=m*z:=Nat.eq_of_beq_eq_true (Bool.and_eq_true_iff.1 hc).2
  obtain ⟨j,hj,hjl,h⟩:=qv4 h
  have hj':Int.toNat n=j:=by rw [hj];rfl
  refine ⟨_,h,((0:Int)≤n∧n<(m:Int)∧(cs.map eC).length=m*z),⟨by rw [hj];exact Int.natCast_nonneg j,by rw [hj];exact Int.ofNat_lt.2 hjl,by rw [List.length_map];exact hl⟩,?_⟩
  have e0 : ∀ z':Nat,z'=z→q4p P t (.one (.agg (cs.map eC))) (.one (.c (.d (.v (.int ik n)))))=some { cond:=(0:Int)≤n∧n<(m:Int)∧(cs.map eC).length=m*z,val:=.one (.agg (((cs.map eC).drop (j*z)).take z)) }:=fun z' _=>by
   simp only [q4p,hu,hs,ha,hj']
  rw [show eD (.one (.agg cs)) = .one (.agg (cs.map eC)) from rfl,show eD (.one (.c (.d (.int ik) n))) = .one (.c (.d (.v (.int ik n)))) from rfl,e0 z rfl]
  simp only [qbk,eD,e1,Option.map_none,List.map_take,List.map_drop]
def qt5 (P:Program) (t:TypeId) (x i:TD) (k:TRes→Option α):Option α:=match x,i with
 | .one (.c (.d .str s)),.one (.c (.d (.int _) n))=>match P.underlying t with
  | some .string=>(sAt s n).bind fun c=>k { val:=.one (.c (.d (.int .u8) c)) }
  | _=>none
 | .one (.agg cs),.one (.c (.d (.int _) n))=>bif jm2 P t then qcz P t cs n k else qd7 P t cs n k
 | _,_=>none
theorem jkm {s:List UInt8} {n c:Int} (h:sAt s n=some c):(0≤n∧n<(ba s).size)∧c=qz6 (ba s) n:=by
 unfold sAt q1f at h
 split at h
 case isFalse=>cases h
 rename_i hn
 obtain ⟨b,hb,rfl⟩:=Option.map_eq_some_iff.1 h
 rw [q76] at hb
 obtain ⟨h1,rfl⟩:=List.getElem?_eq_some_iff.1 hb
 have hsz:(ba s).size=s.length:=by simp [ba,ByteArray.size]
 refine ⟨⟨hn,by omega⟩,?_⟩
 unfold qz6 ba
 simp [List.getD,h1]
theorem j8f {β:Type} {l:List β} {n:Int} {y:β} (h:q1f l n=some y):(0≤n∧n<l.length)∧nth l n.toNat=some y:=by
 unfold q1f at h
 split at h
 case isFalse=>cases h
 rename_i hn
 have h':=h
 rw [q76] at h'
 obtain ⟨h1,_⟩:=List.getElem?_eq_some_iff.1 h'
 exact ⟨⟨hn,by omega⟩,h⟩
theorem qon {t:TypeId} {cs:List TC} {ik:IntKind} {n:Int} {k:TRes→Option α} {r:α} (h:qd7 P t cs n k=some r) : ∃ y,k y=some r∧Sim (q4p P t (.one (.agg (cs.map eC))) (.one (.c (.d (.v (.int ik n)))))) y:=by
 unfold qd7 at h
 split at h
 case h_2=>cases h
 rename_i e x0 cs0 m el hu
 split at h
 case h_2=>cases h
 rename_i xs hs ha hxs
 split at h
 case isFalse=>cases h
 rename_i hm
 obtain ⟨y,hy,h⟩:=Option.bind_eq_some_iff.1 h
 obtain ⟨h1,h2⟩:=j8f hy
 have hcs:=jbm hxs
 refine ⟨_,h,(0≤n∧n<((List.map eC (TC.d e x0::cs0)).length:Int)∧m=(List.map eC (TC.d e x0::cs0)).length),?_,?_⟩
 ·rw [hcs,List.length_map,List.length_map]
  exact ⟨h1.1,h1.2,hm⟩
 ·have e5:(List.map eC (TC.d e x0::cs0)).getD n.toNat C.bad=eC (TC.d e y):=by
   rw [q76] at h2
   rw [hcs]
   simp [List.getD,h2]
  simp only [q4p,hu,hs,ha,e5,qbk,Option.map_none]
  rfl
theorem j0t {t:TypeId} {x i:TD} {k:TRes→Option α} {r:α} (h:qt5 P t x i k=some r) : ∃ y,k y=some r∧Sim (q4p P t (eD x) (eD i)) y:=by
 unfold qt5 at h
 split at h
 case h_3=>cases h
 case h_2 =>
  rename_i cs ik n
  cases hb:jm2 P t with
  | true=>rw [hb] at h;exact qof (ik:=ik) h
  | false=>rw [hb] at h;exact qon (ik:=ik) h
 rename_i s k' n
 split at h
 case h_2=>cases h
 rename_i hu
 obtain ⟨c,hc,h⟩:=Option.bind_eq_some_iff.1 h
 obtain ⟨h1,rfl⟩:=jkm hc
 refine ⟨_,h,_,h1,?_⟩
 simp only [eD,e1,eC,q0l,List.headD_cons,q4p,hu]
 rfl
def q9n (P:Program) (t:TypeId) (x i:TD) (σ:TSt) (k:TRes→Option α):Option α:=match P.underlying t with
 | some (.slice el)=>match tsz P el,x,i with
  | some m,.one (.c (.d (.lst e) l)),.one (.c (.d (.int _) n))=>if m=width e then (q1f l n).bind fun y=>k { val:=.one (.c (.rp e 0 y)) } else none
  | some m,.one (.c (.row tt g)),.one (.c (.d (.int _) n))=>match lk σ.rows tt with
   | some r=>if r.gen=g∧width r.e=m then (q1f r.xs n).bind fun _=>k { val:=.one (.c (.wp tt g (Int.toNat n) 0)) } else none
   | none=>none
  | _,_,_=>none
 | some (.array len el)=>match tsz P el,x,i with
  | some m,.one (.c (.box β o)),.one (.c (.d (.int _) n))=>bif Nat.ble len 2 then jri n len (fun j=>k { val:=.one (.c (.box β (o+j*m))) }) else if (@LE.le Int _ 0 n∧@LT.lt Int _ n ((len:Nat):Int)) then k { val:=.one (.c (.box β (o+Int.toNat n*m))) } else none
  | _,_,_=>none
 | _=>none
theorem qxt {β:Type} {l:List β} {n:Int} {y:β} (h:q1f l n=some y):(0≤n∧n<l.length)∧nth l n.toNat=some y:=by
 unfold q1f at h
 split at h
 case isFalse=>cases h
 rename_i hn
 have h':=h
 rw [q76] at h'
 obtain ⟨h1,_⟩:=List.getElem?_eq_some_iff.1 h'
 exact ⟨⟨hn,by omega⟩,h⟩
theorem qnv {t:TypeId} {x i:TD} {k:TRes→Option α} {r:α} (h:q9n P t x i σ k=some r) : ∃ y,k y=some r∧Sim (q1p P t (eD x) (eD i) (eS σ).row) y:=by
 unfold q9n at h
 split at h
 case h_3=>cases h
 case h_2 =>
  rename_i len el hu
  split at h
  case h_2=>cases h
  rename_i m β o k' n hm
  cases hle:Nat.ble len 2 with
  | true =>
   rw [hle] at h
   replace h:jri n len (fun j=>k { val:=.one (.c (.box β (o+j*m))) })=some r:=h
   obtain ⟨j,hj,hjl,h⟩:=qv4 h
   have hj':Int.toNat n=j:=by rw [hj];rfl
   exact ⟨_,h,(@LE.le Int _ 0 n∧@LT.lt Int _ n ((len:Nat):Int)),⟨by rw [hj];exact Int.natCast_nonneg j,by rw [hj];exact Int.ofNat_lt.2 hjl⟩,by simp only [eD,e1,eC,q0l,List.headD_cons,q1p,hu,hm,qbk,Option.map_none,hj']⟩
  | false =>
  rw [hle] at h
  replace h:(if (@LE.le Int _ 0 n∧@LT.lt Int _ n ((len:Nat):Int)) then k { val:=.one (.c (.box β (o+Int.toNat n*m))) } else none)=some r:=h
  split at h
  case isFalse=>cases h
  rename_i hc
  exact ⟨_,h,(@LE.le Int _ 0 n∧@LT.lt Int _ n ((len:Nat):Int)),hc,by simp only [eD,e1,eC,q0l,List.headD_cons,q1p,hu,hm,qbk,Option.map_none]⟩
 rename_i el hu
 split at h
 ·rename_i m e l k' n hm
  split at h
  case isFalse=>cases h
  rename_i hme
  subst hme
  obtain ⟨y,hy,h⟩:=Option.bind_eq_some_iff.1 h
  obtain ⟨h1,h2⟩:=qxt hy
  obtain ⟨h3,h4⟩:=qur h2
  refine ⟨_,h,(@LE.le Int _ 0 n∧@LT.lt Int _ n ((l.map (q0l e)).length:Nat)),by rw [List.length_map];exact h1,?_⟩
  have h3':((l:List (den e)).map (q0l e)).getD (Int.toNat n) []=q0l e y:=h3
  simp only [eD,e1,eC,q0l,List.headD_cons,q1p,hu,hm,if_true,h3',qbk,Option.map_none,List.drop_zero]
 ·rename_i m tt g k' n hm
  split at h
  case h_2=>cases h
  rename_i r' hr
  split at h
  case isFalse=>cases h
  rename_i hg
  obtain ⟨y,hy,h⟩:=Option.bind_eq_some_iff.1 h
  obtain ⟨h1,h2⟩:=qxt hy
  refine ⟨_,h,(@LE.le Int _ 0 n∧@LT.lt Int _ n ((eR r').xs.length:Nat)),by show _∧@LT.lt Int _ n ((r'.xs.map (q0l r'.e)).length:Nat);rw [List.length_map];exact h1,?_⟩
  have hg':(eR r').gen=g∧(eR r').sz=m:=hg
  simp only [eD,e1,eC,q0l,List.headD_cons,q1p,hu,hm,q33 hr,hg',and_self,if_true,qbk,Option.map_none]
 ·cases h
end Go.Proofs.YthpgnliicpejoaaGreatDoor.AM
namespace Go.Proofs.YthpgnliicpejoaaGreatDoor.AM
open Go.RowKit
set_option linter.unusedVariables false
set_option linter.unusedSimpArgs false
variable {α:Type} {P:Program} {σ:TSt}
def jmw (d:Int):Option TD→Option Int
 | none=>some d
 | some (.one (.c (.d (.int _) n)))=>some n
 | some _=>none
theorem qfl {d n:Int} {x:Option TD} (h:jmw d x=some n):bnd d (x.map eD)=some n:=by
 unfold jmw at h
 split at h
 ·simp only [Option.some.injEq] at h;subst h;rfl
 ·simp only [Option.some.injEq] at h;subst h;rfl
 ·cases h
def qsk (P:Program) (t:TypeId) (x:TD) (lo hi:Option TD) (k:TRes→Option α):Option α:=match P.underlying t,x with
 | some .string,.one (.c (.d .str s))=>match jmw 0 lo,jmw (List.length s) hi with
  | some l,some h=>(q3g s l h).bind fun y=>k { val:=.one (.c (.d .str y)) }
  | _,_=>none
 | some (.slice el),.one (.c (.d (.lst e) xs))=>match jmw 0 lo,jmw (List.length xs) hi with
  | some l,some h=>if tsz P el=some (width e) then (q3g xs l h).bind fun y=>k { val:=.one (.c (.d (.lst e) y)) } else none
  | _,_=>none
 | _,_=>none
theorem qnf {β:Type} {l:List β} {a b:Int} {y:List β} (h:q3g l a b=some y):(0≤a∧a≤b∧b≤l.length)∧y=(l.drop a.toNat).take (b.toNat - a.toNat):=by
 unfold q3g at h
 split at h
 case isFalse=>cases h
 rename_i hc
 simp only [Option.some.injEq] at h
 exact ⟨hc,h.symm⟩
theorem q29 (s:List UInt8):(ba s).size=s.length:=by simp [ba,ByteArray.size]
theorem qa8 (s:List UInt8) (a b:Nat):(ba s).extract a b=ba ((s.drop a).take (b - a)):=by
 unfold ba
 apply ByteArray.ext
 rw [ByteArray.data_extract]
 apply Array.toList_inj.1
 rw [Array.toList_extract,List.extract_eq_take_drop]
theorem qzz {t:TypeId} {x:TD} {lo hi:Option TD} {k:TRes→Option α} {r:α} (h:qsk P t x lo hi k=some r) : ∃ y,k y=some r∧Sim (q5m P t (eD x) (lo.map eD) (hi.map eD)) y:=by
 unfold qsk at h
 split at h
 ·rename_i s hu
  split at h
  case h_2=>cases h
  rename_i l hh hl hhh
  obtain ⟨y,hy,h⟩:=Option.bind_eq_some_iff.1 h
  obtain ⟨h1,rfl⟩:=qnf hy
  refine ⟨_,h,_,h1,?_⟩
  simp only [q5m,eD,e1,eC,q0l,List.headD_cons,hu,qfl hl,qa8,q29,qfl hhh]
  rfl
 ·rename_i el e xs hu
  split at h
  case h_2=>cases h
  rename_i l hh hl hhh
  split at h
  case isFalse=>cases h
  rename_i hsz
  obtain ⟨y,hy,h⟩:=Option.bind_eq_some_iff.1 h
  obtain ⟨h1,rfl⟩:=qnf hy
  refine ⟨_,h,_,h1,?_⟩
  simp only [q5m,eD,e1,eC,q0l,List.headD_cons,hu,qfl hl,hsz,if_true,List.length_map,← List.map_drop,← List.map_take,qfl hhh]
  rfl
 ·cases h
def qcc (P:Program) (t:TypeId) (x:TD) (lo hi:Option TD) (σ:TSt) (k:TRes→Option α):Option α:=match P.underlying t,x with
 | some (.slice el),.one (.c (.row tt g))=>match lk σ.rows tt with
  | some r=>match jmw 0 lo,jmw (List.length r.xs) hi with
   | some l,some h=>if r.gen=g∧tsz P el=some (width r.e) then (q3g r.xs l h).bind fun y=>k { val:=.one (.c (.d (.lst r.e) y)),row:=some (tt,{ r with wr:=false }) } else none
   | _,_=>none
  | none=>none
 | _,_=>none
theorem j1u {t:TypeId} {tt g:Nat} {lo hi:Option D} : q5m P t (.one (.c (.row tt g))) lo hi=none:=by
 unfold q5m
 split
 ·rename_i h;cases h
 ·rename_i h;cases h
 ·rfl
theorem qoc {t:TypeId} {x:TD} {lo hi:Option TD} {k:TRes→Option α} {r:α} (h:qcc P t x lo hi σ k=some r) : ∃ y,k y=some r∧q5m P t (eD x) (lo.map eD) (hi.map eD)=none∧Sim (q30 P t (eD x) (lo.map eD) (hi.map eD) (eS σ).row) y:=by
 unfold qcc at h
 split at h
 case h_2=>cases h
 rename_i el tt g hu
 split at h
 case h_2=>cases h
 rename_i r' hr
 split at h
 case h_2=>cases h
 rename_i l hh hl hhh
 split at h
 case isFalse=>cases h
 rename_i hg
 obtain ⟨y,hy,h⟩:=Option.bind_eq_some_iff.1 h
 obtain ⟨h1,rfl⟩:=qnf hy
 refine ⟨_,h,j1u,_,h1,?_⟩
 have hlen:(eR r').xs.length=r'.xs.length:=by simp [eR]
 obtain ⟨rfl,hsz⟩:=hg
 have hg':(eR r').gen=r'.gen∧tsz P el=some (eR r').sz:=⟨rfl,hsz⟩
 simp only [q30,eD,e1,eC,hu,q33 hr,qfl hl,hlen,qfl hhh]
 rw [if_pos hg']
 have e2:((eR r').xs.drop l.toNat).take (hh.toNat - l.toNat)=((r'.xs.drop l.toNat).take (hh.toNat - l.toNat)).map (q0l r'.e):=by simp [eR]
 rw [e2]
 rfl
def jgt (x:TD) (k:TRes→Option α):Option α:=match x with
 | .one (.c (.box β o))=>k { val:=.one (.c (.box β o)) }
 | .one (.c (.rp e o y))=>k { val:=.one (.c (.rp e o y)) }
 | .one (.c (.wp t g j o))=>k { val:=.one (.c (.wp t g j o)) }
 | _=>none
theorem jb1 {x:TD} {k:TRes→Option α} {r:α} (h:jgt x k=some r) : ∃ y,k y=some r∧Sim (ji4 (eD x)) y:=by
 unfold jgt at h
 split at h
 ·exact ⟨_,h,Sim.tr rfl⟩
 ·exact ⟨_,h,Sim.tr rfl⟩
 ·exact ⟨_,h,Sim.tr rfl⟩
 ·cases h
def jen (P:Program) (t:TypeId) (x:TD) (σ:TSt) (k:TRes→Option α):Option α:=match P.underlying t,x with
 | some .string,.one (.c (.d .str s))=>k { val:=.one (.c (.d (.int .i64) (List.length s:Nat))) }
 | some (.slice _),.one (.c (.d (.lst _) xs))=>k { val:=.one (.c (.d (.int .i64) (List.length xs:Nat))) }
 | some (.slice _),.one (.c .nil)=>k { val:=.one (.c (.d (.int .i64) (0:Int))) }
 | some (.slice _),.one (.c (.row tt g))=>match lk σ.rows tt with
  | some r=>if r.gen=g then k { val:=.one (.c (.d (.int .i64) (List.length r.xs:Nat))) } else none
  | none=>none
 | _,_=>none
theorem jgi {t:TypeId} {x:TD} {k:TRes→Option α} {r:α} (h:jen P t x σ k=some r) : ∃ y,k y=some r∧Sim (qgs P t (eD x) (eS σ).row) y:=by
 unfold jen at h
 split at h
 ·rename_i s hu
  refine ⟨_,h,Sim.tr ?_⟩
  simp only [qgs,eD,e1,eC,q0l,List.headD_cons,hu,q29]
  rfl
 ·rename_i el e xs hu
  refine ⟨_,h,Sim.tr ?_⟩
  simp only [qgs,eD,e1,eC,q0l,List.headD_cons,hu,List.length_map]
  rfl
 ·rename_i el hu
  refine ⟨_,h,Sim.tr ?_⟩
  simp only [qgs,eD,e1,eC,hu]
  rfl
 ·rename_i el tt g hu
  split at h
  case h_2=>cases h
  rename_i r' hr
  split at h
  case isFalse=>cases h
  rename_i hg
  refine ⟨_,h,Sim.tr ?_⟩
  have hg':(eR r').gen=g:=hg
  simp only [qgs,eD,e1,eC,hu,q33 hr,hg',if_true]
  have:(eR r').xs.length=r'.xs.length:=by simp [eR]
  rw [this]
  rfl
 ·cases h
def j2o (place:Nat→Option (Nat×Nat)) (cs:List TC):List (Nat×List TC)→Option (List TC)
 | []=>some cs
 | (i,xs)::rest=>match place i with
  | some (off,size)=>if xs.length=size∧off+xs.length≤cs.length then j2o place (setAt cs off xs) rest else none
  | none=>none
def eQ (q:Nat×List TC):Nat×List C:=(q.1,q.2.map eC)
theorem qje {place:Nat→Option (Nat×Nat)} : ∀ {qs:List (Nat×List TC)} {cs cs':List TC},j2o place cs qs=some cs'→qhd place (cs.map eC) (qs.map eQ)=some (cs'.map eC)
 | [],cs,cs',h=>by simp only [j2o,Option.some.injEq] at h;subst h;rfl
 | (i,xs)::rest,cs,cs',h=>by
  unfold j2o at h
  split at h
  case h_2=>cases h
  rename_i off size hp
  split at h
  case isFalse=>cases h
  rename_i hc
  have h3:=qje h
  rw [qfc] at h3
  show (match place i with|some (off,size)=>if (xs.map eC).length=size∧off+(xs.map eC).length≤(cs.map eC).length then qhd place (setAt (cs.map eC) off (xs.map eC)) (rest.map eQ) else none|none=>none)=_
  rw [hp]
  simp only [List.length_map]
  rw [if_pos hc,h3]
def jga (P:Program) (t:TypeId) (parts:List (Nat×List TC)):Option (List TC):=match qdv P t,jsq P t,arrT P t with
 | some z,some pl,_=>match qsf z with
  | some cs=>if z.all Value.oneCell'=true then j2o (fun i=>nth pl i) cs parts else none
  | none=>none
 | some z,none,some n=>match qsf z with
  | some cs=>if z.all Value.oneCell'=true then j2o (fun i=>some (i*n,n)) cs parts else none
  | none=>none
 | _,_,_=>none
theorem je1 {t:TypeId} {parts:List (Nat×List TC)} {cs:List TC} (h:jga P t parts=some cs):qkf P t (parts.map eQ)=some (cs.map eC):=by
 unfold jga at h
 split at h
 ·rename_i z pl hz hl
  split at h
  case h_2=>cases h
  rename_i cs0 hcs
  split at h
  case isFalse=>cases h
  rename_i ha
  have:=qje h
  rw [qbb hcs] at this
  simp only [qkf,hz,hl,ha,if_true]
  rw [← this]
  congr 1
  funext i
  rw [q76];simp
 ·rename_i z n hz hl hn
  split at h
  case h_2=>cases h
  rename_i cs0 hcs
  split at h
  case isFalse=>cases h
  rename_i ha
  have:=qje h
  rw [qbb hcs] at this
  simp only [qkf,hz,hl,hn,ha,if_true]
  exact this
 ·cases h
def qps (σ:TSt):List (Nat×Operand)→Option (List (Nat×List TC))
 | []=>some []
 | (i,x)::rest=>match q1s σ x,qps σ rest with
  | some (.one d),some r=>if (qfd d).all okT=true then some ((i,qfd d)::r) else none
  | _,_=>none
theorem qmv : ∀ {ps:List (Nat×Operand)} {qs:List (Nat×List TC)},qps σ ps=some qs→q8o (opnd (eS σ)) ps=some (qs.map eQ)
 | [],qs,h=>by simp only [qps,Option.some.injEq] at h;subst h;rfl
 | (i,x)::ps,qs,h=>by
  unfold qps at h
  split at h
  case h_2=>cases h
  rename_i d r hd hr
  split at h
  case isFalse=>cases h
  rename_i ha
  simp only [Option.some.injEq] at h
  subst h
  have h1:=q0t hd
  have h2:=qmv hr
  have ha':(q1v (e1 d)).all okC=true:=by rw [q4g];exact j1j ha
  unfold q8o
  rw [h1,h2]
  show (if (q1v (e1 d)).all okC=true then _ else _)=_
  rw [if_pos ha',q4g]
  rfl
def qso (P:Program) (t:TypeId) (ps:Array (Nat×Operand)) (σ:TSt) (k:TRes→Option α):Option α:=match qps σ ps.toList with
 | some qs=>match jga P t qs with
  | some cs=>k { val:=.one (.agg cs) }
  | none=>none
 | none=>none
theorem j1d {t:TypeId} {ps:Array (Nat×Operand)} {k:TRes→Option α} {r:α} (h:qso P t ps σ k=some r) : ∃ y,k y=some r∧Sim (qcp P t ps (opnd (eS σ))) y:=by
 unfold qso at h
 split at h
 case h_2=>cases h
 rename_i qs hqs
 split at h
 case h_2=>cases h
 rename_i cs hcs
 exact ⟨_,h,Sim.tr (by simp only [qcp,qmv hqs,je1 hcs,qbk,eD,e1,Option.map_none])⟩
def jtm (f:TypeId→Option (List Ty)):List Field→Option (List Ty)
 | []=>some []
 | fd::fs=>match f fd.type,jtm f fs with
  | some a,some b=>some (a++b)
  | _,_=>none
def jr1:List Ty→Option Ty
 | []=>none
 | [t]=>some t
 | t::t'::ts=>(jr1 (t'::ts)).map (.prod t)
def tysP (P:Program):Nat→TypeId→Option (List Ty)
 | 0,_=>none
 | n+1,t=>match P.underlying t with
  | some (.int k)=>some [.int k]
  | some .bool=>some [.bool]
  | some .string=>some [.str]
  | some (.slice e)=>((tysP P n e).bind jr1).map fun x=>[.lst x]
  | some (.struct fs)=>jtm (tysP P n) fs.toList
  | _=>none
def tyE (P:Program) (t:TypeId):Option Ty:=(tysP P 9 t).bind jr1
def j7o (e:Ty):Nat→List TC→Option (List (den e))
 | 0,[]=>some []
 | 0,_::_=>none
 | n+1,cs=>match j96 e (cs.take (width e)),j7o e n (cs.drop (width e)) with
  | some x,some xs=>some (x::xs)
  | _,_=>none
theorem j55 {e:Ty} : ∀ {n:Nat} {cs:List TC} {xs:List (den e)},j7o e n cs=some xs→cs.map eC=((xs.map (q0l e)).flatten).map C.d∧chunk (width e) n (xs.map (q0l e)).flatten=xs.map (q0l e)
 | 0,[],xs,h=>by simp only [j7o,Option.some.injEq] at h;subst h;exact ⟨rfl,rfl⟩
 | 0,_::_,xs,h=>by simp [j7o] at h
 | n+1,cs,xs,h=>by
  unfold j7o at h
  split at h
  case h_2=>cases h
  rename_i y ys hy hys
  simp only [Option.some.injEq] at h
  subst h
  obtain ⟨h1,h2⟩:=j55 hys
  have h3:=qjf hy
  refine ⟨?_,?_⟩
  ·rw [List.map_cons,List.flatten_cons,List.map_append,← h3,← h1,← List.map_append,List.take_append_drop]
  ·rw [List.map_cons,List.flatten_cons,chunk,List.take_append_of_le_length (by rw [q2a];exact Nat.le_refl _),List.take_of_length_le (by rw [q2a];exact Nat.le_refl _),List.drop_append_of_le_length (by rw [q2a];exact Nat.le_refl _),List.drop_eq_nil_of_le (by rw [q2a];exact Nat.le_refl _),List.nil_append,h2]
theorem j3a {β γ:Type} (f:β→γ) (z:List β) : ∀ n,(rep z n).map f=rep (z.map f) n
 | 0=>rfl
 | n+1=>by rw [rep,rep,List.map_append,j3a f z n]
def q7n (P:Program) (dst:Option Nat) (t:TypeId) (n:Nat) (ps:Array (Nat×Operand)) (σ:TSt) (k:TRes→Option α):Option α:=match P.underlying t,dst with
 | some (.slice el),some i=>match lk σ.rows i,qdv P el,tyE P el,qps σ ps.toList with
  | none,some z,some e,some qs=>match qsf z with
   | some zt=>if tsz P el=some (width e)∧n*width e≤2 ^ 24∧n≤2 ^ 24∧z.length=width e∧0<width e∧z.all Value.oneCell'=true∧el<1099511627776 then match j2o (fun i=>some (i*width e,width e)) (rep zt n) qs with
     | some cs=>match j7o e n cs with
      | some xs=>k { val:=.one (.c (.row i 0)),row:=some (i,⟨0,el,true,e,xs⟩) }
      | none=>none
     | none=>none
    else none
   | none=>none
  | _,_,_,_=>none
 | _,_=>none
theorem qih {dst:Option Nat} {t:TypeId} {n:Nat} {ps:Array (Nat×Operand)} {k:TRes→Option α} {r:α} (h:q7n P dst t n ps σ k=some r) : ∃ y,k y=some r∧Sim (q1x P dst t n ps (opnd (eS σ)) (eS σ).row) y:=by
 unfold q7n at h
 split at h
 case h_2=>cases h
 rename_i el i hu
 split at h
 case h_2=>cases h
 rename_i z e qs hr hz he hqs
 split at h
 case h_2=>cases h
 rename_i zt hzt
 split at h
 case isFalse=>cases h
 rename_i hc
 obtain ⟨c1,c2,c3,c4,c5,c6,c7⟩:=hc
 split at h
 case h_2=>cases h
 rename_i cs hcs
 split at h
 case h_2=>cases h
 rename_i xs hxs
 obtain ⟨k1,k2⟩:=j55 hxs
 have h2:=qje hcs
 rw [j3a,qbb hzt,← j3a] at h2
 refine ⟨_,h,Sim.tr ?_⟩
 simp only [q1x,hu,qac hr,c1,hz,qmv hqs]
 rw [if_pos ⟨c2,c3,c4,c5,c6,c7⟩,h2]
 simp only [k1,qfp,k2,qbk,eD,e1,eC,Option.map_none,Option.map_some,eR]
def srcT (x:TD) (σ:TSt):Option ((e:Ty)×List (den e)):=match x with
 | .one (.c (.d (.lst e) xs))=>some ⟨e,xs⟩
 | .one (.c (.row t g))=>match lk σ.rows t with
  | some r=>if r.gen=g then some ⟨r.e,r.xs⟩ else none
  | none=>none
 | _=>none
theorem jgv {x:TD} {s:(e:Ty)×List (den e)} (h:srcT x σ=some s):qio (width s.1) (eD x) (eS σ).row=some (s.2.map (q0l s.1)):=by
 unfold srcT at h
 split at h
 ·simp only [Option.some.injEq] at h;subst h
  simp only [qio,eD,e1,eC,q0l,List.headD_cons,if_true]
 ·split at h
  case h_2=>cases h
  rename_i r hr
  split at h
  case isFalse=>cases h
  rename_i hg
  simp only [Option.some.injEq] at h;subst h
  have hg':(eR r).gen=_∧(eR r).sz=width r.e:=⟨hg,rfl⟩
  simp only [qio,eD,e1,eC,q33 hr]
  rw [if_pos hg'];rfl
 ·cases h
def qm1 (P:Program) (dst:Option Nat) (t:TypeId) (s x:TD) (σ:TSt) (k:TRes→Option α):Option α:=match P.underlying t with
 | some (.slice el)=>match qqg P el,srcT x σ with
  | some (m,bytes),some src=>if m=width src.1 then match s with
    | .one (.c (.row tt g))=>match lk σ.rows tt with
     | some r=>if h:src.1=r.e then if r.gen=g∧r.E=el then
       (q2g bytes r.xs (h ▸ src.2)).bind fun ys=>k { val:=.one (.c (.row tt (g+1))),row:=some (tt,{ r with gen:=g+1,xs:=ys }) } else none else none
     | none=>none
    | .one (.c .nil)=>match dst with
     | some i=>match lk σ.rows i with
      | none=>(q2g bytes [] src.2).bind fun ys=>k { val:=.one (.c (.row i 0)),row:=some (i,⟨0,el,true,src.1,ys⟩) }
      | some _=>none
     | none=>none
    | _=>none
   else none
  | _,_=>none
 | _=>none
theorem qxx {β:Type} {b:Nat} {xs ys zs:List β} (h:q2g b xs ys=some zs):(xs.length+ys.length)*b≤140737488355328∧zs=xs++ys:=by
 unfold q2g at h
 split at h
 case isFalse=>cases h
 rename_i hc
 exact ⟨hc,(Option.some.inj h).symm⟩
theorem qv3 {dst:Option Nat} {t:TypeId} {s x:TD} {k:TRes→Option α} {r:α} (h:qm1 P dst t s x σ k=some r) : ∃ y,k y=some r∧Sim (q31 P dst t (eD s) (eD x) (eS σ).row) y:=by
 unfold qm1 at h
 split at h
 case h_2=>cases h
 rename_i el hu
 split at h
 case h_2=>cases h
 rename_i m bytes src hel hsrc
 split at h
 case isFalse=>cases h
 rename_i hm
 subst hm
 have h1:=jgv hsrc
 split at h
 ·rename_i tt g
  split at h
  case h_2=>cases h
  rename_i r' hr
  split at h
  case isFalse=>cases h
  rename_i he
  split at h
  case isFalse=>cases h
  rename_i hg
  obtain ⟨e',ys⟩:=src
  obtain ⟨gen,E,wr,e,xs⟩:=r'
  have he':e'=e:=he
  subst he'
  obtain ⟨hg1,hg2⟩:=hg
  have hg1':gen=g:=hg1
  have hg2':E=el:=hg2
  subst hg1' hg2'
  obtain ⟨zs,hz,h⟩:=Option.bind_eq_some_iff.1 h
  obtain ⟨c1,rfl⟩:=qxx hz
  refine ⟨_,h,_,c1,?_⟩
  simp only at h1
  show q31 P dst t (.one (.c (.row tt gen))) (eD x) _=_
  generalize eD x=y at h1
  simp only [q31,hu,hel,h1,eD,e1,eC,q33 hr,eR,and_self,if_true,qbk,Option.map_none,Option.map_some,List.map_append,List.length_map]
 ·split at h
  case h_2=>cases h
  rename_i i
  split at h
  case h_2=>cases h
  rename_i hr
  obtain ⟨e',ys⟩:=src
  obtain ⟨zs,hz,h⟩:=Option.bind_eq_some_iff.1 h
  obtain ⟨c1,hzz⟩:=qxx hz
  have hzz':zs=ys:=hzz
  clear hzz hz
  rw [hzz'] at h
  clear hzz' zs
  refine ⟨_,h,_,c1,?_⟩
  simp only at h1
  show q31 P (some i) t (.one (.c (.d (.v (.slice none 0 0))))) (eD x) _=_
  generalize eD x=y at h1
  simp only [q31,hu,hel,h1,eD,e1,eC,qac hr,eR,qbk,Option.map_none,Option.map_some,List.map_append,List.length_map,List.nil_append,List.length_nil,Nat.zero_add]
 ·cases h
end Go.Proofs.YthpgnliicpejoaaGreatDoor.AM
namespace Go.Proofs.YthpgnliicpejoaaGreatDoor.AM
open Go.RowKit
set_option linter.unusedVariables false
set_option linter.unusedSimpArgs false
variable {α:Type} {P:Program} {σ:TSt}
def intT (op:BinOp) (k k':IntKind) (a b:Int) (c:TC→Option α):Option α:=match op with
 | .shl=>(jr7 k a b).bind fun z=>c (.d (.int k) z)
 | .shr=>(jmf k a b).bind fun z=>c (.d (.int k) z)
 | .add=>if k=k' then q0n (k.wrap (a+b)) fun z=>c (.d (.int k) z) else none
 | .sub=>if k=k' then q0n (k.wrap (a - b)) fun z=>c (.d (.int k) z) else none
 | .mul=>if k=k' then q0n (k.wrap (a*b)) fun z=>c (.d (.int k) z) else none
 | .quo=>if k=k' then (qo9 k a b).bind fun z=>c (.d (.int k) z) else none
 | .rem=>if k=k' then (j71 a b).bind fun z=>c (.d (.int k) z) else none
 | .and=>if k=k' then q0n (andI k a b) fun z=>c (.d (.int k) z) else none
 | .or=>if k=k' then q0n (orI k a b) fun z=>c (.d (.int k) z) else none
 | .xor=>if k=k' then q0n (xorI k a b) fun z=>c (.d (.int k) z) else none
 | .eql=>if k=k' then c (.d .bool (decide (a=b))) else none
 | .neq=>if k=k' then c (.d .bool (!decide (a=b))) else none
 | .lss=>if k=k' then c (.d .bool (decide (a<b))) else none
 | .leq=>if k=k' then c (.d .bool (decide (a≤b))) else none
 | .gtr=>if k=k' then c (.d .bool (decide (b<a))) else none
 | .geq=>if k=k' then c (.d .bool (decide (b≤a))) else none
 | _=>none
def strT (op:BinOp) (s t:List UInt8) (c:TC→Option α):Option α:=match op with
 | .add=>(q4s s t).bind fun z=>c (.d .str z)
 | .eql=>c (.d .bool (decide (s=t)))
 | .neq=>c (.d .bool (!decide (s=t)))
 | .lss=>c (.d .bool (ltS s t))
 | .leq=>c (.d .bool (ltS s t||decide (s=t)))
 | .gtr=>c (.d .bool (!(ltS s t||decide (s=t))))
 | .geq=>c (.d .bool (!ltS s t))
 | _=>none
def vC (c:TC):TRes:={ val:=.one (.c c) }
theorem jqy {op:BinOp} {T:TypeId} {k k':IntKind} {a b:Int} {c:TC→Option α} {r:α} (h:intT op k k' a b c=some r) :
  ∃ x,c x=some r∧Sim (q97 P op T (.one (.c (.d (.v (.int k a))))) (.one (.c (.d (.v (.int k' b)))))) (vC x):=by
 unfold intT at h
 split at h
 case h_1 =>
  obtain ⟨z,hz,h⟩:=Option.bind_eq_some_iff.1 h
  unfold jr7 at hz
  split at hz
  case isFalse=>cases hz
  rename_i hb
  simp only [Option.some.injEq] at hz;subst hz
  exact ⟨_,h,_,hb,rfl⟩
 case h_2 =>
  obtain ⟨z,hz,h⟩:=Option.bind_eq_some_iff.1 h
  unfold jmf at hz
  split at hz
  case isFalse=>cases hz
  rename_i hb
  simp only [Option.some.injEq] at hz;subst hz
  exact ⟨_,h,_,hb,rfl⟩
 case h_6 =>
  split at h
  case isFalse=>cases h
  rename_i hk;subst hk
  obtain ⟨z,hz,h⟩:=Option.bind_eq_some_iff.1 h
  unfold qo9 at hz
  split at hz
  case isFalse=>cases hz
  rename_i hb
  simp only [Option.some.injEq] at hz;subst hz
  refine ⟨_,h,_,hb,?_⟩
  simp only [q97,if_true,qjm,Option.map_some];rfl
 case h_7 =>
  split at h
  case isFalse=>cases h
  rename_i hk;subst hk
  obtain ⟨z,hz,h⟩:=Option.bind_eq_some_iff.1 h
  unfold j71 at hz
  split at hz
  case isFalse=>cases hz
  rename_i hb
  simp only [Option.some.injEq] at hz;subst hz
  refine ⟨_,h,_,hb,?_⟩
  simp only [q97,if_true,qjm,Option.map_some];rfl
 case h_17=>cases h
 all_goals
  split at h
  case isFalse=>cases h
  rename_i hk;subst hk
  refine ⟨_,h,Sim.tr ?_⟩
  simp only [q97,if_true,qjm,Option.map_some];rfl
theorem jtc {s t:List UInt8} : (ba s=ba t)=(s=t):=by
 apply propext
 constructor
 ·intro h
  have:=congrArg ByteArray.data h
  exact Array.toList_inj.2 this |> fun h=>by simpa [ba] using h
 ·rintro rfl;rfl
theorem qjn (s:List UInt8):(ba s).toList=s:=by rw [ByteArray.toList_eq];rfl
theorem jfy (s t:List UInt8):ba s++ba t=ba (s++t):=by
 apply ByteArray.ext
 rw [ByteArray.data_append]
 simp [ba]
theorem jm3 (s t:List UInt8):decide (ba s=ba t)=decide (s=t):=by simp only [jtc]
theorem jp7 {op:BinOp} {T:TypeId} {s t:List UInt8} {c:TC→Option α} {r:α} (h:strT op s t c=some r) :
  ∃ x,c x=some r∧Sim (q97 P op T (.one (.c (.d (.v (.string (ba s)))))) (.one (.c (.d (.v (.string (ba t))))))) (vC x):=by
 unfold strT at h
 split at h
 case h_1 =>
  obtain ⟨z,hz,h⟩:=Option.bind_eq_some_iff.1 h
  unfold q4s at hz
  split at hz
  case isFalse=>cases hz
  rename_i hb
  simp only [Option.some.injEq] at hz;subst hz
  refine ⟨_,h,_,hb,?_⟩
  simp only [q97,qr4,Option.map_some,q29,jfy];rfl
 case h_8=>cases h
 all_goals
  refine ⟨_,h,Sim.tr ?_⟩
  simp only [q97,qr4,Option.map_some,qjn,jm3];rfl
def eqC1 (P:Program) (t:TypeId) (x y:TC):Option Bool:=match P.underlying t,x,y with
 | some .bool,.d .bool a,.d .bool b=>some (decide ((a:Bool)=b))
 | some (.int _),.d (.int k) a,.d (.int k') b=>if k=k' then some (decide ((a:Int)=b)) else none
 | some .string,.d .str a,.d .str b=>some (decide ((a:List UInt8)=b))
 | _,_,_=>none
def vT:TC→Option Value
 | .d (.int k) n=>some (.int k n)
 | .d .bool b=>some (.bool b)
 | .d .str s=>some (.string (ba s))
 | _=>none
def vTs:List TC→Option (List Value)
 | []=>some []
 | c::cs=>match vT c,vTs cs with
  | some x,some xs=>some (x::xs)
  | _,_=>none
theorem vT_ok {c:TC} {v:Value} (h:vT c=some v):eC c = .d (.v v):=by
 unfold vT at h
 split at h<;>simp only [Option.some.injEq,reduceCtorEq] at h<;>subst h<;>rfl
theorem jdd : ∀ {cs:List TC} {xs:List Value},vTs cs=some xs→jma (cs.map eC)=some xs
 | [],xs,h=>by simp only [vTs,Option.some.injEq] at h;subst h;rfl
 | c::cs,xs,h=>by
  unfold vTs at h
  split at h
  case h_2=>cases h
  rename_i x ys hx hy
  simp only [Option.some.injEq] at h;subst h
  rw [List.map_cons,vT_ok hx]
  show (jma (cs.map eC)).map (x :: ·)=_
  rw [jdd hy];rfl
def jl3 (P:Program):List Field→List TC→List TC→Option Bool
 | [],_,_=>some true
 | f::fs,xs,ys=>if f.name = "_" then none else match nth xs f.offset,nth ys f.offset,qhj P f.type with
  | some x,some y,some false=>match eqC1 P f.type x y,jl3 P fs xs ys with
   | some b,some c=>some (b&&c)
   | _,_=>none
  | _,_,_=>none
theorem jo6 {t:TypeId} {x y:TC} {u v:Value} {b:Bool} (hx:vT x=some u) (hy:vT y=some v) (h:eqC1 P t x y=some b):eqV P t u v=some b:=by
 unfold eqC1 at h
 split at h
 ·rename_i hu
  simp only [vT,Option.some.injEq] at hx hy h;subst hx hy h
  simp only [eqV,hu]
 ·rename_i hu
  split at h
  case isFalse=>cases h
  rename_i hk;subst hk
  simp only [vT,Option.some.injEq] at hx hy h;subst hx hy h
  simp only [eqV,hu,if_true]
 ·rename_i hu
  simp only [vT,Option.some.injEq] at hx hy h;subst hx hy h
  simp only [eqV,hu,jm3]
 ·cases h
theorem j01 : ∀ {cs:List TC} {xs:List Value} {i:Nat} {c:TC},vTs cs=some xs→nth cs i=some c→∃ v,xs[i]? = some v∧vT c=some v
 | [],_,_,_,_,h=>by cases h
 | c0::cs,xs,i,c,h,hn=>by
  unfold vTs at h
  split at h
  case h_2=>cases h
  rename_i x ys hx hy
  simp only [Option.some.injEq] at h;subst h
  cases i with
  | zero=>simp only [nth,Option.some.injEq] at hn;subst hn;exact ⟨x,rfl,hx⟩
  | succ i =>
   obtain ⟨v,h1,h2⟩:=j01 hy (show nth cs i=some c from hn)
   exact ⟨v,by simpa using h1,h2⟩
theorem j4s {us vs:List Value} {xs ys:List TC} (hx:vTs xs=some us) (hy:vTs ys=some vs) : ∀ {fs:List Field} {b:Bool},jl3 P fs xs ys=some b→jrf P fs us vs=some b
 | [],b,h=>h
 | f::fs,b,h=>by
  unfold jl3 at h
  split at h
  case isTrue=>cases h
  rename_i hn
  split at h
  case h_2=>cases h
  rename_i x y h1 h2 h3
  split at h
  case h_2=>cases h
  rename_i b1 b2 h4 h5
  obtain ⟨u,k1,k2⟩:=j01 hx h1
  obtain ⟨v,k3,k4⟩:=j01 hy h2
  unfold jrf
  rw [if_neg hn,k1,k3,h3]
  simp only [jo6 k2 k4 h4,j4s hx hy h5]
  exact h
def qlb (P:Program) (t:TypeId) (xs ys:List TC):Option Bool:=match P.underlying t,vTs xs,vTs ys with
 | some (.struct fs),some _,some _=>if P.stoodInHeld t=false∧P.eqGuardType P.depth t=false then jl3 P fs.toList xs ys else none
 | _,_,_=>none
theorem qhs {t:TypeId} {xs ys:List TC} {b:Bool} (h:qlb P t xs ys=some b):qal P t (xs.map eC) (ys.map eC)=some b:=by
 unfold qlb at h
 split at h
 case h_2=>cases h
 rename_i fs us vs hu hx hy
 split at h
 case isFalse=>cases h
 rename_i hc
 unfold qal
 rw [hu,jdd hx,jdd hy]
 simp only
 rw [if_pos hc]
 exact j4s hx hy h
def jc9 (P:Program) (op:BinOp) (T:TypeId) (x y:TD) (k:TRes→Option α):Option α:=match x,y with
 | .one (.c (.d (.int kx) a)),.one (.c (.d (.int ky) b))=>intT op kx ky a b (fun c=>k (vC c))
 | .one (.c (.d .str s)),.one (.c (.d .str t))=>strT op s t (fun c=>k (vC c))
 | .one (.c (.d .bool a)),.one (.c (.d .bool b))=>match P.underlying T,op with
  | some .bool,.eql=>k (vC (.d .bool (decide ((a:Bool)=b))))
  | some .bool,.neq=>k (vC (.d .bool (!decide ((a:Bool)=b))))
  | _,_=>none
 | .one (.agg xs),.one (.agg ys)=>match op,qlb P T xs ys with
  | .eql,some b=>k (vC (.d .bool b))
  | .neq,some b=>k (vC (.d .bool (!b)))
  | _,_=>none
 | _,_=>none
theorem jb9 {op:BinOp} {T:TypeId} {x y:TD} {k:TRes→Option α} {r:α} (h:jc9 P op T x y k=some r) : ∃ z,k z=some r∧Sim (q97 P op T (eD x) (eD y)) z:=by
 unfold jc9 at h
 split at h
 ·obtain ⟨z,h1,h2⟩:=jqy (P:=P) (T:=T) h
  exact ⟨_,h1,h2⟩
 ·obtain ⟨z,h1,h2⟩:=jp7 (P:=P) (T:=T) h
  exact ⟨_,h1,h2⟩
 ·split at h
  ·rename_i hu
   exact ⟨_,h,Sim.tr (by simp only [q97,eD,e1,eC,q0l,List.headD_cons,eqV,hu,Option.map_some];rfl)⟩
  ·rename_i hu
   exact ⟨_,h,Sim.tr (by simp only [q97,eD,e1,eC,q0l,List.headD_cons,eqV,hu,Option.map_some];rfl)⟩
  ·cases h
 ·split at h
  ·rename_i b hb
   exact ⟨_,h,Sim.tr (by simp only [q97,eD,e1,qhs hb,Option.map_some];rfl)⟩
  ·rename_i b hb
   exact ⟨_,h,Sim.tr (by simp only [q97,eD,e1,qhs hb,Option.map_some];rfl)⟩
  ·cases h
 ·cases h
def jpw (op:UnOp) (x:TD) (k:TRes→Option α):Option α:=match op,x with
 | .not,.one (.c (.d .bool b))=>k (vC (.d .bool (!(b:Bool))))
 | .neg,.one (.c (.d (.int kk) n))=>k (vC (.d (.int kk) (kk.wrap (0 - (n:Int)))))
 | _,_=>none
theorem jlj {op:UnOp} {x:TD} {k:TRes→Option α} {r:α} (h:jpw op x k=some r) : ∃ z,k z=some r∧Sim (jra op (eD x)) z:=by
 unfold jpw at h
 split at h
 ·exact ⟨_,h,Sim.tr rfl⟩
 ·exact ⟨_,h,Sim.tr rfl⟩
 ·cases h
def j1y (P:Program) (src dst:TypeId) (x:TD) (k:TRes→Option α):Option α:=match P.underlying src,P.underlying dst,x with
 | some _,some (.int kk),.one (.c (.d (.int _) n))=>q0n (kk.wrap n) fun z=>k (vC (.d (.int kk) z))
 | some .string,some .string,.one (.c (.d .str s))=>k (vC (.d .str s))
 | _,_,_=>none
theorem j9n {src dst:TypeId} {x:TD} {k:TRes→Option α} {r:α} (h:j1y P src dst x k=some r) : ∃ z,k z=some r∧Sim (qbn P src dst (eD x)) z:=by
 unfold j1y at h
 split at h
 ·rename_i h1 h2
  exact ⟨_,h,Sim.tr (by simp only [qbn,eD,e1,eC,q0l,List.headD_cons,h1,h2];rfl)⟩
 ·rename_i h1 h2
  exact ⟨_,h,Sim.tr (by simp only [qbn,eD,e1,eC,q0l,List.headD_cons,h1,h2];rfl)⟩
 ·cases h
def qrw (P:Program) (src dst:TypeId):Bool:=match P.underlying src,P.underlying dst with
 | some (.slice _),some .string=>true
 | some .string,some (.slice _)=>true
 | _,_=>false
def bytO (s:List UInt8):Option (List Int):=if s.length≤9223372036854775807 then some (s.map fun b=>((b.toNat:Nat):Int)) else none
def qg9 (P:Program) (o:Option Nat) (src dst:TypeId) (x:TD) (σ:TSt) (k:TRes→Option α):Option α:=match P.underlying src,P.underlying dst with
 | some (.slice e),some .string=>match P.underlying e,srcT x σ with
  | some (.int .u8),some ⟨.int .u8,xs⟩=>k (vC (.d .str ((xs:List Int).map fun n=>UInt8.ofNat n.toNat)))
  | _,_=>none
 | some .string,some (.slice e)=>match P.underlying e,x,o with
  | some (.int .u8),.one (.c (.d .str s)),some i=>match lk σ.rows i with
   | none=>if e<1099511627776 then (bytO s).bind fun xs=>k { val:=.one (.c (.row i 0)),row:=some (i,⟨0,e+1099511627776,true,.int .u8,xs⟩) } else none
   | some _=>none
  | _,_,_=>none
 | _,_=>none
theorem qz5 : ∀ (xs:List Int),qwe (xs.map (q0l (.int .u8)))=some xs
 | []=>rfl
 | x::xs=>by
  show (qwe (xs.map (q0l (.int .u8)))).map (x :: ·)=_
  rw [qz5 xs];rfl
theorem j5c : ∀ (xs:List Int) (b:List UInt8),xs.foldl (fun r n=>r.push (UInt8.ofNat n.toNat)) (ba b)=ba (b++xs.map fun n=>UInt8.ofNat n.toNat)
 | [],b=>by simp
 | x::xs,b=>by
  rw [List.foldl_cons,show (ba b).push (UInt8.ofNat x.toNat)=ba (b ++ [UInt8.ofNat x.toNat]) from by simp [ba,ByteArray.push],j5c xs]
  simp
theorem jid (xs:List Int):strOf xs=ba (xs.map fun n=>UInt8.ofNat n.toNat):=by
 have:=j5c xs []
 rw [List.nil_append] at this
 exact this
theorem j0k {src dst:TypeId} {x:D} (h:qrw P src dst=true):qbn P src dst x=none:=by
 unfold qrw at h
 unfold qbn
 split at h
 ·rename_i h1 h2;rw [h1,h2]
 ·rename_i h1 h2;rw [h1,h2]
 ·cases h
theorem qul {o:Option Nat} {src dst:TypeId} {x:TD} {k:TRes→Option α} {r:α} (h:qg9 P o src dst x σ k=some r) : ∃ z,k z=some r∧Sim (q37 P o src dst (eD x) (eS σ).row) z:=by
 unfold qg9 at h
 split at h
 ·rename_i e h1 h2
  split at h
  case h_2=>cases h
  rename_i xs he hx
  have hs:=jgv hx
  have hs':qio 1 (eD x) (eS σ).row=some (xs.map (q0l (.int .u8))):=hs
  refine ⟨_,h,Sim.tr ?_⟩
  have hi:qwe (List.map (q0l (.int .u8)) xs)=some xs:=qz5 xs
  simp only [q37,h1,h2,he,hs',Option.bind_some]
  rw [hi]
  simp only [jid]
  rfl
 ·rename_i e h1 h2
  split at h
  case h_2=>cases h
  rename_i s i he
  split at h
  case h_2=>cases h
  rename_i hr
  split at h
  case isFalse=>cases h
  rename_i hlt
  obtain ⟨xs,hxs,h⟩:=Option.bind_eq_some_iff.1 h
  unfold bytO at hxs
  split at hxs
  case isFalse=>cases hxs
  rename_i hle
  simp only [Option.some.injEq] at hxs;subst hxs
  refine ⟨_,h,(ba s).size≤maxLen,by rw [q29];exact hle,?_⟩
  simp only [q37,h1,h2,he,eD,e1,eC,q0l,List.headD_cons,qac hr]
  rw [if_pos hlt]
  have e3:(ba s).data.toList=s:=by simp [ba]
  rw [e3]
  simp only [qbk,eD,e1,eC,Option.map_none,Option.map_some,eR,List.map_map]
  rfl
 ·cases h
def j23 (c x y:TD) (k:TRes→Option α):Option α:=match c with
 | .one (.c (.d .bool t))=>bif t then k { val:=x } else k { val:=y }
 | _=>none
theorem j7l {c x y:TD} {k:TRes→Option α} {r:α} (h:j23 c x y k=some r) : ∃ z,k z=some r∧Sim (qqb (eD c) (eD x) (eD y)) z:=by
 unfold j23 at h
 split at h
 case h_2=>cases h
 rename_i t
 cases t with
 | true=>exact ⟨_,h,Sim.tr rfl⟩
 | false=>exact ⟨_,h,Sim.tr rfl⟩
def makO (b:Nat) (q:Int) (n:Int):Option (List Int):=if 0≤n∧n≤16777216∧b*n.toNat≤281474976710656 then some (List.replicate n.toNat q) else none
def j0e (P:Program) (dst:Option Nat) (t:TypeId) (x:TD) (σ:TSt) (k:TRes→Option α):Option α:=match P.underlying t,dst,x with
 | some (.slice el),some i,.one (.c (.d (.int _) n))=>match lk σ.rows i,(P.info? el).map (fun i=>(i.zero,i.size,i.bytes)) with
  | none,some (some (Value.int kk q),1,b)=>bif Nat.blt el 1099511627776 then (makO b q n).bind fun xs=>k { val:=.one (.c (.row i 0)),row:=some (i,⟨0,el,true,.int kk,xs⟩) } else none
  | _,_=>none
 | _,_,_=>none
theorem jaf {dst:Option Nat} {t:TypeId} {x:TD} {k:TRes→Option α} {r:α} (h:j0e P dst t x σ k=some r) : ∃ y,k y=some r∧Sim (qes P dst t (eD x) (eS σ).row) y:=by
 unfold j0e at h
 split at h
 case h_2=>cases h
 rename_i el i kx n hu
 split at h
 case h_2=>cases h
 rename_i kk q b hr hinf
 cases hb:Nat.blt el 1099511627776 with
 | false=>rw [hb] at h;cases h
 | true =>
  rw [hb] at h
  have hlt:el<1099511627776:=by simpa using hb
  obtain ⟨xs,hxs,h⟩:=Option.bind_eq_some_iff.1 h
  unfold makO at hxs
  split at hxs
  case isFalse=>cases hxs
  rename_i hc
  simp only [Option.some.injEq] at hxs;subst hxs
  refine ⟨_,h,Sim.tr ?_⟩
  simp only [qes,hu,eD,e1,eC,q0l,List.headD_cons,qac hr,hinf]
  rw [if_pos ⟨hc.1,hc.2.1,hc.2.2,hlt⟩]
  simp only [qbk,eD,e1,eC,Option.map_none,Option.map_some,eR,List.map_replicate]
  rfl
def jl4 (f:Int→Int→Int) (x y:TD) (k:TRes→Option α):Option α:=match x,y with
 | .one (.c (.d (.int kk) n)),.one (.c (.d (.int _) m))=>q0n (f n m) fun z=>k (vC (.d (.int kk) z))
 | _,_=>none
theorem j6n {f:Int→Int→Int} {x y:TD} {k:TRes→Option α} {r:α} (h:jl4 f x y k=some r) : ∃ z,k z=some r∧Sim (jjd f (eD x) (eD y)) z:=by
 unfold jl4 at h
 split at h
 case h_2=>cases h
 exact ⟨_,h,Sim.tr rfl⟩
def vTI:TC→Option Value
 | .d (.int k) n=>some (.int k n)
 | .d .bool b=>some (.bool b)
 | .d .str s=>some (.string (ba s))
 | .d .any v=>some (Subtype.val (v:IV))
 | _=>none
def ju0:List TC→Option (List Value)
 | []=>some []
 | c::cs=>match vTI c,ju0 cs with
  | some x,some xs=>some (x::xs)
  | _,_=>none
def vTD:TD→Option Value
 | .one (.c c)=>vTI c
 | .one (.agg cs)=>(ju0 cs).map fun xs=>.agg ⟨xs⟩
 | .tup _=>none
theorem jn6 {c:TC} {v:Value} (h:vTI c=some v):jrg (eC c)=some v:=by
 unfold vTI at h
 split at h<;>simp only [Option.some.injEq,reduceCtorEq] at h<;>subst h<;>rfl
theorem jb6 : ∀ {cs:List TC} {xs:List Value},ju0 cs=some xs→qt4 (cs.map eC)=some xs
 | [],xs,h=>by simp only [ju0,Option.some.injEq] at h;subst h;rfl
 | c::cs,xs,h=>by
  unfold ju0 at h
  split at h
  case h_2=>cases h
  rename_i x ys hx hy
  simp only [Option.some.injEq] at h;subst h
  rw [List.map_cons]
  unfold qt4
  rw [jn6 hx,jb6 hy]
theorem jtb {d:TD} {v:Value} (h:vTD d=some v):jrp (eD d)=some v:=by
 unfold vTD at h
 split at h
 ·exact jn6 h
 ·obtain ⟨xs,h1,rfl⟩:=Option.map_eq_some_iff.1 h
  show (qt4 _).map _=_
  rw [jb6 h1];rfl
 ·cases h
def qts (P:Program) (t:TypeId) (x:TD) (k:TRes→Option α):Option α:=match P.concrete t,vTD x with
 | true,some v=>k (vC (.d .any (jn4 t v)))
 | _,_=>none
theorem qzv {t:TypeId} {x:TD} {k:TRes→Option α} {r:α} (h:qts P t x k=some r) : ∃ z,k z=some r∧Sim (qcv P t (eD x)) z:=by
 unfold qts at h
 split at h
 case h_2=>cases h
 rename_i v hc hv
 exact ⟨_,h,Sim.tr (by unfold qcv;rw [hc,jtb hv];rfl)⟩
def j1b (P:Program) (op:BinOp) (t:TypeId) (x:TD) (k:TRes→Option α):Option α:=match j4o P t,op,x with
 | true,.eql,.one (.c (.d .any v))=>(q6e (Subtype.val (v:IV))).bind fun b=>k (vC (.d .bool b))
 | true,.neq,.one (.c (.d .any v))=>(q6e (Subtype.val (v:IV))).bind fun b=>k (vC (.d .bool (!b)))
 | _,_,_=>none
theorem j8x {op:BinOp} {t:TypeId} {x:TD} {k:TRes→Option α} {r:α} (h:j1b P op t x k=some r) : ∃ z,k z=some r∧Sim (qho P op t (eD x)) z:=by
 unfold j1b at h
 split at h
 case h_3=>cases h
 ·rename_i v hc
  obtain ⟨b,hb,h⟩:=Option.bind_eq_some_iff.1 h
  exact ⟨_,h,Sim.tr (by simp only [qho,hc,eD,e1,eC,q0l,List.headD_cons,hb,Option.map_some];rfl)⟩
 ·rename_i v hc
  obtain ⟨b,hb,h⟩:=Option.bind_eq_some_iff.1 h
  exact ⟨_,h,Sim.tr (by simp only [qho,hc,eD,e1,eC,q0l,List.headD_cons,hb,Option.map_some];rfl)⟩
def w1 (x:Option TD) (f:TD→Option α):Option α:=match x with|some y=>f y|none=>none
def w0 (σ:TSt) (x:Option Operand) (f:Option TD→Option α):Option α:=match x with
 | none=>f none
 | some x=>match q1s σ x with|some y=>f (some y)|none=>none
theorem q1g {x:Option TD} {f:TD→Option α} {r:α} (h:w1 x f=some r) : ∃ y,x=some y∧f y=some r:=by
 cases x with
 | none=>cases h
 | some y=>exact ⟨y,rfl,h⟩
theorem jeh {x:Option Operand} {f:Option TD→Option α} {r:α} (h:w0 σ x f=some r) : ∃ y,x.map (opnd (eS σ))=y.map eD∧f y=some r:=by
 cases x with
 | none=>exact ⟨none,rfl,h⟩
 | some x =>
  unfold w0 at h
  simp only at h
  split at h
  ·rename_i y hy
   exact ⟨some y,by rw [Option.map_some,Option.map_some,q0t hy],h⟩
  ·cases h
def rowD:TD→Bool
 | .one (.c (.row _ _))=>true
 | _=>false
def tev (P:Program) (o:Oper) (σ:TSt) (k:TRes→Option α):Option α:=match o.op with
 | .move x=>w1 (q1s σ x) fun y=>k { val:=y }
 | .assign x=>w1 (q1s σ x) fun y=>k { val:=y }
 | .pick c x y=>w1 (q1s σ c) fun c=>w1 (q1s σ x) fun x=>w1 (q1s σ y) fun y=>j23 c x y k
 | .alloc t=>qub P o.dst t σ k
 | .box t x=>w1 (q1s σ x) fun x=>jdk o.dst t x σ k
 | .load t x=>w1 (q1s σ x) fun x=>j17 P t x σ k
 | .store t x y=>w1 (q1s σ x) fun x=>w1 (q1s σ y) fun y=>qrx P t x y σ k
 | .fieldAddr t x f=>w1 (q1s σ x) fun x=>q9f P t x f k
 | .field t x f=>w1 (q1s σ x) fun x=>qu9 P t x f k
 | .index t x i=>w1 (q1s σ x) fun x=>w1 (q1s σ i) fun i=>qt5 P t x i k
 | .indexAddr t x i=>w1 (q1s σ x) fun x=>w1 (q1s σ i) fun i=>q9n P t x i σ k
 | .extract x i=>w1 (q1s σ x) fun x=>qga x i k
 | .build t ps=>qso P t ps σ k
 | .buildSlice t n ps=>q7n P o.dst t n ps σ k
 | .binOp op t x y _=>bif qc9 y then w1 (q1s σ x) fun x=>j1b P op t x k else w1 (q1s σ x) fun x=>w1 (q1s σ y) fun y=>jc9 P op t x y k
 | .makeInterface t x=>w1 (q1s σ x) fun x=>qts P t x k
 | .unOp op _ x=>w1 (q1s σ x) fun x=>jpw op x k
 | .convert s d x=>w1 (q1s σ x) fun x=>bif qrw P s d then qg9 P o.dst s d x σ k else j1y P s d x k
 | .slice t x lo hi none=>w1 (q1s σ x) fun x=>w0 σ lo fun lo=>w0 σ hi fun hi=>bif rowD x then qcc P t x lo hi σ k else qsk P t x lo hi k
 | .nilCheck x=>w1 (q1s σ x) fun x=>jgt x k
 | .call ⟨.builtin .len,⟨[x]⟩,⟨[t]⟩⟩=>w1 (q1s σ x) fun x=>jen P t x σ k
 | .call ⟨.builtin .append,⟨[s,x]⟩,⟨[t,t']⟩⟩=>if t=t' then w1 (q1s σ s) fun s=>w1 (q1s σ x) fun x=>qm1 P o.dst t s x σ k else none
 | .makeSlice t x y=>bif qhw x y then w1 (q1s σ x) fun x=>j0e P o.dst t x σ k else none
 | .call ⟨.builtin .max,⟨[x,y]⟩,⟨[_,_]⟩⟩=>w1 (q1s σ x) fun x=>w1 (q1s σ y) fun y=>jl4 max x y k
 | .call ⟨.builtin .min,⟨[x,y]⟩,⟨[_,_]⟩⟩=>w1 (q1s σ x) fun x=>w1 (q1s σ y) fun y=>jl4 min x y k
 | _=>none
theorem jml {o:Oper} {k:TRes→Option α} {r:α} (h:tev P o σ k=some r) : ∃ y,k y=some r∧Sim (qft P o (opnd (eS σ)) (eS σ).box (eS σ).row) y:=by
 unfold tev at h
 unfold qft
 split at h
 ·rename_i ho;rw [ho]
  obtain ⟨x1,e1',h⟩:=q1g h
  exact ⟨_,h,Sim.tr (by show some _=_;rw [q0t e1'];rfl)⟩
 ·rename_i ho;rw [ho]
  obtain ⟨x1,e1',h⟩:=q1g h
  exact ⟨_,h,Sim.tr (by show some _=_;rw [q0t e1'];rfl)⟩
 ·rename_i ho;rw [ho]
  obtain ⟨x1,e1',h⟩:=q1g h
  obtain ⟨x2,e2',h⟩:=q1g h
  obtain ⟨x3,e3',h⟩:=q1g h
  show ∃ y,_∧Sim (qqb _ _ _) y
  rw [q0t e1',q0t e2',q0t e3'];exact j7l h
 ·rename_i ho;rw [ho]
  exact j16 h
 ·rename_i ho;rw [ho]
  obtain ⟨x1,e1',h⟩:=q1g h
  show ∃ y,_∧Sim (qmw _ _ _ _) y
  rw [q0t e1'];exact jbj h
 ·rename_i ho;rw [ho]
  obtain ⟨x1,e1',h⟩:=q1g h
  show ∃ y,_∧Sim (q8k _ _ _ _ _) y
  rw [q0t e1'];exact j9d h
 ·rename_i ho;rw [ho]
  obtain ⟨x1,e1',h⟩:=q1g h
  obtain ⟨x2,e2',h⟩:=q1g h
  show ∃ y,_∧Sim (q41 _ _ _ _ _ _) y
  rw [q0t e1',q0t e2'];exact j20 h
 ·rename_i ho;rw [ho]
  obtain ⟨x1,e1',h⟩:=q1g h
  show ∃ y,_∧Sim (q2e _ _ _ _) y
  rw [q0t e1'];exact qmh h
 ·rename_i ho;rw [ho]
  obtain ⟨x1,e1',h⟩:=q1g h
  show ∃ y,_∧Sim (q99 _ _ _ _) y
  rw [q0t e1'];exact j32 h
 ·rename_i ho;rw [ho]
  obtain ⟨x1,e1',h⟩:=q1g h
  obtain ⟨x2,e2',h⟩:=q1g h
  show ∃ y,_∧Sim (q4p _ _ _ _) y
  rw [q0t e1',q0t e2'];exact j0t h
 ·rename_i ho;rw [ho]
  obtain ⟨x1,e1',h⟩:=q1g h
  obtain ⟨x2,e2',h⟩:=q1g h
  show ∃ y,_∧Sim (q1p _ _ _ _ _) y
  rw [q0t e1',q0t e2'];exact qnv h
 ·rename_i ho;rw [ho]
  obtain ⟨x1,e1',h⟩:=q1g h
  show ∃ y,_∧Sim (q5a _ _) y
  rw [q0t e1'];exact qsm h
 ·rename_i ho;rw [ho]
  exact j1d h
 ·rename_i ho;rw [ho]
  exact qih h
 ·rename_i ho;rw [ho]
  show ∃ y,_∧Sim (bif qc9 _ then qho _ _ _ _ else q97 _ _ _ _ _) y
  cases hn:qc9 _ with
  | true =>
   rw [hn] at h
   obtain ⟨x1,e1',h⟩:=q1g h
   rw [q0t e1'];exact j8x h
  | false =>
   rw [hn] at h
   obtain ⟨x1,e1',h⟩:=q1g h
   obtain ⟨x2,e2',h⟩:=q1g h
   rw [q0t e1',q0t e2'];exact jb9 h
 ·rename_i ho;rw [ho]
  obtain ⟨x1,e1',h⟩:=q1g h
  show ∃ y,_∧Sim (qcv _ _ _) y
  rw [q0t e1'];exact qzv h
 ·rename_i ho;rw [ho]
  obtain ⟨x1,e1',h⟩:=q1g h
  show ∃ y,_∧Sim (jra _ _) y
  rw [q0t e1'];exact jlj h
 ·rename_i ho;rw [ho]
  obtain ⟨x1,e1',h⟩:=q1g h
  show ∃ y,_∧Sim (match qbn _ _ _ _ with|some r=>some r|none=>q37 _ _ _ _ _ _) y
  rw [q0t e1']
  cases hb:qrw P _ _ with
  | true =>
   rw [hb] at h
   rw [j0k hb]
   exact qul h
  | false =>
   rw [hb] at h
   obtain ⟨y,h1,c,h2,h3⟩:=j9n (P:=P) h
   rw [h3]
   exact ⟨y,h1,c,h2,rfl⟩
 ·rename_i ho;rw [ho]
  obtain ⟨x1,e1',h⟩:=q1g h
  obtain ⟨x2,e2',h⟩:=jeh h
  obtain ⟨x3,e3',h⟩:=jeh h
  show ∃ y,_∧Sim (match q5m _ _ _ _ _ with|some r=>some r|none=>q30 _ _ _ _ _ _) y
  rw [q0t e1',e2',e3']
  cases hb:rowD x1 with
  | true =>
   rw [hb] at h
   obtain ⟨y,h1,h2,h3⟩:=qoc (P:=P) h
   rw [h2]
   exact ⟨y,h1,h3⟩
  | false =>
   rw [hb] at h
   obtain ⟨y,h1,c,h2,h3⟩:=qzz (P:=P) h
   rw [h3]
   exact ⟨y,h1,c,h2,rfl⟩
 ·rename_i ho;rw [ho]
  obtain ⟨x1,e1',h⟩:=q1g h
  show ∃ y,_∧Sim (ji4 _) y
  rw [q0t e1'];exact jb1 h
 ·rename_i ho;rw [ho]
  obtain ⟨x1,e1',h⟩:=q1g h
  show ∃ y,_∧Sim (qgs _ _ _ _) y
  rw [q0t e1'];exact jgi h
 ·rename_i ho;rw [ho]
  split at h
  case isFalse=>cases h
  rename_i ht
  obtain ⟨x1,e1',h⟩:=q1g h
  obtain ⟨x2,e2',h⟩:=q1g h
  show ∃ y,_∧Sim (if _=_ then q31 _ _ _ _ _ _ else none) y
  rw [if_pos ht,q0t e1',q0t e2'];exact qv3 h
 ·rename_i ho;rw [ho]
  cases hs:qhw _ _ with
  | false=>rw [hs] at h;cases h
  | true =>
   rw [hs] at h
   obtain ⟨x1,e1',h⟩:=q1g h
   show ∃ y,_∧Sim (bif qhw _ _ then qes _ _ _ _ _ else none) y
   rw [hs,q0t e1'];exact jaf h
 ·rename_i ho;rw [ho]
  obtain ⟨x1,e1',h⟩:=q1g h
  obtain ⟨x2,e2',h⟩:=q1g h
  show ∃ y,_∧Sim (jjd _ _ _) y
  rw [q0t e1',q0t e2'];exact j6n h
 ·rename_i ho;rw [ho]
  obtain ⟨x1,e1',h⟩:=q1g h
  obtain ⟨x2,e2',h⟩:=q1g h
  show ∃ y,_∧Sim (jjd _ _ _) y
  rw [q0t e1',q0t e2'];exact j6n h
 ·cases h
end Go.Proofs.YthpgnliicpejoaaGreatDoor.AM
