
import Derived.Test.YtapfankgdkdkgaaGreatDoorEa4
set_option linter.unusedVariables false
set_option linter.unusedSimpArgs false
namespace Go.Proofs.YtapfankgdkdkgaaGreatDoor.AM
open Go.RowKit
variable {α:Type} {P:Program} {σ:TSt}
def j52 (d:Int):Option TD→Option Int
 | none=>some d
 | some (.one (.c (.d (.int _) n)))=>some n
 | some _=>none
theorem q9s {d n:Int} {x:Option TD} (h:j52 d x=some n):bnd d (x.map eD)=some n:=by
 unfold j52 at h
 split at h
 ·simp only [Option.some.injEq] at h;subst h;rfl
 ·simp only [Option.some.injEq] at h;subst h;rfl
 ·cases h
def qhr (P:Program) (t:TypeId) (x:TD) (lo hi:Option TD) (k:TRes→Option α):Option α:=match P.underlying t,x with
 | some .string,.one (.c (.d .str s))=>match j52 0 lo,j52 (List.length s) hi with
  | some l,some h=>(q1c s l h).bind fun y=>k { val:=.one (.c (.d .str y)) }
  | _,_=>none
 | some (.slice el),.one (.c (.d (.lst e) xs))=>match j52 0 lo,j52 (List.length xs) hi with
  | some l,some h=>if tsz P el=some (width e) then (q1c xs l h).bind fun y=>k { val:=.one (.c (.d (.lst e) y)) } else none
  | _,_=>none
 | _,_=>none
theorem qef {β:Type} {l:List β} {a b:Int} {y:List β} (h:q1c l a b=some y):(0≤a∧a≤b∧b≤l.length)∧y=(l.drop a.toNat).take (b.toNat - a.toNat):=by
 unfold q1c at h
 split at h
 case isFalse=>cases h
 rename_i hc
 simp only [Option.some.injEq] at h
 exact ⟨hc,h.symm⟩
theorem q1w (s:Yy):(ba s).size=s.length:=by simp [ba,ByteArray.size]
theorem q9n (s:Yy) (a b:Nat):(ba s).extract a b=ba ((s.drop a).take (b - a)):=by
 unfold ba
 apply ByteArray.ext
 rw [ByteArray.data_extract]
 apply Array.toList_inj.1
 rw [Array.toList_extract,List.extract_eq_take_drop]
theorem qnu {t:TypeId} {x:TD} {lo hi:Option TD} {k:TRes→Option α} {r:α} (h:qhr P t x lo hi k=some r) : ∃ y,k y=some r∧Sim (q3p P t (eD x) (lo.map eD) (hi.map eD)) y:=by
 unfold qhr at h
 split at h
 ·rename_i s hu
  split at h
  case h_2=>cases h
  rename_i l hh hl hhh
  obtain ⟨y,hy,h⟩:=Option.bind_eq_some_iff.1 h
  obtain ⟨h1,rfl⟩:=qef hy
  refine ⟨_,h,_,h1,?_⟩
  simp only [q3p,eD,e1,eC,q00,List.headD_cons,hu,q9s hl,q9n,q1w,q9s hhh]
  rfl
 ·rename_i el e xs hu
  split at h
  case h_2=>cases h
  rename_i l hh hl hhh
  split at h
  case isFalse=>cases h
  rename_i hsz
  obtain ⟨y,hy,h⟩:=Option.bind_eq_some_iff.1 h
  obtain ⟨h1,rfl⟩:=qef hy
  refine ⟨_,h,_,h1,?_⟩
  simp only [q3p,eD,e1,eC,q00,List.headD_cons,hu,q9s hl,hsz,if_true,List.length_map,← List.map_drop,← List.map_take,q9s hhh]
  rfl
 ·cases h
def q7j (P:Program) (t:TypeId) (x:TD) (lo hi:Option TD) (σ:TSt) (k:TRes→Option α):Option α:=match P.underlying t,x with
 | some (.slice el),.one (.c (.row tt g))=>match lk σ.rows tt with
  | some r=>match j52 0 lo,j52 (List.length r.xs) hi with
   | some l,some h=>if r.gen=g∧tsz P el=some (width r.e) then (q1c r.xs l h).bind fun y=>k { val:=.one (.c (.d (.lst r.e) y)),row:=some (tt,{ r with wr:=false }) } else none
   | _,_=>none
  | none=>none
 | _,_=>none
theorem qp5 {t:TypeId} {tt g:Nat} {lo hi:Option D} : q3p P t (.one (.c (.row tt g))) lo hi=none:=by
 unfold q3p
 split
 ·rename_i h;cases h
 ·rename_i h;cases h
 ·rfl
theorem qfw {t:TypeId} {x:TD} {lo hi:Option TD} {k:TRes→Option α} {r:α} (h:q7j P t x lo hi σ k=some r) : ∃ y,k y=some r∧q3p P t (eD x) (lo.map eD) (hi.map eD)=none∧Sim (q1n P t (eD x) (lo.map eD) (hi.map eD) (eS σ).row) y:=by
 unfold q7j at h
 split at h
 case h_2=>cases h
 rename_i el tt g hu
 split at h
 case h_2=>cases h
 rename_i r' hr
 split at h
 case h_2=>cases h
 rename_i l hh hl hhh
 split at h
 case isFalse=>cases h
 rename_i hg
 obtain ⟨y,hy,h⟩:=Option.bind_eq_some_iff.1 h
 obtain ⟨h1,rfl⟩:=qef hy
 refine ⟨_,h,qp5,_,h1,?_⟩
 have hlen:(eR r').xs.length=r'.xs.length:=by simp [eR]
 obtain ⟨rfl,hsz⟩:=hg
 have hg':(eR r').gen=r'.gen∧tsz P el=some (eR r').sz:=⟨rfl,hsz⟩
 simp only [q1n,eD,e1,eC,hu,q1u hr,q9s hl,hlen,q9s hhh]
 rw [if_pos hg']
 have e2:((eR r').xs.drop l.toNat).take (hh.toNat - l.toNat)=((r'.xs.drop l.toNat).take (hh.toNat - l.toNat)).map (q00 r'.e):=by simp [eR]
 rw [e2]
 rfl
def qws (x:TD) (k:TRes→Option α):Option α:=match x with
 | .one (.c (.box β o))=>k { val:=.one (.c (.box β o)) }
 | .one (.c (.rp e o y))=>k { val:=.one (.c (.rp e o y)) }
 | .one (.c (.wp t g j o))=>k { val:=.one (.c (.wp t g j o)) }
 | .one (.c (.bp β o l n))=>k { val:=.one (.c (.bp β o l n)) }
 | _=>none
theorem qwg {x:TD} {k:TRes→Option α} {r:α} (h:qws x k=some r) : ∃ y,k y=some r∧Sim (qwu (eD x)) y:=by
 unfold qws at h
 split at h
 ·exact ⟨_,h,Sim.tr rfl⟩
 ·exact ⟨_,h,Sim.tr rfl⟩
 ·exact ⟨_,h,Sim.tr rfl⟩
 ·exact ⟨_,h,Sim.tr rfl⟩
 ·cases h
def qvf (P:Program) (t:TypeId) (x:TD) (σ:TSt) (k:TRes→Option α):Option α:=match P.underlying t,x with
 | some .string,.one (.c (.d .str s))=>k { val:=.one (.c (.d (.int .i64) (List.length s:Nat))) }
 | some (.slice _),.one (.c (.d (.lst _) xs))=>k { val:=.one (.c (.d (.int .i64) (List.length xs:Nat))) }
 | some (.slice _),.one (.c .nil)=>k { val:=.one (.c (.d (.int .i64) (0:Int))) }
 | some (.slice _),.one (.c (.row tt g))=>match lk σ.rows tt with
  | some r=>if r.gen=g then k { val:=.one (.c (.d (.int .i64) (List.length r.xs:Nat))) } else none
  | none=>none
 | _,_=>none
theorem qwd {t:TypeId} {x:TD} {k:TRes→Option α} {r:α} (h:qvf P t x σ k=some r) : ∃ y,k y=some r∧Sim (qaa P t (eD x) (eS σ).row) y:=by
 unfold qvf at h
 split at h
 ·rename_i s hu
  refine ⟨_,h,Sim.tr ?_⟩
  simp only [qaa,eD,e1,eC,q00,List.headD_cons,hu,q1w]
  rfl
 ·rename_i el e xs hu
  refine ⟨_,h,Sim.tr ?_⟩
  simp only [qaa,eD,e1,eC,q00,List.headD_cons,hu,List.length_map]
  rfl
 ·rename_i el hu
  refine ⟨_,h,Sim.tr ?_⟩
  simp only [qaa,eD,e1,eC,hu]
  rfl
 ·rename_i el tt g hu
  split at h
  case h_2=>cases h
  rename_i r' hr
  split at h
  case isFalse=>cases h
  rename_i hg
  refine ⟨_,h,Sim.tr ?_⟩
  have hg':(eR r').gen=g:=hg
  simp only [qaa,eD,e1,eC,hu,q1u hr,hg',if_true]
  have:(eR r').xs.length=r'.xs.length:=by simp [eR]
  rw [this]
  rfl
 ·cases h
def qmc (place:Nat→Option (Nat×Nat)) (cs:List TC):List (Nat×List TC)→Option (List TC)
 | []=>some cs
 | (i,xs)::rest=>match place i with
  | some (off,size)=>if xs.length=size∧off+xs.length≤cs.length then qmc place (setAt cs off xs) rest else none
  | none=>none
def eQ (q:Nat×List TC):Nat×List C:=(q.1,q.2.map eC)
theorem q93 {place:Nat→Option (Nat×Nat)} : ∀ {qs:List (Nat×List TC)} {cs cs':List TC},qmc place cs qs=some cs'→q9q place (cs.map eC) (qs.map eQ)=some (cs'.map eC)
 | [],cs,cs',h=>by simp only [qmc,Option.some.injEq] at h;subst h;rfl
 | (i,xs)::rest,cs,cs',h=>by
  unfold qmc at h
  split at h
  case h_2=>cases h
  rename_i off size hp
  split at h
  case isFalse=>cases h
  rename_i hc
  have h3:=q93 h
  rw [q5z] at h3
  show (match place i with|some (off,size)=>if (xs.map eC).length=size∧off+(xs.map eC).length≤(cs.map eC).length then q9q place (setAt (cs.map eC) off (xs.map eC)) (rest.map eQ) else none|none=>none)=_
  rw [hp]
  simp only [List.length_map]
  rw [if_pos hc,h3]
def qzh (P:Program) (t:TypeId) (parts:List (Nat×List TC)):Option (List TC):=match qcb P t,layT P t,arrT P t with
 | some z,some pl,_=>match qde z with
  | some cs=>if z.all Value.oneCell'=true then qmc (fun i=>nth pl i) cs parts else none
  | none=>none
 | some z,none,some n=>match qde z with
  | some cs=>if z.all Value.oneCell'=true then qmc (fun i=>some (i*n,n)) cs parts else none
  | none=>none
 | _,_,_=>none
theorem qyu {t:TypeId} {parts:List (Nat×List TC)} {cs:List TC} (h:qzh P t parts=some cs):qd4 P t (parts.map eQ)=some (cs.map eC):=by
 unfold qzh at h
 split at h
 ·rename_i z pl hz hl
  split at h
  case h_2=>cases h
  rename_i cs0 hcs
  split at h
  case isFalse=>cases h
  rename_i ha
  have:=q93 h
  rw [q35 hcs] at this
  simp only [qd4,hz,hl,ha,if_true]
  rw [← this]
  congr 1
  funext i
  rw [q33];simp
 ·rename_i z n hz hl hn
  split at h
  case h_2=>cases h
  rename_i cs0 hcs
  split at h
  case isFalse=>cases h
  rename_i ha
  have:=q93 h
  rw [q35 hcs] at this
  simp only [qd4,hz,hl,hn,ha,if_true]
  exact this
 ·cases h
def qe3 (σ:TSt):List (Nat×Operand)→Option (List (Nat×List TC))
 | []=>some []
 | (i,x)::rest=>match q0i σ x,qe3 σ rest with
  | some (.one d),some r=>if (q44 d).all okT=true then some ((i,q44 d)::r) else none
  | _,_=>none
theorem q8b : ∀ {ps:List (Nat×Operand)} {qs:List (Nat×List TC)},qe3 σ ps=some qs→q5n (opnd (eS σ)) ps=some (qs.map eQ)
 | [],qs,h=>by simp only [qe3,Option.some.injEq] at h;subst h;rfl
 | (i,x)::ps,qs,h=>by
  unfold qe3 at h
  split at h
  case h_2=>cases h
  rename_i d r hd hr
  split at h
  case isFalse=>cases h
  rename_i ha
  simp only [Option.some.injEq] at h
  subst h
  have h1:=q03 hd
  have h2:=q8b hr
  have ha':(q0e (e1 d)).all okC=true:=by rw [q1e];exact qjs ha
  unfold q5n
  rw [h1,h2]
  show (if (q0e (e1 d)).all okC=true then _ else _)=_
  rw [if_pos ha',q1e]
  rfl
def qii (P:Program) (t:TypeId) (ps:Array (Nat×Operand)) (σ:TSt) (k:TRes→Option α):Option α:=match qe3 σ ps.toList with
 | some qs=>match qzh P t qs with
  | some cs=>k { val:=.one (.agg cs) }
  | none=>none
 | none=>none
theorem qpl {t:TypeId} {ps:Array (Nat×Operand)} {k:TRes→Option α} {r:α} (h:qii P t ps σ k=some r) : ∃ y,k y=some r∧Sim (q7p P t ps (opnd (eS σ))) y:=by
 unfold qii at h
 split at h
 case h_2=>cases h
 rename_i qs hqs
 split at h
 case h_2=>cases h
 rename_i cs hcs
 exact ⟨_,h,Sim.tr (by simp only [q7p,q8b hqs,qyu hcs,q5r,eD,e1,Option.map_none])⟩
def jah (f:TypeId→Option (List Ty)):List Field→Option (List Ty)
 | []=>some []
 | fd::fs=>match f fd.type,jah f fs with
  | some a,some b=>some (a++b)
  | _,_=>none
def j8m:List Ty→Option Ty
 | []=>none
 | [t]=>some t
 | t::t'::ts=>(j8m (t'::ts)).map (.prod t)
def tysP (P:Program):Nat→TypeId→Option (List Ty)
 | 0,_=>none
 | n+1,t=>match P.underlying t with
  | some (.int k)=>some [.int k]
  | some .bool=>some [.bool]
  | some .string=>some [.str]
  | some (.slice e)=>((tysP P n e).bind j8m).map fun x=>[.lst x]
  | some (.struct fs)=>jah (tysP P n) fs.toList
  | some (.interface _)=>some [.any]
  | some (.func _ _ _)=>some [.any]
  | some (.pointer _)=>some [.any]
  | _=>none
def tyE (P:Program) (t:TypeId):Option Ty:=(tysP P 9 t).bind j8m
def qp2 (e:Ty):Nat→List TC→Option (List (den e))
 | 0,[]=>some []
 | 0,_::_=>none
 | n+1,cs=>match qg1 e (cs.take (width e)),qp2 e n (cs.drop (width e)) with
  | some x,some xs=>some (x::xs)
  | _,_=>none
theorem qj8 {e:Ty} : ∀ {n:Nat} {cs:List TC} {xs:List (den e)},qp2 e n cs=some xs→cs.map eC=((xs.map (q00 e)).flatten).map C.d∧chunk (width e) n (xs.map (q00 e)).flatten=xs.map (q00 e)
 | 0,[],xs,h=>by simp only [qp2,Option.some.injEq] at h;subst h;exact ⟨rfl,rfl⟩
 | 0,_::_,xs,h=>by simp [qp2] at h
 | n+1,cs,xs,h=>by
  unfold qp2 at h
  split at h
  case h_2=>cases h
  rename_i y ys hy hys
  simp only [Option.some.injEq] at h
  subst h
  obtain ⟨h1,h2⟩:=qj8 hys
  have h3:=q46 hy
  refine ⟨?_,?_⟩
  ·rw [List.map_cons,List.flatten_cons,List.map_append,← h3,← h1,← List.map_append,List.take_append_drop]
  ·rw [List.map_cons,List.flatten_cons,chunk,List.take_append_of_le_length (by rw [q16];exact Nat.le_refl _),List.take_of_length_le (by rw [q16];exact Nat.le_refl _),List.drop_append_of_le_length (by rw [q16];exact Nat.le_refl _),List.drop_eq_nil_of_le (by rw [q16];exact Nat.le_refl _),List.nil_append,h2]
theorem qe4 {β γ:Type} (f:β→γ) (z:List β) : ∀ n,(rep z n).map f=rep (z.map f) n
 | 0=>rfl
 | n+1=>by rw [rep,rep,List.map_append,qe4 f z n]
def q4v (P:Program) (dst:Option Nat) (t:TypeId) (n:Nat) (ps:Array (Nat×Operand)) (σ:TSt) (k:TRes→Option α):Option α:=match P.underlying t,dst with
 | some (.slice el),some i=>match lk σ.rows i,qcb P el,tyE P el,qe3 σ ps.toList with
  | none,some z,some e,some qs=>match qde z with
   | some zt=>if tsz P el=some (width e)∧n*width e≤2 ^ 24∧n≤2 ^ 24∧z.length=width e∧0<width e∧z.all Value.oneCell'=true∧el<1099511627776 then match qmc (fun i=>some (i*width e,width e)) (rep zt n) qs with
     | some cs=>match qp2 e n cs with
      | some xs=>k { val:=.one (.c (.row i 0)),row:=some (i,⟨0,el,true,e,xs⟩) }
      | none=>none
     | none=>none
    else none
   | none=>none
  | _,_,_,_=>none
 | _,_=>none
theorem qay {dst:Option Nat} {t:TypeId} {n:Nat} {ps:Array (Nat×Operand)} {k:TRes→Option α} {r:α} (h:q4v P dst t n ps σ k=some r) : ∃ y,k y=some r∧Sim (q0m P dst t n ps (opnd (eS σ)) (eS σ).row) y:=by
 unfold q4v at h
 split at h
 case h_2=>cases h
 rename_i el i hu
 split at h
 case h_2=>cases h
 rename_i z e qs hr hz he hqs
 split at h
 case h_2=>cases h
 rename_i zt hzt
 split at h
 case isFalse=>cases h
 rename_i hc
 obtain ⟨c1,c2,c3,c4,c5,c6,c7⟩:=hc
 split at h
 case h_2=>cases h
 rename_i cs hcs
 split at h
 case h_2=>cases h
 rename_i xs hxs
 obtain ⟨k1,k2⟩:=qj8 hxs
 have h2:=q93 hcs
 rw [qe4,q35 hzt,← qe4] at h2
 refine ⟨_,h,Sim.tr ?_⟩
 simp only [q0m,hu,q5g hr,c1,hz,q8b hqs]
 rw [if_pos ⟨c2,c3,c4,c5,c6,c7⟩,h2]
 simp only [k1,q4h,k2,q5r,eD,e1,eC,Option.map_none,Option.map_some,eR]
def srcT (x:TD) (σ:TSt):Option ((e:Ty)×List (den e)):=match x with
 | .one (.c (.d (.lst e) xs))=>some ⟨e,xs⟩
 | .one (.c (.row t g))=>match lk σ.rows t with
  | some r=>if r.gen=g then some ⟨r.e,r.xs⟩ else none
  | none=>none
 | _=>none
theorem j0r {x:TD} {s:(e:Ty)×List (den e)} (h:srcT x σ=some s):qb8 (width s.1) (eD x) (eS σ).row=some (s.2.map (q00 s.1)):=by
 unfold srcT at h
 split at h
 ·simp only [Option.some.injEq] at h;subst h
  simp only [qb8,eD,e1,eC,q00,List.headD_cons,if_true]
 ·split at h
  case h_2=>cases h
  rename_i r hr
  split at h
  case isFalse=>cases h
  rename_i hg
  simp only [Option.some.injEq] at h;subst h
  have hg':(eR r).gen=_∧(eR r).sz=width r.e:=⟨hg,rfl⟩
  simp only [qb8,eD,e1,eC,q1u hr]
  rw [if_pos hg'];rfl
 ·cases h
def qdm (P:Program) (dst:Option Nat) (t:TypeId) (s x:TD) (σ:TSt) (k:TRes→Option α):Option α:=match P.underlying t with
 | some (.slice el)=>match qw3 P el,srcT x σ with
  | some (m,bytes),some src=>if m=width src.1 then match s with
    | .one (.c (.row tt g))=>match lk σ.rows tt with
     | some r=>if h:src.1=r.e then if r.gen=g∧r.E=el then
       (q5b bytes r.xs (h ▸ src.2)).bind fun ys=>k { val:=.one (.c (.row tt (g+1))),row:=some (tt,{ r with gen:=g+1,xs:=ys }) } else none else none
     | none=>none
    | .one (.c .nil)=>match dst with
     | some i=>match lk σ.rows i with
      | none=>(q5b bytes [] src.2).bind fun ys=>k { val:=.one (.c (.row i 0)),row:=some (i,⟨0,el,true,src.1,ys⟩) }
      | some _=>none
     | none=>none
    | _=>none
   else none
  | _,_=>none
 | _=>none
theorem qly {β:Type} {b:Nat} {xs ys zs:List β} (h:q5b b xs ys=some zs):(xs.length+ys.length)*b≤140737488355328∧zs=xs++ys:=by
 unfold q5b at h
 split at h
 case isFalse=>cases h
 rename_i hc
 exact ⟨hc,(Option.some.inj h).symm⟩
theorem qnm {dst:Option Nat} {t:TypeId} {s x:TD} {k:TRes→Option α} {r:α} (h:qdm P dst t s x σ k=some r) : ∃ y,k y=some r∧Sim (q1p P dst t (eD s) (eD x) (eS σ).row) y:=by
 unfold qdm at h
 split at h
 case h_2=>cases h
 rename_i el hu
 split at h
 case h_2=>cases h
 rename_i m bytes src hel hsrc
 split at h
 case isFalse=>cases h
 rename_i hm
 subst hm
 have h1:=j0r hsrc
 split at h
 ·rename_i tt g
  split at h
  case h_2=>cases h
  rename_i r' hr
  split at h
  case isFalse=>cases h
  rename_i he
  split at h
  case isFalse=>cases h
  rename_i hg
  obtain ⟨e',ys⟩:=src
  obtain ⟨gen,E,wr,e,xs⟩:=r'
  have he':e'=e:=he
  subst he'
  obtain ⟨hg1,hg2⟩:=hg
  have hg1':gen=g:=hg1
  have hg2':E=el:=hg2
  subst hg1' hg2'
  obtain ⟨zs,hz,h⟩:=Option.bind_eq_some_iff.1 h
  obtain ⟨c1,rfl⟩:=qly hz
  refine ⟨_,h,_,c1,?_⟩
  simp only at h1
  show q1p P dst t (.one (.c (.row tt gen))) (eD x) _=_
  generalize eD x=y at h1
  simp only [q1p,hu,hel,h1,eD,e1,eC,q1u hr,eR,and_self,if_true,q5r,Option.map_none,Option.map_some,List.map_append,List.length_map]
 ·split at h
  case h_2=>cases h
  rename_i i
  split at h
  case h_2=>cases h
  rename_i hr
  obtain ⟨e',ys⟩:=src
  obtain ⟨zs,hz,h⟩:=Option.bind_eq_some_iff.1 h
  obtain ⟨c1,hzz⟩:=qly hz
  have hzz':zs=ys:=hzz
  clear hzz hz
  rw [hzz'] at h
  clear hzz' zs
  refine ⟨_,h,_,c1,?_⟩
  simp only at h1
  show q1p P (some i) t (.one (.c (.d (.v (.slice none 0 0))))) (eD x) _=_
  generalize eD x=y at h1
  simp only [q1p,hu,hel,h1,eD,e1,eC,q5g hr,eR,q5r,Option.map_none,Option.map_some,List.map_append,List.length_map,List.nil_append,List.length_nil,Nat.zero_add]
 ·cases h
end Go.Proofs.YtapfankgdkdkgaaGreatDoor.AM
namespace Go.Proofs.YtapfankgdkdkgaaGreatDoor.AM
open Go.RowKit
variable {α:Type} {P:Program} {σ:TSt}
def intT (op:BinOp) (k k':IntKind) (a b:Int) (c:TC→Option α):Option α:=match op with
 | .shl=>(shlO k a b).bind fun z=>c (.d (.int k) z)
 | .shr=>(shrO k a b).bind fun z=>c (.d (.int k) z)
 | .add=>if k=k' then q0b (k.wrap (a+b)) fun z=>c (.d (.int k) z) else none
 | .sub=>if k=k' then q0b (k.wrap (a - b)) fun z=>c (.d (.int k) z) else none
 | .mul=>if k=k' then q0b (k.wrap (a*b)) fun z=>c (.d (.int k) z) else none
 | .quo=>if k=k' then (quoO k a b).bind fun z=>c (.d (.int k) z) else none
 | .rem=>if k=k' then (remO a b).bind fun z=>c (.d (.int k) z) else none
 | .and=>if k=k' then q0b (andI k a b) fun z=>c (.d (.int k) z) else none
 | .or=>if k=k' then q0b (orI k a b) fun z=>c (.d (.int k) z) else none
 | .xor=>if k=k' then q0b (xorI k a b) fun z=>c (.d (.int k) z) else none
 | .eql=>if k=k' then c (.d .bool (decide (a=b))) else none
 | .neq=>if k=k' then c (.d .bool (!decide (a=b))) else none
 | .lss=>if k=k' then c (.d .bool (decide (a<b))) else none
 | .leq=>if k=k' then c (.d .bool (decide (a≤b))) else none
 | .gtr=>if k=k' then c (.d .bool (decide (b<a))) else none
 | .geq=>if k=k' then c (.d .bool (decide (b≤a))) else none
 | _=>none
def strT (op:BinOp) (s t:Yy) (c:TC→Option α):Option α:=match op with
 | .add=>(q6j s t).bind fun z=>c (.d .str z)
 | .eql=>c (.d .bool (decide (s=t)))
 | .neq=>c (.d .bool (!decide (s=t)))
 | .lss=>c (.d .bool (ltS s t))
 | .leq=>c (.d .bool (ltS s t||decide (s=t)))
 | .gtr=>c (.d .bool (!(ltS s t||decide (s=t))))
 | .geq=>c (.d .bool (!ltS s t))
 | _=>none
def vC (c:TC):TRes:={ val:=.one (.c c) }
theorem j7a {op:BinOp} {T:TypeId} {k k':IntKind} {a b:Int} {c:TC→Option α} {r:α} (h:intT op k k' a b c=some r) :
  ∃ x,c x=some r∧Sim (q5u P op T (.one (.c (.d (.v (.int k a))))) (.one (.c (.d (.v (.int k' b)))))) (vC x):=by
 unfold intT at h
 split at h
 case h_1 =>
  obtain ⟨z,hz,h⟩:=Option.bind_eq_some_iff.1 h
  unfold shlO at hz
  split at hz
  case isFalse=>cases hz
  rename_i hb
  simp only [Option.some.injEq] at hz;subst hz
  exact ⟨_,h,_,hb,rfl⟩
 case h_2 =>
  obtain ⟨z,hz,h⟩:=Option.bind_eq_some_iff.1 h
  unfold shrO at hz
  split at hz
  case isFalse=>cases hz
  rename_i hb
  simp only [Option.some.injEq] at hz;subst hz
  exact ⟨_,h,_,hb,rfl⟩
 case h_6 =>
  split at h
  case isFalse=>cases h
  rename_i hk;subst hk
  obtain ⟨z,hz,h⟩:=Option.bind_eq_some_iff.1 h
  unfold quoO at hz
  split at hz
  case isFalse=>cases hz
  rename_i hb
  simp only [Option.some.injEq] at hz;subst hz
  refine ⟨_,h,_,hb,?_⟩
  simp only [q5u,if_true,qc5,Option.map_some];rfl
 case h_7 =>
  split at h
  case isFalse=>cases h
  rename_i hk;subst hk
  obtain ⟨z,hz,h⟩:=Option.bind_eq_some_iff.1 h
  unfold remO at hz
  split at hz
  case isFalse=>cases hz
  rename_i hb
  simp only [Option.some.injEq] at hz;subst hz
  refine ⟨_,h,_,hb,?_⟩
  simp only [q5u,if_true,qc5,Option.map_some];rfl
 case h_17=>cases h
 all_goals
  split at h
  case isFalse=>cases h
  rename_i hk;subst hk
  refine ⟨_,h,Sim.tr ?_⟩
  simp only [q5u,if_true,qc5,Option.map_some];rfl
theorem jbu {s t:Yy} : (ba s=ba t)=(s=t):=by
 apply propext
 constructor
 ·intro h
  have:=congrArg ByteArray.data h
  exact Array.toList_inj.2 this |> fun h=>by simpa [ba] using h
 ·rintro rfl;rfl
theorem q4k (s:Yy):(ba s).toList=s:=by rw [ByteArray.toList_eq];rfl
theorem qwe (s t:Yy):ba s++ba t=ba (s++t):=by
 apply ByteArray.ext
 rw [ByteArray.data_append]
 simp [ba]
theorem qx0 (s t:Yy):decide (ba s=ba t)=decide (s=t):=by simp only [jbu]
theorem j8o {op:BinOp} {T:TypeId} {s t:Yy} {c:TC→Option α} {r:α} (h:strT op s t c=some r) :
  ∃ x,c x=some r∧Sim (q5u P op T (.one (.c (.d (.v (.string (ba s)))))) (.one (.c (.d (.v (.string (ba t))))))) (vC x):=by
 unfold strT at h
 split at h
 case h_1 =>
  obtain ⟨z,hz,h⟩:=Option.bind_eq_some_iff.1 h
  unfold q6j at hz
  split at hz
  case isFalse=>cases hz
  rename_i hb
  simp only [Option.some.injEq] at hz;subst hz
  refine ⟨_,h,_,hb,?_⟩
  simp only [q5u,qhd,Option.map_some,q1w,qwe];rfl
 case h_8=>cases h
 all_goals
  refine ⟨_,h,Sim.tr ?_⟩
  simp only [q5u,qhd,Option.map_some,q4k,qx0];rfl
def eqC1 (P:Program) (t:TypeId) (x y:TC):Option Bool:=match P.underlying t,x,y with
 | some .bool,.d .bool a,.d .bool b=>some (decide ((a:Bool)=b))
 | some (.int _),.d (.int k) a,.d (.int k') b=>if k=k' then some (decide ((a:Int)=b)) else none
 | some .string,.d .str a,.d .str b=>some (decide ((a:Yy)=b))
 | _,_,_=>none
def vT:TC→Option Value
 | .d (.int k) n=>some (.int k n)
 | .d .bool b=>some (.bool b)
 | .d .str s=>some (.string (ba s))
 | _=>none
def vTs:List TC→Option (List Value)
 | []=>some []
 | c::cs=>match vT c,vTs cs with
  | some x,some xs=>some (x::xs)
  | _,_=>none
theorem vT_ok {c:TC} {v:Value} (h:vT c=some v):eC c = .d (.v v):=by
 unfold vT at h
 split at h<;>simp only [Option.some.injEq,reduceCtorEq] at h<;>subst h<;>rfl
theorem j05 : ∀ {cs:List TC} {xs:List Value},vTs cs=some xs→qvb (cs.map eC)=some xs
 | [],xs,h=>by simp only [vTs,Option.some.injEq] at h;subst h;rfl
 | c::cs,xs,h=>by
  unfold vTs at h
  split at h
  case h_2=>cases h
  rename_i x ys hx hy
  simp only [Option.some.injEq] at h;subst h
  rw [List.map_cons,vT_ok hx]
  show (qvb (cs.map eC)).map (x :: ·)=_
  rw [j05 hy];rfl
def qy4 (P:Program) (rec:TypeId→List TC→List TC→Option Bool):List Field→List TC→List TC→Option Bool
 | [],_,_=>some true
 | f::fs,xs,ys=>if f.name = "_" then none else match qfb P f.type with
  | some false=>match nth xs f.offset,nth ys f.offset with
   | some x,some y=>match eqC1 P f.type x y,qy4 P rec fs xs ys with
    | some b,some c=>some (b&&c)
    | _,_=>none
   | _,_=>none
  | some true=>match tsz P f.type with
   | some m=>if f.offset+m≤xs.length∧f.offset+m≤ys.length then match rec f.type ((xs.drop f.offset).take m) ((ys.drop f.offset).take m),qy4 P rec fs xs ys with
     | some b,some c=>some (b&&c)
     | _,_=>none
    else none
   | none=>none
  | none=>none
def eqST (P:Program):Nat→TypeId→List TC→List TC→Option Bool
 | 0,_,_,_=>none
 | n+1,t,xs,ys=>match P.underlying t with
  | some (.struct fs)=>if P.stoodInHeld t=false then qy4 P (eqST P n) fs.toList xs ys else none
  | _=>none
theorem j79 {t:TypeId} {x y:TC} {u v:Value} {b:Bool} (hx:vT x=some u) (hy:vT y=some v) (h:eqC1 P t x y=some b):eqV P t u v=some b:=by
 unfold eqC1 at h
 split at h
 ·rename_i hu
  simp only [vT,Option.some.injEq] at hx hy h;subst hx hy h
  simp only [eqV,hu]
 ·rename_i hu
  split at h
  case isFalse=>cases h
  rename_i hk;subst hk
  simp only [vT,Option.some.injEq] at hx hy h;subst hx hy h
  simp only [eqV,hu,if_true]
 ·rename_i hu
  simp only [vT,Option.some.injEq] at hx hy h;subst hx hy h
  simp only [eqV,hu,qx0]
 ·cases h
theorem qq4 : ∀ {cs:List TC} {xs:List Value} {i:Nat} {c:TC},vTs cs=some xs→nth cs i=some c→∃ v,xs[i]? = some v∧vT c=some v
 | [],_,_,_,_,h=>by cases h
 | c0::cs,xs,i,c,h,hn=>by
  unfold vTs at h
  split at h
  case h_2=>cases h
  rename_i x ys hx hy
  simp only [Option.some.injEq] at h;subst h
  cases i with
  | zero=>simp only [nth,Option.some.injEq] at hn;subst hn;exact ⟨x,rfl,hx⟩
  | succ i =>
   obtain ⟨v,h1,h2⟩:=qq4 hy (show nth cs i=some c from hn)
   exact ⟨v,by simpa using h1,h2⟩
theorem qyf : ∀ {cs:List TC} {xs:List Value} (o m:Nat),vTs cs=some xs→vTs ((cs.drop o).take m)=some ((xs.drop o).take m):=by
 have tk : ∀ {cs:List TC} {xs:List Value} (m:Nat),vTs cs=some xs→vTs (cs.take m)=some (xs.take m):=by
  intro cs
  induction cs with
  | nil=>intro xs m h;simp only [vTs,Option.some.injEq] at h;subst h;simp [vTs]
  | cons c cs ih =>
   intro xs m h
   unfold vTs at h
   split at h
   case h_2=>cases h
   rename_i x ys hx hy
   simp only [Option.some.injEq] at h;subst h
   cases m with
   | zero=>rfl
   | succ m =>
    rw [List.take_succ_cons,List.take_succ_cons]
    unfold vTs
    rw [hx,ih m hy]
 have dr : ∀ {cs:List TC} {xs:List Value} (o:Nat),vTs cs=some xs→vTs (cs.drop o)=some (xs.drop o):=by
  intro cs
  induction cs with
  | nil=>intro xs o h;simp only [vTs,Option.some.injEq] at h;subst h;simp [vTs]
  | cons c cs ih =>
   intro xs o h
   cases o with
   | zero=>exact h
   | succ o =>
    unfold vTs at h
    split at h
    case h_2=>cases h
    rename_i x ys hx hy
    simp only [Option.some.injEq] at h;subst h
    rw [List.drop_succ_cons,List.drop_succ_cons]
    exact ih o hy
 intro cs xs o m h
 exact tk m (dr o h)
theorem qoe : ∀ {cs:List TC} {xs:List Value},vTs cs=some xs→xs.length=cs.length
 | [],xs,h=>by simp only [vTs,Option.some.injEq] at h;subst h;rfl
 | c::cs,xs,h=>by
  unfold vTs at h
  split at h
  case h_2=>cases h
  rename_i x ys hx hy
  simp only [Option.some.injEq] at h;subst h
  rw [List.length_cons,List.length_cons,qoe hy]
theorem qie {rec:TypeId→List TC→List TC→Option Bool} {rec':TypeId→List Value→List Value→Option Bool} {us vs:List Value} {xs ys:List TC} (hx:vTs xs=some us) (hy:vTs ys=some vs)
  (hr : ∀ t o m b,rec t ((xs.drop o).take m) ((ys.drop o).take m)=some b→rec' t ((us.drop o).take m) ((vs.drop o).take m)=some b) : ∀ {fs:List Field} {b:Bool},qy4 P rec fs xs ys=some b→j0k P rec' fs us vs=some b
 | [],b,h=>h
 | f::fs,b,h=>by
  unfold qy4 at h
  split at h
  case isTrue=>cases h
  rename_i hn
  split at h
  ·rename_i h3
   split at h
   case h_2=>cases h
   rename_i x y h1 h2
   split at h
   case h_2=>cases h
   rename_i b1 b2 h4 h5
   obtain ⟨u,k1,k2⟩:=qq4 hx h1
   obtain ⟨v,k3,k4⟩:=qq4 hy h2
   unfold j0k
   rw [if_neg hn,h3]
   simp only [k1,k3,j79 k2 k4 h4,qie hx hy hr h5]
   exact h
  ·rename_i h3
   split at h
   case h_2=>cases h
   rename_i m hm
   split at h
   case isFalse=>cases h
   rename_i hle
   split at h
   case h_2=>cases h
   rename_i b1 b2 h4 h5
   unfold j0k
   rw [if_neg hn,h3,hm]
   have hle':f.offset+m≤us.length∧f.offset+m≤vs.length:=by rw [qoe hx,qoe hy];exact hle
   simp only [hle',and_self,if_true,hr _ _ _ _ h4,qie hx hy hr h5]
   exact h
  ·cases h
theorem qwv : ∀ (n:Nat) {t:TypeId} {us vs:List Value} {xs ys:List TC} {b:Bool},vTs xs=some us→vTs ys=some vs→eqST P n t xs ys=some b→eqS P n t us vs=some b
 | 0,_,_,_,_,_,_,_,_,h=>by cases h
 | n+1,t,us,vs,xs,ys,b,hx,hy,h=>by
  unfold eqST at h
  split at h
  case h_2=>cases h
  rename_i fs hu
  split at h
  case isFalse=>cases h
  rename_i hc
  unfold eqS
  rw [hu]
  simp only [hc,if_true]
  exact qie hx hy (fun t o m b hh=>qwv n (qyf o m hx) (qyf o m hy) hh) h
def qcx (P:Program) (t:TypeId) (xs ys:List TC):Option Bool:=match vTs xs,vTs ys with
 | some _,some _=>if P.eqGuardType P.depth t=false then eqST P 9 t xs ys else none
 | _,_=>none
theorem qaw {t:TypeId} {xs ys:List TC} {b:Bool} (h:qcx P t xs ys=some b):q6g P t (xs.map eC) (ys.map eC)=some b:=by
 unfold qcx at h
 split at h
 case h_2=>cases h
 rename_i us vs hx hy
 split at h
 case isFalse=>cases h
 rename_i hc
 unfold q6g
 rw [j05 hx,j05 hy]
 simp only
 rw [if_pos hc]
 exact qwv 9 hx hy h
def qzt (P:Program) (op:BinOp) (T:TypeId) (x y:TD) (k:TRes→Option α):Option α:=match x,y with
 | .one (.c (.d (.int kx) a)),.one (.c (.d (.int ky) b))=>intT op kx ky a b (fun c=>k (vC c))
 | .one (.c (.d .str s)),.one (.c (.d .str t))=>strT op s t (fun c=>k (vC c))
 | .one (.c (.d .bool a)),.one (.c (.d .bool b))=>match P.underlying T,op with
  | some .bool,.eql=>k (vC (.d .bool (decide ((a:Bool)=b))))
  | some .bool,.neq=>k (vC (.d .bool (!decide ((a:Bool)=b))))
  | _,_=>none
 | .one (.agg xs),.one (.agg ys)=>match op,qcx P T xs ys with
  | .eql,some b=>k (vC (.d .bool b))
  | .neq,some b=>k (vC (.d .bool (!b)))
  | _,_=>none
 | _,_=>none
theorem j00 {op:BinOp} {T:TypeId} {x y:TD} {k:TRes→Option α} {r:α} (h:qzt P op T x y k=some r) : ∃ z,k z=some r∧Sim (q5u P op T (eD x) (eD y)) z:=by
 unfold qzt at h
 split at h
 ·obtain ⟨z,h1,h2⟩:=j7a (P:=P) (T:=T) h
  exact ⟨_,h1,h2⟩
 ·obtain ⟨z,h1,h2⟩:=j8o (P:=P) (T:=T) h
  exact ⟨_,h1,h2⟩
 ·split at h
  ·rename_i hu
   exact ⟨_,h,Sim.tr (by simp only [q5u,eD,e1,eC,q00,List.headD_cons,eqV,hu,Option.map_some];rfl)⟩
  ·rename_i hu
   exact ⟨_,h,Sim.tr (by simp only [q5u,eD,e1,eC,q00,List.headD_cons,eqV,hu,Option.map_some];rfl)⟩
  ·cases h
 ·split at h
  ·rename_i b hb
   exact ⟨_,h,Sim.tr (by simp only [q5u,eD,e1,qaw hb,Option.map_some];rfl)⟩
  ·rename_i b hb
   exact ⟨_,h,Sim.tr (by simp only [q5u,eD,e1,qaw hb,Option.map_some];rfl)⟩
  ·cases h
 ·cases h
def j6z (op:UnOp) (x:TD) (k:TRes→Option α):Option α:=match op,x with
 | .not,.one (.c (.d .bool b))=>k (vC (.d .bool (!(b:Bool))))
 | .neg,.one (.c (.d (.int kk) n))=>k (vC (.d (.int kk) (kk.wrap (0 - (n:Int)))))
 | _,_=>none
theorem j4c {op:UnOp} {x:TD} {k:TRes→Option α} {r:α} (h:j6z op x k=some r) : ∃ z,k z=some r∧Sim (j9j op (eD x)) z:=by
 unfold j6z at h
 split at h
 ·exact ⟨_,h,Sim.tr rfl⟩
 ·exact ⟨_,h,Sim.tr rfl⟩
 ·cases h
def qnz (P:Program) (src dst:TypeId) (x:TD) (k:TRes→Option α):Option α:=match P.underlying src,P.underlying dst,x with
 | some _,some (.int kk),.one (.c (.d (.int _) n))=>q0b (kk.wrap n) fun z=>k (vC (.d (.int kk) z))
 | some .string,some .string,.one (.c (.d .str s))=>k (vC (.d .str s))
 | _,_,_=>none
theorem qt4 {src dst:TypeId} {x:TD} {k:TRes→Option α} {r:α} (h:qnz P src dst x k=some r) : ∃ z,k z=some r∧Sim (q79 P src dst (eD x)) z:=by
 unfold qnz at h
 split at h
 ·rename_i h1 h2
  exact ⟨_,h,Sim.tr (by simp only [q79,eD,e1,eC,q00,List.headD_cons,h1,h2];rfl)⟩
 ·rename_i h1 h2
  exact ⟨_,h,Sim.tr (by simp only [q79,eD,e1,eC,q00,List.headD_cons,h1,h2];rfl)⟩
 ·cases h
def qjf (P:Program) (src dst:TypeId):Bool:=match P.underlying src,P.underlying dst with
 | some (.slice _),some .string=>true
 | some .string,some (.slice _)=>true
 | _,_=>false
def bytO (s:Yy):Option (List Int):=if s.length≤9223372036854775807 then some (s.map fun b=>((b.toNat:Nat):Int)) else none
def q9f (P:Program) (o:Option Nat) (src dst:TypeId) (x:TD) (σ:TSt) (k:TRes→Option α):Option α:=match P.underlying src,P.underlying dst with
 | some (.slice e),some .string=>match P.underlying e,srcT x σ with
  | some (.int .u8),some ⟨.int .u8,xs⟩=>k (vC (.d .str ((xs:List Int).map fun n=>UInt8.ofNat n.toNat)))
  | _,_=>none
 | some .string,some (.slice e)=>match P.underlying e,x,o with
  | some (.int .u8),.one (.c (.d .str s)),some i=>match lk σ.rows i with
   | none=>if e<1099511627776 then (bytO s).bind fun xs=>k { val:=.one (.c (.row i 0)),row:=some (i,⟨0,e+1099511627776,true,.int .u8,xs⟩) } else none
   | some _=>none
  | _,_,_=>none
 | _,_=>none
theorem qmb : ∀ (xs:List Int),ql1 (xs.map (q00 (.int .u8)))=some xs
 | []=>rfl
 | x::xs=>by
  show (ql1 (xs.map (q00 (.int .u8)))).map (x :: ·)=_
  rw [qmb xs];rfl
theorem qrr : ∀ (xs:List Int) (b:Yy),xs.foldl (fun r n=>r.push (UInt8.ofNat n.toNat)) (ba b)=ba (b++xs.map fun n=>UInt8.ofNat n.toNat)
 | [],b=>by simp
 | x::xs,b=>by
  rw [List.foldl_cons,show (ba b).push (UInt8.ofNat x.toNat)=ba (b ++ [UInt8.ofNat x.toNat]) from by simp [ba,ByteArray.push],qrr xs]
  simp
theorem j36 (xs:List Int):strOf xs=ba (xs.map fun n=>UInt8.ofNat n.toNat):=by
 have:=qrr xs []
 rw [List.nil_append] at this
 exact this
theorem qor {src dst:TypeId} {x:D} (h:qjf P src dst=true):q79 P src dst x=none:=by
 unfold qjf at h
 unfold q79
 split at h
 ·rename_i h1 h2;rw [h1,h2]
 ·rename_i h1 h2;rw [h1,h2]
 ·cases h
theorem qjc {o:Option Nat} {src dst:TypeId} {x:TD} {k:TRes→Option α} {r:α} (h:q9f P o src dst x σ k=some r) : ∃ z,k z=some r∧Sim (q1y P o src dst (eD x) (eS σ).row) z:=by
 unfold q9f at h
 split at h
 ·rename_i e h1 h2
  split at h
  case h_2=>cases h
  rename_i xs he hx
  have hs:=j0r hx
  have hs':qb8 1 (eD x) (eS σ).row=some (xs.map (q00 (.int .u8))):=hs
  refine ⟨_,h,Sim.tr ?_⟩
  have hi:ql1 (List.map (q00 (.int .u8)) xs)=some xs:=qmb xs
  simp only [q1y,h1,h2,he,hs',Option.bind_some]
  rw [hi]
  simp only [j36]
  rfl
 ·rename_i e h1 h2
  split at h
  case h_2=>cases h
  rename_i s i he
  split at h
  case h_2=>cases h
  rename_i hr
  split at h
  case isFalse=>cases h
  rename_i hlt
  obtain ⟨xs,hxs,h⟩:=Option.bind_eq_some_iff.1 h
  unfold bytO at hxs
  split at hxs
  case isFalse=>cases hxs
  rename_i hle
  simp only [Option.some.injEq] at hxs;subst hxs
  refine ⟨_,h,(ba s).size≤maxLen,by rw [q1w];exact hle,?_⟩
  simp only [q1y,h1,h2,he,eD,e1,eC,q00,List.headD_cons,q5g hr]
  rw [if_pos hlt]
  have e3:(ba s).data.toList=s:=by simp [ba]
  rw [e3]
  simp only [q5r,eD,e1,eC,Option.map_none,Option.map_some,eR,List.map_map]
  rfl
 ·cases h
def qp9 (c x y:TD) (k:TRes→Option α):Option α:=match c with
 | .one (.c (.d .bool t))=>bif t then k { val:=x } else k { val:=y }
 | _=>none
theorem qut {c x y:TD} {k:TRes→Option α} {r:α} (h:qp9 c x y k=some r) : ∃ z,k z=some r∧Sim (qgy (eD c) (eD x) (eD y)) z:=by
 unfold qp9 at h
 split at h
 case h_2=>cases h
 rename_i t
 cases t with
 | true=>exact ⟨_,h,Sim.tr rfl⟩
 | false=>exact ⟨_,h,Sim.tr rfl⟩
def makO (b:Nat) (q:Int) (n:Int):Option (List Int):=if 0≤n∧n≤16777216∧b*n.toNat≤281474976710656 then some (List.replicate n.toNat q) else none
def qpo (P:Program) (dst:Option Nat) (t:TypeId) (x:TD) (σ:TSt) (k:TRes→Option α):Option α:=match P.underlying t,dst,x with
 | some (.slice el),some i,.one (.c (.d (.int _) n))=>match lk σ.rows i,(P.info? el).map (fun i=>(i.zero,i.size,i.bytes)) with
  | none,some (some (Value.int kk q),1,b)=>bif Nat.blt el 1099511627776 then (makO b q n).bind fun xs=>k { val:=.one (.c (.row i 0)),row:=some (i,⟨0,el,true,.int kk,xs⟩) } else none
  | _,_=>none
 | _,_,_=>none
theorem qu6 {dst:Option Nat} {t:TypeId} {x:TD} {k:TRes→Option α} {r:α} (h:qpo P dst t x σ k=some r) : ∃ y,k y=some r∧Sim (q7u P dst t (eD x) (eS σ).row) y:=by
 unfold qpo at h
 split at h
 case h_2=>cases h
 rename_i el i kx n hu
 split at h
 case h_2=>cases h
 rename_i kk q b hr hinf
 cases hb:Nat.blt el 1099511627776 with
 | false=>rw [hb] at h;cases h
 | true =>
  rw [hb] at h
  have hlt:el<1099511627776:=by simpa using hb
  obtain ⟨xs,hxs,h⟩:=Option.bind_eq_some_iff.1 h
  unfold makO at hxs
  split at hxs
  case isFalse=>cases hxs
  rename_i hc
  simp only [Option.some.injEq] at hxs;subst hxs
  refine ⟨_,h,Sim.tr ?_⟩
  simp only [q7u,hu,eD,e1,eC,q00,List.headD_cons,q5g hr,hinf]
  rw [if_pos ⟨hc.1,hc.2.1,hc.2.2,hlt⟩]
  simp only [q5r,eD,e1,eC,Option.map_none,Option.map_some,eR,List.map_replicate]
  rfl
def j3d (f:Int→Int→Int) (x y:TD) (k:TRes→Option α):Option α:=match x,y with
 | .one (.c (.d (.int kk) n)),.one (.c (.d (.int _) m))=>q0b (f n m) fun z=>k (vC (.d (.int kk) z))
 | _,_=>none
theorem qrt {f:Int→Int→Int} {x y:TD} {k:TRes→Option α} {r:α} (h:j3d f x y k=some r) : ∃ z,k z=some r∧Sim (j2f f (eD x) (eD y)) z:=by
 unfold j3d at h
 split at h
 case h_2=>cases h
 exact ⟨_,h,Sim.tr rfl⟩
def vTI:TC→Option Value
 | .d (.int k) n=>some (.int k n)
 | .d .bool b=>some (.bool b)
 | .d .str s=>some (.string (ba s))
 | .d .any v=>some (Subtype.val (v:IV))
 | _=>none
def jay:List TC→Option (List Value)
 | []=>some []
 | c::cs=>match vTI c,jay cs with
  | some x,some xs=>some (x::xs)
  | _,_=>none
def vTD:TD→Option Value
 | .one (.c c)=>vTI c
 | .one (.agg cs)=>(jay cs).map fun xs=>.agg ⟨xs⟩
 | .tup _=>none
theorem j5q {c:TC} {v:Value} (h:vTI c=some v):j9i (eC c)=some v:=by
 unfold vTI at h
 split at h<;>simp only [Option.some.injEq,reduceCtorEq] at h<;>subst h<;>rfl
theorem qwb : ∀ {cs:List TC} {xs:List Value},jay cs=some xs→qhp (cs.map eC)=some xs
 | [],xs,h=>by simp only [jay,Option.some.injEq] at h;subst h;rfl
 | c::cs,xs,h=>by
  unfold jay at h
  split at h
  case h_2=>cases h
  rename_i x ys hx hy
  simp only [Option.some.injEq] at h;subst h
  rw [List.map_cons]
  unfold qhp
  rw [j5q hx,qwb hy]
theorem jam {d:TD} {v:Value} (h:vTD d=some v):jac (eD d)=some v:=by
 unfold vTD at h
 split at h
 ·exact j5q h
 ·obtain ⟨xs,h1,rfl⟩:=Option.map_eq_some_iff.1 h
  show (qhp _).map _=_
  rw [qwb h1];rfl
 ·cases h
def qj6 (P:Program) (t:TypeId) (x:TD) (k:TRes→Option α):Option α:=match P.concrete t,vTD x with
 | true,some v=>k (vC (.d .any (qbb t v)))
 | _,_=>none
theorem qo2 {t:TypeId} {x:TD} {k:TRes→Option α} {r:α} (h:qj6 P t x k=some r) : ∃ z,k z=some r∧Sim (q7f P t (eD x)) z:=by
 unfold qj6 at h
 split at h
 case h_2=>cases h
 rename_i v hc hv
 exact ⟨_,h,Sim.tr (by unfold q7f;rw [hc,jam hv];rfl)⟩
def qod (P:Program) (op:BinOp) (t:TypeId) (x:TD) (k:TRes→Option α):Option α:=match qsv P t,op,x with
 | true,.eql,.one (.c (.d .any v))=>(q2i (Subtype.val (v:IV))).bind fun b=>k (vC (.d .bool b))
 | true,.neq,.one (.c (.d .any v))=>(q2i (Subtype.val (v:IV))).bind fun b=>k (vC (.d .bool (!b)))
 | _,_,_=>none
theorem qur {op:BinOp} {t:TypeId} {x:TD} {k:TRes→Option α} {r:α} (h:qod P op t x k=some r) : ∃ z,k z=some r∧Sim (qao P op t (eD x)) z:=by
 unfold qod at h
 split at h
 case h_3=>cases h
 ·rename_i v hc
  obtain ⟨b,hb,h⟩:=Option.bind_eq_some_iff.1 h
  exact ⟨_,h,Sim.tr (by simp only [qao,hc,eD,e1,eC,q00,List.headD_cons,hb,Option.map_some];rfl)⟩
 ·rename_i v hc
  obtain ⟨b,hb,h⟩:=Option.bind_eq_some_iff.1 h
  exact ⟨_,h,Sim.tr (by simp only [qao,hc,eD,e1,eC,q00,List.headD_cons,hb,Option.map_some];rfl)⟩
def w1 (x:Option TD) (f:TD→Option α):Option α:=match x with|some y=>f y|none=>none
def w0 (σ:TSt) (x:Option Operand) (f:Option TD→Option α):Option α:=match x with
 | none=>f none
 | some x=>match q0i σ x with|some y=>f (some y)|none=>none
theorem q0a {x:Option TD} {f:TD→Option α} {r:α} (h:w1 x f=some r) : ∃ y,x=some y∧f y=some r:=by
 cases x with
 | none=>cases h
 | some y=>exact ⟨y,rfl,h⟩
theorem j0q {x:Option Operand} {f:Option TD→Option α} {r:α} (h:w0 σ x f=some r) : ∃ y,x.map (opnd (eS σ))=y.map eD∧f y=some r:=by
 cases x with
 | none=>exact ⟨none,rfl,h⟩
 | some x =>
  unfold w0 at h
  simp only at h
  split at h
  ·rename_i y hy
   exact ⟨some y,by rw [Option.map_some,Option.map_some,q03 hy],h⟩
  ·cases h
def q2h (σ:TSt):List Operand→Option (List TD)
 | []=>some []
 | x::xs=>match q0i σ x,q2h σ xs with
  | some y,some ys=>some (y::ys)
  | _,_=>none
theorem q85 : ∀ {xs:List Operand} {ys:List TD},q2h σ xs=some ys→xs.map (opnd (eS σ))=ys.map eD
 | [],ys,h=>by simp only [q2h,Option.some.injEq] at h;subst h;rfl
 | x::xs,ys,h=>by
  unfold q2h at h
  split at h
  case h_2=>cases h
  rename_i y zs h1 h2
  simp only [Option.some.injEq] at h;subst h
  rw [List.map_cons,List.map_cons,q03 h1,q85 h2]
def qqx:List TD→Option (List Nat)
 | []=>some []
 | .one (.c (.box β 0))::ds=>(qqx ds).map (β :: ·)
 | _=>none
theorem qmg : ∀ {ds:List TD} {cs:List Nat},qqx ds=some cs→qec (ds.map eD)=some cs
 | [],cs,h=>h
 | d::ds,cs,h=>by
  unfold qqx at h
  split at h
  ·rename_i h1;cases h1
  ·rename_i β ds' h1
   simp only [List.cons.injEq] at h1
   obtain ⟨rfl,rfl⟩:=h1
   obtain ⟨cs',h2,rfl⟩:=Option.map_eq_some_iff.1 h
   show (qec (ds.map eD)).map _=_
   rw [qmg h2];rfl
  ·cases h
def j9x (f:Nat) (ds:Option (List TD)) (k:TRes→Option α):Option α:=match ds with
 | some ds=>match qqx ds with
  | some (c::cs)=>k { val:=.one (.c (.fn f (c::cs))) }
  | _=>none
 | none=>none
def q73 {β:Type} (s:Yy):List (Yy×β)→Option β
 | []=>none
 | (k,v)::l=>if s=k then some v else q73 s l
def j10 {β:Type} (s:Yy) (y:β):List (Yy×β)→List (Yy×β)
 | []=>[(s,y)]
 | (k,v)::l=>if s=k then (s,y)::l else (k,v)::j10 s y l
def qt7 {β:Type} (o:Option β) (z:β) (f:β→Bool→Option α):Option α:=f (o.getD z) o.isSome
def eqT:(K:Ty)→den K→den K→Bool
 | .str,a,b=>decide ((a:Yy)=b)
 | .int _,a,b=>decide ((a:Int)=b)
 | .prod a b,(x:den a×den b),(y:den a×den b)=>eqT a x.1 y.1&&eqT b x.2 y.2
 | _,_,_=>false
def q01 {β:Type} (K:Ty) (s:den K):List (den K×β)→Option β
 | []=>none
 | (k,v)::l=>bif eqT K s k then some v else q01 K s l
def q0n {β:Type} (K:Ty) (s:den K) (y:β):List (den K×β)→List (den K×β)
 | []=>[(s,y)]
 | (k,v)::l=>bif eqT K s k then (s,y)::l else (k,v)::q0n K s y l
def qx9 {β:Type} : (K:Ty)→den K→List (den K×β)→Option β
 | .str,s,l=>q73 s l
 | .int k,s,l=>q01 (.int k) s l
 | .prod a b,s,l=>q01 (.prod a b) s l
 | .bool,s,l=>q01 .bool s l
 | .lst e,s,l=>q01 (.lst e) s l
 | .any,s,l=>q01 .any s l
def jbh {β:Type} : (K:Ty)→den K→β→List (den K×β)→List (den K×β)
 | .str,s,y,l=>j10 s y l
 | .int k,s,y,l=>q0n (.int k) s y l
 | .prod a b,s,y,l=>q0n (.prod a b) s y l
 | .bool,s,y,l=>q0n .bool s y l
 | .lst e,s,y,l=>q0n (.lst e) s y l
 | .any,s,y,l=>q0n .any s y l
theorem qmx {β:Type} (s:Yy) : ∀ l:List (Yy×β),q73 s l=q01 .str s l
 | []=>rfl
 | (k,v)::l=>by
  show (if s=k then some v else q73 s l)=bif decide (s=k) then some v else q01 .str s l
  by_cases h:s=k
  ·rw [if_pos h,decide_eq_true h];rfl
  ·rw [if_neg h,decide_eq_false h,qmx s l];rfl
theorem qqh {β:Type} (s:Yy) (y:β) : ∀ l:List (Yy×β),j10 s y l=q0n .str s y l
 | []=>rfl
 | (k,v)::l=>by
  show (if s=k then (s,y)::l else (k,v)::j10 s y l)=bif decide (s=k) then (s,y)::l else (k,v)::q0n .str s y l
  by_cases h:s=k
  ·rw [if_pos h,decide_eq_true h];rfl
  ·rw [if_neg h,decide_eq_false h,qqh s y l];rfl
theorem qxx {β:Type} : ∀ (K:Ty) (s:den K) (l:List (den K×β)),qx9 K s l=q01 K s l
 | .str,s,l=>qmx s l
 | .int k,s,l=>rfl
 | .prod a b,s,l=>rfl
 | .bool,s,l=>rfl
 | .lst e,s,l=>rfl
 | .any,s,l=>rfl
theorem j3n {β:Type} : ∀ (K:Ty) (s:den K) (y:β) (l:List (den K×β)),jbh K s y l=q0n K s y l
 | .str,s,y,l=>qqh s y l
 | .int k,s,y,l=>rfl
 | .prod a b,s,y,l=>rfl
 | .bool,s,y,l=>rfl
 | .lst e,s,y,l=>rfl
 | .any,s,y,l=>rfl
def qow:KL→Ty
 | .s=>.str
 | .i k=>.int k
def q1f:List KL→Ty
 | []=>.bool
 | [l]=>qow l
 | l::l'::ls=>.prod (qow l) (q1f (l'::ls))
def qva:(l:KL)→den (qow l)→Value
 | .s,(x:Yy)=>.string (ba x)
 | .i k,(n:Int)=>.int k n
def q3f:(ls:List KL)→den (q1f ls)→List Value
 | [],_=>[]
 | [l],x=>[qva l x]
 | l::l'::ls,(x:den (qow l)×den (q1f (l'::ls)))=>qva l x.1::q3f (l'::ls) x.2
theorem qr1 : ∀ (l:KL) (x:den (qow l)),q00 (qow l) x = [.v (qva l x)]
 | .s,_=>rfl
 | .i _,_=>rfl
theorem qbu : ∀ (ls:List KL),0<ls.length→∀ x:den (q1f ls),q00 (q1f ls) x=(q3f ls x).map .v
 | [],h,_=>absurd h (by decide)
 | [l],_,x=>qr1 l x
 | l::l'::ls,_,(x:den (qow l)×den (q1f (l'::ls)))=>by
  show q00 (qow l) x.1++q00 (q1f (l'::ls)) x.2=_
  rw [qr1,qbu (l'::ls) (Nat.succ_pos _) x.2];rfl
theorem ok_1 : ∀ (l:KL) (x:den (qow l)),okK l (qva l x)=true
 | .s,_=>rfl
 | .i _,_=>by simp [okK,qva]
theorem j9q : ∀ (ls:List KL) (x:den (q1f ls)),q4p ls (q3f ls x)=true
 | [],_=>rfl
 | [l],x=>(Bool.and_true _).trans (ok_1 l x)
 | l::l'::ls,(x:den (qow l)×den (q1f (l'::ls)))=>by
  show (okK l (qva l x.1)&&q4p (l'::ls) (q3f (l'::ls) x.2))=true
  rw [ok_1,j9q (l'::ls) x.2];rfl
theorem j5w (ls:List KL) (x:den (q1f ls)):(q3f ls x).length=ls.length:=q43 (j9q ls x)
theorem eq_1 : ∀ (l:KL) (x y:den (qow l)),eqK (qva l x) (qva l y)=eqT (qow l) x y
 | .s,x,y=>qx0 x y
 | .i _,x,y=>rfl
theorem eq_K : ∀ (ls:List KL),0<ls.length→∀ x y:den (q1f ls),qda (q3f ls x) (q3f ls y)=eqT (q1f ls) x y
 | [],h,_,_=>absurd h (by decide)
 | [l],_,x,y=>by show (eqK (qva l x) (qva l y)&&true)=_;rw [Bool.and_true];exact eq_1 l x y
 | l::l'::ls,_,(x:den (qow l)×den (q1f (l'::ls))),(y:den (qow l)×den (q1f (l'::ls)))=>by
  show (eqK (qva l x.1) (qva l y.1)&&qda (q3f (l'::ls) x.2) (q3f (l'::ls) y.2))=(eqT (qow l) x.1 y.1&&eqT (q1f (l'::ls)) x.2 y.2)
  rw [eq_1,eq_K (l'::ls) (Nat.succ_pos _)]
theorem qnc : ∀ (us:List Value) (r:List Dat),qog us.length (us.map .v++r)=some us
 | [],_=>rfl
 | u::us,r=>by
  show (qog us.length (us.map .v++r)).map (u :: ·)=_
  rw [qnc us r];rfl
theorem q8f (ls:List KL) (h:0<ls.length) (V:Ty) (s:den (q1f ls)) (y:den V):q00 (.prod (q1f ls) V) ((s,y):den (q1f ls)×den V)=(q3f ls s).map .v++q00 V y:=by
 show q00 (q1f ls) s++q00 V y=_
 rw [qbu ls h]
theorem qyy (ls:List KL) (h:0<ls.length) (V:Ty) (s k:den (q1f ls)) (y:den V):qga ls (q3f ls s) (q00 (.prod (q1f ls) V) ((k,y):den (q1f ls)×den V))=some (eqT (q1f ls) s k):=by
 unfold qga
 rw [q8f ls h]
 have:=qnc (q3f ls k) (q00 V y)
 rw [j5w] at this
 rw [this]
 simp only [j9q,if_true,eq_K ls h]
theorem qrb {ls:List KL} (h:0<ls.length) {V:Ty} (s:den (q1f ls)) : ∀ (xs:List (den (q1f ls)×den V)),∃ q,findD ls (q3f ls s) (xs.map (q00 (.prod (q1f ls) V)))=some q∧q.map (List.drop ls.length)=(q01 (q1f ls) s xs).map (q00 V)
 | []=>⟨none,rfl,rfl⟩
 | (k,v)::xs=>by
  show ∃ q,(match qga ls (q3f ls s) (q00 (.prod (q1f ls) V) ((k,v):den (q1f ls)×den V)) with|some true=>some (some (q00 (.prod (q1f ls) V) ((k,v):den (q1f ls)×den V)))|some false=>findD ls (q3f ls s) (xs.map (q00 (.prod (q1f ls) V)))|none=>none)=some q∧q.map (List.drop ls.length)=(bif eqT (q1f ls) s k then some v else q01 (q1f ls) s xs).map (q00 V)
  rw [qyy ls h]
  cases eqT (q1f ls) s k with
  | true =>
   refine ⟨_,rfl,?_⟩
   simp only [cond_true,Option.map_some,Option.some.injEq]
   rw [q8f ls h]
   have:(List.map Dat.v (q3f ls k)).length=ls.length:=by rw [List.length_map,j5w]
   rw [← this,List.drop_left]
  | false=>exact qrb h s xs
theorem qxn {ls:List KL} (h:0<ls.length) {V:Ty} (s:den (q1f ls)) (y:den V) : ∀ (xs:List (den (q1f ls)×den V)),j7e ls (q3f ls s) (q00 V y) (xs.map (q00 (.prod (q1f ls) V)))=some ((q0n (q1f ls) s y xs).map (q00 (.prod (q1f ls) V)))
 | []=>by
  show some [(q3f ls s).map Dat.v++q00 V y]=some [q00 (.prod (q1f ls) V) ((s,y):den (q1f ls)×den V)]
  rw [q8f ls h]
 | (k,v)::xs=>by
  show (match qga ls (q3f ls s) (q00 (.prod (q1f ls) V) ((k,v):den (q1f ls)×den V)) with|some true=>some (((q3f ls s).map Dat.v++q00 V y)::xs.map (q00 (.prod (q1f ls) V)))|some false=>(j7e ls (q3f ls s) (q00 V y) (xs.map (q00 (.prod (q1f ls) V)))).map (q00 (.prod (q1f ls) V) ((k,v):den (q1f ls)×den V) :: ·)|none=>none)=some ((bif eqT (q1f ls) s k then (s,y)::xs else (k,v)::q0n (q1f ls) s y xs).map (q00 (.prod (q1f ls) V)))
  rw [qyy ls h]
  cases eqT (q1f ls) s k with
  | true =>
   simp only [cond_true,List.map_cons]
   rw [q8f ls h]
  | false =>
   simp only [cond_false,List.map_cons]
   rw [qxn h s y xs];rfl
def j18 (K:Ty) (ka:Bool):TD→Option (den K)
 | .one (.c c)=>bif ka then none else qg1 K [c]
 | .one (.agg cs)=>bif ka then qg1 K cs else none
 | _=>none
theorem qs3 {ls:List KL} (h:0<ls.length) {ka:Bool} (hka:ka=false→ls.length=1) {i:TD} {s:den (q1f ls)} (hs:j18 (q1f ls) ka i=some s):j9m (eD i)=some (ka,q3f ls s):=by
 have hv : ∀ us:List Value,qvb (us.map fun u=>C.d (.v u))=some us:=fun us=>by
  induction us with
  | nil=>rfl
  | cons u us ih=>show (qvb _).map (u :: ·)=_;rw [ih];rfl
 unfold j18 at hs
 split at hs
 ·rename_i c
  cases ka with
  | true=>cases hs
  | false =>
   simp only [cond_false] at hs
   have h1:=q46 hs
   rw [qbu ls h] at h1
   have h2:=j5w ls s
   rw [hka rfl] at h2
   match hvs:q3f ls s,h2 with
   | [v],_ =>
    rw [hvs] at h1
    have h3:eC c = .d (.v v):=(List.cons.inj h1).1
    show j9m (.one (.c (eC c)))=_
    rw [h3];rfl
 ·rename_i cs
  cases ka with
  | false=>cases hs
  | true =>
   simp only [cond_true] at hs
   have h1:=q46 hs
   rw [qbu ls h,List.map_map] at h1
   show (qvb (cs.map eC)).map _=_
   rw [h1,show (C.d ∘ Dat.v)=fun u=>C.d (.v u) from rfl,hv];rfl
 ·cases hs
theorem qkn {k:TypeId} {ls:List KL} (h:qu1 P k=some (false,ls)):ls.length=1:=by
 unfold qu1 at h
 split at h
 ·simp only [Option.some.injEq,Prod.mk.injEq] at h;rw [← h.2];rfl
 ·simp only [Option.some.injEq,Prod.mk.injEq] at h;rw [← h.2];rfl
 ·obtain ⟨l,_,h2⟩:=Option.map_eq_some_iff.1 h
  simp only [Prod.mk.injEq] at h2
  cases h2.1
 ·cases h
def qa3 (P:Program) (dst:Option Nat) (t:TypeId) (σ:TSt) (k:TRes→Option α):Option α:=match dst,j4k P t with
 | some i,some (T,el,ls)=>match lk σ.boxes i,tyE P el with
  | none,some V=>if i<1000000∧width V=mVw T∧width (q1f ls)=ls.length then k { val:=.one (.c (.mv i)),box:=some (i,(T,[.d (.lst (.prod (q1f ls) V)) ([]:List (den (q1f ls)×den V))])) } else none
  | _,_=>none
 | _,_=>none
theorem qi7 {dst:Option Nat} {t:TypeId} {k:TRes→Option α} {r:α} (h:qa3 P dst t σ k=some r) : ∃ y,k y=some r∧Sim (q2c P dst t (eS σ).box) y:=by
 unfold qa3 at h
 split at h
 case h_2=>cases h
 rename_i i T el ls hT
 split at h
 case h_2=>cases h
 rename_i V hb hV
 split at h
 case isFalse=>cases h
 rename_i hc
 refine ⟨_,h,Sim.tr ?_⟩
 simp only [q2c,hT,qbo hb,hc.1,if_true,← hc.2.1,← hc.2.2]
 rfl
def tvD (T:Nat) (V:Ty) (y:den V):TD1:=match mVa T with
 | true=>.agg (qdv V y)
 | false=>.c (.d V y)
def j57 (ok:Bool) (x:TD1) (b:Bool):TD:=match ok with
 | true=>.tup [x,.c (.d .bool b)]
 | false=>.one x
def j4q:Value→Bool
 | .agg _=>true
 | _=>false
def ja1:TD1→Bool
 | .agg _=>true
 | _=>false
def qeu (P:Program) (t:TypeId) (x i:TD) (ok:Bool) (σ:TSt) (k:TRes→Option α):Option α:=match j4k P t,x with
 | some (T,el,ls),.one (.c (.mv β))=>match lk σ.boxes β,ja3 P el with
  | some (T',[.d (.lst (.prod K V)) xs]),some z=>if T'=T∧j4q z=mVa T∧K=q1f ls then
    match qde z.cells.toList with
    | some zs=>match j18 K (mKa T) i with
     | some s=>match qg1 V zs with
      | some z0=>qt7 (qx9 K s (xs:List (den K×den V))) z0 fun y b=>k { val:=j57 ok (tvD T V y) b }
      | none=>bif j4q z then qfl (qx9 K s (xs:List (den K×den V))) (fun y=>k { val:=j57 ok (tvD T V y) true }) (k { val:=j57 ok (.agg zs) false }) else none
     | none=>none
    | none=>none
   else none
  | _,_=>none
 | _,_=>none
theorem qnh {t:TypeId} {x i:TD} {ok:Bool} {k:TRes→Option α} {r:α} (h:qeu P t x i ok σ k=some r) : ∃ y,k y=some r∧Sim (q1h P t (eD x) (eD i) ok (eS σ).box) y:=by
 unfold qeu at h
 split at h
 case h_2=>cases h
 rename_i T el ls β hT
 split at h
 case h_2=>cases h
 rename_i T' K V xs z hb hz
 split at h
 case isFalse=>cases h
 rename_i hc
 obtain ⟨rfl,hag,rfl⟩:=hc
 split at h
 case h_2=>cases h
 rename_i zs hzs
 split at h
 case h_2=>cases h
 rename_i s hs
 rw [qxx] at h
 obtain ⟨kt,ka,vw,va,_,hkl,_,_,_,_,hka,_,_,hl0⟩:=qew hT
 have hkey:=qs3 hl0 (fun h0=>by rw [hka] at h0;subst h0;exact qkn hkl) hs
 obtain ⟨q,hfd,hq⟩:=qrb hl0 s (xs:List (den (q1f ls)×den V))
 have hbx:(eS σ).box β=some (T',[.d (.lst (width (.prod (q1f ls) V)) ((xs:List (den (q1f ls)×den V)).map (q00 (.prod (q1f ls) V))))]):=q34 hb
 have hd : ∀ (x:D1) (y:TD1) (b:Bool),x=e1 y→okD ok x b=eD (j57 ok y b):=fun x y b hxy=>by
  subst hxy;cases ok<;>rfl
 have fnd : ∀ y,q01 (q1f ls) s (xs:List (den (q1f ls)×den V))=some y→q1h P t (.one (.c (.mv β))) (eD i) ok (eS σ).box=some (q5r True { val:=j57 ok (tvD T' V y) true }):=fun y hm=>by
  rw [hm] at hq
  obtain ⟨r0,rfl,hr0⟩:=Option.map_eq_some_iff.1 hq
  simp only [q1h,hT,hbx,hz,hkey,j9q,and_self,if_true,hfd]
  rw [hd (vD T' (r0.drop ls.length)) (tvD T' V y) true ?_]
  ·rfl
  ·rw [hr0]
   show vD T' (q00 V y)=_
   unfold vD tvD
   cases mVa T' with
   | true=>show D1.agg _ = .agg _;rw [q3l]
   | false=>rfl
 have nfd : ∀ zt:TD1,of1 z=e1 zt→q01 (q1f ls) s (xs:List (den (q1f ls)×den V))=none→q1h P t (.one (.c (.mv β))) (eD i) ok (eS σ).box=some (q5r True { val:=j57 ok zt false }):=fun zt hzt hm=>by
  rw [hm] at hq
  have hq0:q=none:=by simpa using hq
  subst hq0
  simp only [q1h,hT,hbx,hz,hkey,j9q,and_self,if_true,hfd]
  rw [hd (of1 z) zt false hzt]
  rfl
 split at h
 ·rename_i z0 hz0
  refine ⟨_,h,Sim.tr ?_⟩
  show q1h P t (.one (.c (.mv β))) (eD i) ok (eS σ).box=_
  cases hm:q01 (q1f ls) s (xs:List (den (q1f ls)×den V)) with
  | some y=>exact fnd y hm
  | none =>
   simp only [Option.getD_none,Option.isSome_none]
   refine nfd (tvD T' V z0) ?_ hm
   have h1:=q46 hz0
   rw [q35 hzs] at h1
   unfold tvD
   rw [← hag]
   cases z with
   | agg cs =>
    show D1.agg _ = .agg _
    rw [q3l,← h1];rfl
   | _ =>
    have h2 : [_]=q00 V z0:=j97 (l:=[_]) h1
    show D1.c _ = .c (.d ((q00 V z0).headD _))
    rw [← h2];rfl
 ·cases z with
  | agg cs =>
   replace h:qfl (q01 (q1f ls) s (xs:List (den (q1f ls)×den V))) (fun y=>k { val:=j57 ok (tvD T' V y) true }) (k { val:=j57 ok (.agg zs) false })=some r:=h
   unfold qfl at h
   split at h
   ·rename_i y hy
    exact ⟨_,h,Sim.tr (fnd y hy)⟩
   ·rename_i hn
    refine ⟨_,h,Sim.tr (nfd (.agg zs) ?_ hn)⟩
    show D1.agg (cs.toList.map qcl) = .agg (zs.map eC)
    rw [q35 hzs];rfl
  | _=>cases h
def qje (f:Nat):IV:=⟨.func (.func f) #[] #[],rfl⟩
def fnD:TC→TC
 | .fn f []=>.d .any (qje f)
 | c=>c
theorem jae (c:TC):eC (fnD c)=eC c:=by
 unfold fnD
 split
 ·rfl
 ·rfl
theorem j7b (cs:List TC):(cs.map fnD).map eC=cs.map eC:=by
 rw [List.map_map];exact List.map_congr_left fun c _=>jae c
def q8m (P:Program) (t:TypeId) (m i x:TD) (σ:TSt) (k:TRes→Option α):Option α:=match j4k P t,m with
 | some (T,_,ls),.one (.c (.mv β))=>match lk σ.boxes β,x with
  | some (T',[.d (.lst (.prod K V)) xs]),.one y=>if T'=T∧(q44 y).all okT=true∧(q44 y).length=mVw T∧ja1 y=mVa T∧K=q1f ls then
    match qg1 V ((q44 y).map fnD),j18 K (mKa T) i with
    | some v,some s=>k { val:=.one (.c .undef),box:=some (β,(T,[.d (.lst (.prod K V)) (jbh K s v (xs:List (den K×den V)))])) }
    | _,_=>none
   else none
  | _,_=>none
 | _,_=>none
theorem qam {t:TypeId} {m i x:TD} {k:TRes→Option α} {r:α} (h:q8m P t m i x σ k=some r) : ∃ y,k y=some r∧Sim (q1q P t (eD m) (eD i) (eD x) (eS σ).box) y:=by
 unfold q8m at h
 split at h
 case h_2=>cases h
 rename_i T el ls β hT
 split at h
 case h_2=>cases h
 rename_i T' K V xs y hb
 split at h
 case isFalse=>cases h
 rename_i hc
 obtain ⟨rfl,hok,hlen,hag,rfl⟩:=hc
 split at h
 case h_2=>cases h
 rename_i v s hv hs
 rw [j3n] at h
 refine ⟨_,h,Sim.tr ?_⟩
 obtain ⟨kt,ka,vw,va,_,hkl,_,_,_,_,hka,_,_,hl0⟩:=qew hT
 have hkey:=qs3 hl0 (fun h0=>by rw [hka] at h0;subst h0;exact qkn hkl) hs
 have hbx:(eS σ).box β=some (T',[.d (.lst (width (.prod (q1f ls) V)) ((xs:List (den (q1f ls)×den V)).map (q00 (.prod (q1f ls) V))))]):=q34 hb
 show q1q P t (.one (.c (.mv β))) (eD i) (.one (e1 y)) (eS σ).box=_
 have h1:(q0e (e1 y)).all okC=true:=by rw [q1e];exact qjs hok
 have h2:(q0e (e1 y)).length=mVw T':=by rw [q1e,List.length_map];exact hlen
 have h3:j59 (e1 y)=mVa T':=by rw [← hag];cases y<;>rfl
 have h4:(q0e (e1 y)).mapM qb7=some (q00 V v):=by rw [q1e,← j7b,q46 hv,q4h]
 generalize e1 y=y1 at h1 h2 h3 h4
 have hput:=qxn hl0 s v (xs:List (den (q1f ls)×den V))
 simp only [q1q,hT,hbx,hkey,h1,h2,h3,j9q,and_self,if_true,h4,hput,Option.map_some]
 rfl
def rowD:TD→Bool
 | .one (.c (.row _ _))=>true
 | _=>false
def tev (P:Program) (o:Oper) (σ:TSt) (k:TRes→Option α):Option α:=match o.op with
 | .move x=>w1 (q0i σ x) fun y=>k { val:=y }
 | .assign x=>w1 (q0i σ x) fun y=>k { val:=y }
 | .pick c x y=>w1 (q0i σ c) fun c=>w1 (q0i σ x) fun x=>w1 (q0i σ y) fun y=>qp9 c x y k
 | .alloc t=>qht P o.dst t σ k
 | .box t x=>w1 (q0i σ x) fun x=>qzj o.dst t x σ k
 | .load t x=>w1 (q0i σ x) fun x=>qpe P t x σ k
 | .store t x y=>w1 (q0i σ x) fun x=>w1 (q0i σ y) fun y=>qia P t x y σ k
 | .fieldAddr t x f=>w1 (q0i σ x) fun x=>q6c P t x f k
 | .field t x f=>w1 (q0i σ x) fun x=>qim P t x f k
 | .index t x i=>w1 (q0i σ x) fun x=>w1 (q0i σ i) fun i=>qi6 P t x i k
 | .indexAddr t x i=>w1 (q0i σ x) fun x=>w1 (q0i σ i) fun i=>q5x P t x i σ k
 | .extract x i=>w1 (q0i σ x) fun x=>q9g x i k
 | .build t ps=>qii P t ps σ k
 | .buildSlice t n ps=>q4v P o.dst t n ps σ k
 | .binOp op t x y _=>bif q7r y then w1 (q0i σ x) fun x=>qod P op t x k else w1 (q0i σ x) fun x=>w1 (q0i σ y) fun y=>qzt P op t x y k
 | .makeInterface t x=>w1 (q0i σ x) fun x=>qj6 P t x k
 | .unOp op _ x=>w1 (q0i σ x) fun x=>j6z op x k
 | .convert s d x=>w1 (q0i σ x) fun x=>bif qjf P s d then q9f P o.dst s d x σ k else qnz P s d x k
 | .slice t x lo hi none=>w1 (q0i σ x) fun x=>w0 σ lo fun lo=>w0 σ hi fun hi=>bif rowD x then q7j P t x lo hi σ k else qhr P t x lo hi k
 | .nilCheck x=>w1 (q0i σ x) fun x=>qws x k
 | .call ⟨.builtin .len,⟨[x]⟩,⟨[t]⟩⟩=>w1 (q0i σ x) fun x=>qvf P t x σ k
 | .call ⟨.builtin .append,⟨[s,x]⟩,⟨[t,t']⟩⟩=>if t=t' then w1 (q0i σ s) fun s=>w1 (q0i σ x) fun x=>qdm P o.dst t s x σ k else none
 | .makeSlice t x y=>bif qak x y then w1 (q0i σ x) fun x=>qpo P o.dst t x σ k else none
 | .call ⟨.builtin .max,⟨[x,y]⟩,⟨[_,_]⟩⟩=>w1 (q0i σ x) fun x=>w1 (q0i σ y) fun y=>j3d max x y k
 | .call ⟨.builtin .min,⟨[x,y]⟩,⟨[_,_]⟩⟩=>w1 (q0i σ x) fun x=>w1 (q0i σ y) fun y=>j3d min x y k
 | .makeFunc (.func f) ⟨[]⟩ cs=>j9x f (q2h σ cs.toList) k
 | .makeMap t none=>qa3 P o.dst t σ k
 | .lookup t m i ok=>w1 (q0i σ m) fun m=>w1 (q0i σ i) fun i=>qeu P t m i ok σ k
 | .mapUpdate t m i x=>w1 (q0i σ m) fun m=>w1 (q0i σ i) fun i=>w1 (q0i σ x) fun x=>q8m P t m i x σ k
 | .insert t m i x=>w1 (q0i σ m) fun m=>w1 (q0i σ i) fun i=>w1 (q0i σ x) fun x=>q8m P t m i x σ k
 | _=>none
theorem qqj {o:Oper} {k:TRes→Option α} {r:α} (h:tev P o σ k=some r) : ∃ y,k y=some r∧Sim (q7i P o (opnd (eS σ)) (eS σ).box (eS σ).row) y:=by
 unfold tev at h
 unfold q7i
 split at h
 ·rename_i ho;rw [ho]
  obtain ⟨x1,e1',h⟩:=q0a h
  exact ⟨_,h,Sim.tr (by show some _=_;rw [q03 e1'];rfl)⟩
 ·rename_i ho;rw [ho]
  obtain ⟨x1,e1',h⟩:=q0a h
  exact ⟨_,h,Sim.tr (by show some _=_;rw [q03 e1'];rfl)⟩
 ·rename_i ho;rw [ho]
  obtain ⟨x1,e1',h⟩:=q0a h
  obtain ⟨x2,e2',h⟩:=q0a h
  obtain ⟨x3,e3',h⟩:=q0a h
  show ∃ y,_∧Sim (qgy _ _ _) y
  rw [q03 e1',q03 e2',q03 e3'];exact qut h
 ·rename_i ho;rw [ho]
  exact qot h
 ·rename_i ho;rw [ho]
  obtain ⟨x1,e1',h⟩:=q0a h
  show ∃ y,_∧Sim (qdl _ _ _ _) y
  rw [q03 e1'];exact qx8 h
 ·rename_i ho;rw [ho]
  obtain ⟨x1,e1',h⟩:=q0a h
  show ∃ y,_∧Sim (q4g _ _ _ _ _) y
  rw [q03 e1'];exact qu9 h
 ·rename_i ho;rw [ho]
  obtain ⟨x1,e1',h⟩:=q0a h
  obtain ⟨x2,e2',h⟩:=q0a h
  show ∃ y,_∧Sim (q23 _ _ _ _ _ _) y
  rw [q03 e1',q03 e2'];exact qq3 h
 ·rename_i ho;rw [ho]
  obtain ⟨x1,e1',h⟩:=q0a h
  show ∃ y,_∧Sim (q1a _ _ _ _) y
  rw [q03 e1'];exact qc4 h
 ·rename_i ho;rw [ho]
  obtain ⟨x1,e1',h⟩:=q0a h
  show ∃ y,_∧Sim (q5w _ _ _ _) y
  rw [q03 e1'];exact qol h
 ·rename_i ho;rw [ho]
  obtain ⟨x1,e1',h⟩:=q0a h
  obtain ⟨x2,e2',h⟩:=q0a h
  show ∃ y,_∧Sim (q2z _ _ _ _) y
  rw [q03 e1',q03 e2'];exact qo1 h
 ·rename_i ho;rw [ho]
  obtain ⟨x1,e1',h⟩:=q0a h
  obtain ⟨x2,e2',h⟩:=q0a h
  show ∃ y,_∧Sim (q0l _ _ _ _ _) y
  rw [q03 e1',q03 e2'];exact qf4 h
 ·rename_i ho;rw [ho]
  obtain ⟨x1,e1',h⟩:=q0a h
  show ∃ y,_∧Sim (q3h _ _) y
  rw [q03 e1'];exact qj0 h
 ·rename_i ho;rw [ho]
  exact qpl h
 ·rename_i ho;rw [ho]
  exact qay h
 ·rename_i ho;rw [ho]
  show ∃ y,_∧Sim (bif q7r _ then qao _ _ _ _ else q5u _ _ _ _ _) y
  cases hn:q7r _ with
  | true =>
   rw [hn] at h
   obtain ⟨x1,e1',h⟩:=q0a h
   rw [q03 e1'];exact qur h
  | false =>
   rw [hn] at h
   obtain ⟨x1,e1',h⟩:=q0a h
   obtain ⟨x2,e2',h⟩:=q0a h
   rw [q03 e1',q03 e2'];exact j00 h
 ·rename_i ho;rw [ho]
  obtain ⟨x1,e1',h⟩:=q0a h
  show ∃ y,_∧Sim (q7f _ _ _) y
  rw [q03 e1'];exact qo2 h
 ·rename_i ho;rw [ho]
  obtain ⟨x1,e1',h⟩:=q0a h
  show ∃ y,_∧Sim (j9j _ _) y
  rw [q03 e1'];exact j4c h
 ·rename_i ho;rw [ho]
  obtain ⟨x1,e1',h⟩:=q0a h
  show ∃ y,_∧Sim (match q79 _ _ _ _ with|some r=>some r|none=>q1y _ _ _ _ _ _) y
  rw [q03 e1']
  cases hb:qjf P _ _ with
  | true =>
   rw [hb] at h
   rw [qor hb]
   exact qjc h
  | false =>
   rw [hb] at h
   obtain ⟨y,h1,c,h2,h3⟩:=qt4 (P:=P) h
   rw [h3]
   exact ⟨y,h1,c,h2,rfl⟩
 ·rename_i ho;rw [ho]
  obtain ⟨x1,e1',h⟩:=q0a h
  obtain ⟨x2,e2',h⟩:=j0q h
  obtain ⟨x3,e3',h⟩:=j0q h
  show ∃ y,_∧Sim (match q3p _ _ _ _ _ with|some r=>some r|none=>q1n _ _ _ _ _ _) y
  rw [q03 e1',e2',e3']
  cases hb:rowD x1 with
  | true =>
   rw [hb] at h
   obtain ⟨y,h1,h2,h3⟩:=qfw (P:=P) h
   rw [h2]
   exact ⟨y,h1,h3⟩
  | false =>
   rw [hb] at h
   obtain ⟨y,h1,c,h2,h3⟩:=qnu (P:=P) h
   rw [h3]
   exact ⟨y,h1,c,h2,rfl⟩
 ·rename_i ho;rw [ho]
  obtain ⟨x1,e1',h⟩:=q0a h
  show ∃ y,_∧Sim (qwu _) y
  rw [q03 e1'];exact qwg h
 ·rename_i ho;rw [ho]
  obtain ⟨x1,e1',h⟩:=q0a h
  show ∃ y,_∧Sim (qaa _ _ _ _) y
  rw [q03 e1'];exact qwd h
 ·rename_i ho;rw [ho]
  split at h
  case isFalse=>cases h
  rename_i ht
  obtain ⟨x1,e1',h⟩:=q0a h
  obtain ⟨x2,e2',h⟩:=q0a h
  show ∃ y,_∧Sim (if _=_ then q1p _ _ _ _ _ _ else none) y
  rw [if_pos ht,q03 e1',q03 e2'];exact qnm h
 ·rename_i ho;rw [ho]
  cases hs:qak _ _ with
  | false=>rw [hs] at h;cases h
  | true =>
   rw [hs] at h
   obtain ⟨x1,e1',h⟩:=q0a h
   show ∃ y,_∧Sim (bif qak _ _ then q7u _ _ _ _ _ else none) y
   rw [hs,q03 e1'];exact qu6 h
 ·rename_i ho;rw [ho]
  obtain ⟨x1,e1',h⟩:=q0a h
  obtain ⟨x2,e2',h⟩:=q0a h
  show ∃ y,_∧Sim (j2f _ _ _) y
  rw [q03 e1',q03 e2'];exact qrt h
 ·rename_i ho;rw [ho]
  obtain ⟨x1,e1',h⟩:=q0a h
  obtain ⟨x2,e2',h⟩:=q0a h
  show ∃ y,_∧Sim (j2f _ _ _) y
  rw [q03 e1',q03 e2'];exact qrt h
 ·rename_i f cs ho;rw [ho]
  unfold j9x at h
  split at h
  case h_2=>cases h
  rename_i ds hds
  split at h
  case h_2=>cases h
  rename_i c cs' hc
  refine ⟨_,h,Sim.tr ?_⟩
  show jch f (cs.toList.map (opnd (eS σ)))=_
  rw [q85 hds]
  unfold jch
  rw [qmg hc]
  rfl
 ·rename_i ho;rw [ho]
  exact qi7 h
 ·rename_i ho;rw [ho]
  obtain ⟨x1,e1',h⟩:=q0a h
  obtain ⟨x2,e2',h⟩:=q0a h
  show ∃ y,_∧Sim (q1h _ _ _ _ _ _) y
  rw [q03 e1',q03 e2'];exact qnh h
 ·rename_i ho;rw [ho]
  obtain ⟨x1,e1',h⟩:=q0a h
  obtain ⟨x2,e2',h⟩:=q0a h
  obtain ⟨x3,e3',h⟩:=q0a h
  show ∃ y,_∧Sim (q1q _ _ _ _ _ _) y
  rw [q03 e1',q03 e2',q03 e3'];exact qam h
 ·rename_i ho;rw [ho]
  obtain ⟨x1,e1',h⟩:=q0a h
  obtain ⟨x2,e2',h⟩:=q0a h
  obtain ⟨x3,e3',h⟩:=q0a h
  show ∃ y,_∧Sim (q1q _ _ _ _ _ _) y
  rw [q03 e1',q03 e2',q03 e3'];exact qam h
 ·cases h
end Go.Proofs.YtapfankgdkdkgaaGreatDoor.AM
