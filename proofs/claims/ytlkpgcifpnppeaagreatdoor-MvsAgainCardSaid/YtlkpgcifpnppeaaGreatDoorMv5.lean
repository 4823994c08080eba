
import Derived.Test.YtlkpgcifpnppeaaGreatDoorMv4
set_option linter.unusedVariables false
set_option linter.unusedSimpArgs false
namespace Go.Proofs.YtlkpgcifpnppeaaGreatDoor.AM
open Go.RowKit
variable {α:Type} {P:Program} {σ:TSt}
def jki (d:Int):Option TD→Option Int
 | none=>some d
 | some (.one (.c (.d (.int _) n)))=>some n
 | some _=>none
theorem qhi {d n:Int} {x:Option TD} (h:jki d x=some n):bnd d (x.map eD)=some n:=by
 unfold jki at h
 split at h
 ·simp only [Option.some.injEq] at h;subst h;rfl
 ·simp only [Option.some.injEq] at h;subst h;rfl
 ·cases h
def qst (P:Program) (t:TypeId) (x:TD) (lo hi:Option TD) (k:TRes→Option α):Option α:=match P.underlying t,x with
 | some .string,.one (.c (.d .str s))=>match jki 0 lo,jki (List.length s) hi with
  | some l,some h=>(qoa s l h).bind fun y=>k { val:=.one (.c (.d .str y)) }
  | _,_=>none
 | some (.slice el),.one (.c (.d (.lst e) xs))=>match jki 0 lo,jki (List.length xs) hi with
  | some l,some h=>if tsz P el=some (width e) then (qoa xs l h).bind fun y=>k { val:=.one (.c (.d (.lst e) y)) } else none
  | _,_=>none
 | _,_=>none
theorem qlp {β:Type} {l:List β} {a b:Int} {y:List β} (h:qoa l a b=some y):(0≤a∧a≤b∧b≤l.length)∧y=(l.drop a.toNat).take (b.toNat - a.toNat):=by
 unfold qoa at h
 split at h
 case isFalse=>cases h
 rename_i hc
 simp only [Option.some.injEq] at h
 exact ⟨hc,h.symm⟩
theorem q44 (s:Yy):(ba s).size=s.length:=by simp [ba,ByteArray.size]
theorem qg9 (s:Yy) (a b:Nat):(ba s).extract a b=ba ((s.drop a).take (b - a)):=by
 unfold ba
 apply ByteArray.ext
 rw [ByteArray.data_extract]
 apply Array.toList_inj.1
 rw [Array.toList_extract,List.extract_eq_take_drop]
theorem j11 {t:TypeId} {x:TD} {lo hi:Option TD} {k:TRes→Option α} {r:α} (h:qst P t x lo hi k=some r) : ∃ y,k y=some r∧Sim (q6j P t (eD x) (lo.map eD) (hi.map eD)) y:=by
 unfold qst at h
 split at h
 ·rename_i s hu
  split at h
  case h_2=>cases h
  rename_i l hh hl hhh
  obtain ⟨y,hy,h⟩:=Option.bind_eq_some_iff.1 h
  obtain ⟨h1,rfl⟩:=qlp hy
  refine ⟨_,h,_,h1,?_⟩
  simp only [q6j,eD,e1,eC,q01,List.headD_cons,hu,qhi hl,qg9,q44,qhi hhh]
  rfl
 ·rename_i el e xs hu
  split at h
  case h_2=>cases h
  rename_i l hh hl hhh
  split at h
  case isFalse=>cases h
  rename_i hsz
  obtain ⟨y,hy,h⟩:=Option.bind_eq_some_iff.1 h
  obtain ⟨h1,rfl⟩:=qlp hy
  refine ⟨_,h,_,h1,?_⟩
  simp only [q6j,eD,e1,eC,q01,List.headD_cons,hu,qhi hl,hsz,if_true,List.length_map,← List.map_drop,← List.map_take,qhi hhh]
  rfl
 ·cases h
def qc9 (P:Program) (t:TypeId) (x:TD) (lo hi:Option TD) (σ:TSt) (k:TRes→Option α):Option α:=match P.underlying t,x with
 | some (.slice el),.one (.c (.row tt g))=>match lk σ.rows tt with
  | some r=>match jki 0 lo,jki (List.length r.xs) hi with
   | some l,some h=>if r.gen=g∧tsz P el=some (width r.e) then (qoa r.xs l h).bind fun y=>k { val:=.one (.c (.d (.lst r.e) y)),row:=some (tt,{ r with wr:=false }) } else none
   | _,_=>none
  | none=>none
 | _,_=>none
theorem j2h {t:TypeId} {tt g:Nat} {lo hi:Option D} : q6j P t (.one (.c (.row tt g))) lo hi=none:=by
 unfold q6j
 split
 ·rename_i h;cases h
 ·rename_i h;cases h
 ·rfl
theorem qow {t:TypeId} {x:TD} {lo hi:Option TD} {k:TRes→Option α} {r:α} (h:qc9 P t x lo hi σ k=some r) : ∃ y,k y=some r∧q6j P t (eD x) (lo.map eD) (hi.map eD)=none∧Sim (q33 P t (eD x) (lo.map eD) (hi.map eD) (eS σ).row) y:=by
 unfold qc9 at h
 split at h
 case h_2=>cases h
 rename_i el tt g hu
 split at h
 case h_2=>cases h
 rename_i r' hr
 split at h
 case h_2=>cases h
 rename_i l hh hl hhh
 split at h
 case isFalse=>cases h
 rename_i hg
 obtain ⟨y,hy,h⟩:=Option.bind_eq_some_iff.1 h
 obtain ⟨h1,rfl⟩:=qlp hy
 refine ⟨_,h,j2h,_,h1,?_⟩
 have hlen:(eR r').xs.length=r'.xs.length:=by simp [eR]
 obtain ⟨rfl,hsz⟩:=hg
 have hg':(eR r').gen=r'.gen∧tsz P el=some (eR r').sz:=⟨rfl,hsz⟩
 simp only [q33,eD,e1,eC,hu,q2p hr,qhi hl,hlen,qhi hhh]
 rw [if_pos hg']
 have e2:((eR r').xs.drop l.toNat).take (hh.toNat - l.toNat)=((r'.xs.drop l.toNat).take (hh.toNat - l.toNat)).map (q01 r'.e):=by simp [eR]
 rw [e2]
 rfl
def jei (x:TD) (k:TRes→Option α):Option α:=match x with
 | .one (.c (.box β o))=>k { val:=.one (.c (.box β o)) }
 | .one (.c (.rp e o y))=>k { val:=.one (.c (.rp e o y)) }
 | .one (.c (.wp t g j o))=>k { val:=.one (.c (.wp t g j o)) }
 | .one (.c (.bp β o l n))=>k { val:=.one (.c (.bp β o l n)) }
 | _=>none
theorem jbe {x:TD} {k:TRes→Option α} {r:α} (h:jei x k=some r) : ∃ y,k y=some r∧Sim (jda (eD x)) y:=by
 unfold jei at h
 split at h
 ·exact ⟨_,h,Sim.tr rfl⟩
 ·exact ⟨_,h,Sim.tr rfl⟩
 ·exact ⟨_,h,Sim.tr rfl⟩
 ·exact ⟨_,h,Sim.tr rfl⟩
 ·cases h
def jez (P:Program) (t:TypeId) (x:TD) (σ:TSt) (k:TRes→Option α):Option α:=match P.underlying t,x with
 | some .string,.one (.c (.d .str s))=>k { val:=.one (.c (.d (.int .i64) (List.length s:Nat))) }
 | some (.slice _),.one (.c (.d (.lst _) xs))=>k { val:=.one (.c (.d (.int .i64) (List.length xs:Nat))) }
 | some (.slice _),.one (.c .nil)=>k { val:=.one (.c (.d (.int .i64) (0:Int))) }
 | some (.slice _),.one (.c (.row tt g))=>match lk σ.rows tt with
  | some r=>if r.gen=g then k { val:=.one (.c (.d (.int .i64) (List.length r.xs:Nat))) } else none
  | none=>none
 | _,_=>none
theorem jft {t:TypeId} {x:TD} {k:TRes→Option α} {r:α} (h:jez P t x σ k=some r) : ∃ y,k y=some r∧Sim (qgh P t (eD x) (eS σ).row) y:=by
 unfold jez at h
 split at h
 ·rename_i s hu
  refine ⟨_,h,Sim.tr ?_⟩
  simp only [qgh,eD,e1,eC,q01,List.headD_cons,hu,q44]
  rfl
 ·rename_i el e xs hu
  refine ⟨_,h,Sim.tr ?_⟩
  simp only [qgh,eD,e1,eC,q01,List.headD_cons,hu,List.length_map]
  rfl
 ·rename_i el hu
  refine ⟨_,h,Sim.tr ?_⟩
  simp only [qgh,eD,e1,eC,hu]
  rfl
 ·rename_i el tt g hu
  split at h
  case h_2=>cases h
  rename_i r' hr
  split at h
  case isFalse=>cases h
  rename_i hg
  refine ⟨_,h,Sim.tr ?_⟩
  have hg':(eR r').gen=g:=hg
  simp only [qgh,eD,e1,eC,hu,q2p hr,hg',if_true]
  have:(eR r').xs.length=r'.xs.length:=by simp [eR]
  rw [this]
  rfl
 ·cases h
def qz0 (place:Nat→Option (Nat×Nat)) (cs:List TC):List (Nat×List TC)→Option (List TC)
 | []=>some cs
 | (i,xs)::rest=>match place i with
  | some (off,size)=>if xs.length=size∧off+xs.length≤cs.length then qz0 place (setAt cs off xs) rest else none
  | none=>none
def eQ (q:Nat×List TC):Nat×List C:=(q.1,q.2.map eC)
theorem qec {place:Nat→Option (Nat×Nat)} : ∀ {qs:List (Nat×List TC)} {cs cs':List TC},qz0 place cs qs=some cs'→qgw place (cs.map eC) (qs.map eQ)=some (cs'.map eC)
 | [],cs,cs',h=>by simp only [qz0,Option.some.injEq] at h;subst h;rfl
 | (i,xs)::rest,cs,cs',h=>by
  unfold qz0 at h
  split at h
  case h_2=>cases h
  rename_i off size hp
  split at h
  case isFalse=>cases h
  rename_i hc
  have h3:=qec h
  rw [qa2] at h3
  show (match place i with|some (off,size)=>if (xs.map eC).length=size∧off+(xs.map eC).length≤(cs.map eC).length then qgw place (setAt (cs.map eC) off (xs.map eC)) (rest.map eQ) else none|none=>none)=_
  rw [hp]
  simp only [List.length_map]
  rw [if_pos hc,h3]
def jfn (P:Program) (t:TypeId) (parts:List (Nat×List TC)):Option (List TC):=match qn4 P t,layT P t,arrT P t with
 | some z,some pl,_=>match qnw z with
  | some cs=>if z.all Value.oneCell'=true then qz0 (fun i=>nth pl i) cs parts else none
  | none=>none
 | some z,none,some n=>match qnw z with
  | some cs=>if z.all Value.oneCell'=true then qz0 (fun i=>some (i*n,n)) cs parts else none
  | none=>none
 | _,_,_=>none
theorem jfr {t:TypeId} {parts:List (Nat×List TC)} {cs:List TC} (h:jfn P t parts=some cs):qld P t (parts.map eQ)=some (cs.map eC):=by
 unfold jfn at h
 split at h
 ·rename_i z pl hz hl
  split at h
  case h_2=>cases h
  rename_i cs0 hcs
  split at h
  case isFalse=>cases h
  rename_i ha
  have:=qec h
  rw [q5u hcs] at this
  simp only [qld,hz,hl,ha,if_true]
  rw [← this]
  congr 1
  funext i
  rw [q5k];simp
 ·rename_i z n hz hl hn
  split at h
  case h_2=>cases h
  rename_i cs0 hcs
  split at h
  case isFalse=>cases h
  rename_i ha
  have:=qec h
  rw [q5u hcs] at this
  simp only [qld,hz,hl,hn,ha,if_true]
  exact this
 ·cases h
def qmw (σ:TSt):List (Nat×Operand)→Option (List (Nat×List TC))
 | []=>some []
 | (i,x)::rest=>match q0p σ x,qmw σ rest with
  | some (.one d),some r=>if (q77 d).all okT=true then some ((i,q77 d)::r) else none
  | _,_=>none
theorem qf3 : ∀ {ps:List (Nat×Operand)} {qs:List (Nat×List TC)},qmw σ ps=some qs→q9n (opnd (eS σ)) ps=some (qs.map eQ)
 | [],qs,h=>by simp only [qmw,Option.some.injEq] at h;subst h;rfl
 | (i,x)::ps,qs,h=>by
  unfold qmw at h
  split at h
  case h_2=>cases h
  rename_i d r hd hr
  split at h
  case isFalse=>cases h
  rename_i ha
  simp only [Option.some.injEq] at h
  subst h
  have h1:=q05 hd
  have h2:=qf3 hr
  have ha':(q0j (e1 d)).all okC=true:=by rw [q2h];exact qt4 ha
  unfold q9n
  rw [h1,h2]
  show (if (q0j (e1 d)).all okC=true then _ else _)=_
  rw [if_pos ha',q2h]
  rfl
def qtc (P:Program) (t:TypeId) (ps:Array (Nat×Operand)) (σ:TSt) (k:TRes→Option α):Option α:=match qmw σ ps.toList with
 | some qs=>match jfn P t qs with
  | some cs=>k { val:=.one (.agg cs) }
  | none=>none
 | none=>none
theorem j23 {t:TypeId} {ps:Array (Nat×Operand)} {k:TRes→Option α} {r:α} (h:qtc P t ps σ k=some r) : ∃ y,k y=some r∧Sim (qdw P t ps (opnd (eS σ))) y:=by
 unfold qtc at h
 split at h
 case h_2=>cases h
 rename_i qs hqs
 split at h
 case h_2=>cases h
 rename_i cs hcs
 exact ⟨_,h,Sim.tr (by simp only [qdw,qf3 hqs,jfr hcs,q9r,eD,e1,Option.map_none])⟩
def jpo (f:TypeId→Option (List Ty)):List Field→Option (List Ty)
 | []=>some []
 | fd::fs=>match f fd.type,jpo f fs with
  | some a,some b=>some (a++b)
  | _,_=>none
def jm8:List Ty→Option Ty
 | []=>none
 | [t]=>some t
 | t::t'::ts=>(jm8 (t'::ts)).map (.prod t)
def tysP (P:Program):Nat→TypeId→Option (List Ty)
 | 0,_=>none
 | n+1,t=>match P.underlying t with
  | some (.int k)=>some [.int k]
  | some .bool=>some [.bool]
  | some .string=>some [.str]
  | some (.slice e)=>((tysP P n e).bind jm8).map fun x=>[.lst x]
  | some (.struct fs)=>jpo (tysP P n) fs.toList
  | some (.interface _)=>some [.any]
  | some (.func _ _ _)=>some [.any]
  | some (.pointer _)=>some [.any]
  | _=>none
def tyE (P:Program) (t:TypeId):Option Ty:=match tysP P 9 t with
 | some []=>some .unit
 | some l=>jm8 l
 | none=>none
def j2s (e:Ty):Nat→List TC→Option (List (den e))
 | 0,[]=>some []
 | 0,_::_=>none
 | n+1,cs=>match qoq e (cs.take (width e)),j2s e n (cs.drop (width e)) with
  | some x,some xs=>some (x::xs)
  | _,_=>none
theorem qtt {e:Ty} : ∀ {n:Nat} {cs:List TC} {xs:List (den e)},j2s e n cs=some xs→cs.map eC=((xs.map (q01 e)).flatten).map C.d∧chunk (width e) n (xs.map (q01 e)).flatten=xs.map (q01 e)
 | 0,[],xs,h=>by simp only [j2s,Option.some.injEq] at h;subst h;exact ⟨rfl,rfl⟩
 | 0,_::_,xs,h=>by simp [j2s] at h
 | n+1,cs,xs,h=>by
  unfold j2s at h
  split at h
  case h_2=>cases h
  rename_i y ys hy hys
  simp only [Option.some.injEq] at h
  subst h
  obtain ⟨h1,h2⟩:=qtt hys
  have h3:=q7c hy
  refine ⟨?_,?_⟩
  ·rw [List.map_cons,List.flatten_cons,List.map_append,← h3,← h1,← List.map_append,List.take_append_drop]
  ·rw [List.map_cons,List.flatten_cons,chunk,List.take_append_of_le_length (by rw [q0c];exact Nat.le_refl _),List.take_of_length_le (by rw [q0c];exact Nat.le_refl _),List.drop_append_of_le_length (by rw [q0c];exact Nat.le_refl _),List.drop_eq_nil_of_le (by rw [q0c];exact Nat.le_refl _),List.nil_append,h2]
theorem ql2 {β γ:Type} (f:β→γ) (z:List β) : ∀ n,(rep z n).map f=rep (z.map f) n
 | 0=>rfl
 | n+1=>by rw [rep,rep,List.map_append,ql2 f z n]
def q96 (P:Program) (dst:Option Nat) (t:TypeId) (n:Nat) (ps:Array (Nat×Operand)) (σ:TSt) (k:TRes→Option α):Option α:=match P.underlying t,dst with
 | some (.slice el),some i=>match lk σ.rows i,qn4 P el,tyE P el,qmw σ ps.toList with
  | none,some z,some e,some qs=>match qnw z with
   | some zt=>if tsz P el=some (width e)∧n*width e≤2 ^ 24∧n≤2 ^ 24∧z.length=width e∧0<width e∧z.all Value.oneCell'=true∧el<1099511627776 then match qz0 (fun i=>some (i*width e,width e)) (rep zt n) qs with
     | some cs=>match j2s e n cs with
      | some xs=>k { val:=.one (.c (.row i 0)),row:=some (i,⟨0,el,true,e,xs⟩) }
      | none=>none
     | none=>none
    else none
   | none=>none
  | _,_,_,_=>none
 | _,_=>none
theorem qit {dst:Option Nat} {t:TypeId} {n:Nat} {ps:Array (Nat×Operand)} {k:TRes→Option α} {r:α} (h:q96 P dst t n ps σ k=some r) : ∃ y,k y=some r∧Sim (q0x P dst t n ps (opnd (eS σ)) (eS σ).row) y:=by
 unfold q96 at h
 split at h
 case h_2=>cases h
 rename_i el i hu
 split at h
 case h_2=>cases h
 rename_i z e qs hr hz he hqs
 split at h
 case h_2=>cases h
 rename_i zt hzt
 split at h
 case isFalse=>cases h
 rename_i hc
 obtain ⟨c1,c2,c3,c4,c5,c6,c7⟩:=hc
 split at h
 case h_2=>cases h
 rename_i cs hcs
 split at h
 case h_2=>cases h
 rename_i xs hxs
 obtain ⟨k1,k2⟩:=qtt hxs
 have h2:=qec hcs
 rw [ql2,q5u hzt,← ql2] at h2
 refine ⟨_,h,Sim.tr ?_⟩
 simp only [q0x,hu,q9g hr,c1,hz,qf3 hqs]
 rw [if_pos ⟨c2,c3,c4,c5,c6,c7⟩,h2]
 simp only [k1,q87,k2,q9r,eD,e1,eC,Option.map_none,Option.map_some,eR]
def srcT (x:TD) (σ:TSt):Option ((e:Ty)×List (den e)):=match x with
 | .one (.c (.d (.lst e) xs))=>some ⟨e,xs⟩
 | .one (.c (.row t g))=>match lk σ.rows t with
  | some r=>if r.gen=g then some ⟨r.e,r.xs⟩ else none
  | none=>none
 | _=>none
theorem jbl {x:TD} {s:(e:Ty)×List (den e)} (h:srcT x σ=some s):qiz (width s.1) (eD x) (eS σ).row=some (s.2.map (q01 s.1)):=by
 unfold srcT at h
 split at h
 ·simp only [Option.some.injEq] at h;subst h
  simp only [qiz,eD,e1,eC,q01,List.headD_cons,if_true]
 ·split at h
  case h_2=>cases h
  rename_i r hr
  split at h
  case isFalse=>cases h
  rename_i hg
  simp only [Option.some.injEq] at h;subst h
  have hg':(eR r).gen=_∧(eR r).sz=width r.e:=⟨hg,rfl⟩
  simp only [qiz,eD,e1,eC,q2p hr]
  rw [if_pos hg'];rfl
 ·cases h
def qnx (P:Program) (dst:Option Nat) (t:TypeId) (s x:TD) (σ:TSt) (k:TRes→Option α):Option α:=match P.underlying t with
 | some (.slice el)=>match jdc P el,srcT x σ with
  | some (m,bytes),some src=>if m=width src.1 then match s with
    | .one (.c (.row tt g))=>match lk σ.rows tt with
     | some r=>if h:src.1=r.e then if r.gen=g∧r.E=el∧Nat.blt tt 2000000=true then
       (q7r bytes r.xs (h ▸ src.2)).bind fun ys=>k { val:=.one (.c (.row tt (g+1))),row:=some (tt,{ r with gen:=g+1,xs:=ys }) } else none else none
     | none=>none
    | .one (.c .nil)=>match dst with
     | some i=>match lk σ.rows i with
      | none=>(q7r bytes [] src.2).bind fun ys=>k { val:=.one (.c (.row i 0)),row:=some (i,⟨0,el,true,src.1,ys⟩) }
      | some _=>none
     | none=>none
    | _=>none
   else none
  | _,_=>none
 | _=>none
theorem qzx {β:Type} {b:Nat} {xs ys zs:List β} (h:q7r b xs ys=some zs):(xs.length+ys.length)*b≤140737488355328∧zs=xs++ys:=by
 unfold q7r at h
 split at h
 case isFalse=>cases h
 rename_i hc
 exact ⟨hc,(Option.some.inj h).symm⟩
theorem qzw {dst:Option Nat} {t:TypeId} {s x:TD} {k:TRes→Option α} {r:α} (h:qnx P dst t s x σ k=some r) : ∃ y,k y=some r∧Sim (q2u P dst t (eD s) (eD x) (eS σ).row) y:=by
 unfold qnx at h
 split at h
 case h_2=>cases h
 rename_i el hu
 split at h
 case h_2=>cases h
 rename_i m bytes src hel hsrc
 split at h
 case isFalse=>cases h
 rename_i hm
 subst hm
 have h1:=jbl hsrc
 split at h
 ·rename_i tt g
  split at h
  case h_2=>cases h
  rename_i r' hr
  split at h
  case isFalse=>cases h
  rename_i he
  split at h
  case isFalse=>cases h
  rename_i hg
  obtain ⟨e',ys⟩:=src
  obtain ⟨gen,E,wr,e,xs⟩:=r'
  have he':e'=e:=he
  subst he'
  obtain ⟨hg1,hg2,hg3⟩:=hg
  have hg3':tt<2000000:=by simpa using hg3
  have hg1':gen=g:=hg1
  have hg2':E=el:=hg2
  subst hg1' hg2'
  obtain ⟨zs,hz,h⟩:=Option.bind_eq_some_iff.1 h
  obtain ⟨c1,rfl⟩:=qzx hz
  refine ⟨_,h,_,c1,?_⟩
  simp only at h1
  show q2u P dst t (.one (.c (.row tt gen))) (eD x) _=_
  generalize eD x=y at h1
  simp only [q2u,hu,hel,h1,eD,e1,eC,q2p hr,eR,and_self,hg3',if_true,q9r,Option.map_none,Option.map_some,List.map_append,List.length_map]
 ·split at h
  case h_2=>cases h
  rename_i i
  split at h
  case h_2=>cases h
  rename_i hr
  obtain ⟨e',ys⟩:=src
  obtain ⟨zs,hz,h⟩:=Option.bind_eq_some_iff.1 h
  obtain ⟨c1,hzz⟩:=qzx hz
  have hzz':zs=ys:=hzz
  clear hzz hz
  rw [hzz'] at h
  clear hzz' zs
  refine ⟨_,h,_,c1,?_⟩
  simp only at h1
  show q2u P (some i) t (.one (.c (.d (.v (.slice none 0 0))))) (eD x) _=_
  generalize eD x=y at h1
  simp only [q2u,hu,hel,h1,eD,e1,eC,q9g hr,eR,q9r,Option.map_none,Option.map_some,List.map_append,List.length_map,List.nil_append,List.length_nil,Nat.zero_add]
 ·cases h
end Go.Proofs.YtlkpgcifpnppeaaGreatDoor.AM
namespace Go.Proofs.YtlkpgcifpnppeaaGreatDoor.AM
open Go.RowKit
variable {α:Type} {P:Program} {σ:TSt}
def intT (op:BinOp) (k k':IntKind) (a b:Int) (c:TC→Option α):Option α:=match op with
 | .shl=>(shlO k a b).bind fun z=>c (.d (.int k) z)
 | .shr=>(jpj k a b).bind fun z=>c (.d (.int k) z)
 | .add=>if k=k' then q08 (k.wrap (a+b)) fun z=>c (.d (.int k) z) else none
 | .sub=>if k=k' then q08 (k.wrap (a - b)) fun z=>c (.d (.int k) z) else none
 | .mul=>if k=k' then q08 (k.wrap (a*b)) fun z=>c (.d (.int k) z) else none
 | .quo=>if k=k' then (quoO k a b).bind fun z=>c (.d (.int k) z) else none
 | .rem=>if k=k' then (remO a b).bind fun z=>c (.d (.int k) z) else none
 | .and=>if k=k' then q08 (andI k a b) fun z=>c (.d (.int k) z) else none
 | .or=>if k=k' then q08 (orI k a b) fun z=>c (.d (.int k) z) else none
 | .xor=>if k=k' then q08 (xorI k a b) fun z=>c (.d (.int k) z) else none
 | .eql=>if k=k' then c (.d .bool (decide (a=b))) else none
 | .neq=>if k=k' then c (.d .bool (!decide (a=b))) else none
 | .lss=>if k=k' then c (.d .bool (decide (a<b))) else none
 | .leq=>if k=k' then c (.d .bool (decide (a≤b))) else none
 | .gtr=>if k=k' then c (.d .bool (decide (b<a))) else none
 | .geq=>if k=k' then c (.d .bool (decide (b≤a))) else none
 | _=>none
def strT (op:BinOp) (s t:Yy) (c:TC→Option α):Option α:=match op with
 | .add=>(catO s t).bind fun z=>c (.d .str z)
 | .eql=>c (.d .bool (decide (s=t)))
 | .neq=>c (.d .bool (!decide (s=t)))
 | .lss=>c (.d .bool (ltS s t))
 | .leq=>c (.d .bool (ltS s t||decide (s=t)))
 | .gtr=>c (.d .bool (!(ltS s t||decide (s=t))))
 | .geq=>c (.d .bool (!ltS s t))
 | _=>none
def vC (c:TC):TRes:={ val:=.one (.c c) }
theorem jmj {op:BinOp} {T:TypeId} {k k':IntKind} {a b:Int} {c:TC→Option α} {r:α} (h:intT op k k' a b c=some r) :
  ∃ x,c x=some r∧Sim (qaf P op T (.one (.c (.d (.v (.int k a))))) (.one (.c (.d (.v (.int k' b)))))) (vC x):=by
 unfold intT at h
 split at h
 case h_1 =>
  obtain ⟨z,hz,h⟩:=Option.bind_eq_some_iff.1 h
  unfold shlO at hz
  split at hz
  case isFalse=>cases hz
  rename_i hb
  simp only [Option.some.injEq] at hz;subst hz
  exact ⟨_,h,_,hb,rfl⟩
 case h_2 =>
  obtain ⟨z,hz,h⟩:=Option.bind_eq_some_iff.1 h
  unfold jpj at hz
  split at hz
  case isFalse=>cases hz
  rename_i hb
  simp only [Option.some.injEq] at hz;subst hz
  exact ⟨_,h,_,hb,rfl⟩
 case h_6 =>
  split at h
  case isFalse=>cases h
  rename_i hk;subst hk
  obtain ⟨z,hz,h⟩:=Option.bind_eq_some_iff.1 h
  unfold quoO at hz
  split at hz
  case isFalse=>cases hz
  rename_i hb
  simp only [Option.some.injEq] at hz;subst hz
  refine ⟨_,h,_,hb,?_⟩
  simp only [qaf,if_true,qng,Option.map_some];rfl
 case h_7 =>
  split at h
  case isFalse=>cases h
  rename_i hk;subst hk
  obtain ⟨z,hz,h⟩:=Option.bind_eq_some_iff.1 h
  unfold remO at hz
  split at hz
  case isFalse=>cases hz
  rename_i hb
  simp only [Option.some.injEq] at hz;subst hz
  refine ⟨_,h,_,hb,?_⟩
  simp only [qaf,if_true,qng,Option.map_some];rfl
 case h_17=>cases h
 all_goals
  split at h
  case isFalse=>cases h
  rename_i hk;subst hk
  refine ⟨_,h,Sim.tr ?_⟩
  simp only [qaf,if_true,qng,Option.map_some];rfl
theorem jpd {s t:Yy} : (ba s=ba t)=(s=t):=by
 apply propext
 constructor
 ·intro h
  have:=congrArg ByteArray.data h
  exact Array.toList_inj.2 this |> fun h=>by simpa [ba] using h
 ·rintro rfl;rfl
theorem q7u (s:Yy):(ba s).toList=s:=by rw [ByteArray.toList_eq];rfl
theorem jcl (s t:Yy):ba s++ba t=ba (s++t):=by
 apply ByteArray.ext
 rw [ByteArray.data_append]
 simp [ba]
theorem jcm (s t:Yy):decide (ba s=ba t)=decide (s=t):=by simp only [jpd]
theorem jm6 {op:BinOp} {T:TypeId} {s t:Yy} {c:TC→Option α} {r:α} (h:strT op s t c=some r) :
  ∃ x,c x=some r∧Sim (qaf P op T (.one (.c (.d (.v (.string (ba s)))))) (.one (.c (.d (.v (.string (ba t))))))) (vC x):=by
 unfold strT at h
 split at h
 case h_1 =>
  obtain ⟨z,hz,h⟩:=Option.bind_eq_some_iff.1 h
  unfold catO at hz
  split at hz
  case isFalse=>cases hz
  rename_i hb
  simp only [Option.some.injEq] at hz;subst hz
  refine ⟨_,h,_,hb,?_⟩
  simp only [qaf,qqe,Option.map_some,q44,jcl];rfl
 case h_8=>cases h
 all_goals
  refine ⟨_,h,Sim.tr ?_⟩
  simp only [qaf,qqe,Option.map_some,q7u,jcm];rfl
def eqC1 (P:Program) (t:TypeId) (x y:TC):Option Bool:=match P.underlying t,x,y with
 | some .bool,.d .bool a,.d .bool b=>some (decide ((a:Bool)=b))
 | some (.int _),.d (.int k) a,.d (.int k') b=>if k=k' then some (decide ((a:Int)=b)) else none
 | some .string,.d .str a,.d .str b=>some (decide ((a:Yy)=b))
 | _,_,_=>none
def vT:TC→Option Value
 | .d (.int k) n=>some (.int k n)
 | .d .bool b=>some (.bool b)
 | .d .str s=>some (.string (ba s))
 | _=>none
def vTs:List TC→Option (List Value)
 | []=>some []
 | c::cs=>match vT c,vTs cs with
  | some x,some xs=>some (x::xs)
  | _,_=>none
theorem vT_ok {c:TC} {v:Value} (h:vT c=some v):eC c = .d (.v v):=by
 unfold vT at h
 split at h<;>simp only [Option.some.injEq,reduceCtorEq] at h<;>subst h<;>rfl
theorem jee : ∀ {cs:List TC} {xs:List Value},vTs cs=some xs→quw (cs.map eC)=some xs
 | [],xs,h=>by simp only [vTs,Option.some.injEq] at h;subst h;rfl
 | c::cs,xs,h=>by
  unfold vTs at h
  split at h
  case h_2=>cases h
  rename_i x ys hx hy
  simp only [Option.some.injEq] at h;subst h
  rw [List.map_cons,vT_ok hx]
  show (quw (cs.map eC)).map (x :: ·)=_
  rw [jee hy];rfl
def jej (P:Program) (rec:TypeId→List TC→List TC→Option Bool):List Field→List TC→List TC→Option Bool
 | [],_,_=>some true
 | f::fs,xs,ys=>if f.name = "_" then none else match qn8 P f.type with
  | some false=>match nth xs f.offset,nth ys f.offset with
   | some x,some y=>match eqC1 P f.type x y,jej P rec fs xs ys with
    | some b,some c=>some (b&&c)
    | _,_=>none
   | _,_=>none
  | some true=>match tsz P f.type with
   | some m=>if f.offset+m≤xs.length∧f.offset+m≤ys.length then match rec f.type ((xs.drop f.offset).take m) ((ys.drop f.offset).take m),jej P rec fs xs ys with
     | some b,some c=>some (b&&c)
     | _,_=>none
    else none
   | none=>none
  | none=>none
def eqST (P:Program):Nat→TypeId→List TC→List TC→Option Bool
 | 0,_,_,_=>none
 | n+1,t,xs,ys=>match P.underlying t with
  | some (.struct fs)=>if P.stoodInHeld t=false then jej P (eqST P n) fs.toList xs ys else none
  | _=>none
theorem joc {t:TypeId} {x y:TC} {u v:Value} {b:Bool} (hx:vT x=some u) (hy:vT y=some v) (h:eqC1 P t x y=some b):eqV P t u v=some b:=by
 unfold eqC1 at h
 split at h
 ·rename_i hu
  simp only [vT,Option.some.injEq] at hx hy h;subst hx hy h
  simp only [eqV,hu]
 ·rename_i hu
  split at h
  case isFalse=>cases h
  rename_i hk;subst hk
  simp only [vT,Option.some.injEq] at hx hy h;subst hx hy h
  simp only [eqV,hu,if_true]
 ·rename_i hu
  simp only [vT,Option.some.injEq] at hx hy h;subst hx hy h
  simp only [eqV,hu,jcm]
 ·cases h
theorem j0w : ∀ {cs:List TC} {xs:List Value} {i:Nat} {c:TC},vTs cs=some xs→nth cs i=some c→∃ v,xs[i]? = some v∧vT c=some v
 | [],_,_,_,_,h=>by cases h
 | c0::cs,xs,i,c,h,hn=>by
  unfold vTs at h
  split at h
  case h_2=>cases h
  rename_i x ys hx hy
  simp only [Option.some.injEq] at h;subst h
  cases i with
  | zero=>simp only [nth,Option.some.injEq] at hn;subst hn;exact ⟨x,rfl,hx⟩
  | succ i =>
   obtain ⟨v,h1,h2⟩:=j0w hy (show nth cs i=some c from hn)
   exact ⟨v,by simpa using h1,h2⟩
theorem jb9 : ∀ {cs:List TC} {xs:List Value} (o m:Nat),vTs cs=some xs→vTs ((cs.drop o).take m)=some ((xs.drop o).take m):=by
 have tk : ∀ {cs:List TC} {xs:List Value} (m:Nat),vTs cs=some xs→vTs (cs.take m)=some (xs.take m):=by
  intro cs
  induction cs with
  | nil=>intro xs m h;simp only [vTs,Option.some.injEq] at h;subst h;simp [vTs]
  | cons c cs ih =>
   intro xs m h
   unfold vTs at h
   split at h
   case h_2=>cases h
   rename_i x ys hx hy
   simp only [Option.some.injEq] at h;subst h
   cases m with
   | zero=>rfl
   | succ m =>
    rw [List.take_succ_cons,List.take_succ_cons]
    unfold vTs
    rw [hx,ih m hy]
 have dr : ∀ {cs:List TC} {xs:List Value} (o:Nat),vTs cs=some xs→vTs (cs.drop o)=some (xs.drop o):=by
  intro cs
  induction cs with
  | nil=>intro xs o h;simp only [vTs,Option.some.injEq] at h;subst h;simp [vTs]
  | cons c cs ih =>
   intro xs o h
   cases o with
   | zero=>exact h
   | succ o =>
    unfold vTs at h
    split at h
    case h_2=>cases h
    rename_i x ys hx hy
    simp only [Option.some.injEq] at h;subst h
    rw [List.drop_succ_cons,List.drop_succ_cons]
    exact ih o hy
 intro cs xs o m h
 exact tk m (dr o h)
theorem j3n : ∀ {cs:List TC} {xs:List Value},vTs cs=some xs→xs.length=cs.length
 | [],xs,h=>by simp only [vTs,Option.some.injEq] at h;subst h;rfl
 | c::cs,xs,h=>by
  unfold vTs at h
  split at h
  case h_2=>cases h
  rename_i x ys hx hy
  simp only [Option.some.injEq] at h;subst h
  rw [List.length_cons,List.length_cons,j3n hy]
theorem qrr {rec:TypeId→List TC→List TC→Option Bool} {rec':TypeId→List Value→List Value→Option Bool} {us vs:List Value} {xs ys:List TC} (hx:vTs xs=some us) (hy:vTs ys=some vs)
  (hr : ∀ t o m b,rec t ((xs.drop o).take m) ((ys.drop o).take m)=some b→rec' t ((us.drop o).take m) ((vs.drop o).take m)=some b) : ∀ {fs:List Field} {b:Bool},jej P rec fs xs ys=some b→jgk P rec' fs us vs=some b
 | [],b,h=>h
 | f::fs,b,h=>by
  unfold jej at h
  split at h
  case isTrue=>cases h
  rename_i hn
  split at h
  ·rename_i h3
   split at h
   case h_2=>cases h
   rename_i x y h1 h2
   split at h
   case h_2=>cases h
   rename_i b1 b2 h4 h5
   obtain ⟨u,k1,k2⟩:=j0w hx h1
   obtain ⟨v,k3,k4⟩:=j0w hy h2
   unfold jgk
   rw [if_neg hn,h3]
   simp only [k1,k3,joc k2 k4 h4,qrr hx hy hr h5]
   exact h
  ·rename_i h3
   split at h
   case h_2=>cases h
   rename_i m hm
   split at h
   case isFalse=>cases h
   rename_i hle
   split at h
   case h_2=>cases h
   rename_i b1 b2 h4 h5
   unfold jgk
   rw [if_neg hn,h3,hm]
   have hle':f.offset+m≤us.length∧f.offset+m≤vs.length:=by rw [j3n hx,j3n hy];exact hle
   simp only [hle',and_self,if_true,hr _ _ _ _ h4,qrr hx hy hr h5]
   exact h
  ·cases h
theorem jdx : ∀ (n:Nat) {t:TypeId} {us vs:List Value} {xs ys:List TC} {b:Bool},vTs xs=some us→vTs ys=some vs→eqST P n t xs ys=some b→eqS P n t us vs=some b
 | 0,_,_,_,_,_,_,_,_,h=>by cases h
 | n+1,t,us,vs,xs,ys,b,hx,hy,h=>by
  unfold eqST at h
  split at h
  case h_2=>cases h
  rename_i fs hu
  split at h
  case isFalse=>cases h
  rename_i hc
  unfold eqS
  rw [hu]
  simp only [hc,if_true]
  exact qrr hx hy (fun t o m b hh=>jdx n (jb9 o m hx) (jb9 o m hy) hh) h
def qmh (P:Program) (t:TypeId) (xs ys:List TC):Option Bool:=match vTs xs,vTs ys with
 | some _,some _=>if P.eqGuardType P.depth t=false then eqST P 9 t xs ys else none
 | _,_=>none
theorem qid {t:TypeId} {xs ys:List TC} {b:Bool} (h:qmh P t xs ys=some b):qb0 P t (xs.map eC) (ys.map eC)=some b:=by
 unfold qmh at h
 split at h
 case h_2=>cases h
 rename_i us vs hx hy
 split at h
 case isFalse=>cases h
 rename_i hc
 unfold qb0
 rw [jee hx,jee hy]
 simp only
 rw [if_pos hc]
 exact jdx 9 hx hy h
def jgp (P:Program) (op:BinOp) (T:TypeId) (x y:TD) (k:TRes→Option α):Option α:=match x,y with
 | .one (.c (.d (.int kx) a)),.one (.c (.d (.int ky) b))=>intT op kx ky a b (fun c=>k (vC c))
 | .one (.c (.d .str s)),.one (.c (.d .str t))=>strT op s t (fun c=>k (vC c))
 | .one (.c (.d .bool a)),.one (.c (.d .bool b))=>match P.underlying T,op with
  | some .bool,.eql=>k (vC (.d .bool (decide ((a:Bool)=b))))
  | some .bool,.neq=>k (vC (.d .bool (!decide ((a:Bool)=b))))
  | _,_=>none
 | .one (.agg xs),.one (.agg ys)=>match op,qmh P T xs ys with
  | .eql,some b=>k (vC (.d .bool b))
  | .neq,some b=>k (vC (.d .bool (!b)))
  | _,_=>none
 | _,_=>none
theorem jb2 {op:BinOp} {T:TypeId} {x y:TD} {k:TRes→Option α} {r:α} (h:jgp P op T x y k=some r) : ∃ z,k z=some r∧Sim (qaf P op T (eD x) (eD y)) z:=by
 unfold jgp at h
 split at h
 ·obtain ⟨z,h1,h2⟩:=jmj (P:=P) (T:=T) h
  exact ⟨_,h1,h2⟩
 ·obtain ⟨z,h1,h2⟩:=jm6 (P:=P) (T:=T) h
  exact ⟨_,h1,h2⟩
 ·split at h
  ·rename_i hu
   exact ⟨_,h,Sim.tr (by simp only [qaf,eD,e1,eC,q01,List.headD_cons,eqV,hu,Option.map_some];rfl)⟩
  ·rename_i hu
   exact ⟨_,h,Sim.tr (by simp only [qaf,eD,e1,eC,q01,List.headD_cons,eqV,hu,Option.map_some];rfl)⟩
  ·cases h
 ·split at h
  ·rename_i b hb
   exact ⟨_,h,Sim.tr (by simp only [qaf,eD,e1,qid hb,Option.map_some];rfl)⟩
  ·rename_i b hb
   exact ⟨_,h,Sim.tr (by simp only [qaf,eD,e1,qid hb,Option.map_some];rfl)⟩
  ·cases h
 ·cases h
def jmo (op:UnOp) (x:TD) (k:TRes→Option α):Option α:=match op,x with
 | .not,.one (.c (.d .bool b))=>k (vC (.d .bool (!(b:Bool))))
 | .neg,.one (.c (.d (.int kk) n))=>k (vC (.d (.int kk) (kk.wrap (0 - (n:Int)))))
 | _,_=>none
theorem jgz {op:UnOp} {x:TD} {k:TRes→Option α} {r:α} (h:jmo op x k=some r) : ∃ z,k z=some r∧Sim (jou op (eD x)) z:=by
 unfold jmo at h
 split at h
 ·exact ⟨_,h,Sim.tr rfl⟩
 ·exact ⟨_,h,Sim.tr rfl⟩
 ·cases h
def j0r (P:Program) (src dst:TypeId) (x:TD) (k:TRes→Option α):Option α:=match P.underlying src,P.underlying dst,x with
 | some _,some (.int kk),.one (.c (.d (.int _) n))=>q08 (kk.wrap n) fun z=>k (vC (.d (.int kk) z))
 | some .string,some .string,.one (.c (.d .str s))=>k (vC (.d .str s))
 | _,_,_=>none
theorem j8n {src dst:TypeId} {x:TD} {k:TRes→Option α} {r:α} (h:j0r P src dst x k=some r) : ∃ z,k z=some r∧Sim (qc2 P src dst (eD x)) z:=by
 unfold j0r at h
 split at h
 ·rename_i h1 h2
  exact ⟨_,h,Sim.tr (by simp only [qc2,eD,e1,eC,q01,List.headD_cons,h1,h2];rfl)⟩
 ·rename_i h1 h2
  exact ⟨_,h,Sim.tr (by simp only [qc2,eD,e1,eC,q01,List.headD_cons,h1,h2];rfl)⟩
 ·cases h
def qug (P:Program) (src dst:TypeId):Bool:=match P.underlying src,P.underlying dst with
 | some (.slice _),some .string=>true
 | some .string,some (.slice _)=>true
 | _,_=>false
def bytO (s:Yy):Option (List Int):=if s.length≤9223372036854775807 then some (s.map fun b=>((b.toNat:Nat):Int)) else none
def qgm (P:Program) (o:Option Nat) (src dst:TypeId) (x:TD) (σ:TSt) (k:TRes→Option α):Option α:=match P.underlying src,P.underlying dst with
 | some (.slice e),some .string=>match P.underlying e,srcT x σ with
  | some (.int .u8),some ⟨.int .u8,xs⟩=>k (vC (.d .str ((xs:List Int).map fun n=>UInt8.ofNat n.toNat)))
  | _,_=>none
 | some .string,some (.slice e)=>match P.underlying e,x,o with
  | some (.int .u8),.one (.c (.d .str s)),some i=>match lk σ.rows i with
   | none=>if e<1099511627776 then (bytO s).bind fun xs=>k { val:=.one (.c (.row i 0)),row:=some (i,⟨0,e+1099511627776,true,.int .u8,xs⟩) } else none
   | some _=>none
  | _,_,_=>none
 | _,_=>none
theorem qzt : ∀ (xs:List Int),qv4 (xs.map (q01 (.int .u8)))=some xs
 | []=>rfl
 | x::xs=>by
  show (qv4 (xs.map (q01 (.int .u8)))).map (x :: ·)=_
  rw [qzt xs];rfl
theorem j5m : ∀ (xs:List Int) (b:Yy),xs.foldl (fun r n=>r.push (UInt8.ofNat n.toNat)) (ba b)=ba (b++xs.map fun n=>UInt8.ofNat n.toNat)
 | [],b=>by simp
 | x::xs,b=>by
  rw [List.foldl_cons,show (ba b).push (UInt8.ofNat x.toNat)=ba (b ++ [UInt8.ofNat x.toNat]) from by simp [ba,ByteArray.push],j5m xs]
  simp
theorem jhz (xs:List Int):strOf xs=ba (xs.map fun n=>UInt8.ofNat n.toNat):=by
 have:=j5m xs []
 rw [List.nil_append] at this
 exact this
theorem j4f {src dst:TypeId} {x:D} (h:qug P src dst=true):qc2 P src dst x=none:=by
 unfold qug at h
 unfold qc2
 split at h
 ·rename_i h1 h2;rw [h1,h2]
 ·rename_i h1 h2;rw [h1,h2]
 ·cases h
theorem qsx {o:Option Nat} {src dst:TypeId} {x:TD} {k:TRes→Option α} {r:α} (h:qgm P o src dst x σ k=some r) : ∃ z,k z=some r∧Sim (q3n P o src dst (eD x) (eS σ).row) z:=by
 unfold qgm at h
 split at h
 ·rename_i e h1 h2
  split at h
  case h_2=>cases h
  rename_i xs he hx
  have hs:=jbl hx
  have hs':qiz 1 (eD x) (eS σ).row=some (xs.map (q01 (.int .u8))):=hs
  refine ⟨_,h,Sim.tr ?_⟩
  have hi:qv4 (List.map (q01 (.int .u8)) xs)=some xs:=qzt xs
  simp only [q3n,h1,h2,he,hs',Option.bind_some]
  rw [hi]
  simp only [jhz]
  rfl
 ·rename_i e h1 h2
  split at h
  case h_2=>cases h
  rename_i s i he
  split at h
  case h_2=>cases h
  rename_i hr
  split at h
  case isFalse=>cases h
  rename_i hlt
  obtain ⟨xs,hxs,h⟩:=Option.bind_eq_some_iff.1 h
  unfold bytO at hxs
  split at hxs
  case isFalse=>cases hxs
  rename_i hle
  simp only [Option.some.injEq] at hxs;subst hxs
  refine ⟨_,h,(ba s).size≤maxLen,by rw [q44];exact hle,?_⟩
  simp only [q3n,h1,h2,he,eD,e1,eC,q01,List.headD_cons,q9g hr]
  rw [if_pos hlt]
  have e3:(ba s).data.toList=s:=by simp [ba]
  rw [e3]
  simp only [q9r,eD,e1,eC,Option.map_none,Option.map_some,eR,List.map_map]
  rfl
 ·cases h
def j36 (c x y:TD) (k:TRes→Option α):Option α:=match c with
 | .one (.c (.d .bool t))=>bif t then k { val:=x } else k { val:=y }
 | _=>none
theorem ja3 {c x y:TD} {k:TRes→Option α} {r:α} (h:j36 c x y k=some r) : ∃ z,k z=some r∧Sim (qqj (eD c) (eD x) (eD y)) z:=by
 unfold j36 at h
 split at h
 case h_2=>cases h
 rename_i t
 cases t with
 | true=>exact ⟨_,h,Sim.tr rfl⟩
 | false=>exact ⟨_,h,Sim.tr rfl⟩
def makO (b:Nat) (q:Int) (n:Int):Option (List Int):=if 0≤n∧n≤16777216∧b*n.toNat≤281474976710656 then some (List.replicate n.toNat q) else none
def j4c (P:Program) (dst:Option Nat) (t:TypeId) (x:TD) (σ:TSt) (k:TRes→Option α):Option α:=match P.underlying t,dst,x with
 | some (.slice el),some i,.one (.c (.d (.int _) n))=>match lk σ.rows i,(P.info? el).map (fun i=>(i.zero,i.size,i.bytes)) with
  | none,some (some (Value.int kk q),1,b)=>bif Nat.blt el 1099511627776 then (makO b q n).bind fun xs=>k { val:=.one (.c (.row i 0)),row:=some (i,⟨0,el,true,.int kk,xs⟩) } else none
  | _,_=>none
 | _,_,_=>none
theorem j7p {dst:Option Nat} {t:TypeId} {x:TD} {k:TRes→Option α} {r:α} (h:j4c P dst t x σ k=some r) : ∃ y,k y=some r∧Sim (qfn P dst t (eD x) (eS σ).row) y:=by
 unfold j4c at h
 split at h
 case h_2=>cases h
 rename_i el i kx n hu
 split at h
 case h_2=>cases h
 rename_i kk q b hr hinf
 cases hb:Nat.blt el 1099511627776 with
 | false=>rw [hb] at h;cases h
 | true =>
  rw [hb] at h
  have hlt:el<1099511627776:=by simpa using hb
  obtain ⟨xs,hxs,h⟩:=Option.bind_eq_some_iff.1 h
  unfold makO at hxs
  split at hxs
  case isFalse=>cases hxs
  rename_i hc
  simp only [Option.some.injEq] at hxs;subst hxs
  refine ⟨_,h,Sim.tr ?_⟩
  simp only [qfn,hu,eD,e1,eC,q01,List.headD_cons,q9g hr,hinf]
  rw [if_pos ⟨hc.1,hc.2.1,hc.2.2,hlt⟩]
  simp only [q9r,eD,e1,eC,Option.map_none,Option.map_some,eR,List.map_replicate]
  rfl
def jjn (f:Int→Int→Int) (x y:TD) (k:TRes→Option α):Option α:=match x,y with
 | .one (.c (.d (.int kk) n)),.one (.c (.d (.int _) m))=>q08 (f n m) fun z=>k (vC (.d (.int kk) z))
 | _,_=>none
theorem j5b {f:Int→Int→Int} {x y:TD} {k:TRes→Option α} {r:α} (h:jjn f x y k=some r) : ∃ z,k z=some r∧Sim (jib f (eD x) (eD y)) z:=by
 unfold jjn at h
 split at h
 case h_2=>cases h
 exact ⟨_,h,Sim.tr rfl⟩
def vTI:TC→Option Value
 | .d (.int k) n=>some (.int k n)
 | .d .bool b=>some (.bool b)
 | .d .str s=>some (.string (ba s))
 | .d .any v=>some (Subtype.val (v:IV))
 | _=>none
def jq9:List TC→Option (List Value)
 | []=>some []
 | c::cs=>match vTI c,jq9 cs with
  | some x,some xs=>some (x::xs)
  | _,_=>none
def vTD:TD→Option Value
 | .one (.c c)=>vTI c
 | .one (.agg cs)=>(jq9 cs).map fun xs=>.agg ⟨xs⟩
 | .tup _=>none
theorem jl1 {c:TC} {v:Value} (h:vTI c=some v):jpb (eC c)=some v:=by
 unfold vTI at h
 split at h<;>simp only [Option.some.injEq,reduceCtorEq] at h<;>subst h<;>rfl
theorem jf7 : ∀ {cs:List TC} {xs:List Value},jq9 cs=some xs→qto (cs.map eC)=some xs
 | [],xs,h=>by simp only [jq9,Option.some.injEq] at h;subst h;rfl
 | c::cs,xs,h=>by
  unfold jq9 at h
  split at h
  case h_2=>cases h
  rename_i x ys hx hy
  simp only [Option.some.injEq] at h;subst h
  rw [List.map_cons]
  unfold qto
  rw [jl1 hx,jf7 hy]
theorem jr6 {d:TD} {v:Value} (h:vTD d=some v):jpf (eD d)=some v:=by
 unfold vTD at h
 split at h
 ·exact jl1 h
 ·obtain ⟨xs,h1,rfl⟩:=Option.map_eq_some_iff.1 h
  show (qto _).map _=_
  rw [jf7 h1];rfl
 ·cases h
def qss (P:Program) (t:TypeId) (x:TD) (k:TRes→Option α):Option α:=match P.concrete t,vTD x with
 | true,some v=>k (vC (.d .any (mkIV t v)))
 | _,_=>none
theorem j0m {t:TypeId} {x:TD} {k:TRes→Option α} {r:α} (h:qss P t x k=some r) : ∃ z,k z=some r∧Sim (qdd P t (eD x)) z:=by
 unfold qss at h
 split at h
 case h_2=>cases h
 rename_i v hc hv
 exact ⟨_,h,Sim.tr (by unfold qdd;rw [hc,jr6 hv];rfl)⟩
def j16 (P:Program) (op:BinOp) (t:TypeId) (x:TD) (k:TRes→Option α):Option α:=match j56 P t,op,x with
 | true,.eql,.one (.c (.d .any v))=>(qmu (Subtype.val (v:IV))).bind fun b=>k (vC (.d .bool b))
 | true,.neq,.one (.c (.d .any v))=>(qmu (Subtype.val (v:IV))).bind fun b=>k (vC (.d .bool (!b)))
 | _,_,_=>none
theorem jaf {op:BinOp} {t:TypeId} {x:TD} {k:TRes→Option α} {r:α} (h:j16 P op t x k=some r) : ∃ z,k z=some r∧Sim (qhr P op t (eD x)) z:=by
 unfold j16 at h
 split at h
 case h_3=>cases h
 ·rename_i v hc
  obtain ⟨b,hb,h⟩:=Option.bind_eq_some_iff.1 h
  exact ⟨_,h,Sim.tr (by simp only [qhr,hc,eD,e1,eC,q01,List.headD_cons,hb,Option.map_some];rfl)⟩
 ·rename_i v hc
  obtain ⟨b,hb,h⟩:=Option.bind_eq_some_iff.1 h
  exact ⟨_,h,Sim.tr (by simp only [qhr,hc,eD,e1,eC,q01,List.headD_cons,hb,Option.map_some];rfl)⟩
def w1 (x:Option TD) (f:TD→Option α):Option α:=match x with|some y=>f y|none=>none
def w0 (σ:TSt) (x:Option Operand) (f:Option TD→Option α):Option α:=match x with
 | none=>f none
 | some x=>match q0p σ x with|some y=>f (some y)|none=>none
theorem q0e {x:Option TD} {f:TD→Option α} {r:α} (h:w1 x f=some r) : ∃ y,x=some y∧f y=some r:=by
 cases x with
 | none=>cases h
 | some y=>exact ⟨y,rfl,h⟩
theorem jfs {x:Option Operand} {f:Option TD→Option α} {r:α} (h:w0 σ x f=some r) : ∃ y,x.map (opnd (eS σ))=y.map eD∧f y=some r:=by
 cases x with
 | none=>exact ⟨none,rfl,h⟩
 | some x =>
  unfold w0 at h
  simp only at h
  split at h
  ·rename_i y hy
   exact ⟨some y,by rw [Option.map_some,Option.map_some,q05 hy],h⟩
  ·cases h
def q38 (σ:TSt):List Operand→Option (List TD)
 | []=>some []
 | x::xs=>match q0p σ x,q38 σ xs with
  | some y,some ys=>some (y::ys)
  | _,_=>none
theorem q9z : ∀ {xs:List Operand} {ys:List TD},q38 σ xs=some ys→xs.map (opnd (eS σ))=ys.map eD
 | [],ys,h=>by simp only [q38,Option.some.injEq] at h;subst h;rfl
 | x::xs,ys,h=>by
  unfold q38 at h
  split at h
  case h_2=>cases h
  rename_i y zs h1 h2
  simp only [Option.some.injEq] at h;subst h
  rw [List.map_cons,List.map_cons,q05 h1,q9z h2]
def j5t:List TD→Option (List Nat)
 | []=>some []
 | .one (.c (.box β 0))::ds=>(j5t ds).map (β :: ·)
 | _=>none
theorem qy6 : ∀ {ds:List TD} {cs:List Nat},j5t ds=some cs→qli (ds.map eD)=some cs
 | [],cs,h=>h
 | d::ds,cs,h=>by
  unfold j5t at h
  split at h
  ·rename_i h1;cases h1
  ·rename_i β ds' h1
   simp only [List.cons.injEq] at h1
   obtain ⟨rfl,rfl⟩:=h1
   obtain ⟨cs',h2,rfl⟩:=Option.map_eq_some_iff.1 h
   show (qli (ds.map eD)).map _=_
   rw [qy6 h2];rfl
  ·cases h
def jpt (f:Nat) (ds:Option (List TD)) (k:TRes→Option α):Option α:=match ds with
 | some ds=>match j5t ds with
  | some (c::cs)=>bif Nat.blt f 2199023255552 then k { val:=.one (.c (.fn f (c::cs))) } else none
  | _=>none
 | none=>none
def jgl:List TD→Option (List Nat)
 | []=>some []
 | .one (.c (.mv β))::ds=>(jgl ds).map (β :: ·)
 | _=>none
theorem j61 : ∀ {ds:List TD} {cs:List Nat},jgl ds=some cs→j32 (ds.map eD)=some cs
 | [],cs,h=>by simp only [jgl,Option.some.injEq] at h;subst h;rfl
 | d::ds,cs,h=>by
  unfold jgl at h
  split at h
  ·rename_i h1;cases h1
  ·rename_i β ds' h1
   simp only [List.cons.injEq] at h1
   obtain ⟨rfl,rfl⟩:=h1
   obtain ⟨cs',h2,rfl⟩:=Option.map_eq_some_iff.1 h
   show (j32 (ds.map eD)).map _=_
   rw [j61 h2];rfl
  ·cases h
def jlg (f:Nat) (ds:Option (List TD)) (k:TRes→Option α):Option α:=match ds with
 | some ds=>match jgl ds with
  | some (c::cs)=>bif Nat.blt f 2199023255552 then k { val:=.one (.c (.fn (f+2199023255552) (c::cs))) } else none
  | _=>none
 | none=>none
def j1y {β:Type} (s:Yy):List (Yy×β)→Option β
 | []=>none
 | (k,v)::l=>if s=k then some v else j1y s l
def jk9 {β:Type} (s:Yy) (y:β):List (Yy×β)→List (Yy×β)
 | []=>[(s,y)]
 | (k,v)::l=>if s=k then (s,y)::l else (k,v)::jk9 s y l
def jeg {β:Type} (o:Option β) (z:β) (f:β→Bool→Option α):Option α:=f (o.getD z) o.isSome
def eqT:(K:Ty)→den K→den K→Bool
 | .str,a,b=>decide ((a:Yy)=b)
 | .int _,a,b=>decide ((a:Int)=b)
 | .prod a b,(x:den a×den b),(y:den a×den b)=>eqT a x.1 y.1&&eqT b x.2 y.2
 | _,_,_=>false
def q0o {β:Type} (K:Ty) (s:den K):List (den K×β)→Option β
 | []=>none
 | (k,v)::l=>bif eqT K s k then some v else q0o K s l
def q6x {β:Type} (K:Ty) (s:den K) (y:β):List (den K×β)→List (den K×β)
 | []=>[(s,y)]
 | (k,v)::l=>bif eqT K s k then (s,y)::l else (k,v)::q6x K s y l
def jg4 {β:Type} : (K:Ty)→den K→List (den K×β)→Option β
 | .str,s,l=>j1y s l
 | .int k,s,l=>q0o (.int k) s l
 | .prod a b,s,l=>q0o (.prod a b) s l
 | .bool,s,l=>q0o .bool s l
 | .lst e,s,l=>q0o (.lst e) s l
 | .any,s,l=>q0o .any s l
 | .unit,s,l=>q0o .unit s l
def jq5 {β:Type} : (K:Ty)→den K→β→List (den K×β)→List (den K×β)
 | .str,s,y,l=>jk9 s y l
 | .int k,s,y,l=>q6x (.int k) s y l
 | .prod a b,s,y,l=>q6x (.prod a b) s y l
 | .bool,s,y,l=>q6x .bool s y l
 | .lst e,s,y,l=>q6x (.lst e) s y l
 | .any,s,y,l=>q6x .any s y l
 | .unit,s,y,l=>q6x .unit s y l
theorem qw3 {β:Type} (s:Yy) : ∀ l:List (Yy×β),j1y s l=q0o .str s l
 | []=>rfl
 | (k,v)::l=>by
  show (if s=k then some v else j1y s l)=bif decide (s=k) then some v else q0o .str s l
  by_cases h:s=k
  ·rw [if_pos h,decide_eq_true h];rfl
  ·rw [if_neg h,decide_eq_false h,qw3 s l];rfl
theorem j51 {β:Type} (s:Yy) (y:β) : ∀ l:List (Yy×β),jk9 s y l=q6x .str s y l
 | []=>rfl
 | (k,v)::l=>by
  show (if s=k then (s,y)::l else (k,v)::jk9 s y l)=bif decide (s=k) then (s,y)::l else (k,v)::q6x .str s y l
  by_cases h:s=k
  ·rw [if_pos h,decide_eq_true h];rfl
  ·rw [if_neg h,decide_eq_false h,j51 s y l];rfl
theorem jb6 {β:Type} : ∀ (K:Ty) (s:den K) (l:List (den K×β)),jg4 K s l=q0o K s l
 | .str,s,l=>qw3 s l
 | .int k,s,l=>rfl
 | .prod a b,s,l=>rfl
 | .bool,s,l=>rfl
 | .lst e,s,l=>rfl
 | .any,s,l=>rfl
 | .unit,s,l=>rfl
theorem jhh {β:Type} : ∀ (K:Ty) (s:den K) (y:β) (l:List (den K×β)),jq5 K s y l=q6x K s y l
 | .str,s,y,l=>j51 s y l
 | .int k,s,y,l=>rfl
 | .prod a b,s,y,l=>rfl
 | .bool,s,y,l=>rfl
 | .lst e,s,y,l=>rfl
 | .any,s,y,l=>rfl
 | .unit,s,y,l=>rfl
def j2b:KL→Ty
 | .s=>.str
 | .i k=>.int k
def q2j:List KL→Ty
 | []=>.bool
 | [l]=>j2b l
 | l::l'::ls=>.prod (j2b l) (q2j (l'::ls))
def jao:(l:KL)→den (j2b l)→Value
 | .s,(x:Yy)=>.string (ba x)
 | .i k,(n:Int)=>.int k n
def q6r:(ls:List KL)→den (q2j ls)→List Value
 | [],_=>[]
 | [l],x=>[jao l x]
 | l::l'::ls,(x:den (j2b l)×den (q2j (l'::ls)))=>jao l x.1::q6r (l'::ls) x.2
theorem j5i : ∀ (l:KL) (x:den (j2b l)),q01 (j2b l) x = [.v (jao l x)]
 | .s,_=>rfl
 | .i _,_=>rfl
theorem qjr : ∀ (ls:List KL),0<ls.length→∀ x:den (q2j ls),q01 (q2j ls) x=(q6r ls x).map .v
 | [],h,_=>absurd h (by decide)
 | [l],_,x=>j5i l x
 | l::l'::ls,_,(x:den (j2b l)×den (q2j (l'::ls)))=>by
  show q01 (j2b l) x.1++q01 (q2j (l'::ls)) x.2=_
  rw [j5i,qjr (l'::ls) (Nat.succ_pos _) x.2];rfl
theorem ok_1 : ∀ (l:KL) (x:den (j2b l)),okK l (jao l x)=true
 | .s,_=>rfl
 | .i _,_=>by simp [okK,jao]
theorem jpc : ∀ (ls:List KL) (x:den (q2j ls)),q6w ls (q6r ls x)=true
 | [],_=>rfl
 | [l],x=>(Bool.and_true _).trans (ok_1 l x)
 | l::l'::ls,(x:den (j2b l)×den (q2j (l'::ls)))=>by
  show (okK l (jao l x.1)&&q6w (l'::ls) (q6r (l'::ls) x.2))=true
  rw [ok_1,jpc (l'::ls) x.2];rfl
theorem jm9 (ls:List KL) (x:den (q2j ls)):(q6r ls x).length=ls.length:=q76 (jpc ls x)
theorem eq_1 : ∀ (l:KL) (x y:den (j2b l)),eqK (jao l x) (jao l y)=eqT (j2b l) x y
 | .s,x,y=>jcm x y
 | .i _,x,y=>rfl
theorem eq_K : ∀ (ls:List KL),0<ls.length→∀ x y:den (q2j ls),qiy (q6r ls x) (q6r ls y)=eqT (q2j ls) x y
 | [],h,_,_=>absurd h (by decide)
 | [l],_,x,y=>by show (eqK (jao l x) (jao l y)&&true)=_;rw [Bool.and_true];exact eq_1 l x y
 | l::l'::ls,_,(x:den (j2b l)×den (q2j (l'::ls))),(y:den (j2b l)×den (q2j (l'::ls)))=>by
  show (eqK (jao l x.1) (jao l y.1)&&qiy (q6r (l'::ls) x.2) (q6r (l'::ls) y.2))=(eqT (j2b l) x.1 y.1&&eqT (q2j (l'::ls)) x.2 y.2)
  rw [eq_1,eq_K (l'::ls) (Nat.succ_pos _)]
theorem qyp : ∀ (us:List Value) (r:List Dat),qzq us.length (us.map .v++r)=some us
 | [],_=>rfl
 | u::us,r=>by
  show (qzq us.length (us.map .v++r)).map (u :: ·)=_
  rw [qyp us r];rfl
theorem qfj (ls:List KL) (h:0<ls.length) (V:Ty) (s:den (q2j ls)) (y:den V):q01 (.prod (q2j ls) V) ((s,y):den (q2j ls)×den V)=(q6r ls s).map .v++q01 V y:=by
 show q01 (q2j ls) s++q01 V y=_
 rw [qjr ls h]
theorem jdq (ls:List KL) (h:0<ls.length) (V:Ty) (s k:den (q2j ls)) (y:den V):qey ls (q6r ls s) (q01 (.prod (q2j ls) V) ((k,y):den (q2j ls)×den V))=some (eqT (q2j ls) s k):=by
 unfold qey
 rw [qfj ls h]
 have:=qyp (q6r ls k) (q01 V y)
 rw [jm9] at this
 rw [this]
 simp only [jpc,if_true,eq_K ls h]
theorem j7a {ls:List KL} (h:0<ls.length) {V:Ty} (s:den (q2j ls)) : ∀ (xs:List (den (q2j ls)×den V)),∃ q,findD ls (q6r ls s) (xs.map (q01 (.prod (q2j ls) V)))=some q∧q.map (List.drop ls.length)=(q0o (q2j ls) s xs).map (q01 V)
 | []=>⟨none,rfl,rfl⟩
 | (k,v)::xs=>by
  show ∃ q,(match qey ls (q6r ls s) (q01 (.prod (q2j ls) V) ((k,v):den (q2j ls)×den V)) with|some true=>some (some (q01 (.prod (q2j ls) V) ((k,v):den (q2j ls)×den V)))|some false=>findD ls (q6r ls s) (xs.map (q01 (.prod (q2j ls) V)))|none=>none)=some q∧q.map (List.drop ls.length)=(bif eqT (q2j ls) s k then some v else q0o (q2j ls) s xs).map (q01 V)
  rw [jdq ls h]
  cases eqT (q2j ls) s k with
  | true =>
   refine ⟨_,rfl,?_⟩
   simp only [cond_true,Option.map_some,Option.some.injEq]
   rw [qfj ls h]
   have:(List.map Dat.v (q6r ls k)).length=ls.length:=by rw [List.length_map,jm9]
   rw [← this,List.drop_left]
  | false=>exact j7a h s xs
theorem jfp {ls:List KL} (h:0<ls.length) {V:Ty} (s:den (q2j ls)) (y:den V) : ∀ (xs:List (den (q2j ls)×den V)),jcc ls (q6r ls s) (q01 V y) (xs.map (q01 (.prod (q2j ls) V)))=some ((q6x (q2j ls) s y xs).map (q01 (.prod (q2j ls) V)))
 | []=>by
  show some [(q6r ls s).map Dat.v++q01 V y]=some [q01 (.prod (q2j ls) V) ((s,y):den (q2j ls)×den V)]
  rw [qfj ls h]
 | (k,v)::xs=>by
  show (match qey ls (q6r ls s) (q01 (.prod (q2j ls) V) ((k,v):den (q2j ls)×den V)) with|some true=>some (((q6r ls s).map Dat.v++q01 V y)::xs.map (q01 (.prod (q2j ls) V)))|some false=>(jcc ls (q6r ls s) (q01 V y) (xs.map (q01 (.prod (q2j ls) V)))).map (q01 (.prod (q2j ls) V) ((k,v):den (q2j ls)×den V) :: ·)|none=>none)=some ((bif eqT (q2j ls) s k then (s,y)::xs else (k,v)::q6x (q2j ls) s y xs).map (q01 (.prod (q2j ls) V)))
  rw [jdq ls h]
  cases eqT (q2j ls) s k with
  | true =>
   simp only [cond_true,List.map_cons]
   rw [qfj ls h]
  | false =>
   simp only [cond_false,List.map_cons]
   rw [jfp h s y xs];rfl
def jhu (K:Ty) (ka:Bool):TD→Option (den K)
 | .one (.c c)=>bif ka then none else qoq K [c]
 | .one (.agg cs)=>bif ka then qoq K cs else none
 | _=>none
theorem j5d {ls:List KL} (h:0<ls.length) {ka:Bool} (hka:ka=false→ls.length=1) {i:TD} {s:den (q2j ls)} (hs:jhu (q2j ls) ka i=some s):jp5 (eD i)=some (ka,q6r ls s):=by
 have hv : ∀ us:List Value,quw (us.map fun u=>C.d (.v u))=some us:=fun us=>by
  induction us with
  | nil=>rfl
  | cons u us ih=>show (quw _).map (u :: ·)=_;rw [ih];rfl
 unfold jhu at hs
 split at hs
 ·rename_i c
  cases ka with
  | true=>cases hs
  | false =>
   simp only [cond_false] at hs
   have h1:=q7c hs
   rw [qjr ls h] at h1
   have h2:=jm9 ls s
   rw [hka rfl] at h2
   match hvs:q6r ls s,h2 with
   | [v],_ =>
    rw [hvs] at h1
    have h3:eC c = .d (.v v):=(List.cons.inj h1).1
    show jp5 (.one (.c (eC c)))=_
    rw [h3];rfl
 ·rename_i cs
  cases ka with
  | false=>cases hs
  | true =>
   simp only [cond_true] at hs
   have h1:=q7c hs
   rw [qjr ls h,List.map_map] at h1
   show (quw (cs.map eC)).map _=_
   rw [h1,show (C.d ∘ Dat.v)=fun u=>C.d (.v u) from rfl,hv];rfl
 ·cases hs
theorem qyt {k:TypeId} {ls:List KL} (h:j8a P k=some (false,ls)):ls.length=1:=by
 unfold j8a at h
 split at h
 ·simp only [Option.some.injEq,Prod.mk.injEq] at h;rw [← h.2];rfl
 ·simp only [Option.some.injEq,Prod.mk.injEq] at h;rw [← h.2];rfl
 ·obtain ⟨l,_,h2⟩:=Option.map_eq_some_iff.1 h
  simp only [Prod.mk.injEq] at h2
  cases h2.1
 ·cases h
def qgc (P:Program) (dst:Option Nat) (t:TypeId) (σ:TSt) (k:TRes→Option α):Option α:=match dst,j8k P t with
 | some i,some (T,el,ls)=>match lk σ.boxes i,tyE P el with
  | none,some V=>if i<1000000∧width V=mVw T∧width (q2j ls)=ls.length then k { val:=.one (.c (.mv i)),box:=some (i,(T,[.d (.lst (.prod (q2j ls) V)) ([]:List (den (q2j ls)×den V))])) } else none
  | _,_=>none
 | _,_=>none
theorem qtm {dst:Option Nat} {t:TypeId} {k:TRes→Option α} {r:α} (h:qgc P dst t σ k=some r) : ∃ y,k y=some r∧Sim (q4a P dst t (eS σ).box) y:=by
 unfold qgc at h
 split at h
 case h_2=>cases h
 rename_i i T el ls hT
 split at h
 case h_2=>cases h
 rename_i V hb hV
 split at h
 case isFalse=>cases h
 rename_i hc
 refine ⟨_,h,Sim.tr ?_⟩
 simp only [q4a,hT,qja hb,hc.1,if_true,← hc.2.1,← hc.2.2]
 rfl
def tvD (T:Nat) (V:Ty) (y:den V):TD1:=match mVa T with
 | true=>.agg (qnc V y)
 | false=>.c (.d V y)
def jk6 (ok:Bool) (x:TD1) (b:Bool):TD:=match ok with
 | true=>.tup [x,.c (.d .bool b)]
 | false=>.one x
def jkw:Value→Bool
 | .agg _=>true
 | _=>false
def jrg:TD1→Bool
 | .agg _=>true
 | _=>false
def qn0 (P:Program) (t:TypeId) (x i:TD) (ok:Bool) (σ:TSt) (k:TRes→Option α):Option α:=match j8k P t,x with
 | some (T,el,ls),.one (.c (.mv β))=>match lk σ.boxes β,jo0 P el with
  | some (T',[.d (.lst (.prod K V)) xs]),some z=>if T'=T∧jkw z=mVa T∧K=q2j ls then
    match qnw z.cells.toList with
    | some zs=>match jhu K (mKa T) i with
     | some s=>match qoq V zs with
      | some z0=>jeg (jg4 K s (xs:List (den K×den V))) z0 fun y b=>k { val:=jk6 ok (tvD T V y) b }
      | none=>bif jkw z then jap (jg4 K s (xs:List (den K×den V))) (fun y=>k { val:=jk6 ok (tvD T V y) true }) (k { val:=jk6 ok (.agg zs) false }) else none
     | none=>none
    | none=>none
   else none
  | _,_=>none
 | _,_=>none
theorem qyq {t:TypeId} {x i:TD} {ok:Bool} {k:TRes→Option α} {r:α} (h:qn0 P t x i ok σ k=some r) : ∃ y,k y=some r∧Sim (q2m P t (eD x) (eD i) ok (eS σ).box) y:=by
 unfold qn0 at h
 split at h
 case h_2=>cases h
 rename_i T el ls β hT
 split at h
 case h_2=>cases h
 rename_i T' K V xs z hb hz
 split at h
 case isFalse=>cases h
 rename_i hc
 obtain ⟨rfl,hag,rfl⟩:=hc
 split at h
 case h_2=>cases h
 rename_i zs hzs
 split at h
 case h_2=>cases h
 rename_i s hs
 rw [jb6] at h
 obtain ⟨kt,ka,vw,va,_,hkl,_,_,_,_,hka,_,_,hl0⟩:=qau hT
 have hkey:=j5d hl0 (fun h0=>by rw [hka] at h0;subst h0;exact qyt hkl) hs
 obtain ⟨q,hfd,hq⟩:=j7a hl0 s (xs:List (den (q2j ls)×den V))
 have hbx:(eS σ).box β=some (T',[.d (.lst (width (.prod (q2j ls) V)) ((xs:List (den (q2j ls)×den V)).map (q01 (.prod (q2j ls) V))))]):=q5j hb
 have hd : ∀ (x:D1) (y:TD1) (b:Bool),x=e1 y→okD ok x b=eD (jk6 ok y b):=fun x y b hxy=>by
  subst hxy;cases ok<;>rfl
 have fnd : ∀ y,q0o (q2j ls) s (xs:List (den (q2j ls)×den V))=some y→q2m P t (.one (.c (.mv β))) (eD i) ok (eS σ).box=some (q9r True { val:=jk6 ok (tvD T' V y) true }):=fun y hm=>by
  rw [hm] at hq
  obtain ⟨r0,rfl,hr0⟩:=Option.map_eq_some_iff.1 hq
  simp only [q2m,hT,hbx,hz,hkey,jpc,and_self,if_true,hfd]
  rw [hd (vD T' (r0.drop ls.length)) (tvD T' V y) true ?_]
  ·rfl
  ·rw [hr0]
   show vD T' (q01 V y)=_
   unfold vD tvD
   cases mVa T' with
   | true=>show D1.agg _ = .agg _;rw [q6f]
   | false=>rfl
 have nfd : ∀ zt:TD1,of1 z=e1 zt→q0o (q2j ls) s (xs:List (den (q2j ls)×den V))=none→q2m P t (.one (.c (.mv β))) (eD i) ok (eS σ).box=some (q9r True { val:=jk6 ok zt false }):=fun zt hzt hm=>by
  rw [hm] at hq
  have hq0:q=none:=by simpa using hq
  subst hq0
  simp only [q2m,hT,hbx,hz,hkey,jpc,and_self,if_true,hfd]
  rw [hd (of1 z) zt false hzt]
  rfl
 split at h
 ·rename_i z0 hz0
  refine ⟨_,h,Sim.tr ?_⟩
  show q2m P t (.one (.c (.mv β))) (eD i) ok (eS σ).box=_
  cases hm:q0o (q2j ls) s (xs:List (den (q2j ls)×den V)) with
  | some y=>exact fnd y hm
  | none =>
   simp only [Option.getD_none,Option.isSome_none]
   refine nfd (tvD T' V z0) ?_ hm
   have h1:=q7c hz0
   rw [q5u hzs] at h1
   unfold tvD
   rw [← hag]
   cases z with
   | agg cs =>
    show D1.agg _ = .agg _
    rw [q6f,← h1];rfl
   | _ =>
    have h2 : [_]=q01 V z0:=jma (l:=[_]) h1
    show D1.c _ = .c (.d ((q01 V z0).headD _))
    rw [← h2];rfl
 ·cases z with
  | agg cs =>
   replace h:jap (q0o (q2j ls) s (xs:List (den (q2j ls)×den V))) (fun y=>k { val:=jk6 ok (tvD T' V y) true }) (k { val:=jk6 ok (.agg zs) false })=some r:=h
   unfold jap at h
   split at h
   ·rename_i y hy
    exact ⟨_,h,Sim.tr (fnd y hy)⟩
   ·rename_i hn
    refine ⟨_,h,Sim.tr (nfd (.agg zs) ?_ hn)⟩
    show D1.agg (cs.toList.map qns) = .agg (zs.map eC)
    rw [q5u hzs];rfl
  | _=>cases h
def fnIV (f:Nat):IV:=⟨.func (.func f) #[] #[],rfl⟩
def fnD:TC→TC
 | .fn f []=>.d .any (fnIV f)
 | c=>c
theorem jpq (c:TC):eC (fnD c)=eC c:=by
 unfold fnD
 split
 ·rfl
 ·rfl
theorem jls (cs:List TC):(cs.map fnD).map eC=cs.map eC:=by
 rw [List.map_map];exact List.map_congr_left fun c _=>jpq c
def qep (P:Program) (t:TypeId) (m i x:TD) (σ:TSt) (k:TRes→Option α):Option α:=match j8k P t,m with
 | some (T,_,ls),.one (.c (.mv β))=>match lk σ.boxes β,x with
  | some (T',[.d (.lst (.prod K V)) xs]),.one y=>if T'=T∧(q77 y).all okT=true∧(q77 y).length=mVw T∧jrg y=mVa T∧K=q2j ls then
    match qoq V ((q77 y).map fnD),jhu K (mKa T) i with
    | some v,some s=>k { val:=.one (.c .undef),box:=some (β,(T,[.d (.lst (.prod K V)) (jq5 K s v (xs:List (den K×den V)))])) }
    | _,_=>none
   else none
  | _,_=>none
 | _,_=>none
theorem qht {t:TypeId} {m i x:TD} {k:TRes→Option α} {r:α} (h:qep P t m i x σ k=some r) : ∃ y,k y=some r∧Sim (q2x P t (eD m) (eD i) (eD x) (eS σ).box) y:=by
 unfold qep at h
 split at h
 case h_2=>cases h
 rename_i T el ls β hT
 split at h
 case h_2=>cases h
 rename_i T' K V xs y hb
 split at h
 case isFalse=>cases h
 rename_i hc
 obtain ⟨rfl,hok,hlen,hag,rfl⟩:=hc
 split at h
 case h_2=>cases h
 rename_i v s hv hs
 rw [jhh] at h
 refine ⟨_,h,Sim.tr ?_⟩
 obtain ⟨kt,ka,vw,va,_,hkl,_,_,_,_,hka,_,_,hl0⟩:=qau hT
 have hkey:=j5d hl0 (fun h0=>by rw [hka] at h0;subst h0;exact qyt hkl) hs
 have hbx:(eS σ).box β=some (T',[.d (.lst (width (.prod (q2j ls) V)) ((xs:List (den (q2j ls)×den V)).map (q01 (.prod (q2j ls) V))))]):=q5j hb
 show q2x P t (.one (.c (.mv β))) (eD i) (.one (e1 y)) (eS σ).box=_
 have h1:(q0j (e1 y)).all okC=true:=by rw [q2h];exact qt4 hok
 have h2:(q0j (e1 y)).length=mVw T':=by rw [q2h,List.length_map];exact hlen
 have h3:jks (e1 y)=mVa T':=by rw [← hag];cases y<;>rfl
 have h4:(q0j (e1 y)).mapM qiq=some (q01 V v):=by rw [q2h,← jls,q7c hv,q87]
 generalize e1 y=y1 at h1 h2 h3 h4
 have hput:=jfp hl0 s v (xs:List (den (q2j ls)×den V))
 simp only [q2x,hT,hbx,hkey,h1,h2,h3,jpc,and_self,if_true,h4,hput,Option.map_some]
 rfl
def rowD:TD→Bool
 | .one (.c (.row _ _))=>true
 | _=>false
def tev (P:Program) (o:Oper) (σ:TSt) (k:TRes→Option α):Option α:=match o.op with
 | .move x=>w1 (q0p σ x) fun y=>k { val:=y }
 | .assign x=>w1 (q0p σ x) fun y=>k { val:=y }
 | .pick c x y=>w1 (q0p σ c) fun c=>w1 (q0p σ x) fun x=>w1 (q0p σ y) fun y=>j36 c x y k
 | .alloc t=>qte P o.dst t σ k
 | .box t x=>w1 (q0p σ x) fun x=>jbu o.dst t x σ k
 | .load t x=>w1 (q0p σ x) fun x=>j2f P t x σ k
 | .store t x y=>w1 (q0p σ x) fun x=>w1 (q0p σ y) fun y=>qs1 P t x y σ k
 | .fieldAddr t x f=>w1 (q0p σ x) fun x=>qa6 P t x f k
 | .field t x f=>w1 (q0p σ x) fun x=>qup P t x f k
 | .index t x i=>w1 (q0p σ x) fun x=>w1 (q0p σ i) fun i=>qsr P t x i k
 | .indexAddr t x i=>w1 (q0p σ x) fun x=>w1 (q0p σ i) fun i=>qa9 P t x i σ k
 | .extract x i=>w1 (q0p σ x) fun x=>qhg x i k
 | .build t ps=>qtc P t ps σ k
 | .buildSlice t n ps=>q96 P o.dst t n ps σ k
 | .binOp op t x y _=>bif qc3 y then w1 (q0p σ x) fun x=>j16 P op t x k else w1 (q0p σ x) fun x=>w1 (q0p σ y) fun y=>jgp P op t x y k
 | .makeInterface t x=>w1 (q0p σ x) fun x=>qss P t x k
 | .unOp op _ x=>w1 (q0p σ x) fun x=>jmo op x k
 | .convert s d x=>w1 (q0p σ x) fun x=>bif qug P s d then qgm P o.dst s d x σ k else j0r P s d x k
 | .slice t x lo hi none=>w1 (q0p σ x) fun x=>w0 σ lo fun lo=>w0 σ hi fun hi=>bif rowD x then qc9 P t x lo hi σ k else qst P t x lo hi k
 | .nilCheck x=>w1 (q0p σ x) fun x=>jei x k
 | .call ⟨.builtin .len,⟨[x]⟩,⟨[t]⟩⟩=>w1 (q0p σ x) fun x=>jez P t x σ k
 | .call ⟨.builtin .append,⟨[s,x]⟩,⟨[t,t']⟩⟩=>if t=t' then w1 (q0p σ s) fun s=>w1 (q0p σ x) fun x=>qnx P o.dst t s x σ k else none
 | .makeSlice t x y=>bif qi1 x y then w1 (q0p σ x) fun x=>j4c P o.dst t x σ k else none
 | .call ⟨.builtin .max,⟨[x,y]⟩,⟨[_,_]⟩⟩=>w1 (q0p σ x) fun x=>w1 (q0p σ y) fun y=>jjn max x y k
 | .call ⟨.builtin .min,⟨[x,y]⟩,⟨[_,_]⟩⟩=>w1 (q0p σ x) fun x=>w1 (q0p σ y) fun y=>jjn min x y k
 | .makeFunc (.func f) ⟨[]⟩ cs=>jpt f (q38 σ cs.toList) k
 | .makeFunc (.func f) cs ⟨[]⟩=>jlg f (q38 σ cs.toList) k
 | .makeMap t none=>qgc P o.dst t σ k
 | .lookup t m i ok=>w1 (q0p σ m) fun m=>w1 (q0p σ i) fun i=>qn0 P t m i ok σ k
 | .mapUpdate t m i x=>w1 (q0p σ m) fun m=>w1 (q0p σ i) fun i=>w1 (q0p σ x) fun x=>qep P t m i x σ k
 | .insert t m i x=>w1 (q0p σ m) fun m=>w1 (q0p σ i) fun i=>w1 (q0p σ x) fun x=>qep P t m i x σ k
 | _=>none
theorem j5v {o:Oper} {k:TRes→Option α} {r:α} (h:tev P o σ k=some r) : ∃ y,k y=some r∧Sim (qce P o (opnd (eS σ)) (eS σ).box (eS σ).row) y:=by
 unfold tev at h
 unfold qce
 split at h
 ·rename_i ho;rw [ho]
  obtain ⟨x1,e1',h⟩:=q0e h
  exact ⟨_,h,Sim.tr (by show some _=_;rw [q05 e1'];rfl)⟩
 ·rename_i ho;rw [ho]
  obtain ⟨x1,e1',h⟩:=q0e h
  exact ⟨_,h,Sim.tr (by show some _=_;rw [q05 e1'];rfl)⟩
 ·rename_i ho;rw [ho]
  obtain ⟨x1,e1',h⟩:=q0e h
  obtain ⟨x2,e2',h⟩:=q0e h
  obtain ⟨x3,e3',h⟩:=q0e h
  show ∃ y,_∧Sim (qqj _ _ _) y
  rw [q05 e1',q05 e2',q05 e3'];exact ja3 h
 ·rename_i ho;rw [ho]
  exact j0z h
 ·rename_i ho;rw [ho]
  obtain ⟨x1,e1',h⟩:=q0e h
  show ∃ y,_∧Sim (qn9 _ _ _ _) y
  rw [q05 e1'];exact jax h
 ·rename_i ho;rw [ho]
  obtain ⟨x1,e1',h⟩:=q0e h
  show ∃ y,_∧Sim (q81 _ _ _ _ _) y
  rw [q05 e1'];exact j83 h
 ·rename_i ho;rw [ho]
  obtain ⟨x1,e1',h⟩:=q0e h
  obtain ⟨x2,e2',h⟩:=q0e h
  show ∃ y,_∧Sim (q3t _ _ _ _ _ _) y
  rw [q05 e1',q05 e2'];exact j4d h
 ·rename_i ho;rw [ho]
  obtain ⟨x1,e1',h⟩:=q0e h
  show ∃ y,_∧Sim (q26 _ _ _ _) y
  rw [q05 e1'];exact qm6 h
 ·rename_i ho;rw [ho]
  obtain ⟨x1,e1',h⟩:=q0e h
  show ∃ y,_∧Sim (q9x _ _ _ _) y
  rw [q05 e1'];exact j47 h
 ·rename_i ho;rw [ho]
  obtain ⟨x1,e1',h⟩:=q0e h
  obtain ⟨x2,e2',h⟩:=q0e h
  show ∃ y,_∧Sim (q5i _ _ _ _) y
  rw [q05 e1',q05 e2'];exact j22 h
 ·rename_i ho;rw [ho]
  obtain ⟨x1,e1',h⟩:=q0e h
  obtain ⟨x2,e2',h⟩:=q0e h
  show ∃ y,_∧Sim (q0u _ _ _ _ _) y
  rw [q05 e1',q05 e2'];exact qmq h
 ·rename_i ho;rw [ho]
  obtain ⟨x1,e1',h⟩:=q0e h
  show ∃ y,_∧Sim (q6l _ _) y
  rw [q05 e1'];exact qro h
 ·rename_i ho;rw [ho]
  exact j23 h
 ·rename_i ho;rw [ho]
  exact qit h
 ·rename_i ho;rw [ho]
  show ∃ y,_∧Sim (bif qc3 _ then qhr _ _ _ _ else qaf _ _ _ _ _) y
  cases hn:qc3 _ with
  | true =>
   rw [hn] at h
   obtain ⟨x1,e1',h⟩:=q0e h
   rw [q05 e1'];exact jaf h
  | false =>
   rw [hn] at h
   obtain ⟨x1,e1',h⟩:=q0e h
   obtain ⟨x2,e2',h⟩:=q0e h
   rw [q05 e1',q05 e2'];exact jb2 h
 ·rename_i ho;rw [ho]
  obtain ⟨x1,e1',h⟩:=q0e h
  show ∃ y,_∧Sim (qdd _ _ _) y
  rw [q05 e1'];exact j0m h
 ·rename_i ho;rw [ho]
  obtain ⟨x1,e1',h⟩:=q0e h
  show ∃ y,_∧Sim (jou _ _) y
  rw [q05 e1'];exact jgz h
 ·rename_i ho;rw [ho]
  obtain ⟨x1,e1',h⟩:=q0e h
  show ∃ y,_∧Sim (match qc2 _ _ _ _ with|some r=>some r|none=>q3n _ _ _ _ _ _) y
  rw [q05 e1']
  cases hb:qug P _ _ with
  | true =>
   rw [hb] at h
   rw [j4f hb]
   exact qsx h
  | false =>
   rw [hb] at h
   obtain ⟨y,h1,c,h2,h3⟩:=j8n (P:=P) h
   rw [h3]
   exact ⟨y,h1,c,h2,rfl⟩
 ·rename_i ho;rw [ho]
  obtain ⟨x1,e1',h⟩:=q0e h
  obtain ⟨x2,e2',h⟩:=jfs h
  obtain ⟨x3,e3',h⟩:=jfs h
  show ∃ y,_∧Sim (match q6j _ _ _ _ _ with|some r=>some r|none=>q33 _ _ _ _ _ _) y
  rw [q05 e1',e2',e3']
  cases hb:rowD x1 with
  | true =>
   rw [hb] at h
   obtain ⟨y,h1,h2,h3⟩:=qow (P:=P) h
   rw [h2]
   exact ⟨y,h1,h3⟩
  | false =>
   rw [hb] at h
   obtain ⟨y,h1,c,h2,h3⟩:=j11 (P:=P) h
   rw [h3]
   exact ⟨y,h1,c,h2,rfl⟩
 ·rename_i ho;rw [ho]
  obtain ⟨x1,e1',h⟩:=q0e h
  show ∃ y,_∧Sim (jda _) y
  rw [q05 e1'];exact jbe h
 ·rename_i ho;rw [ho]
  obtain ⟨x1,e1',h⟩:=q0e h
  show ∃ y,_∧Sim (qgh _ _ _ _) y
  rw [q05 e1'];exact jft h
 ·rename_i ho;rw [ho]
  split at h
  case isFalse=>cases h
  rename_i ht
  obtain ⟨x1,e1',h⟩:=q0e h
  obtain ⟨x2,e2',h⟩:=q0e h
  show ∃ y,_∧Sim (if _=_ then q2u _ _ _ _ _ _ else none) y
  rw [if_pos ht,q05 e1',q05 e2'];exact qzw h
 ·rename_i ho;rw [ho]
  cases hs:qi1 _ _ with
  | false=>rw [hs] at h;cases h
  | true =>
   rw [hs] at h
   obtain ⟨x1,e1',h⟩:=q0e h
   show ∃ y,_∧Sim (bif qi1 _ _ then qfn _ _ _ _ _ else none) y
   rw [hs,q05 e1'];exact j7p h
 ·rename_i ho;rw [ho]
  obtain ⟨x1,e1',h⟩:=q0e h
  obtain ⟨x2,e2',h⟩:=q0e h
  show ∃ y,_∧Sim (jib _ _ _) y
  rw [q05 e1',q05 e2'];exact j5b h
 ·rename_i ho;rw [ho]
  obtain ⟨x1,e1',h⟩:=q0e h
  obtain ⟨x2,e2',h⟩:=q0e h
  show ∃ y,_∧Sim (jib _ _ _) y
  rw [q05 e1',q05 e2'];exact j5b h
 ·rename_i f cs ho;rw [ho]
  unfold jpt at h
  split at h
  case h_2=>cases h
  rename_i ds hds
  split at h
  case h_2=>cases h
  rename_i c cs' hc
  obtain ⟨hb,h⟩:=q99 h
  refine ⟨_,h,Sim.tr ?_⟩
  show jpk f (cs.toList.map (opnd (eS σ)))=_
  rw [q9z hds]
  unfold jpk
  rw [qy6 hc,hb]
  rfl
 ·rename_i f cs hne ho;rw [ho]
  unfold jlg at h
  split at h
  case h_2=>cases h
  rename_i ds hds
  split at h
  case h_2=>cases h
  rename_i c cs' hc
  obtain ⟨hb,h⟩:=q99 h
  refine ⟨_,h,Sim.tr ?_⟩
  obtain ⟨l⟩:=cs
  cases l with
  | nil =>
   have hds':q38 σ []=some ds:=hds
   simp only [q38,Option.some.injEq] at hds'
   subst hds'
   cases hc
  | cons a l =>
   show jf0 f ((a::l).map (opnd (eS σ)))=_
   have hds':q38 σ (a::l)=some ds:=hds
   rw [q9z hds']
   unfold jf0
   rw [j61 hc,hb]
   rfl
 ·rename_i ho;rw [ho]
  exact qtm h
 ·rename_i ho;rw [ho]
  obtain ⟨x1,e1',h⟩:=q0e h
  obtain ⟨x2,e2',h⟩:=q0e h
  show ∃ y,_∧Sim (q2m _ _ _ _ _ _) y
  rw [q05 e1',q05 e2'];exact qyq h
 ·rename_i ho;rw [ho]
  obtain ⟨x1,e1',h⟩:=q0e h
  obtain ⟨x2,e2',h⟩:=q0e h
  obtain ⟨x3,e3',h⟩:=q0e h
  show ∃ y,_∧Sim (q2x _ _ _ _ _ _) y
  rw [q05 e1',q05 e2',q05 e3'];exact qht h
 ·rename_i ho;rw [ho]
  obtain ⟨x1,e1',h⟩:=q0e h
  obtain ⟨x2,e2',h⟩:=q0e h
  obtain ⟨x3,e3',h⟩:=q0e h
  show ∃ y,_∧Sim (q2x _ _ _ _ _ _) y
  rw [q05 e1',q05 e2',q05 e3'];exact qht h
 ·cases h
end Go.Proofs.YtlkpgcifpnppeaaGreatDoor.AM
