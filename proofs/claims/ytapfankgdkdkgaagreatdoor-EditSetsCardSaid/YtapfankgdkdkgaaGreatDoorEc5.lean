
import Derived.Test.YtapfankgdkdkgaaGreatDoorEc4
set_option linter.unusedVariables false
set_option linter.unusedSimpArgs false
namespace Go.Proofs.YtapfankgdkdkgaaGreatDoor.AM
open Go.RowKit
variable {α:Type} {P:Program} {σ:TSt}
def ji6 (d:Int):Option TD→Option Int
 | none=>some d
 | some (.one (.c (.d (.int _) n)))=>some n
 | some _=>none
theorem qf3 {d n:Int} {x:Option TD} (h:ji6 d x=some n):bnd d (x.map eD)=some n:=by
 unfold ji6 at h
 split at h
 ·simp only [Option.some.injEq] at h;subst h;rfl
 ·simp only [Option.some.injEq] at h;subst h;rfl
 ·cases h
def qqa (P:Program) (t:TypeId) (x:TD) (lo hi:Option TD) (k:TRes→Option α):Option α:=match P.underlying t,x with
 | some .string,.one (.c (.d .str s))=>match ji6 0 lo,ji6 (List.length s) hi with
  | some l,some h=>(q1a s l h).bind fun y=>k { val:=.one (.c (.d .str y)) }
  | _,_=>none
 | some (.slice el),.one (.c (.d (.lst e) xs))=>match ji6 0 lo,ji6 (List.length xs) hi with
  | some l,some h=>if tsz P el=some (width e) then (q1a xs l h).bind fun y=>k { val:=.one (.c (.d (.lst e) y)) } else none
  | _,_=>none
 | _,_=>none
theorem qlv {β:Type} {l:List β} {a b:Int} {y:List β} (h:q1a l a b=some y):(0≤a∧a≤b∧b≤l.length)∧y=(l.drop a.toNat).take (b.toNat - a.toNat):=by
 unfold q1a at h
 split at h
 case isFalse=>cases h
 rename_i hc
 simp only [Option.some.injEq] at h
 exact ⟨hc,h.symm⟩
theorem q37 (s:Yy):(ba s).size=s.length:=by simp [ba,ByteArray.size]
theorem qf7 (s:Yy) (a b:Nat):(ba s).extract a b=ba ((s.drop a).take (b - a)):=by
 unfold ba
 apply ByteArray.ext
 rw [ByteArray.data_extract]
 apply Array.toList_inj.1
 rw [Array.toList_extract,List.extract_eq_take_drop]
theorem qzc {t:TypeId} {x:TD} {lo hi:Option TD} {k:TRes→Option α} {r:α} (h:qqa P t x lo hi k=some r) : ∃ y,k y=some r∧Sim (q5c P t (eD x) (lo.map eD) (hi.map eD)) y:=by
 unfold qqa at h
 split at h
 ·rename_i s hu
  split at h
  case h_2=>cases h
  rename_i l hh hl hhh
  obtain ⟨y,hy,h⟩:=Option.bind_eq_some_iff.1 h
  obtain ⟨h1,rfl⟩:=qlv hy
  refine ⟨_,h,_,h1,?_⟩
  simp only [q5c,eD,e1,eC,q01,List.headD_cons,hu,qf3 hl,qf7,q37,qf3 hhh]
  rfl
 ·rename_i el e xs hu
  split at h
  case h_2=>cases h
  rename_i l hh hl hhh
  split at h
  case isFalse=>cases h
  rename_i hsz
  obtain ⟨y,hy,h⟩:=Option.bind_eq_some_iff.1 h
  obtain ⟨h1,rfl⟩:=qlv hy
  refine ⟨_,h,_,h1,?_⟩
  simp only [q5c,eD,e1,eC,q01,List.headD_cons,hu,qf3 hl,hsz,if_true,List.length_map,← List.map_drop,← List.map_take,qf3 hhh]
  rfl
 ·cases h
def qbh (P:Program) (t:TypeId) (x:TD) (lo hi:Option TD) (σ:TSt) (k:TRes→Option α):Option α:=match P.underlying t,x with
 | some (.slice el),.one (.c (.row tt g))=>match lk σ.rows tt with
  | some r=>match ji6 0 lo,ji6 (List.length r.xs) hi with
   | some l,some h=>if r.gen=g∧tsz P el=some (width r.e) then (q1a r.xs l h).bind fun y=>k { val:=.one (.c (.d (.lst r.e) y)),row:=some (tt,{ r with wr:=false }) } else none
   | _,_=>none
  | none=>none
 | _,_=>none
theorem qyx {t:TypeId} {tt g:Nat} {lo hi:Option D} : q5c P t (.one (.c (.row tt g))) lo hi=none:=by
 unfold q5c
 split
 ·rename_i h;cases h
 ·rename_i h;cases h
 ·rfl
theorem qmp {t:TypeId} {x:TD} {lo hi:Option TD} {k:TRes→Option α} {r:α} (h:qbh P t x lo hi σ k=some r) : ∃ y,k y=some r∧q5c P t (eD x) (lo.map eD) (hi.map eD)=none∧Sim (q2p P t (eD x) (lo.map eD) (hi.map eD) (eS σ).row) y:=by
 unfold qbh at h
 split at h
 case h_2=>cases h
 rename_i el tt g hu
 split at h
 case h_2=>cases h
 rename_i r' hr
 split at h
 case h_2=>cases h
 rename_i l hh hl hhh
 split at h
 case isFalse=>cases h
 rename_i hg
 obtain ⟨y,hy,h⟩:=Option.bind_eq_some_iff.1 h
 obtain ⟨h1,rfl⟩:=qlv hy
 refine ⟨_,h,qyx,_,h1,?_⟩
 have hlen:(eR r').xs.length=r'.xs.length:=by simp [eR]
 obtain ⟨rfl,hsz⟩:=hg
 have hg':(eR r').gen=r'.gen∧tsz P el=some (eR r').sz:=⟨rfl,hsz⟩
 simp only [q2p,eD,e1,eC,hu,q2v hr,qf3 hl,hlen,qf3 hhh]
 rw [if_pos hg']
 have e2:((eR r').xs.drop l.toNat).take (hh.toNat - l.toNat)=((r'.xs.drop l.toNat).take (hh.toNat - l.toNat)).map (q01 r'.e):=by simp [eR]
 rw [e2]
 rfl
def jc2 (x:TD) (k:TRes→Option α):Option α:=match x with
 | .one (.c (.box β o))=>k { val:=.one (.c (.box β o)) }
 | .one (.c (.rp e o y))=>k { val:=.one (.c (.rp e o y)) }
 | .one (.c (.wp t g j o))=>k { val:=.one (.c (.wp t g j o)) }
 | .one (.c (.bp β o l n))=>k { val:=.one (.c (.bp β o l n)) }
 | _=>none
theorem j9j {x:TD} {k:TRes→Option α} {r:α} (h:jc2 x k=some r) : ∃ y,k y=some r∧Sim (j7c (eD x)) y:=by
 unfold jc2 at h
 split at h
 ·exact ⟨_,h,Sim.tr rfl⟩
 ·exact ⟨_,h,Sim.tr rfl⟩
 ·exact ⟨_,h,Sim.tr rfl⟩
 ·exact ⟨_,h,Sim.tr rfl⟩
 ·cases h
def j7w (P:Program) (t:TypeId) (x:TD) (σ:TSt) (k:TRes→Option α):Option α:=match P.underlying t,x with
 | some .string,.one (.c (.d .str s))=>k { val:=.one (.c (.d (.int .i64) (List.length s:Nat))) }
 | some (.slice _),.one (.c (.d (.lst _) xs))=>k { val:=.one (.c (.d (.int .i64) (List.length xs:Nat))) }
 | some (.slice _),.one (.c .nil)=>k { val:=.one (.c (.d (.int .i64) (0:Int))) }
 | some (.slice _),.one (.c (.row tt g))=>match lk σ.rows tt with
  | some r=>if r.gen=g then k { val:=.one (.c (.d (.int .i64) (List.length r.xs:Nat))) } else none
  | none=>none
 | _,_=>none
theorem j6w {t:TypeId} {x:TD} {k:TRes→Option α} {r:α} (h:j7w P t x σ k=some r) : ∃ y,k y=some r∧Sim (qeh P t (eD x) (eS σ).row) y:=by
 unfold j7w at h
 split at h
 ·rename_i s hu
  refine ⟨_,h,Sim.tr ?_⟩
  simp only [qeh,eD,e1,eC,q01,List.headD_cons,hu,q37]
  rfl
 ·rename_i el e xs hu
  refine ⟨_,h,Sim.tr ?_⟩
  simp only [qeh,eD,e1,eC,q01,List.headD_cons,hu,List.length_map]
  rfl
 ·rename_i el hu
  refine ⟨_,h,Sim.tr ?_⟩
  simp only [qeh,eD,e1,eC,hu]
  rfl
 ·rename_i el tt g hu
  split at h
  case h_2=>cases h
  rename_i r' hr
  split at h
  case isFalse=>cases h
  rename_i hg
  refine ⟨_,h,Sim.tr ?_⟩
  have hg':(eR r').gen=g:=hg
  simp only [qeh,eD,e1,eC,hu,q2v hr,hg',if_true]
  have:(eR r').xs.length=r'.xs.length:=by simp [eR]
  rw [this]
  rfl
 ·cases h
def qvm (place:Nat→Option (Nat×Nat)) (cs:List TC):List (Nat×List TC)→Option (List TC)
 | []=>some cs
 | (i,xs)::rest=>match place i with
  | some (off,size)=>if xs.length=size∧off+xs.length≤cs.length then qvm place (setAt cs off xs) rest else none
  | none=>none
def eQ (q:Nat×List TC):Nat×List C:=(q.1,q.2.map eC)
theorem qe0 {place:Nat→Option (Nat×Nat)} : ∀ {qs:List (Nat×List TC)} {cs cs':List TC},qvm place cs qs=some cs'→qff place (cs.map eC) (qs.map eQ)=some (cs'.map eC)
 | [],cs,cs',h=>by simp only [qvm,Option.some.injEq] at h;subst h;rfl
 | (i,xs)::rest,cs,cs',h=>by
  unfold qvm at h
  split at h
  case h_2=>cases h
  rename_i off size hp
  split at h
  case isFalse=>cases h
  rename_i hc
  have h3:=qe0 h
  rw [q93] at h3
  show (match place i with|some (off,size)=>if (xs.map eC).length=size∧off+(xs.map eC).length≤(cs.map eC).length then qff place (setAt (cs.map eC) off (xs.map eC)) (rest.map eQ) else none|none=>none)=_
  rw [hp]
  simp only [List.length_map]
  rw [if_pos hc,h3]
def j8f (P:Program) (t:TypeId) (parts:List (Nat×List TC)):Option (List TC):=match qm5 P t,layT P t,arrT P t with
 | some z,some pl,_=>match qj1 z with
  | some cs=>if z.all Value.oneCell'=true then qvm (fun i=>nth pl i) cs parts else none
  | none=>none
 | some z,none,some n=>match qj1 z with
  | some cs=>if z.all Value.oneCell'=true then qvm (fun i=>some (i*n,n)) cs parts else none
  | none=>none
 | _,_,_=>none
theorem jbe {t:TypeId} {parts:List (Nat×List TC)} {cs:List TC} (h:j8f P t parts=some cs):qln P t (parts.map eQ)=some (cs.map eC):=by
 unfold j8f at h
 split at h
 ·rename_i z pl hz hl
  split at h
  case h_2=>cases h
  rename_i cs0 hcs
  split at h
  case isFalse=>cases h
  rename_i ha
  have:=qe0 h
  rw [q4n hcs] at this
  simp only [qln,hz,hl,ha,if_true]
  rw [← this]
  congr 1
  funext i
  rw [q4m];simp
 ·rename_i z n hz hl hn
  split at h
  case h_2=>cases h
  rename_i cs0 hcs
  split at h
  case isFalse=>cases h
  rename_i ha
  have:=qe0 h
  rw [q4n hcs] at this
  simp only [qln,hz,hl,hn,ha,if_true]
  exact this
 ·cases h
def qls (σ:TSt):List (Nat×Operand)→Option (List (Nat×List TC))
 | []=>some []
 | (i,x)::rest=>match q0n σ x,qls σ rest with
  | some (.one d),some r=>if (q5t d).all okT=true then some ((i,q5t d)::r) else none
  | _,_=>none
theorem qct : ∀ {ps:List (Nat×Operand)} {qs:List (Nat×List TC)},qls σ ps=some qs→q8r (opnd (eS σ)) ps=some (qs.map eQ)
 | [],qs,h=>by simp only [qls,Option.some.injEq] at h;subst h;rfl
 | (i,x)::ps,qs,h=>by
  unfold qls at h
  split at h
  case h_2=>cases h
  rename_i d r hd hr
  split at h
  case isFalse=>cases h
  rename_i ha
  simp only [Option.some.injEq] at h
  subst h
  have h1:=q07 hd
  have h2:=qct hr
  have ha':(q0h (e1 d)).all okC=true:=by rw [q2a];exact qr2 ha
  unfold q8r
  rw [h1,h2]
  show (if (q0h (e1 d)).all okC=true then _ else _)=_
  rw [if_pos ha',q2a]
  rfl
def qpx (P:Program) (t:TypeId) (ps:Array (Nat×Operand)) (σ:TSt) (k:TRes→Option α):Option α:=match qls σ ps.toList with
 | some qs=>match j8f P t qs with
  | some cs=>k { val:=.one (.agg cs) }
  | none=>none
 | none=>none
theorem qxt {t:TypeId} {ps:Array (Nat×Operand)} {k:TRes→Option α} {r:α} (h:qpx P t ps σ k=some r) : ∃ y,k y=some r∧Sim (qbo P t ps (opnd (eS σ))) y:=by
 unfold qpx at h
 split at h
 case h_2=>cases h
 rename_i qs hqs
 split at h
 case h_2=>cases h
 rename_i cs hcs
 exact ⟨_,h,Sim.tr (by simp only [qbo,qct hqs,jbe hcs,q8v,eD,e1,Option.map_none])⟩
def jpe (f:TypeId→Option (List Ty)):List Field→Option (List Ty)
 | []=>some []
 | fd::fs=>match f fd.type,jpe f fs with
  | some a,some b=>some (a++b)
  | _,_=>none
def jka:List Ty→Option Ty
 | []=>none
 | [t]=>some t
 | t::t'::ts=>(jka (t'::ts)).map (.prod t)
def tysP (P:Program):Nat→TypeId→Option (List Ty)
 | 0,_=>none
 | n+1,t=>match P.underlying t with
  | some (.int k)=>some [.int k]
  | some .bool=>some [.bool]
  | some .string=>some [.str]
  | some (.slice e)=>((tysP P n e).bind jka).map fun x=>[.lst x]
  | some (.struct fs)=>jpe (tysP P n) fs.toList
  | some (.interface _)=>some [.any]
  | some (.func _ _ _)=>some [.any]
  | some (.pointer _)=>some [.any]
  | _=>none
def tyE (P:Program) (t:TypeId):Option Ty:=(tysP P 9 t).bind jka
def qxj (e:Ty):Nat→List TC→Option (List (den e))
 | 0,[]=>some []
 | 0,_::_=>none
 | n+1,cs=>match qma e (cs.take (width e)),qxj e n (cs.drop (width e)) with
  | some x,some xs=>some (x::xs)
  | _,_=>none
theorem qre {e:Ty} : ∀ {n:Nat} {cs:List TC} {xs:List (den e)},qxj e n cs=some xs→cs.map eC=((xs.map (q01 e)).flatten).map C.d∧chunk (width e) n (xs.map (q01 e)).flatten=xs.map (q01 e)
 | 0,[],xs,h=>by simp only [qxj,Option.some.injEq] at h;subst h;exact ⟨rfl,rfl⟩
 | 0,_::_,xs,h=>by simp [qxj] at h
 | n+1,cs,xs,h=>by
  unfold qxj at h
  split at h
  case h_2=>cases h
  rename_i y ys hy hys
  simp only [Option.some.injEq] at h
  subst h
  obtain ⟨h1,h2⟩:=qre hys
  have h3:=q6c hy
  refine ⟨?_,?_⟩
  ·rw [List.map_cons,List.flatten_cons,List.map_append,← h3,← h1,← List.map_append,List.take_append_drop]
  ·rw [List.map_cons,List.flatten_cons,chunk,List.take_append_of_le_length (by rw [q1u];exact Nat.le_refl _),List.take_of_length_le (by rw [q1u];exact Nat.le_refl _),List.drop_append_of_le_length (by rw [q1u];exact Nat.le_refl _),List.drop_eq_nil_of_le (by rw [q1u];exact Nat.le_refl _),List.nil_append,h2]
theorem ql9 {β γ:Type} (f:β→γ) (z:List β) : ∀ n,(rep z n).map f=rep (z.map f) n
 | 0=>rfl
 | n+1=>by rw [rep,rep,List.map_append,ql9 f z n]
def q85 (P:Program) (dst:Option Nat) (t:TypeId) (n:Nat) (ps:Array (Nat×Operand)) (σ:TSt) (k:TRes→Option α):Option α:=match P.underlying t,dst with
 | some (.slice el),some i=>match lk σ.rows i,qm5 P el,tyE P el,qls σ ps.toList with
  | none,some z,some e,some qs=>match qj1 z with
   | some zt=>if tsz P el=some (width e)∧n*width e≤2 ^ 24∧n≤2 ^ 24∧z.length=width e∧0<width e∧z.all Value.oneCell'=true∧el<1099511627776 then match qvm (fun i=>some (i*width e,width e)) (rep zt n) qs with
     | some cs=>match qxj e n cs with
      | some xs=>k { val:=.one (.c (.row i 0)),row:=some (i,⟨0,el,true,e,xs⟩) }
      | none=>none
     | none=>none
    else none
   | none=>none
  | _,_,_,_=>none
 | _,_=>none
theorem qgo {dst:Option Nat} {t:TypeId} {n:Nat} {ps:Array (Nat×Operand)} {k:TRes→Option α} {r:α} (h:q85 P dst t n ps σ k=some r) : ∃ y,k y=some r∧Sim (q0t P dst t n ps (opnd (eS σ)) (eS σ).row) y:=by
 unfold q85 at h
 split at h
 case h_2=>cases h
 rename_i el i hu
 split at h
 case h_2=>cases h
 rename_i z e qs hr hz he hqs
 split at h
 case h_2=>cases h
 rename_i zt hzt
 split at h
 case isFalse=>cases h
 rename_i hc
 obtain ⟨c1,c2,c3,c4,c5,c6,c7⟩:=hc
 split at h
 case h_2=>cases h
 rename_i cs hcs
 split at h
 case h_2=>cases h
 rename_i xs hxs
 obtain ⟨k1,k2⟩:=qre hxs
 have h2:=qe0 hcs
 rw [ql9,q4n hzt,← ql9] at h2
 refine ⟨_,h,Sim.tr ?_⟩
 simp only [q0t,hu,q7q hr,c1,hz,qct hqs]
 rw [if_pos ⟨c2,c3,c4,c5,c6,c7⟩,h2]
 simp only [k1,q75,k2,q8v,eD,e1,eC,Option.map_none,Option.map_some,eR]
def srcT (x:TD) (σ:TSt):Option ((e:Ty)×List (den e)):=match x with
 | .one (.c (.d (.lst e) xs))=>some ⟨e,xs⟩
 | .one (.c (.row t g))=>match lk σ.rows t with
  | some r=>if r.gen=g then some ⟨r.e,r.xs⟩ else none
  | none=>none
 | _=>none
theorem jdf {x:TD} {s:(e:Ty)×List (den e)} (h:srcT x σ=some s):qgq (width s.1) (eD x) (eS σ).row=some (s.2.map (q01 s.1)):=by
 unfold srcT at h
 split at h
 ·simp only [Option.some.injEq] at h;subst h
  simp only [qgq,eD,e1,eC,q01,List.headD_cons,if_true]
 ·split at h
  case h_2=>cases h
  rename_i r hr
  split at h
  case isFalse=>cases h
  rename_i hg
  simp only [Option.some.injEq] at h;subst h
  have hg':(eR r).gen=_∧(eR r).sz=width r.e:=⟨hg,rfl⟩
  simp only [qgq,eD,e1,eC,q2v hr]
  rw [if_pos hg'];rfl
 ·cases h
def qir (P:Program) (dst:Option Nat) (t:TypeId) (s x:TD) (σ:TSt) (k:TRes→Option α):Option α:=match P.underlying t with
 | some (.slice el)=>match j7k P el,srcT x σ with
  | some (m,bytes),some src=>if m=width src.1 then match s with
    | .one (.c (.row tt g))=>match lk σ.rows tt with
     | some r=>if h:src.1=r.e then if r.gen=g∧r.E=el then
       (q1s bytes r.xs (h ▸ src.2)).bind fun ys=>k { val:=.one (.c (.row tt (g+1))),row:=some (tt,{ r with gen:=g+1,xs:=ys }) } else none else none
     | none=>none
    | .one (.c .nil)=>match dst with
     | some i=>match lk σ.rows i with
      | none=>(q1s bytes [] src.2).bind fun ys=>k { val:=.one (.c (.row i 0)),row:=some (i,⟨0,el,true,src.1,ys⟩) }
      | some _=>none
     | none=>none
    | _=>none
   else none
  | _,_=>none
 | _=>none
theorem qs4 {β:Type} {b:Nat} {xs ys zs:List β} (h:q1s b xs ys=some zs):(xs.length+ys.length)*b≤140737488355328∧zs=xs++ys:=by
 unfold q1s at h
 split at h
 case isFalse=>cases h
 rename_i hc
 exact ⟨hc,(Option.some.inj h).symm⟩
theorem qv0 {dst:Option Nat} {t:TypeId} {s x:TD} {k:TRes→Option α} {r:α} (h:qir P dst t s x σ k=some r) : ∃ y,k y=some r∧Sim (q2o P dst t (eD s) (eD x) (eS σ).row) y:=by
 unfold qir at h
 split at h
 case h_2=>cases h
 rename_i el hu
 split at h
 case h_2=>cases h
 rename_i m bytes src hel hsrc
 split at h
 case isFalse=>cases h
 rename_i hm
 subst hm
 have h1:=jdf hsrc
 split at h
 ·rename_i tt g
  split at h
  case h_2=>cases h
  rename_i r' hr
  split at h
  case isFalse=>cases h
  rename_i he
  split at h
  case isFalse=>cases h
  rename_i hg
  obtain ⟨e',ys⟩:=src
  obtain ⟨gen,E,wr,e,xs⟩:=r'
  have he':e'=e:=he
  subst he'
  obtain ⟨hg1,hg2⟩:=hg
  have hg1':gen=g:=hg1
  have hg2':E=el:=hg2
  subst hg1' hg2'
  obtain ⟨zs,hz,h⟩:=Option.bind_eq_some_iff.1 h
  obtain ⟨c1,rfl⟩:=qs4 hz
  refine ⟨_,h,_,c1,?_⟩
  simp only at h1
  show q2o P dst t (.one (.c (.row tt gen))) (eD x) _=_
  generalize eD x=y at h1
  simp only [q2o,hu,hel,h1,eD,e1,eC,q2v hr,eR,and_self,if_true,q8v,Option.map_none,Option.map_some,List.map_append,List.length_map]
 ·split at h
  case h_2=>cases h
  rename_i i
  split at h
  case h_2=>cases h
  rename_i hr
  obtain ⟨e',ys⟩:=src
  obtain ⟨zs,hz,h⟩:=Option.bind_eq_some_iff.1 h
  obtain ⟨c1,hzz⟩:=qs4 hz
  have hzz':zs=ys:=hzz
  clear hzz hz
  rw [hzz'] at h
  clear hzz' zs
  refine ⟨_,h,_,c1,?_⟩
  simp only at h1
  show q2o P (some i) t (.one (.c (.d (.v (.slice none 0 0))))) (eD x) _=_
  generalize eD x=y at h1
  simp only [q2o,hu,hel,h1,eD,e1,eC,q7q hr,eR,q8v,Option.map_none,Option.map_some,List.map_append,List.length_map,List.nil_append,List.length_nil,Nat.zero_add]
 ·cases h
end Go.Proofs.YtapfankgdkdkgaaGreatDoor.AM
namespace Go.Proofs.YtapfankgdkdkgaaGreatDoor.AM
open Go.RowKit
variable {α:Type} {P:Program} {σ:TSt}
def intT (op:BinOp) (k k':IntKind) (a b:Int) (c:TC→Option α):Option α:=match op with
 | .shl=>(shlO k a b).bind fun z=>c (.d (.int k) z)
 | .shr=>(shrO k a b).bind fun z=>c (.d (.int k) z)
 | .add=>if k=k' then q00 (k.wrap (a+b)) fun z=>c (.d (.int k) z) else none
 | .sub=>if k=k' then q00 (k.wrap (a - b)) fun z=>c (.d (.int k) z) else none
 | .mul=>if k=k' then q00 (k.wrap (a*b)) fun z=>c (.d (.int k) z) else none
 | .quo=>if k=k' then (jmy k a b).bind fun z=>c (.d (.int k) z) else none
 | .rem=>if k=k' then (jii a b).bind fun z=>c (.d (.int k) z) else none
 | .and=>if k=k' then q00 (andI k a b) fun z=>c (.d (.int k) z) else none
 | .or=>if k=k' then q00 (orI k a b) fun z=>c (.d (.int k) z) else none
 | .xor=>if k=k' then q00 (xorI k a b) fun z=>c (.d (.int k) z) else none
 | .eql=>if k=k' then c (.d .bool (decide (a=b))) else none
 | .neq=>if k=k' then c (.d .bool (!decide (a=b))) else none
 | .lss=>if k=k' then c (.d .bool (decide (a<b))) else none
 | .leq=>if k=k' then c (.d .bool (decide (a≤b))) else none
 | .gtr=>if k=k' then c (.d .bool (decide (b<a))) else none
 | .geq=>if k=k' then c (.d .bool (decide (b≤a))) else none
 | _=>none
def strT (op:BinOp) (s t:Yy) (c:TC→Option α):Option α:=match op with
 | .add=>(q5q s t).bind fun z=>c (.d .str z)
 | .eql=>c (.d .bool (decide (s=t)))
 | .neq=>c (.d .bool (!decide (s=t)))
 | .lss=>c (.d .bool (ltS s t))
 | .leq=>c (.d .bool (ltS s t||decide (s=t)))
 | .gtr=>c (.d .bool (!(ltS s t||decide (s=t))))
 | .geq=>c (.d .bool (!ltS s t))
 | _=>none
def vC (c:TC):TRes:={ val:=.one (.c c) }
theorem jj8 {op:BinOp} {T:TypeId} {k k':IntKind} {a b:Int} {c:TC→Option α} {r:α} (h:intT op k k' a b c=some r) :
  ∃ x,c x=some r∧Sim (q9a P op T (.one (.c (.d (.v (.int k a))))) (.one (.c (.d (.v (.int k' b)))))) (vC x):=by
 unfold intT at h
 split at h
 case h_1 =>
  obtain ⟨z,hz,h⟩:=Option.bind_eq_some_iff.1 h
  unfold shlO at hz
  split at hz
  case isFalse=>cases hz
  rename_i hb
  simp only [Option.some.injEq] at hz;subst hz
  exact ⟨_,h,_,hb,rfl⟩
 case h_2 =>
  obtain ⟨z,hz,h⟩:=Option.bind_eq_some_iff.1 h
  unfold shrO at hz
  split at hz
  case isFalse=>cases hz
  rename_i hb
  simp only [Option.some.injEq] at hz;subst hz
  exact ⟨_,h,_,hb,rfl⟩
 case h_6 =>
  split at h
  case isFalse=>cases h
  rename_i hk;subst hk
  obtain ⟨z,hz,h⟩:=Option.bind_eq_some_iff.1 h
  unfold jmy at hz
  split at hz
  case isFalse=>cases hz
  rename_i hb
  simp only [Option.some.injEq] at hz;subst hz
  refine ⟨_,h,_,hb,?_⟩
  simp only [q9a,if_true,qih,Option.map_some];rfl
 case h_7 =>
  split at h
  case isFalse=>cases h
  rename_i hk;subst hk
  obtain ⟨z,hz,h⟩:=Option.bind_eq_some_iff.1 h
  unfold jii at hz
  split at hz
  case isFalse=>cases hz
  rename_i hb
  simp only [Option.some.injEq] at hz;subst hz
  refine ⟨_,h,_,hb,?_⟩
  simp only [q9a,if_true,qih,Option.map_some];rfl
 case h_17=>cases h
 all_goals
  split at h
  case isFalse=>cases h
  rename_i hk;subst hk
  refine ⟨_,h,Sim.tr ?_⟩
  simp only [q9a,if_true,qih,Option.map_some];rfl
theorem jpl {s t:Yy} : (ba s=ba t)=(s=t):=by
 apply propext
 constructor
 ·intro h
  have:=congrArg ByteArray.data h
  exact Array.toList_inj.2 this |> fun h=>by simpa [ba] using h
 ·rintro rfl;rfl
theorem q77 (s:Yy):(ba s).toList=s:=by rw [ByteArray.toList_eq];rfl
theorem j98 (s t:Yy):ba s++ba t=ba (s++t):=by
 apply ByteArray.ext
 rw [ByteArray.data_append]
 simp [ba]
theorem j86 (s t:Yy):decide (ba s=ba t)=decide (s=t):=by simp only [jpl]
theorem jkh {op:BinOp} {T:TypeId} {s t:Yy} {c:TC→Option α} {r:α} (h:strT op s t c=some r) :
  ∃ x,c x=some r∧Sim (q9a P op T (.one (.c (.d (.v (.string (ba s)))))) (.one (.c (.d (.v (.string (ba t))))))) (vC x):=by
 unfold strT at h
 split at h
 case h_1 =>
  obtain ⟨z,hz,h⟩:=Option.bind_eq_some_iff.1 h
  unfold q5q at hz
  split at hz
  case isFalse=>cases hz
  rename_i hb
  simp only [Option.some.injEq] at hz;subst hz
  refine ⟨_,h,_,hb,?_⟩
  simp only [q9a,qn0,Option.map_some,q37,j98];rfl
 case h_8=>cases h
 all_goals
  refine ⟨_,h,Sim.tr ?_⟩
  simp only [q9a,qn0,Option.map_some,q77,j86];rfl
def eqC1 (P:Program) (t:TypeId) (x y:TC):Option Bool:=match P.underlying t,x,y with
 | some .bool,.d .bool a,.d .bool b=>some (decide ((a:Bool)=b))
 | some (.int _),.d (.int k) a,.d (.int k') b=>if k=k' then some (decide ((a:Int)=b)) else none
 | some .string,.d .str a,.d .str b=>some (decide ((a:Yy)=b))
 | _,_,_=>none
def vT:TC→Option Value
 | .d (.int k) n=>some (.int k n)
 | .d .bool b=>some (.bool b)
 | .d .str s=>some (.string (ba s))
 | _=>none
def vTs:List TC→Option (List Value)
 | []=>some []
 | c::cs=>match vT c,vTs cs with
  | some x,some xs=>some (x::xs)
  | _,_=>none
theorem vT_ok {c:TC} {v:Value} (h:vT c=some v):eC c = .d (.v v):=by
 unfold vT at h
 split at h<;>simp only [Option.some.injEq,reduceCtorEq] at h<;>subst h<;>rfl
theorem jdj : ∀ {cs:List TC} {xs:List Value},vTs cs=some xs→j6n (cs.map eC)=some xs
 | [],xs,h=>by simp only [vTs,Option.some.injEq] at h;subst h;rfl
 | c::cs,xs,h=>by
  unfold vTs at h
  split at h
  case h_2=>cases h
  rename_i x ys hx hy
  simp only [Option.some.injEq] at h;subst h
  rw [List.map_cons,vT_ok hx]
  show (j6n (cs.map eC)).map (x :: ·)=_
  rw [jdj hy];rfl
def j7m (P:Program) (rec:TypeId→List TC→List TC→Option Bool):List Field→List TC→List TC→Option Bool
 | [],_,_=>some true
 | f::fs,xs,ys=>if f.name = "_" then none else match qnf P f.type with
  | some false=>match nth xs f.offset,nth ys f.offset with
   | some x,some y=>match eqC1 P f.type x y,j7m P rec fs xs ys with
    | some b,some c=>some (b&&c)
    | _,_=>none
   | _,_=>none
  | some true=>match tsz P f.type with
   | some m=>if f.offset+m≤xs.length∧f.offset+m≤ys.length then match rec f.type ((xs.drop f.offset).take m) ((ys.drop f.offset).take m),j7m P rec fs xs ys with
     | some b,some c=>some (b&&c)
     | _,_=>none
    else none
   | none=>none
  | none=>none
def eqST (P:Program):Nat→TypeId→List TC→List TC→Option Bool
 | 0,_,_,_=>none
 | n+1,t,xs,ys=>match P.underlying t with
  | some (.struct fs)=>if P.stoodInHeld t=false then j7m P (eqST P n) fs.toList xs ys else none
  | _=>none
theorem jkj {t:TypeId} {x y:TC} {u v:Value} {b:Bool} (hx:vT x=some u) (hy:vT y=some v) (h:eqC1 P t x y=some b):eqV P t u v=some b:=by
 unfold eqC1 at h
 split at h
 ·rename_i hu
  simp only [vT,Option.some.injEq] at hx hy h;subst hx hy h
  simp only [eqV,hu]
 ·rename_i hu
  split at h
  case isFalse=>cases h
  rename_i hk;subst hk
  simp only [vT,Option.some.injEq] at hx hy h;subst hx hy h
  simp only [eqV,hu,if_true]
 ·rename_i hu
  simp only [vT,Option.some.injEq] at hx hy h;subst hx hy h
  simp only [eqV,hu,j86]
 ·cases h
theorem qxv : ∀ {cs:List TC} {xs:List Value} {i:Nat} {c:TC},vTs cs=some xs→nth cs i=some c→∃ v,xs[i]? = some v∧vT c=some v
 | [],_,_,_,_,h=>by cases h
 | c0::cs,xs,i,c,h,hn=>by
  unfold vTs at h
  split at h
  case h_2=>cases h
  rename_i x ys hx hy
  simp only [Option.some.injEq] at h;subst h
  cases i with
  | zero=>simp only [nth,Option.some.injEq] at hn;subst hn;exact ⟨x,rfl,hx⟩
  | succ i =>
   obtain ⟨v,h1,h2⟩:=qxv hy (show nth cs i=some c from hn)
   exact ⟨v,by simpa using h1,h2⟩
theorem jcw : ∀ {cs:List TC} {xs:List Value} (o m:Nat),vTs cs=some xs→vTs ((cs.drop o).take m)=some ((xs.drop o).take m):=by
 have tk : ∀ {cs:List TC} {xs:List Value} (m:Nat),vTs cs=some xs→vTs (cs.take m)=some (xs.take m):=by
  intro cs
  induction cs with
  | nil=>intro xs m h;simp only [vTs,Option.some.injEq] at h;subst h;simp [vTs]
  | cons c cs ih =>
   intro xs m h
   unfold vTs at h
   split at h
   case h_2=>cases h
   rename_i x ys hx hy
   simp only [Option.some.injEq] at h;subst h
   cases m with
   | zero=>rfl
   | succ m =>
    rw [List.take_succ_cons,List.take_succ_cons]
    unfold vTs
    rw [hx,ih m hy]
 have dr : ∀ {cs:List TC} {xs:List Value} (o:Nat),vTs cs=some xs→vTs (cs.drop o)=some (xs.drop o):=by
  intro cs
  induction cs with
  | nil=>intro xs o h;simp only [vTs,Option.some.injEq] at h;subst h;simp [vTs]
  | cons c cs ih =>
   intro xs o h
   cases o with
   | zero=>exact h
   | succ o =>
    unfold vTs at h
    split at h
    case h_2=>cases h
    rename_i x ys hx hy
    simp only [Option.some.injEq] at h;subst h
    rw [List.drop_succ_cons,List.drop_succ_cons]
    exact ih o hy
 intro cs xs o m h
 exact tk m (dr o h)
theorem qxx : ∀ {cs:List TC} {xs:List Value},vTs cs=some xs→xs.length=cs.length
 | [],xs,h=>by simp only [vTs,Option.some.injEq] at h;subst h;rfl
 | c::cs,xs,h=>by
  unfold vTs at h
  split at h
  case h_2=>cases h
  rename_i x ys hx hy
  simp only [Option.some.injEq] at h;subst h
  rw [List.length_cons,List.length_cons,qxx hy]
theorem qr9 {rec:TypeId→List TC→List TC→Option Bool} {rec':TypeId→List Value→List Value→Option Bool} {us vs:List Value} {xs ys:List TC} (hx:vTs xs=some us) (hy:vTs ys=some vs)
  (hr : ∀ t o m b,rec t ((xs.drop o).take m) ((ys.drop o).take m)=some b→rec' t ((us.drop o).take m) ((vs.drop o).take m)=some b) : ∀ {fs:List Field} {b:Bool},j7m P rec fs xs ys=some b→j9q P rec' fs us vs=some b
 | [],b,h=>h
 | f::fs,b,h=>by
  unfold j7m at h
  split at h
  case isTrue=>cases h
  rename_i hn
  split at h
  ·rename_i h3
   split at h
   case h_2=>cases h
   rename_i x y h1 h2
   split at h
   case h_2=>cases h
   rename_i b1 b2 h4 h5
   obtain ⟨u,k1,k2⟩:=qxv hx h1
   obtain ⟨v,k3,k4⟩:=qxv hy h2
   unfold j9q
   rw [if_neg hn,h3]
   simp only [k1,k3,jkj k2 k4 h4,qr9 hx hy hr h5]
   exact h
  ·rename_i h3
   split at h
   case h_2=>cases h
   rename_i m hm
   split at h
   case isFalse=>cases h
   rename_i hle
   split at h
   case h_2=>cases h
   rename_i b1 b2 h4 h5
   unfold j9q
   rw [if_neg hn,h3,hm]
   have hle':f.offset+m≤us.length∧f.offset+m≤vs.length:=by rw [qxx hx,qxx hy];exact hle
   simp only [hle',and_self,if_true,hr _ _ _ _ h4,qr9 hx hy hr h5]
   exact h
  ·cases h
theorem j84 : ∀ (n:Nat) {t:TypeId} {us vs:List Value} {xs ys:List TC} {b:Bool},vTs xs=some us→vTs ys=some vs→eqST P n t xs ys=some b→eqS P n t us vs=some b
 | 0,_,_,_,_,_,_,_,_,h=>by cases h
 | n+1,t,us,vs,xs,ys,b,hx,hy,h=>by
  unfold eqST at h
  split at h
  case h_2=>cases h
  rename_i fs hu
  split at h
  case isFalse=>cases h
  rename_i hc
  unfold eqS
  rw [hu]
  simp only [hc,if_true]
  exact qr9 hx hy (fun t o m b hh=>j84 n (jcw o m hx) (jcw o m hy) hh) h
def qlm (P:Program) (t:TypeId) (xs ys:List TC):Option Bool:=match vTs xs,vTs ys with
 | some _,some _=>if P.eqGuardType P.depth t=false then eqST P 9 t xs ys else none
 | _,_=>none
theorem qfy {t:TypeId} {xs ys:List TC} {b:Bool} (h:qlm P t xs ys=some b):qa2 P t (xs.map eC) (ys.map eC)=some b:=by
 unfold qlm at h
 split at h
 case h_2=>cases h
 rename_i us vs hx hy
 split at h
 case isFalse=>cases h
 rename_i hc
 unfold qa2
 rw [jdj hx,jdj hy]
 simp only
 rw [if_pos hc]
 exact j84 9 hx hy h
def jax (P:Program) (op:BinOp) (T:TypeId) (x y:TD) (k:TRes→Option α):Option α:=match x,y with
 | .one (.c (.d (.int kx) a)),.one (.c (.d (.int ky) b))=>intT op kx ky a b (fun c=>k (vC c))
 | .one (.c (.d .str s)),.one (.c (.d .str t))=>strT op s t (fun c=>k (vC c))
 | .one (.c (.d .bool a)),.one (.c (.d .bool b))=>match P.underlying T,op with
  | some .bool,.eql=>k (vC (.d .bool (decide ((a:Bool)=b))))
  | some .bool,.neq=>k (vC (.d .bool (!decide ((a:Bool)=b))))
  | _,_=>none
 | .one (.agg xs),.one (.agg ys)=>match op,qlm P T xs ys with
  | .eql,some b=>k (vC (.d .bool b))
  | .neq,some b=>k (vC (.d .bool (!b)))
  | _,_=>none
 | _,_=>none
theorem jcb {op:BinOp} {T:TypeId} {x y:TD} {k:TRes→Option α} {r:α} (h:jax P op T x y k=some r) : ∃ z,k z=some r∧Sim (q9a P op T (eD x) (eD y)) z:=by
 unfold jax at h
 split at h
 ·obtain ⟨z,h1,h2⟩:=jj8 (P:=P) (T:=T) h
  exact ⟨_,h1,h2⟩
 ·obtain ⟨z,h1,h2⟩:=jkh (P:=P) (T:=T) h
  exact ⟨_,h1,h2⟩
 ·split at h
  ·rename_i hu
   exact ⟨_,h,Sim.tr (by simp only [q9a,eD,e1,eC,q01,List.headD_cons,eqV,hu,Option.map_some];rfl)⟩
  ·rename_i hu
   exact ⟨_,h,Sim.tr (by simp only [q9a,eD,e1,eC,q01,List.headD_cons,eqV,hu,Option.map_some];rfl)⟩
  ·cases h
 ·split at h
  ·rename_i b hb
   exact ⟨_,h,Sim.tr (by simp only [q9a,eD,e1,qfy hb,Option.map_some];rfl)⟩
  ·rename_i b hb
   exact ⟨_,h,Sim.tr (by simp only [q9a,eD,e1,qfy hb,Option.map_some];rfl)⟩
  ·cases h
 ·cases h
def jja (op:UnOp) (x:TD) (k:TRes→Option α):Option α:=match op,x with
 | .not,.one (.c (.d .bool b))=>k (vC (.d .bool (!(b:Bool))))
 | .neg,.one (.c (.d (.int kk) n))=>k (vC (.d (.int kk) (kk.wrap (0 - (n:Int)))))
 | _,_=>none
theorem jg0 {op:UnOp} {x:TD} {k:TRes→Option α} {r:α} (h:jja op x k=some r) : ∃ z,k z=some r∧Sim (jms op (eD x)) z:=by
 unfold jja at h
 split at h
 ·exact ⟨_,h,Sim.tr rfl⟩
 ·exact ⟨_,h,Sim.tr rfl⟩
 ·cases h
def qxu (P:Program) (src dst:TypeId) (x:TD) (k:TRes→Option α):Option α:=match P.underlying src,P.underlying dst,x with
 | some _,some (.int kk),.one (.c (.d (.int _) n))=>q00 (kk.wrap n) fun z=>k (vC (.d (.int kk) z))
 | some .string,some .string,.one (.c (.d .str s))=>k (vC (.d .str s))
 | _,_,_=>none
theorem j4p {src dst:TypeId} {x:TD} {k:TRes→Option α} {r:α} (h:qxu P src dst x k=some r) : ∃ z,k z=some r∧Sim (qaw P src dst (eD x)) z:=by
 unfold qxu at h
 split at h
 ·rename_i h1 h2
  exact ⟨_,h,Sim.tr (by simp only [qaw,eD,e1,eC,q01,List.headD_cons,h1,h2];rfl)⟩
 ·rename_i h1 h2
  exact ⟨_,h,Sim.tr (by simp only [qaw,eD,e1,eC,q01,List.headD_cons,h1,h2];rfl)⟩
 ·cases h
def qoq (P:Program) (src dst:TypeId):Bool:=match P.underlying src,P.underlying dst with
 | some (.slice _),some .string=>true
 | some .string,some (.slice _)=>true
 | _,_=>false
def bytO (s:Yy):Option (List Int):=if s.length≤9223372036854775807 then some (s.map fun b=>((b.toNat:Nat):Int)) else none
def qeu (P:Program) (o:Option Nat) (src dst:TypeId) (x:TD) (σ:TSt) (k:TRes→Option α):Option α:=match P.underlying src,P.underlying dst with
 | some (.slice e),some .string=>match P.underlying e,srcT x σ with
  | some (.int .u8),some ⟨.int .u8,xs⟩=>k (vC (.d .str ((xs:List Int).map fun n=>UInt8.ofNat n.toNat)))
  | _,_=>none
 | some .string,some (.slice e)=>match P.underlying e,x,o with
  | some (.int .u8),.one (.c (.d .str s)),some i=>match lk σ.rows i with
   | none=>if e<1099511627776 then (bytO s).bind fun xs=>k { val:=.one (.c (.row i 0)),row:=some (i,⟨0,e+1099511627776,true,.int .u8,xs⟩) } else none
   | some _=>none
  | _,_,_=>none
 | _,_=>none
theorem quj : ∀ (xs:List Int),qvy (xs.map (q01 (.int .u8)))=some xs
 | []=>rfl
 | x::xs=>by
  show (qvy (xs.map (q01 (.int .u8)))).map (x :: ·)=_
  rw [quj xs];rfl
theorem j24 : ∀ (xs:List Int) (b:Yy),xs.foldl (fun r n=>r.push (UInt8.ofNat n.toNat)) (ba b)=ba (b++xs.map fun n=>UInt8.ofNat n.toNat)
 | [],b=>by simp
 | x::xs,b=>by
  rw [List.foldl_cons,show (ba b).push (UInt8.ofNat x.toNat)=ba (b ++ [UInt8.ofNat x.toNat]) from by simp [ba,ByteArray.push],j24 xs]
  simp
theorem jh3 (xs:List Int):strOf xs=ba (xs.map fun n=>UInt8.ofNat n.toNat):=by
 have:=j24 xs []
 rw [List.nil_append] at this
 exact this
theorem qwl {src dst:TypeId} {x:D} (h:qoq P src dst=true):qaw P src dst x=none:=by
 unfold qoq at h
 unfold qaw
 split at h
 ·rename_i h1 h2;rw [h1,h2]
 ·rename_i h1 h2;rw [h1,h2]
 ·cases h
theorem qqb {o:Option Nat} {src dst:TypeId} {x:TD} {k:TRes→Option α} {r:α} (h:qeu P o src dst x σ k=some r) : ∃ z,k z=some r∧Sim (q2y P o src dst (eD x) (eS σ).row) z:=by
 unfold qeu at h
 split at h
 ·rename_i e h1 h2
  split at h
  case h_2=>cases h
  rename_i xs he hx
  have hs:=jdf hx
  have hs':qgq 1 (eD x) (eS σ).row=some (xs.map (q01 (.int .u8))):=hs
  refine ⟨_,h,Sim.tr ?_⟩
  have hi:qvy (List.map (q01 (.int .u8)) xs)=some xs:=quj xs
  simp only [q2y,h1,h2,he,hs',Option.bind_some]
  rw [hi]
  simp only [jh3]
  rfl
 ·rename_i e h1 h2
  split at h
  case h_2=>cases h
  rename_i s i he
  split at h
  case h_2=>cases h
  rename_i hr
  split at h
  case isFalse=>cases h
  rename_i hlt
  obtain ⟨xs,hxs,h⟩:=Option.bind_eq_some_iff.1 h
  unfold bytO at hxs
  split at hxs
  case isFalse=>cases hxs
  rename_i hle
  simp only [Option.some.injEq] at hxs;subst hxs
  refine ⟨_,h,(ba s).size≤maxLen,by rw [q37];exact hle,?_⟩
  simp only [q2y,h1,h2,he,eD,e1,eC,q01,List.headD_cons,q7q hr]
  rw [if_pos hlt]
  have e3:(ba s).data.toList=s:=by simp [ba]
  rw [e3]
  simp only [q8v,eD,e1,eC,Option.map_none,Option.map_some,eR,List.map_map]
  rfl
 ·cases h
def qzk (c x y:TD) (k:TRes→Option α):Option α:=match c with
 | .one (.c (.d .bool t))=>bif t then k { val:=x } else k { val:=y }
 | _=>none
theorem j46 {c x y:TD} {k:TRes→Option α} {r:α} (h:qzk c x y k=some r) : ∃ z,k z=some r∧Sim (qon (eD c) (eD x) (eD y)) z:=by
 unfold qzk at h
 split at h
 case h_2=>cases h
 rename_i t
 cases t with
 | true=>exact ⟨_,h,Sim.tr rfl⟩
 | false=>exact ⟨_,h,Sim.tr rfl⟩
def makO (b:Nat) (q:Int) (n:Int):Option (List Int):=if 0≤n∧n≤16777216∧b*n.toNat≤281474976710656 then some (List.replicate n.toNat q) else none
def qz6 (P:Program) (dst:Option Nat) (t:TypeId) (x:TD) (σ:TSt) (k:TRes→Option α):Option α:=match P.underlying t,dst,x with
 | some (.slice el),some i,.one (.c (.d (.int _) n))=>match lk σ.rows i,(P.info? el).map (fun i=>(i.zero,i.size,i.bytes)) with
  | none,some (some (Value.int kk q),1,b)=>bif Nat.blt el 1099511627776 then (makO b q n).bind fun xs=>k { val:=.one (.c (.row i 0)),row:=some (i,⟨0,el,true,.int kk,xs⟩) } else none
  | _,_=>none
 | _,_,_=>none
theorem j63 {dst:Option Nat} {t:TypeId} {x:TD} {k:TRes→Option α} {r:α} (h:qz6 P dst t x σ k=some r) : ∃ y,k y=some r∧Sim (qdm P dst t (eD x) (eS σ).row) y:=by
 unfold qz6 at h
 split at h
 case h_2=>cases h
 rename_i el i kx n hu
 split at h
 case h_2=>cases h
 rename_i kk q b hr hinf
 cases hb:Nat.blt el 1099511627776 with
 | false=>rw [hb] at h;cases h
 | true =>
  rw [hb] at h
  have hlt:el<1099511627776:=by simpa using hb
  obtain ⟨xs,hxs,h⟩:=Option.bind_eq_some_iff.1 h
  unfold makO at hxs
  split at hxs
  case isFalse=>cases hxs
  rename_i hc
  simp only [Option.some.injEq] at hxs;subst hxs
  refine ⟨_,h,Sim.tr ?_⟩
  simp only [qdm,hu,eD,e1,eC,q01,List.headD_cons,q7q hr,hinf]
  rw [if_pos ⟨hc.1,hc.2.1,hc.2.2,hlt⟩]
  simp only [q8v,eD,e1,eC,Option.map_none,Option.map_some,eR,List.map_replicate]
  rfl
def jeb (f:Int→Int→Int) (x y:TD) (k:TRes→Option α):Option α:=match x,y with
 | .one (.c (.d (.int kk) n)),.one (.c (.d (.int _) m))=>q00 (f n m) fun z=>k (vC (.d (.int kk) z))
 | _,_=>none
theorem j28 {f:Int→Int→Int} {x y:TD} {k:TRes→Option α} {r:α} (h:jeb f x y k=some r) : ∃ z,k z=some r∧Sim (jgp f (eD x) (eD y)) z:=by
 unfold jeb at h
 split at h
 case h_2=>cases h
 exact ⟨_,h,Sim.tr rfl⟩
def vTI:TC→Option Value
 | .d (.int k) n=>some (.int k n)
 | .d .bool b=>some (.bool b)
 | .d .str s=>some (.string (ba s))
 | .d .any v=>some (Subtype.val (v:IV))
 | _=>none
def jpa:List TC→Option (List Value)
 | []=>some []
 | c::cs=>match vTI c,jpa cs with
  | some x,some xs=>some (x::xs)
  | _,_=>none
def vTD:TD→Option Value
 | .one (.c c)=>vTI c
 | .one (.agg cs)=>(jpa cs).map fun xs=>.agg ⟨xs⟩
 | .tup _=>none
theorem jhq {c:TC} {v:Value} (h:vTI c=some v):jmq (eC c)=some v:=by
 unfold vTI at h
 split at h<;>simp only [Option.some.injEq,reduceCtorEq] at h<;>subst h<;>rfl
theorem jdi : ∀ {cs:List TC} {xs:List Value},jpa cs=some xs→qpp (cs.map eC)=some xs
 | [],xs,h=>by simp only [jpa,Option.some.injEq] at h;subst h;rfl
 | c::cs,xs,h=>by
  unfold jpa at h
  split at h
  case h_2=>cases h
  rename_i x ys hx hy
  simp only [Option.some.injEq] at h;subst h
  rw [List.map_cons]
  unfold qpp
  rw [jhq hx,jdi hy]
theorem jnl {d:TD} {v:Value} (h:vTD d=some v):jp6 (eD d)=some v:=by
 unfold vTD at h
 split at h
 ·exact jhq h
 ·obtain ⟨xs,h1,rfl⟩:=Option.map_eq_some_iff.1 h
  show (qpp _).map _=_
  rw [jdi h1];rfl
 ·cases h
def qpw (P:Program) (t:TypeId) (x:TD) (k:TRes→Option α):Option α:=match P.concrete t,vTD x with
 | true,some v=>k (vC (.d .any (qh5 t v)))
 | _,_=>none
theorem qxs {t:TypeId} {x:TD} {k:TRes→Option α} {r:α} (h:qpw P t x k=some r) : ∃ z,k z=some r∧Sim (qbn P t (eD x)) z:=by
 unfold qpw at h
 split at h
 case h_2=>cases h
 rename_i v hc hv
 exact ⟨_,h,Sim.tr (by unfold qbn;rw [hc,jnl hv];rfl)⟩
def qx8 (P:Program) (op:BinOp) (t:TypeId) (x:TD) (k:TRes→Option α):Option α:=match j27 P t,op,x with
 | true,.eql,.one (.c (.d .any v))=>(q43 (Subtype.val (v:IV))).bind fun b=>k (vC (.d .bool b))
 | true,.neq,.one (.c (.d .any v))=>(q43 (Subtype.val (v:IV))).bind fun b=>k (vC (.d .bool (!b)))
 | _,_,_=>none
theorem j48 {op:BinOp} {t:TypeId} {x:TD} {k:TRes→Option α} {r:α} (h:qx8 P op t x k=some r) : ∃ z,k z=some r∧Sim (qgh P op t (eD x)) z:=by
 unfold qx8 at h
 split at h
 case h_3=>cases h
 ·rename_i v hc
  obtain ⟨b,hb,h⟩:=Option.bind_eq_some_iff.1 h
  exact ⟨_,h,Sim.tr (by simp only [qgh,hc,eD,e1,eC,q01,List.headD_cons,hb,Option.map_some];rfl)⟩
 ·rename_i v hc
  obtain ⟨b,hb,h⟩:=Option.bind_eq_some_iff.1 h
  exact ⟨_,h,Sim.tr (by simp only [qgh,hc,eD,e1,eC,q01,List.headD_cons,hb,Option.map_some];rfl)⟩
def w1 (x:Option TD) (f:TD→Option α):Option α:=match x with|some y=>f y|none=>none
def w0 (σ:TSt) (x:Option Operand) (f:Option TD→Option α):Option α:=match x with
 | none=>f none
 | some x=>match q0n σ x with|some y=>f (some y)|none=>none
theorem q0f {x:Option TD} {f:TD→Option α} {r:α} (h:w1 x f=some r) : ∃ y,x=some y∧f y=some r:=by
 cases x with
 | none=>cases h
 | some y=>exact ⟨y,rfl,h⟩
theorem jaw {x:Option Operand} {f:Option TD→Option α} {r:α} (h:w0 σ x f=some r) : ∃ y,x.map (opnd (eS σ))=y.map eD∧f y=some r:=by
 cases x with
 | none=>exact ⟨none,rfl,h⟩
 | some x =>
  unfold w0 at h
  simp only at h
  split at h
  ·rename_i y hy
   exact ⟨some y,by rw [Option.map_some,Option.map_some,q07 hy],h⟩
  ·cases h
def q42 (σ:TSt):List Operand→Option (List TD)
 | []=>some []
 | x::xs=>match q0n σ x,q42 σ xs with
  | some y,some ys=>some (y::ys)
  | _,_=>none
theorem qcl : ∀ {xs:List Operand} {ys:List TD},q42 σ xs=some ys→xs.map (opnd (eS σ))=ys.map eD
 | [],ys,h=>by simp only [q42,Option.some.injEq] at h;subst h;rfl
 | x::xs,ys,h=>by
  unfold q42 at h
  split at h
  case h_2=>cases h
  rename_i y zs h1 h2
  simp only [Option.some.injEq] at h;subst h
  rw [List.map_cons,List.map_cons,q07 h1,qcl h2]
def j0a:List TD→Option (List Nat)
 | []=>some []
 | .one (.c (.box β 0))::ds=>(j0a ds).map (β :: ·)
 | _=>none
theorem qv7 : ∀ {ds:List TD} {cs:List Nat},j0a ds=some cs→qkn (ds.map eD)=some cs
 | [],cs,h=>h
 | d::ds,cs,h=>by
  unfold j0a at h
  split at h
  ·rename_i h1;cases h1
  ·rename_i β ds' h1
   simp only [List.cons.injEq] at h1
   obtain ⟨rfl,rfl⟩:=h1
   obtain ⟨cs',h2,rfl⟩:=Option.map_eq_some_iff.1 h
   show (qkn (ds.map eD)).map _=_
   rw [qv7 h2];rfl
  ·cases h
def jo7 (f:Nat) (ds:Option (List TD)) (k:TRes→Option α):Option α:=match ds with
 | some ds=>match j0a ds with
  | some (c::cs)=>k { val:=.one (.c (.fn f (c::cs))) }
  | _=>none
 | none=>none
def qar {β:Type} (s:Yy):List (Yy×β)→Option β
 | []=>none
 | (k,v)::l=>if s=k then some v else qar s l
def jdt {β:Type} (s:Yy) (y:β):List (Yy×β)→List (Yy×β)
 | []=>[(s,y)]
 | (k,v)::l=>if s=k then (s,y)::l else (k,v)::jdt s y l
def j3e {β:Type} (o:Option β) (z:β) (f:β→Bool→Option α):Option α:=f (o.getD z) o.isSome
def eqT:(K:Ty)→den K→den K→Bool
 | .str,a,b=>decide ((a:Yy)=b)
 | .int _,a,b=>decide ((a:Int)=b)
 | .prod a b,(x:den a×den b),(y:den a×den b)=>eqT a x.1 y.1&&eqT b x.2 y.2
 | _,_,_=>false
def q02 {β:Type} (K:Ty) (s:den K):List (den K×β)→Option β
 | []=>none
 | (k,v)::l=>bif eqT K s k then some v else q02 K s l
def q0x {β:Type} (K:Ty) (s:den K) (y:β):List (den K×β)→List (den K×β)
 | []=>[(s,y)]
 | (k,v)::l=>bif eqT K s k then (s,y)::l else (k,v)::q0x K s y l
def j8o {β:Type} : (K:Ty)→den K→List (den K×β)→Option β
 | .str,s,l=>qar s l
 | .int k,s,l=>q02 (.int k) s l
 | .prod a b,s,l=>q02 (.prod a b) s l
 | .bool,s,l=>q02 .bool s l
 | .lst e,s,l=>q02 (.lst e) s l
 | .any,s,l=>q02 .any s l
def jn9 {β:Type} : (K:Ty)→den K→β→List (den K×β)→List (den K×β)
 | .str,s,y,l=>jdt s y l
 | .int k,s,y,l=>q0x (.int k) s y l
 | .prod a b,s,y,l=>q0x (.prod a b) s y l
 | .bool,s,y,l=>q0x .bool s y l
 | .lst e,s,y,l=>q0x (.lst e) s y l
 | .any,s,y,l=>q0x .any s y l
theorem qw2 {β:Type} (s:Yy) : ∀ l:List (Yy×β),qar s l=q02 .str s l
 | []=>rfl
 | (k,v)::l=>by
  show (if s=k then some v else qar s l)=bif decide (s=k) then some v else q02 .str s l
  by_cases h:s=k
  ·rw [if_pos h,decide_eq_true h];rfl
  ·rw [if_neg h,decide_eq_false h,qw2 s l];rfl
theorem j16 {β:Type} (s:Yy) (y:β) : ∀ l:List (Yy×β),jdt s y l=q0x .str s y l
 | []=>rfl
 | (k,v)::l=>by
  show (if s=k then (s,y)::l else (k,v)::jdt s y l)=bif decide (s=k) then (s,y)::l else (k,v)::q0x .str s y l
  by_cases h:s=k
  ·rw [if_pos h,decide_eq_true h];rfl
  ·rw [if_neg h,decide_eq_false h,j16 s y l];rfl
theorem jad {β:Type} : ∀ (K:Ty) (s:den K) (l:List (den K×β)),j8o K s l=q02 K s l
 | .str,s,l=>qw2 s l
 | .int k,s,l=>rfl
 | .prod a b,s,l=>rfl
 | .bool,s,l=>rfl
 | .lst e,s,l=>rfl
 | .any,s,l=>rfl
theorem jdz {β:Type} : ∀ (K:Ty) (s:den K) (y:β) (l:List (den K×β)),jn9 K s y l=q0x K s y l
 | .str,s,y,l=>j16 s y l
 | .int k,s,y,l=>rfl
 | .prod a b,s,y,l=>rfl
 | .bool,s,y,l=>rfl
 | .lst e,s,y,l=>rfl
 | .any,s,y,l=>rfl
def qyt:KL→Ty
 | .s=>.str
 | .i k=>.int k
def q2g:List KL→Ty
 | []=>.bool
 | [l]=>qyt l
 | l::l'::ls=>.prod (qyt l) (q2g (l'::ls))
def j6m:(l:KL)→den (qyt l)→Value
 | .s,(x:Yy)=>.string (ba x)
 | .i k,(n:Int)=>.int k n
def q5p:(ls:List KL)→den (q2g ls)→List Value
 | [],_=>[]
 | [l],x=>[j6m l x]
 | l::l'::ls,(x:den (qyt l)×den (q2g (l'::ls)))=>j6m l x.1::q5p (l'::ls) x.2
theorem j2k : ∀ (l:KL) (x:den (qyt l)),q01 (qyt l) x = [.v (j6m l x)]
 | .s,_=>rfl
 | .i _,_=>rfl
theorem qhb : ∀ (ls:List KL),0<ls.length→∀ x:den (q2g ls),q01 (q2g ls) x=(q5p ls x).map .v
 | [],h,_=>absurd h (by decide)
 | [l],_,x=>j2k l x
 | l::l'::ls,_,(x:den (qyt l)×den (q2g (l'::ls)))=>by
  show q01 (qyt l) x.1++q01 (q2g (l'::ls)) x.2=_
  rw [j2k,qhb (l'::ls) (Nat.succ_pos _) x.2];rfl
theorem ok_1 : ∀ (l:KL) (x:den (qyt l)),okK l (j6m l x)=true
 | .s,_=>rfl
 | .i _,_=>by simp [okK,j6m]
theorem jn1 : ∀ (ls:List KL) (x:den (q2g ls)),q7a ls (q5p ls x)=true
 | [],_=>rfl
 | [l],x=>(Bool.and_true _).trans (ok_1 l x)
 | l::l'::ls,(x:den (qyt l)×den (q2g (l'::ls)))=>by
  show (okK l (j6m l x.1)&&q7a (l'::ls) (q5p (l'::ls) x.2))=true
  rw [ok_1,jn1 (l'::ls) x.2];rfl
theorem jlc (ls:List KL) (x:den (q2g ls)):(q5p ls x).length=ls.length:=q62 (jn1 ls x)
theorem eq_1 : ∀ (l:KL) (x y:den (qyt l)),eqK (j6m l x) (j6m l y)=eqT (qyt l) x y
 | .s,x,y=>j86 x y
 | .i _,x,y=>rfl
theorem eq_K : ∀ (ls:List KL),0<ls.length→∀ x y:den (q2g ls),qky (q5p ls x) (q5p ls y)=eqT (q2g ls) x y
 | [],h,_,_=>absurd h (by decide)
 | [l],_,x,y=>by show (eqK (j6m l x) (j6m l y)&&true)=_;rw [Bool.and_true];exact eq_1 l x y
 | l::l'::ls,_,(x:den (qyt l)×den (q2g (l'::ls))),(y:den (qyt l)×den (q2g (l'::ls)))=>by
  show (eqK (j6m l x.1) (j6m l y.1)&&qky (q5p (l'::ls) x.2) (q5p (l'::ls) y.2))=(eqT (qyt l) x.1 y.1&&eqT (q2g (l'::ls)) x.2 y.2)
  rw [eq_1,eq_K (l'::ls) (Nat.succ_pos _)]
theorem qu0 : ∀ (us:List Value) (r:List Dat),qzf us.length (us.map .v++r)=some us
 | [],_=>rfl
 | u::us,r=>by
  show (qzf us.length (us.map .v++r)).map (u :: ·)=_
  rw [qu0 us r];rfl
theorem qdh (ls:List KL) (h:0<ls.length) (V:Ty) (s:den (q2g ls)) (y:den V):q01 (.prod (q2g ls) V) ((s,y):den (q2g ls)×den V)=(q5p ls s).map .v++q01 V y:=by
 show q01 (q2g ls) s++q01 V y=_
 rw [qhb ls h]
theorem j9w (ls:List KL) (h:0<ls.length) (V:Ty) (s k:den (q2g ls)) (y:den V):qms ls (q5p ls s) (q01 (.prod (q2g ls) V) ((k,y):den (q2g ls)×den V))=some (eqT (q2g ls) s k):=by
 unfold qms
 rw [qdh ls h]
 have:=qu0 (q5p ls k) (q01 V y)
 rw [jlc] at this
 rw [this]
 simp only [jn1,if_true,eq_K ls h]
theorem qzw {ls:List KL} (h:0<ls.length) {V:Ty} (s:den (q2g ls)) : ∀ (xs:List (den (q2g ls)×den V)),∃ q,findD ls (q5p ls s) (xs.map (q01 (.prod (q2g ls) V)))=some q∧q.map (List.drop ls.length)=(q02 (q2g ls) s xs).map (q01 V)
 | []=>⟨none,rfl,rfl⟩
 | (k,v)::xs=>by
  show ∃ q,(match qms ls (q5p ls s) (q01 (.prod (q2g ls) V) ((k,v):den (q2g ls)×den V)) with|some true=>some (some (q01 (.prod (q2g ls) V) ((k,v):den (q2g ls)×den V)))|some false=>findD ls (q5p ls s) (xs.map (q01 (.prod (q2g ls) V)))|none=>none)=some q∧q.map (List.drop ls.length)=(bif eqT (q2g ls) s k then some v else q02 (q2g ls) s xs).map (q01 V)
  rw [j9w ls h]
  cases eqT (q2g ls) s k with
  | true =>
   refine ⟨_,rfl,?_⟩
   simp only [cond_true,Option.map_some,Option.some.injEq]
   rw [qdh ls h]
   have:(List.map Dat.v (q5p ls k)).length=ls.length:=by rw [List.length_map,jlc]
   rw [← this,List.drop_left]
  | false=>exact qzw h s xs
theorem j6s {ls:List KL} (h:0<ls.length) {V:Ty} (s:den (q2g ls)) (y:den V) : ∀ (xs:List (den (q2g ls)×den V)),jkq ls (q5p ls s) (q01 V y) (xs.map (q01 (.prod (q2g ls) V)))=some ((q0x (q2g ls) s y xs).map (q01 (.prod (q2g ls) V)))
 | []=>by
  show some [(q5p ls s).map Dat.v++q01 V y]=some [q01 (.prod (q2g ls) V) ((s,y):den (q2g ls)×den V)]
  rw [qdh ls h]
 | (k,v)::xs=>by
  show (match qms ls (q5p ls s) (q01 (.prod (q2g ls) V) ((k,v):den (q2g ls)×den V)) with|some true=>some (((q5p ls s).map Dat.v++q01 V y)::xs.map (q01 (.prod (q2g ls) V)))|some false=>(jkq ls (q5p ls s) (q01 V y) (xs.map (q01 (.prod (q2g ls) V)))).map (q01 (.prod (q2g ls) V) ((k,v):den (q2g ls)×den V) :: ·)|none=>none)=some ((bif eqT (q2g ls) s k then (s,y)::xs else (k,v)::q0x (q2g ls) s y xs).map (q01 (.prod (q2g ls) V)))
  rw [j9w ls h]
  cases eqT (q2g ls) s k with
  | true =>
   simp only [cond_true,List.map_cons]
   rw [qdh ls h]
  | false =>
   simp only [cond_false,List.map_cons]
   rw [j6s h s y xs];rfl
def jev (K:Ty) (ka:Bool):TD→Option (den K)
 | .one (.c c)=>bif ka then none else qma K [c]
 | .one (.agg cs)=>bif ka then qma K cs else none
 | _=>none
theorem j18 {ls:List KL} (h:0<ls.length) {ka:Bool} (hka:ka=false→ls.length=1) {i:TD} {s:den (q2g ls)} (hs:jev (q2g ls) ka i=some s):jn7 (eD i)=some (ka,q5p ls s):=by
 have hv : ∀ us:List Value,j6n (us.map fun u=>C.d (.v u))=some us:=fun us=>by
  induction us with
  | nil=>rfl
  | cons u us ih=>show (j6n _).map (u :: ·)=_;rw [ih];rfl
 unfold jev at hs
 split at hs
 ·rename_i c
  cases ka with
  | true=>cases hs
  | false =>
   simp only [cond_false] at hs
   have h1:=q6c hs
   rw [qhb ls h] at h1
   have h2:=jlc ls s
   rw [hka rfl] at h2
   match hvs:q5p ls s,h2 with
   | [v],_ =>
    rw [hvs] at h1
    have h3:eC c = .d (.v v):=(List.cons.inj h1).1
    show jn7 (.one (.c (eC c)))=_
    rw [h3];rfl
 ·rename_i cs
  cases ka with
  | false=>cases hs
  | true =>
   simp only [cond_true] at hs
   have h1:=q6c hs
   rw [qhb ls h,List.map_map] at h1
   show (j6n (cs.map eC)).map _=_
   rw [h1,show (C.d ∘ Dat.v)=fun u=>C.d (.v u) from rfl,hv];rfl
 ·cases hs
theorem qv6 {k:TypeId} {ls:List KL} (h:j5c P k=some (false,ls)):ls.length=1:=by
 unfold j5c at h
 split at h
 ·simp only [Option.some.injEq,Prod.mk.injEq] at h;rw [← h.2];rfl
 ·simp only [Option.some.injEq,Prod.mk.injEq] at h;rw [← h.2];rfl
 ·obtain ⟨l,_,h2⟩:=Option.map_eq_some_iff.1 h
  simp only [Prod.mk.injEq] at h2
  cases h2.1
 ·cases h
def qee (P:Program) (dst:Option Nat) (t:TypeId) (σ:TSt) (k:TRes→Option α):Option α:=match dst,jid P t with
 | some i,some (T,el,ls)=>match lk σ.boxes i,tyE P el with
  | none,some V=>if i<1000000∧width V=mVw T∧width (q2g ls)=ls.length then k { val:=.one (.c (.mv i)),box:=some (i,(T,[.d (.lst (.prod (q2g ls) V)) ([]:List (den (q2g ls)×den V))])) } else none
  | _,_=>none
 | _,_=>none
theorem qpo {dst:Option Nat} {t:TypeId} {k:TRes→Option α} {r:α} (h:qee P dst t σ k=some r) : ∃ y,k y=some r∧Sim (q3s P dst t (eS σ).box) y:=by
 unfold qee at h
 split at h
 case h_2=>cases h
 rename_i i T el ls hT
 split at h
 case h_2=>cases h
 rename_i V hb hV
 split at h
 case isFalse=>cases h
 rename_i hc
 refine ⟨_,h,Sim.tr ?_⟩
 simp only [q3s,hT,qh2 hb,hc.1,if_true,← hc.2.1,← hc.2.2]
 rfl
def tvD (T:Nat) (V:Ty) (y:den V):TD1:=match mVa T with
 | true=>.agg (qi4 V y)
 | false=>.c (.d V y)
def jhl (ok:Bool) (x:TD1) (b:Bool):TD:=match ok with
 | true=>.tup [x,.c (.d .bool b)]
 | false=>.one x
def jhp:Value→Bool
 | .agg _=>true
 | _=>false
def jow:TD1→Bool
 | .agg _=>true
 | _=>false
def qk2 (P:Program) (t:TypeId) (x i:TD) (ok:Bool) (σ:TSt) (k:TRes→Option α):Option α:=match jid P t,x with
 | some (T,el,ls),.one (.c (.mv β))=>match lk σ.boxes β,jpf P el with
  | some (T',[.d (.lst (.prod K V)) xs]),some z=>if T'=T∧jhp z=mVa T∧K=q2g ls then
    match qj1 z.cells.toList with
    | some zs=>match jev K (mKa T) i with
     | some s=>match qma V zs with
      | some z0=>j3e (j8o K s (xs:List (den K×den V))) z0 fun y b=>k { val:=jhl ok (tvD T V y) b }
      | none=>bif jhp z then qkl (j8o K s (xs:List (den K×den V))) (fun y=>k { val:=jhl ok (tvD T V y) true }) (k { val:=jhl ok (.agg zs) false }) else none
     | none=>none
    | none=>none
   else none
  | _,_=>none
 | _,_=>none
theorem qu1 {t:TypeId} {x i:TD} {ok:Bool} {k:TRes→Option α} {r:α} (h:qk2 P t x i ok σ k=some r) : ∃ y,k y=some r∧Sim (q2i P t (eD x) (eD i) ok (eS σ).box) y:=by
 unfold qk2 at h
 split at h
 case h_2=>cases h
 rename_i T el ls β hT
 split at h
 case h_2=>cases h
 rename_i T' K V xs z hb hz
 split at h
 case isFalse=>cases h
 rename_i hc
 obtain ⟨rfl,hag,rfl⟩:=hc
 split at h
 case h_2=>cases h
 rename_i zs hzs
 split at h
 case h_2=>cases h
 rename_i s hs
 rw [jad] at h
 obtain ⟨kt,ka,vw,va,_,hkl,_,_,_,_,hka,_,_,hl0⟩:=qik hT
 have hkey:=j18 hl0 (fun h0=>by rw [hka] at h0;subst h0;exact qv6 hkl) hs
 obtain ⟨q,hfd,hq⟩:=qzw hl0 s (xs:List (den (q2g ls)×den V))
 have hbx:(eS σ).box β=some (T',[.d (.lst (width (.prod (q2g ls) V)) ((xs:List (den (q2g ls)×den V)).map (q01 (.prod (q2g ls) V))))]):=q4l hb
 have hd : ∀ (x:D1) (y:TD1) (b:Bool),x=e1 y→okD ok x b=eD (jhl ok y b):=fun x y b hxy=>by
  subst hxy;cases ok<;>rfl
 have fnd : ∀ y,q02 (q2g ls) s (xs:List (den (q2g ls)×den V))=some y→q2i P t (.one (.c (.mv β))) (eD i) ok (eS σ).box=some (q8v True { val:=jhl ok (tvD T' V y) true }):=fun y hm=>by
  rw [hm] at hq
  obtain ⟨r0,rfl,hr0⟩:=Option.map_eq_some_iff.1 hq
  simp only [q2i,hT,hbx,hz,hkey,jn1,and_self,if_true,hfd]
  rw [hd (vD T' (r0.drop ls.length)) (tvD T' V y) true ?_]
  ·rfl
  ·rw [hr0]
   show vD T' (q01 V y)=_
   unfold vD tvD
   cases mVa T' with
   | true=>show D1.agg _ = .agg _;rw [q5d]
   | false=>rfl
 have nfd : ∀ zt:TD1,of1 z=e1 zt→q02 (q2g ls) s (xs:List (den (q2g ls)×den V))=none→q2i P t (.one (.c (.mv β))) (eD i) ok (eS σ).box=some (q8v True { val:=jhl ok zt false }):=fun zt hzt hm=>by
  rw [hm] at hq
  have hq0:q=none:=by simpa using hq
  subst hq0
  simp only [q2i,hT,hbx,hz,hkey,jn1,and_self,if_true,hfd]
  rw [hd (of1 z) zt false hzt]
  rfl
 split at h
 ·rename_i z0 hz0
  refine ⟨_,h,Sim.tr ?_⟩
  show q2i P t (.one (.c (.mv β))) (eD i) ok (eS σ).box=_
  cases hm:q02 (q2g ls) s (xs:List (den (q2g ls)×den V)) with
  | some y=>exact fnd y hm
  | none =>
   simp only [Option.getD_none,Option.isSome_none]
   refine nfd (tvD T' V z0) ?_ hm
   have h1:=q6c hz0
   rw [q4n hzs] at h1
   unfold tvD
   rw [← hag]
   cases z with
   | agg cs =>
    show D1.agg _ = .agg _
    rw [q5d,← h1];rfl
   | _ =>
    have h2 : [_]=q01 V z0:=jiz (l:=[_]) h1
    show D1.c _ = .c (.d ((q01 V z0).headD _))
    rw [← h2];rfl
 ·cases z with
  | agg cs =>
   replace h:qkl (q02 (q2g ls) s (xs:List (den (q2g ls)×den V))) (fun y=>k { val:=jhl ok (tvD T' V y) true }) (k { val:=jhl ok (.agg zs) false })=some r:=h
   unfold qkl at h
   split at h
   ·rename_i y hy
    exact ⟨_,h,Sim.tr (fnd y hy)⟩
   ·rename_i hn
    refine ⟨_,h,Sim.tr (nfd (.agg zs) ?_ hn)⟩
    show D1.agg (cs.toList.map qk0) = .agg (zs.map eC)
    rw [q4n hzs];rfl
  | _=>cases h
def qrl (f:Nat):IV:=⟨.func (.func f) #[] #[],rfl⟩
def fnD:TC→TC
 | .fn f []=>.d .any (qrl f)
 | c=>c
theorem jpz (c:TC):eC (fnD c)=eC c:=by
 unfold fnD
 split
 ·rfl
 ·rfl
theorem jk3 (cs:List TC):(cs.map fnD).map eC=cs.map eC:=by
 rw [List.map_map];exact List.map_congr_left fun c _=>jpz c
def qc8 (P:Program) (t:TypeId) (m i x:TD) (σ:TSt) (k:TRes→Option α):Option α:=match jid P t,m with
 | some (T,_,ls),.one (.c (.mv β))=>match lk σ.boxes β,x with
  | some (T',[.d (.lst (.prod K V)) xs]),.one y=>if T'=T∧(q5t y).all okT=true∧(q5t y).length=mVw T∧jow y=mVa T∧K=q2g ls then
    match qma V ((q5t y).map fnD),jev K (mKa T) i with
    | some v,some s=>k { val:=.one (.c .undef),box:=some (β,(T,[.d (.lst (.prod K V)) (jn9 K s v (xs:List (den K×den V)))])) }
    | _,_=>none
   else none
  | _,_=>none
 | _,_=>none
theorem qfu {t:TypeId} {m i x:TD} {k:TRes→Option α} {r:α} (h:qc8 P t m i x σ k=some r) : ∃ y,k y=some r∧Sim (q2s P t (eD m) (eD i) (eD x) (eS σ).box) y:=by
 unfold qc8 at h
 split at h
 case h_2=>cases h
 rename_i T el ls β hT
 split at h
 case h_2=>cases h
 rename_i T' K V xs y hb
 split at h
 case isFalse=>cases h
 rename_i hc
 obtain ⟨rfl,hok,hlen,hag,rfl⟩:=hc
 split at h
 case h_2=>cases h
 rename_i v s hv hs
 rw [jdz] at h
 refine ⟨_,h,Sim.tr ?_⟩
 obtain ⟨kt,ka,vw,va,_,hkl,_,_,_,_,hka,_,_,hl0⟩:=qik hT
 have hkey:=j18 hl0 (fun h0=>by rw [hka] at h0;subst h0;exact qv6 hkl) hs
 have hbx:(eS σ).box β=some (T',[.d (.lst (width (.prod (q2g ls) V)) ((xs:List (den (q2g ls)×den V)).map (q01 (.prod (q2g ls) V))))]):=q4l hb
 show q2s P t (.one (.c (.mv β))) (eD i) (.one (e1 y)) (eS σ).box=_
 have h1:(q0h (e1 y)).all okC=true:=by rw [q2a];exact qr2 hok
 have h2:(q0h (e1 y)).length=mVw T':=by rw [q2a,List.length_map];exact hlen
 have h3:ji9 (e1 y)=mVa T':=by rw [← hag];cases y<;>rfl
 have h4:(q0h (e1 y)).mapM qgm=some (q01 V v):=by rw [q2a,← jk3,q6c hv,q75]
 generalize e1 y=y1 at h1 h2 h3 h4
 have hput:=j6s hl0 s v (xs:List (den (q2g ls)×den V))
 simp only [q2s,hT,hbx,hkey,h1,h2,h3,jn1,and_self,if_true,h4,hput,Option.map_some]
 rfl
def rowD:TD→Bool
 | .one (.c (.row _ _))=>true
 | _=>false
def tev (P:Program) (o:Oper) (σ:TSt) (k:TRes→Option α):Option α:=match o.op with
 | .move x=>w1 (q0n σ x) fun y=>k { val:=y }
 | .assign x=>w1 (q0n σ x) fun y=>k { val:=y }
 | .pick c x y=>w1 (q0n σ c) fun c=>w1 (q0n σ x) fun x=>w1 (q0n σ y) fun y=>qzk c x y k
 | .alloc t=>qq7 P o.dst t σ k
 | .box t x=>w1 (q0n σ x) fun x=>jdd o.dst t x σ k
 | .load t x=>w1 (q0n σ x) fun x=>qzo P t x σ k
 | .store t x y=>w1 (q0n σ x) fun x=>w1 (q0n σ y) fun y=>qpk P t x y σ k
 | .fieldAddr t x f=>w1 (q0n σ x) fun x=>q9q P t x f k
 | .field t x f=>w1 (q0n σ x) fun x=>qrd P t x f k
 | .index t x i=>w1 (q0n σ x) fun x=>w1 (q0n σ i) fun i=>qr7 P t x i k
 | .indexAddr t x i=>w1 (q0n σ x) fun x=>w1 (q0n σ i) fun i=>q8w P t x i σ k
 | .extract x i=>w1 (q0n σ x) fun x=>qf9 x i k
 | .build t ps=>qpx P t ps σ k
 | .buildSlice t n ps=>q85 P o.dst t n ps σ k
 | .binOp op t x y _=>bif qbr y then w1 (q0n σ x) fun x=>qx8 P op t x k else w1 (q0n σ x) fun x=>w1 (q0n σ y) fun y=>jax P op t x y k
 | .makeInterface t x=>w1 (q0n σ x) fun x=>qpw P t x k
 | .unOp op _ x=>w1 (q0n σ x) fun x=>jja op x k
 | .convert s d x=>w1 (q0n σ x) fun x=>bif qoq P s d then qeu P o.dst s d x σ k else qxu P s d x k
 | .slice t x lo hi none=>w1 (q0n σ x) fun x=>w0 σ lo fun lo=>w0 σ hi fun hi=>bif rowD x then qbh P t x lo hi σ k else qqa P t x lo hi k
 | .nilCheck x=>w1 (q0n σ x) fun x=>jc2 x k
 | .call ⟨.builtin .len,⟨[x]⟩,⟨[t]⟩⟩=>w1 (q0n σ x) fun x=>j7w P t x σ k
 | .call ⟨.builtin .append,⟨[s,x]⟩,⟨[t,t']⟩⟩=>if t=t' then w1 (q0n σ s) fun s=>w1 (q0n σ x) fun x=>qir P o.dst t s x σ k else none
 | .makeSlice t x y=>bif qg5 x y then w1 (q0n σ x) fun x=>qz6 P o.dst t x σ k else none
 | .call ⟨.builtin .max,⟨[x,y]⟩,⟨[_,_]⟩⟩=>w1 (q0n σ x) fun x=>w1 (q0n σ y) fun y=>jeb max x y k
 | .call ⟨.builtin .min,⟨[x,y]⟩,⟨[_,_]⟩⟩=>w1 (q0n σ x) fun x=>w1 (q0n σ y) fun y=>jeb min x y k
 | .makeFunc (.func f) ⟨[]⟩ cs=>jo7 f (q42 σ cs.toList) k
 | .makeMap t none=>qee P o.dst t σ k
 | .lookup t m i ok=>w1 (q0n σ m) fun m=>w1 (q0n σ i) fun i=>qk2 P t m i ok σ k
 | .mapUpdate t m i x=>w1 (q0n σ m) fun m=>w1 (q0n σ i) fun i=>w1 (q0n σ x) fun x=>qc8 P t m i x σ k
 | .insert t m i x=>w1 (q0n σ m) fun m=>w1 (q0n σ i) fun i=>w1 (q0n σ x) fun x=>qc8 P t m i x σ k
 | _=>none
theorem j02 {o:Oper} {k:TRes→Option α} {r:α} (h:tev P o σ k=some r) : ∃ y,k y=some r∧Sim (qbk P o (opnd (eS σ)) (eS σ).box (eS σ).row) y:=by
 unfold tev at h
 unfold qbk
 split at h
 ·rename_i ho;rw [ho]
  obtain ⟨x1,e1',h⟩:=q0f h
  exact ⟨_,h,Sim.tr (by show some _=_;rw [q07 e1'];rfl)⟩
 ·rename_i ho;rw [ho]
  obtain ⟨x1,e1',h⟩:=q0f h
  exact ⟨_,h,Sim.tr (by show some _=_;rw [q07 e1'];rfl)⟩
 ·rename_i ho;rw [ho]
  obtain ⟨x1,e1',h⟩:=q0f h
  obtain ⟨x2,e2',h⟩:=q0f h
  obtain ⟨x3,e3',h⟩:=q0f h
  show ∃ y,_∧Sim (qon _ _ _) y
  rw [q07 e1',q07 e2',q07 e3'];exact j46 h
 ·rename_i ho;rw [ho]
  exact qyf h
 ·rename_i ho;rw [ho]
  obtain ⟨x1,e1',h⟩:=q0f h
  show ∃ y,_∧Sim (qkr _ _ _ _) y
  rw [q07 e1'];exact j90 h
 ·rename_i ho;rw [ho]
  obtain ⟨x1,e1',h⟩:=q0f h
  show ∃ y,_∧Sim (q74 _ _ _ _ _) y
  rw [q07 e1'];exact j50 h
 ·rename_i ho;rw [ho]
  obtain ⟨x1,e1',h⟩:=q0f h
  obtain ⟨x2,e2',h⟩:=q0f h
  show ∃ y,_∧Sim (q3a _ _ _ _ _ _) y
  rw [q07 e1',q07 e2'];exact qys h
 ·rename_i ho;rw [ho]
  obtain ⟨x1,e1',h⟩:=q0f h
  show ∃ y,_∧Sim (q1z _ _ _ _) y
  rw [q07 e1'];exact qji h
 ·rename_i ho;rw [ho]
  obtain ⟨x1,e1',h⟩:=q0f h
  show ∃ y,_∧Sim (q97 _ _ _ _) y
  rw [q07 e1'];exact qxb h
 ·rename_i ho;rw [ho]
  obtain ⟨x1,e1',h⟩:=q0f h
  obtain ⟨x2,e2',h⟩:=q0f h
  show ∃ y,_∧Sim (q4i _ _ _ _) y
  rw [q07 e1',q07 e2'];exact qxg h
 ·rename_i ho;rw [ho]
  obtain ⟨x1,e1',h⟩:=q0f h
  obtain ⟨x2,e2',h⟩:=q0f h
  show ∃ y,_∧Sim (q0q _ _ _ _ _) y
  rw [q07 e1',q07 e2'];exact qip h
 ·rename_i ho;rw [ho]
  obtain ⟨x1,e1',h⟩:=q0f h
  show ∃ y,_∧Sim (q5e _ _) y
  rw [q07 e1'];exact qpa h
 ·rename_i ho;rw [ho]
  exact qxt h
 ·rename_i ho;rw [ho]
  exact qgo h
 ·rename_i ho;rw [ho]
  show ∃ y,_∧Sim (bif qbr _ then qgh _ _ _ _ else q9a _ _ _ _ _) y
  cases hn:qbr _ with
  | true =>
   rw [hn] at h
   obtain ⟨x1,e1',h⟩:=q0f h
   rw [q07 e1'];exact j48 h
  | false =>
   rw [hn] at h
   obtain ⟨x1,e1',h⟩:=q0f h
   obtain ⟨x2,e2',h⟩:=q0f h
   rw [q07 e1',q07 e2'];exact jcb h
 ·rename_i ho;rw [ho]
  obtain ⟨x1,e1',h⟩:=q0f h
  show ∃ y,_∧Sim (qbn _ _ _) y
  rw [q07 e1'];exact qxs h
 ·rename_i ho;rw [ho]
  obtain ⟨x1,e1',h⟩:=q0f h
  show ∃ y,_∧Sim (jms _ _) y
  rw [q07 e1'];exact jg0 h
 ·rename_i ho;rw [ho]
  obtain ⟨x1,e1',h⟩:=q0f h
  show ∃ y,_∧Sim (match qaw _ _ _ _ with|some r=>some r|none=>q2y _ _ _ _ _ _) y
  rw [q07 e1']
  cases hb:qoq P _ _ with
  | true =>
   rw [hb] at h
   rw [qwl hb]
   exact qqb h
  | false =>
   rw [hb] at h
   obtain ⟨y,h1,c,h2,h3⟩:=j4p (P:=P) h
   rw [h3]
   exact ⟨y,h1,c,h2,rfl⟩
 ·rename_i ho;rw [ho]
  obtain ⟨x1,e1',h⟩:=q0f h
  obtain ⟨x2,e2',h⟩:=jaw h
  obtain ⟨x3,e3',h⟩:=jaw h
  show ∃ y,_∧Sim (match q5c _ _ _ _ _ with|some r=>some r|none=>q2p _ _ _ _ _ _) y
  rw [q07 e1',e2',e3']
  cases hb:rowD x1 with
  | true =>
   rw [hb] at h
   obtain ⟨y,h1,h2,h3⟩:=qmp (P:=P) h
   rw [h2]
   exact ⟨y,h1,h3⟩
  | false =>
   rw [hb] at h
   obtain ⟨y,h1,c,h2,h3⟩:=qzc (P:=P) h
   rw [h3]
   exact ⟨y,h1,c,h2,rfl⟩
 ·rename_i ho;rw [ho]
  obtain ⟨x1,e1',h⟩:=q0f h
  show ∃ y,_∧Sim (j7c _) y
  rw [q07 e1'];exact j9j h
 ·rename_i ho;rw [ho]
  obtain ⟨x1,e1',h⟩:=q0f h
  show ∃ y,_∧Sim (qeh _ _ _ _) y
  rw [q07 e1'];exact j6w h
 ·rename_i ho;rw [ho]
  split at h
  case isFalse=>cases h
  rename_i ht
  obtain ⟨x1,e1',h⟩:=q0f h
  obtain ⟨x2,e2',h⟩:=q0f h
  show ∃ y,_∧Sim (if _=_ then q2o _ _ _ _ _ _ else none) y
  rw [if_pos ht,q07 e1',q07 e2'];exact qv0 h
 ·rename_i ho;rw [ho]
  cases hs:qg5 _ _ with
  | false=>rw [hs] at h;cases h
  | true =>
   rw [hs] at h
   obtain ⟨x1,e1',h⟩:=q0f h
   show ∃ y,_∧Sim (bif qg5 _ _ then qdm _ _ _ _ _ else none) y
   rw [hs,q07 e1'];exact j63 h
 ·rename_i ho;rw [ho]
  obtain ⟨x1,e1',h⟩:=q0f h
  obtain ⟨x2,e2',h⟩:=q0f h
  show ∃ y,_∧Sim (jgp _ _ _) y
  rw [q07 e1',q07 e2'];exact j28 h
 ·rename_i ho;rw [ho]
  obtain ⟨x1,e1',h⟩:=q0f h
  obtain ⟨x2,e2',h⟩:=q0f h
  show ∃ y,_∧Sim (jgp _ _ _) y
  rw [q07 e1',q07 e2'];exact j28 h
 ·rename_i f cs ho;rw [ho]
  unfold jo7 at h
  split at h
  case h_2=>cases h
  rename_i ds hds
  split at h
  case h_2=>cases h
  rename_i c cs' hc
  refine ⟨_,h,Sim.tr ?_⟩
  show jnd f (cs.toList.map (opnd (eS σ)))=_
  rw [qcl hds]
  unfold jnd
  rw [qv7 hc]
  rfl
 ·rename_i ho;rw [ho]
  exact qpo h
 ·rename_i ho;rw [ho]
  obtain ⟨x1,e1',h⟩:=q0f h
  obtain ⟨x2,e2',h⟩:=q0f h
  show ∃ y,_∧Sim (q2i _ _ _ _ _ _) y
  rw [q07 e1',q07 e2'];exact qu1 h
 ·rename_i ho;rw [ho]
  obtain ⟨x1,e1',h⟩:=q0f h
  obtain ⟨x2,e2',h⟩:=q0f h
  obtain ⟨x3,e3',h⟩:=q0f h
  show ∃ y,_∧Sim (q2s _ _ _ _ _ _) y
  rw [q07 e1',q07 e2',q07 e3'];exact qfu h
 ·rename_i ho;rw [ho]
  obtain ⟨x1,e1',h⟩:=q0f h
  obtain ⟨x2,e2',h⟩:=q0f h
  obtain ⟨x3,e3',h⟩:=q0f h
  show ∃ y,_∧Sim (q2s _ _ _ _ _ _) y
  rw [q07 e1',q07 e2',q07 e3'];exact qfu h
 ·cases h
end Go.Proofs.YtapfankgdkdkgaaGreatDoor.AM
