
import Derived.Test.YtapfankgdkdkgaaGreatDoorMc4
namespace Go.Proofs.YtapfankgdkdkgaaGreatDoor.AM
open Go.RowKit
set_option linter.unusedVariables false
set_option linter.unusedSimpArgs false
variable {α:Type} {P:Program} {σ:TSt}
def jgu (d:Int):Option TD→Option Int
 | none=>some d
 | some (.one (.c (.d (.int _) n)))=>some n
 | some _=>none
theorem qd2 {d n:Int} {x:Option TD} (h:jgu d x=some n):bnd d (x.map eD)=some n:=by
 unfold jgu at h
 split at h
 ·simp only [Option.some.injEq] at h;subst h;rfl
 ·simp only [Option.some.injEq] at h;subst h;rfl
 ·cases h
def qqp (P:Program) (t:TypeId) (x:TD) (lo hi:Option TD) (k:TRes→Option α):Option α:=match P.underlying t,x with
 | some .string,.one (.c (.d .str s))=>match jgu 0 lo,jgu (List.length s) hi with
  | some l,some h=>(q1x s l h).bind fun y=>k { val:=.one (.c (.d .str y)) }
  | _,_=>none
 | some (.slice el),.one (.c (.d (.lst e) xs))=>match jgu 0 lo,jgu (List.length xs) hi with
  | some l,some h=>if tsz P el=some (width e) then (q1x xs l h).bind fun y=>k { val:=.one (.c (.d (.lst e) y)) } else none
  | _,_=>none
 | _,_=>none
theorem qkr {β:Type} {l:List β} {a b:Int} {y:List β} (h:q1x l a b=some y):(0≤a∧a≤b∧b≤l.length)∧y=(l.drop a.toNat).take (b.toNat - a.toNat):=by
 unfold q1x at h
 split at h
 case isFalse=>cases h
 rename_i hc
 simp only [Option.some.injEq] at h
 exact ⟨hc,h.symm⟩
theorem q29 (s:List UInt8):(ba s).size=s.length:=by simp [ba,ByteArray.size]
theorem qcq (s:List UInt8) (a b:Nat):(ba s).extract a b=ba ((s.drop a).take (b - a)):=by
 unfold ba
 apply ByteArray.ext
 rw [ByteArray.data_extract]
 apply Array.toList_inj.1
 rw [Array.toList_extract,List.extract_eq_take_drop]
theorem qzo {t:TypeId} {x:TD} {lo hi:Option TD} {k:TRes→Option α} {r:α} (h:qqp P t x lo hi k=some r) : ∃ y,k y=some r∧Sim (q49 P t (eD x) (lo.map eD) (hi.map eD)) y:=by
 unfold qqp at h
 split at h
 ·rename_i s hu
  split at h
  case h_2=>cases h
  rename_i l hh hl hhh
  obtain ⟨y,hy,h⟩:=Option.bind_eq_some_iff.1 h
  obtain ⟨h1,rfl⟩:=qkr hy
  refine ⟨_,h,_,h1,?_⟩
  simp only [q49,eD,e1,eC,q02,List.headD_cons,hu,qd2 hl,qcq,q29,qd2 hhh]
  rfl
 ·rename_i el e xs hu
  split at h
  case h_2=>cases h
  rename_i l hh hl hhh
  split at h
  case isFalse=>cases h
  rename_i hsz
  obtain ⟨y,hy,h⟩:=Option.bind_eq_some_iff.1 h
  obtain ⟨h1,rfl⟩:=qkr hy
  refine ⟨_,h,_,h1,?_⟩
  simp only [q49,eD,e1,eC,q02,List.headD_cons,hu,qd2 hl,hsz,if_true,List.length_map,← List.map_drop,← List.map_take,qd2 hhh]
  rfl
 ·cases h
def qa0 (P:Program) (t:TypeId) (x:TD) (lo hi:Option TD) (σ:TSt) (k:TRes→Option α):Option α:=match P.underlying t,x with
 | some (.slice el),.one (.c (.row tt g))=>match lk σ.rows tt with
  | some r=>match jgu 0 lo,jgu (List.length r.xs) hi with
   | some l,some h=>if r.gen=g∧tsz P el=some (width r.e) then (q1x r.xs l h).bind fun y=>k { val:=.one (.c (.d (.lst r.e) y)),row:=some (tt,{ r with wr:=false }) } else none
   | _,_=>none
  | none=>none
 | _,_=>none
theorem qyx {t:TypeId} {tt g:Nat} {lo hi:Option D} : q49 P t (.one (.c (.row tt g))) lo hi=none:=by
 unfold q49
 split
 ·rename_i h;cases h
 ·rename_i h;cases h
 ·rfl
theorem qmc {t:TypeId} {x:TD} {lo hi:Option TD} {k:TRes→Option α} {r:α} (h:qa0 P t x lo hi σ k=some r) : ∃ y,k y=some r∧q49 P t (eD x) (lo.map eD) (hi.map eD)=none∧Sim (q22 P t (eD x) (lo.map eD) (hi.map eD) (eS σ).row) y:=by
 unfold qa0 at h
 split at h
 case h_2=>cases h
 rename_i el tt g hu
 split at h
 case h_2=>cases h
 rename_i r' hr
 split at h
 case h_2=>cases h
 rename_i l hh hl hhh
 split at h
 case isFalse=>cases h
 rename_i hg
 obtain ⟨y,hy,h⟩:=Option.bind_eq_some_iff.1 h
 obtain ⟨h1,rfl⟩:=qkr hy
 refine ⟨_,h,qyx,_,h1,?_⟩
 have hlen:(eR r').xs.length=r'.xs.length:=by simp [eR]
 obtain ⟨rfl,hsz⟩:=hg
 have hg':(eR r').gen=r'.gen∧tsz P el=some (eR r').sz:=⟨rfl,hsz⟩
 simp only [q22,eD,e1,eC,hu,q23 hr,qd2 hl,hlen,qd2 hhh]
 rw [if_pos hg']
 have e2:((eR r').xs.drop l.toNat).take (hh.toNat - l.toNat)=((r'.xs.drop l.toNat).take (hh.toNat - l.toNat)).map (q02 r'.e):=by simp [eR]
 rw [e2]
 rfl
def j7f (x:TD) (k:TRes→Option α):Option α:=match x with
 | .one (.c (.box β o))=>k { val:=.one (.c (.box β o)) }
 | .one (.c (.rp e o y))=>k { val:=.one (.c (.rp e o y)) }
 | .one (.c (.wp t g j o))=>k { val:=.one (.c (.wp t g j o)) }
 | .one (.c (.bp β o l n))=>k { val:=.one (.c (.bp β o l n)) }
 | _=>none
theorem jal {x:TD} {k:TRes→Option α} {r:α} (h:j7f x k=some r) : ∃ y,k y=some r∧Sim (jb7 (eD x)) y:=by
 unfold j7f at h
 split at h
 ·exact ⟨_,h,Sim.tr rfl⟩
 ·exact ⟨_,h,Sim.tr rfl⟩
 ·exact ⟨_,h,Sim.tr rfl⟩
 ·exact ⟨_,h,Sim.tr rfl⟩
 ·cases h
def j9p (P:Program) (t:TypeId) (x:TD) (σ:TSt) (k:TRes→Option α):Option α:=match P.underlying t,x with
 | some .string,.one (.c (.d .str s))=>k { val:=.one (.c (.d (.int .i64) (List.length s:Nat))) }
 | some (.slice _),.one (.c (.d (.lst _) xs))=>k { val:=.one (.c (.d (.int .i64) (List.length xs:Nat))) }
 | some (.slice _),.one (.c .nil)=>k { val:=.one (.c (.d (.int .i64) (0:Int))) }
 | some (.slice _),.one (.c (.row tt g))=>match lk σ.rows tt with
  | some r=>if r.gen=g then k { val:=.one (.c (.d (.int .i64) (List.length r.xs:Nat))) } else none
  | none=>none
 | _,_=>none
theorem jar {t:TypeId} {x:TD} {k:TRes→Option α} {r:α} (h:j9p P t x σ k=some r) : ∃ y,k y=some r∧Sim (qd9 P t (eD x) (eS σ).row) y:=by
 unfold j9p at h
 split at h
 ·rename_i s hu
  refine ⟨_,h,Sim.tr ?_⟩
  simp only [qd9,eD,e1,eC,q02,List.headD_cons,hu,q29]
  rfl
 ·rename_i el e xs hu
  refine ⟨_,h,Sim.tr ?_⟩
  simp only [qd9,eD,e1,eC,q02,List.headD_cons,hu,List.length_map]
  rfl
 ·rename_i el hu
  refine ⟨_,h,Sim.tr ?_⟩
  simp only [qd9,eD,e1,eC,hu]
  rfl
 ·rename_i el tt g hu
  split at h
  case h_2=>cases h
  rename_i r' hr
  split at h
  case isFalse=>cases h
  rename_i hg
  refine ⟨_,h,Sim.tr ?_⟩
  have hg':(eR r').gen=g:=hg
  simp only [qd9,eD,e1,eC,hu,q23 hr,hg',if_true]
  have:(eR r').xs.length=r'.xs.length:=by simp [eR]
  rw [this]
  rfl
 ·cases h
def qvu (place:Nat→Option (Nat×Nat)) (cs:List TC):List (Nat×List TC)→Option (List TC)
 | []=>some cs
 | (i,xs)::rest=>match place i with
  | some (off,size)=>if xs.length=size∧off+xs.length≤cs.length then qvu place (setAt cs off xs) rest else none
  | none=>none
def eQ (q:Nat×List TC):Nat×List C:=(q.1,q.2.map eC)
theorem qaj {place:Nat→Option (Nat×Nat)} : ∀ {qs:List (Nat×List TC)} {cs cs':List TC},qvu place cs qs=some cs'→qcz place (cs.map eC) (qs.map eQ)=some (cs'.map eC)
 | [],cs,cs',h=>by simp only [qvu,Option.some.injEq] at h;subst h;rfl
 | (i,xs)::rest,cs,cs',h=>by
  unfold qvu at h
  split at h
  case h_2=>cases h
  rename_i off size hp
  split at h
  case isFalse=>cases h
  rename_i hc
  have h3:=qaj h
  rw [q7i] at h3
  show (match place i with|some (off,size)=>if (xs.map eC).length=size∧off+(xs.map eC).length≤(cs.map eC).length then qcz place (setAt (cs.map eC) off (xs.map eC)) (rest.map eQ) else none|none=>none)=_
  rw [hp]
  simp only [List.length_map]
  rw [if_pos hc,h3]
def jbn (P:Program) (t:TypeId) (parts:List (Nat×List TC)):Option (List TC):=match qkw P t,layT P t,arrT P t with
 | some z,some pl,_=>match qkl z with
  | some cs=>if z.all Value.oneCell'=true then qvu (fun i=>nth pl i) cs parts else none
  | none=>none
 | some z,none,some n=>match qkl z with
  | some cs=>if z.all Value.oneCell'=true then qvu (fun i=>some (i*n,n)) cs parts else none
  | none=>none
 | _,_,_=>none
theorem j76 {t:TypeId} {parts:List (Nat×List TC)} {cs:List TC} (h:jbn P t parts=some cs):qj5 P t (parts.map eQ)=some (cs.map eC):=by
 unfold jbn at h
 split at h
 ·rename_i z pl hz hl
  split at h
  case h_2=>cases h
  rename_i cs0 hcs
  split at h
  case isFalse=>cases h
  rename_i ha
  have:=qaj h
  rw [q3r hcs] at this
  simp only [qj5,hz,hl,ha,if_true]
  rw [← this]
  congr 1
  funext i
  rw [q3j];simp
 ·rename_i z n hz hl hn
  split at h
  case h_2=>cases h
  rename_i cs0 hcs
  split at h
  case isFalse=>cases h
  rename_i ha
  have:=qaj h
  rw [q3r hcs] at this
  simp only [qj5,hz,hl,hn,ha,if_true]
  exact this
 ·cases h
def qiq (σ:TSt):List (Nat×Operand)→Option (List (Nat×List TC))
 | []=>some []
 | (i,x)::rest=>match q0m σ x,qiq σ rest with
  | some (.one d),some r=>if (q4q d).all okT=true then some ((i,q4q d)::r) else none
  | _,_=>none
theorem qbe : ∀ {ps:List (Nat×Operand)} {qs:List (Nat×List TC)},qiq σ ps=some qs→q73 (opnd (eS σ)) ps=some (qs.map eQ)
 | [],qs,h=>by simp only [qiq,Option.some.injEq] at h;subst h;rfl
 | (i,x)::ps,qs,h=>by
  unfold qiq at h
  split at h
  case h_2=>cases h
  rename_i d r hd hr
  split at h
  case isFalse=>cases h
  rename_i ha
  simp only [Option.some.injEq] at h
  subst h
  have h1:=q06 hd
  have h2:=qbe hr
  have ha':(q0g (e1 d)).all okC=true:=by rw [q1j];exact qr4 ha
  unfold q73
  rw [h1,h2]
  show (if (q0g (e1 d)).all okC=true then _ else _)=_
  rw [if_pos ha',q1j]
  rfl
def qqz (P:Program) (t:TypeId) (ps:Array (Nat×Operand)) (σ:TSt) (k:TRes→Option α):Option α:=match qiq σ ps.toList with
 | some qs=>match jbn P t qs with
  | some cs=>k { val:=.one (.agg cs) }
  | none=>none
 | none=>none
theorem qz5 {t:TypeId} {ps:Array (Nat×Operand)} {k:TRes→Option α} {r:α} (h:qqz P t ps σ k=some r) : ∃ y,k y=some r∧Sim (qa7 P t ps (opnd (eS σ))) y:=by
 unfold qqz at h
 split at h
 case h_2=>cases h
 rename_i qs hqs
 split at h
 case h_2=>cases h
 rename_i cs hcs
 exact ⟨_,h,Sim.tr (by simp only [qa7,qbe hqs,j76 hcs,q76,eD,e1,Option.map_none])⟩
def jl5 (f:TypeId→Option (List Ty)):List Field→Option (List Ty)
 | []=>some []
 | fd::fs=>match f fd.type,jl5 f fs with
  | some a,some b=>some (a++b)
  | _,_=>none
def jh5:List Ty→Option Ty
 | []=>none
 | [t]=>some t
 | t::t'::ts=>(jh5 (t'::ts)).map (.prod t)
def tysP (P:Program):Nat→TypeId→Option (List Ty)
 | 0,_=>none
 | n+1,t=>match P.underlying t with
  | some (.int k)=>some [.int k]
  | some .bool=>some [.bool]
  | some .string=>some [.str]
  | some (.slice e)=>((tysP P n e).bind jh5).map fun x=>[.lst x]
  | some (.struct fs)=>jl5 (tysP P n) fs.toList
  | some (.interface _)=>some [.any]
  | some (.func _ _ _)=>some [.any]
  | some (.pointer _)=>some [.any]
  | _=>none
def tyE (P:Program) (t:TypeId):Option Ty:=(tysP P 9 t).bind jh5
def qyy (e:Ty):Nat→List TC→Option (List (den e))
 | 0,[]=>some []
 | 0,_::_=>none
 | n+1,cs=>match qm4 e (cs.take (width e)),qyy e n (cs.drop (width e)) with
  | some x,some xs=>some (x::xs)
  | _,_=>none
theorem qqh {e:Ty} : ∀ {n:Nat} {cs:List TC} {xs:List (den e)},qyy e n cs=some xs→cs.map eC=((xs.map (q02 e)).flatten).map C.d∧chunk (width e) n (xs.map (q02 e)).flatten=xs.map (q02 e)
 | 0,[],xs,h=>by simp only [qyy,Option.some.injEq] at h;subst h;exact ⟨rfl,rfl⟩
 | 0,_::_,xs,h=>by simp [qyy] at h
 | n+1,cs,xs,h=>by
  unfold qyy at h
  split at h
  case h_2=>cases h
  rename_i y ys hy hys
  simp only [Option.some.injEq] at h
  subst h
  obtain ⟨h1,h2⟩:=qqh hys
  have h3:=q58 hy
  refine ⟨?_,?_⟩
  ·rw [List.map_cons,List.flatten_cons,List.map_append,← h3,← h1,← List.map_append,List.take_append_drop]
  ·rw [List.map_cons,List.flatten_cons,chunk,List.take_append_of_le_length (by rw [q1d];exact Nat.le_refl _),List.take_of_length_le (by rw [q1d];exact Nat.le_refl _),List.drop_append_of_le_length (by rw [q1d];exact Nat.le_refl _),List.drop_eq_nil_of_le (by rw [q1d];exact Nat.le_refl _),List.nil_append,h2]
theorem qin {β γ:Type} (f:β→γ) (z:List β) : ∀ n,(rep z n).map f=rep (z.map f) n
 | 0=>rfl
 | n+1=>by rw [rep,rep,List.map_append,qin f z n]
def q6m (P:Program) (dst:Option Nat) (t:TypeId) (n:Nat) (ps:Array (Nat×Operand)) (σ:TSt) (k:TRes→Option α):Option α:=match P.underlying t,dst with
 | some (.slice el),some i=>match lk σ.rows i,qkw P el,tyE P el,qiq σ ps.toList with
  | none,some z,some e,some qs=>match qkl z with
   | some zt=>if tsz P el=some (width e)∧n*width e≤2 ^ 24∧n≤2 ^ 24∧z.length=width e∧0<width e∧z.all Value.oneCell'=true∧el<1099511627776 then match qvu (fun i=>some (i*width e,width e)) (rep zt n) qs with
     | some cs=>match qyy e n cs with
      | some xs=>k { val:=.one (.c (.row i 0)),row:=some (i,⟨0,el,true,e,xs⟩) }
      | none=>none
     | none=>none
    else none
   | none=>none
  | _,_,_,_=>none
 | _,_=>none
theorem qfg {dst:Option Nat} {t:TypeId} {n:Nat} {ps:Array (Nat×Operand)} {k:TRes→Option α} {r:α} (h:q6m P dst t n ps σ k=some r) : ∃ y,k y=some r∧Sim (q0r P dst t n ps (opnd (eS σ)) (eS σ).row) y:=by
 unfold q6m at h
 split at h
 case h_2=>cases h
 rename_i el i hu
 split at h
 case h_2=>cases h
 rename_i z e qs hr hz he hqs
 split at h
 case h_2=>cases h
 rename_i zt hzt
 split at h
 case isFalse=>cases h
 rename_i hc
 obtain ⟨c1,c2,c3,c4,c5,c6,c7⟩:=hc
 split at h
 case h_2=>cases h
 rename_i cs hcs
 split at h
 case h_2=>cases h
 rename_i xs hxs
 obtain ⟨k1,k2⟩:=qqh hxs
 have h2:=qaj hcs
 rw [qin,q3r hzt,← qin] at h2
 refine ⟨_,h,Sim.tr ?_⟩
 simp only [q0r,hu,q69 hr,c1,hz,qbe hqs]
 rw [if_pos ⟨c2,c3,c4,c5,c6,c7⟩,h2]
 simp only [k1,q5e,k2,q76,eD,e1,eC,Option.map_none,Option.map_some,eR]
def srcT (x:TD) (σ:TSt):Option ((e:Ty)×List (den e)):=match x with
 | .one (.c (.d (.lst e) xs))=>some ⟨e,xs⟩
 | .one (.c (.row t g))=>match lk σ.rows t with
  | some r=>if r.gen=g then some ⟨r.e,r.xs⟩ else none
  | none=>none
 | _=>none
theorem jbr {x:TD} {s:(e:Ty)×List (den e)} (h:srcT x σ=some s):qfe (width s.1) (eD x) (eS σ).row=some (s.2.map (q02 s.1)):=by
 unfold srcT at h
 split at h
 ·simp only [Option.some.injEq] at h;subst h
  simp only [qfe,eD,e1,eC,q02,List.headD_cons,if_true]
 ·split at h
  case h_2=>cases h
  rename_i r hr
  split at h
  case isFalse=>cases h
  rename_i hg
  simp only [Option.some.injEq] at h;subst h
  have hg':(eR r).gen=_∧(eR r).sz=width r.e:=⟨hg,rfl⟩
  simp only [qfe,eD,e1,eC,q23 hr]
  rw [if_pos hg'];rfl
 ·cases h
def qj9 (P:Program) (dst:Option Nat) (t:TypeId) (s x:TD) (σ:TSt) (k:TRes→Option α):Option α:=match P.underlying t with
 | some (.slice el)=>match ja1 P el,srcT x σ with
  | some (m,bytes),some src=>if m=width src.1 then match s with
    | .one (.c (.row tt g))=>match lk σ.rows tt with
     | some r=>if h:src.1=r.e then if r.gen=g∧r.E=el then
       (q4t bytes r.xs (h ▸ src.2)).bind fun ys=>k { val:=.one (.c (.row tt (g+1))),row:=some (tt,{ r with gen:=g+1,xs:=ys }) } else none else none
     | none=>none
    | .one (.c .nil)=>match dst with
     | some i=>match lk σ.rows i with
      | none=>(q4t bytes [] src.2).bind fun ys=>k { val:=.one (.c (.row i 0)),row:=some (i,⟨0,el,true,src.1,ys⟩) }
      | some _=>none
     | none=>none
    | _=>none
   else none
  | _,_=>none
 | _=>none
theorem qv8 {β:Type} {b:Nat} {xs ys zs:List β} (h:q4t b xs ys=some zs):(xs.length+ys.length)*b≤140737488355328∧zs=xs++ys:=by
 unfold q4t at h
 split at h
 case isFalse=>cases h
 rename_i hc
 exact ⟨hc,(Option.some.inj h).symm⟩
theorem qve {dst:Option Nat} {t:TypeId} {s x:TD} {k:TRes→Option α} {r:α} (h:qj9 P dst t s x σ k=some r) : ∃ y,k y=some r∧Sim (q1y P dst t (eD s) (eD x) (eS σ).row) y:=by
 unfold qj9 at h
 split at h
 case h_2=>cases h
 rename_i el hu
 split at h
 case h_2=>cases h
 rename_i m bytes src hel hsrc
 split at h
 case isFalse=>cases h
 rename_i hm
 subst hm
 have h1:=jbr hsrc
 split at h
 ·rename_i tt g
  split at h
  case h_2=>cases h
  rename_i r' hr
  split at h
  case isFalse=>cases h
  rename_i he
  split at h
  case isFalse=>cases h
  rename_i hg
  obtain ⟨e',ys⟩:=src
  obtain ⟨gen,E,wr,e,xs⟩:=r'
  have he':e'=e:=he
  subst he'
  obtain ⟨hg1,hg2⟩:=hg
  have hg1':gen=g:=hg1
  have hg2':E=el:=hg2
  subst hg1' hg2'
  obtain ⟨zs,hz,h⟩:=Option.bind_eq_some_iff.1 h
  obtain ⟨c1,rfl⟩:=qv8 hz
  refine ⟨_,h,_,c1,?_⟩
  simp only at h1
  show q1y P dst t (.one (.c (.row tt gen))) (eD x) _=_
  generalize eD x=y at h1
  simp only [q1y,hu,hel,h1,eD,e1,eC,q23 hr,eR,and_self,if_true,q76,Option.map_none,Option.map_some,List.map_append,List.length_map]
 ·split at h
  case h_2=>cases h
  rename_i i
  split at h
  case h_2=>cases h
  rename_i hr
  obtain ⟨e',ys⟩:=src
  obtain ⟨zs,hz,h⟩:=Option.bind_eq_some_iff.1 h
  obtain ⟨c1,hzz⟩:=qv8 hz
  have hzz':zs=ys:=hzz
  clear hzz hz
  rw [hzz'] at h
  clear hzz' zs
  refine ⟨_,h,_,c1,?_⟩
  simp only at h1
  show q1y P (some i) t (.one (.c (.d (.v (.slice none 0 0))))) (eD x) _=_
  generalize eD x=y at h1
  simp only [q1y,hu,hel,h1,eD,e1,eC,q69 hr,eR,q76,Option.map_none,Option.map_some,List.map_append,List.length_map,List.nil_append,List.length_nil,Nat.zero_add]
 ·cases h
end Go.Proofs.YtapfankgdkdkgaaGreatDoor.AM
namespace Go.Proofs.YtapfankgdkdkgaaGreatDoor.AM
open Go.RowKit
set_option linter.unusedVariables false
set_option linter.unusedSimpArgs false
variable {α:Type} {P:Program} {σ:TSt}
def intT (op:BinOp) (k k':IntKind) (a b:Int) (c:TC→Option α):Option α:=match op with
 | .shl=>(shlO k a b).bind fun z=>c (.d (.int k) z)
 | .shr=>(shrO k a b).bind fun z=>c (.d (.int k) z)
 | .add=>if k=k' then q0e (k.wrap (a+b)) fun z=>c (.d (.int k) z) else none
 | .sub=>if k=k' then q0e (k.wrap (a - b)) fun z=>c (.d (.int k) z) else none
 | .mul=>if k=k' then q0e (k.wrap (a*b)) fun z=>c (.d (.int k) z) else none
 | .quo=>if k=k' then (quoO k a b).bind fun z=>c (.d (.int k) z) else none
 | .rem=>if k=k' then (remO a b).bind fun z=>c (.d (.int k) z) else none
 | .and=>if k=k' then q0e (andI k a b) fun z=>c (.d (.int k) z) else none
 | .or=>if k=k' then q0e (orI k a b) fun z=>c (.d (.int k) z) else none
 | .xor=>if k=k' then q0e (xorI k a b) fun z=>c (.d (.int k) z) else none
 | .eql=>if k=k' then c (.d .bool (decide (a=b))) else none
 | .neq=>if k=k' then c (.d .bool (!decide (a=b))) else none
 | .lss=>if k=k' then c (.d .bool (decide (a<b))) else none
 | .leq=>if k=k' then c (.d .bool (decide (a≤b))) else none
 | .gtr=>if k=k' then c (.d .bool (decide (b<a))) else none
 | .geq=>if k=k' then c (.d .bool (decide (b≤a))) else none
 | _=>none
def strT (op:BinOp) (s t:List UInt8) (c:TC→Option α):Option α:=match op with
 | .add=>(qlt s t).bind fun z=>c (.d .str z)
 | .eql=>c (.d .bool (decide (s=t)))
 | .neq=>c (.d .bool (!decide (s=t)))
 | .lss=>c (.d .bool (ltS s t))
 | .leq=>c (.d .bool (ltS s t||decide (s=t)))
 | .gtr=>c (.d .bool (!(ltS s t||decide (s=t))))
 | .geq=>c (.d .bool (!ltS s t))
 | _=>none
def vC (c:TC):TRes:={ val:=.one (.c c) }
theorem jh0 {op:BinOp} {T:TypeId} {k k':IntKind} {a b:Int} {c:TC→Option α} {r:α} (h:intT op k k' a b c=some r) :
  ∃ x,c x=some r∧Sim (q7s P op T (.one (.c (.d (.v (.int k a))))) (.one (.c (.d (.v (.int k' b)))))) (vC x):=by
 unfold intT at h
 split at h
 case h_1 =>
  obtain ⟨z,hz,h⟩:=Option.bind_eq_some_iff.1 h
  unfold shlO at hz
  split at hz
  case isFalse=>cases hz
  rename_i hb
  simp only [Option.some.injEq] at hz;subst hz
  exact ⟨_,h,_,hb,rfl⟩
 case h_2 =>
  obtain ⟨z,hz,h⟩:=Option.bind_eq_some_iff.1 h
  unfold shrO at hz
  split at hz
  case isFalse=>cases hz
  rename_i hb
  simp only [Option.some.injEq] at hz;subst hz
  exact ⟨_,h,_,hb,rfl⟩
 case h_6 =>
  split at h
  case isFalse=>cases h
  rename_i hk;subst hk
  obtain ⟨z,hz,h⟩:=Option.bind_eq_some_iff.1 h
  unfold quoO at hz
  split at hz
  case isFalse=>cases hz
  rename_i hb
  simp only [Option.some.injEq] at hz;subst hz
  refine ⟨_,h,_,hb,?_⟩
  simp only [q7s,if_true,qj1,Option.map_some];rfl
 case h_7 =>
  split at h
  case isFalse=>cases h
  rename_i hk;subst hk
  obtain ⟨z,hz,h⟩:=Option.bind_eq_some_iff.1 h
  unfold remO at hz
  split at hz
  case isFalse=>cases hz
  rename_i hb
  simp only [Option.some.injEq] at hz;subst hz
  refine ⟨_,h,_,hb,?_⟩
  simp only [q7s,if_true,qj1,Option.map_some];rfl
 case h_17=>cases h
 all_goals
  split at h
  case isFalse=>cases h
  rename_i hk;subst hk
  refine ⟨_,h,Sim.tr ?_⟩
  simp only [q7s,if_true,qj1,Option.map_some];rfl
theorem jkt {s t:List UInt8} : (ba s=ba t)=(s=t):=by
 apply propext
 constructor
 ·intro h
  have:=congrArg ByteArray.data h
  exact Array.toList_inj.2 this |> fun h=>by simpa [ba] using h
 ·rintro rfl;rfl
theorem q5l (s:List UInt8):(ba s).toList=s:=by rw [ByteArray.toList_eq];rfl
theorem j6c (s t:List UInt8):ba s++ba t=ba (s++t):=by
 apply ByteArray.ext
 rw [ByteArray.data_append]
 simp [ba]
theorem jai (s t:List UInt8):decide (ba s=ba t)=decide (s=t):=by simp only [jkt]
theorem jhu {op:BinOp} {T:TypeId} {s t:List UInt8} {c:TC→Option α} {r:α} (h:strT op s t c=some r) :
  ∃ x,c x=some r∧Sim (q7s P op T (.one (.c (.d (.v (.string (ba s)))))) (.one (.c (.d (.v (.string (ba t))))))) (vC x):=by
 unfold strT at h
 split at h
 case h_1 =>
  obtain ⟨z,hz,h⟩:=Option.bind_eq_some_iff.1 h
  unfold qlt at hz
  split at hz
  case isFalse=>cases hz
  rename_i hb
  simp only [Option.some.injEq] at hz;subst hz
  refine ⟨_,h,_,hb,?_⟩
  simp only [q7s,qol,Option.map_some,q29,j6c];rfl
 case h_8=>cases h
 all_goals
  refine ⟨_,h,Sim.tr ?_⟩
  simp only [q7s,qol,Option.map_some,q5l,jai];rfl
def eqC1 (P:Program) (t:TypeId) (x y:TC):Option Bool:=match P.underlying t,x,y with
 | some .bool,.d .bool a,.d .bool b=>some (decide ((a:Bool)=b))
 | some (.int _),.d (.int k) a,.d (.int k') b=>if k=k' then some (decide ((a:Int)=b)) else none
 | some .string,.d .str a,.d .str b=>some (decide ((a:List UInt8)=b))
 | _,_,_=>none
def vT:TC→Option Value
 | .d (.int k) n=>some (.int k n)
 | .d .bool b=>some (.bool b)
 | .d .str s=>some (.string (ba s))
 | _=>none
def vTs:List TC→Option (List Value)
 | []=>some []
 | c::cs=>match vT c,vTs cs with
  | some x,some xs=>some (x::xs)
  | _,_=>none
theorem vT_ok {c:TC} {v:Value} (h:vT c=some v):eC c = .d (.v v):=by
 unfold vT at h
 split at h<;>simp only [Option.some.injEq,reduceCtorEq] at h<;>subst h<;>rfl
theorem j8l : ∀ {cs:List TC} {xs:List Value},vTs cs=some xs→j63 (cs.map eC)=some xs
 | [],xs,h=>by simp only [vTs,Option.some.injEq] at h;subst h;rfl
 | c::cs,xs,h=>by
  unfold vTs at h
  split at h
  case h_2=>cases h
  rename_i x ys hx hy
  simp only [Option.some.injEq] at h;subst h
  rw [List.map_cons,vT_ok hx]
  show (j63 (cs.map eC)).map (x :: ·)=_
  rw [j8l hy];rfl
def jb8 (P:Program) (rec:TypeId→List TC→List TC→Option Bool):List Field→List TC→List TC→Option Bool
 | [],_,_=>some true
 | f::fs,xs,ys=>if f.name = "_" then none else match qoi P f.type with
  | some false=>match nth xs f.offset,nth ys f.offset with
   | some x,some y=>match eqC1 P f.type x y,jb8 P rec fs xs ys with
    | some b,some c=>some (b&&c)
    | _,_=>none
   | _,_=>none
  | some true=>match tsz P f.type with
   | some m=>if f.offset+m≤xs.length∧f.offset+m≤ys.length then match rec f.type ((xs.drop f.offset).take m) ((ys.drop f.offset).take m),jb8 P rec fs xs ys with
     | some b,some c=>some (b&&c)
     | _,_=>none
    else none
   | none=>none
  | none=>none
def eqST (P:Program):Nat→TypeId→List TC→List TC→Option Bool
 | 0,_,_,_=>none
 | n+1,t,xs,ys=>match P.underlying t with
  | some (.struct fs)=>if P.stoodInHeld t=false then jb8 P (eqST P n) fs.toList xs ys else none
  | _=>none
theorem jil {t:TypeId} {x y:TC} {u v:Value} {b:Bool} (hx:vT x=some u) (hy:vT y=some v) (h:eqC1 P t x y=some b):eqV P t u v=some b:=by
 unfold eqC1 at h
 split at h
 ·rename_i hu
  simp only [vT,Option.some.injEq] at hx hy h;subst hx hy h
  simp only [eqV,hu]
 ·rename_i hu
  split at h
  case isFalse=>cases h
  rename_i hk;subst hk
  simp only [vT,Option.some.injEq] at hx hy h;subst hx hy h
  simp only [eqV,hu,if_true]
 ·rename_i hu
  simp only [vT,Option.some.injEq] at hx hy h;subst hx hy h
  simp only [eqV,hu,jai]
 ·cases h
theorem qyc : ∀ {cs:List TC} {xs:List Value} {i:Nat} {c:TC},vTs cs=some xs→nth cs i=some c→∃ v,xs[i]? = some v∧vT c=some v
 | [],_,_,_,_,h=>by cases h
 | c0::cs,xs,i,c,h,hn=>by
  unfold vTs at h
  split at h
  case h_2=>cases h
  rename_i x ys hx hy
  simp only [Option.some.injEq] at h;subst h
  cases i with
  | zero=>simp only [nth,Option.some.injEq] at hn;subst hn;exact ⟨x,rfl,hx⟩
  | succ i =>
   obtain ⟨v,h1,h2⟩:=qyc hy (show nth cs i=some c from hn)
   exact ⟨v,by simpa using h1,h2⟩
theorem j98 : ∀ {cs:List TC} {xs:List Value} (o m:Nat),vTs cs=some xs→vTs ((cs.drop o).take m)=some ((xs.drop o).take m):=by
 have tk : ∀ {cs:List TC} {xs:List Value} (m:Nat),vTs cs=some xs→vTs (cs.take m)=some (xs.take m):=by
  intro cs
  induction cs with
  | nil=>intro xs m h;simp only [vTs,Option.some.injEq] at h;subst h;simp [vTs]
  | cons c cs ih =>
   intro xs m h
   unfold vTs at h
   split at h
   case h_2=>cases h
   rename_i x ys hx hy
   simp only [Option.some.injEq] at h;subst h
   cases m with
   | zero=>rfl
   | succ m =>
    rw [List.take_succ_cons,List.take_succ_cons]
    unfold vTs
    rw [hx,ih m hy]
 have dr : ∀ {cs:List TC} {xs:List Value} (o:Nat),vTs cs=some xs→vTs (cs.drop o)=some (xs.drop o):=by
  intro cs
  induction cs with
  | nil=>intro xs o h;simp only [vTs,Option.some.injEq] at h;subst h;simp [vTs]
  | cons c cs ih =>
   intro xs o h
   cases o with
   | zero=>exact h
   | succ o =>
    unfold vTs at h
    split at h
    case h_2=>cases h
    rename_i x ys hx hy
    simp only [Option.some.injEq] at h;subst h
    rw [List.drop_succ_cons,List.drop_succ_cons]
    exact ih o hy
 intro cs xs o m h
 exact tk m (dr o h)
theorem qyz : ∀ {cs:List TC} {xs:List Value},vTs cs=some xs→xs.length=cs.length
 | [],xs,h=>by simp only [vTs,Option.some.injEq] at h;subst h;rfl
 | c::cs,xs,h=>by
  unfold vTs at h
  split at h
  case h_2=>cases h
  rename_i x ys hx hy
  simp only [Option.some.injEq] at h;subst h
  rw [List.length_cons,List.length_cons,qyz hy]
theorem qq2 {rec:TypeId→List TC→List TC→Option Bool} {rec':TypeId→List Value→List Value→Option Bool} {us vs:List Value} {xs ys:List TC} (hx:vTs xs=some us) (hy:vTs ys=some vs)
  (hr : ∀ t o m b,rec t ((xs.drop o).take m) ((ys.drop o).take m)=some b→rec' t ((us.drop o).take m) ((vs.drop o).take m)=some b) : ∀ {fs:List Field} {b:Bool},jb8 P rec fs xs ys=some b→j80 P rec' fs us vs=some b
 | [],b,h=>h
 | f::fs,b,h=>by
  unfold jb8 at h
  split at h
  case isTrue=>cases h
  rename_i hn
  split at h
  ·rename_i h3
   split at h
   case h_2=>cases h
   rename_i x y h1 h2
   split at h
   case h_2=>cases h
   rename_i b1 b2 h4 h5
   obtain ⟨u,k1,k2⟩:=qyc hx h1
   obtain ⟨v,k3,k4⟩:=qyc hy h2
   unfold j80
   rw [if_neg hn,h3]
   simp only [k1,k3,jil k2 k4 h4,qq2 hx hy hr h5]
   exact h
  ·rename_i h3
   split at h
   case h_2=>cases h
   rename_i m hm
   split at h
   case isFalse=>cases h
   rename_i hle
   split at h
   case h_2=>cases h
   rename_i b1 b2 h4 h5
   unfold j80
   rw [if_neg hn,h3,hm]
   have hle':f.offset+m≤us.length∧f.offset+m≤vs.length:=by rw [qyz hx,qyz hy];exact hle
   simp only [hle',and_self,if_true,hr _ _ _ _ h4,qq2 hx hy hr h5]
   exact h
  ·cases h
theorem jaa : ∀ (n:Nat) {t:TypeId} {us vs:List Value} {xs ys:List TC} {b:Bool},vTs xs=some us→vTs ys=some vs→eqST P n t xs ys=some b→eqS P n t us vs=some b
 | 0,_,_,_,_,_,_,_,_,h=>by cases h
 | n+1,t,us,vs,xs,ys,b,hx,hy,h=>by
  unfold eqST at h
  split at h
  case h_2=>cases h
  rename_i fs hu
  split at h
  case isFalse=>cases h
  rename_i hc
  unfold eqS
  rw [hu]
  simp only [hc,if_true]
  exact qq2 hx hy (fun t o m b hh=>jaa n (j98 o m hx) (j98 o m hy) hh) h
def qj4 (P:Program) (t:TypeId) (xs ys:List TC):Option Bool:=match vTs xs,vTs ys with
 | some _,some _=>if P.eqGuardType P.depth t=false then eqST P 9 t xs ys else none
 | _,_=>none
theorem qf6 {t:TypeId} {xs ys:List TC} {b:Bool} (h:qj4 P t xs ys=some b):q8n P t (xs.map eC) (ys.map eC)=some b:=by
 unfold qj4 at h
 split at h
 case h_2=>cases h
 rename_i us vs hx hy
 split at h
 case isFalse=>cases h
 rename_i hc
 unfold q8n
 rw [j8l hx,j8l hy]
 simp only
 rw [if_pos hc]
 exact jaa 9 hx hy h
def jbu (P:Program) (op:BinOp) (T:TypeId) (x y:TD) (k:TRes→Option α):Option α:=match x,y with
 | .one (.c (.d (.int kx) a)),.one (.c (.d (.int ky) b))=>intT op kx ky a b (fun c=>k (vC c))
 | .one (.c (.d .str s)),.one (.c (.d .str t))=>strT op s t (fun c=>k (vC c))
 | .one (.c (.d .bool a)),.one (.c (.d .bool b))=>match P.underlying T,op with
  | some .bool,.eql=>k (vC (.d .bool (decide ((a:Bool)=b))))
  | some .bool,.neq=>k (vC (.d .bool (!decide ((a:Bool)=b))))
  | _,_=>none
 | .one (.agg xs),.one (.agg ys)=>match op,qj4 P T xs ys with
  | .eql,some b=>k (vC (.d .bool b))
  | .neq,some b=>k (vC (.d .bool (!b)))
  | _,_=>none
 | _,_=>none
theorem jak {op:BinOp} {T:TypeId} {x y:TD} {k:TRes→Option α} {r:α} (h:jbu P op T x y k=some r) : ∃ z,k z=some r∧Sim (q7s P op T (eD x) (eD y)) z:=by
 unfold jbu at h
 split at h
 ·obtain ⟨z,h1,h2⟩:=jh0 (P:=P) (T:=T) h
  exact ⟨_,h1,h2⟩
 ·obtain ⟨z,h1,h2⟩:=jhu (P:=P) (T:=T) h
  exact ⟨_,h1,h2⟩
 ·split at h
  ·rename_i hu
   exact ⟨_,h,Sim.tr (by simp only [q7s,eD,e1,eC,q02,List.headD_cons,eqV,hu,Option.map_some];rfl)⟩
  ·rename_i hu
   exact ⟨_,h,Sim.tr (by simp only [q7s,eD,e1,eC,q02,List.headD_cons,eqV,hu,Option.map_some];rfl)⟩
  ·cases h
 ·split at h
  ·rename_i b hb
   exact ⟨_,h,Sim.tr (by simp only [q7s,eD,e1,qf6 hb,Option.map_some];rfl)⟩
  ·rename_i b hb
   exact ⟨_,h,Sim.tr (by simp only [q7s,eD,e1,qf6 hb,Option.map_some];rfl)⟩
  ·cases h
 ·cases h
def jif (op:UnOp) (x:TD) (k:TRes→Option α):Option α:=match op,x with
 | .not,.one (.c (.d .bool b))=>k (vC (.d .bool (!(b:Bool))))
 | .neg,.one (.c (.d (.int kk) n))=>k (vC (.d (.int kk) (kk.wrap (0 - (n:Int)))))
 | _,_=>none
theorem jdy {op:UnOp} {x:TD} {k:TRes→Option α} {r:α} (h:jif op x k=some r) : ∃ z,k z=some r∧Sim (jka op (eD x)) z:=by
 unfold jif at h
 split at h
 ·exact ⟨_,h,Sim.tr rfl⟩
 ·exact ⟨_,h,Sim.tr rfl⟩
 ·cases h
def qxl (P:Program) (src dst:TypeId) (x:TD) (k:TRes→Option α):Option α:=match P.underlying src,P.underlying dst,x with
 | some _,some (.int kk),.one (.c (.d (.int _) n))=>q0e (kk.wrap n) fun z=>k (vC (.d (.int kk) z))
 | some .string,some .string,.one (.c (.d .str s))=>k (vC (.d .str s))
 | _,_,_=>none
theorem j40 {src dst:TypeId} {x:TD} {k:TRes→Option α} {r:α} (h:qxl P src dst x k=some r) : ∃ z,k z=some r∧Sim (q9m P src dst (eD x)) z:=by
 unfold qxl at h
 split at h
 ·rename_i h1 h2
  exact ⟨_,h,Sim.tr (by simp only [q9m,eD,e1,eC,q02,List.headD_cons,h1,h2];rfl)⟩
 ·rename_i h1 h2
  exact ⟨_,h,Sim.tr (by simp only [q9m,eD,e1,eC,q02,List.headD_cons,h1,h2];rfl)⟩
 ·cases h
def qpt (P:Program) (src dst:TypeId):Bool:=match P.underlying src,P.underlying dst with
 | some (.slice _),some .string=>true
 | some .string,some (.slice _)=>true
 | _,_=>false
def bytO (s:List UInt8):Option (List Int):=if s.length≤9223372036854775807 then some (s.map fun b=>((b.toNat:Nat):Int)) else none
def qcu (P:Program) (o:Option Nat) (src dst:TypeId) (x:TD) (σ:TSt) (k:TRes→Option α):Option α:=match P.underlying src,P.underlying dst with
 | some (.slice e),some .string=>match P.underlying e,srcT x σ with
  | some (.int .u8),some ⟨.int .u8,xs⟩=>k (vC (.d .str ((xs:List Int).map fun n=>UInt8.ofNat n.toNat)))
  | _,_=>none
 | some .string,some (.slice e)=>match P.underlying e,x,o with
  | some (.int .u8),.one (.c (.d .str s)),some i=>match lk σ.rows i with
   | none=>if e<1099511627776 then (bytO s).bind fun xs=>k { val:=.one (.c (.row i 0)),row:=some (i,⟨0,e+1099511627776,true,.int .u8,xs⟩) } else none
   | some _=>none
  | _,_,_=>none
 | _,_=>none
theorem qv3 : ∀ (xs:List Int),qws (xs.map (q02 (.int .u8)))=some xs
 | []=>rfl
 | x::xs=>by
  show (qws (xs.map (q02 (.int .u8)))).map (x :: ·)=_
  rw [qv3 xs];rfl
theorem j1j : ∀ (xs:List Int) (b:List UInt8),xs.foldl (fun r n=>r.push (UInt8.ofNat n.toNat)) (ba b)=ba (b++xs.map fun n=>UInt8.ofNat n.toNat)
 | [],b=>by simp
 | x::xs,b=>by
  rw [List.foldl_cons,show (ba b).push (UInt8.ofNat x.toNat)=ba (b ++ [UInt8.ofNat x.toNat]) from by simp [ba,ByteArray.push],j1j xs]
  simp
theorem jeh (xs:List Int):strOf xs=ba (xs.map fun n=>UInt8.ofNat n.toNat):=by
 have:=j1j xs []
 rw [List.nil_append] at this
 exact this
theorem qzu {src dst:TypeId} {x:D} (h:qpt P src dst=true):q9m P src dst x=none:=by
 unfold qpt at h
 unfold q9m
 split at h
 ·rename_i h1 h2;rw [h1,h2]
 ·rename_i h1 h2;rw [h1,h2]
 ·cases h
theorem qrj {o:Option Nat} {src dst:TypeId} {x:TD} {k:TRes→Option α} {r:α} (h:qcu P o src dst x σ k=some r) : ∃ z,k z=some r∧Sim (q27 P o src dst (eD x) (eS σ).row) z:=by
 unfold qcu at h
 split at h
 ·rename_i e h1 h2
  split at h
  case h_2=>cases h
  rename_i xs he hx
  have hs:=jbr hx
  have hs':qfe 1 (eD x) (eS σ).row=some (xs.map (q02 (.int .u8))):=hs
  refine ⟨_,h,Sim.tr ?_⟩
  have hi:qws (List.map (q02 (.int .u8)) xs)=some xs:=qv3 xs
  simp only [q27,h1,h2,he,hs',Option.bind_some]
  rw [hi]
  simp only [jeh]
  rfl
 ·rename_i e h1 h2
  split at h
  case h_2=>cases h
  rename_i s i he
  split at h
  case h_2=>cases h
  rename_i hr
  split at h
  case isFalse=>cases h
  rename_i hlt
  obtain ⟨xs,hxs,h⟩:=Option.bind_eq_some_iff.1 h
  unfold bytO at hxs
  split at hxs
  case isFalse=>cases hxs
  rename_i hle
  simp only [Option.some.injEq] at hxs;subst hxs
  refine ⟨_,h,(ba s).size≤maxLen,by rw [q29];exact hle,?_⟩
  simp only [q27,h1,h2,he,eD,e1,eC,q02,List.headD_cons,q69 hr]
  rw [if_pos hlt]
  have e3:(ba s).data.toList=s:=by simp [ba]
  rw [e3]
  simp only [q76,eD,e1,eC,Option.map_none,Option.map_some,eR,List.map_map]
  rfl
 ·cases h
def qy5 (c x y:TD) (k:TRes→Option α):Option α:=match c with
 | .one (.c (.d .bool t))=>bif t then k { val:=x } else k { val:=y }
 | _=>none
theorem j5s {c x y:TD} {k:TRes→Option α} {r:α} (h:qy5 c x y k=some r) : ∃ z,k z=some r∧Sim (qn6 (eD c) (eD x) (eD y)) z:=by
 unfold qy5 at h
 split at h
 case h_2=>cases h
 rename_i t
 cases t with
 | true=>exact ⟨_,h,Sim.tr rfl⟩
 | false=>exact ⟨_,h,Sim.tr rfl⟩
def makO (b:Nat) (q:Int) (n:Int):Option (List Int):=if 0≤n∧n≤16777216∧b*n.toNat≤281474976710656 then some (List.replicate n.toNat q) else none
def qzn (P:Program) (dst:Option Nat) (t:TypeId) (x:TD) (σ:TSt) (k:TRes→Option α):Option α:=match P.underlying t,dst,x with
 | some (.slice el),some i,.one (.c (.d (.int _) n))=>match lk σ.rows i,(P.info? el).map (fun i=>(i.zero,i.size,i.bytes)) with
  | none,some (some (Value.int kk q),1,b)=>bif Nat.blt el 1099511627776 then (makO b q n).bind fun xs=>k { val:=.one (.c (.row i 0)),row:=some (i,⟨0,el,true,.int kk,xs⟩) } else none
  | _,_=>none
 | _,_,_=>none
theorem j3t {dst:Option Nat} {t:TypeId} {x:TD} {k:TRes→Option α} {r:α} (h:qzn P dst t x σ k=some r) : ∃ y,k y=some r∧Sim (qb6 P dst t (eD x) (eS σ).row) y:=by
 unfold qzn at h
 split at h
 case h_2=>cases h
 rename_i el i kx n hu
 split at h
 case h_2=>cases h
 rename_i kk q b hr hinf
 cases hb:Nat.blt el 1099511627776 with
 | false=>rw [hb] at h;cases h
 | true =>
  rw [hb] at h
  have hlt:el<1099511627776:=by simpa using hb
  obtain ⟨xs,hxs,h⟩:=Option.bind_eq_some_iff.1 h
  unfold makO at hxs
  split at hxs
  case isFalse=>cases hxs
  rename_i hc
  simp only [Option.some.injEq] at hxs;subst hxs
  refine ⟨_,h,Sim.tr ?_⟩
  simp only [qb6,hu,eD,e1,eC,q02,List.headD_cons,q69 hr,hinf]
  rw [if_pos ⟨hc.1,hc.2.1,hc.2.2,hlt⟩]
  simp only [q76,eD,e1,eC,Option.map_none,Option.map_some,eR,List.map_replicate]
  rfl
def jf9 (f:Int→Int→Int) (x y:TD) (k:TRes→Option α):Option α:=match x,y with
 | .one (.c (.d (.int kk) n)),.one (.c (.d (.int _) m))=>q0e (f n m) fun z=>k (vC (.d (.int kk) z))
 | _,_=>none
theorem j12 {f:Int→Int→Int} {x y:TD} {k:TRes→Option α} {r:α} (h:jf9 f x y k=some r) : ∃ z,k z=some r∧Sim (jcl f (eD x) (eD y)) z:=by
 unfold jf9 at h
 split at h
 case h_2=>cases h
 exact ⟨_,h,Sim.tr rfl⟩
def vTI:TC→Option Value
 | .d (.int k) n=>some (.int k n)
 | .d .bool b=>some (.bool b)
 | .d .str s=>some (.string (ba s))
 | .d .any v=>some (Subtype.val (v:IV))
 | _=>none
def jmc:List TC→Option (List Value)
 | []=>some []
 | c::cs=>match vTI c,jmc cs with
  | some x,some xs=>some (x::xs)
  | _,_=>none
def vTD:TD→Option Value
 | .one (.c c)=>vTI c
 | .one (.agg cs)=>(jmc cs).map fun xs=>.agg ⟨xs⟩
 | .tup _=>none
theorem jg9 {c:TC} {v:Value} (h:vTI c=some v):jkj (eC c)=some v:=by
 unfold vTI at h
 split at h<;>simp only [Option.some.injEq,reduceCtorEq] at h<;>subst h<;>rfl
theorem j9d : ∀ {cs:List TC} {xs:List Value},jmc cs=some xs→qqm (cs.map eC)=some xs
 | [],xs,h=>by simp only [jmc,Option.some.injEq] at h;subst h;rfl
 | c::cs,xs,h=>by
  unfold jmc at h
  split at h
  case h_2=>cases h
  rename_i x ys hx hy
  simp only [Option.some.injEq] at h;subst h
  rw [List.map_cons]
  unfold qqm
  rw [jg9 hx,j9d hy]
theorem jlh {d:TD} {v:Value} (h:vTD d=some v):jl6 (eD d)=some v:=by
 unfold vTD at h
 split at h
 ·exact jg9 h
 ·obtain ⟨xs,h1,rfl⟩:=Option.map_eq_some_iff.1 h
  show (qqm _).map _=_
  rw [j9d h1];rfl
 ·cases h
def qr3 (P:Program) (t:TypeId) (x:TD) (k:TRes→Option α):Option α:=match P.concrete t,vTD x with
 | true,some v=>k (vC (.d .any (qft t v)))
 | _,_=>none
theorem qzr {t:TypeId} {x:TD} {k:TRes→Option α} {r:α} (h:qr3 P t x k=some r) : ∃ z,k z=some r∧Sim (q9y P t (eD x)) z:=by
 unfold qr3 at h
 split at h
 case h_2=>cases h
 rename_i v hc hv
 exact ⟨_,h,Sim.tr (by unfold q9y;rw [hc,jlh hv];rfl)⟩
def qxa (P:Program) (op:BinOp) (t:TypeId) (x:TD) (k:TRes→Option α):Option α:=match j0y P t,op,x with
 | true,.eql,.one (.c (.d .any v))=>(q2x (Subtype.val (v:IV))).bind fun b=>k (vC (.d .bool b))
 | true,.neq,.one (.c (.d .any v))=>(q2x (Subtype.val (v:IV))).bind fun b=>k (vC (.d .bool (!b)))
 | _,_,_=>none
theorem j5c {op:BinOp} {t:TypeId} {x:TD} {k:TRes→Option α} {r:α} (h:qxa P op t x k=some r) : ∃ z,k z=some r∧Sim (qeb P op t (eD x)) z:=by
 unfold qxa at h
 split at h
 case h_3=>cases h
 ·rename_i v hc
  obtain ⟨b,hb,h⟩:=Option.bind_eq_some_iff.1 h
  exact ⟨_,h,Sim.tr (by simp only [qeb,hc,eD,e1,eC,q02,List.headD_cons,hb,Option.map_some];rfl)⟩
 ·rename_i v hc
  obtain ⟨b,hb,h⟩:=Option.bind_eq_some_iff.1 h
  exact ⟨_,h,Sim.tr (by simp only [qeb,hc,eD,e1,eC,q02,List.headD_cons,hb,Option.map_some];rfl)⟩
def w1 (x:Option TD) (f:TD→Option α):Option α:=match x with|some y=>f y|none=>none
def w0 (σ:TSt) (x:Option Operand) (f:Option TD→Option α):Option α:=match x with
 | none=>f none
 | some x=>match q0m σ x with|some y=>f (some y)|none=>none
theorem q0b {x:Option TD} {f:TD→Option α} {r:α} (h:w1 x f=some r) : ∃ y,x=some y∧f y=some r:=by
 cases x with
 | none=>cases h
 | some y=>exact ⟨y,rfl,h⟩
theorem j6l {x:Option Operand} {f:Option TD→Option α} {r:α} (h:w0 σ x f=some r) : ∃ y,x.map (opnd (eS σ))=y.map eD∧f y=some r:=by
 cases x with
 | none=>exact ⟨none,rfl,h⟩
 | some x =>
  unfold w0 at h
  simp only at h
  split at h
  ·rename_i y hy
   exact ⟨some y,by rw [Option.map_some,Option.map_some,q06 hy],h⟩
  ·cases h
def q2v (σ:TSt):List Operand→Option (List TD)
 | []=>some []
 | x::xs=>match q0m σ x,q2v σ xs with
  | some y,some ys=>some (y::ys)
  | _,_=>none
theorem qca : ∀ {xs:List Operand} {ys:List TD},q2v σ xs=some ys→xs.map (opnd (eS σ))=ys.map eD
 | [],ys,h=>by simp only [q2v,Option.some.injEq] at h;subst h;rfl
 | x::xs,ys,h=>by
  unfold q2v at h
  split at h
  case h_2=>cases h
  rename_i y zs h1 h2
  simp only [Option.some.injEq] at h;subst h
  rw [List.map_cons,List.map_cons,q06 h1,qca h2]
def j1z:List TD→Option (List Nat)
 | []=>some []
 | .one (.c (.box β 0))::ds=>(j1z ds).map (β :: ·)
 | _=>none
theorem qwc : ∀ {ds:List TD} {cs:List Nat},j1z ds=some cs→qlg (ds.map eD)=some cs
 | [],cs,h=>h
 | d::ds,cs,h=>by
  unfold j1z at h
  split at h
  ·rename_i h1;cases h1
  ·rename_i β ds' h1
   simp only [List.cons.injEq] at h1
   obtain ⟨rfl,rfl⟩:=h1
   obtain ⟨cs',h2,rfl⟩:=Option.map_eq_some_iff.1 h
   show (qlg (ds.map eD)).map _=_
   rw [qwc h2];rfl
  ·cases h
def jmz (f:Nat) (ds:Option (List TD)) (k:TRes→Option α):Option α:=match ds with
 | some ds=>match j1z ds with
  | some (c::cs)=>k { val:=.one (.c (.fn f (c::cs))) }
  | _=>none
 | none=>none
def q9a {β:Type} (s:List UInt8):List (List UInt8×β)→Option β
 | []=>none
 | (k,v)::l=>if s=k then some v else q9a s l
def jc7 {β:Type} (s:List UInt8) (y:β):List (List UInt8×β)→List (List UInt8×β)
 | []=>[(s,y)]
 | (k,v)::l=>if s=k then (s,y)::l else (k,v)::jc7 s y l
def j7m {β:Type} (o:Option β) (z:β) (f:β→Bool→Option α):Option α:=f (o.getD z) o.isSome
def eqT:(K:Ty)→den K→den K→Bool
 | .str,a,b=>decide ((a:List UInt8)=b)
 | .int _,a,b=>decide ((a:Int)=b)
 | .prod a b,(x:den a×den b),(y:den a×den b)=>eqT a x.1 y.1&&eqT b x.2 y.2
 | _,_,_=>false
def q0a {β:Type} (K:Ty) (s:den K):List (den K×β)→Option β
 | []=>none
 | (k,v)::l=>bif eqT K s k then some v else q0a K s l
def q3h {β:Type} (K:Ty) (s:den K) (y:β):List (den K×β)→List (den K×β)
 | []=>[(s,y)]
 | (k,v)::l=>bif eqT K s k then (s,y)::l else (k,v)::q3h K s y l
def jc4 {β:Type} : (K:Ty)→den K→List (den K×β)→Option β
 | .str,s,l=>q9a s l
 | .int k,s,l=>q0a (.int k) s l
 | .prod a b,s,l=>q0a (.prod a b) s l
 | .bool,s,l=>q0a .bool s l
 | .lst e,s,l=>q0a (.lst e) s l
 | .any,s,l=>q0a .any s l
def jm1 {β:Type} : (K:Ty)→den K→β→List (den K×β)→List (den K×β)
 | .str,s,y,l=>jc7 s y l
 | .int k,s,y,l=>q3h (.int k) s y l
 | .prod a b,s,y,l=>q3h (.prod a b) s y l
 | .bool,s,y,l=>q3h .bool s y l
 | .lst e,s,y,l=>q3h (.lst e) s y l
 | .any,s,y,l=>q3h .any s y l
theorem qsl {β:Type} (s:List UInt8) : ∀ l:List (List UInt8×β),q9a s l=q0a .str s l
 | []=>rfl
 | (k,v)::l=>by
  show (if s=k then some v else q9a s l)=bif decide (s=k) then some v else q0a .str s l
  by_cases h:s=k
  ·rw [if_pos h,decide_eq_true h];rfl
  ·rw [if_neg h,decide_eq_false h,qsl s l];rfl
theorem j04 {β:Type} (s:List UInt8) (y:β) : ∀ l:List (List UInt8×β),jc7 s y l=q3h .str s y l
 | []=>rfl
 | (k,v)::l=>by
  show (if s=k then (s,y)::l else (k,v)::jc7 s y l)=bif decide (s=k) then (s,y)::l else (k,v)::q3h .str s y l
  by_cases h:s=k
  ·rw [if_pos h,decide_eq_true h];rfl
  ·rw [if_neg h,decide_eq_false h,j04 s y l];rfl
theorem j9x {β:Type} : ∀ (K:Ty) (s:den K) (l:List (den K×β)),jc4 K s l=q0a K s l
 | .str,s,l=>qsl s l
 | .int k,s,l=>rfl
 | .prod a b,s,l=>rfl
 | .bool,s,l=>rfl
 | .lst e,s,l=>rfl
 | .any,s,l=>rfl
theorem je3 {β:Type} : ∀ (K:Ty) (s:den K) (y:β) (l:List (den K×β)),jm1 K s y l=q3h K s y l
 | .str,s,y,l=>j04 s y l
 | .int k,s,y,l=>rfl
 | .prod a b,s,y,l=>rfl
 | .bool,s,y,l=>rfl
 | .lst e,s,y,l=>rfl
 | .any,s,y,l=>rfl
def qzd:KL→Ty
 | .s=>.str
 | .i k=>.int k
def q1m:List KL→Ty
 | []=>.bool
 | [l]=>qzd l
 | l::l'::ls=>.prod (qzd l) (q1m (l'::ls))
def j61:(l:KL)→den (qzd l)→Value
 | .s,(x:List UInt8)=>.string (ba x)
 | .i k,(n:Int)=>.int k n
def q44:(ls:List KL)→den (q1m ls)→List Value
 | [],_=>[]
 | [l],x=>[j61 l x]
 | l::l'::ls,(x:den (qzd l)×den (q1m (l'::ls)))=>j61 l x.1::q44 (l'::ls) x.2
theorem j39 : ∀ (l:KL) (x:den (qzd l)),q02 (qzd l) x = [.v (j61 l x)]
 | .s,_=>rfl
 | .i _,_=>rfl
theorem qga : ∀ (ls:List KL),0<ls.length→∀ x:den (q1m ls),q02 (q1m ls) x=(q44 ls x).map .v
 | [],h,_=>absurd h (by decide)
 | [l],_,x=>j39 l x
 | l::l'::ls,_,(x:den (qzd l)×den (q1m (l'::ls)))=>by
  show q02 (qzd l) x.1++q02 (q1m (l'::ls)) x.2=_
  rw [j39,qga (l'::ls) (Nat.succ_pos _) x.2];rfl
theorem ok_1 : ∀ (l:KL) (x:den (qzd l)),okK l (j61 l x)=true
 | .s,_=>rfl
 | .i _,_=>by simp [okK,j61]
theorem jkc : ∀ (ls:List KL) (x:den (q1m ls)),q5x ls (q44 ls x)=true
 | [],_=>rfl
 | [l],x=>(Bool.and_true _).trans (ok_1 l x)
 | l::l'::ls,(x:den (qzd l)×den (q1m (l'::ls)))=>by
  show (okK l (j61 l x.1)&&q5x (l'::ls) (q44 (l'::ls) x.2))=true
  rw [ok_1,jkc (l'::ls) x.2];rfl
theorem jgv (ls:List KL) (x:den (q1m ls)):(q44 ls x).length=ls.length:=q55 (jkc ls x)
theorem eq_1 : ∀ (l:KL) (x y:den (qzd l)),eqK (j61 l x) (j61 l y)=eqT (qzd l) x y
 | .s,x,y=>jai x y
 | .i _,x,y=>rfl
theorem eq_K : ∀ (ls:List KL),0<ls.length→∀ x y:den (q1m ls),qht (q44 ls x) (q44 ls y)=eqT (q1m ls) x y
 | [],h,_,_=>absurd h (by decide)
 | [l],_,x,y=>by show (eqK (j61 l x) (j61 l y)&&true)=_;rw [Bool.and_true];exact eq_1 l x y
 | l::l'::ls,_,(x:den (qzd l)×den (q1m (l'::ls))),(y:den (qzd l)×den (q1m (l'::ls)))=>by
  show (eqK (j61 l x.1) (j61 l y.1)&&qht (q44 (l'::ls) x.2) (q44 (l'::ls) y.2))=(eqT (qzd l) x.1 y.1&&eqT (q1m (l'::ls)) x.2 y.2)
  rw [eq_1,eq_K (l'::ls) (Nat.succ_pos _)]
theorem quw : ∀ (us:List Value) (r:List Dat),qx8 us.length (us.map .v++r)=some us
 | [],_=>rfl
 | u::us,r=>by
  show (qx8 us.length (us.map .v++r)).map (u :: ·)=_
  rw [quw us r];rfl
theorem qaq (ls:List KL) (h:0<ls.length) (V:Ty) (s:den (q1m ls)) (y:den V):q02 (.prod (q1m ls) V) ((s,y):den (q1m ls)×den V)=(q44 ls s).map .v++q02 V y:=by
 show q02 (q1m ls) s++q02 V y=_
 rw [qga ls h]
theorem j7y (ls:List KL) (h:0<ls.length) (V:Ty) (s k:den (q1m ls)) (y:den V):qlw ls (q44 ls s) (q02 (.prod (q1m ls) V) ((k,y):den (q1m ls)×den V))=some (eqT (q1m ls) s k):=by
 unfold qlw
 rw [qaq ls h]
 have:=quw (q44 ls k) (q02 V y)
 rw [jgv] at this
 rw [this]
 simp only [jkc,if_true,eq_K ls h]
theorem j2p {ls:List KL} (h:0<ls.length) {V:Ty} (s:den (q1m ls)) : ∀ (xs:List (den (q1m ls)×den V)),∃ q,findD ls (q44 ls s) (xs.map (q02 (.prod (q1m ls) V)))=some q∧q.map (List.drop ls.length)=(q0a (q1m ls) s xs).map (q02 V)
 | []=>⟨none,rfl,rfl⟩
 | (k,v)::xs=>by
  show ∃ q,(match qlw ls (q44 ls s) (q02 (.prod (q1m ls) V) ((k,v):den (q1m ls)×den V)) with|some true=>some (some (q02 (.prod (q1m ls) V) ((k,v):den (q1m ls)×den V)))|some false=>findD ls (q44 ls s) (xs.map (q02 (.prod (q1m ls) V)))|none=>none)=some q∧q.map (List.drop ls.length)=(bif eqT (q1m ls) s k then some v else q0a (q1m ls) s xs).map (q02 V)
  rw [j7y ls h]
  cases eqT (q1m ls) s k with
  | true =>
   refine ⟨_,rfl,?_⟩
   simp only [cond_true,Option.map_some,Option.some.injEq]
   rw [qaq ls h]
   have:(List.map Dat.v (q44 ls k)).length=ls.length:=by rw [List.length_map,jgv]
   rw [← this,List.drop_left]
  | false=>exact j2p h s xs
theorem j89 {ls:List KL} (h:0<ls.length) {V:Ty} (s:den (q1m ls)) (y:den V) : ∀ (xs:List (den (q1m ls)×den V)),ji0 ls (q44 ls s) (q02 V y) (xs.map (q02 (.prod (q1m ls) V)))=some ((q3h (q1m ls) s y xs).map (q02 (.prod (q1m ls) V)))
 | []=>by
  show some [(q44 ls s).map Dat.v++q02 V y]=some [q02 (.prod (q1m ls) V) ((s,y):den (q1m ls)×den V)]
  rw [qaq ls h]
 | (k,v)::xs=>by
  show (match qlw ls (q44 ls s) (q02 (.prod (q1m ls) V) ((k,v):den (q1m ls)×den V)) with|some true=>some (((q44 ls s).map Dat.v++q02 V y)::xs.map (q02 (.prod (q1m ls) V)))|some false=>(ji0 ls (q44 ls s) (q02 V y) (xs.map (q02 (.prod (q1m ls) V)))).map (q02 (.prod (q1m ls) V) ((k,v):den (q1m ls)×den V) :: ·)|none=>none)=some ((bif eqT (q1m ls) s k then (s,y)::xs else (k,v)::q3h (q1m ls) s y xs).map (q02 (.prod (q1m ls) V)))
  rw [j7y ls h]
  cases eqT (q1m ls) s k with
  | true =>
   simp only [cond_true,List.map_cons]
   rw [qaq ls h]
  | false =>
   simp only [cond_false,List.map_cons]
   rw [j89 h s y xs];rfl
def jcp (K:Ty) (ka:Bool):TD→Option (den K)
 | .one (.c c)=>bif ka then none else qm4 K [c]
 | .one (.agg cs)=>bif ka then qm4 K cs else none
 | _=>none
theorem j0n {ls:List KL} (h:0<ls.length) {ka:Bool} (hka:ka=false→ls.length=1) {i:TD} {s:den (q1m ls)} (hs:jcp (q1m ls) ka i=some s):jkg (eD i)=some (ka,q44 ls s):=by
 have hv : ∀ us:List Value,j63 (us.map fun u=>C.d (.v u))=some us:=fun us=>by
  induction us with
  | nil=>rfl
  | cons u us ih=>show (j63 _).map (u :: ·)=_;rw [ih];rfl
 unfold jcp at hs
 split at hs
 ·rename_i c
  cases ka with
  | true=>cases hs
  | false =>
   simp only [cond_false] at hs
   have h1:=q58 hs
   rw [qga ls h] at h1
   have h2:=jgv ls s
   rw [hka rfl] at h2
   match hvs:q44 ls s,h2 with
   | [v],_ =>
    rw [hvs] at h1
    have h3:eC c = .d (.v v):=(List.cons.inj h1).1
    show jkg (.one (.c (eC c)))=_
    rw [h3];rfl
 ·rename_i cs
  cases ka with
  | false=>cases hs
  | true =>
   simp only [cond_true] at hs
   have h1:=q58 hs
   rw [qga ls h,List.map_map] at h1
   show (j63 (cs.map eC)).map _=_
   rw [h1,show (C.d ∘ Dat.v)=fun u=>C.d (.v u) from rfl,hv];rfl
 ·cases hs
theorem qsr {k:TypeId} {ls:List KL} (h:j42 P k=some (false,ls)):ls.length=1:=by
 unfold j42 at h
 split at h
 ·simp only [Option.some.injEq,Prod.mk.injEq] at h;rw [← h.2];rfl
 ·simp only [Option.some.injEq,Prod.mk.injEq] at h;rw [← h.2];rfl
 ·obtain ⟨l,_,h2⟩:=Option.map_eq_some_iff.1 h
  simp only [Prod.mk.injEq] at h2
  cases h2.1
 ·cases h
def qde (P:Program) (dst:Option Nat) (t:TypeId) (σ:TSt) (k:TRes→Option α):Option α:=match dst,jgi P t with
 | some i,some (T,el,ls)=>match lk σ.boxes i,tyE P el with
  | none,some V=>if i<1000000∧width V=mVw T∧width (q1m ls)=ls.length then k { val:=.one (.c (.mv i)),box:=some (i,(T,[.d (.lst (.prod (q1m ls) V)) ([]:List (den (q1m ls)×den V))])) } else none
  | _,_=>none
 | _,_=>none
theorem qq4 {dst:Option Nat} {t:TypeId} {k:TRes→Option α} {r:α} (h:qde P dst t σ k=some r) : ∃ y,k y=some r∧Sim (q2q P dst t (eS σ).box) y:=by
 unfold qde at h
 split at h
 case h_2=>cases h
 rename_i i T el ls hT
 split at h
 case h_2=>cases h
 rename_i V hb hV
 split at h
 case isFalse=>cases h
 rename_i hc
 refine ⟨_,h,Sim.tr ?_⟩
 simp only [q2q,hT,qgd hb,hc.1,if_true,← hc.2.1,← hc.2.2]
 rfl
def tvD (T:Nat) (V:Ty) (y:den V):TD1:=match mVa T with
 | true=>.agg (qh4 V y)
 | false=>.c (.d V y)
def jgb (ok:Bool) (x:TD1) (b:Bool):TD:=match ok with
 | true=>.tup [x,.c (.d .bool b)]
 | false=>.one x
def jg7:Value→Bool
 | .agg _=>true
 | _=>false
def jmi:TD1→Bool
 | .agg _=>true
 | _=>false
def qja (P:Program) (t:TypeId) (x i:TD) (ok:Bool) (σ:TSt) (k:TRes→Option α):Option α:=match jgi P t,x with
 | some (T,el,ls),.one (.c (.mv β))=>match lk σ.boxes β,jlb P el with
  | some (T',[.d (.lst (.prod K V)) xs]),some z=>if T'=T∧jg7 z=mVa T∧K=q1m ls then
    match qkl z.cells.toList with
    | some zs=>match jcp K (mKa T) i with
     | some s=>match qm4 V zs with
      | some z0=>j7m (jc4 K s (xs:List (den K×den V))) z0 fun y b=>k { val:=jgb ok (tvD T V y) b }
      | none=>bif jg7 z then qmg (jc4 K s (xs:List (den K×den V))) (fun y=>k { val:=jgb ok (tvD T V y) true }) (k { val:=jgb ok (.agg zs) false }) else none
     | none=>none
    | none=>none
   else none
  | _,_=>none
 | _,_=>none
theorem qu3 {t:TypeId} {x i:TD} {ok:Bool} {k:TRes→Option α} {r:α} (h:qja P t x i ok σ k=some r) : ∃ y,k y=some r∧Sim (q1p P t (eD x) (eD i) ok (eS σ).box) y:=by
 unfold qja at h
 split at h
 case h_2=>cases h
 rename_i T el ls β hT
 split at h
 case h_2=>cases h
 rename_i T' K V xs z hb hz
 split at h
 case isFalse=>cases h
 rename_i hc
 obtain ⟨rfl,hag,rfl⟩:=hc
 split at h
 case h_2=>cases h
 rename_i zs hzs
 split at h
 case h_2=>cases h
 rename_i s hs
 rw [j9x] at h
 obtain ⟨kt,ka,vw,va,_,hkl,_,_,_,_,hka,_,_,hl0⟩:=qib hT
 have hkey:=j0n hl0 (fun h0=>by rw [hka] at h0;subst h0;exact qsr hkl) hs
 obtain ⟨q,hfd,hq⟩:=j2p hl0 s (xs:List (den (q1m ls)×den V))
 have hbx:(eS σ).box β=some (T',[.d (.lst (width (.prod (q1m ls) V)) ((xs:List (den (q1m ls)×den V)).map (q02 (.prod (q1m ls) V))))]):=q3k hb
 have hd : ∀ (x:D1) (y:TD1) (b:Bool),x=e1 y→okD ok x b=eD (jgb ok y b):=fun x y b hxy=>by
  subst hxy;cases ok<;>rfl
 have fnd : ∀ y,q0a (q1m ls) s (xs:List (den (q1m ls)×den V))=some y→q1p P t (.one (.c (.mv β))) (eD i) ok (eS σ).box=some (q76 True { val:=jgb ok (tvD T' V y) true }):=fun y hm=>by
  rw [hm] at hq
  obtain ⟨r0,rfl,hr0⟩:=Option.map_eq_some_iff.1 hq
  simp only [q1p,hT,hbx,hz,hkey,jkc,and_self,if_true,hfd]
  rw [hd (vD T' (r0.drop ls.length)) (tvD T' V y) true ?_]
  ·rfl
  ·rw [hr0]
   show vD T' (q02 V y)=_
   unfold vD tvD
   cases mVa T' with
   | true=>show D1.agg _ = .agg _;rw [q4e]
   | false=>rfl
 have nfd : ∀ zt:TD1,of1 z=e1 zt→q0a (q1m ls) s (xs:List (den (q1m ls)×den V))=none→q1p P t (.one (.c (.mv β))) (eD i) ok (eS σ).box=some (q76 True { val:=jgb ok zt false }):=fun zt hzt hm=>by
  rw [hm] at hq
  have hq0:q=none:=by simpa using hq
  subst hq0
  simp only [q1p,hT,hbx,hz,hkey,jkc,and_self,if_true,hfd]
  rw [hd (of1 z) zt false hzt]
  rfl
 split at h
 ·rename_i z0 hz0
  refine ⟨_,h,Sim.tr ?_⟩
  show q1p P t (.one (.c (.mv β))) (eD i) ok (eS σ).box=_
  cases hm:q0a (q1m ls) s (xs:List (den (q1m ls)×den V)) with
  | some y=>exact fnd y hm
  | none =>
   simp only [Option.getD_none,Option.isSome_none]
   refine nfd (tvD T' V z0) ?_ hm
   have h1:=q58 hz0
   rw [q3r hzs] at h1
   unfold tvD
   rw [← hag]
   cases z with
   | agg cs =>
    show D1.agg _ = .agg _
    rw [q4e,← h1];rfl
   | _ =>
    have h2 : [_]=q02 V z0:=jhf (l:=[_]) h1
    show D1.c _ = .c (.d ((q02 V z0).headD _))
    rw [← h2];rfl
 ·cases z with
  | agg cs =>
   replace h:qmg (q0a (q1m ls) s (xs:List (den (q1m ls)×den V))) (fun y=>k { val:=jgb ok (tvD T' V y) true }) (k { val:=jgb ok (.agg zs) false })=some r:=h
   unfold qmg at h
   split at h
   ·rename_i y hy
    exact ⟨_,h,Sim.tr (fnd y hy)⟩
   ·rename_i hn
    refine ⟨_,h,Sim.tr (nfd (.agg zs) ?_ hn)⟩
    show D1.agg (cs.toList.map qhm) = .agg (zs.map eC)
    rw [q3r hzs];rfl
  | _=>cases h
def qr7 (f:Nat):IV:=⟨.func (.func f) #[] #[],rfl⟩
def fnD:TC→TC
 | .fn f []=>.d .any (qr7 f)
 | c=>c
theorem jmj (c:TC):eC (fnD c)=eC c:=by
 unfold fnD
 split
 ·rfl
 ·rfl
theorem jh4 (cs:List TC):(cs.map fnD).map eC=cs.map eC:=by
 rw [List.map_map];exact List.map_congr_left fun c _=>jmj c
def qb7 (P:Program) (t:TypeId) (m i x:TD) (σ:TSt) (k:TRes→Option α):Option α:=match jgi P t,m with
 | some (T,_,ls),.one (.c (.mv β))=>match lk σ.boxes β,x with
  | some (T',[.d (.lst (.prod K V)) xs]),.one y=>if T'=T∧(q4q y).all okT=true∧(q4q y).length=mVw T∧jmi y=mVa T∧K=q1m ls then
    match qm4 V ((q4q y).map fnD),jcp K (mKa T) i with
    | some v,some s=>k { val:=.one (.c .undef),box:=some (β,(T,[.d (.lst (.prod K V)) (jm1 K s v (xs:List (den K×den V)))])) }
    | _,_=>none
   else none
  | _,_=>none
 | _,_=>none
theorem qe9 {t:TypeId} {m i x:TD} {k:TRes→Option α} {r:α} (h:qb7 P t m i x σ k=some r) : ∃ y,k y=some r∧Sim (q20 P t (eD m) (eD i) (eD x) (eS σ).box) y:=by
 unfold qb7 at h
 split at h
 case h_2=>cases h
 rename_i T el ls β hT
 split at h
 case h_2=>cases h
 rename_i T' K V xs y hb
 split at h
 case isFalse=>cases h
 rename_i hc
 obtain ⟨rfl,hok,hlen,hag,rfl⟩:=hc
 split at h
 case h_2=>cases h
 rename_i v s hv hs
 rw [je3] at h
 refine ⟨_,h,Sim.tr ?_⟩
 obtain ⟨kt,ka,vw,va,_,hkl,_,_,_,_,hka,_,_,hl0⟩:=qib hT
 have hkey:=j0n hl0 (fun h0=>by rw [hka] at h0;subst h0;exact qsr hkl) hs
 have hbx:(eS σ).box β=some (T',[.d (.lst (width (.prod (q1m ls) V)) ((xs:List (den (q1m ls)×den V)).map (q02 (.prod (q1m ls) V))))]):=q3k hb
 show q20 P t (.one (.c (.mv β))) (eD i) (.one (e1 y)) (eS σ).box=_
 have h1:(q0g (e1 y)).all okC=true:=by rw [q1j];exact qr4 hok
 have h2:(q0g (e1 y)).length=mVw T':=by rw [q1j,List.length_map];exact hlen
 have h3:jgk (e1 y)=mVa T':=by rw [← hag];cases y<;>rfl
 have h4:(q0g (e1 y)).mapM qff=some (q02 V v):=by rw [q1j,← jh4,q58 hv,q5e]
 generalize e1 y=y1 at h1 h2 h3 h4
 have hput:=j89 hl0 s v (xs:List (den (q1m ls)×den V))
 simp only [q20,hT,hbx,hkey,h1,h2,h3,jkc,and_self,if_true,h4,hput,Option.map_some]
 rfl
def rowD:TD→Bool
 | .one (.c (.row _ _))=>true
 | _=>false
def tev (P:Program) (o:Oper) (σ:TSt) (k:TRes→Option α):Option α:=match o.op with
 | .move x=>w1 (q0m σ x) fun y=>k { val:=y }
 | .assign x=>w1 (q0m σ x) fun y=>k { val:=y }
 | .pick c x y=>w1 (q0m σ c) fun c=>w1 (q0m σ x) fun x=>w1 (q0m σ y) fun y=>qy5 c x y k
 | .alloc t=>qps P o.dst t σ k
 | .box t x=>w1 (q0m σ x) fun x=>jc2 o.dst t x σ k
 | .load t x=>w1 (q0m σ x) fun x=>qyi P t x σ k
 | .store t x y=>w1 (q0m σ x) fun x=>w1 (q0m σ y) fun y=>qq0 P t x y σ k
 | .fieldAddr t x f=>w1 (q0m σ x) fun x=>q84 P t x f k
 | .field t x f=>w1 (q0m σ x) fun x=>qpa P t x f k
 | .index t x i=>w1 (q0m σ x) fun x=>w1 (q0m σ i) fun i=>qr8 P t x i k
 | .indexAddr t x i=>w1 (q0m σ x) fun x=>w1 (q0m σ i) fun i=>q7t P t x i σ k
 | .extract x i=>w1 (q0m σ x) fun x=>qdx x i k
 | .build t ps=>qqz P t ps σ k
 | .buildSlice t n ps=>q6m P o.dst t n ps σ k
 | .binOp op t x y _=>bif qab y then w1 (q0m σ x) fun x=>qxa P op t x k else w1 (q0m σ x) fun x=>w1 (q0m σ y) fun y=>jbu P op t x y k
 | .makeInterface t x=>w1 (q0m σ x) fun x=>qr3 P t x k
 | .unOp op _ x=>w1 (q0m σ x) fun x=>jif op x k
 | .convert s d x=>w1 (q0m σ x) fun x=>bif qpt P s d then qcu P o.dst s d x σ k else qxl P s d x k
 | .slice t x lo hi none=>w1 (q0m σ x) fun x=>w0 σ lo fun lo=>w0 σ hi fun hi=>bif rowD x then qa0 P t x lo hi σ k else qqp P t x lo hi k
 | .nilCheck x=>w1 (q0m σ x) fun x=>j7f x k
 | .call ⟨.builtin .len,⟨[x]⟩,⟨[t]⟩⟩=>w1 (q0m σ x) fun x=>j9p P t x σ k
 | .call ⟨.builtin .append,⟨[s,x]⟩,⟨[t,t']⟩⟩=>if t=t' then w1 (q0m σ s) fun s=>w1 (q0m σ x) fun x=>qj9 P o.dst t s x σ k else none
 | .makeSlice t x y=>bif qf1 x y then w1 (q0m σ x) fun x=>qzn P o.dst t x σ k else none
 | .call ⟨.builtin .max,⟨[x,y]⟩,⟨[_,_]⟩⟩=>w1 (q0m σ x) fun x=>w1 (q0m σ y) fun y=>jf9 max x y k
 | .call ⟨.builtin .min,⟨[x,y]⟩,⟨[_,_]⟩⟩=>w1 (q0m σ x) fun x=>w1 (q0m σ y) fun y=>jf9 min x y k
 | .makeFunc (.func f) ⟨[]⟩ cs=>jmz f (q2v σ cs.toList) k
 | .makeMap t none=>qde P o.dst t σ k
 | .lookup t m i ok=>w1 (q0m σ m) fun m=>w1 (q0m σ i) fun i=>qja P t m i ok σ k
 | .mapUpdate t m i x=>w1 (q0m σ m) fun m=>w1 (q0m σ i) fun i=>w1 (q0m σ x) fun x=>qb7 P t m i x σ k
 | .insert t m i x=>w1 (q0m σ m) fun m=>w1 (q0m σ i) fun i=>w1 (q0m σ x) fun x=>qb7 P t m i x σ k
 | _=>none
theorem j26 {o:Oper} {k:TRes→Option α} {r:α} (h:tev P o σ k=some r) : ∃ y,k y=some r∧Sim (qa2 P o (opnd (eS σ)) (eS σ).box (eS σ).row) y:=by
 unfold tev at h
 unfold qa2
 split at h
 ·rename_i ho;rw [ho]
  obtain ⟨x1,e1',h⟩:=q0b h
  exact ⟨_,h,Sim.tr (by show some _=_;rw [q06 e1'];rfl)⟩
 ·rename_i ho;rw [ho]
  obtain ⟨x1,e1',h⟩:=q0b h
  exact ⟨_,h,Sim.tr (by show some _=_;rw [q06 e1'];rfl)⟩
 ·rename_i ho;rw [ho]
  obtain ⟨x1,e1',h⟩:=q0b h
  obtain ⟨x2,e2',h⟩:=q0b h
  obtain ⟨x3,e3',h⟩:=q0b h
  show ∃ y,_∧Sim (qn6 _ _ _) y
  rw [q06 e1',q06 e2',q06 e3'];exact j5s h
 ·rename_i ho;rw [ho]
  exact qxb h
 ·rename_i ho;rw [ho]
  obtain ⟨x1,e1',h⟩:=q0b h
  show ∃ y,_∧Sim (qhp _ _ _ _) y
  rw [q06 e1'];exact j66 h
 ·rename_i ho;rw [ho]
  obtain ⟨x1,e1',h⟩:=q0b h
  show ∃ y,_∧Sim (q5o _ _ _ _ _) y
  rw [q06 e1'];exact j4u h
 ·rename_i ho;rw [ho]
  obtain ⟨x1,e1',h⟩:=q0b h
  obtain ⟨x2,e2',h⟩:=q0b h
  show ∃ y,_∧Sim (q2d _ _ _ _ _ _) y
  rw [q06 e1',q06 e2'];exact qyh h
 ·rename_i ho;rw [ho]
  obtain ⟨x1,e1',h⟩:=q0b h
  show ∃ y,_∧Sim (q1i _ _ _ _) y
  rw [q06 e1'];exact qiy h
 ·rename_i ho;rw [ho]
  obtain ⟨x1,e1',h⟩:=q0b h
  show ∃ y,_∧Sim (q7h _ _ _ _) y
  rw [q06 e1'];exact qxd h
 ·rename_i ho;rw [ho]
  obtain ⟨x1,e1',h⟩:=q0b h
  obtain ⟨x2,e2',h⟩:=q0b h
  show ∃ y,_∧Sim (q3g _ _ _ _) y
  rw [q06 e1',q06 e2'];exact qz3 h
 ·rename_i ho;rw [ho]
  obtain ⟨x1,e1',h⟩:=q0b h
  obtain ⟨x2,e2',h⟩:=q0b h
  show ∃ y,_∧Sim (q0p _ _ _ _ _) y
  rw [q06 e1',q06 e2'];exact qjb h
 ·rename_i ho;rw [ho]
  obtain ⟨x1,e1',h⟩:=q0b h
  show ∃ y,_∧Sim (q45 _ _) y
  rw [q06 e1'];exact qpv h
 ·rename_i ho;rw [ho]
  exact qz5 h
 ·rename_i ho;rw [ho]
  exact qfg h
 ·rename_i ho;rw [ho]
  show ∃ y,_∧Sim (bif qab _ then qeb _ _ _ _ else q7s _ _ _ _ _) y
  cases hn:qab _ with
  | true =>
   rw [hn] at h
   obtain ⟨x1,e1',h⟩:=q0b h
   rw [q06 e1'];exact j5c h
  | false =>
   rw [hn] at h
   obtain ⟨x1,e1',h⟩:=q0b h
   obtain ⟨x2,e2',h⟩:=q0b h
   rw [q06 e1',q06 e2'];exact jak h
 ·rename_i ho;rw [ho]
  obtain ⟨x1,e1',h⟩:=q0b h
  show ∃ y,_∧Sim (q9y _ _ _) y
  rw [q06 e1'];exact qzr h
 ·rename_i ho;rw [ho]
  obtain ⟨x1,e1',h⟩:=q0b h
  show ∃ y,_∧Sim (jka _ _) y
  rw [q06 e1'];exact jdy h
 ·rename_i ho;rw [ho]
  obtain ⟨x1,e1',h⟩:=q0b h
  show ∃ y,_∧Sim (match q9m _ _ _ _ with|some r=>some r|none=>q27 _ _ _ _ _ _) y
  rw [q06 e1']
  cases hb:qpt P _ _ with
  | true =>
   rw [hb] at h
   rw [qzu hb]
   exact qrj h
  | false =>
   rw [hb] at h
   obtain ⟨y,h1,c,h2,h3⟩:=j40 (P:=P) h
   rw [h3]
   exact ⟨y,h1,c,h2,rfl⟩
 ·rename_i ho;rw [ho]
  obtain ⟨x1,e1',h⟩:=q0b h
  obtain ⟨x2,e2',h⟩:=j6l h
  obtain ⟨x3,e3',h⟩:=j6l h
  show ∃ y,_∧Sim (match q49 _ _ _ _ _ with|some r=>some r|none=>q22 _ _ _ _ _ _) y
  rw [q06 e1',e2',e3']
  cases hb:rowD x1 with
  | true =>
   rw [hb] at h
   obtain ⟨y,h1,h2,h3⟩:=qmc (P:=P) h
   rw [h2]
   exact ⟨y,h1,h3⟩
  | false =>
   rw [hb] at h
   obtain ⟨y,h1,c,h2,h3⟩:=qzo (P:=P) h
   rw [h3]
   exact ⟨y,h1,c,h2,rfl⟩
 ·rename_i ho;rw [ho]
  obtain ⟨x1,e1',h⟩:=q0b h
  show ∃ y,_∧Sim (jb7 _) y
  rw [q06 e1'];exact jal h
 ·rename_i ho;rw [ho]
  obtain ⟨x1,e1',h⟩:=q0b h
  show ∃ y,_∧Sim (qd9 _ _ _ _) y
  rw [q06 e1'];exact jar h
 ·rename_i ho;rw [ho]
  split at h
  case isFalse=>cases h
  rename_i ht
  obtain ⟨x1,e1',h⟩:=q0b h
  obtain ⟨x2,e2',h⟩:=q0b h
  show ∃ y,_∧Sim (if _=_ then q1y _ _ _ _ _ _ else none) y
  rw [if_pos ht,q06 e1',q06 e2'];exact qve h
 ·rename_i ho;rw [ho]
  cases hs:qf1 _ _ with
  | false=>rw [hs] at h;cases h
  | true =>
   rw [hs] at h
   obtain ⟨x1,e1',h⟩:=q0b h
   show ∃ y,_∧Sim (bif qf1 _ _ then qb6 _ _ _ _ _ else none) y
   rw [hs,q06 e1'];exact j3t h
 ·rename_i ho;rw [ho]
  obtain ⟨x1,e1',h⟩:=q0b h
  obtain ⟨x2,e2',h⟩:=q0b h
  show ∃ y,_∧Sim (jcl _ _ _) y
  rw [q06 e1',q06 e2'];exact j12 h
 ·rename_i ho;rw [ho]
  obtain ⟨x1,e1',h⟩:=q0b h
  obtain ⟨x2,e2',h⟩:=q0b h
  show ∃ y,_∧Sim (jcl _ _ _) y
  rw [q06 e1',q06 e2'];exact j12 h
 ·rename_i f cs ho;rw [ho]
  unfold jmz at h
  split at h
  case h_2=>cases h
  rename_i ds hds
  split at h
  case h_2=>cases h
  rename_i c cs' hc
  refine ⟨_,h,Sim.tr ?_⟩
  show jm7 f (cs.toList.map (opnd (eS σ)))=_
  rw [qca hds]
  unfold jm7
  rw [qwc hc]
  rfl
 ·rename_i ho;rw [ho]
  exact qq4 h
 ·rename_i ho;rw [ho]
  obtain ⟨x1,e1',h⟩:=q0b h
  obtain ⟨x2,e2',h⟩:=q0b h
  show ∃ y,_∧Sim (q1p _ _ _ _ _ _) y
  rw [q06 e1',q06 e2'];exact qu3 h
 ·rename_i ho;rw [ho]
  obtain ⟨x1,e1',h⟩:=q0b h
  obtain ⟨x2,e2',h⟩:=q0b h
  obtain ⟨x3,e3',h⟩:=q0b h
  show ∃ y,_∧Sim (q20 _ _ _ _ _ _) y
  rw [q06 e1',q06 e2',q06 e3'];exact qe9 h
 ·rename_i ho;rw [ho]
  obtain ⟨x1,e1',h⟩:=q0b h
  obtain ⟨x2,e2',h⟩:=q0b h
  obtain ⟨x3,e3',h⟩:=q0b h
  show ∃ y,_∧Sim (q20 _ _ _ _ _ _) y
  rw [q06 e1',q06 e2',q06 e3'];exact qe9 h
 ·cases h
end Go.Proofs.YtapfankgdkdkgaaGreatDoor.AM
