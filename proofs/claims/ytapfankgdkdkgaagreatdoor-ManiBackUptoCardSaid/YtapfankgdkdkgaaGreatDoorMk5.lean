
import Derived.Test.YtapfankgdkdkgaaGreatDoorMk4
namespace Go.Proofs.YtapfankgdkdkgaaGreatDoor.AM
open Go.RowKit
set_option linter.unusedVariables false
set_option linter.unusedSimpArgs false
variable {α:Type} {P:Program} {σ:TSt}
def jsi (d:Int):Option TD→Option Int
 | none=>some d
 | some (.one (.c (.d (.int _) n)))=>some n
 | some _=>none
theorem qjz {d n:Int} {x:Option TD} (h:jsi d x=some n):bnd d (x.map eD)=some n:=by
 unfold jsi at h
 split at h
 ·simp only [Option.some.injEq] at h;subst h;rfl
 ·simp only [Option.some.injEq] at h;subst h;rfl
 ·cases h
def j07 (P:Program) (t:TypeId) (x:TD) (lo hi:Option TD) (k:TRes→Option α):Option α:=match P.underlying t,x with
 | some .string,.one (.c (.d .str s))=>match jsi 0 lo,jsi (List.length s) hi with
  | some l,some h=>(q2i s l h).bind fun y=>k { val:=.one (.c (.d .str y)) }
  | _,_=>none
 | some (.slice el),.one (.c (.d (.lst e) xs))=>match jsi 0 lo,jsi (List.length xs) hi with
  | some l,some h=>if tsz P el=some (width e) then (q2i xs l h).bind fun y=>k { val:=.one (.c (.d (.lst e) y)) } else none
  | _,_=>none
 | _,_=>none
theorem qq1 {β:Type} {l:List β} {a b:Int} {y:List β} (h:q2i l a b=some y):(0≤a∧a≤b∧b≤l.length)∧y=(l.drop a.toNat).take (b.toNat - a.toNat):=by
 unfold q2i at h
 split at h
 case isFalse=>cases h
 rename_i hc
 simp only [Option.some.injEq] at h
 exact ⟨hc,h.symm⟩
theorem q2y (s:List UInt8):(ba s).size=s.length:=by simp [ba,ByteArray.size]
theorem qj1 (s:List UInt8) (a b:Nat):(ba s).extract a b=ba ((s.drop a).take (b - a)):=by
 unfold ba
 apply ByteArray.ext
 rw [ByteArray.data_extract]
 apply Array.toList_inj.1
 rw [Array.toList_extract,List.extract_eq_take_drop]
theorem j9v {t:TypeId} {x:TD} {lo hi:Option TD} {k:TRes→Option α} {r:α} (h:j07 P t x lo hi k=some r) : ∃ y,k y=some r∧Sim (q6l P t (eD x) (lo.map eD) (hi.map eD)) y:=by
 unfold j07 at h
 split at h
 ·rename_i s hu
  split at h
  case h_2=>cases h
  rename_i l hh hl hhh
  obtain ⟨y,hy,h⟩:=Option.bind_eq_some_iff.1 h
  obtain ⟨h1,rfl⟩:=qq1 hy
  refine ⟨_,h,_,h1,?_⟩
  simp only [q6l,eD,e1,eC,q03,List.headD_cons,hu,qjz hl,qj1,q2y,qjz hhh]
  rfl
 ·rename_i el e xs hu
  split at h
  case h_2=>cases h
  rename_i l hh hl hhh
  split at h
  case isFalse=>cases h
  rename_i hsz
  obtain ⟨y,hy,h⟩:=Option.bind_eq_some_iff.1 h
  obtain ⟨h1,rfl⟩:=qq1 hy
  refine ⟨_,h,_,h1,?_⟩
  simp only [q6l,eD,e1,eC,q03,List.headD_cons,hu,qjz hl,hsz,if_true,List.length_map,← List.map_drop,← List.map_take,qjz hhh]
  rfl
 ·cases h
def qev (P:Program) (t:TypeId) (x:TD) (lo hi:Option TD) (σ:TSt) (k:TRes→Option α):Option α:=match P.underlying t,x with
 | some (.slice el),.one (.c (.row tt g))=>match lk σ.rows tt with
  | some r=>match jsi 0 lo,jsi (List.length r.xs) hi with
   | some l,some h=>if r.gen=g∧tsz P el=some (width r.e) then (q2i r.xs l h).bind fun y=>k { val:=.one (.c (.d (.lst r.e) y)),row:=some (tt,{ r with wr:=false }) } else none
   | _,_=>none
  | none=>none
 | _,_=>none
theorem ja7 {t:TypeId} {tt g:Nat} {lo hi:Option D} : q6l P t (.one (.c (.row tt g))) lo hi=none:=by
 unfold q6l
 split
 ·rename_i h;cases h
 ·rename_i h;cases h
 ·rfl
theorem qu8 {t:TypeId} {x:TD} {lo hi:Option TD} {k:TRes→Option α} {r:α} (h:qev P t x lo hi σ k=some r) : ∃ y,k y=some r∧q6l P t (eD x) (lo.map eD) (hi.map eD)=none∧Sim (q2v P t (eD x) (lo.map eD) (hi.map eD) (eS σ).row) y:=by
 unfold qev at h
 split at h
 case h_2=>cases h
 rename_i el tt g hu
 split at h
 case h_2=>cases h
 rename_i r' hr
 split at h
 case h_2=>cases h
 rename_i l hh hl hhh
 split at h
 case isFalse=>cases h
 rename_i hg
 obtain ⟨y,hy,h⟩:=Option.bind_eq_some_iff.1 h
 obtain ⟨h1,rfl⟩:=qq1 hy
 refine ⟨_,h,ja7,_,h1,?_⟩
 have hlen:(eR r').xs.length=r'.xs.length:=by simp [eR]
 obtain ⟨rfl,hsz⟩:=hg
 have hg':(eR r').gen=r'.gen∧tsz P el=some (eR r').sz:=⟨rfl,hsz⟩
 simp only [q2v,eD,e1,eC,hu,q2z hr,qjz hl,hlen,qjz hhh]
 rw [if_pos hg']
 have e2:((eR r').xs.drop l.toNat).take (hh.toNat - l.toNat)=((r'.xs.drop l.toNat).take (hh.toNat - l.toNat)).map (q03 r'.e):=by simp [eR]
 rw [e2]
 rfl
def jhq (x:TD) (k:TRes→Option α):Option α:=match x with
 | .one (.c (.box β o))=>k { val:=.one (.c (.box β o)) }
 | .one (.c (.rp e o y))=>k { val:=.one (.c (.rp e o y)) }
 | .one (.c (.wp t g j o))=>k { val:=.one (.c (.wp t g j o)) }
 | .one (.c (.bp β o l n))=>k { val:=.one (.c (.bp β o l n)) }
 | _=>none
theorem jlb {x:TD} {k:TRes→Option α} {r:α} (h:jhq x k=some r) : ∃ y,k y=some r∧Sim (jk3 (eD x)) y:=by
 unfold jhq at h
 split at h
 ·exact ⟨_,h,Sim.tr rfl⟩
 ·exact ⟨_,h,Sim.tr rfl⟩
 ·exact ⟨_,h,Sim.tr rfl⟩
 ·exact ⟨_,h,Sim.tr rfl⟩
 ·cases h
def jk1 (P:Program) (t:TypeId) (x:TD) (σ:TSt) (k:TRes→Option α):Option α:=match P.underlying t,x with
 | some .string,.one (.c (.d .str s))=>k { val:=.one (.c (.d (.int .i64) (List.length s:Nat))) }
 | some (.slice _),.one (.c (.d (.lst _) xs))=>k { val:=.one (.c (.d (.int .i64) (List.length xs:Nat))) }
 | some (.slice _),.one (.c .nil)=>k { val:=.one (.c (.d (.int .i64) (0:Int))) }
 | some (.slice _),.one (.c (.row tt g))=>match lk σ.rows tt with
  | some r=>if r.gen=g then k { val:=.one (.c (.d (.int .i64) (List.length r.xs:Nat))) } else none
  | none=>none
 | _,_=>none
theorem jlv {t:TypeId} {x:TD} {k:TRes→Option α} {r:α} (h:jk1 P t x σ k=some r) : ∃ y,k y=some r∧Sim (qj5 P t (eD x) (eS σ).row) y:=by
 unfold jk1 at h
 split at h
 ·rename_i s hu
  refine ⟨_,h,Sim.tr ?_⟩
  simp only [qj5,eD,e1,eC,q03,List.headD_cons,hu,q2y]
  rfl
 ·rename_i el e xs hu
  refine ⟨_,h,Sim.tr ?_⟩
  simp only [qj5,eD,e1,eC,q03,List.headD_cons,hu,List.length_map]
  rfl
 ·rename_i el hu
  refine ⟨_,h,Sim.tr ?_⟩
  simp only [qj5,eD,e1,eC,hu]
  rfl
 ·rename_i el tt g hu
  split at h
  case h_2=>cases h
  rename_i r' hr
  split at h
  case isFalse=>cases h
  rename_i hg
  refine ⟨_,h,Sim.tr ?_⟩
  have hg':(eR r').gen=g:=hg
  simp only [qj5,eD,e1,eC,hu,q2z hr,hg',if_true]
  have:(eR r').xs.length=r'.xs.length:=by simp [eR]
  rw [this]
  rfl
 ·cases h
def j48 (place:Nat→Option (Nat×Nat)) (cs:List TC):List (Nat×List TC)→Option (List TC)
 | []=>some cs
 | (i,xs)::rest=>match place i with
  | some (off,size)=>if xs.length=size∧off+xs.length≤cs.length then j48 place (setAt cs off xs) rest else none
  | none=>none
def eQ (q:Nat×List TC):Nat×List C:=(q.1,q.2.map eC)
theorem qg1 {place:Nat→Option (Nat×Nat)} : ∀ {qs:List (Nat×List TC)} {cs cs':List TC},j48 place cs qs=some cs'→qig place (cs.map eC) (qs.map eQ)=some (cs'.map eC)
 | [],cs,cs',h=>by simp only [j48,Option.some.injEq] at h;subst h;rfl
 | (i,xs)::rest,cs,cs',h=>by
  unfold j48 at h
  split at h
  case h_2=>cases h
  rename_i off size hp
  split at h
  case isFalse=>cases h
  rename_i hc
  have h3:=qg1 h
  rw [qb8] at h3
  show (match place i with|some (off,size)=>if (xs.map eC).length=size∧off+(xs.map eC).length≤(cs.map eC).length then qig place (setAt (cs.map eC) off (xs.map eC)) (rest.map eQ) else none|none=>none)=_
  rw [hp]
  simp only [List.length_map]
  rw [if_pos hc,h3]
def jkh (P:Program) (t:TypeId) (parts:List (Nat×List TC)):Option (List TC):=match qr0 P t,layT P t,arrT P t with
 | some z,some pl,_=>match qs1 z with
  | some cs=>if z.all Value.oneCell'=true then j48 (fun i=>nth pl i) cs parts else none
  | none=>none
 | some z,none,some n=>match qs1 z with
  | some cs=>if z.all Value.oneCell'=true then j48 (fun i=>some (i*n,n)) cs parts else none
  | none=>none
 | _,_,_=>none
theorem jm1 {t:TypeId} {parts:List (Nat×List TC)} {cs:List TC} (h:jkh P t parts=some cs):qrc P t (parts.map eQ)=some (cs.map eC):=by
 unfold jkh at h
 split at h
 ·rename_i z pl hz hl
  split at h
  case h_2=>cases h
  rename_i cs0 hcs
  split at h
  case isFalse=>cases h
  rename_i ha
  have:=qg1 h
  rw [q5k hcs] at this
  simp only [qrc,hz,hl,ha,if_true]
  rw [← this]
  congr 1
  funext i
  rw [q57];simp
 ·rename_i z n hz hl hn
  split at h
  case h_2=>cases h
  rename_i cs0 hcs
  split at h
  case isFalse=>cases h
  rename_i ha
  have:=qg1 h
  rw [q5k hcs] at this
  simp only [qrc,hz,hl,hn,ha,if_true]
  exact this
 ·cases h
def qo4 (σ:TSt):List (Nat×Operand)→Option (List (Nat×List TC))
 | []=>some []
 | (i,x)::rest=>match q0u σ x,qo4 σ rest with
  | some (.one d),some r=>if (q7n d).all okT=true then some ((i,q7n d)::r) else none
  | _,_=>none
theorem qh4 : ∀ {ps:List (Nat×Operand)} {qs:List (Nat×List TC)},qo4 σ ps=some qs→qao (opnd (eS σ)) ps=some (qs.map eQ)
 | [],qs,h=>by simp only [qo4,Option.some.injEq] at h;subst h;rfl
 | (i,x)::ps,qs,h=>by
  unfold qo4 at h
  split at h
  case h_2=>cases h
  rename_i d r hd hr
  split at h
  case isFalse=>cases h
  rename_i ha
  simp only [Option.some.injEq] at h
  subst h
  have h1:=q06 hd
  have h2:=qh4 hr
  have ha':(q0l (e1 d)).all okC=true:=by rw [q2a];exact qxj ha
  unfold qao
  rw [h1,h2]
  show (if (q0l (e1 d)).all okC=true then _ else _)=_
  rw [if_pos ha',q2a]
  rfl
def qyo (P:Program) (t:TypeId) (ps:Array (Nat×Operand)) (σ:TSt) (k:TRes→Option α):Option α:=match qo4 σ ps.toList with
 | some qs=>match jkh P t qs with
  | some cs=>k { val:=.one (.agg cs) }
  | none=>none
 | none=>none
theorem jah {t:TypeId} {ps:Array (Nat×Operand)} {k:TRes→Option α} {r:α} (h:qyo P t ps σ k=some r) : ∃ y,k y=some r∧Sim (qeg P t ps (opnd (eS σ))) y:=by
 unfold qyo at h
 split at h
 case h_2=>cases h
 rename_i qs hqs
 split at h
 case h_2=>cases h
 rename_i cs hcs
 exact ⟨_,h,Sim.tr (by simp only [qeg,qh4 hqs,jm1 hcs,qar,eD,e1,Option.map_none])⟩
def jxl (f:TypeId→Option (List Ty)):List Field→Option (List Ty)
 | []=>some []
 | fd::fs=>match f fd.type,jxl f fs with
  | some a,some b=>some (a++b)
  | _,_=>none
def jwk:List Ty→Option Ty
 | []=>none
 | [t]=>some t
 | t::t'::ts=>(jwk (t'::ts)).map (.prod t)
def tysP (P:Program):Nat→TypeId→Option (List Ty)
 | 0,_=>none
 | n+1,t=>match P.underlying t with
  | some (.int k)=>some [.int k]
  | some .bool=>some [.bool]
  | some .string=>some [.str]
  | some (.slice e)=>((tysP P n e).bind jwk).map fun x=>[.lst x]
  | some (.struct fs)=>jxl (tysP P n) fs.toList
  | some (.interface _)=>some [.any]
  | some (.func _ _ _)=>some [.any]
  | some (.pointer _)=>some [.any]
  | _=>none
def tyE (P:Program) (t:TypeId):Option Ty:=(tysP P 9 t).bind jwk
def j9g (e:Ty):Nat→List TC→Option (List (den e))
 | 0,[]=>some []
 | 0,_::_=>none
 | n+1,cs=>match qun e (cs.take (width e)),j9g e n (cs.drop (width e)) with
  | some x,some xs=>some (x::xs)
  | _,_=>none
theorem qyr {e:Ty} : ∀ {n:Nat} {cs:List TC} {xs:List (den e)},j9g e n cs=some xs→cs.map eC=((xs.map (q03 e)).flatten).map C.d∧chunk (width e) n (xs.map (q03 e)).flatten=xs.map (q03 e)
 | 0,[],xs,h=>by simp only [j9g,Option.some.injEq] at h;subst h;exact ⟨rfl,rfl⟩
 | 0,_::_,xs,h=>by simp [j9g] at h
 | n+1,cs,xs,h=>by
  unfold j9g at h
  split at h
  case h_2=>cases h
  rename_i y ys hy hys
  simp only [Option.some.injEq] at h
  subst h
  obtain ⟨h1,h2⟩:=qyr hys
  have h3:=q77 hy
  refine ⟨?_,?_⟩
  ·rw [List.map_cons,List.flatten_cons,List.map_append,← h3,← h1,← List.map_append,List.take_append_drop]
  ·rw [List.map_cons,List.flatten_cons,chunk,List.take_append_of_le_length (by rw [q1n];exact Nat.le_refl _),List.take_of_length_le (by rw [q1n];exact Nat.le_refl _),List.drop_append_of_le_length (by rw [q1n];exact Nat.le_refl _),List.drop_eq_nil_of_le (by rw [q1n];exact Nat.le_refl _),List.nil_append,h2]
theorem qpn {β γ:Type} (f:β→γ) (z:List β) : ∀ n,(rep z n).map f=rep (z.map f) n
 | 0=>rfl
 | n+1=>by rw [rep,rep,List.map_append,qpn f z n]
def q9l (P:Program) (dst:Option Nat) (t:TypeId) (n:Nat) (ps:Array (Nat×Operand)) (σ:TSt) (k:TRes→Option α):Option α:=match P.underlying t,dst with
 | some (.slice el),some i=>match lk σ.rows i,qr0 P el,tyE P el,qo4 σ ps.toList with
  | none,some z,some e,some qs=>match qs1 z with
   | some zt=>if tsz P el=some (width e)∧n*width e≤2 ^ 24∧n≤2 ^ 24∧z.length=width e∧0<width e∧z.all Value.oneCell'=true∧el<1099511627776 then match j48 (fun i=>some (i*width e,width e)) (rep zt n) qs with
     | some cs=>match j9g e n cs with
      | some xs=>k { val:=.one (.c (.row i 0)),row:=some (i,⟨0,el,true,e,xs⟩) }
      | none=>none
     | none=>none
    else none
   | none=>none
  | _,_,_,_=>none
 | _,_=>none
theorem qmi {dst:Option Nat} {t:TypeId} {n:Nat} {ps:Array (Nat×Operand)} {k:TRes→Option α} {r:α} (h:q9l P dst t n ps σ k=some r) : ∃ y,k y=some r∧Sim (q0z P dst t n ps (opnd (eS σ)) (eS σ).row) y:=by
 unfold q9l at h
 split at h
 case h_2=>cases h
 rename_i el i hu
 split at h
 case h_2=>cases h
 rename_i z e qs hr hz he hqs
 split at h
 case h_2=>cases h
 rename_i zt hzt
 split at h
 case isFalse=>cases h
 rename_i hc
 obtain ⟨c1,c2,c3,c4,c5,c6,c7⟩:=hc
 split at h
 case h_2=>cases h
 rename_i cs hcs
 split at h
 case h_2=>cases h
 rename_i xs hxs
 obtain ⟨k1,k2⟩:=qyr hxs
 have h2:=qg1 hcs
 rw [qpn,q5k hzt,← qpn] at h2
 refine ⟨_,h,Sim.tr ?_⟩
 simp only [q0z,hu,q9a hr,c1,hz,qh4 hqs]
 rw [if_pos ⟨c2,c3,c4,c5,c6,c7⟩,h2]
 simp only [k1,q8q,k2,qar,eD,e1,eC,Option.map_none,Option.map_some,eR]
def srcT (x:TD) (σ:TSt):Option ((e:Ty)×List (den e)):=match x with
 | .one (.c (.d (.lst e) xs))=>some ⟨e,xs⟩
 | .one (.c (.row t g))=>match lk σ.rows t with
  | some r=>if r.gen=g then some ⟨r.e,r.xs⟩ else none
  | none=>none
 | _=>none
theorem jiy {x:TD} {s:(e:Ty)×List (den e)} (h:srcT x σ=some s):qmm (width s.1) (eD x) (eS σ).row=some (s.2.map (q03 s.1)):=by
 unfold srcT at h
 split at h
 ·simp only [Option.some.injEq] at h;subst h
  simp only [qmm,eD,e1,eC,q03,List.headD_cons,if_true]
 ·split at h
  case h_2=>cases h
  rename_i r hr
  split at h
  case isFalse=>cases h
  rename_i hg
  simp only [Option.some.injEq] at h;subst h
  have hg':(eR r).gen=_∧(eR r).sz=width r.e:=⟨hg,rfl⟩
  simp only [qmm,eD,e1,eC,q2z hr]
  rw [if_pos hg'];rfl
 ·cases h
def qr5 (P:Program) (dst:Option Nat) (t:TypeId) (s x:TD) (σ:TSt) (k:TRes→Option α):Option α:=match P.underlying t with
 | some (.slice el)=>match jhs P el,srcT x σ with
  | some (m,bytes),some src=>if m=width src.1 then match s with
    | .one (.c (.row tt g))=>match lk σ.rows tt with
     | some r=>if h:src.1=r.e then if r.gen=g∧r.E=el then
       (q3e bytes r.xs (h ▸ src.2)).bind fun ys=>k { val:=.one (.c (.row tt (g+1))),row:=some (tt,{ r with gen:=g+1,xs:=ys }) } else none else none
     | none=>none
    | .one (.c .nil)=>match dst with
     | some i=>match lk σ.rows i with
      | none=>(q3e bytes [] src.2).bind fun ys=>k { val:=.one (.c (.row i 0)),row:=some (i,⟨0,el,true,src.1,ys⟩) }
      | some _=>none
     | none=>none
    | _=>none
   else none
  | _,_=>none
 | _=>none
theorem j3d {β:Type} {b:Nat} {xs ys zs:List β} (h:q3e b xs ys=some zs):(xs.length+ys.length)*b≤140737488355328∧zs=xs++ys:=by
 unfold q3e at h
 split at h
 case isFalse=>cases h
 rename_i hc
 exact ⟨hc,(Option.some.inj h).symm⟩
theorem j4q {dst:Option Nat} {t:TypeId} {s x:TD} {k:TRes→Option α} {r:α} (h:qr5 P dst t s x σ k=some r) : ∃ y,k y=some r∧Sim (q2x P dst t (eD s) (eD x) (eS σ).row) y:=by
 unfold qr5 at h
 split at h
 case h_2=>cases h
 rename_i el hu
 split at h
 case h_2=>cases h
 rename_i m bytes src hel hsrc
 split at h
 case isFalse=>cases h
 rename_i hm
 subst hm
 have h1:=jiy hsrc
 split at h
 ·rename_i tt g
  split at h
  case h_2=>cases h
  rename_i r' hr
  split at h
  case isFalse=>cases h
  rename_i he
  split at h
  case isFalse=>cases h
  rename_i hg
  obtain ⟨e',ys⟩:=src
  obtain ⟨gen,E,wr,e,xs⟩:=r'
  have he':e'=e:=he
  subst he'
  obtain ⟨hg1,hg2⟩:=hg
  have hg1':gen=g:=hg1
  have hg2':E=el:=hg2
  subst hg1' hg2'
  obtain ⟨zs,hz,h⟩:=Option.bind_eq_some_iff.1 h
  obtain ⟨c1,rfl⟩:=j3d hz
  refine ⟨_,h,_,c1,?_⟩
  simp only at h1
  show q2x P dst t (.one (.c (.row tt gen))) (eD x) _=_
  generalize eD x=y at h1
  simp only [q2x,hu,hel,h1,eD,e1,eC,q2z hr,eR,and_self,if_true,qar,Option.map_none,Option.map_some,List.map_append,List.length_map]
 ·split at h
  case h_2=>cases h
  rename_i i
  split at h
  case h_2=>cases h
  rename_i hr
  obtain ⟨e',ys⟩:=src
  obtain ⟨zs,hz,h⟩:=Option.bind_eq_some_iff.1 h
  obtain ⟨c1,hzz⟩:=j3d hz
  have hzz':zs=ys:=hzz
  clear hzz hz
  rw [hzz'] at h
  clear hzz' zs
  refine ⟨_,h,_,c1,?_⟩
  simp only at h1
  show q2x P (some i) t (.one (.c (.d (.v (.slice none 0 0))))) (eD x) _=_
  generalize eD x=y at h1
  simp only [q2x,hu,hel,h1,eD,e1,eC,q9a hr,eR,qar,Option.map_none,Option.map_some,List.map_append,List.length_map,List.nil_append,List.length_nil,Nat.zero_add]
 ·cases h
end Go.Proofs.YtapfankgdkdkgaaGreatDoor.AM
namespace Go.Proofs.YtapfankgdkdkgaaGreatDoor.AM
open Go.RowKit
set_option linter.unusedVariables false
set_option linter.unusedSimpArgs false
variable {α:Type} {P:Program} {σ:TSt}
def intT (op:BinOp) (k k':IntKind) (a b:Int) (c:TC→Option α):Option α:=match op with
 | .shl=>(shlO k a b).bind fun z=>c (.d (.int k) z)
 | .shr=>(shrO k a b).bind fun z=>c (.d (.int k) z)
 | .add=>if k=k' then q08 (k.wrap (a+b)) fun z=>c (.d (.int k) z) else none
 | .sub=>if k=k' then q08 (k.wrap (a - b)) fun z=>c (.d (.int k) z) else none
 | .mul=>if k=k' then q08 (k.wrap (a*b)) fun z=>c (.d (.int k) z) else none
 | .quo=>if k=k' then (jwu k a b).bind fun z=>c (.d (.int k) z) else none
 | .rem=>if k=k' then (jsb a b).bind fun z=>c (.d (.int k) z) else none
 | .and=>if k=k' then q08 (andI k a b) fun z=>c (.d (.int k) z) else none
 | .or=>if k=k' then q08 (orI k a b) fun z=>c (.d (.int k) z) else none
 | .xor=>if k=k' then q08 (xorI k a b) fun z=>c (.d (.int k) z) else none
 | .eql=>if k=k' then c (.d .bool (decide (a=b))) else none
 | .neq=>if k=k' then c (.d .bool (!decide (a=b))) else none
 | .lss=>if k=k' then c (.d .bool (decide (a<b))) else none
 | .leq=>if k=k' then c (.d .bool (decide (a≤b))) else none
 | .gtr=>if k=k' then c (.d .bool (decide (b<a))) else none
 | .geq=>if k=k' then c (.d .bool (decide (b≤a))) else none
 | _=>none
def strT (op:BinOp) (s t:List UInt8) (c:TC→Option α):Option α:=match op with
 | .add=>(qc4 s t).bind fun z=>c (.d .str z)
 | .eql=>c (.d .bool (decide (s=t)))
 | .neq=>c (.d .bool (!decide (s=t)))
 | .lss=>c (.d .bool (ltS s t))
 | .leq=>c (.d .bool (ltS s t||decide (s=t)))
 | .gtr=>c (.d .bool (!(ltS s t||decide (s=t))))
 | .geq=>c (.d .bool (!ltS s t))
 | _=>none
def vC (c:TC):TRes:={ val:=.one (.c c) }
theorem juu {op:BinOp} {T:TypeId} {k k':IntKind} {a b:Int} {c:TC→Option α} {r:α} (h:intT op k k' a b c=some r) :
  ∃ x,c x=some r∧Sim (qbb P op T (.one (.c (.d (.v (.int k a))))) (.one (.c (.d (.v (.int k' b)))))) (vC x):=by
 unfold intT at h
 split at h
 case h_1 =>
  obtain ⟨z,hz,h⟩:=Option.bind_eq_some_iff.1 h
  unfold shlO at hz
  split at hz
  case isFalse=>cases hz
  rename_i hb
  simp only [Option.some.injEq] at hz;subst hz
  exact ⟨_,h,_,hb,rfl⟩
 case h_2 =>
  obtain ⟨z,hz,h⟩:=Option.bind_eq_some_iff.1 h
  unfold shrO at hz
  split at hz
  case isFalse=>cases hz
  rename_i hb
  simp only [Option.some.injEq] at hz;subst hz
  exact ⟨_,h,_,hb,rfl⟩
 case h_6 =>
  split at h
  case isFalse=>cases h
  rename_i hk;subst hk
  obtain ⟨z,hz,h⟩:=Option.bind_eq_some_iff.1 h
  unfold jwu at hz
  split at hz
  case isFalse=>cases hz
  rename_i hb
  simp only [Option.some.injEq] at hz;subst hz
  refine ⟨_,h,_,hb,?_⟩
  simp only [qbb,if_true,qnx,Option.map_some];rfl
 case h_7 =>
  split at h
  case isFalse=>cases h
  rename_i hk;subst hk
  obtain ⟨z,hz,h⟩:=Option.bind_eq_some_iff.1 h
  unfold jsb at hz
  split at hz
  case isFalse=>cases hz
  rename_i hb
  simp only [Option.some.injEq] at hz;subst hz
  refine ⟨_,h,_,hb,?_⟩
  simp only [qbb,if_true,qnx,Option.map_some];rfl
 case h_17=>cases h
 all_goals
  split at h
  case isFalse=>cases h
  rename_i hk;subst hk
  refine ⟨_,h,Sim.tr ?_⟩
  simp only [qbb,if_true,qnx,Option.map_some];rfl
theorem k00 {s t:List UInt8} : (ba s=ba t)=(s=t):=by
 apply propext
 constructor
 ·intro h
  have:=congrArg ByteArray.data h
  exact Array.toList_inj.2 this |> fun h=>by simpa [ba] using h
 ·rintro rfl;rfl
theorem q90 (s:List UInt8):(ba s).toList=s:=by rw [ByteArray.toList_eq];rfl
theorem jj6 (s t:List UInt8):ba s++ba t=ba (s++t):=by
 apply ByteArray.ext
 rw [ByteArray.data_append]
 simp [ba]
theorem jj7 (s t:List UInt8):decide (ba s=ba t)=decide (s=t):=by simp only [k00]
theorem jwe {op:BinOp} {T:TypeId} {s t:List UInt8} {c:TC→Option α} {r:α} (h:strT op s t c=some r) :
  ∃ x,c x=some r∧Sim (qbb P op T (.one (.c (.d (.v (.string (ba s)))))) (.one (.c (.d (.v (.string (ba t))))))) (vC x):=by
 unfold strT at h
 split at h
 case h_1 =>
  obtain ⟨z,hz,h⟩:=Option.bind_eq_some_iff.1 h
  unfold qc4 at hz
  split at hz
  case isFalse=>cases hz
  rename_i hb
  simp only [Option.some.injEq] at hz;subst hz
  refine ⟨_,h,_,hb,?_⟩
  simp only [qbb,qwi,Option.map_some,q2y,jj6];rfl
 case h_8=>cases h
 all_goals
  refine ⟨_,h,Sim.tr ?_⟩
  simp only [qbb,qwi,Option.map_some,q90,jj7];rfl
def eqC1 (P:Program) (t:TypeId) (x y:TC):Option Bool:=match P.underlying t,x,y with
 | some .bool,.d .bool a,.d .bool b=>some (decide ((a:Bool)=b))
 | some (.int _),.d (.int k) a,.d (.int k') b=>if k=k' then some (decide ((a:Int)=b)) else none
 | some .string,.d .str a,.d .str b=>some (decide ((a:List UInt8)=b))
 | _,_,_=>none
def vT:TC→Option Value
 | .d (.int k) n=>some (.int k n)
 | .d .bool b=>some (.bool b)
 | .d .str s=>some (.string (ba s))
 | _=>none
def vTs:List TC→Option (List Value)
 | []=>some []
 | c::cs=>match vT c,vTs cs with
  | some x,some xs=>some (x::xs)
  | _,_=>none
theorem vT_ok {c:TC} {v:Value} (h:vT c=some v):eC c = .d (.v v):=by
 unfold vT at h
 split at h<;>simp only [Option.some.injEq,reduceCtorEq] at h<;>subst h<;>rfl
theorem jkb : ∀ {cs:List TC} {xs:List Value},vTs cs=some xs→jhd (cs.map eC)=some xs
 | [],xs,h=>by simp only [vTs,Option.some.injEq] at h;subst h;rfl
 | c::cs,xs,h=>by
  unfold vTs at h
  split at h
  case h_2=>cases h
  rename_i x ys hx hy
  simp only [Option.some.injEq] at h;subst h
  rw [List.map_cons,vT_ok hx]
  show (jhd (cs.map eC)).map (x :: ·)=_
  rw [jkb hy];rfl
def jjw (P:Program) (rec:TypeId→List TC→List TC→Option Bool):List Field→List TC→List TC→Option Bool
 | [],_,_=>some true
 | f::fs,xs,ys=>if f.name = "_" then none else match qwq P f.type with
  | some false=>match nth xs f.offset,nth ys f.offset with
   | some x,some y=>match eqC1 P f.type x y,jjw P rec fs xs ys with
    | some b,some c=>some (b&&c)
    | _,_=>none
   | _,_=>none
  | some true=>match tsz P f.type with
   | some m=>if f.offset+m≤xs.length∧f.offset+m≤ys.length then match rec f.type ((xs.drop f.offset).take m) ((ys.drop f.offset).take m),jjw P rec fs xs ys with
     | some b,some c=>some (b&&c)
     | _,_=>none
    else none
   | none=>none
  | none=>none
def eqST (P:Program):Nat→TypeId→List TC→List TC→Option Bool
 | 0,_,_,_=>none
 | n+1,t,xs,ys=>match P.underlying t with
  | some (.struct fs)=>if P.stoodInHeld t=false then jjw P (eqST P n) fs.toList xs ys else none
  | _=>none
theorem jux {t:TypeId} {x y:TC} {u v:Value} {b:Bool} (hx:vT x=some u) (hy:vT y=some v) (h:eqC1 P t x y=some b):eqV P t u v=some b:=by
 unfold eqC1 at h
 split at h
 ·rename_i hu
  simp only [vT,Option.some.injEq] at hx hy h;subst hx hy h
  simp only [eqV,hu]
 ·rename_i hu
  split at h
  case isFalse=>cases h
  rename_i hk;subst hk
  simp only [vT,Option.some.injEq] at hx hy h;subst hx hy h
  simp only [eqV,hu,if_true]
 ·rename_i hu
  simp only [vT,Option.some.injEq] at hx hy h;subst hx hy h
  simp only [eqV,hu,jj7]
 ·cases h
theorem j80 : ∀ {cs:List TC} {xs:List Value} {i:Nat} {c:TC},vTs cs=some xs→nth cs i=some c→∃ v,xs[i]? = some v∧vT c=some v
 | [],_,_,_,_,h=>by cases h
 | c0::cs,xs,i,c,h,hn=>by
  unfold vTs at h
  split at h
  case h_2=>cases h
  rename_i x ys hx hy
  simp only [Option.some.injEq] at h;subst h
  cases i with
  | zero=>simp only [nth,Option.some.injEq] at hn;subst hn;exact ⟨x,rfl,hx⟩
  | succ i =>
   obtain ⟨v,h1,h2⟩:=j80 hy (show nth cs i=some c from hn)
   exact ⟨v,by simpa using h1,h2⟩
theorem jii : ∀ {cs:List TC} {xs:List Value} (o m:Nat),vTs cs=some xs→vTs ((cs.drop o).take m)=some ((xs.drop o).take m):=by
 have tk : ∀ {cs:List TC} {xs:List Value} (m:Nat),vTs cs=some xs→vTs (cs.take m)=some (xs.take m):=by
  intro cs
  induction cs with
  | nil=>intro xs m h;simp only [vTs,Option.some.injEq] at h;subst h;simp [vTs]
  | cons c cs ih =>
   intro xs m h
   unfold vTs at h
   split at h
   case h_2=>cases h
   rename_i x ys hx hy
   simp only [Option.some.injEq] at h;subst h
   cases m with
   | zero=>rfl
   | succ m =>
    rw [List.take_succ_cons,List.take_succ_cons]
    unfold vTs
    rw [hx,ih m hy]
 have dr : ∀ {cs:List TC} {xs:List Value} (o:Nat),vTs cs=some xs→vTs (cs.drop o)=some (xs.drop o):=by
  intro cs
  induction cs with
  | nil=>intro xs o h;simp only [vTs,Option.some.injEq] at h;subst h;simp [vTs]
  | cons c cs ih =>
   intro xs o h
   cases o with
   | zero=>exact h
   | succ o =>
    unfold vTs at h
    split at h
    case h_2=>cases h
    rename_i x ys hx hy
    simp only [Option.some.injEq] at h;subst h
    rw [List.drop_succ_cons,List.drop_succ_cons]
    exact ih o hy
 intro cs xs o m h
 exact tk m (dr o h)
theorem jad : ∀ {cs:List TC} {xs:List Value},vTs cs=some xs→xs.length=cs.length
 | [],xs,h=>by simp only [vTs,Option.some.injEq] at h;subst h;rfl
 | c::cs,xs,h=>by
  unfold vTs at h
  split at h
  case h_2=>cases h
  rename_i x ys hx hy
  simp only [Option.some.injEq] at h;subst h
  rw [List.length_cons,List.length_cons,jad hy]
theorem qyq {rec:TypeId→List TC→List TC→Option Bool} {rec':TypeId→List Value→List Value→Option Bool} {us vs:List Value} {xs ys:List TC} (hx:vTs xs=some us) (hy:vTs ys=some vs)
  (hr : ∀ t o m b,rec t ((xs.drop o).take m) ((ys.drop o).take m)=some b→rec' t ((us.drop o).take m) ((vs.drop o).take m)=some b) : ∀ {fs:List Field} {b:Bool},jjw P rec fs xs ys=some b→jly P rec' fs us vs=some b
 | [],b,h=>h
 | f::fs,b,h=>by
  unfold jjw at h
  split at h
  case isTrue=>cases h
  rename_i hn
  split at h
  ·rename_i h3
   split at h
   case h_2=>cases h
   rename_i x y h1 h2
   split at h
   case h_2=>cases h
   rename_i b1 b2 h4 h5
   obtain ⟨u,k1,k2⟩:=j80 hx h1
   obtain ⟨v,k3,k4⟩:=j80 hy h2
   unfold jly
   rw [if_neg hn,h3]
   simp only [k1,k3,jux k2 k4 h4,qyq hx hy hr h5]
   exact h
  ·rename_i h3
   split at h
   case h_2=>cases h
   rename_i m hm
   split at h
   case isFalse=>cases h
   rename_i hle
   split at h
   case h_2=>cases h
   rename_i b1 b2 h4 h5
   unfold jly
   rw [if_neg hn,h3,hm]
   have hle':f.offset+m≤us.length∧f.offset+m≤vs.length:=by rw [jad hx,jad hy];exact hle
   simp only [hle',and_self,if_true,hr _ _ _ _ h4,qyq hx hy hr h5]
   exact h
  ·cases h
theorem ji5 : ∀ (n:Nat) {t:TypeId} {us vs:List Value} {xs ys:List TC} {b:Bool},vTs xs=some us→vTs ys=some vs→eqST P n t xs ys=some b→eqS P n t us vs=some b
 | 0,_,_,_,_,_,_,_,_,h=>by cases h
 | n+1,t,us,vs,xs,ys,b,hx,hy,h=>by
  unfold eqST at h
  split at h
  case h_2=>cases h
  rename_i fs hu
  split at h
  case isFalse=>cases h
  rename_i hc
  unfold eqS
  rw [hu]
  simp only [hc,if_true]
  exact qyq hx hy (fun t o m b hh=>ji5 n (jii o m hx) (jii o m hy) hh) h
def qqp (P:Program) (t:TypeId) (xs ys:List TC):Option Bool:=match vTs xs,vTs ys with
 | some _,some _=>if P.eqGuardType P.depth t=false then eqST P 9 t xs ys else none
 | _,_=>none
theorem qmc {t:TypeId} {xs ys:List TC} {b:Bool} (h:qqp P t xs ys=some b):qcg P t (xs.map eC) (ys.map eC)=some b:=by
 unfold qqp at h
 split at h
 case h_2=>cases h
 rename_i us vs hx hy
 split at h
 case isFalse=>cases h
 rename_i hc
 unfold qcg
 rw [jkb hx,jkb hy]
 simp only
 rw [if_pos hc]
 exact ji5 9 hx hy h
def jo0 (P:Program) (op:BinOp) (T:TypeId) (x y:TD) (k:TRes→Option α):Option α:=match x,y with
 | .one (.c (.d (.int kx) a)),.one (.c (.d (.int ky) b))=>intT op kx ky a b (fun c=>k (vC c))
 | .one (.c (.d .str s)),.one (.c (.d .str t))=>strT op s t (fun c=>k (vC c))
 | .one (.c (.d .bool a)),.one (.c (.d .bool b))=>match P.underlying T,op with
  | some .bool,.eql=>k (vC (.d .bool (decide ((a:Bool)=b))))
  | some .bool,.neq=>k (vC (.d .bool (!decide ((a:Bool)=b))))
  | _,_=>none
 | .one (.agg xs),.one (.agg ys)=>match op,qqp P T xs ys with
  | .eql,some b=>k (vC (.d .bool b))
  | .neq,some b=>k (vC (.d .bool (!b)))
  | _,_=>none
 | _,_=>none
theorem jiu {op:BinOp} {T:TypeId} {x y:TD} {k:TRes→Option α} {r:α} (h:jo0 P op T x y k=some r) : ∃ z,k z=some r∧Sim (qbb P op T (eD x) (eD y)) z:=by
 unfold jo0 at h
 split at h
 ·obtain ⟨z,h1,h2⟩:=juu (P:=P) (T:=T) h
  exact ⟨_,h1,h2⟩
 ·obtain ⟨z,h1,h2⟩:=jwe (P:=P) (T:=T) h
  exact ⟨_,h1,h2⟩
 ·split at h
  ·rename_i hu
   exact ⟨_,h,Sim.tr (by simp only [qbb,eD,e1,eC,q03,List.headD_cons,eqV,hu,Option.map_some];rfl)⟩
  ·rename_i hu
   exact ⟨_,h,Sim.tr (by simp only [qbb,eD,e1,eC,q03,List.headD_cons,eqV,hu,Option.map_some];rfl)⟩
  ·cases h
 ·split at h
  ·rename_i b hb
   exact ⟨_,h,Sim.tr (by simp only [qbb,eD,e1,qmc hb,Option.map_some];rfl)⟩
  ·rename_i b hb
   exact ⟨_,h,Sim.tr (by simp only [qbb,eD,e1,qmc hb,Option.map_some];rfl)⟩
  ·cases h
 ·cases h
def jtf (op:UnOp) (x:TD) (k:TRes→Option α):Option α:=match op,x with
 | .not,.one (.c (.d .bool b))=>k (vC (.d .bool (!(b:Bool))))
 | .neg,.one (.c (.d (.int kk) n))=>k (vC (.d (.int kk) (kk.wrap (0 - (n:Int)))))
 | _,_=>none
theorem jrf {op:UnOp} {x:TD} {k:TRes→Option α} {r:α} (h:jtf op x k=some r) : ∃ z,k z=some r∧Sim (jwy op (eD x)) z:=by
 unfold jtf at h
 split at h
 ·exact ⟨_,h,Sim.tr rfl⟩
 ·exact ⟨_,h,Sim.tr rfl⟩
 ·cases h
def ja8 (P:Program) (src dst:TypeId) (x:TD) (k:TRes→Option α):Option α:=match P.underlying src,P.underlying dst,x with
 | some _,some (.int kk),.one (.c (.d (.int _) n))=>q08 (kk.wrap n) fun z=>k (vC (.d (.int kk) z))
 | some .string,some .string,.one (.c (.d .str s))=>k (vC (.d .str s))
 | _,_,_=>none
theorem jgw {src dst:TypeId} {x:TD} {k:TRes→Option α} {r:α} (h:ja8 P src dst x k=some r) : ∃ z,k z=some r∧Sim (qe2 P src dst (eD x)) z:=by
 unfold ja8 at h
 split at h
 ·rename_i h1 h2
  exact ⟨_,h,Sim.tr (by simp only [qe2,eD,e1,eC,q03,List.headD_cons,h1,h2];rfl)⟩
 ·rename_i h1 h2
  exact ⟨_,h,Sim.tr (by simp only [qe2,eD,e1,eC,q03,List.headD_cons,h1,h2];rfl)⟩
 ·cases h
def j02 (P:Program) (src dst:TypeId):Bool:=match P.underlying src,P.underlying dst with
 | some (.slice _),some .string=>true
 | some .string,some (.slice _)=>true
 | _,_=>false
def bytO (s:List UInt8):Option (List Int):=if s.length≤9223372036854775807 then some (s.map fun b=>((b.toNat:Nat):Int)) else none
def qku (P:Program) (o:Option Nat) (src dst:TypeId) (x:TD) (σ:TSt) (k:TRes→Option α):Option α:=match P.underlying src,P.underlying dst with
 | some (.slice e),some .string=>match P.underlying e,srcT x σ with
  | some (.int .u8),some ⟨.int .u8,xs⟩=>k (vC (.d .str ((xs:List Int).map fun n=>UInt8.ofNat n.toNat)))
  | _,_=>none
 | some .string,some (.slice e)=>match P.underlying e,x,o with
  | some (.int .u8),.one (.c (.d .str s)),some i=>match lk σ.rows i with
   | none=>if e<1099511627776 then (bytO s).bind fun xs=>k { val:=.one (.c (.row i 0)),row:=some (i,⟨0,e+1099511627776,true,.int .u8,xs⟩) } else none
   | some _=>none
  | _,_,_=>none
 | _,_=>none
theorem j3h : ∀ (xs:List Int),j26 (xs.map (q03 (.int .u8)))=some xs
 | []=>rfl
 | x::xs=>by
  show (j26 (xs.map (q03 (.int .u8)))).map (x :: ·)=_
  rw [j3h xs];rfl
theorem jcj : ∀ (xs:List Int) (b:List UInt8),xs.foldl (fun r n=>r.push (UInt8.ofNat n.toNat)) (ba b)=ba (b++xs.map fun n=>UInt8.ofNat n.toNat)
 | [],b=>by simp
 | x::xs,b=>by
  rw [List.foldl_cons,show (ba b).push (UInt8.ofNat x.toNat)=ba (b ++ [UInt8.ofNat x.toNat]) from by simp [ba,ByteArray.push],jcj xs]
  simp
theorem jqp (xs:List Int):strOf xs=ba (xs.map fun n=>UInt8.ofNat n.toNat):=by
 have:=jcj xs []
 rw [List.nil_append] at this
 exact this
theorem jai {src dst:TypeId} {x:D} (h:j02 P src dst=true):qe2 P src dst x=none:=by
 unfold j02 at h
 unfold qe2
 split at h
 ·rename_i h1 h2;rw [h1,h2]
 ·rename_i h1 h2;rw [h1,h2]
 ·cases h
theorem qys {o:Option Nat} {src dst:TypeId} {x:TD} {k:TRes→Option α} {r:α} (h:qku P o src dst x σ k=some r) : ∃ z,k z=some r∧Sim (q3a P o src dst (eD x) (eS σ).row) z:=by
 unfold qku at h
 split at h
 ·rename_i e h1 h2
  split at h
  case h_2=>cases h
  rename_i xs he hx
  have hs:=jiy hx
  have hs':qmm 1 (eD x) (eS σ).row=some (xs.map (q03 (.int .u8))):=hs
  refine ⟨_,h,Sim.tr ?_⟩
  have hi:j26 (List.map (q03 (.int .u8)) xs)=some xs:=j3h xs
  simp only [q3a,h1,h2,he,hs',Option.bind_some]
  rw [hi]
  simp only [jqp]
  rfl
 ·rename_i e h1 h2
  split at h
  case h_2=>cases h
  rename_i s i he
  split at h
  case h_2=>cases h
  rename_i hr
  split at h
  case isFalse=>cases h
  rename_i hlt
  obtain ⟨xs,hxs,h⟩:=Option.bind_eq_some_iff.1 h
  unfold bytO at hxs
  split at hxs
  case isFalse=>cases hxs
  rename_i hle
  simp only [Option.some.injEq] at hxs;subst hxs
  refine ⟨_,h,(ba s).size≤maxLen,by rw [q2y];exact hle,?_⟩
  simp only [q3a,h1,h2,he,eD,e1,eC,q03,List.headD_cons,q9a hr]
  rw [if_pos hlt]
  have e3:(ba s).data.toList=s:=by simp [ba]
  rw [e3]
  simp only [qar,eD,e1,eC,Option.map_none,Option.map_some,eR,List.map_map]
  rfl
 ·cases h
def jab (c x y:TD) (k:TRes→Option α):Option α:=match c with
 | .one (.c (.d .bool t))=>bif t then k { val:=x } else k { val:=y }
 | _=>none
theorem jgt {c x y:TD} {k:TRes→Option α} {r:α} (h:jab c x y k=some r) : ∃ z,k z=some r∧Sim (qux (eD c) (eD x) (eD y)) z:=by
 unfold jab at h
 split at h
 case h_2=>cases h
 rename_i t
 cases t with
 | true=>exact ⟨_,h,Sim.tr rfl⟩
 | false=>exact ⟨_,h,Sim.tr rfl⟩
def makO (b:Nat) (q:Int) (n:Int):Option (List Int):=if 0≤n∧n≤16777216∧b*n.toNat≤281474976710656 then some (List.replicate n.toNat q) else none
def j6q (P:Program) (dst:Option Nat) (t:TypeId) (x:TD) (σ:TSt) (k:TRes→Option α):Option α:=match P.underlying t,dst,x with
 | some (.slice el),some i,.one (.c (.d (.int _) n))=>match lk σ.rows i,(P.info? el).map (fun i=>(i.zero,i.size,i.bytes)) with
  | none,some (some (Value.int kk q),1,b)=>bif Nat.blt el 1099511627776 then (makO b q n).bind fun xs=>k { val:=.one (.c (.row i 0)),row:=some (i,⟨0,el,true,.int kk,xs⟩) } else none
  | _,_=>none
 | _,_,_=>none
theorem jgc {dst:Option Nat} {t:TypeId} {x:TD} {k:TRes→Option α} {r:α} (h:j6q P dst t x σ k=some r) : ∃ y,k y=some r∧Sim (qib P dst t (eD x) (eS σ).row) y:=by
 unfold j6q at h
 split at h
 case h_2=>cases h
 rename_i el i kx n hu
 split at h
 case h_2=>cases h
 rename_i kk q b hr hinf
 cases hb:Nat.blt el 1099511627776 with
 | false=>rw [hb] at h;cases h
 | true =>
  rw [hb] at h
  have hlt:el<1099511627776:=by simpa using hb
  obtain ⟨xs,hxs,h⟩:=Option.bind_eq_some_iff.1 h
  unfold makO at hxs
  split at hxs
  case isFalse=>cases hxs
  rename_i hc
  simp only [Option.some.injEq] at hxs;subst hxs
  refine ⟨_,h,Sim.tr ?_⟩
  simp only [qib,hu,eD,e1,eC,q03,List.headD_cons,q9a hr,hinf]
  rw [if_pos ⟨hc.1,hc.2.1,hc.2.2,hlt⟩]
  simp only [qar,eD,e1,eC,Option.map_none,Option.map_some,eR,List.map_replicate]
  rfl
def js7 (f:Int→Int→Int) (x y:TD) (k:TRes→Option α):Option α:=match x,y with
 | .one (.c (.d (.int kk) n)),.one (.c (.d (.int _) m))=>q08 (f n m) fun z=>k (vC (.d (.int kk) z))
 | _,_=>none
theorem jbl {f:Int→Int→Int} {x y:TD} {k:TRes→Option α} {r:α} (h:js7 f x y k=some r) : ∃ z,k z=some r∧Sim (jow f (eD x) (eD y)) z:=by
 unfold js7 at h
 split at h
 case h_2=>cases h
 exact ⟨_,h,Sim.tr rfl⟩
def vTI:TC→Option Value
 | .d (.int k) n=>some (.int k n)
 | .d .bool b=>some (.bool b)
 | .d .str s=>some (.string (ba s))
 | .d .any v=>some (Subtype.val (v:IV))
 | _=>none
def jzn:List TC→Option (List Value)
 | []=>some []
 | c::cs=>match vTI c,jzn cs with
  | some x,some xs=>some (x::xs)
  | _,_=>none
def vTD:TD→Option Value
 | .one (.c c)=>vTI c
 | .one (.agg cs)=>(jzn cs).map fun xs=>.agg ⟨xs⟩
 | .tup _=>none
theorem jt9 {c:TC} {v:Value} (h:vTI c=some v):jws (eC c)=some v:=by
 unfold vTI at h
 split at h<;>simp only [Option.some.injEq,reduceCtorEq] at h<;>subst h<;>rfl
theorem jmb : ∀ {cs:List TC} {xs:List Value},jzn cs=some xs→qxt (cs.map eC)=some xs
 | [],xs,h=>by simp only [jzn,Option.some.injEq] at h;subst h;rfl
 | c::cs,xs,h=>by
  unfold jzn at h
  split at h
  case h_2=>cases h
  rename_i x ys hx hy
  simp only [Option.some.injEq] at h;subst h
  rw [List.map_cons]
  unfold qxt
  rw [jt9 hx,jmb hy]
theorem jxv {d:TD} {v:Value} (h:vTD d=some v):jzp (eD d)=some v:=by
 unfold vTD at h
 split at h
 ·exact jt9 h
 ·obtain ⟨xs,h1,rfl⟩:=Option.map_eq_some_iff.1 h
  show (qxt _).map _=_
  rw [jmb h1];rfl
 ·cases h
def qzu (P:Program) (t:TypeId) (x:TD) (k:TRes→Option α):Option α:=match P.concrete t,vTD x with
 | true,some v=>k (vC (.d .any (qn5 t v)))
 | _,_=>none
theorem j8p {t:TypeId} {x:TD} {k:TRes→Option α} {r:α} (h:qzu P t x k=some r) : ∃ z,k z=some r∧Sim (qex P t (eD x)) z:=by
 unfold qzu at h
 split at h
 case h_2=>cases h
 rename_i v hc hv
 exact ⟨_,h,Sim.tr (by unfold qex;rw [hc,jxv hv];rfl)⟩
def j6y (P:Program) (op:BinOp) (t:TypeId) (x:TD) (k:TRes→Option α):Option α:=match jcc P t,op,x with
 | true,.eql,.one (.c (.d .any v))=>(q42 (Subtype.val (v:IV))).bind fun b=>k (vC (.d .bool b))
 | true,.neq,.one (.c (.d .any v))=>(q42 (Subtype.val (v:IV))).bind fun b=>k (vC (.d .bool (!b)))
 | _,_,_=>none
theorem jgq {op:BinOp} {t:TypeId} {x:TD} {k:TRes→Option α} {r:α} (h:j6y P op t x k=some r) : ∃ z,k z=some r∧Sim (qlv P op t (eD x)) z:=by
 unfold j6y at h
 split at h
 case h_3=>cases h
 ·rename_i v hc
  obtain ⟨b,hb,h⟩:=Option.bind_eq_some_iff.1 h
  exact ⟨_,h,Sim.tr (by simp only [qlv,hc,eD,e1,eC,q03,List.headD_cons,hb,Option.map_some];rfl)⟩
 ·rename_i v hc
  obtain ⟨b,hb,h⟩:=Option.bind_eq_some_iff.1 h
  exact ⟨_,h,Sim.tr (by simp only [qlv,hc,eD,e1,eC,q03,List.headD_cons,hb,Option.map_some];rfl)⟩
def w1 (x:Option TD) (f:TD→Option α):Option α:=match x with|some y=>f y|none=>none
def w0 (σ:TSt) (x:Option Operand) (f:Option TD→Option α):Option α:=match x with
 | none=>f none
 | some x=>match q0u σ x with|some y=>f (some y)|none=>none
theorem q0i {x:Option TD} {f:TD→Option α} {r:α} (h:w1 x f=some r) : ∃ y,x=some y∧f y=some r:=by
 cases x with
 | none=>cases h
 | some y=>exact ⟨y,rfl,h⟩
theorem jl3 {x:Option Operand} {f:Option TD→Option α} {r:α} (h:w0 σ x f=some r) : ∃ y,x.map (opnd (eS σ))=y.map eD∧f y=some r:=by
 cases x with
 | none=>exact ⟨none,rfl,h⟩
 | some x =>
  unfold w0 at h
  simp only at h
  split at h
  ·rename_i y hy
   exact ⟨some y,by rw [Option.map_some,Option.map_some,q06 hy],h⟩
  ·cases h
def q43 (σ:TSt):List Operand→Option (List TD)
 | []=>some []
 | x::xs=>match q0u σ x,q43 σ xs with
  | some y,some ys=>some (y::ys)
  | _,_=>none
theorem qi2 : ∀ {xs:List Operand} {ys:List TD},q43 σ xs=some ys→xs.map (opnd (eS σ))=ys.map eD
 | [],ys,h=>by simp only [q43,Option.some.injEq] at h;subst h;rfl
 | x::xs,ys,h=>by
  unfold q43 at h
  split at h
  case h_2=>cases h
  rename_i y zs h1 h2
  simp only [Option.some.injEq] at h;subst h
  rw [List.map_cons,List.map_cons,q06 h1,qi2 h2]
def jb5:List TD→Option (List Nat)
 | []=>some []
 | .one (.c (.box β 0))::ds=>(jb5 ds).map (β :: ·)
 | _=>none
theorem j50 : ∀ {ds:List TD} {cs:List Nat},jb5 ds=some cs→qt9 (ds.map eD)=some cs
 | [],cs,h=>h
 | d::ds,cs,h=>by
  unfold jb5 at h
  split at h
  ·rename_i h1;cases h1
  ·rename_i β ds' h1
   simp only [List.cons.injEq] at h1
   obtain ⟨rfl,rfl⟩:=h1
   obtain ⟨cs',h2,rfl⟩:=Option.map_eq_some_iff.1 h
   show (qt9 (ds.map eD)).map _=_
   rw [j50 h2];rfl
  ·cases h
def jyz (f:Nat) (ds:Option (List TD)) (k:TRes→Option α):Option α:=match ds with
 | some ds=>match jb5 ds with
  | some (c::cs)=>k { val:=.one (.c (.fn f (c::cs))) }
  | _=>none
 | none=>none
def qdw {β:Type} (s:List UInt8):List (List UInt8×β)→Option β
 | []=>none
 | (k,v)::l=>if s=k then some v else qdw s l
def jo6 {β:Type} (s:List UInt8) (y:β):List (List UInt8×β)→List (List UInt8×β)
 | []=>[(s,y)]
 | (k,v)::l=>if s=k then (s,y)::l else (k,v)::jo6 s y l
def jf0 {β:Type} (o:Option β) (z:β) (f:β→Bool→Option α):Option α:=f (o.getD z) o.isSome
def eqT:(K:Ty)→den K→den K→Bool
 | .str,a,b=>decide ((a:List UInt8)=b)
 | .int _,a,b=>decide ((a:Int)=b)
 | .prod a b,(x:den a×den b),(y:den a×den b)=>eqT a x.1 y.1&&eqT b x.2 y.2
 | _,_,_=>false
def q0c {β:Type} (K:Ty) (s:den K):List (den K×β)→Option β
 | []=>none
 | (k,v)::l=>bif eqT K s k then some v else q0c K s l
def q3v {β:Type} (K:Ty) (s:den K) (y:β):List (den K×β)→List (den K×β)
 | []=>[(s,y)]
 | (k,v)::l=>bif eqT K s k then (s,y)::l else (k,v)::q3v K s y l
def jlk {β:Type} : (K:Ty)→den K→List (den K×β)→Option β
 | .str,s,l=>qdw s l
 | .int k,s,l=>q0c (.int k) s l
 | .prod a b,s,l=>q0c (.prod a b) s l
 | .bool,s,l=>q0c .bool s l
 | .lst e,s,l=>q0c (.lst e) s l
 | .any,s,l=>q0c .any s l
def jzk {β:Type} : (K:Ty)→den K→β→List (den K×β)→List (den K×β)
 | .str,s,y,l=>jo6 s y l
 | .int k,s,y,l=>q3v (.int k) s y l
 | .prod a b,s,y,l=>q3v (.prod a b) s y l
 | .bool,s,y,l=>q3v .bool s y l
 | .lst e,s,y,l=>q3v (.lst e) s y l
 | .any,s,y,l=>q3v .any s y l
theorem j66 {β:Type} (s:List UInt8) : ∀ l:List (List UInt8×β),qdw s l=q0c .str s l
 | []=>rfl
 | (k,v)::l=>by
  show (if s=k then some v else qdw s l)=bif decide (s=k) then some v else q0c .str s l
  by_cases h:s=k
  ·rw [if_pos h,decide_eq_true h];rfl
  ·rw [if_neg h,decide_eq_false h,j66 s l];rfl
theorem jd6 {β:Type} (s:List UInt8) (y:β) : ∀ l:List (List UInt8×β),jo6 s y l=q3v .str s y l
 | []=>rfl
 | (k,v)::l=>by
  show (if s=k then (s,y)::l else (k,v)::jo6 s y l)=bif decide (s=k) then (s,y)::l else (k,v)::q3v .str s y l
  by_cases h:s=k
  ·rw [if_pos h,decide_eq_true h];rfl
  ·rw [if_neg h,decide_eq_false h,jd6 s y l];rfl
theorem jnr {β:Type} : ∀ (K:Ty) (s:den K) (l:List (den K×β)),jlk K s l=q0c K s l
 | .str,s,l=>j66 s l
 | .int k,s,l=>rfl
 | .prod a b,s,l=>rfl
 | .bool,s,l=>rfl
 | .lst e,s,l=>rfl
 | .any,s,l=>rfl
theorem jp0 {β:Type} : ∀ (K:Ty) (s:den K) (y:β) (l:List (den K×β)),jzk K s y l=q3v K s y l
 | .str,s,y,l=>jd6 s y l
 | .int k,s,y,l=>rfl
 | .prod a b,s,y,l=>rfl
 | .bool,s,y,l=>rfl
 | .lst e,s,y,l=>rfl
 | .any,s,y,l=>rfl
def j7i:KL→Ty
 | .s=>.str
 | .i k=>.int k
def q2e:List KL→Ty
 | []=>.bool
 | [l]=>j7i l
 | l::l'::ls=>.prod (j7i l) (q2e (l'::ls))
def jhc:(l:KL)→den (j7i l)→Value
 | .s,(x:List UInt8)=>.string (ba x)
 | .i k,(n:Int)=>.int k n
def q6q:(ls:List KL)→den (q2e ls)→List Value
 | [],_=>[]
 | [l],x=>[jhc l x]
 | l::l'::ls,(x:den (j7i l)×den (q2e (l'::ls)))=>jhc l x.1::q6q (l'::ls) x.2
theorem jdg : ∀ (l:KL) (x:den (j7i l)),q03 (j7i l) x = [.v (jhc l x)]
 | .s,_=>rfl
 | .i _,_=>rfl
theorem qms : ∀ (ls:List KL),0<ls.length→∀ x:den (q2e ls),q03 (q2e ls) x=(q6q ls x).map .v
 | [],h,_=>absurd h (by decide)
 | [l],_,x=>jdg l x
 | l::l'::ls,_,(x:den (j7i l)×den (q2e (l'::ls)))=>by
  show q03 (j7i l) x.1++q03 (q2e (l'::ls)) x.2=_
  rw [jdg,qms (l'::ls) (Nat.succ_pos _) x.2];rfl
theorem ok_1 : ∀ (l:KL) (x:den (j7i l)),okK l (jhc l x)=true
 | .s,_=>rfl
 | .i _,_=>by simp [okK,jhc]
theorem jx8 : ∀ (ls:List KL) (x:den (q2e ls)),q96 ls (q6q ls x)=true
 | [],_=>rfl
 | [l],x=>(Bool.and_true _).trans (ok_1 l x)
 | l::l'::ls,(x:den (j7i l)×den (q2e (l'::ls)))=>by
  show (okK l (jhc l x.1)&&q96 (l'::ls) (q6q (l'::ls) x.2))=true
  rw [ok_1,jx8 (l'::ls) x.2];rfl
theorem jw6 (ls:List KL) (x:den (q2e ls)):(q6q ls x).length=ls.length:=q7v (jx8 ls x)
theorem eq_1 : ∀ (l:KL) (x y:den (j7i l)),eqK (jhc l x) (jhc l y)=eqT (j7i l) x y
 | .s,x,y=>jj7 x y
 | .i _,x,y=>rfl
theorem eq_K : ∀ (ls:List KL),0<ls.length→∀ x y:den (q2e ls),qso (q6q ls x) (q6q ls y)=eqT (q2e ls) x y
 | [],h,_,_=>absurd h (by decide)
 | [l],_,x,y=>by show (eqK (jhc l x) (jhc l y)&&true)=_;rw [Bool.and_true];exact eq_1 l x y
 | l::l'::ls,_,(x:den (j7i l)×den (q2e (l'::ls))),(y:den (j7i l)×den (q2e (l'::ls)))=>by
  show (eqK (jhc l x.1) (jhc l y.1)&&qso (q6q (l'::ls) x.2) (q6q (l'::ls) y.2))=(eqT (j7i l) x.1 y.1&&eqT (q2e (l'::ls)) x.2 y.2)
  rw [eq_1,eq_K (l'::ls) (Nat.succ_pos _)]
theorem j3p : ∀ (us:List Value) (r:List Dat),j8z us.length (us.map .v++r)=some us
 | [],_=>rfl
 | u::us,r=>by
  show (j8z us.length (us.map .v++r)).map (u :: ·)=_
  rw [j3p us r];rfl
theorem qhc (ls:List KL) (h:0<ls.length) (V:Ty) (s:den (q2e ls)) (y:den V):q03 (.prod (q2e ls) V) ((s,y):den (q2e ls)×den V)=(q6q ls s).map .v++q03 V y:=by
 show q03 (q2e ls) s++q03 V y=_
 rw [qms ls h]
theorem jo3 (ls:List KL) (h:0<ls.length) (V:Ty) (s k:den (q2e ls)) (y:den V):qtx ls (q6q ls s) (q03 (.prod (q2e ls) V) ((k,y):den (q2e ls)×den V))=some (eqT (q2e ls) s k):=by
 unfold qtx
 rw [qhc ls h]
 have:=j3p (q6q ls k) (q03 V y)
 rw [jw6] at this
 rw [this]
 simp only [jx8,if_true,eq_K ls h]
theorem jdh {ls:List KL} (h:0<ls.length) {V:Ty} (s:den (q2e ls)) : ∀ (xs:List (den (q2e ls)×den V)),∃ q,findD ls (q6q ls s) (xs.map (q03 (.prod (q2e ls) V)))=some q∧q.map (List.drop ls.length)=(q0c (q2e ls) s xs).map (q03 V)
 | []=>⟨none,rfl,rfl⟩
 | (k,v)::xs=>by
  show ∃ q,(match qtx ls (q6q ls s) (q03 (.prod (q2e ls) V) ((k,v):den (q2e ls)×den V)) with|some true=>some (some (q03 (.prod (q2e ls) V) ((k,v):den (q2e ls)×den V)))|some false=>findD ls (q6q ls s) (xs.map (q03 (.prod (q2e ls) V)))|none=>none)=some q∧q.map (List.drop ls.length)=(bif eqT (q2e ls) s k then some v else q0c (q2e ls) s xs).map (q03 V)
  rw [jo3 ls h]
  cases eqT (q2e ls) s k with
  | true =>
   refine ⟨_,rfl,?_⟩
   simp only [cond_true,Option.map_some,Option.some.injEq]
   rw [qhc ls h]
   have:(List.map Dat.v (q6q ls k)).length=ls.length:=by rw [List.length_map,jw6]
   rw [← this,List.drop_left]
  | false=>exact jdh h s xs
theorem ji3 {ls:List KL} (h:0<ls.length) {V:Ty} (s:den (q2e ls)) (y:den V) : ∀ (xs:List (den (q2e ls)×den V)),jw7 ls (q6q ls s) (q03 V y) (xs.map (q03 (.prod (q2e ls) V)))=some ((q3v (q2e ls) s y xs).map (q03 (.prod (q2e ls) V)))
 | []=>by
  show some [(q6q ls s).map Dat.v++q03 V y]=some [q03 (.prod (q2e ls) V) ((s,y):den (q2e ls)×den V)]
  rw [qhc ls h]
 | (k,v)::xs=>by
  show (match qtx ls (q6q ls s) (q03 (.prod (q2e ls) V) ((k,v):den (q2e ls)×den V)) with|some true=>some (((q6q ls s).map Dat.v++q03 V y)::xs.map (q03 (.prod (q2e ls) V)))|some false=>(jw7 ls (q6q ls s) (q03 V y) (xs.map (q03 (.prod (q2e ls) V)))).map (q03 (.prod (q2e ls) V) ((k,v):den (q2e ls)×den V) :: ·)|none=>none)=some ((bif eqT (q2e ls) s k then (s,y)::xs else (k,v)::q3v (q2e ls) s y xs).map (q03 (.prod (q2e ls) V)))
  rw [jo3 ls h]
  cases eqT (q2e ls) s k with
  | true =>
   simp only [cond_true,List.map_cons]
   rw [qhc ls h]
  | false =>
   simp only [cond_false,List.map_cons]
   rw [ji3 h s y xs];rfl
def jqj (K:Ty) (ka:Bool):TD→Option (den K)
 | .one (.c c)=>bif ka then none else qun K [c]
 | .one (.agg cs)=>bif ka then qun K cs else none
 | _=>none
theorem jdv {ls:List KL} (h:0<ls.length) {ka:Bool} (hka:ka=false→ls.length=1) {i:TD} {s:den (q2e ls)} (hs:jqj (q2e ls) ka i=some s):jwx (eD i)=some (ka,q6q ls s):=by
 have hv : ∀ us:List Value,jhd (us.map fun u=>C.d (.v u))=some us:=fun us=>by
  induction us with
  | nil=>rfl
  | cons u us ih=>show (jhd _).map (u :: ·)=_;rw [ih];rfl
 unfold jqj at hs
 split at hs
 ·rename_i c
  cases ka with
  | true=>cases hs
  | false =>
   simp only [cond_false] at hs
   have h1:=q77 hs
   rw [qms ls h] at h1
   have h2:=jw6 ls s
   rw [hka rfl] at h2
   match hvs:q6q ls s,h2 with
   | [v],_ =>
    rw [hvs] at h1
    have h3:eC c = .d (.v v):=(List.cons.inj h1).1
    show jwx (.one (.c (eC c)))=_
    rw [h3];rfl
 ·rename_i cs
  cases ka with
  | false=>cases hs
  | true =>
   simp only [cond_true] at hs
   have h1:=q77 hs
   rw [qms ls h,List.map_map] at h1
   show (jhd (cs.map eC)).map _=_
   rw [h1,show (C.d ∘ Dat.v)=fun u=>C.d (.v u) from rfl,hv];rfl
 ·cases hs
theorem j33 {k:TypeId} {ls:List KL} (h:jft P k=some (false,ls)):ls.length=1:=by
 unfold jft at h
 split at h
 ·simp only [Option.some.injEq,Prod.mk.injEq] at h;rw [← h.2];rfl
 ·simp only [Option.some.injEq,Prod.mk.injEq] at h;rw [← h.2];rfl
 ·obtain ⟨l,_,h2⟩:=Option.map_eq_some_iff.1 h
  simp only [Prod.mk.injEq] at h2
  cases h2.1
 ·cases h
def qk6 (P:Program) (dst:Option Nat) (t:TypeId) (σ:TSt) (k:TRes→Option α):Option α:=match dst,jst P t with
 | some i,some (T,el,ls)=>match lk σ.boxes i,tyE P el with
  | none,some V=>if i<1000000∧width V=mVw T∧width (q2e ls)=ls.length then k { val:=.one (.c (.mv i)),box:=some (i,(T,[.d (.lst (.prod (q2e ls) V)) ([]:List (den (q2e ls)×den V))])) } else none
  | _,_=>none
 | _,_=>none
theorem qz7 {dst:Option Nat} {t:TypeId} {k:TRes→Option α} {r:α} (h:qk6 P dst t σ k=some r) : ∃ y,k y=some r∧Sim (q3l P dst t (eS σ).box) y:=by
 unfold qk6 at h
 split at h
 case h_2=>cases h
 rename_i i T el ls hT
 split at h
 case h_2=>cases h
 rename_i V hb hV
 split at h
 case isFalse=>cases h
 rename_i hc
 refine ⟨_,h,Sim.tr ?_⟩
 simp only [q3l,hT,qnm hb,hc.1,if_true,← hc.2.1,← hc.2.2]
 rfl
def tvD (T:Nat) (V:Ty) (y:den V):TD1:=match mVa T with
 | true=>.agg (qos V y)
 | false=>.c (.d V y)
def jsf (ok:Bool) (x:TD1) (b:Bool):TD:=match ok with
 | true=>.tup [x,.c (.d .bool b)]
 | false=>.one x
def jta:Value→Bool
 | .agg _=>true
 | _=>false
def jzr:TD1→Bool
 | .agg _=>true
 | _=>false
def qok (P:Program) (t:TypeId) (x i:TD) (ok:Bool) (σ:TSt) (k:TRes→Option α):Option α:=match jst P t,x with
 | some (T,el,ls),.one (.c (.mv β))=>match lk σ.boxes β,jyb P el with
  | some (T',[.d (.lst (.prod K V)) xs]),some z=>if T'=T∧jta z=mVa T∧K=q2e ls then
    match qs1 z.cells.toList with
    | some zs=>match jqj K (mKa T) i with
     | some s=>match qun V zs with
      | some z0=>jf0 (jlk K s (xs:List (den K×den V))) z0 fun y b=>k { val:=jsf ok (tvD T V y) b }
      | none=>bif jta z then qq0 (jlk K s (xs:List (den K×den V))) (fun y=>k { val:=jsf ok (tvD T V y) true }) (k { val:=jsf ok (.agg zs) false }) else none
     | none=>none
    | none=>none
   else none
  | _,_=>none
 | _,_=>none
theorem j4t {t:TypeId} {x i:TD} {ok:Bool} {k:TRes→Option α} {r:α} (h:qok P t x i ok σ k=some r) : ∃ y,k y=some r∧Sim (q2g P t (eD x) (eD i) ok (eS σ).box) y:=by
 unfold qok at h
 split at h
 case h_2=>cases h
 rename_i T el ls β hT
 split at h
 case h_2=>cases h
 rename_i T' K V xs z hb hz
 split at h
 case isFalse=>cases h
 rename_i hc
 obtain ⟨rfl,hag,rfl⟩:=hc
 split at h
 case h_2=>cases h
 rename_i zs hzs
 split at h
 case h_2=>cases h
 rename_i s hs
 rw [jnr] at h
 obtain ⟨kt,ka,vw,va,_,hkl,_,_,_,_,hka,_,_,hl0⟩:=qsr hT
 have hkey:=jdv hl0 (fun h0=>by rw [hka] at h0;subst h0;exact j33 hkl) hs
 obtain ⟨q,hfd,hq⟩:=jdh hl0 s (xs:List (den (q2e ls)×den V))
 have hbx:(eS σ).box β=some (T',[.d (.lst (width (.prod (q2e ls) V)) ((xs:List (den (q2e ls)×den V)).map (q03 (.prod (q2e ls) V))))]):=q56 hb
 have hd : ∀ (x:D1) (y:TD1) (b:Bool),x=e1 y→okD ok x b=eD (jsf ok y b):=fun x y b hxy=>by
  subst hxy;cases ok<;>rfl
 have fnd : ∀ y,q0c (q2e ls) s (xs:List (den (q2e ls)×den V))=some y→q2g P t (.one (.c (.mv β))) (eD i) ok (eS σ).box=some (qar True { val:=jsf ok (tvD T' V y) true }):=fun y hm=>by
  rw [hm] at hq
  obtain ⟨r0,rfl,hr0⟩:=Option.map_eq_some_iff.1 hq
  simp only [q2g,hT,hbx,hz,hkey,jx8,and_self,if_true,hfd]
  rw [hd (vD T' (r0.drop ls.length)) (tvD T' V y) true ?_]
  ·rfl
  ·rw [hr0]
   show vD T' (q03 V y)=_
   unfold vD tvD
   cases mVa T' with
   | true=>show D1.agg _ = .agg _;rw [q6t]
   | false=>rfl
 have nfd : ∀ zt:TD1,of1 z=e1 zt→q0c (q2e ls) s (xs:List (den (q2e ls)×den V))=none→q2g P t (.one (.c (.mv β))) (eD i) ok (eS σ).box=some (qar True { val:=jsf ok zt false }):=fun zt hzt hm=>by
  rw [hm] at hq
  have hq0:q=none:=by simpa using hq
  subst hq0
  simp only [q2g,hT,hbx,hz,hkey,jx8,and_self,if_true,hfd]
  rw [hd (of1 z) zt false hzt]
  rfl
 split at h
 ·rename_i z0 hz0
  refine ⟨_,h,Sim.tr ?_⟩
  show q2g P t (.one (.c (.mv β))) (eD i) ok (eS σ).box=_
  cases hm:q0c (q2e ls) s (xs:List (den (q2e ls)×den V)) with
  | some y=>exact fnd y hm
  | none =>
   simp only [Option.getD_none,Option.isSome_none]
   refine nfd (tvD T' V z0) ?_ hm
   have h1:=q77 hz0
   rw [q5k hzs] at h1
   unfold tvD
   rw [← hag]
   cases z with
   | agg cs =>
    show D1.agg _ = .agg _
    rw [q6t,← h1];rfl
   | _ =>
    have h2 : [_]=q03 V z0:=jwf (l:=[_]) h1
    show D1.c _ = .c (.d ((q03 V z0).headD _))
    rw [← h2];rfl
 ·cases z with
  | agg cs =>
   replace h:qq0 (q0c (q2e ls) s (xs:List (den (q2e ls)×den V))) (fun y=>k { val:=jsf ok (tvD T' V y) true }) (k { val:=jsf ok (.agg zs) false })=some r:=h
   unfold qq0 at h
   split at h
   ·rename_i y hy
    exact ⟨_,h,Sim.tr (fnd y hy)⟩
   ·rename_i hn
    refine ⟨_,h,Sim.tr (nfd (.agg zs) ?_ hn)⟩
    show D1.agg (cs.toList.map qte) = .agg (zs.map eC)
    rw [q5k hzs];rfl
  | _=>cases h
def qzv (f:Nat):IV:=⟨.func (.func f) #[] #[],rfl⟩
def fnD:TC→TC
 | .fn f []=>.d .any (qzv f)
 | c=>c
theorem jz3 (c:TC):eC (fnD c)=eC c:=by
 unfold fnD
 split
 ·rfl
 ·rfl
theorem jwq (cs:List TC):(cs.map fnD).map eC=cs.map eC:=by
 rw [List.map_map];exact List.map_congr_left fun c _=>jz3 c
def qgk (P:Program) (t:TypeId) (m i x:TD) (σ:TSt) (k:TRes→Option α):Option α:=match jst P t,m with
 | some (T,_,ls),.one (.c (.mv β))=>match lk σ.boxes β,x with
  | some (T',[.d (.lst (.prod K V)) xs]),.one y=>if T'=T∧(q7n y).all okT=true∧(q7n y).length=mVw T∧jzr y=mVa T∧K=q2e ls then
    match qun V ((q7n y).map fnD),jqj K (mKa T) i with
    | some v,some s=>k { val:=.one (.c .undef),box:=some (β,(T,[.d (.lst (.prod K V)) (jzk K s v (xs:List (den K×den V)))])) }
    | _,_=>none
   else none
  | _,_=>none
 | _,_=>none
theorem qlj {t:TypeId} {m i x:TD} {k:TRes→Option α} {r:α} (h:qgk P t m i x σ k=some r) : ∃ y,k y=some r∧Sim (q2t P t (eD m) (eD i) (eD x) (eS σ).box) y:=by
 unfold qgk at h
 split at h
 case h_2=>cases h
 rename_i T el ls β hT
 split at h
 case h_2=>cases h
 rename_i T' K V xs y hb
 split at h
 case isFalse=>cases h
 rename_i hc
 obtain ⟨rfl,hok,hlen,hag,rfl⟩:=hc
 split at h
 case h_2=>cases h
 rename_i v s hv hs
 rw [jp0] at h
 refine ⟨_,h,Sim.tr ?_⟩
 obtain ⟨kt,ka,vw,va,_,hkl,_,_,_,_,hka,_,_,hl0⟩:=qsr hT
 have hkey:=jdv hl0 (fun h0=>by rw [hka] at h0;subst h0;exact j33 hkl) hs
 have hbx:(eS σ).box β=some (T',[.d (.lst (width (.prod (q2e ls) V)) ((xs:List (den (q2e ls)×den V)).map (q03 (.prod (q2e ls) V))))]):=q56 hb
 show q2t P t (.one (.c (.mv β))) (eD i) (.one (e1 y)) (eS σ).box=_
 have h1:(q0l (e1 y)).all okC=true:=by rw [q2a];exact qxj hok
 have h2:(q0l (e1 y)).length=mVw T':=by rw [q2a,List.length_map];exact hlen
 have h3:jt5 (e1 y)=mVa T':=by rw [← hag];cases y<;>rfl
 have h4:(q0l (e1 y)).mapM qml=some (q03 V v):=by rw [q2a,← jwq,q77 hv,q8q]
 generalize e1 y=y1 at h1 h2 h3 h4
 have hput:=ji3 hl0 s v (xs:List (den (q2e ls)×den V))
 simp only [q2t,hT,hbx,hkey,h1,h2,h3,jx8,and_self,if_true,h4,hput,Option.map_some]
 rfl
def rowD:TD→Bool
 | .one (.c (.row _ _))=>true
 | _=>false
def tev (P:Program) (o:Oper) (σ:TSt) (k:TRes→Option α):Option α:=match o.op with
 | .move x=>w1 (q0u σ x) fun y=>k { val:=y }
 | .assign x=>w1 (q0u σ x) fun y=>k { val:=y }
 | .pick c x y=>w1 (q0u σ c) fun c=>w1 (q0u σ x) fun x=>w1 (q0u σ y) fun y=>jab c x y k
 | .alloc t=>qzs P o.dst t σ k
 | .box t x=>w1 (q0u σ x) fun x=>jj5 o.dst t x σ k
 | .load t x=>w1 (q0u σ x) fun x=>j78 P t x σ k
 | .store t x y=>w1 (q0u σ x) fun x=>w1 (q0u σ y) fun y=>qxd P t x y σ k
 | .fieldAddr t x f=>w1 (q0u σ x) fun x=>qbu P t x f k
 | .field t x f=>w1 (q0u σ x) fun x=>qzd P t x f k
 | .index t x i=>w1 (q0u σ x) fun x=>w1 (q0u σ i) fun i=>qy9 P t x i k
 | .indexAddr t x i=>w1 (q0u σ x) fun x=>w1 (q0u σ i) fun i=>qay P t x i σ k
 | .extract x i=>w1 (q0u σ x) fun x=>qkm x i k
 | .build t ps=>qyo P t ps σ k
 | .buildSlice t n ps=>q9l P o.dst t n ps σ k
 | .binOp op t x y _=>bif qfd y then w1 (q0u σ x) fun x=>j6y P op t x k else w1 (q0u σ x) fun x=>w1 (q0u σ y) fun y=>jo0 P op t x y k
 | .makeInterface t x=>w1 (q0u σ x) fun x=>qzu P t x k
 | .unOp op _ x=>w1 (q0u σ x) fun x=>jtf op x k
 | .convert s d x=>w1 (q0u σ x) fun x=>bif j02 P s d then qku P o.dst s d x σ k else ja8 P s d x k
 | .slice t x lo hi none=>w1 (q0u σ x) fun x=>w0 σ lo fun lo=>w0 σ hi fun hi=>bif rowD x then qev P t x lo hi σ k else j07 P t x lo hi k
 | .nilCheck x=>w1 (q0u σ x) fun x=>jhq x k
 | .call ⟨.builtin .len,⟨[x]⟩,⟨[t]⟩⟩=>w1 (q0u σ x) fun x=>jk1 P t x σ k
 | .call ⟨.builtin .append,⟨[s,x]⟩,⟨[t,t']⟩⟩=>if t=t' then w1 (q0u σ s) fun s=>w1 (q0u σ x) fun x=>qr5 P o.dst t s x σ k else none
 | .makeSlice t x y=>bif ql2 x y then w1 (q0u σ x) fun x=>j6q P o.dst t x σ k else none
 | .call ⟨.builtin .max,⟨[x,y]⟩,⟨[_,_]⟩⟩=>w1 (q0u σ x) fun x=>w1 (q0u σ y) fun y=>js7 max x y k
 | .call ⟨.builtin .min,⟨[x,y]⟩,⟨[_,_]⟩⟩=>w1 (q0u σ x) fun x=>w1 (q0u σ y) fun y=>js7 min x y k
 | .makeFunc (.func f) ⟨[]⟩ cs=>jyz f (q43 σ cs.toList) k
 | .makeMap t none=>qk6 P o.dst t σ k
 | .lookup t m i ok=>w1 (q0u σ m) fun m=>w1 (q0u σ i) fun i=>qok P t m i ok σ k
 | .mapUpdate t m i x=>w1 (q0u σ m) fun m=>w1 (q0u σ i) fun i=>w1 (q0u σ x) fun x=>qgk P t m i x σ k
 | .insert t m i x=>w1 (q0u σ m) fun m=>w1 (q0u σ i) fun i=>w1 (q0u σ x) fun x=>qgk P t m i x σ k
 | _=>none
theorem jc2 {o:Oper} {k:TRes→Option α} {r:α} (h:tev P o σ k=some r) : ∃ y,k y=some r∧Sim (qer P o (opnd (eS σ)) (eS σ).box (eS σ).row) y:=by
 unfold tev at h
 unfold qer
 split at h
 ·rename_i ho;rw [ho]
  obtain ⟨x1,e1',h⟩:=q0i h
  exact ⟨_,h,Sim.tr (by show some _=_;rw [q06 e1'];rfl)⟩
 ·rename_i ho;rw [ho]
  obtain ⟨x1,e1',h⟩:=q0i h
  exact ⟨_,h,Sim.tr (by show some _=_;rw [q06 e1'];rfl)⟩
 ·rename_i ho;rw [ho]
  obtain ⟨x1,e1',h⟩:=q0i h
  obtain ⟨x2,e2',h⟩:=q0i h
  obtain ⟨x3,e3',h⟩:=q0i h
  show ∃ y,_∧Sim (qux _ _ _) y
  rw [q06 e1',q06 e2',q06 e3'];exact jgt h
 ·rename_i ho;rw [ho]
  exact j9r h
 ·rename_i ho;rw [ho]
  obtain ⟨x1,e1',h⟩:=q0i h
  show ∃ y,_∧Sim (qoq _ _ _ _) y
  rw [q06 e1'];exact jkz h
 ·rename_i ho;rw [ho]
  obtain ⟨x1,e1',h⟩:=q0i h
  show ∃ y,_∧Sim (q8s _ _ _ _ _) y
  rw [q06 e1'];exact jga h
 ·rename_i ho;rw [ho]
  obtain ⟨x1,e1',h⟩:=q0i h
  obtain ⟨x2,e2',h⟩:=q0i h
  show ∃ y,_∧Sim (q3h _ _ _ _ _ _) y
  rw [q06 e1',q06 e2'];exact j94 h
 ·rename_i ho;rw [ho]
  obtain ⟨x1,e1',h⟩:=q0i h
  show ∃ y,_∧Sim (q1z _ _ _ _) y
  rw [q06 e1'];exact qrn h
 ·rename_i ho;rw [ho]
  obtain ⟨x1,e1',h⟩:=q0i h
  show ∃ y,_∧Sim (qbw _ _ _ _) y
  rw [q06 e1'];exact j9a h
 ·rename_i ho;rw [ho]
  obtain ⟨x1,e1',h⟩:=q0i h
  obtain ⟨x2,e2',h⟩:=q0i h
  show ∃ y,_∧Sim (q54 _ _ _ _) y
  rw [q06 e1',q06 e2'];exact j9y h
 ·rename_i ho;rw [ho]
  obtain ⟨x1,e1',h⟩:=q0i h
  obtain ⟨x2,e2',h⟩:=q0i h
  show ∃ y,_∧Sim (q0y _ _ _ _ _) y
  rw [q06 e1',q06 e2'];exact qp7 h
 ·rename_i ho;rw [ho]
  obtain ⟨x1,e1',h⟩:=q0i h
  show ∃ y,_∧Sim (q6i _ _) y
  rw [q06 e1'];exact qxm h
 ·rename_i ho;rw [ho]
  exact jah h
 ·rename_i ho;rw [ho]
  exact qmi h
 ·rename_i ho;rw [ho]
  show ∃ y,_∧Sim (bif qfd _ then qlv _ _ _ _ else qbb _ _ _ _ _) y
  cases hn:qfd _ with
  | true =>
   rw [hn] at h
   obtain ⟨x1,e1',h⟩:=q0i h
   rw [q06 e1'];exact jgq h
  | false =>
   rw [hn] at h
   obtain ⟨x1,e1',h⟩:=q0i h
   obtain ⟨x2,e2',h⟩:=q0i h
   rw [q06 e1',q06 e2'];exact jiu h
 ·rename_i ho;rw [ho]
  obtain ⟨x1,e1',h⟩:=q0i h
  show ∃ y,_∧Sim (qex _ _ _) y
  rw [q06 e1'];exact j8p h
 ·rename_i ho;rw [ho]
  obtain ⟨x1,e1',h⟩:=q0i h
  show ∃ y,_∧Sim (jwy _ _) y
  rw [q06 e1'];exact jrf h
 ·rename_i ho;rw [ho]
  obtain ⟨x1,e1',h⟩:=q0i h
  show ∃ y,_∧Sim (match qe2 _ _ _ _ with|some r=>some r|none=>q3a _ _ _ _ _ _) y
  rw [q06 e1']
  cases hb:j02 P _ _ with
  | true =>
   rw [hb] at h
   rw [jai hb]
   exact qys h
  | false =>
   rw [hb] at h
   obtain ⟨y,h1,c,h2,h3⟩:=jgw (P:=P) h
   rw [h3]
   exact ⟨y,h1,c,h2,rfl⟩
 ·rename_i ho;rw [ho]
  obtain ⟨x1,e1',h⟩:=q0i h
  obtain ⟨x2,e2',h⟩:=jl3 h
  obtain ⟨x3,e3',h⟩:=jl3 h
  show ∃ y,_∧Sim (match q6l _ _ _ _ _ with|some r=>some r|none=>q2v _ _ _ _ _ _) y
  rw [q06 e1',e2',e3']
  cases hb:rowD x1 with
  | true =>
   rw [hb] at h
   obtain ⟨y,h1,h2,h3⟩:=qu8 (P:=P) h
   rw [h2]
   exact ⟨y,h1,h3⟩
  | false =>
   rw [hb] at h
   obtain ⟨y,h1,c,h2,h3⟩:=j9v (P:=P) h
   rw [h3]
   exact ⟨y,h1,c,h2,rfl⟩
 ·rename_i ho;rw [ho]
  obtain ⟨x1,e1',h⟩:=q0i h
  show ∃ y,_∧Sim (jk3 _) y
  rw [q06 e1'];exact jlb h
 ·rename_i ho;rw [ho]
  obtain ⟨x1,e1',h⟩:=q0i h
  show ∃ y,_∧Sim (qj5 _ _ _ _) y
  rw [q06 e1'];exact jlv h
 ·rename_i ho;rw [ho]
  split at h
  case isFalse=>cases h
  rename_i ht
  obtain ⟨x1,e1',h⟩:=q0i h
  obtain ⟨x2,e2',h⟩:=q0i h
  show ∃ y,_∧Sim (if _=_ then q2x _ _ _ _ _ _ else none) y
  rw [if_pos ht,q06 e1',q06 e2'];exact j4q h
 ·rename_i ho;rw [ho]
  cases hs:ql2 _ _ with
  | false=>rw [hs] at h;cases h
  | true =>
   rw [hs] at h
   obtain ⟨x1,e1',h⟩:=q0i h
   show ∃ y,_∧Sim (bif ql2 _ _ then qib _ _ _ _ _ else none) y
   rw [hs,q06 e1'];exact jgc h
 ·rename_i ho;rw [ho]
  obtain ⟨x1,e1',h⟩:=q0i h
  obtain ⟨x2,e2',h⟩:=q0i h
  show ∃ y,_∧Sim (jow _ _ _) y
  rw [q06 e1',q06 e2'];exact jbl h
 ·rename_i ho;rw [ho]
  obtain ⟨x1,e1',h⟩:=q0i h
  obtain ⟨x2,e2',h⟩:=q0i h
  show ∃ y,_∧Sim (jow _ _ _) y
  rw [q06 e1',q06 e2'];exact jbl h
 ·rename_i f cs ho;rw [ho]
  unfold jyz at h
  split at h
  case h_2=>cases h
  rename_i ds hds
  split at h
  case h_2=>cases h
  rename_i c cs' hc
  refine ⟨_,h,Sim.tr ?_⟩
  show jzm f (cs.toList.map (opnd (eS σ)))=_
  rw [qi2 hds]
  unfold jzm
  rw [j50 hc]
  rfl
 ·rename_i ho;rw [ho]
  exact qz7 h
 ·rename_i ho;rw [ho]
  obtain ⟨x1,e1',h⟩:=q0i h
  obtain ⟨x2,e2',h⟩:=q0i h
  show ∃ y,_∧Sim (q2g _ _ _ _ _ _) y
  rw [q06 e1',q06 e2'];exact j4t h
 ·rename_i ho;rw [ho]
  obtain ⟨x1,e1',h⟩:=q0i h
  obtain ⟨x2,e2',h⟩:=q0i h
  obtain ⟨x3,e3',h⟩:=q0i h
  show ∃ y,_∧Sim (q2t _ _ _ _ _ _) y
  rw [q06 e1',q06 e2',q06 e3'];exact qlj h
 ·rename_i ho;rw [ho]
  obtain ⟨x1,e1',h⟩:=q0i h
  obtain ⟨x2,e2',h⟩:=q0i h
  obtain ⟨x3,e3',h⟩:=q0i h
  show ∃ y,_∧Sim (q2t _ _ _ _ _ _) y
  rw [q06 e1',q06 e2',q06 e3'];exact qlj h
 ·cases h
end Go.Proofs.YtapfankgdkdkgaaGreatDoor.AM
