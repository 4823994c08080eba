
import Derived.Test.YtapfankgdkdkgaaGreatDoorEb2
import Derived.MapKept
import Derived.Scope
import Derived.WideLaws
set_option linter.unusedVariables false
namespace Go.Proofs.YtapfankgdkdkgaaGreatDoor.AM
open Go.RowKit
set_option linter.unusedSimpArgs false
variable {F:Fr} {σ:St} {e:Env} {a:Act} {w:World} {P:Program}
inductive KL where
  | s
  | i (k:IntKind)
def okK:KL→Value→Bool
  | .s,.string _=>true
  | .i k,.int k' _=>decide (k=k')
  | _,_=>false
def qai:List KL→List Value→Bool
  | [],[]=>true
  | l::ls,u::us=>okK l u&&qai ls us
  | _,_=>false
def eqK:Value→Value→Bool
  | .string a,.string b=>decide (a=b)
  | .int _ a,.int _ b=>decide (a=b)
  | _,_=>false
def qrm:List Value→List Value→Bool
  | [],[]=>true
  | u::us,v::vs=>eqK u v&&qrm us vs
  | _,_=>false
theorem k8v {l:KL} {u v:Value} (hu:okK l u=true) (hv:okK l v=true):eqK u v=true↔u=v:=by
  cases l<;>cases u<;>simp only [okK,Bool.false_eq_true] at hu<;>cases v<;>simp only [okK,Bool.false_eq_true,decide_eq_true_eq] at hu hv
  · simp [eqK]
  · subst hu;subst hv;simp [eqK]
theorem jrr : ∀ {ls:List KL} {us vs:List Value},qai ls us=true→qai ls vs=true→(qrm us vs=true↔us=vs)
  | [],[],[],_,_=>by simp [qrm]
  | l::ls,u::us,v::vs,hu,hv=>by
    simp only [qai,Bool.and_eq_true] at hu hv
    simp only [qrm,Bool.and_eq_true,k8v hu.1 hv.1,jrr hu.2 hv.2,List.cons.injEq]
  | [],_::_,_,h,_=>by cases h
  | [],[],_::_,_,h=>by cases h
  | _::_,[],_,h,_=>by cases h
  | _::_,_::_,[],_,h=>by cases h
theorem q7z : ∀ {ls:List KL} {us:List Value},qai ls us=true→us.length=ls.length
  | [],[],_=>rfl
  | l::ls,u::us,h=>by simp only [qai,Bool.and_eq_true] at h;rw [List.length_cons,List.length_cons,q7z h.2]
  | [],_::_,h=>by cases h
  | _::_,[],h=>by cases h
theorem qat : ∀ {ls ms:List KL} {us:List Value},qai (ls++ms) us=true→qai ls (us.take ls.length)=true∧qai ms (us.drop ls.length)=true
  | [],ms,us,h=>⟨by simp [qai],by simpa using h⟩
  | l::ls,ms,u::us,h=>by
    simp only [List.cons_append,qai,Bool.and_eq_true] at h
    obtain ⟨h1,h2⟩:=qat h.2
    exact ⟨by simp [qai,h.1,h1],by simpa using h2⟩
  | _::_,_,[],h=>by cases h
theorem qz0 : ∀ (n:Nat) {us vs:List Value},us.length=vs.length→qrm us vs=(qrm (us.take n) (vs.take n)&&qrm (us.drop n) (vs.drop n))
  | 0,us,vs,_=>by simp [qrm]
  | n+1,[],[],_=>by simp [qrm]
  | n+1,u::us,v::vs,h=>by
    simp only [List.take_succ_cons,List.drop_succ_cons,qrm,qz0 n (us:=us) (vs:=vs) (by simpa using h),Bool.and_assoc]
  | _+1,[],_::_,h=>by simp at h
  | _+1,_::_,[],h=>by simp at h
theorem k4g {l:KL} {u:Value} (h:okK l u=true):u.oneCell'=true:=by
  cases l<;>cases u<;>first|rfl|simp [okK] at h
theorem jk1 : ∀ {ls:List KL} {us:List Value},qai ls us=true→∀ u∈us,u.oneCell'=true
  | [],[],_,u,hu=>by cases hu
  | l::ls,x::us,h,u,hu=>by
    simp only [qai,Bool.and_eq_true] at h
    rcases List.mem_cons.1 hu with rfl|hu
    · exact k4g h.1
    · exact jk1 h.2 u hu
  | [],_::_,h,_,_=>by cases h
  | _::_,[],h,_,_=>by cases h
def q6o (P:Program) (rec:TypeId→Option (List KL)):Nat→List Field→Option (List KL)
  | _,[]=>some []
  | o,f::fs=>if f.name = "_" ∨ f.offset≠o then none else match j10 P f.type with
    | some false=>match P.underlying f.type,q6o P rec (o+1) fs with
      | some .string,some l=>some (.s::l)
      | some (.int k),some l=>some (.i k::l)
      | _,_=>none
    | some true=>match rec f.type,tsz P f.type with
      | some l1,some m=>if l1.length=m then (q6o P rec (o+m) fs).map (l1 ++ ·) else none
      | _,_=>none
    | none=>none
def leaves (P:Program):Nat→TypeId→Option (List KL)
  | 0,_=>none
  | n+1,t=>match P.underlying t with
    | some (.struct fs)=>if P.stoodInHeld t=false then q6o P (leaves P n) 0 fs.toList else none
    | _=>none
theorem qvo {α:Type} {l:List α} {n:Nat} {x:α} {xs:List α} (h:l.drop n=x::xs):l[n]? = some x∧l.drop (n+1)=xs:=by
  constructor
  · have:=congrArg (·[0]?) h;simpa using this
  · have:=congrArg (List.drop 1) h;simpa [List.drop_drop] using this
theorem qig {rec:TypeId→Option (List KL)} {o:Nat} {f:Field} {fs:List Field} {ls:List KL} (h:q6o P rec o (f::fs)=some ls):f.name ≠ "_"∧f.offset=o ∧
    (
     (j10 P f.type=some false∧∃ l l',ls=l::l'∧q6o P rec (o+1) fs=some l'∧((P.underlying f.type=some .string∧l = .s) ∨ ∃ k,P.underlying f.type=some (.int k)∧l = .i k)) ∨
     (j10 P f.type=some true∧∃ l1 l2,rec f.type=some l1∧tsz P f.type=some l1.length∧q6o P rec (o+l1.length) fs=some l2∧ls=l1++l2)):=by
  unfold q6o at h
  split at h
  · cases h
  rename_i hn
  rw [not_or] at hn
  refine ⟨hn.1,Decidable.of_not_not hn.2,?_⟩
  split at h
  · rename_i ha
    split at h
    · rename_i l hu hl
      simp only [Option.some.injEq] at h
      exact Or.inl ⟨ha,_,l,h.symm,hl,Or.inl ⟨hu,rfl⟩⟩
    · rename_i k l hu hl
      simp only [Option.some.injEq] at h
      exact Or.inl ⟨ha,_,l,h.symm,hl,Or.inr ⟨k,hu,rfl⟩⟩
    · cases h
  · rename_i ha
    split at h
    case h_2=>cases h
    rename_i l1 m h1 h2
    split at h
    case isFalse=>cases h
    rename_i hm
    subst hm
    obtain ⟨l2,h3,rfl⟩:=Option.map_eq_some_iff.1 h
    exact Or.inr ⟨ha,l1,l2,h1,h2,h3,rfl⟩
  · cases h
theorem jkz {t:TypeId} {l:KL} {x y:Value} (hl:(P.underlying t=some .string∧l = .s) ∨ ∃ k,P.underlying t=some (.int k)∧l = .i k) (hx:okK l x=true) (hy:okK l y=true):eqV P t x y=some (eqK x y):=by
  rcases hl with ⟨hu,rfl⟩|⟨k,hu,rfl⟩
  · cases x<;>simp only [okK,Bool.false_eq_true] at hx
    cases y<;>simp only [okK,Bool.false_eq_true] at hy
    simp only [eqV,hu,eqK]
  · cases x<;>simp only [okK,Bool.false_eq_true,decide_eq_true_eq] at hx
    cases y<;>simp only [okK,Bool.false_eq_true,decide_eq_true_eq] at hy
    subst hx;subst hy
    simp only [eqV,hu,eqK,if_true]
theorem qh5 {rec:TypeId→Option (List KL)} {er:TypeId→List Value→List Value→Option Bool} (hrec : ∀ t l xs ys,rec t=some l→qai l xs=true→qai l ys=true→er t xs ys=some (qrm xs ys)) :
    ∀ {fs:List Field} {o:Nat} {ls:List KL} {us vs:List Value},q6o P rec o fs=some ls→qai ls (us.drop o)=true→qai ls (vs.drop o)=true→o≤us.length→o≤vs.length→jrm P er fs us vs=some (qrm (us.drop o) (vs.drop o))
  | [],o,ls,us,vs,h,hu,hv,_,_=>by
    simp only [q6o,Option.some.injEq] at h
    subst h
    have h1:us.drop o = []:=List.eq_nil_of_length_eq_zero (q7z hu)
    have h2:vs.drop o = []:=List.eq_nil_of_length_eq_zero (q7z hv)
    rw [h1,h2];rfl
  | f::fs,o,ls,us,vs,h,hu,hv,lu,lv=>by
    obtain ⟨hn,ho,h⟩:=qig h
    rcases h with ⟨ha,l,l',rfl,hl',hl⟩|⟨ha,l1,l2,h1,hs,h2,rfl⟩
    · cases hus:us.drop o with
      | nil=>rw [hus] at hu;cases hu
      | cons x xs =>
        cases hvs:vs.drop o with
        | nil=>rw [hvs] at hv;cases hv
        | cons y ys =>
          rw [hus] at hu;rw [hvs] at hv
          simp only [qai,Bool.and_eq_true] at hu hv
          obtain ⟨a1,a2⟩:=qvo hus
          obtain ⟨b1,b2⟩:=qvo hvs
          have la:o+1≤us.length:=by have:=(List.getElem?_eq_some_iff.1 a1).1;omega
          have lb:o+1≤vs.length:=by have:=(List.getElem?_eq_some_iff.1 b1).1;omega
          have ih:=qh5 hrec (fs:=fs) (o:=o+1) (us:=us) (vs:=vs) hl' (by rw [a2];exact hu.2) (by rw [b2];exact hv.2) la lb
          unfold jrm
          rw [if_neg hn,ha,ho,a1,b1]
          simp only [jkz hl hu.1 hv.1,ih,a2,b2]
          rfl
    · obtain ⟨u1,u2⟩:=qat hu
      obtain ⟨v1,v2⟩:=qat hv
      have e1:=q7z hu
      have e2:=q7z hv
      rw [List.length_append,List.length_drop] at e1 e2
      have hr:=hrec f.type l1 _ _ h1 u1 v1
      have ih:=qh5 hrec (fs:=fs) (o:=o+l1.length) (us:=us) (vs:=vs) h2 (by rw [← List.drop_drop];exact u2) (by rw [← List.drop_drop];exact v2) (by omega) (by omega)
      unfold jrm
      rw [if_neg hn,ha,ho,hs]
      simp only [hr,ih,← List.drop_drop]
      rw [if_pos ⟨by omega,by omega⟩,qz0 l1.length (us:=us.drop o) (vs:=vs.drop o) (by simp only [List.length_drop];omega)]
theorem qzw : ∀ (n:Nat) {t:TypeId} {ls:List KL} {us vs:List Value},leaves P n t=some ls→qai ls us=true→qai ls vs=true→eqS P n t us vs=some (qrm us vs)
  | 0,_,_,_,_,h,_,_=>by cases h
  | n+1,t,ls,us,vs,h,hu,hv=>by
    unfold leaves at h
    split at h
    case h_2=>cases h
    rename_i fs hun
    split at h
    case isFalse=>cases h
    rename_i hs
    unfold eqS
    rw [hun]
    simp only [hs,if_true]
    have:=qh5 (P:=P) (rec:=leaves P n) (er:=eqS P n) (fun t l xs ys h1 h2 h3=>qzw n h1 h2 h3) (fs:=fs.toList) (o:=0) (us:=us) (vs:=vs) h (by simpa using hu) (by simpa using hv) (Nat.zero_le _) (Nat.zero_le _)
    simpa using this
theorem qua {em:Bool} : ∀ (n:Nat) {t:TypeId} {ls:List KL} {us:Array Value},leaves P n t=some ls→qai ls us.toList=true→∀ d,n<d→(Instr.checkKey em d t (.agg us)).run P w = .ok () w
  | 0,_,_,_,h,_,_,_=>by cases h
  | n+1,t,ls,us,h,hu,d,hd=>by
    obtain ⟨d,rfl⟩ : ∃ d',d=d'+1:=⟨d - 1,by omega⟩
    obtain ⟨d',hd'⟩ : ∃ d',d=d'+1:=⟨d - 1,by omega⟩
    unfold leaves at h
    split at h
    case h_2=>cases h
    rename_i fs hun
    split at h
    case isFalse=>cases h
    unfold Instr.checkKey
    simp only [Sem.run_bind,run_underlying hun w,Result.andThen_ok]
    rw [← Array.forIn_toList]
    generalize fs.toList=L at h ⊢
    replace hu:qai ls (us.toList.drop 0)=true:=by simpa using hu
    have lu:0≤us.toList.length:=Nat.zero_le _
    generalize (0:Nat)=o at h hu lu
    clear hun
    induction L generalizing o ls with
    | nil=>simp
    | cons f fs ih =>
      obtain ⟨hn,ho,h⟩:=qig h
      rcases h with ⟨ha,l,l',rfl,hl',hl⟩|⟨ha,l1,l2,h1,hs,h2,rfl⟩
      · cases hus:us.toList.drop o with
        | nil=>rw [hus] at hu;cases hu
        | cons x xs =>
          rw [hus] at hu
          simp only [qai,Bool.and_eq_true] at hu
          obtain ⟨a1,a2⟩:=qvo hus
          have la:o+1≤us.toList.length:=by have:=(List.getElem?_eq_some_iff.1 a1).1;omega
          have:=ih (ls:=l') (o:=o+1) hl' (by rw [a2];exact hu.2) la
          rw [Array.getElem?_toList] at a1
          have p1:(part f.type us f.offset).run P w = .ok x w:=by simp [part,Sem.run_bind,q1w ha w,ho,a1]
          have p2:(Instr.checkKey em d f.type x).run P w = .ok () w:=by
            rw [hd']
            rcases hl with ⟨hu1,rfl⟩|⟨k,hu1,rfl⟩<;>cases x<;>simp only [okK,Bool.false_eq_true] at hu<;>first|(exact absurd hu.1 (by decide))|simp [Instr.checkKey,Sem.run_bind,run_underlying hu1 w]
          simp [Sem.run_bind,hn,p1,p2]
          simpa [Sem.run_bind] using this
      · obtain ⟨u1,u2⟩:=qat hu
        have e1:=q7z hu
        rw [List.length_append,List.length_drop] at e1
        have:=ih (ls:=l2) (o:=o+l1.length) h2 (by rw [← List.drop_drop];exact u2) (by omega)
        have q1:(us.extract f.offset (f.offset+l1.length)).toList=(us.toList.drop o).take l1.length:=by rw [Array.toList_extract,List.extract_eq_take_drop,ho];congr 1;omega
        have p1:(part f.type us f.offset).run P w = .ok (.agg (us.extract f.offset (f.offset+l1.length))) w:=by
          simp [part,Sem.run_bind,q1w ha w,q0z hs w]
        have p2:(Instr.checkKey em d f.type (.agg (us.extract f.offset (f.offset+l1.length)))).run P w = .ok () w:=qua n h1 (by rw [q1];exact u1) d (by omega)
        simp [Sem.run_bind,hn,p1,p2]
        simpa [Sem.run_bind] using this
def jp2 (P:Program) (k:TypeId):Option (Bool×List KL):=match P.underlying k with
  | some .string=>some (false,[.s])
  | some (.int q)=>some (false,[.i q])
  | some (.struct _)=>(leaves P 9 k).map fun l=>(true,l)
  | _=>none
def k2l (P:Program) (t:TypeId):Option (Nat×TypeId×List KL):=match P.underlying t with
  | some (.map k e)=>match jp2 P k,tsz P e,j10 P e with
    | some (ka,ls),some vw,some va=>if vw<1024∧ls.length<1024∧0<ls.length then some (2199023255552+4096*ls.length+(bif ka then 2048 else 0)+2*vw+(bif va then 1 else 0),e,ls) else none
    | _,_,_=>none
  | _=>none
theorem qu7 {t:TypeId} {T:Nat} {el:TypeId} {ls:List KL} (h:k2l P t=some (T,el,ls)) : ∃ k ka vw va,P.underlying t=some (.map k el)∧jp2 P k=some (ka,ls)∧tsz P el=some vw∧j10 P el=some va ∧
    2199023255552≤T∧mKw T=ls.length∧mKa T=ka∧mVw T=vw∧mVa T=va∧0<ls.length:=by
  unfold k2l at h
  split at h
  case h_2=>cases h
  rename_i k e' ht
  split at h
  case h_2=>cases h
  rename_i ka ls' vw va hk hs hg
  split at h
  case isFalse=>cases h
  rename_i hv
  obtain ⟨hv,hl,hl0⟩:=hv
  simp only [Option.some.injEq,Prod.mk.injEq] at h
  obtain ⟨rfl,rfl,rfl⟩:=h
  refine ⟨k,ka,vw,va,ht,hk,hs,hg,?_⟩
  generalize ls'.length=n at hl hl0 ⊢
  cases ka<;>cases va<;>simp only [cond_false,cond_true,mKw,mKa,mVw,mVa]<;>refine ⟨by omega,by omega,?_,by omega,?_,hl0⟩
  · have:(2199023255552+4096*n+0+2*vw+0) / 2048 % 2=0:=by omega
    rw [this];rfl
  · have:(2199023255552+4096*n+0+2*vw+0) % 2=0:=by omega
    rw [this];rfl
  · have:(2199023255552+4096*n+0+2*vw+1) / 2048 % 2=0:=by omega
    rw [this];rfl
  · have:(2199023255552+4096*n+0+2*vw+1) % 2=1:=by omega
    rw [this];rfl
  · have:(2199023255552+4096*n+2048+2*vw+0) / 2048 % 2=1:=by omega
    rw [this];rfl
  · have:(2199023255552+4096*n+2048+2*vw+0) % 2=0:=by omega
    rw [this];rfl
  · have:(2199023255552+4096*n+2048+2*vw+1) / 2048 % 2=1:=by omega
    rw [this];rfl
  · have:(2199023255552+4096*n+2048+2*vw+1) % 2=1:=by omega
    rw [this];rfl
structure Finder (P:Program) (w:World) (k:TypeId) (ka:Bool) (ls:List KL) (us:List Value) (f:List MapEntry→Nat→Sem (Option (Nat×Value))):Prop where
  nil : ∀ i,(f [] i).run P w = .ok none w
  hit : ∀ vs v b es i,qai ls vs=true→qrm us vs=true→(f ({ key:=valOf ka vs,val:=v,born:=b } :: es) i).run P w = .ok (some (i,v)) w
  miss : ∀ vs v b es i,qai ls vs=true→qrm us vs=false→(f ({ key:=valOf ka vs,val:=v,born:=b } :: es) i).run P w=(f es (i+1)).run P w
theorem k8f {l:KL} {d:TypeDesc} {u v:Value} (hd:(d = .string∧l = .s) ∨ ∃ k,d = .int k∧l = .i k) (hu:okK l u=true) (hv:okK l v=true):Instr.sameNow d u v=some (eqK u v):=by
  rcases hd with ⟨rfl,rfl⟩|⟨k,rfl,rfl⟩
  · cases u<;>simp only [okK,Bool.false_eq_true] at hu
    cases v<;>simp only [okK,Bool.false_eq_true] at hv
    rename_i a b
    show some (a==b)=some (decide (a=b))
    congr 1
    have e1:(a==b)=(a.data==b.data):=rfl
    rw [e1,Bool.eq_iff_iff]
    simp only [beq_iff_eq,decide_eq_true_eq]
    exact ⟨fun h=>by cases a;cases b;simp only [ByteArray.mk.injEq];exact h,fun h=>by rw [h]⟩
  · cases u<;>simp only [okK,Bool.false_eq_true,decide_eq_true_eq] at hu
    cases v<;>simp only [okK,Bool.false_eq_true,decide_eq_true_eq] at hv
    subst hu;subst hv
    simp only [Instr.sameNow,if_true,eqK]
    congr 1
theorem jta (us:List Value):valOf true us = .agg us.toArray:=rfl
theorem j36 {k:TypeId} {ka:Bool} {ls:List KL} {us:List Value} (hk:jp2 P k=some (ka,ls)) (hu:qai ls us=true) (w:World) :
    (∀ em,(Instr.checkKey em 10000 k (valOf ka us)).run P w = .ok () w)∧(Instr.keyThatStays (valOf ka us) (valOf ka us)).run P w = .ok (valOf ka us) w ∧
    ∃ f,Finder P w k ka ls us f∧∀ es,(Instr.findKey k (valOf ka us) es).run P w=(f es 0).run P w:=by
  have one : ∀ (d:TypeDesc) (l:KL),P.underlying k=some d→((d = .string∧l = .s) ∨ ∃ k,d = .int k∧l = .i k)→ka=false→ls = [l]→(∀ em,(Instr.checkKey em 10000 k (valOf ka us)).run P w = .ok () w)∧(Instr.keyThatStays (valOf ka us) (valOf ka us)).run P w = .ok (valOf ka us) w ∧
    ∃ f,Finder P w k ka ls us f∧∀ es,(Instr.findKey k (valOf ka us) es).run P w=(f es 0).run P w:=by
    rintro d l hun hd rfl rfl
    cases us with
    | nil=>cases hu
    | cons u us =>
      simp only [qai,Bool.and_eq_true] at hu
      obtain ⟨hu1,hu2⟩:=hu
      cases us with
      | cons _ _=>cases hu2
      | nil =>
        have hik:MapKept.IsKey d u:=by
          rcases hd with ⟨rfl,rfl⟩|⟨k,rfl,rfl⟩<;>cases u<;>simp only [okK,Bool.false_eq_true,decide_eq_true_eq] at hu1
          · exact trivial
          · subst hu1;exact rfl
        refine ⟨fun em=>MapKept.run_checkKey hun hik em 9999,MapKept.run_keyThatStays (d:=d) hik,fun es i=>(match Instr.findNow d u es i with|some r=>pure r|none=>Instr.findAsking k u es i),⟨fun i=>rfl,fun vs v b es i hv he=>?_,fun vs v b es i hv he=>?_⟩,fun es=>?_⟩
        · cases vs with
          | nil=>cases hv
          | cons x xs =>
            simp only [qai,qrm,Bool.and_eq_true] at hv he
            have:=k8f hd hu1 hv.1
            rw [he.1] at this
            show (match Instr.findNow d u (({ key:=x,val:=v,born:=b } : MapEntry)::es) i with|some r=>(pure r:Sem _)|none=>Instr.findAsking k u (({ key:=x,val:=v,born:=b } : MapEntry)::es) i).run P w=_
            simp only [Instr.findNow,this]
            rfl
        · cases vs with
          | nil=>cases hv
          | cons x xs =>
            simp only [qai,qrm,Bool.and_eq_true] at hv he
            cases xs with
            | cons _ _=>cases hv.2
            | nil =>
              have:=k8f hd hu1 hv.1
              simp only [qrm,Bool.and_true] at he
              rw [he] at this
              have heq:(Op.equal k u x).run P w = .ok false w:=by
                have hl:(P.underlying k=some .string∧l = .s) ∨ ∃ q,P.underlying k=some (.int q)∧l = .i q:=by
                  rcases hd with ⟨rfl,rfl⟩|⟨q,rfl,rfl⟩
                  · exact Or.inl ⟨hun,rfl⟩
                  · exact Or.inr ⟨q,hun,rfl⟩
                have h3:=jkz hl hu1 hv.1
                rw [he] at h3
                exact j3t h3 9999 w
              show (match Instr.findNow d u (({ key:=x,val:=v,born:=b } : MapEntry)::es) i with|some r=>(pure r:Sem _)|none=>Instr.findAsking k u (({ key:=x,val:=v,born:=b } : MapEntry)::es) i).run P w=(match Instr.findNow d u es (i+1) with|some r=>(pure r:Sem _)|none=>Instr.findAsking k u es (i+1)).run P w
              simp only [Instr.findNow,this]
              cases Instr.findNow d u es (i+1) with
              | some r=>rfl
              | none=>simp [Instr.findAsking,Sem.run_bind,heq]
        · show (Instr.findKey k u es).run P w=_
          unfold Instr.findKey
          simp only [Sem.run_bind,run_underlying hun w,Result.andThen_ok]
          rfl
  unfold jp2 at hk
  split at hk
  · rename_i hun
    simp only [Option.some.injEq,Prod.mk.injEq] at hk
    exact one _ .s hun (Or.inl ⟨rfl,rfl⟩) hk.1.symm hk.2.symm
  · rename_i q hun
    simp only [Option.some.injEq,Prod.mk.injEq] at hk
    exact one _ (.i q) hun (Or.inr ⟨q,rfl,rfl⟩) hk.1.symm hk.2.symm
  · rename_i fs hun
    obtain ⟨l,hl,hk2⟩:=Option.map_eq_some_iff.1 hk
    simp only [Prod.mk.injEq] at hk2
    obtain ⟨rfl,rfl⟩:=hk2
    have heq : ∀ vs:List Value,qai l vs=true→(Op.equal k (.agg us.toArray) (.agg vs.toArray)).run P w = .ok (qrm us vs) w:=fun vs hv=>by
      unfold Op.equal Op.maxDepth
      exact jgr 9 (us:=us.toArray) (vs:=vs.toArray) (by simpa using qzw 9 hl hu hv) 10000 (by omega)
    refine ⟨fun em=>qua 9 (us:=us.toArray) hl (by simpa using hu) 10000 (by omega),?_,fun es i=>Instr.findAsking k (.agg us.toArray) es i,⟨fun i=>rfl,fun vs v b es i hv he=>?_,fun vs v b es i hv he=>?_⟩,fun es=>?_⟩
    · have:Instr.sameBits 10000 (.agg us.toArray) (.agg us.toArray)=true:=by
        show (us.toArray.size==us.toArray.size&&(us.toArray.toList.zip us.toArray.toList).all fun (x,y)=>Instr.sameBits 9999 x y)=true
        simp only [BEq.rfl,Bool.true_and]
        have hz : ∀ {ls:List KL} {us:List Value},qai ls us=true→(us.zip us).all (fun (x,y)=>Instr.sameBits 9999 x y)=true:=by
          intro ls
          induction ls with
          | nil=>intro us h;cases us with
            | nil=>rfl
            | cons _ _=>cases h
          | cons l ls ih=>intro us h;cases us with
            | nil=>cases h
            | cons u us =>
              simp only [qai,Bool.and_eq_true] at h
              simp only [List.zip_cons_cons,List.all_cons,ih h.2,Bool.and_true]
              have h1:=h.1
              cases l<;>cases u<;>simp only [okK,Bool.false_eq_true] at h1
              · exact (MapKept.bytes_beq _ _).2 rfl
              · simp [Instr.sameBits]
        exact hz hu
      show (Instr.keyThatStays (.agg us.toArray) (.agg us.toArray)).run P w=_
      unfold Instr.keyThatStays
      rw [if_pos this];rfl
    · show (Instr.findAsking k (.agg us.toArray) ({ key:=.agg vs.toArray,val:=v,born:=b } :: es) i).run P w=_
      have:=heq vs hv
      rw [he] at this
      simp [Instr.findAsking,Sem.run_bind,this]
    · show (Instr.findAsking k (.agg us.toArray) ({ key:=.agg vs.toArray,val:=v,born:=b } :: es) i).run P w=_
      have:=heq vs hv
      rw [he] at this
      simp [Instr.findAsking,Sem.run_bind,this]
    · show (Instr.findKey k (.agg us.toArray) es).run P w=_
      unfold Instr.findKey
      simp only [Sem.run_bind,run_underlying hun w,Result.andThen_ok]
      cases es with
      | nil=>rfl
      | cons e es =>
        have:Instr.findNow (.struct fs) (.agg us.toArray) (e::es) 0=none:=by simp [Instr.findNow,Instr.sameNow]
        rw [this]
  · cases hk
def jd7:Nat→List Dat→Option (List Value)
  | 0,_=>some []
  | n+1,.v x::r=>(jd7 n r).map (x :: ·)
  | _+1,_=>none
def qy4 (ls:List KL) (us:List Value) (r:List Dat):Option Bool:=match jd7 ls.length r with
  | some vs=>if qai ls vs=true then some (qrm us vs) else none
  | none=>none
def findD (ls:List KL) (us:List Value):List (List Dat)→Option (Option (List Dat))
  | []=>some none
  | r::rs=>match qy4 ls us r with
    | some true=>some (some r)
    | some false=>findD ls us rs
    | none=>none
def k3s (ls:List KL) (us:List Value) (v:List Dat):List (List Dat)→Option (List (List Dat))
  | []=>some [us.map .v++v]
  | r::rs=>match qy4 ls us r with
    | some true=>some ((us.map .v++v)::rs)
    | some false=>(k3s ls us v rs).map (r :: ·)
    | none=>none
def k6s (Pc:Nat→Nat→Prop) (w:World) (sz:Nat) (us:List Value) (x:List Dat):Prop:=q0j (DatRep Pc w) us x∧us.length=sz∧∀ u∈us,u.oneCell'=true
theorem ji4 {Pc:Nat→Nat→Prop} : ∀ (n:Nat) {x:List Dat} {us vs:List Value},jd7 n x=some vs→q0j (DatRep Pc w) us x→us.take n=vs∧q0j (DatRep Pc w) (us.drop n) (x.drop n)∧vs.length=n
  | 0,x,us,vs,h,hr=>by simp only [jd7,Option.some.injEq] at h;subst h;exact ⟨rfl,hr,rfl⟩
  | n+1,[],us,vs,h,hr=>by cases h
  | n+1,.lst _ _::_,us,vs,h,hr=>by cases h
  | n+1,.v y::r,us,vs,h,hr=>by
    simp only [jd7] at h
    obtain ⟨vs',h1,rfl⟩:=Option.map_eq_some_iff.1 h
    cases us with
    | nil=>exact hr.elim
    | cons u us =>
      obtain ⟨h2,h3⟩:=hr
      cases h2
      obtain ⟨h4,h5,h6⟩:=ji4 n h1 h3
      exact ⟨by rw [List.take_succ_cons,h4],h5,by simp [h6]⟩
theorem jlh {Pc:Nat→Nat→Prop} {ls:List KL} {ks us:List Value} {x:List Dat} {b:Bool} (h:qy4 ls ks x=some b) (hr:q0j (DatRep Pc w) us x):qai ls (us.take ls.length)=true∧qrm ks (us.take ls.length)=b∧q0j (DatRep Pc w) (us.drop ls.length) (x.drop ls.length):=by
  unfold qy4 at h
  split at h
  case h_2=>cases h
  rename_i vs hvs
  split at h
  case isFalse=>cases h
  rename_i hok
  obtain ⟨h1,h2,_⟩:=ji4 _ hvs hr
  simp only [Option.some.injEq] at h
  exact ⟨by rw [h1];exact hok,by rw [h1];exact h,h2⟩
theorem q7f {T:Nat} (i:Nat) (us:List Value) (es:List (List Value)):qrs T i (us::es) = { key:=valOf (mKa T) (us.take (mKw T)),val:=valOf (mVa T) (us.drop (mKw T)),born:=i } :: qrs T (i+1) es:=rfl
theorem jd5 {Pc:Nat→Nat→Prop} {T sz:Nat} {k:TypeId} {ls:List KL} {ks:List Value} {f:List MapEntry→Nat→Sem (Option (Nat×Value))} (hF:Finder P w k (mKa T) ls ks f) (hk:mKw T=ls.length) : ∀ {es:List (List Value)} {xs:List (List Dat)} {i:Nat} {q:Option (List Dat)},q0j (k6s Pc w sz) es xs→findD ls ks xs=some q →
    match q with
    | none=>(f (qrs T i es) i).run P w = .ok none w
    | some r=>∃ j us,(f (qrs T i es) i).run P w = .ok (some (j,valOf (mVa T) us)) w∧q0j (DatRep Pc w) us (r.drop ls.length)∧(∀ u∈us,u.oneCell'=true)∧us.length=sz - ls.length
  | [],[],i,q,_,h=>by
    simp only [findD,Option.some.injEq] at h
    subst h;exact hF.nil i
  | us::es,x::xs,i,q,hr,h=>by
    unfold findD at h
    cases hb:qy4 ls ks x with
    | none=>rw [hb] at h;cases h
    | some b =>
      rw [hb] at h
      obtain ⟨h1,h2,h3⟩:=jlh hb hr.1.1
      rw [q7f,hk]
      cases b with
      | true =>
        simp only [Option.some.injEq] at h
        subst h
        refine ⟨i,us.drop ls.length,hF.hit _ _ _ _ _ h1 h2,h3,fun u hu=>hr.1.2.2 u (List.mem_of_mem_drop hu),?_⟩
        rw [List.length_drop,hr.1.2.1]
      | false =>
        simp only at h
        have ih:=jd5 hF hk (i:=i+1) hr.2 h
        have hm:=hF.miss _ (valOf (mVa T) (us.drop ls.length)) i (qrs T (i+1) es) i h1 h2
        rw [hm]
        exact ih
  | [],_::_,_,_,hr,_=>hr.elim
  | _::_,[],_,_,hr,_=>hr.elim
theorem jkk {Pc:Nat→Nat→Prop} : ∀ us:List Value,q0j (DatRep Pc w) us (us.map Dat.v)
  | []=>trivial
  | _::us=>⟨DatRep.v _,jkk us⟩
theorem k7b {Pc:Nat→Nat→Prop} {T sz:Nat} {k:TypeId} {ls:List KL} {ks vs:List Value} {v:List Dat} {f:List MapEntry→Nat→Sem (Option (Nat×Value))} (hF:Finder P w k (mKa T) ls ks f) (hks:qai ls ks=true) (hk:mKw T=ls.length) (hv:q0j (DatRep Pc w) vs v) (h1 : ∀ u∈vs,u.oneCell'=true) (hl:vs.length+ls.length=sz) :
    ∀ {es:List (List Value)} {xs ys:List (List Dat)} {i:Nat},q0j (k6s Pc w sz) es xs→k3s ls ks v xs=some ys →
    ∃ es',q0j (k6s Pc w sz) es' ys ∧
      ((
        (f (qrs T i es) i).run P w = .ok none w∧qrs T i es'=qrs T i es ++ [{ key:=valOf (mKa T) ks,val:=valOf (mVa T) vs,born:=i+es.length }]∧es'.length=es.length+1) ∨
        ∃ j u,(f (qrs T i es) i).run P w = .ok (some (i+j,u)) w∧(qrs T i es').toArray=(qrs T i es).toArray.modify j (fun e=>{ e with key:=valOf (mKa T) ks,val:=valOf (mVa T) vs })∧es'.length=es.length∧((qrs T i es)[j]?).map (·.key)=some (valOf (mKa T) ks)):=by
  have hkl:=q7z hks
  have hrow:k6s Pc w sz (ks++vs) (ks.map Dat.v++v):=⟨(jkk ks).append hv,by rw [List.length_append];omega,fun u hu=>by
      rcases List.mem_append.1 hu with hu|hu
      · exact jk1 hks u hu
      · exact h1 u hu⟩
  have hnew : ∀ i e0,qrs T i ((ks++vs)::e0) = { key:=valOf (mKa T) ks,val:=valOf (mVa T) vs,born:=i } :: qrs T (i+1) e0:=fun i e0=>by
    rw [q7f,hk,← hkl,List.take_left,List.drop_left]
  intro es
  induction es with
  | nil =>
    intro xs ys i hr h
    cases xs with
    | cons _ _=>exact hr.elim
    | nil =>
      simp only [k3s,Option.some.injEq] at h
      subst h
      exact ⟨[ks++vs],⟨hrow,trivial⟩,Or.inl ⟨hF.nil i,hnew i [],rfl⟩⟩
  | cons us es ih =>
    intro xs ys i hr h
    cases xs with
    | nil=>exact hr.elim
    | cons x xs =>
    unfold k3s at h
    cases hb:qy4 ls ks x with
    | none=>rw [hb] at h;cases h
    | some b =>
      rw [hb] at h
      obtain ⟨k1,k2,k3⟩:=jlh hb hr.1.1
      cases b with
      | true =>
        simp only [Option.some.injEq] at h
        subst h
        have hs:ks=us.take ls.length:=(jrr hks k1).1 k2
        refine ⟨(ks++vs)::es,⟨hrow,hr.2⟩,Or.inr ⟨0,valOf (mVa T) (us.drop ls.length),?_,?_,rfl,?_⟩⟩
        · rw [q7f,hk]
          exact hF.hit _ _ _ _ _ k1 k2
        · rw [hnew,q7f]
          apply Array.toList_inj.1
          simp
        · rw [q7f,hk,← hs];rfl
      | false =>
        simp only at h
        obtain ⟨ys',h3,rfl⟩:=Option.map_eq_some_iff.1 h
        obtain ⟨es',q0,q⟩:=ih (i:=i+1) hr.2 h3
        have hm:=hF.miss _ (valOf (mVa T) (us.drop ls.length)) i (qrs T (i+1) es) i k1 k2
        refine ⟨us::es',⟨hr.1,q0⟩,?_⟩
        rw [q7f,q7f,hk,hm]
        rcases q with ⟨q1,q2,q3⟩|⟨j,u,q1,q2,q3,q4⟩
        · refine Or.inl ⟨q1,?_,by simp [q3]⟩
          rw [q2]
          simp only [List.cons_append,List.length_cons,List.cons.injEq,true_and,List.append_cancel_left_eq,MapEntry.mk.injEq,and_true]
          omega
        · refine Or.inr ⟨j+1,u,by rw [q1];congr 3;omega,?_,by simp [q3],?_⟩
          · have q2':=congrArg Array.toList q2
            apply Array.toList_inj.1
            simp only [Array.toList_modify,List.modify_cons,Nat.add_one_ne_zero,if_false,Nat.add_sub_cancel,List.cons.injEq,true_and] at q2' ⊢
            exact q2'
          · simpa using q4
def q4j (P:Program) (dst:Option Nat) (t:TypeId) (bx:Nat→Option (Nat×List C)):Option Res:=match dst,k2l P t with
  | some i,some (T,_,ls)=>match bx i with
    | none=>if i<1000000 then some { cond:=True,val:=.one (.c (.mv i)),box:=some (i,(T,[.d (.lst (ls.length+mVw T) [])])) } else none
    | some _=>none
  | _,_=>none
theorem jmw {o:Oper} {t:TypeId} {res:Res} (ho:o.op = .makeMap t none) (h:q4j P o.dst t σ.box=some res):q2f P F o σ res:=by
  unfold q4j at h
  split at h
  case h_2=>cases h
  rename_i i T el ls hd hT
  split at h
  case h_2=>cases h
  rename_i hb
  split at h
  case isFalse=>cases h
  rename_i hi
  simp only [Option.some.injEq] at h
  subst h
  obtain ⟨k,ka,vw,va,_,_,_,_,t1,t2,t3,t4,t5,_⟩:=qu7 hT
  intro e a w hR _
  obtain ⟨hf,hh⟩:=hR.hp.allocO i T (.map #[] 0) [.d (.lst (ls.length+mVw T) [])] hb hi fun _=>Or.inr ⟨t1,ls.length+mVw T,[],rfl,by rw [t2],[],heap_alloc_new w _,trivial⟩
  refine ⟨.map (some w.heap.size),_,_,.inl ?_,hf,hh,?_⟩
  · simp [execOp,ho,Instr.makeMap,newObj,Sem.run_bind]
    rfl
  · show (upd σ.box i (some (T,_)) i).isSome=true∧Value.map (some w.heap.size) = .map (some (upd e.m i w.heap.size i))
    rw [q0w,q0w];exact ⟨rfl,rfl⟩
def vD (T:Nat) (ds:List Dat):D1:=match mVa T with
  | true=>.agg (ds.map .d)
  | false=>.c (.d (ds.headD (.v undef)))
def okD (ok:Bool) (x:D1) (b:Bool):D:=match ok with
  | true=>.tup [x,.c (qvb (.bool b))]
  | false=>.one x
def k9c (P:Program) (t:TypeId):Option Value:=(P.info? t).bind (·.zero)
def of1:Value→D1
  | .agg cs=>.agg (cs.toList.map qvb)
  | x=>.c (qvb x)
theorem jyf (x:Value):q9g e σ w x (of1 x):=by
  cases x<;>first|exact DatRep.v _|exact ⟨_,rfl,qbn qvb qft _⟩
def k6r:D→Option (Bool×List Value)
  | .one (.c (.d (.v x)))=>some (false,[x])
  | .one (.agg cs)=>(jpg cs).map fun us=>(true,us)
  | _=>none
theorem ju0 {i:D} {ka:Bool} {us:List Value} {v:Value} (h:k6r i=some (ka,us)) (hv:q2a e σ w v i):v=valOf ka us:=by
  unfold k6r at h
  split at h
  · simp only [Option.some.injEq,Prod.mk.injEq] at h
    obtain ⟨rfl,rfl⟩:=h
    exact q0d hv
  · obtain ⟨us',h1,h2⟩:=Option.map_eq_some_iff.1 h
    simp only [Prod.mk.injEq] at h2
    obtain ⟨rfl,rfl⟩:=h2
    obtain ⟨vs,rfl,h3⟩:=hv
    rw [jta,← j3f h3 h1]
  · cases h
def q2x (P:Program) (t:TypeId) (x i:D) (ok:Bool) (bx:Nat→Option (Nat×List C)):Option Res:=match k2l P t,x with
  | some (T,el,ls),.one (.c (.mv β))=>match bx β with
    | some (T',[.d (.lst sz xs)])=>(match k9c P el,k6r i with
    | some z,some (ka,us)=>if T'=T∧ka=mKa T∧qai ls us=true then match findD ls us xs with
      | some (some r)=>some { cond:=True,val:=okD ok (vD T (r.drop ls.length)) true }
      | some none=>some { cond:=True,val:=okD ok (of1 z) false }
      | none=>none
      else none
    | _,_=>none)
    | _=>none
  | _,_=>none
theorem jsy : ∀ {us:List Value} {ds:List Dat},q0j (DatRep e.Pc w) us ds→q0j (q2v e σ w) us (ds.map C.d)
  | [],[],_=>trivial
  | _::_,_::_,h=>⟨h.1,jsy h.2⟩
  | [],_::_,h=>h.elim
  | _::_,[],h=>h.elim
theorem vD_ok {T:Nat} {us:List Value} {ds:List Dat} (h:q0j (DatRep e.Pc w) us ds):q9g e σ w (valOf (mVa T) us) (vD T ds):=by
  unfold vD valOf
  cases mVa T with
  | true=>exact ⟨us.toArray,rfl,by simpa using jsy h⟩
  | false =>
    cases us with
    | nil=>cases ds with
      | nil=>exact DatRep.v _
      | cons d ds=>exact h.elim
    | cons u us=>cases ds with
      | nil=>exact h.elim
      | cons d ds=>exact h.1
theorem k2u {ok b:Bool} {v:Value} {x:D1} (h:q9g e σ w v x):q2a e σ w (if ok=true then .tuple #[v,.bool b] else v) (okD ok x b):=by
  cases ok with
  | true=>exact ⟨#[v,.bool b],rfl,h,DatRep.v _,trivial⟩
  | false=>exact h
theorem jur {o:Oper} {t:TypeId} {x i:Operand} {ok:Bool} {res:Res} (ho:o.op = .lookup t x i ok) (h:q2x P t (opnd σ x) (opnd σ i) ok σ.box=some res):q2f P F o σ res:=by
  unfold q2x at h
  split at h
  case h_2=>cases h
  rename_i T el ls β hT hx
  split at h
  case h_2=>cases h
  rename_i T' sz xs hb
  split at h
  case h_2=>cases h
  rename_i z ka us hz hi
  split at h
  case isFalse=>cases h
  rename_i hTT
  obtain ⟨rfl,rfl,hus⟩:=hTT
  obtain ⟨k,ka,vw,va,u1,u2,u3,u4,t1,t2,rfl,t4,t5,_⟩:=qu7 hT
  obtain ⟨inf,hinf,hz1⟩:=Option.bind_eq_some_iff.1 hz
  have main : ∀ e a w,R F σ e a w→∃ es:List (List Value),a.eval x = .map (some (e.m β))∧a.eval i=valOf (mKa T') us∧w.heap[e.m β]? = some (.map (qrs T' 0 es).toArray es.length)∧q0j (k6s e.Pc w sz) es xs:=fun e a w hR=>by
    have h1:=hR.opnd x
    rw [hx] at h1
    obtain ⟨_,hB⟩:=hR.hp.boxes β T' _ hb
    rcases hB with ⟨h0,_⟩|⟨_,sz',xs',hc,_,es,h5,h6⟩
    · omega
    · simp only [List.cons.injEq,C.d.injEq,Dat.lst.injEq,and_true] at hc
      obtain ⟨rfl,rfl⟩:=hc
      exact ⟨es,h1.2,ju0 hi (hR.opnd i),h5,h6⟩
  split at h
  · rename_i r hfd
    simp only [Option.some.injEq] at h
    subst h
    refine q2f.same fun e a w hR _=>?_
    obtain ⟨es,h1,h2,h3,h4⟩:=main e a w hR
    obtain ⟨c1,_,f,hF,c2⟩:=j36 u2 hus w
    obtain ⟨j,us',h5,h6,_,_⟩:=jd5 (i:=0) hF t2 h4 hfd
    refine ⟨_,?_,k2u (ok:=ok) (b:=true) (vD_ok (T:=T') h6)⟩
    simp only [execOp,ho,Instr.lookup,h1,h2,Sem.run_bind,run_underlying u1,MapKept.run_getObj_map h3,Result.andThen_ok,Sem.run_pure,c1,c2,h5]
  · rename_i hfd
    simp only [Option.some.injEq] at h
    subst h
    refine q2f.same fun e a w hR _=>?_
    obtain ⟨es,h1,h2,h3,h4⟩:=main e a w hR
    obtain ⟨c1,_,f,hF,c2⟩:=j36 u2 hus w
    have h5:(f (qrs T' 0 es) 0).run P w = .ok none w:=jd5 (i:=0) hF t2 h4 hfd
    have hzr:(zeroValue el).run P w = .ok z w:=by simp [zeroValue,typeInfo,hinf,hz1]
    refine ⟨_,?_,k2u (ok:=ok) (b:=false) (jyf z)⟩
    simp only [execOp,ho,Instr.lookup,h1,h2,Sem.run_bind,run_underlying u1,MapKept.run_getObj_map h3,Result.andThen_ok,Sem.run_pure,c1,c2,h5,hzr]
  · cases h
def k2e:D1→Bool
  | .agg _=>true
  | _=>false
def q3c (P:Program) (t:TypeId) (m i x:D) (bx:Nat→Option (Nat×List C)):Option Res:=match k2l P t,m with
  | some (T,_,ls),.one (.c (.mv β))=>match bx β with
    | some (T',[.d (.lst sz xs)])=>(match x,k6r i with
      | .one y,some (ka,us)=>if T'=T∧(q0r y).all okC=true∧(q0r y).length=mVw T∧k2e y=mVa T∧ka=mKa T∧qai ls us=true then
          match (q0r y).mapM qpf with
          | some ds=>(k3s ls us ds xs).map fun ys=>{ cond:=True,val:=q70 undef,box:=some (β,(T,[.d (.lst sz ys)])) }
          | none=>none
        else none
      | _,_=>none)
    | _=>none
  | _,_=>none
theorem j9y {o:Oper} {t:TypeId} {m i x:Operand} {res:Res} (ho:o.op = .mapUpdate t m i x∨o.op = .insert t m i x) (h:q3c P t (opnd σ m) (opnd σ i) (opnd σ x) σ.box=some res):q2f P F o σ res:=by
  unfold q3c at h
  split at h
  case h_2=>cases h
  rename_i T el ls β hT hm
  split at h
  case h_2=>cases h
  rename_i T' sz xs hb
  split at h
  case h_2=>cases h
  rename_i y ka us hx hi
  split at h
  case isFalse=>cases h
  rename_i hc
  obtain ⟨rfl,hok,hlen,hag,rfl,hus⟩:=hc
  split at h
  case h_2=>cases h
  rename_i ds hds
  obtain ⟨ys,hput,rfl⟩:=Option.map_eq_some_iff.1 h
  obtain ⟨k,ka,vw,va,u1,u2,u3,u4,t1,t2,rfl,t4,t5,_⟩:=qu7 hT
  intro e a w hR _
  have h1:=hR.opnd m
  rw [hm] at h1
  have h2':=ju0 hi (hR.opnd i)
  have h3:=hR.opnd x
  rw [hx] at h3
  obtain ⟨h4,h5⟩:=qjv (show q9g e σ w (a.eval x) y from h3) hok
  have h6:=qqj hds h4
  obtain ⟨g0,hB⟩:=hR.hp.boxes β T' _ hb
  obtain ⟨es,hsz,h7,h8⟩ : ∃ es:List (List Value),sz=mKw T'+mVw T'∧w.heap[e.m β]? = some (.map (qrs T' 0 es).toArray es.length)∧q0j (k6s e.Pc w sz) es xs:=by
    rcases hB with ⟨h0,_⟩|⟨_,sz',xs',hc,hs,es,h5,h6⟩
    · omega
    · simp only [List.cons.injEq,C.d.injEq,Dat.lst.injEq,and_true] at hc
      obtain ⟨rfl,rfl⟩:=hc
      exact ⟨es,hs,h5,h6⟩
  have hval:a.eval x=valOf (mVa T') (a.eval x).cells.toList:=by
    rw [← hag]
    cases y with
    | c c =>
      show _=List.headD _ _
      have h1:okC c=true:=by simpa [q0r] using hok
      have h2:=jfh (σ:=σ) (e:=e) (w:=w) (show q2v e σ w (a.eval x) c from h3) h1
      have h3:(a.eval x).cells = #[a.eval x]:=by
        revert h2;generalize a.eval x=v;intro h2
        cases v<;>first|rfl|cases h2
      rw [h3];rfl
    | agg cs =>
      obtain ⟨vs,hv,_⟩:=h3
      rw [hv]
      show Value.agg vs = .agg vs.toList.toArray
      simp
  have hvl:(a.eval x).cells.toList.length+ls.length=sz:=by
    have:=h6.length
    have h9:ds.length=(q0r y).length:=by
      have:=h4.length;have:=h6.length;omega
    rw [hsz,t2];omega
  obtain ⟨c1,c3,f,hF,c2⟩:=j36 u2 hus w
  obtain ⟨es',k1,k2⟩:=k7b (i:=0) hF hus t2 h6 h5 hvl h8 hput
  have fin : ∀ w',w' = { w with heap:=w.heap.setIfInBounds (e.m β) (.map (qrs T' 0 es').toArray es'.length) }→(Instr.mapUpdate t (.map (some (e.m β))) (valOf (mKa T') us) (a.eval x)).run P w = .ok () w' →
      ∃ v w' e',((execOp a.eval o).run P w = .ok (.value v) w'∨((execOp a.eval o).run P w = .ok .skip w'∧v=undef)) ∧
    Fwd e σ w e' (σ.app { cond:=True,val:=q70 undef,box:=some (β,(T',[.d (.lst sz ys)])) }) w'∧Hp F (σ.app { cond:=True,val:=q70 undef,box:=some (β,(T',[.d (.lst sz ys)])) }) e' w'∧q2a e' (σ.app { cond:=True,val:=q70 undef,box:=some (β,(T',[.d (.lst sz ys)])) }) w' v (q70 undef):=fun w' hw' hrun=>by
    have hoth : ∀ k,k≠e.m β→w'.heap[k]? = w.heap[k]?:=fun k hk=>by rw [hw'];exact (MapKept.heap_set h7).2 k hk
    have hnew:w'.heap[e.m β]? = some (.map (qrs T' 0 es').toArray es'.length):=by rw [hw'];exact (MapKept.heap_set h7).1
    have hbl:Below F.w0.heap.size F.w0 w':=hR.hp.below.trans ⟨by rw [hw'],by rw [hw'],by rw [hw'],by rw [hw'];simp,fun k hk=>hoth k (by omega)⟩
    have hcl : ∀ b o,b≠e.m β→w'.cell? ⟨b,o,none⟩=w.cell? ⟨b,o,none⟩:=fun b o hb=>World.cell?_of_block (w:=w) (hoth b hb)
    obtain ⟨hf,hh⟩:=hR.hp.setO β T' _ [.d (.lst sz ys)] hb hbl (by rw [hw'];simp) hoth hcl fun hf=>Or.inr ⟨t1,sz,ys,rfl,hsz,es',hnew,k1.mono fun us x ⟨m1,m2⟩=>⟨m1.mono fun _ _=>DatRep.mono hf.pc hf.cell,m2⟩⟩
    refine ⟨undef,w',e,.inr ⟨?_,rfl⟩,hf,hh,DatRep.v _⟩
    rcases ho with ho|ho<;>simp only [execOp,ho,h1.2,h2']<;>exact run_u hrun
  rcases k2 with ⟨q1,q2,q3⟩|⟨j,u,q1,q2,q3,q4⟩
  · refine fin _ rfl ?_
    simp only [Instr.mapUpdate,Sem.run_bind,run_underlying u1,MapKept.run_getObj_map h7,Result.andThen_ok,c1,c2,q1,MapKept.run_setObj_map _ h7]
    rw [q2,q3,← hval]
    simp
  · refine fin _ rfl ?_
    simp only [Nat.zero_add] at q1
    simp only [Instr.mapUpdate,Sem.run_bind,run_underlying u1,MapKept.run_getObj_map h7,Result.andThen_ok,c1,c2,q1]
    have q5:((qrs T' 0 es).toArray[j]?).map (·.key)=some (valOf (mKa T') us):=by simpa using q4
    rw [q5]
    simp only [Option.getD_some,c3,Result.andThen_ok,MapKept.run_setObj_map _ h7]
    rw [q2,q3,← hval]
end Go.Proofs.YtapfankgdkdkgaaGreatDoor.AM
namespace Go.Proofs.YtapfankgdkdkgaaGreatDoor.AM
open Go.RowKit
variable {F:Fr} {σ:St} {e:Env} {a:Act} {w:World} {P:Program}
def k6q:C→Option Value
  | .d (.v x)=>some x
  | _=>none
def j4o:List C→Option (List Value)
  | []=>some []
  | c::cs=>match k6q c,j4o cs with
    | some x,some xs=>some (x::xs)
    | _,_=>none
def k9n:D→Option Value
  | .one (.c c)=>k6q c
  | .one (.agg cs)=>(j4o cs).map fun xs=>.agg ⟨xs⟩
  | .tup _=>none
theorem jwi {c:C} {x v:Value} (h:k6q c=some x) (hv:q2v e σ w v c):v=x:=by
  unfold k6q at h
  split at h
  · simp only [Option.some.injEq] at h;subst h;exact qcu hv
  · cases h
theorem jj9 : ∀ {cs:List C} {xs vs:List Value},j4o cs=some xs→q0j (q2v e σ w) vs cs→vs=xs
  | [],xs,vs,h,hv=>by
    simp only [j4o,Option.some.injEq] at h;subst h
    match vs,hv with
    | [],_=>rfl
  | c::cs,xs,vs,h,hv=>by
    unfold j4o at h
    split at h
    case h_2=>cases h
    rename_i x ys hx hy
    simp only [Option.some.injEq] at h;subst h
    match vs,hv with
    | v::vs,hv=>rw [jwi hx hv.1,jj9 hy hv.2]
theorem k5m {d:D} {x v:Value} (h:k9n d=some x) (hv:q2a e σ w v d):v=x:=by
  unfold k9n at h
  split at h
  · exact jwi h hv
  · obtain ⟨xs,h1,rfl⟩:=Option.map_eq_some_iff.1 h
    obtain ⟨cs,rfl,h2⟩:=hv
    rw [← jj9 h1 h2]
  · cases h
def qh8 (P:Program) (t:TypeId) (x:D):Option Res:=match P.concrete t,k9n x with
  | true,some v=>some { cond:=True,val:=q70 (.iface t v) }
  | _,_=>none
theorem jyl {o:Oper} {t:TypeId} {x:Operand} {res:Res} (ho:o.op = .makeInterface t x) (h:qh8 P t (opnd σ x)=some res):q2f P F o σ res:=by
  unfold qh8 at h
  split at h
  case h_2=>cases h
  rename_i v hc hx
  simp only [Option.some.injEq] at h;subst h
  refine q2f.same fun e a w hR _=>⟨.iface t v,?_,q08 _⟩
  have h1:=k5m hx (hR.opnd x)
  simp [execOp,ho,h1,run_makeInterface w t v hc]
def q4w:Value→Option Bool
  | .nilIface=>some true
  | .iface _ _=>some false
  | _=>none
def qgy:Operand→Bool
  | .const .nilIface=>true
  | _=>false
@[push_cast] theorem k78 (t:Nat):qgy (.tmp t)=false:=rfl
@[push_cast] theorem k9e (k:IntKind) (n:Int):qgy (.const (.int k n))=false:=rfl
@[push_cast] theorem k6l (b:Bool):qgy (.const (.bool b))=false:=rfl
@[push_cast] theorem k9j (b:ByteArray):qgy (.const (.string b))=false:=rfl
@[push_cast] theorem k4p (a:Option Addr) (n c:Nat):qgy (.const (.slice a n c))=false:=rfl
@[push_cast] theorem k7o (a:Array Value):qgy (.const (.agg a))=false:=rfl
@[push_cast] theorem k9h:qgy (.const .nilIface)=true:=rfl
theorem jzj {y:Operand} (h:qgy y=true):y = .const .nilIface:=by
  unfold qgy at h
  split at h
  · rfl
  · cases h
def ji3 (P:Program) (t:TypeId):Bool:=match P.underlying t with
  | some (.interface _)=>true
  | _=>false
theorem js5 {t:TypeId} (h:ji3 P t=true):P.underlying t=some (.interface (P.methodsAt t)):=by
  unfold ji3 at h
  unfold Program.methodsAt
  cases hu:P.underlying t with
  | none=>rw [hu] at h;cases h
  | some d=>rw [hu] at h;cases d<;>first|rfl|cases h
def qov (P:Program) (op:BinOp) (t:TypeId) (x:D):Option Res:=match ji3 P t,x with
  | true,.one (.c (.d (.v v)))=>match op with
    | .eql=>(q4w v).map fun b=>{ cond:=True,val:=q70 (.bool b) }
    | .neq=>(q4w v).map fun b=>{ cond:=True,val:=q70 (.bool (!b)) }
    | _=>none
  | _,_=>none
theorem qon {v:Value} {b:Bool} (h:q4w v=some b):(v = .nilIface∧b=true) ∨ ∃ t x,v = .iface t x∧b=false:=by
  unfold q4w at h
  split at h
  · exact Or.inl ⟨rfl,(Option.some.inj h).symm⟩
  · exact Or.inr ⟨_,_,rfl,(Option.some.inj h).symm⟩
  · cases h
theorem k4t {o:Oper} {op:BinOp} {t t':TypeId} {x y:Operand} {res:Res} (ho:o.op = .binOp op t x y t') (hy:qgy y=true) (h:qov P op t (opnd σ x)=some res):q2f P F o σ res:=by
  unfold qov at h
  have hy':=jzj hy
  subst hy'
  split at h
  case h_2=>cases h
  rename_i v ht hx
  have hi:=js5 ht
  split at h
  case h_3=>cases h
  · obtain ⟨b,hb,rfl⟩:=Option.map_eq_some_iff.1 h
    refine q2f.same fun e a w hR _=>⟨.bool b,?_,q08 _⟩
    have h1:=hR.opnd x
    rw [hx] at h1
    have h2:=q0d h1
    have h3:a.eval (.const .nilIface) = .nilIface:=rfl
    rcases qon hb with ⟨rfl,rfl⟩|⟨u,z,rfl,rfl⟩
    · simp [execOp,ho,h2,h3,eqGuard_nil_constR,run_eql_nil_nil w t hi]
    · simp [execOp,ho,h2,h3,eqGuard,run_eql_held_nil w t u z hi]
  · obtain ⟨b,hb,rfl⟩:=Option.map_eq_some_iff.1 h
    refine q2f.same fun e a w hR _=>⟨.bool (!b),?_,q08 _⟩
    have h1:=hR.opnd x
    rw [hx] at h1
    have h2:=q0d h1
    have h3:a.eval (.const .nilIface) = .nilIface:=rfl
    rcases qon hb with ⟨rfl,rfl⟩|⟨u,z,rfl,rfl⟩
    · simp [execOp,ho,h2,h3,eqGuard_nil_constR,run_neq_nil_nil w t hi]
    · simp [execOp,ho,h2,h3,eqGuard,run_neq_held_nil w t u z hi]
def qw7:List D→Option (List Nat)
  | []=>some []
  | .one (.c (.box β 0))::ds=>(qw7 ds).map (β :: ·)
  | _=>none
def k99 (f:FuncId) (ds:List D):Option Res:=match qw7 ds with
  | some (c::cs)=>some { cond:=True,val:=.one (.c (.fn f (c::cs))) }
  | _=>none
theorem j5p {e:Env} {σ:St} {w:World} : ∀ {ds:List D} {cs:List Nat} {vs:List Value},qw7 ds=some cs→q0j (q2a e σ w) vs ds→(∀ β∈cs,(σ.box β).isSome=true)∧vs=cs.map fun β=>Value.pointer (some ⟨e.m β,0,none⟩)
  | [],cs,[],h,_=>by simp only [qw7,Option.some.injEq] at h;subst h;exact ⟨fun β hβ=>(by cases hβ),rfl⟩
  | [],cs,_::_,_,hv=>hv.elim
  | d::ds,cs,[],_,hv=>hv.elim
  | d::ds,cs,v::vs,h,hv=>by
    unfold qw7 at h
    split at h
    · rename_i h1;cases h1
    · rename_i β ds' h1
      simp only [List.cons.injEq] at h1
      obtain ⟨rfl,rfl⟩:=h1
      obtain ⟨cs',h2,rfl⟩:=Option.map_eq_some_iff.1 h
      obtain ⟨h3,h4⟩:=j5p h2 hv.2
      have h5:(σ.box β).isSome=true∧v = .pointer (some ⟨e.m β,0,none⟩):=hv.1
      refine ⟨fun b hb=>?_,by rw [List.map_cons,h4,h5.2]⟩
      rcases List.mem_cons.1 hb with rfl|hb
      · exact h5.1
      · exact h3 b hb
    · cases h
theorem k21 {e:Env} {a:Act} {w:World} (hR:R F σ e a w) : ∀ xs:List Operand,q0j (q2a e σ w) (xs.map a.eval) (xs.map (opnd σ))
  | []=>trivial
  | x::xs=>⟨hR.opnd x,k21 hR xs⟩
theorem ok_fn {o:Oper} {f:FuncId} {cs:Array Operand} {res:Res} (ho:o.op = .makeFunc (.func f) #[] cs) (h:k99 f (cs.toList.map (opnd σ))=some res):q2f P F o σ res:=by
  unfold k99 at h
  split at h
  case h_2=>cases h
  rename_i c cs' hc
  simp only [Option.some.injEq] at h
  subst h
  refine q2f.same fun e a w hR _=>?_
  obtain ⟨h1,h2⟩:=j5p (vs:=cs.toList.map a.eval) hc (k21 hR cs.toList)
  refine ⟨.func (.func f) #[] (cs.map a.eval),?_,h1,?_⟩
  · simp [execOp,ho,Instr.makeFunc]
  · rw [← h2]
    congr 1
    apply Array.toList_inj.1
    simp
def qhg (P:Program) (o:Oper) (ρ:Operand→D) (bx:Nat→Option (Nat×List C)) (rw:Nat→Option Row):Option Res:=match o.op with
  | .move x=>some { cond:=True,val:=ρ x }
  | .assign x=>some { cond:=True,val:=ρ x }
  | .pick c x y=>j1y (ρ c) (ρ x) (ρ y)
  | .alloc t=>qcf P o.dst t bx
  | .box t x=>qxo o.dst t (ρ x) bx
  | .load t x=>q9e P t (ρ x) bx rw
  | .store t x y=>q3z P t (ρ x) (ρ y) bx rw
  | .fieldAddr t x f=>q2m P t (ρ x) f
  | .field t x f=>qd1 P t (ρ x) f
  | .index t x i=>q65 P t (ρ x) (ρ i)
  | .indexAddr t x i=>q19 P t (ρ x) (ρ i) rw
  | .extract x i=>q78 (ρ x) i
  | .build t ps=>qh6 P t ps ρ
  | .buildSlice t n ps=>q1a P o.dst t n ps ρ rw
  | .binOp op t x y _=>bif qgy y then qov P op t (ρ x) else qe2 P op t (ρ x) (ρ y)
  | .makeInterface t x=>qh8 P t (ρ x)
  | .unOp op _ x=>k71 op (ρ x)
  | .convert s d x=>match qgf P s d (ρ x) with
    | some r=>some r
    | none=>q3o P o.dst s d (ρ x) rw
  | .slice t x lo hi none=>match q7c P t (ρ x) (lo.map ρ) (hi.map ρ) with
    | some r=>some r
    | none=>q3f P t (ρ x) (lo.map ρ) (hi.map ρ) rw
  | .nilCheck x=>jt3 (ρ x)
  | .call ⟨.builtin .len,⟨[x]⟩,⟨[t]⟩⟩=>qmy P t (ρ x) rw
  | .call ⟨.builtin .append,⟨[s,x]⟩,⟨[t,t']⟩⟩=>if t=t' then q3d P o.dst t (ρ s) (ρ x) rw else none
  | .makeSlice t x y=>bif qof x y then qij P o.dst t (ρ x) rw else none
  | .call ⟨.builtin .max,⟨[x,y]⟩,⟨[_,_]⟩⟩=>jzv max (ρ x) (ρ y)
  | .call ⟨.builtin .min,⟨[x,y]⟩,⟨[_,_]⟩⟩=>jzv min (ρ x) (ρ y)
  | .makeFunc (.func f) ⟨[]⟩ cs=>k99 f (cs.toList.map ρ)
  | .makeMap t none=>q4j P o.dst t bx
  | .lookup t m i ok=>q2x P t (ρ m) (ρ i) ok bx
  | .mapUpdate t m i x=>q3c P t (ρ m) (ρ i) (ρ x) bx
  | .insert t m i x=>q3c P t (ρ m) (ρ i) (ρ x) bx
  | _=>none
theorem jlo {o:Oper} {res:Res} (h:qhg P o (opnd σ) σ.box σ.row=some res):q2f P F o σ res:=by
  unfold qhg at h
  split at h
  · rename_i ho;simp only [Option.some.injEq] at h;subst h;exact js8 (Or.inl ho)
  · rename_i ho;simp only [Option.some.injEq] at h;subst h;exact js8 (Or.inr ho)
  · rename_i ho;exact k69 ho h
  · rename_i ho;exact k1r ho h
  · rename_i ho;exact k9m ho h
  · rename_i ho;exact k4v ho h
  · rename_i ho;exact k1q ho h
  · rename_i ho;exact j89 ho h
  · rename_i ho;exact jyb ho h
  · rename_i ho;exact k0r ho h
  · rename_i ho;exact j6i ho h
  · rename_i ho;exact jnq ho h
  · rename_i ho;exact jzy ho h
  · rename_i ho;exact j3z ho h
  · rename_i ho
    cases hn:qgy _ with
    | true=>rw [hn] at h;exact k4t ho hn h
    | false=>rw [hn] at h;exact k80 ho h
  · rename_i ho;exact jyl ho h
  · rename_i ho;exact ok_un ho h
  · rename_i ho
    split at h
    · rename_i r hr
      simp only [Option.some.injEq] at h;subst h
      exact k52 ho hr
    · exact jnn ho h
  · rename_i ho
    split at h
    · rename_i r hr
      simp only [Option.some.injEq] at h;subst h
      exact ok_slice ho hr
    · exact jdu ho h
  · rename_i ho;exact k9i ho h
  · rename_i ho;exact k9r ho h
  · rename_i ho
    split at h
    case isFalse=>cases h
    rename_i ht
    subst ht
    exact jxm ho h
  · rename_i ho
    cases hs:qof _ _ with
    | true=>rw [hs] at h;exact k34 ho hs h
    | false=>rw [hs] at h;cases h
  · rename_i ho;exact k96 ho h
  · rename_i ho;exact k94 ho h
  · rename_i ho;exact ok_fn ho h
  · rename_i ho;exact jmw ho h
  · rename_i ho;exact jur ho h
  · rename_i ho;exact j9y (Or.inl ho) h
  · rename_i ho;exact j9y (Or.inr ho) h
  · cases h
def q47 (ops:Array Oper) (σ:St) (o:Oper):Option Bool:=match o.guard with
  | none=>some true
  | some (g,want)=>match (ops[g]?).bind (·.dst) with
    | some t=>match σ.slot t with
      | .one (.c (.d (.v (.bool b))))=>some (b==want)
      | .one (.c (.d (.v (.tuple ⟨[]⟩))))=>some false
      | _=>none
    | none=>none
theorem q8a {ops:Array Oper} {o:Oper} {b:Bool} (hR:R F σ e a w) (h:q47 ops σ o=some b) (hn : ∀ g,o.guard=some g→∀ t,(ops[g.1]?).bind (·.dst)=some t→t<F.n):Region.wanted o (yielded ops a.tmps)=b:=by
  unfold q47 at h
  unfold Region.wanted
  split at h
  · rename_i hg
    simp only [Option.some.injEq] at h
    rw [hg];exact h
  · rename_i g want hg
    rw [hg]
    split at h
    case h_2=>cases h
    rename_i t ht
    have hlt:=hn _ hg t ht
    have hs:a.tmps[t]? = some (a.tmps.getD t undef):=by
      have:t<a.tmps.size:=by rw [hR.size];exact hlt
      simp [Array.getD,this]
    have h1:=hR.slots t
    split at h
    · rename_i b' hb
      rw [hb] at h1
      have h2:=q0d h1
      simp only [Option.some.injEq] at h
      subst h
      simp only [yielded,ht,Option.bind_some,hs,h2]
      cases b'<;>cases want<;>rfl
    · rename_i hb
      rw [hb] at h1
      have h2:=q0d h1
      simp only [Option.some.injEq] at h
      subst h
      simp only [yielded,ht,Option.bind_some,hs,h2]
      rfl
    · cases h
def qq0:St:={ slot:=fun _=>.one (.c .bad),box:=fun _=>none,row:=fun _=>none }
def q6u (Pc:Nat→Nat→Prop):Env:={ m:=fun _=>0,rv:=fun _ _=>undef,Pc:=Pc }
def qkc (P:Program) (G:World→Prop) (f:FuncId) (ds:List D) (d:D):Prop :=
  ∀ (Pc:Nat→Nat→Prop) (w:World) (vs:Array Value),G w→(∀ b o,Pc b o→b<w.heap.size)→q0j (q2a (q6u Pc) qq0 w) vs.toList ds →
    Calls P f vs w fun e w'=>∃ v Pc',e = .returned v∧Below w.heap.size w w'∧(∀ b o,Pc b o→Pc' b o)∧(∀ b o,Pc' b o→Pc b o∨(w.heap.size≤b∧b<w'.heap.size))∧q2a (q6u Pc') qq0 w' v d
def j70 (rw:Nat→Option Row):C→Option C
  | .d x=>some (.d x)
  | .rp cs=>some (.rp cs)
  | .row t g=>match rw t with
    | some r=>if r.gen=g∧r.wr=false then some (.d (.lst r.sz r.xs)) else none
    | none=>none
  | _=>none
def qjr (rw:Nat→Option Row):List C→Option (List C)
  | []=>some []
  | c::cs=>match j70 rw c,qjr rw cs with
    | some x,some xs=>some (x::xs)
    | _,_=>none
def jha (rw:Nat→Option Row):D1→Option D1
  | .c x=>(j70 rw x).map .c
  | .agg cs=>(qjr rw cs).map .agg
def je1 (rw:Nat→Option Row):D→Option D
  | .one x=>(jha rw x).map .one
  | .tup _=>none
def qck (rw:Nat→Option Row):List D→Option (List D)
  | []=>some []
  | c::cs=>match je1 rw c,qck rw cs with
    | some x,some xs=>some (x::xs)
    | _,_=>none
theorem j2j (h:Hp F σ e w) {v:Value} {c c':C} (hc:j70 σ.row c=some c') (hv:q2v e σ w v c):q2v (q6u e.Pc) qq0 w v c':=by
  unfold j70 at hc
  split at hc
  · simp only [Option.some.injEq] at hc;subst hc;exact hv
  · simp only [Option.some.injEq] at hc;subst hc;exact hv
  · rename_i t g
    split at hc
    case h_2=>cases hc
    rename_i r hr
    split at hc
    case isFalse=>cases hc
    rename_i hg
    obtain ⟨rfl,hw⟩:=hg
    simp only [Option.some.injEq] at hc;subst hc
    obtain ⟨_,h5,_⟩:(∃ r',σ.row t=some r'∧r.gen≤r'.gen)∧v=e.rv t r.gen∧_:=hv
    rw [h5]
    exact h.rowDat hr hw
  · cases hc
theorem qw0 (h:Hp F σ e w) : ∀ {vs:List Value} {cs cs':List C},qjr σ.row cs=some cs'→q0j (q2v e σ w) vs cs→q0j (q2v (q6u e.Pc) qq0 w) vs cs'
  | [],[],cs',hc,_=>by simp only [qjr,Option.some.injEq] at hc;subst hc;trivial
  | v::vs,c::cs,cs',hc,hv=>by
    unfold qjr at hc
    split at hc
    case h_2=>cases hc
    rename_i x xs hx hxs
    simp only [Option.some.injEq] at hc;subst hc
    exact ⟨j2j h hx hv.1,qw0 h hxs hv.2⟩
  | [],_::_,_,_,h=>h.elim
  | _::_,[],_,_,h=>h.elim
theorem jyn (h:Hp F σ e w) {v:Value} {d d':D} (hd:je1 σ.row d=some d') (hv:q2a e σ w v d):q2a (q6u e.Pc) qq0 w v d':=by
  cases d with
  | one x =>
    obtain ⟨y,hy,rfl⟩:=Option.map_eq_some_iff.1 hd
    cases x with
    | c x =>
      obtain ⟨z,hz,rfl⟩:=Option.map_eq_some_iff.1 hy
      exact j2j h hz hv
    | agg cs =>
      obtain ⟨z,hz,rfl⟩:=Option.map_eq_some_iff.1 hy
      obtain ⟨us,h1,h2⟩:=hv
      exact ⟨us,h1,qw0 h hz h2⟩
  | tup xs=>cases hd
theorem qrn (h:Hp F σ e w) : ∀ {vs:List Value} {ds ds':List D},qck σ.row ds=some ds'→q0j (q2a e σ w) vs ds→q0j (q2a (q6u e.Pc) qq0 w) vs ds'
  | [],[],cs',hc,_=>by simp only [qck,Option.some.injEq] at hc;subst hc;trivial
  | v::vs,c::cs,cs',hc,hv=>by
    unfold qck at hc
    split at hc
    case h_2=>cases hc
    rename_i x xs hx hxs
    simp only [Option.some.injEq] at hc;subst hc
    exact ⟨jyn h hx hv.1,qrn h hxs hv.2⟩
  | [],_::_,_,_,h=>h.elim
  | _::_,[],_,_,h=>h.elim
theorem qi4 {f:FuncId} {ds:List D} {d:D} {vs:Array Value} (hc:qkc P F.G f ds d) (h:Hp F σ e w) (hv:q0j (q2a (q6u e.Pc) qq0 w) vs.toList ds) :
    Calls P f vs w fun en w'=>∃ v e',en = .returned v∧Fwd e σ w e' σ w'∧Hp F σ e' w'∧q2a e' σ w' v d:=by
  refine (hc e.Pc w vs (F.gst _ _ F.g0 h.below) h.pcLt hv).mono ?_
  rintro en w' ⟨v,Pc',rfl,hb,hp1,hp2,hd⟩
  obtain ⟨hf,hh⟩:=h.grow hb
  have hsz:=hb.size
  obtain ⟨hf2,hh2⟩:=hh.more (fun b o=>Pc' b o∧w.heap.size≤b∧b<w'.heap.size) (fun b o hN=>⟨Nat.le_trans h.sizeLe hN.2.1,hN.2.2⟩)
    (fun b o hN β hβ he=>by have:=h.boxLt hβ;omega) (fun b o hN t r hr he=>by have:=(h.rowLt hr he).2;omega) (fun b o hN hk=>by have:=h.kp.lt hk;omega)
  refine ⟨v,_,rfl,⟨fun b o hp=>hf2.pc b o (hf.pc b o hp),fun b o hp=>hf.cell b o hp,fun β hβ=>⟨hβ,rfl⟩,fun t r g hr hg=>⟨⟨r,hr,hg,rfl⟩,rfl⟩⟩,hh2,?_⟩
  refine q2a.fwd (e:=q6u Pc') (σ:=qq0) (w:=w') ⟨fun b o hp=>?_,fun _ _ _=>rfl,(fun β hβ=>by cases hβ),(fun t r g hr=>by cases hr)⟩ hd
  rcases hp2 b o hp with h1|h1
  · exact Or.inl h1
  · exact Or.inr ⟨hp,h1⟩
def qtb (n:Nat) (o:Oper):Bool:=match o.dst with|some d=>decide (d<n)|none=>true
theorem qju {n:Nat} {o:Oper} (h:qtb n o=true) : ∀ k,o.dst=some k→k<n:=by
  intro k hk
  unfold qtb at h
  rw [hk] at h
  exact of_decide_eq_true h
def qb5 (n:Nat) (ops:Array Oper):Bool:=ops.all (qtb n)
def ql1 (P:Program) (F:Fr) (ops:Array Oper) (l:List Oper) (σ:St) (Q:St→Prop):Prop :=
  qb5 F.n ops=true→(∀ o∈l,qtb F.n o=true)→∀ e a w,R F σ e a w→wpList P ops (fun ex a w=>ex = .normal∧∃ σ' e',Q σ'∧R F σ' e' a w) l a w
theorem q2r {n:Nat} {ops:Array Oper} (h:qb5 n ops=true) {i:Nat} {t:Nat} (ht:(ops[i]?).bind (·.dst)=some t):t<n:=by
  obtain ⟨o,ho,hd⟩:=Option.bind_eq_some_iff.1 ht
  have:=Array.all_eq_true_iff_forall_mem.1 h o (Array.mem_of_getElem? ho)
  exact qju this t hd
variable {ops:Array Oper} {o:Oper} {rest:List Oper} {Q:St→Prop}
theorem jjh (h:Q σ):ql1 P F ops [] σ Q:=fun _ _ e a w hR=>⟨rfl,σ,e,h,hR⟩
theorem qtm (hw:q47 ops σ o=some true) {res:Res} (he:qhg P o (opnd σ) σ.box σ.row=some res) (hc:res.cond)
    (h:ql1 P F ops rest ((σ.app res).put o.dst res.val) Q):ql1 P F ops (o::rest) σ Q:=by
  intro hn hall e a w hR
  have hd:=hall o (List.mem_cons_self ..)
  have hrest : ∀ o∈rest,qtb F.n o=true:=fun o' ho'=>hall o' (List.mem_cons_of_mem _ ho')
  obtain ⟨v,w',e',h1,h2,h3,h4⟩:=jlo he e a w hR hc
  have hR':R F ((σ.app res).put o.dst res.val) e' (a.put o.dst v) w':=hR.next h2 h3 rfl o.dst (qju hd) v res.val h4
  have hnext:=h hn hrest e' _ _ hR'
  unfold wpList
  rw [q8a hR hw (fun g _ t ht=>q2r hn ht),if_pos rfl]
  refine .inl ?_
  unfold Oper.wp
  rcases h1 with h1|⟨h1,rfl⟩
  · rw [h1];exact hnext
  · rw [h1];exact hnext
theorem j7r (hw:q47 ops σ o=some false) (h:ql1 P F ops rest (σ.put o.dst (q70 undef)) Q):ql1 P F ops (o::rest) σ Q:=by
  intro hn hall e a w hR
  have hd:=hall o (List.mem_cons_self ..)
  have hrest : ∀ o∈rest,qtb F.n o=true:=fun o' ho'=>hall o' (List.mem_cons_of_mem _ ho')
  have hR':R F (σ.put o.dst (q70 undef)) e (a.put o.dst undef) w:=hR.pure (qju hd) (q08 _)
  have hnext:=h hn hrest e _ _ hR'
  unfold wpList
  rw [q8a hR hw (fun g _ t ht=>q2r hn ht),if_neg (by decide)]
  exact hnext
def q66 (P:Program) (f:FuncId):Bool:=match P.funcs[f]? with
  | some fn=>fn.body.isSome&&fn.name != "runtime.NumGoroutine"
  | none=>false
theorem qq6 {f:FuncId} (h:q66 P f=true) (args:Array Value) (w:World):(callFunc f args).run P w = .ok (.enter f args) w:=by
  unfold q66 at h
  split at h
  case h_2=>cases h
  rename_i fn hf
  simp only [Bool.and_eq_true,bne_iff_ne,ne_eq] at h
  have hp:(program).run P w = .ok P w:=rfl
  have h3 : ¬ fn.body=none:=by intro he;rw [he] at h;simp at h
  simp [callFunc,Sem.run_bind,hp,hf,h.2,h3]
theorem qj8 (hR:R F σ e a w) : ∀ xs:List Operand,q0j (q2a e σ w) (xs.map a.eval) (xs.map (opnd σ))
  | []=>trivial
  | x::xs=>⟨hR.opnd x,qj8 hR xs⟩
def callee (σ:St) (x:Operand):Option FuncId:=match opnd σ x with
  | .one (.c (.d (.v (.func (.func f) ⟨[]⟩ ⟨[]⟩))))=>some f
  | _=>none
theorem k8t (hw:q47 ops σ o=some true) {x:Operand} {xs:Array Operand} {ts:Array TypeId} (ho:o.op = .call { callee:=.value x,args:=xs,argTypes:=ts })
    {f:FuncId} (hf:callee σ x=some f) (hb:q66 P f=true) {ds:List D} (hds:qck σ.row (xs.toList.map (opnd σ))=some ds) {d:D} (hc:qkc P F.G f ds d)
    (h:ql1 P F ops rest (σ.put o.dst d) Q):ql1 P F ops (o::rest) σ Q:=by
  intro hn hall e a w hR
  have hd:=hall o (List.mem_cons_self ..)
  have hrest : ∀ o∈rest,qtb F.n o=true:=fun o' ho'=>hall o' (List.mem_cons_of_mem _ ho')
  unfold wpList
  rw [q8a hR hw (fun g _ t ht=>q2r hn ht),if_pos rfl]
  refine .inl ?_
  unfold callee at hf
  split at hf
  case h_2=>cases hf
  rename_i f' hx
  simp only [Option.some.injEq] at hf
  subst hf
  have h1:=hR.opnd x
  rw [hx] at h1
  have h2:=q0d h1
  have hrun:(execOp a.eval o).run P w = .ok (.enter f' (xs.map a.eval)) w:=by
    have:=qq6 hb (xs.map a.eval) w
    simp [execOp,ho,resolve,h2,Deferred.ofValue,invoke,this]
  unfold Oper.wp
  rw [hrun]
  refine (qi4 hc hR.hp (vs:=xs.map a.eval) (by rw [Array.toList_map];exact qrn hR.hp hds (qj8 hR _))).mono ?_
  rintro en w' ⟨v,e',rfl,h3,h4,h5⟩
  exact h hn hrest e' _ _ (hR.next h3 h4 rfl o.dst (qju hd) v d h5)
def k38 (σ:St) (dst:Option Nat) (K:St→Prop):Option Bool→Option Res→Prop
  | some true,some res=>res.cond∧K ((σ.app res).put dst res.val)
  | some false,_=>K (σ.put dst (q70 undef))
  | _,_=>False
theorem k7h (h : ∀ K:St→Prop,(∀ σ',ql1 P F ops rest σ' Q→K σ')→k38 σ o.dst K (q47 ops σ o) (qhg P o (opnd σ) σ.box σ.row)):ql1 P F ops (o::rest) σ Q:=by
  have h:=h (fun σ'=>ql1 P F ops rest σ' Q) (fun _ h=>h)
  unfold k38 at h
  split at h
  · rename_i res hw he
    exact qtm hw he h.1 h.2
  · rename_i hw
    exact j7r hw h
  · exact h.elim
end Go.Proofs.YtapfankgdkdkgaaGreatDoor.AM
