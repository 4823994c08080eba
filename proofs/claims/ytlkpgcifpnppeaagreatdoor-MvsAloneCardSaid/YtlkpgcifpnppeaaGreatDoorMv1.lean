
import Derived.Test.YtlkpgcifpnppeaaGreatDoorMv0
set_option linter.unusedVariables false
set_option linter.unusedSimpArgs false
namespace Go.Proofs.YtlkpgcifpnppeaaGreatDoor.AM
open Go.RowKit
variable {F:Fr} {σ:St} {e:Env} {a:Act} {w:World} {P:Program}
def qn4 (P:Program) (t:TypeId):Option (List Value):=(P.info? t).bind fun i=>i.zero.map fun z=>z.cells.toList
def q93 (P:Program) (dst:Option Nat) (t:TypeId) (bx:Nat->Option (Nat×List C)):Option Res:=match dst,qn4 P t with
 | some i,some z=>match bx i with
  | none=>if z.all Value.oneCell'=true/\i<1000000/\t<2199023255552 then some { cond:=True,val:=.one (.c (.box i 0)),box:=some (i,(t,z.map qns)) } else none
  | some _=>none
 | _,_=>none
theorem qxk (t:TypeId) (v:Value) (w:World):(newVar t v).run P w = .ok ⟨w.heap.size,0,none⟩ (w.alloc (.cells v.cells t)):=by
 simp only [newVar,newRow,Sem.run_bind,newObj]
 rfl
theorem jl2 {i:Nat} {t:TypeId} {vs:Array Value} {cs:List C} (hR:R F σ e a w) (hb:σ.box i=none) (hi:i<1000000) (hT:t<2199023255552) (h:q0b (q2k e σ w) vs.toList cs) (h1 : ∀u∈vs.toList,u.oneCell'=true) :
  ∃ e',Fwd e σ w e' { σ with box:=upd σ.box i (some (t,cs)) } (w.alloc (.cells vs t))/\Hp F { σ with box:=upd σ.box i (some (t,cs)) } e' (w.alloc (.cells vs t))/\q1l e' { σ with box:=upd σ.box i (some (t,cs)) } (w.alloc (.cells vs t)) (.pointer (some ⟨w.heap.size,0,none⟩)) (.one (.c (.box i 0))):=by
 obtain ⟨hf,hh⟩:=hR.hp.alloc i t vs cs hb hi hT h h1
 refine ⟨_,hf,hh,?_⟩
 show (upd σ.box i (some (t,cs)) i).isSome=true/\Value.pointer (some ⟨w.heap.size,0,none⟩) = .pointer (some ⟨upd e.m i w.heap.size i,0,none⟩)
 rw [q0n,q0n];exact ⟨rfl,rfl⟩
theorem jjk {o:Oper} {t:TypeId} {res:Res} (ho:o.op = .alloc t) (h:q93 P o.dst t σ.box=some res):q1u P F o σ res:=by
 unfold q93 at h
 split at h
 case h_2=>cases h
 rename_i i z hd hz
 split at h
 case h_2=>cases h
 rename_i hb
 split at h
 case isFalse=>cases h
 rename_i h1
 obtain ⟨h1,hi9,hT9⟩:=h1
 simp only [Option.some.injEq] at h
 subst h
 unfold qn4 at hz
 obtain ⟨inf,hi,hz1⟩:=Option.bind_eq_some_iff.1 hz
 obtain ⟨zv,hz2,rfl⟩:=Option.map_eq_some_iff.1 hz1
 intro e a w hR _
 obtain ⟨e',hf,hh,hd'⟩:=jl2 (i:=i) (t:=t) (vs:=zv.cells) hR hb hi9 hT9 (q9e qns qb8 _) (fun u hu=>List.all_eq_true.1 h1 u hu)
 refine ⟨_,_,e',.inl ?_,hf,hh,hd'⟩
 have hzr:(zeroValue t).run P w = .ok zv w:=by simp [zeroValue,typeInfo,hi,hz2]
 have:=qxk (P:=P) t zv w
 simp [execOp,ho,Instr.alloc,Sem.run_bind,hzr,this]
def qn9 (dst:Option Nat) (t:TypeId) (x:D) (bx:Nat->Option (Nat×List C)):Option Res:=match dst,x with
 | some i,.one x=>match bx i with
  | none=>if (q0j x).all okC=true/\i<1000000/\t<2199023255552 then some { cond:=True,val:=.one (.c (.box i 0)),box:=some (i,(t,q0j x)) } else none
  | some _=>none
 | _,_=>none
theorem jq1 {o:Oper} {t:TypeId} {x:Operand} {res:Res} (ho:o.op = .box t x) (h:qn9 o.dst t (opnd σ x) σ.box=some res):q1u P F o σ res:=by
 unfold qn9 at h
 split at h
 case h_2=>cases h
 rename_i i x1 hd hx
 split at h
 case h_2=>cases h
 rename_i hb
 split at h
 case isFalse=>cases h
 rename_i h1
 obtain ⟨h1,hi9,hT9⟩:=h1
 simp only [Option.some.injEq] at h
 subst h
 intro e a w hR _
 have h4:=hR.opnd x
 rw [hx] at h4
 obtain ⟨h5,h6⟩:=qf2 (show q80 e σ w (a.eval x) x1 from h4) h1
 obtain ⟨e',hf,hh,hd'⟩:=jl2 (i:=i) (t:=t) hR hb hi9 hT9 h5 h6
 refine ⟨_,_,e',.inl ?_,hf,hh,hd'⟩
 have:=qxk (P:=P) t (a.eval x) w
 simp [execOp,ho,Instr.box,this]
def qno (P:Program) (t:TypeId) (f:Nat):Option (Nat×TypeId):=match P.underlying t with
 | some (.struct fs)=>match fs[f]? with
  | some fd=>match tsz P fd.type with
   | some (_+1)=>some (fd.offset,fd.type)
   | _=>none
  | none=>none
 | _=>none
theorem qmi {t:TypeId} {f off:Nat} {ft:TypeId} (h:qno P t f=some (off,ft)) : ∃ fs fd n,P.underlying t=some (.struct fs)/\fs[f]? = some fd/\tsz P fd.type=some (n+1)/\fd.offset=off/\fd.type=ft:=by
 unfold qno at h
 split at h<;>try cases h
 rename_i fs hu
 split at h<;>try cases h
 rename_i fd hf
 split at h<;>try cases h
 rename_i n hn
 exact ⟨fs,fd,n,hu,hf,hn,rfl,rfl⟩
def q26 (P:Program) (t:TypeId) (p:D) (f:Nat):Option Res:=match qno P t f with
 | some (off,_)=>match p with
  | .one (.c (.box β o))=>some { cond:=True,val:=.one (.c (.box β (o+off))) }
  | .one (.c (.rp cs))=>if off<=cs.length then some { cond:=True,val:=.one (.c (.rp (cs.drop off))) } else none
  | .one (.c (.wp tt g k o))=>some { cond:=True,val:=.one (.c (.wp tt g k (o+off))) }
  | _=>none
 | none=>none
theorem qap {t:TypeId} {f off:Nat} {ft:TypeId} (h:qno P t f=some (off,ft)) (b o:Nat) (w:World) :
  (Instr.fieldAt t (.pointer (some ⟨b,o,none⟩)) f).run P w = .ok (.pointer (some ⟨b,o+off,none⟩)) w:=by
 obtain ⟨fs,fd,n,hu,hf,hn,rfl,rfl⟩:=qmi h
 simp [Instr.fieldAt,Sem.run_bind,run_underlying hu w,hf,Instr.sureAddr,fieldPlace,q0q hn w,add_lit]
theorem qx3 {o:Oper} {t:TypeId} {x:Operand} {f:Nat} {res:Res} (ho:o.op = .fieldAddr t x f) (h:q26 P t (opnd σ x) f=some res):q1u P F o σ res:=by
 unfold q26 at h
 split at h
 case h_2=>cases h
 rename_i off ft hf
 split at h
 ·rename_i β q hx
  simp only [Option.some.injEq] at h
  subst h
  refine q1u.same fun e a w hR _=>?_
  have h1:=hR.opnd x
  rw [hx] at h1
  obtain ⟨h2,h3⟩:(σ.box β).isSome=true/\a.eval x = .pointer (some ⟨e.m β,q,none⟩):=h1
  exact ⟨_,by simp [execOp,ho,h3,qap hf],h2,rfl⟩
 ·rename_i cs hx
  split at h
  case isFalse=>cases h
  rename_i hle
  simp only [Option.some.injEq] at h
  subst h
  refine q1u.same fun e a w hR _=>?_
  have h1:=hR.opnd x
  rw [hx] at h1
  obtain ⟨b,q,h3,us,h4,h5⟩ : ∃ b o',a.eval x = .pointer (some ⟨b,o',none⟩)/\∃ us:List Value,q0b (DatRep e.Pc w) us cs/\∀(j:Nat) (h:j<us.length),e.Pc b (o'+j)/\w.cell? ⟨b,o'+j,none⟩=some us[j]/\(us[j]).oneCell'=true:=h1
  refine ⟨.pointer (some ⟨b,q+off,none⟩),by simp [execOp,ho,h3,qap hf],b,q+off,rfl,us.drop off,h4.drop off,fun j hj=>?_⟩
  rw [List.length_drop] at hj
  have:=h5 (off+j) (by omega)
  rw [List.getElem_drop,Nat.add_assoc]
  exact this
 ·rename_i tt g k q hx
  simp only [Option.some.injEq] at h
  subst h
  refine q1u.same fun e a w hR _=>?_
  have h1:=hR.opnd x
  rw [hx] at h1
  obtain ⟨r,b,h2,h3,h4,h5⟩ : ∃ r b,σ.row tt=some r/\g<=r.gen/\(e.rv tt g).ownBlock=some b/\a.eval x = .pointer (some ⟨b,k*r.sz+q,none⟩):=h1
  exact ⟨.pointer (some ⟨b,k*r.sz+q+off,none⟩),by simp [execOp,ho,h5,qap hf],r,b,h2,h3,h4,by rw [Nat.add_assoc]⟩
 ·cases h
def q9x (P:Program) (t:TypeId) (x:D) (f:Nat):Option Res:=match qno P t f,x with
 | some (off,ft),.one (.agg cs)=>match qn8 P ft,tsz P ft with
  | some true,some n=>if off+n<=cs.length then some { cond:=True,val:=.one (.agg ((cs.drop off).take n)) } else none
  | some false,_=>match cs[off]? with
   | some c=>some { cond:=True,val:=.one (.c c) }
   | none=>none
  | _,_=>none
 | _,_=>none
theorem jj1 {o:Oper} {t:TypeId} {x:Operand} {f:Nat} {res:Res} (ho:o.op = .field t x f) (h:q9x P t (opnd σ x) f=some res):q1u P F o σ res:=by
 unfold q9x at h
 split at h
 case h_2=>cases h
 rename_i off ft cs hf hx
 obtain ⟨fs,fd,n,hu,hfd,hn,rfl,rfl⟩:=qmi hf
 have main : ∀e a w,R F σ e a w->∃ vs:Array Value,a.eval x = .agg vs/\q0b (q2k e σ w) vs.toList cs:=fun e a w hR=>by
  have h1:=hR.opnd x
  rw [hx] at h1
  exact h1
 split at h
 ·rename_i m ha hm
  split at h
  case isFalse=>cases h
  rename_i hle
  simp only [Option.some.injEq] at h
  subst h
  refine q1u.same fun e a w hR _=>?_
  obtain ⟨vs,h3,h4⟩:=main e a w hR
  refine ⟨.agg (vs.extract fd.offset (fd.offset+m)),?_,_,rfl,?_⟩
  ·simp [execOp,ho,h3,Sem.run_bind,Instr.field,run_underlying hu w,hfd,asAgg,part,q1e ha w,q0q hm w]
  ·have:=(h4.drop fd.offset).take m
   simpa [Array.toList_extract,List.extract_eq_take_drop] using this
 ·rename_i ha
  split at h
  case h_2=>cases h
  rename_i c hc
  simp only [Option.some.injEq] at h
  subst h
  refine q1u.same fun e a w hR _=>?_
  obtain ⟨vs,h3,h4⟩:=main e a w hR
  obtain ⟨hlt,rfl⟩:=List.getElem?_eq_some_iff.1 hc
  have hl:=h4.length
  rw [Array.length_toList] at hl
  have hv:vs[fd.offset]? = some (vs[fd.offset]'(by omega)):=Array.getElem?_eq_getElem (by omega)
  refine ⟨vs[fd.offset]'(by omega),?_,?_⟩
  ·simp [execOp,ho,h3,Sem.run_bind,Instr.field,run_underlying hu w,hfd,asAgg,part,q1e ha w,hv]
  ·have:=h4.get fd.offset (by rw [Array.length_toList];omega) hlt
   rw [Array.getElem_toList] at this
   exact this
 ·cases h
def q6l (x:D) (i:Nat):Option Res:=match x with
 | .tup xs=>match xs[i]? with
  | some y=>some { cond:=True,val:=.one y }
  | none=>none
 | _=>none
theorem jam {o:Oper} {x:Operand} {i:Nat} {res:Res} (ho:o.op = .extract x i) (h:q6l (opnd σ x) i=some res):q1u P F o σ res:=by
 unfold q6l at h
 split at h
 case h_2=>cases h
 rename_i xs hx
 split at h
 case h_2=>cases h
 rename_i y hy
 simp only [Option.some.injEq] at h
 subst h
 refine q1u.same fun e a w hR _=>?_
 have h1:=hR.opnd x
 rw [hx] at h1
 obtain ⟨vs,h3,h4⟩:=h1
 obtain ⟨hlt,rfl⟩:=List.getElem?_eq_some_iff.1 hy
 have hl:=h4.length
 rw [Array.length_toList] at hl
 have hv:vs[i]? = some (vs[i]'(by omega)):=Array.getElem?_eq_getElem (by omega)
 refine ⟨vs[i]'(by omega),?_,?_⟩
 ·simp [execOp,ho,h3,Instr.extract,hv]
 ·have:=h4.get i (by rw [Array.length_toList];omega) hlt
  rw [Array.getElem_toList] at this
  exact this
def qzm (s:ByteArray) (i:Int):Int:=((s.data.toList.getD i.toNat 0).toNat:Int)
def q5i (P:Program) (t:TypeId) (x i:D):Option Res:=match x,i with
 | .one (.c (.d (.v (.string s)))),.one (.c (.d (.v (.int k n))))=>match P.underlying t with
  | some .string=>some { cond:=0<=n/\n<s.size,val:=q67 (.int .u8 (qzm s n)) }
  | _=>none
 | .one (.agg cs),.one (.c (.d (.v (.int k n))))=>match P.underlying t with
  | some (.array m el)=>match tsz P el,qn8 P el with
   | some 1,some false=>some { cond:=0<=n/\n<cs.length/\m=cs.length,val:=.one (.c (cs.getD n.toNat .bad)) }
   | some z,some true=>some { cond:=0<=n/\n<(m:Int)/\cs.length=m*z,val:=.one (.agg ((cs.drop (n.toNat*z)).take z)) }
   | _,_=>none
  | _=>none
 | _,_=>none
theorem jil {o:Oper} {t:TypeId} {x i:Operand} {res:Res} (ho:o.op = .index t x i) (h:q5i P t (opnd σ x) (opnd σ i)=some res):q1u P F o σ res:=by
 unfold q5i at h
 split at h
 case h_3=>cases h
 case h_2 =>
  rename_i cs k n hx hi
  split at h
  case h_2=>cases h
  rename_i m el hu
  split at h
  case h_3=>cases h
  case h_2 =>
   rename_i z hs ha
   simp only [Option.some.injEq] at h
   subst h
   refine q1u.same fun e a w hR hc=>?_
   have h1:=hR.opnd x
   rw [hx] at h1
   obtain ⟨vs,h3,h4⟩ : ∃ vs:Array Value,a.eval x = .agg vs/\q0b (q2k e σ w) vs.toList cs:=h1
   have h5:=hR.opnd i
   rw [hi] at h5
   have h6:=q07 h5
   obtain ⟨c1,c2,c3⟩:=hc
   refine ⟨.agg (vs.extract (n.toNat*z) (n.toNat*z+z)),?_,_,rfl,?_⟩
   ·simp [execOp,ho,h3,h6,Sem.run_bind,Instr.index,asIntOf,run_underlying hu w,c1,c2,q0q hs w,part,q1e ha w]
   ·rw [Array.toList_extract]
    show q0b _ (List.take (n.toNat*z+z - n.toNat*z) (List.drop (n.toNat*z) vs.toList)) _
    rw [Nat.add_sub_cancel_left]
    exact (h4.drop _).take _
  rename_i hs ha
  simp only [Option.some.injEq] at h
  subst h
  refine q1u.same fun e a w hR hc=>?_
  have h1:=hR.opnd x
  rw [hx] at h1
  obtain ⟨vs,h3,h4⟩ : ∃ vs:Array Value,a.eval x = .agg vs/\q0b (q2k e σ w) vs.toList cs:=h1
  have h5:=hR.opnd i
  rw [hi] at h5
  have h6:=q07 h5
  obtain ⟨c1,c2,c3⟩:=hc
  have hl:=h4.length
  rw [Array.length_toList] at hl
  have hlt:n.toNat<vs.size:=by omega
  have hv:vs[n.toNat]? = some (vs[n.toNat]'hlt):=Array.getElem?_eq_getElem hlt
  have c4:n<(m:Int):=by omega
  refine ⟨vs[n.toNat]'hlt,?_,?_⟩
  ·simp [execOp,ho,h3,h6,Sem.run_bind,Instr.index,asIntOf,run_underlying hu w,c1,c4,q0q hs w,part,q1e ha w,hv]
  ·have hlt2:n.toNat<cs.length:=by omega
   have:=h4.get n.toNat (by rw [Array.length_toList];omega) hlt2
   rw [Array.getElem_toList] at this
   have e5:cs.getD n.toNat .bad=cs[n.toNat]:=by simp [List.getD,List.getElem?_eq_getElem hlt2]
   show q2k e σ w _ (cs.getD n.toNat .bad)
   rw [e5]
   exact this
 rename_i s k n hx hi
 split at h
 case h_2=>cases h
 rename_i hu
 simp only [Option.some.injEq] at h
 subst h
 refine q1u.same fun e a w hR hc=>?_
 have h1:=hR.opnd x
 rw [hx] at h1
 have h2:=q07 h1
 have h3:=hR.opnd i
 rw [hi] at h3
 have h4:=q07 h3
 obtain ⟨hc1,hc2⟩:=hc
 have hlt:n.toNat<s.size:=by omega
 refine ⟨_,?_,q04 _⟩
 have hs:s[n.toNat]? = some (s[n.toNat]'hlt):=by simp [getElem?_pos,hlt]
 have hb:qzm s n=((s[n.toNat]'hlt).toNat:Int):=by
  unfold qzm
  have:s.data.toList.getD n.toNat 0=s[n.toNat]'hlt:=by
   have hl:n.toNat<s.data.toList.length:=by simpa using hlt
   simp only [List.getD,List.getElem?_eq_getElem hl,Option.getD_some]
   rfl
  rw [this]
 simp [execOp,ho,h2,h4,Sem.run_bind,Instr.index,asIntOf,run_underlying hu w,hc1,hs,hb]
def q0u (P:Program) (t:TypeId) (x i:D) (rw:Nat->Option Row):Option Res:=match P.underlying t with
 | some (.slice el)=>match tsz P el,x,i with
  | some m,.one (.c (.d (.lst sz xs))),.one (.c (.d (.v (.int k n))))=>if m=sz then some { cond:=0<=n/\n<xs.length,val:=.one (.c (.rp (xs.getD n.toNat []))) } else none
  | some m,.one (.c (.row tt g)),.one (.c (.d (.v (.int k n))))=>match rw tt with
   | some r=>if r.gen=g/\r.sz=m then some { cond:=0<=n/\n<r.xs.length,val:=.one (.c (.wp tt g n.toNat 0)) } else none
   | none=>none
  | _,_,_=>none
 | some (.array len el)=>match tsz P el,x,i with
  | some m,.one (.c (.box β o)),.one (.c (.d (.v (.int k n))))=>some { cond:=0<=n/\n<len,val:=.one (.c (.box β (o+n.toNat*m))) }
  | _,_,_=>none
 | _=>none
theorem qzo {o:Oper} {t:TypeId} {x i:Operand} {res:Res} (ho:o.op = .indexAddr t x i) (h:q0u P t (opnd σ x) (opnd σ i) σ.row=some res):q1u P F o σ res:=by
 unfold q0u at h
 split at h
 ·rename_i el hu
  split at h
  ·rename_i m sz xs k n hm hx hi
   split at h
   case isFalse=>cases h
   rename_i hmz
   subst hmz
   simp only [Option.some.injEq] at h
   subst h
   refine q1u.same fun e a w hR hc=>?_
   obtain ⟨hc1,hc2⟩:=hc
   have h1:=hR.opnd x
   rw [hx] at h1
   have h3:=hR.opnd i
   rw [hi] at h3
   have h4:=q07 h3
   have h1':DatRep e.Pc w (a.eval x) (.lst m xs):=h1
   generalize hv:a.eval x=v at h1'
   cases h1' with
   | lst aa nn cap _ _ b off c hn hcap hmax hsz ha hcc hr =>
    have hk:n.toNat<xs.length:=by omega
    have ha':=ha (by omega)
    subst ha'
    have hxl:=hsz _ (List.getElem_mem hk)
    have hgd:xs.getD n.toNat []=xs[n.toNat]:=by simp [List.getD,hk]
    refine ⟨.pointer (some ⟨b,off+n.toNat*m,none⟩),?_,b,off+n.toNat*m,rfl,(List.range m).map (c n.toNat),?_,?_⟩
    ·have hnn:n<(nn:Int):=by omega
     simp [execOp,ho,hv,h4,Sem.run_bind,Instr.indexAt,asIntOf,run_underlying hu w,hc1,hnn,q0q hm w,add_lit]
    ·rw [hgd]
     refine q0b.mk (by simp [hxl]) (fun j hj hj'=>?_)
     simp only [List.getElem_map,List.getElem_range]
     exact hr n.toNat j hk hj'
    ·intro j hj
     simp only [List.length_map,List.length_range] at hj
     simp only [List.getElem_map,List.getElem_range]
     exact hcc n.toNat j hk hj
  ·rename_i m tt g k n hm hx hi
   split at h
   case h_2=>cases h
   rename_i r hr
   split at h
   case isFalse=>cases h
   rename_i hg
   obtain ⟨rfl,rfl⟩:=hg
   simp only [Option.some.injEq] at h
   subst h
   refine q1u.same fun e a w hR hc=>?_
   obtain ⟨hc1,hc2⟩:=hc
   have h1:=hR.opnd x
   rw [hx] at h1
   obtain ⟨_,h5,_⟩:(∃ r',σ.row tt=some r'/\r.gen<=r'.gen)/\a.eval x=e.rv tt r.gen/\_:=h1
   have h3:=hR.opnd i
   rw [hi] at h3
   have h4:=q07 h3
   obtain ⟨hs,cells,k1,k2,k3⟩:=hR.hp.rows tt r hr
   rcases k1.2 with ⟨_,k5⟩|⟨gg,cap,cur,k4,k5,k6,k7,k8,k9,k10⟩
   ·omega
   ·have hnn:n<(r.xs.length:Int):=hc2
    refine ⟨.pointer (some ⟨gg,n.toNat*r.sz,none⟩),?_,r,gg,hr,Nat.le_refl _,by rw [k4];rfl,by rw [Nat.add_zero]⟩
    simp [execOp,ho,h5,k4,h4,Sem.run_bind,Instr.indexAt,asIntOf,run_underlying hu w,hc1,hnn,q0q hm w,add_lit]
  ·cases h
 ·rename_i len el hu
  split at h
  ·rename_i m β q k n hm hx hi
   simp only [Option.some.injEq] at h
   subst h
   refine q1u.same fun e a w hR hc=>?_
   obtain ⟨hc1,hc2⟩:=hc
   have h1:=hR.opnd x
   rw [hx] at h1
   obtain ⟨h2,h5⟩:(σ.box β).isSome=true/\a.eval x = .pointer (some ⟨e.m β,q,none⟩):=h1
   have h3:=hR.opnd i
   rw [hi] at h3
   have h4:=q07 h3
   refine ⟨.pointer (some ⟨e.m β,q+n.toNat*m,none⟩),?_,h2,rfl⟩
   simp [execOp,ho,h5,h4,Sem.run_bind,Instr.indexAt,Instr.sureAddr,asIntOf,run_underlying hu w,hc1,hc2,q0q hm w,add_lit]
  ·cases h
 ·cases h
end Go.Proofs.YtlkpgcifpnppeaaGreatDoor.AM
namespace Go.Proofs.YtlkpgcifpnppeaaGreatDoor.AM
open Go.RowKit
variable {F:Fr} {σ:St} {e:Env} {a:Act} {w:World} {P:Program}
def bnd (d:Int):Option D->Option Int
 | none=>some d
 | some (.one (.c (.d (.v (.int _ n)))))=>some n
 | some _=>none
theorem jaq {x:Option Operand} {d:Int} {l:Int} {y:Nat} {code:BoundsCode} (hR:R F σ e a w) (h:bnd d (x.map (opnd σ))=some l) (h0:0<=l) (h1:l<=y) (hd:x=none->d=l) :
  ∀v,x.map a.eval=some v->(Instr.sliceBound v y code).run P w = .ok l.toNat w:=by
 intro v hv
 cases x with
 | none=>cases hv
 | some x =>
  simp only [Option.map_some,Option.some.injEq] at hv h
  subst hv
  unfold bnd at h
  split at h
  ·rename_i hh;cases hh
  ·rename_i k n hh
   simp only [Option.some.injEq] at hh h
   subst h
   have h3:=hR.opnd x
   rw [hh] at h3
   rw [q07 h3]
   exact run_sliceBound (P:=P) w k n y code h0 h1
  ·cases h
theorem qgo {lo hi:Option Operand} {l h:Int} {isSlice:Bool} {len cap:Nat} (hR:R F σ e a w) (hl:bnd 0 (lo.map (opnd σ))=some l) (hh:bnd len (hi.map (opnd σ))=some h) (h0:0<=l) (h1:l<=h) (h2:h<=len) (h3:len<=cap) :
  (Instr.sliceBounds isSlice len cap (lo.map a.eval) (hi.map a.eval) none).run P w = .ok (l.toNat,h.toNat,cap) w:=by
 have e1:=jaq (P:=P) (y:=cap) (code:=if isSlice then .sliceAcap else .sliceAlen) hR hh (by omega) (by omega) (fun e=>by subst e;simpa [bnd] using hh)
 have e2:=jaq (P:=P) (y:=h.toNat) (code:=.sliceB) hR hl (by omega) (by omega) (fun e=>by subst e;simpa [bnd] using hl)
 cases lo with
 | none =>
  have:l=0:=by simpa [bnd] using hl.symm
  subst this
  cases hi with
  | none =>
   have:h=len:=by simpa [bnd] using hh.symm
   subst this
   simp [Instr.sliceBounds]
  | some y=>simp [Instr.sliceBounds,e1 _ rfl]
 | some x =>
  cases hi with
  | none =>
   have:h=len:=by simpa [bnd] using hh.symm
   subst this
   have e2':=e2 _ rfl
   simp only [Int.toNat_natCast] at e2'
   simp [Instr.sliceBounds,e2']
  | some y=>simp [Instr.sliceBounds,Sem.run_bind,e1 _ rfl,e2 _ rfl]
def q6j (P:Program) (t:TypeId) (x:D) (lo hi:Option D):Option Res:=match P.underlying t,x with
 | some .string,.one (.c (.d (.v (.string s))))=>match bnd 0 lo,bnd s.size hi with
  | some l,some h=>some { cond:=0<=l/\l<=h/\h<=s.size,val:=q67 (.string (s.extract l.toNat h.toNat)) }
  | _,_=>none
 | some (.slice el),.one (.c (.d (.lst sz xs)))=>match bnd 0 lo,bnd xs.length hi with
  | some l,some h=>if tsz P el=some sz then some { cond:=0<=l/\l<=h/\h<=xs.length,val:=.one (.c (.d (.lst sz ((xs.drop l.toNat).take (h.toNat - l.toNat))))) } else none
  | _,_=>none
 | _,_=>none
theorem qzv {Pc:Nat->Nat->Prop} {aa:Option Addr} {n cap sz:Nat} {xs:List (List Dat)} (h:DatRep Pc w (.slice aa n cap) (.lst sz xs)) {l k:Nat} (h1:l+k<=xs.length) :
  DatRep Pc w (.slice (if cap=l then aa else aa.map (·.add (l*sz))) k (cap - l)) (.lst sz ((xs.drop l).take k)):=by
 cases h with
 | lst _ _ _ _ _ b off c hn hcap hmax hsz ha hcc hr =>
  have hlen:((xs.drop l).take k).length=k:=by rw [List.length_take,List.length_drop];omega
  refine .lst _ _ _ sz _ b (off+l*sz) (fun i j=>c (l+i) j) hlen.symm (by omega) (by omega) (fun x hx=>hsz x (List.mem_of_mem_drop (List.mem_of_mem_take hx))) (fun h0=>?_) (fun i j hi hj=>?_) (fun i j hi hj=>?_)
  ·rw [hlen] at h0
   rw [if_neg (by omega),ha (by omega)]
   simp [add_lit]
  ·rw [hlen] at hi
   have:=hcc (l+i) j (by omega) hj
   rw [show off+l*sz+i*sz+j=off+(l+i)*sz+j from by rw [Nat.add_mul];omega]
   exact this
  ·rw [hlen] at hi
   simp only [List.getElem_take,List.getElem_drop] at hj ⊢
   exact hr (l+i) j (by omega) hj
theorem ok_slice {o:Oper} {t:TypeId} {x:Operand} {lo hi:Option Operand} {res:Res} (ho:o.op = .slice t x lo hi none) (h:q6j P t (opnd σ x) (lo.map (opnd σ)) (hi.map (opnd σ))=some res):q1u P F o σ res:=by
 unfold q6j at h
 split at h
 ·rename_i s hu hx
  split at h
  case h_2=>cases h
  rename_i l hh hl hhh
  simp only [Option.some.injEq] at h
  subst h
  refine q1u.same fun e a w hR hc=>?_
  obtain ⟨c1,c2,c3⟩:=hc
  have h1:=hR.opnd x
  rw [hx] at h1
  have h2:=q07 h1
  have hb:=qgo (P:=P) (isSlice:=false) (cap:=s.size) hR hl hhh c1 c2 (by omega) (Nat.le_refl _)
  refine ⟨_,?_,q04 _⟩
  simp [execOp,ho,h2,Sem.run_bind,Instr.sliceAt,Instr.slice,run_underlying hu w,hb]
 ·rename_i el sz xs hu hx
  split at h
  case h_2=>cases h
  rename_i l hh hl hhh
  split at h
  case isFalse=>cases h
  rename_i hsz
  simp only [Option.some.injEq] at h
  subst h
  refine q1u.same fun e a w hR hc=>?_
  obtain ⟨c1,c2,c3⟩:=hc
  have h1:=hR.opnd x
  rw [hx] at h1
  have h1':DatRep e.Pc w (a.eval x) (.lst sz xs):=h1
  generalize hv:a.eval x=v at h1'
  have h1'':=h1'
  cases h1' with
  | lst aa nn cap _ _ b off c hn hcap hmax hs ha hcc hr =>
   have hb:=qgo (P:=P) (isSlice:=true) (len:=nn) (cap:=cap) hR hl (by rw [hn];exact hhh) c1 c2 (by omega) hcap
   refine ⟨.slice (if cap=l.toNat then aa else aa.map (·.add (l.toNat*sz))) (hh.toNat - l.toNat) (cap - l.toNat),?_,qzv h1'' (by omega)⟩
   simp [execOp,ho,hv,Sem.run_bind,Instr.sliceAt,Instr.slice,run_underlying hu w,hb,q0q hsz w]
 ·cases h
def qgh (P:Program) (t:TypeId) (x:D) (rw:Nat->Option Row):Option Res:=match P.underlying t,x with
 | some .string,.one (.c (.d (.v (.string s))))=>some { cond:=True,val:=q67 (.int .i64 s.size) }
 | some (.slice _),.one (.c (.d (.lst _ xs)))=>some { cond:=True,val:=q67 (.int .i64 xs.length) }
 | some (.slice _),.one (.c (.d (.v (.slice none 0 0))))=>some { cond:=True,val:=q67 (.int .i64 0) }
 | some (.slice _),.one (.c (.row tt g))=>match rw tt with
  | some r=>if r.gen=g then some { cond:=True,val:=q67 (.int .i64 r.xs.length) } else none
  | none=>none
 | _,_=>none
theorem joo (h:Hp F σ e w) {t:Nat} {r:Row} (hr:σ.row t=some r) : ∃ a c,e.rv t r.gen = .slice a r.xs.length c:=by
 obtain ⟨_,cells,h1,_⟩:=h.rows t r hr
 rcases h1.2 with ⟨h4,h5⟩|⟨g,cap,cur,h4,_⟩
 ·exact ⟨none,0,by rw [h4,h5]⟩
 ·exact ⟨_,cap,h4⟩
theorem jpr {o:Oper} {t:TypeId} {x:Operand} {res:Res} (ho:o.op = .call { callee:=.builtin .len,args:=#[x],argTypes:=#[t] }) (h:qgh P t (opnd σ x) σ.row=some res):q1u P F o σ res:=by
 unfold qgh at h
 split at h
 ·rename_i s hu hx
  simp only [Option.some.injEq] at h
  subst h
  refine q1u.same fun e a w hR _=>?_
  have h1:=hR.opnd x
  rw [hx] at h1
  exact ⟨_,by simp [execOp,ho,q07 h1,Sem.run_bind,resolve,invoke,builtin,Builtin.len_,run_underlying hu w,goInt],q04 _⟩
 ·rename_i el sz xs hu hx
  simp only [Option.some.injEq] at h
  subst h
  refine q1u.same fun e a w hR _=>?_
  have h1:=hR.opnd x
  rw [hx] at h1
  have h1':DatRep e.Pc w (a.eval x) (.lst sz xs):=h1
  generalize hv:a.eval x=v at h1'
  cases h1' with
  | lst aa nn cap _ _ b off c hn hcap hmax hs ha hcc hr =>
   subst hn
   exact ⟨_,by simp [execOp,ho,hv,Sem.run_bind,resolve,invoke,builtin,Builtin.len_,run_underlying hu w,goInt],q04 _⟩
 ·rename_i el hu hx
  simp only [Option.some.injEq] at h
  subst h
  refine q1u.same fun e a w hR _=>?_
  have h1:=hR.opnd x
  rw [hx] at h1
  exact ⟨_,by simp [execOp,ho,q07 h1,Sem.run_bind,resolve,invoke,builtin,Builtin.len_,run_underlying hu w,goInt],q04 _⟩
 ·rename_i el tt g hu hx
  split at h
  case h_2=>cases h
  rename_i r hr
  split at h
  case isFalse=>cases h
  rename_i hg
  subst hg
  simp only [Option.some.injEq] at h
  subst h
  refine q1u.same fun e a w hR _=>?_
  have h1:=hR.opnd x
  rw [hx] at h1
  obtain ⟨_,h5,_⟩:(∃ r',σ.row tt=some r'/\r.gen<=r'.gen)/\a.eval x=e.rv tt r.gen/\_:=h1
  obtain ⟨aa,c,h6⟩:=joo hR.hp hr
  exact ⟨_,by simp [execOp,ho,h5,h6,Sem.run_bind,resolve,invoke,builtin,Builtin.len_,run_underlying hu w,goInt],q04 _⟩
 ·cases h
def qgw (place:Nat->Option (Nat×Nat)) (cs:List C):List (Nat×List C)->Option (List C)
 | []=>some cs
 | (i,xs)::rest=>match place i with
  | some (off,size)=>if xs.length=size/\off+xs.length<=cs.length then qgw place (setAt cs off xs) rest else none
  | none=>none
theorem jfg {α:Type} (l:List α) (i:Nat) (v:α) (vs:List α) (h:i<l.length):setAt (l.set i v) (i+1) vs=setAt l i (v::vs):=by
 unfold setAt
 have e:l.set i v=l.take i++v::l.drop (i+1):=by rw [List.set_eq_take_append_cons_drop,if_pos h]
 have hl:(l.take i).length=i:=by rw [List.length_take];omega
 rw [e,List.take_append,List.drop_append,hl,List.take_of_length_le (l:=l.take i) (by omega),List.drop_eq_nil_of_le («as»:=l.take i) (by omega),show i+1 - i=1 from by omega,show i+1+vs.length - i=vs.length+1 from by omega]
 simp only [List.take_succ_cons,List.take_zero,List.drop_succ_cons,List.drop_drop,List.nil_append,List.append_assoc,List.cons_append,List.length_cons]
 rw [show i+1+vs.length=i+(vs.length+1) from by omega]
theorem qx1 (off:Nat) : ∀(vs:List Value) (k:Nat) (cells:Array Value),off+k+vs.length<=cells.size ->
  ((vs.zipIdx k).foldl (fun cs (p:Value×Nat)=>cs.setIfInBounds (off+p.2) p.1) cells).toList=setAt cells.toList (off+k) vs
 | [],k,cells,_=>by simp [setAt]
 | v::vs,k,cells,h=>by
  simp only [List.length_cons] at h
  rw [List.zipIdx_cons,List.foldl_cons,qx1 off vs (k+1) _ (by simp;omega),Array.toList_setIfInBounds]
  exact jfg _ _ _ _ (by rw [Array.length_toList];omega)
def qj1 (e:Env) (σ:St) (w:World):List (Nat×Value)->List (Nat×List C)->Prop
 | [],[]=>True
 | (i,v)::rest,(j,xs)::rest'=>i=j/\q0b (q2k e σ w) v.cells.toList xs/\(∀u∈v.cells.toList,u.oneCell'=true)/\qj1 e σ w rest rest'
 | _,_=>False
theorem qje {place:Nat->Option (Nat×Nat)} : ∀(ps:List (Nat×Value)) (qs:List (Nat×List C)) (vs:Array Value) (cs cs':List C),qj1 e σ w ps qs->q0b (q2k e σ w) vs.toList cs->(∀u∈vs.toList,u.oneCell'=true)->qgw place cs qs=some cs' ->
  ∃ vs':Array Value,Instr.fill place vs ps=some vs'/\q0b (q2k e σ w) vs'.toList cs'/\(∀u∈vs'.toList,u.oneCell'=true)
 | [],[],vs,cs,cs',_,h,h1,hf=>by
  simp only [qgw,Option.some.injEq] at hf
  subst hf
  exact ⟨vs,rfl,h,h1⟩
 | (i,v)::ps,(j,xs)::qs,vs,cs,cs',⟨hij,hv,hv1,hp⟩,h,h1,hf=>by
  subst hij
  unfold qgw at hf
  split at hf
  case h_2=>cases hf
  rename_i off size hpl
  split at hf
  case isFalse=>cases hf
  rename_i hle
  have hl1:=hv.length
  have hl2:=h.length
  rw [Array.length_toList] at hl1 hl2
  have e1:=qx1 off v.cells.toList 0 vs (by rw [Array.length_toList];omega)
  rw [Nat.add_zero] at e1
  have e2:(v.cells.zipIdx.foldl (fun cs (c,j)=>cs.setIfInBounds (off+j) c) vs).toList=setAt vs.toList off v.cells.toList:=by
   rw [<-e1,<-Array.foldl_toList,Array.toList_zipIdx]
  obtain ⟨vs',g1,g2,g3⟩:=qje ps qs (v.cells.zipIdx.foldl (fun cs (c,j)=>cs.setIfInBounds (off+j) c) vs) (setAt cs off xs) cs' hp (by rw [e2];exact qh5 h hv off) (by
   rw [e2]
   intro u hu
   rcases qk2 hu with hu|hu
   ·exact h1 u hu
   ·exact hv1 u hu) hf
  refine ⟨vs',?_,g2,g3⟩
  unfold Instr.fill
  simp only [hpl]
  rw [if_neg]
  ·exact g1
  ·have : ¬ (v.cells.size≠size||decide (off+v.cells.size>vs.size))=true:=by
    simp only [Bool.or_eq_true,decide_eq_true_eq,not_or]
    omega
   exact this
 | [],_::_,_,_,_,h,_,_,_=>h.elim
 | _::_,[],_,_,_,h,_,_,_=>h.elim
def places (P:Program) (fs:Array Field):Option (List (Nat×Nat)):=fs.toList.mapM fun f=>(P.info? f.type).map fun i=>(f.offset,i.size)
def layT (P:Program) (t:TypeId):Option (List (Nat×Nat)):=match P.underlying t with
 | some (.struct fs)=>places P fs
 | _=>none
def arrT (P:Program) (t:TypeId):Option Nat:=match P.underlying t with
 | some (.array _ el)=>tsz P el
 | _=>none
def qld (P:Program) (t:TypeId) (parts:List (Nat×List C)):Option (List C):=match qn4 P t,layT P t,arrT P t with
 | some z,some pl,_=>if z.all Value.oneCell'=true then qgw (pl.toArray[·]?) (z.map qns) parts else none
 | some z,none,some n=>if z.all Value.oneCell'=true then qgw (fun i=>some (i*n,n)) (z.map qns) parts else none
 | _,_,_=>none
theorem jet {t:TypeId} {ps:List (Nat×Value)} {qs:List (Nat×List C)} {cs:List C} (hp:qj1 e σ w ps qs) (h:qld P t qs=some cs) :
  ∃ vs:Array Value,P.built t ps=some vs/\q0b (q2k e σ w) vs.toList cs:=by
 unfold qld at h
 split at h
 ·rename_i z pl hz hl
  split at h
  case isFalse=>cases h
  rename_i h1
  unfold layT at hl
  split at hl
  case h_2=>cases hl
  rename_i fs hu
  unfold qn4 at hz
  obtain ⟨inf,hi,hz1⟩:=Option.bind_eq_some_iff.1 hz
  obtain ⟨zv,hz2,rfl⟩:=Option.map_eq_some_iff.1 hz1
  obtain ⟨vs,g1,g2,_⟩:=qje ps qs zv.cells _ cs hp (q9e qns qb8 _) (fun u hu=>List.all_eq_true.1 h1 u hu) h
  refine ⟨vs,?_,g2⟩
  unfold Program.built
  unfold places at hl
  simp only [hi,hu,hz2,hl]
  exact g1
 ·rename_i z n hz hl hm
  split at h
  case isFalse=>cases h
  rename_i h1
  unfold arrT at hm
  split at hm
  case h_2=>cases hm
  rename_i k el hu
  unfold qn4 at hz
  obtain ⟨inf,hi,hz1⟩:=Option.bind_eq_some_iff.1 hz
  obtain ⟨zv,hz2,rfl⟩:=Option.map_eq_some_iff.1 hz1
  unfold tsz at hm
  obtain ⟨ie,hie,rfl⟩:=Option.map_eq_some_iff.1 hm
  obtain ⟨vs,g1,g2,_⟩:=qje ps qs zv.cells _ cs hp (q9e qns qb8 _) (fun u hu=>List.all_eq_true.1 h1 u hu) h
  refine ⟨vs,?_,g2⟩
  unfold Program.built
  simp only [hi,hu,hz2,hie]
  exact g1
 ·cases h
def q9n (ρ:Operand->D):List (Nat×Operand)->Option (List (Nat×List C))
 | []=>some []
 | (i,x)::rest=>match ρ x,q9n ρ rest with
  | .one d,some r=>if (q0j d).all okC=true then some ((i,q0j d)::r) else none
  | _,_=>none
theorem qmc (hR:R F σ e a w) : ∀(ps:List (Nat×Operand)) (qs:List (Nat×List C)),q9n (opnd σ) ps=some qs->qj1 e σ w (ps.map fun (i,x)=>(i,a.eval x)) qs
 | [],qs,h=>by simp only [q9n,Option.some.injEq] at h;subst h;exact trivial
 | (i,x)::ps,qs,h=>by
  unfold q9n at h
  split at h
  case h_2=>cases h
  rename_i d r hd hr
  split at h
  case isFalse=>cases h
  rename_i hok
  simp only [Option.some.injEq] at h
  subst h
  have h4:=hR.opnd x
  rw [hd] at h4
  obtain ⟨h5,h6⟩:=qf2 (show q80 e σ w (a.eval x) d from h4) hok
  exact ⟨rfl,h5,h6,qmc hR ps r hr⟩
def qdw (P:Program) (t:TypeId) (ps:Array (Nat×Operand)) (ρ:Operand->D):Option Res:=match q9n ρ ps.toList with
 | some qs=>match qld P t qs with
  | some cs=>some { cond:=True,val:=.one (.agg cs) }
  | none=>none
 | none=>none
theorem jj3 {o:Oper} {t:TypeId} {ps:Array (Nat×Operand)} {res:Res} (ho:o.op = .build t ps) (h:qdw P t ps (opnd σ)=some res):q1u P F o σ res:=by
 unfold qdw at h
 split at h
 case h_2=>cases h
 rename_i qs hqs
 split at h
 case h_2=>cases h
 rename_i cs hcs
 simp only [Option.some.injEq] at h
 subst h
 refine q1u.same fun e a w hR _=>?_
 obtain ⟨vs,h1,h2⟩:=jet (qmc hR _ _ hqs) hcs
 refine ⟨.agg vs,?_,vs,rfl,h2⟩
 have:=run_build (P:=P) w t (ps.map fun (i,x)=>(i,a.eval x)) vs (by rw [Array.toList_map];exact h1)
 simp [execOp,ho,this]
end Go.Proofs.YtlkpgcifpnppeaaGreatDoor.AM
namespace Go.Proofs.YtlkpgcifpnppeaaGreatDoor.AM
open Go.RowKit
variable {F:Fr} {σ:St} {e:Env} {a:Act} {w:World} {P:Program}
def chunk {α:Type} (sz:Nat):Nat->List α->List (List α)
 | 0,_=>[]
 | n+1,l=>l.take sz::chunk sz n (l.drop sz)
theorem qf0 {α:Type} {sz:Nat} : ∀(n:Nat) (l:List α),(chunk sz n l).length=n
 | 0,_=>rfl
 | n+1,l=>by simp [chunk,qf0 n]
theorem j7g {α:Type} {sz:Nat} : ∀(n:Nat) (l:List α),l.length=n*sz->∀x∈chunk sz n l,x.length=sz
 | 0,_,_,x,hx=>by simp [chunk] at hx
 | n+1,l,hl,x,hx=>by
  rw [Nat.add_mul,Nat.one_mul] at hl
  simp only [chunk,List.mem_cons] at hx
  rcases hx with rfl|hx
  ·rw [List.length_take];omega
  ·exact j7g n _ (by rw [List.length_drop];omega) x hx
theorem qgx {α:Type} {sz:Nat} : ∀(n:Nat) (l:List α),l.length=n*sz->(chunk sz n l).flatten=l
 | 0,l,hl=>by
  have:l = []:=List.eq_nil_of_length_eq_zero (by omega)
  subst this;rfl
 | n+1,l,hl=>by
  rw [Nat.add_mul,Nat.one_mul] at hl
  simp only [chunk,List.flatten_cons]
  rw [qgx n _ (by rw [List.length_drop];omega),List.take_append_drop]
def rep {α:Type} (z:List α):Nat->List α
 | 0=>[]
 | n+1=>z++rep z n
theorem j40 {α:Type} (z:List α) : ∀n,(rep z n).length=n*z.length
 | 0=>by simp [rep]
 | n+1=>by rw [rep,List.length_append,j40 z n,Nat.add_mul,Nat.one_mul];omega
theorem jfm {α:Type} (z:List α) (h:0<z.length) : ∀(n i:Nat),i<n*z.length->(rep z n)[i]? = z[i % z.length]?
 | 0,i,hi=>by omega
 | n+1,i,hi=>by
  rw [Nat.add_mul,Nat.one_mul] at hi
  rw [rep]
  by_cases h1:i<z.length
  ·rw [List.getElem?_append_left h1,Nat.mod_eq_of_lt h1]
  ·rw [List.getElem?_append_right (by omega),jfm z h n (i - z.length) (by omega),show i % z.length=(i - z.length) % z.length from Nat.mod_eq_sub_mod (by omega)]
theorem jeh {α:Type} {z:List α} {u:α} : ∀{n:Nat},u∈rep z n->u∈z
 | 0,h=>by simp [rep] at h
 | n+1,h=>by
  rw [rep,List.mem_append] at h
  rcases h with h|h
  ·exact h
  ·exact jeh h
def q0x (P:Program) (dst:Option Nat) (t:TypeId) (n:Nat) (ps:Array (Nat×Operand)) (ρ:Operand->D) (rw:Nat->Option Row):Option Res:=match P.underlying t,dst with
 | some (.slice el),some i=>match rw i,tsz P el,qn4 P el,q9n ρ ps.toList with
  | none,some m,some z,some qs=>if n*m<=2 ^ 24/\n<=2 ^ 24/\z.length=m/\0<m/\z.all Value.oneCell'=true/\el<1099511627776 then match qgw (fun i=>some (i*m,m)) ((rep z n).map qns) qs with
    | some cs=>match cs.mapM qiq with
     | some ds=>some { cond:=True,val:=.one (.c (.row i 0)),row:=some (i,⟨0,el,m,true,chunk m n ds⟩) }
     | none=>none
    | none=>none
   else none
  | _,_,_,_=>none
 | _,_=>none
theorem jkk {t el:TypeId} {n m:Nat} {ps:Array (Nat×Value)} {vs zs:Array Value} (hu:P.underlying t=some (.slice el)) (hm:tsz P el=some m) (hle:n*m<=2 ^ 24)
  (hz:(n*m=0/\zs = #[])\/(¬ n*m=0/\∃ zv,(zeroValue el).run P w = .ok zv w/\zs=zv.cells))
  (hf:Instr.fill (fun i=>some (i*m,m)) ((Array.range (n*m)).map fun j=>zs[j % zs.size]!) ps.toList=some vs) :
  (Instr.buildSlice t n ps).run P w = .ok (.slice (some ⟨w.heap.size,0,none⟩) n n) (w.alloc (.cells vs el)):=by
 have hrow':(newRow el vs).run P w = .ok ⟨w.heap.size,0,none⟩ (w.alloc (.cells vs el)):=by
  simp only [newRow,Sem.run_bind,newObj]
  rfl
 have hle' : ¬ (n*m>2 ^ 24):=by omega
 unfold Instr.buildSlice
 simp only [Sem.run_bind,run_underlying hu w,Result.andThen_ok,q0q hm w,hle',if_false]
 rcases hz with ⟨hn,rfl⟩|⟨hn,zv,hz,rfl⟩
 ·rw [if_pos hn]
  simp only [Sem.run_bind,Sem.run_pure,Result.andThen_ok,hf,hrow']
 ·rw [if_neg hn]
  simp only [Sem.run_bind,hz,Sem.run_pure,Result.andThen_ok,hf,hrow']
theorem qu8 {o:Oper} {t:TypeId} {n:Nat} {ps:Array (Nat×Operand)} {res:Res} (ho:o.op = .buildSlice t n ps) (hdst : ∀k,o.dst=some k->k<F.n) (h:q0x P o.dst t n ps (opnd σ) σ.row=some res):q1u P F o σ res:=by
 unfold q0x at h
 split at h
 case h_2=>cases h
 rename_i el i hu hd
 split at h
 case h_2=>cases h
 rename_i m z qs hrow hm hz hqs
 split at h
 case isFalse=>cases h
 rename_i hcond
 obtain ⟨hc1,hc2,hc3,hc4,hc5,hc6⟩:=hcond
 split at h
 case h_2=>cases h
 rename_i cs hcs
 split at h
 case h_2=>cases h
 rename_i ds hds
 simp only [Option.some.injEq] at h
 subst h
 intro e a w hR _
 have hz':=hz
 unfold qn4 at hz
 obtain ⟨inf,hi,hz1⟩:=Option.bind_eq_some_iff.1 hz
 obtain ⟨zv,hz2,rfl⟩:=Option.map_eq_some_iff.1 hz1
 have hzr:(zeroValue el).run P w = .ok zv w:=by simp [zeroValue,typeInfo,hi,hz2]
 have hzs:zv.cells.size=m:=by rw [<-hc3];simp
 have hfl:((Array.range (n*m)).map fun j=>zv.cells[j % zv.cells.size]!).toList=rep zv.cells.toList n:=by
  apply List.ext_getElem?
  intro j
  by_cases hj:j<n*m
  ·rw [jfm _ (by omega) n j (by rw [hc3];exact hj)]
   have:j % zv.cells.size<zv.cells.size:=Nat.mod_lt _ (by omega)
   simp [hj,this]
  ·rw [List.getElem?_eq_none (by simp;omega),List.getElem?_eq_none (by rw [j40,hc3];omega)]
 obtain ⟨vs,g1,g2,g3⟩:=qje (e:=e) (σ:=σ) (w:=w) (place:=fun i=>some (i*m,m)) _ qs ((Array.range (n*m)).map fun j=>zv.cells[j % zv.cells.size]!) _ cs (qmc hR _ _ hqs) (by rw [hfl];exact q9e qns qb8 _) (by
  rw [hfl];intro u hu;exact List.all_eq_true.1 hc5 u (jeh hu)) hcs
 have hdd:=qjq hds g2
 have hsz:vs.size=n*m:=by
  have l1:=g2.length
  have l3 : ∀(qs:List (Nat×List C)) (cs cs':List C),qgw (fun i=>some (i*m,m)) cs qs=some cs'->cs'.length=cs.length:=by
   intro qs
   induction qs with
   | nil=>intro cs cs' h;simp only [qgw,Option.some.injEq] at h;rw [h]
   | cons q qs ih =>
    intro cs cs' h
    obtain ⟨i,xs⟩:=q
    simp only [qgw] at h
    split at h
    case isFalse=>cases h
    rename_i hle
    rw [ih _ _ h]
    unfold setAt
    simp only [List.length_append,List.length_take,List.length_drop];omega
  have l4:=l3 _ _ _ hcs
  rw [List.length_map,j40,hc3] at l4
  rw [Array.length_toList] at l1;omega
 have hdl:ds.length=n*m:=by have:=hdd.length;rw [Array.length_toList] at this;omega
 have hown:q6v (w.alloc (.cells vs el)) F.w0.heap.size el m (.slice (some ⟨w.heap.size,0,none⟩) n n) n vs.toList :=
  (q2c hc6).2 ⟨by simpa using hsz,.inr ⟨w.heap.size,n,vs,rfl,hR.hp.sizeLe,heap_alloc_new w _,Nat.le_refl _,by unfold maxLen;omega,hsz,List.take_of_length_le (by rw [Array.length_toList];omega)⟩⟩
 have hcl:=qf0 (sz:=m) n ds
 obtain ⟨hf,hh⟩:=hR.hp.rowNext (w':=w.alloc (.cells vs el)) i ⟨0,el,m,true,chunk m n ds⟩ (.slice none 0 0) (.slice (some ⟨w.heap.size,0,none⟩) n n) vs.toList (Or.inr ⟨hrow,rfl⟩)
  (j7g n ds hdl) (by rw [hcl];exact hown) (World.grownBy_alloc w _ _) (fun r hr=>by rw [hrow] at hr;cases hr) (fun b hb=>Or.inr (Nat.le_of_eq (Option.some.inj hb)))
  (by show q0b _ _ (chunk m n ds).flatten;rw [qgx n ds hdl];exact hdd) g3 (fun v0 h0=>absurd h0 (F.r0n (hdst i hd) v0))
 refine ⟨.slice (some ⟨w.heap.size,0,none⟩) n n,_,_,.inl ?_,hf,hh,⟨⟨_,q0n _ _ _,Nat.le_refl _⟩,(q0t _ _ _ _).symm,_,_,_,rfl⟩⟩
 have hps:(ps.map fun (i,x)=>(i,a.eval x)).toList=ps.toList.map fun (i,x)=>(i,a.eval x):=by rw [Array.toList_map]
 clear hf hh hown hdl hdd hR hds hcl hqs g2 g3
 by_cases hn:n*m=0
 ·have hn0:n=0:=by rcases Nat.mul_eq_zero.1 hn with h|h<;>omega
  subst hn0
  have:=jkk (P:=P) (w:=w) (ps:=ps.map fun (i,x)=>(i,a.eval x)) (vs:=vs) (zs:=#[]) hu hm hc1 (Or.inl ⟨hn,rfl⟩) (by
   rw [hps,<-g1]
   congr 1
   simp)
  simp [execOp,ho,this]
 ·have:=jkk (P:=P) (w:=w) (ps:=ps.map fun (i,x)=>(i,a.eval x)) (vs:=vs) (zs:=zv.cells) hu hm hc1 (Or.inr ⟨hn,zv,hzr,rfl⟩) (by rw [hps];exact g1)
  simp [execOp,ho,this]
end Go.Proofs.YtlkpgcifpnppeaaGreatDoor.AM
namespace Go.Proofs.YtlkpgcifpnppeaaGreatDoor.AM
open Go.RowKit
variable {F:Fr} {σ:St} {e:Env} {a:Act} {w:World} {P:Program}
theorem qhq {α β:Type} {r:α->β->Prop} : ∀{L:List (List α)} {M:List (List β)},q0b (q0b r) L M->q0b r L.flatten M.flatten
 | [],[],_=>trivial
 | _::_,_::_,h=>by rw [List.flatten_cons,List.flatten_cons];exact h.1.append (qhq h.2)
 | [],_::_,h=>h.elim
 | _::_,[],h=>h.elim
def qiz (m:Nat) (x:D) (rw:Nat->Option Row):Option (List (List Dat)):=match x with
 | .one (.c (.d (.lst sz xs)))=>if sz=m then some xs else none
 | .one (.c (.d (.v (.slice none 0 0))))=>some []
 | .one (.c (.row t g))=>match rw t with
  | some r=>if r.gen=g/\r.sz=m then some r.xs else none
  | none=>none
 | _=>none
theorem jer {m:Nat} {x:Operand} {ys:List (List Dat)} (hR:R F σ e a w) (h:qiz m (opnd σ x) σ.row=some ys) :
  (∀y∈ys,y.length=m)/\∃ news:List Value,q0b (DatRep e.Pc w) news ys.flatten/\(∀u∈news,u.oneCell'=true) /\
   ((∃ ad c,a.eval x = .slice (some ad) ys.length c/\∀j u,news[j]? = some u->w.cell? (ad.add j)=some u)\/(∃ c,a.eval x = .slice none ys.length c/\ys.length=0)):=by
 have h1:=hR.opnd x
 unfold qiz at h
 split at h
 ·rename_i sz xs hx
  split at h
  case isFalse=>cases h
  rename_i hsz
  subst hsz
  simp only [Option.some.injEq] at h
  subst h
  rw [hx] at h1
  have h1':DatRep e.Pc w (a.eval x) (.lst sz xs):=h1
  generalize hv:a.eval x=v at h1'
  cases h1' with
  | lst aa nn cap _ _ b off c hn hcap hmax hs ha hcc hr =>
   refine ⟨hs,?_⟩
   have hLs : ∀y∈(List.range xs.length).map (fun k=>(List.range sz).map (c k)),y.length=sz:=fun y hy=>by
    obtain ⟨k,_,rfl⟩:=List.mem_map.1 hy
    simp
   have hLl:=q6b _ hLs
   simp only [List.length_map,List.length_range] at hLl
   refine ⟨((List.range xs.length).map fun k=>(List.range sz).map (c k)).flatten,qhq (q0b.mk (by simp) (fun k hk hk'=>?_)),?_,?_⟩
   ·simp only [List.getElem_map,List.getElem_range]
    have hxl:=hs _ (List.getElem_mem hk')
    refine q0b.mk (by simp [hxl]) (fun j hj hj'=>?_)
    simp only [List.getElem_map,List.getElem_range]
    exact hr k j hk' hj'
   ·intro u hu
    obtain ⟨l,hl,hu⟩:=List.mem_flatten.1 hu
    obtain ⟨k,hk,rfl⟩:=List.mem_map.1 hl
    obtain ⟨j,hj,rfl⟩:=List.mem_map.1 hu
    exact (hcc k j (List.mem_range.1 hk) (List.mem_range.1 hj)).2.2
   ·subst hn
    by_cases h0:xs.length=0
    ·cases aa with
     | none=>exact Or.inr ⟨cap,rfl,h0⟩
     | some ad =>
      refine Or.inl ⟨ad,cap,rfl,fun j u hj=>?_⟩
      rw [List.getElem?_eq_none (by rw [hLl,h0];omega)] at hj
      cases hj
    ·rw [ha (by omega)]
     refine Or.inl ⟨_,cap,rfl,fun j u hj=>?_⟩
     obtain ⟨hlt,hju⟩:=List.getElem?_eq_some_iff.1 hj
     rw [hLl] at hlt
     have hs0:0<sz:=by
      rcases Nat.eq_zero_or_pos sz with hz|hz
      ·rw [hz] at hlt;omega
      ·exact hz
     have hk:j / sz<xs.length:=Nat.div_lt_of_lt_mul (by rw [Nat.mul_comm];exact hlt)
     have hm:=Nat.mod_lt j hs0
     have hjj:j=j / sz*sz+j % sz:=by rw [Nat.mul_comm];exact (Nat.div_add_mod j sz).symm
     have:=q8s _ hLs (j / sz) (j % sz) (by simpa using hk) hm
     rw [<-hjj,hj] at this
     simp only [List.getElem_map,List.getElem_range] at this
     rw [List.getElem?_eq_getElem (by simpa using hm)] at this
     simp only [List.getElem_map,List.getElem_range,Option.some.injEq] at this
     subst this
     rw [add_lit]
     have h3:=(hcc (j / sz) (j % sz) hk hm).2.1
     rw [show off+j=off+j / sz*sz+j % sz from by omega]
     exact h3
 ·rename_i hx
  simp only [Option.some.injEq] at h
  subst h
  rw [hx] at h1
  refine ⟨fun y hy=>(by cases hy),[],trivial,fun u hu=>(by cases hu),Or.inr ⟨0,q07 h1,rfl⟩⟩
 ·rename_i t g hx
  split at h
  case h_2=>cases h
  rename_i r hr
  split at h
  case isFalse=>cases h
  rename_i hg
  obtain ⟨rfl,rfl⟩:=hg
  simp only [Option.some.injEq] at h
  subst h
  rw [hx] at h1
  obtain ⟨_,h5,_⟩:(∃ r',σ.row t=some r'/\r.gen<=r'.gen)/\a.eval x=e.rv t r.gen/\_:=h1
  obtain ⟨hs,cells,k1,k2,k3⟩:=hR.hp.rows t r hr
  refine ⟨hs,cells,k2,k3,?_⟩
  rcases k1.2 with ⟨h4,h6⟩|⟨gg,cap,cur,h4,_⟩
  ·exact Or.inr ⟨0,by rw [h5,h4,h6],h6⟩
  ·exact Or.inl ⟨⟨gg,0,none⟩,cap,by rw [h5,h4],fun j u hj=>k1.cells (g:=gg) (by rw [h4];rfl) j u hj⟩
 ·cases h
def jdc (P:Program) (el:TypeId):Option (Nat×Nat):=match P.info? el with
 | some i=>match i.zero with
  | some z=>if z.cells.size=i.size/\0<i.size/\0<i.bytes/\el<1099511627776 then some (i.size,i.bytes) else none
  | none=>none
 | none=>none
def q2u (P:Program) (dst:Option Nat) (t:TypeId) (s x:D) (rw:Nat->Option Row):Option Res:=match P.underlying t with
 | some (.slice el)=>match jdc P el with
  | some (m,bytes)=>match qiz m x rw with
   | some ys=>match s with
    | .one (.c (.row tt g))=>match rw tt with
     | some r=>if r.gen=g/\r.sz=m/\r.E=el/\tt<2000000 then some { cond:=(r.xs.length+ys.length)*bytes<=140737488355328,val:=.one (.c (.row tt (g+1))),row:=some (tt,{ r with gen:=g+1,xs:=r.xs++ys }) } else none
     | none=>none
    | .one (.c (.d (.v (.slice none 0 0))))=>match dst with
     | some i=>match rw i with
      | none=>some { cond:=ys.length*bytes<=140737488355328,val:=.one (.c (.row i 0)),row:=some (i,⟨0,el,m,true,ys⟩) }
      | some _=>none
     | none=>none
    | _=>none
   | none=>none
  | none=>none
 | _=>none
theorem j4p {base E size n:Nat} {v:Value} {xs:List Value} (h:q6v w base E size v n xs) : ∃ a k c,v = .slice a k c:=by
 rcases h.2 with ⟨h1,_⟩|⟨g,cap,cur,h1,_⟩<;>exact ⟨_,_,_,h1⟩
theorem jf5 {o:Oper} {t:TypeId} {s x:Operand} {res:Res} (ho:o.op = .call { callee:=.builtin .append,args:=#[s,x],argTypes:=#[t,t] }) (hdst : ∀k,o.dst=some k->k<F.n) (h:q2u P o.dst t (opnd σ s) (opnd σ x) σ.row=some res):q1u P F o σ res:=by
 unfold q2u at h
 split at h
 case h_2=>cases h
 rename_i el hu
 split at h
 case h_2=>cases h
 rename_i m bytes hel
 unfold jdc at hel
 split at hel
 case h_2=>cases hel
 rename_i i hi
 split at hel
 case h_2=>cases hel
 rename_i z hz
 split at hel
 case isFalse=>cases hel
 rename_i hsz
 obtain ⟨hz1,hz2,hz3,hz4⟩:=hsz
 simp only [Option.some.injEq,Prod.mk.injEq] at hel
 obtain ⟨hm,hby⟩:=hel
 split at h
 case h_2=>cases h
 rename_i ys hys
 split at h
 ·rename_i tt g hs
  split at h
  case h_2=>cases h
  rename_i r hr
  split at h
  case isFalse=>cases h
  rename_i hg
  obtain ⟨rfl,hrm,hrE,htt⟩:=hg
  simp only [Option.some.injEq] at h
  subst h
  intro e a w hR hc
  have hc':(r.xs.length+ys.length)*bytes<=140737488355328:=hc
  obtain ⟨hy1,news,hy2,hy3,hy4⟩:=jer hR hys
  have h1:=hR.opnd s
  rw [hs] at h1
  obtain ⟨_,h5,_⟩:(∃ r',σ.row tt=some r'/\r.gen<=r'.gen)/\a.eval s=e.rv tt r.gen/\_:=h1
  obtain ⟨hss,cells,k1,k2,k3⟩:=hR.hp.rows tt r hr
  have hnl:news.length=ys.length*m:=by rw [hy2.length,q6b ys hy1]
  have hlen:r.xs.length+ys.length<=140737488355328:=Nat.le_trans (Nat.le_mul_of_pos_right _ (by omega)) hc'
  subst hrE
  obtain ⟨v',w',g1,g2,g3,g4,g5⟩:=q6s (P:=P) w F.w0.heap.size t o.type r.E i z m bytes hu hi hz hm hby (by omega) (by omega) (e.rv tt r.gen) r.xs.length cells (by rw [<-hrm];exact (q2c hz4).1 k1) (a.eval x) ys.length news hy4 hnl hy3 (by unfold maxLen;omega) hc' hR.hp.sizeLe
  obtain ⟨hf,hh⟩:=hR.hp.rowNext (w':=w') tt { r with gen:=r.gen+1,xs:=r.xs++ys } (e.rv tt r.gen) v' (cells++news)
   (Or.inl ⟨r,hr,rfl,rfl,fun hw=>⟨hw,Nat.mul_le_mul_right _ (by rw [List.length_append];omega)⟩,Or.inr rfl⟩)
   (fun y hy=>by
    rcases List.mem_append.1 hy with hy|hy
    ·exact hss y hy
    ·exact (hy1 y hy).trans hrm.symm)
   (by show q6v w' _ r.E r.sz v' (r.xs++ys).length _;rw [List.length_append,hrm];exact (q2c hz4).2 g2) g3
   (fun r2 hr2 _ gg oo hg ho=>by rw [hr] at hr2;cases hr2;exact g4 gg oo hg (by rw [<-hrm];exact ho)) g5
   (by rw [List.flatten_append];exact k2.append hy2) (fun u hu=>by
    rcases List.mem_append.1 hu with hu|hu
    ·exact k3 u hu
    ·exact hy3 u hu) (fun v0 h0=>absurd h0 (F.r0lt htt v0))
  refine ⟨v',w',_,.inl ?_,hf,hh,⟨⟨_,q0n _ _ _,Nat.le_refl _⟩,(q0t _ _ _ _).symm,j4p ((q2c hz4).2 g2)⟩⟩
  simp [execOp,ho,resolve,invoke,builtin,h5,g1]
 ·rename_i hs
  split at h
  case h_2=>cases h
  rename_i d hd
  split at h
  case h_2=>cases h
  rename_i hr
  simp only [Option.some.injEq] at h
  subst h
  intro e a w hR hc
  have hc':ys.length*bytes<=140737488355328:=hc
  obtain ⟨hy1,news,hy2,hy3,hy4⟩:=jer hR hys
  have h1:=hR.opnd s
  rw [hs] at h1
  have h5:=q07 h1
  have hnl:news.length=ys.length*m:=by rw [hy2.length,q6b ys hy1]
  have hlen:ys.length<=140737488355328:=Nat.le_trans (Nat.le_mul_of_pos_right _ (by omega)) hc'
  obtain ⟨v',w',g1,g2,g3,g4,g5⟩:=q6s (P:=P) w F.w0.heap.size t o.type el i z m bytes hu hi hz hm hby (by omega) (by omega) (.slice none 0 0) 0 [] (World.ownsRow_nil _ _ _ _) (a.eval x) ys.length news hy4 hnl hy3 (by unfold maxLen;omega) (by rw [Nat.zero_add];exact hc') hR.hp.sizeLe
  rw [Nat.zero_add,List.nil_append] at g2
  obtain ⟨hf,hh⟩:=hR.hp.rowNext (w':=w') d ⟨0,el,m,true,ys⟩ (.slice none 0 0) v' news (Or.inr ⟨hr,rfl⟩) hy1 ((q2c hz4).2 g2) g3
   (fun r2 hr2=>by rw [hr] at hr2;cases hr2) g5 hy2 hy3 (fun v0 h0=>absurd h0 (F.r0n (hdst d hd) v0))
  refine ⟨v',w',_,.inl ?_,hf,hh,⟨⟨_,q0n _ _ _,Nat.le_refl _⟩,(q0t _ _ _ _).symm,j4p ((q2c hz4).2 g2)⟩⟩
  simp [execOp,ho,resolve,invoke,builtin,h5,g1]
 ·cases h
def qng (op:BinOp) (k:IntKind) (x y:Int):Option (Prop×Value):=match op with
 | .add=>some (True,.int k (k.wrap (x+y)))
 | .sub=>some (True,.int k (k.wrap (x - y)))
 | .mul=>some (True,.int k (k.wrap (x*y)))
 | .quo=>some (y≠0,.int k (k.wrap (x.tdiv y)))
 | .rem=>some (y≠0,.int k (x.tmod y))
 | .and=>some (True,.int k (k.wrap (BitVec.ofInt k.bits x &&& BitVec.ofInt k.bits y).toNat))
 | .or=>some (True,.int k (k.wrap (BitVec.ofInt k.bits x ||| BitVec.ofInt k.bits y).toNat))
 | .xor=>some (True,.int k (k.wrap (BitVec.ofInt k.bits x ^^^ BitVec.ofInt k.bits y).toNat))
 | .eql=>some (True,.bool (decide (x=y)))
 | .neq=>some (True,.bool (!decide (x=y)))
 | .lss=>some (True,.bool (decide (x<y)))
 | .leq=>some (True,.bool (decide (x<=y)))
 | .gtr=>some (True,.bool (decide (y<x)))
 | .geq=>some (True,.bool (decide (y<=x)))
 | _=>none
theorem j87 {op:BinOp} {T:TypeId} {k:IntKind} {x y:Int} {c:Prop} {v:Value} (h:qng op k x y=some (c,v)) (hc:c) (w:World):(binOp op T (.int k x) (.int k y)).run P w = .ok v w:=by
 cases op<;>simp only [qng,Option.some.injEq,Prod.mk.injEq,reduceCtorEq] at h<;>obtain ⟨rfl,rfl⟩:=h <;>
  first
   | rfl
   | (simp [binOp,Op.intArith,Op.intDiv,Op.intBits,Op.intCmp,hc];done)
   | (simp only [binOp,ne_eq,not_true_eq_false,if_false,Op.intCmp,Sem.run_pure];first|rfl|(congr 2;exact Bool.eq_iff_iff.2 (by simp)))
theorem qyf {x y:ByteArray} : (x.toList==y.toList)=decide (x=y):=by
 rw [Bool.eq_iff_iff]
 simp only [beq_iff_eq,decide_eq_true_eq]
 constructor
 ·intro h
  have hx : ∀z:ByteArray,z.toList=z.data.toList:=fun z=>ByteArray.toList_eq ..
  rw [hx,hx] at h
  cases x;cases y
  simp only [ByteArray.mk.injEq]
  exact Array.toList_inj.1 h
 ·intro h;rw [h]
end Go.Proofs.YtlkpgcifpnppeaaGreatDoor.AM
