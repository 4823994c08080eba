
import Derived.Test.YtggoebaobojmjaaGreatDoorBp9
import Derived.Lib.SlTrimSet
import Derived.Test.YtggoebaobojmjaaGreatDoorBp11
import Derived.Shelf.Strings.SlTrimAscii
namespace Go.Proofs.YtggoebaobojmjaaGreatDoor.AM
open Go.RowKit
set_option linter.unusedVariables false
set_option linter.unusedSimpArgs false
def qqe (c:UInt8):Bool:=jiq c||decide (c.toNat=95)||decide (c.toNat=46)
def qep (s:List UInt8):Bool:=!decide (s = [])&&(!decide (s = [46])&&(!decide (s = [46,46])&&s.all qqe))
def qe3 (s:List UInt8):Bool:=decide (s.length<=60)&&(spl 47 [] s).all qep
def q1f (w:List UInt8):Bool:=decide (w.head? = some 118)&&q2y (w.drop 1)
def anyS (s:List UInt8):Bool:=(spl 47 [] s).any q1f
def q85 (c:UInt8):List UInt8->Int
 | []=>-1
 | b::r=>if b=c then (r.length:Int) else q85 c r
def q93 (c:UInt8) (s:List UInt8):Int:=q85 c s.reverse
theorem jc6 (c:UInt8) : ∀l,-1<=q85 c l/\q85 c l<(l.length:Int)
 | []=>by simp [q85]
 | b::r=>by
  have:=jc6 c r
  rw [q85];split
  ·simp;omega
  ·simp;omega
theorem jbx (c:UInt8) (s:List UInt8) : -1<=q93 c s/\q93 c s<(s.length:Int):=by
 have:=jc6 c s.reverse;unfold q93;simpa using this
theorem qwo (c:UInt8) : ∀l,c ∉ l->q85 c l = -1
 | [],_=>rfl
 | b::r,h=>by
  have h1:b≠c:=fun e=>h (by simp [e])
  rw [q85,if_neg h1,qwo c r (fun e=>h (by simp [e]))]
theorem j4t (c:UInt8) : ∀(y x:List UInt8),c ∉ y->q85 c (y++c::x)=(x.length:Int)
 | [],x,_=>by simp [q85]
 | b::y,x,h=>by
  have h1:b≠c:=fun e=>h (by simp [e])
  rw [List.cons_append,q85,if_neg h1,j4t c y x (fun e=>h (by simp [e]))]
theorem jis {c:UInt8} {s:List UInt8} (h:c ∉ s):q93 c s = -1:=qwo c _ (by simpa using h)
theorem jpe {c:UInt8} {x y:List UInt8} (h:c ∉ y):q93 c (x++c::y)=(x.length:Int):=by
 have:=j4t c y.reverse x.reverse (by simpa using h)
 unfold q93
 simpa using this
def q2a (s:List UInt8):List UInt8:=s.take (q93 47 s).toNat
def q20 (s:List UInt8):List UInt8:=s.drop (q93 47 s+1).toNat
theorem jbu (c:UInt8) : ∀s:List UInt8,c ∉ s \/ ∃ x y,s=x++c::y/\c ∉ y
 | []=>Or.inl (by simp)
 | b::s=>by
  rcases jbu c s with h|⟨x,y,rfl,h⟩
  ·by_cases hb:b=c
   ·subst hb;exact Or.inr ⟨[],s,rfl,h⟩
   ·exact Or.inl (by simp [h,Ne.symm hb])
  ·exact Or.inr ⟨b::x,y,rfl,h⟩
theorem j2m {s:List UInt8} (h:47 ∉ s):q2a s = []/\q20 s=s:=by
 unfold q2a q20;rw [jis h];exact ⟨rfl,rfl⟩
theorem jch {x y:List UInt8} (h:47 ∉ y):q2a (x++47::y)=x/\q20 (x++47::y)=y:=by
 unfold q2a q20;rw [jpe h]
 constructor
 ·simp
 ·rw [show (((x.length:Nat):Int)+1).toNat=x.length+1 from by omega];simp
theorem j8t (c:UInt8) : ∀(x cur y:List UInt8),spl c cur (x++c::y)=spl c cur x++spl c [] y
 | [],cur,y=>by simp [spl]
 | b::x,cur,y=>by
  rw [List.cons_append,spl,spl]
  split
  ·rw [j8t c x];rfl
  ·rw [j8t c x]
theorem jht (s:List UInt8):(47 ∉ s/\q2a s = []/\q20 s=s/\spl 47 [] s = [s])\/(s=q2a s++47::q20 s/\47 ∉ q20 s/\spl 47 [] s=spl 47 [] (q2a s) ++ [q20 s]):=by
 rcases jbu 47 s with h|⟨x,y,rfl,h⟩
 ·exact Or.inl ⟨h,(j2m h).1,(j2m h).2,j3q 47 s h⟩
 ·refine Or.inr ?_
  rw [(jch h).1,(jch h).2]
  exact ⟨rfl,h,by rw [j8t,j3q 47 y h]⟩
abbrev jhn:List UInt8:=[48,49,50,51,52,53,54,55,56,57]
theorem jrx (c:UInt8):jhn.contains c=q1n c:=by
 have h : ∀k:Fin 256,jhn.contains (UInt8.ofNat k.val)=q1n (UInt8.ofNat k.val):=by decide +kernel
 have h1:=h ⟨c.toNat,c.toNat_lt⟩
 simpa using h1
theorem dropWhile_nil (p:UInt8->Bool) : ∀l:List UInt8,l.dropWhile p = []↔l.all p=true
 | []=>by simp
 | b::l=>by
  rw [List.dropWhile_cons]
  cases h:p b with
  | true=>simp [h,dropWhile_nil p l]
  | false=>simp [h]
theorem qi5 {p:UInt8->Bool} {c:UInt8} : ∀{l:List UInt8},c∈l->p c=false->c∈l.dropWhile p
 | b::l,h,hp=>by
  rw [List.dropWhile_cons]
  rcases List.mem_cons.1 h with rfl|h
  ·simp [hp]
  ·cases hb:p b with
   | true=>simpa using qi5 h hp
   | false=>simp [h]
theorem jt6 (s:List UInt8):decide (Lib.trimS s jhn = [])=s.all q1n:=by
 have he:(fun c=>jhn.contains c)=q1n:=funext jrx
 unfold Lib.trimS Lib.trimRightS Lib.trimLeftS
 rw [he]
 cases h:s.all q1n with
 | true =>
  have h2:s.reverse.all q1n=true:=by rw [List.all_reverse];exact h
  rw [(dropWhile_nil q1n s.reverse).2 h2];simp
 | false =>
  rw [decide_eq_false_iff_not,dropWhile_nil]
  intro hc
  have h3 : ∃ c,c∈s/\q1n c=false:=by
   have:=List.all_eq_false.1 h
   obtain ⟨c,hc,hn⟩:=this
   exact ⟨c,hc,by simpa using hn⟩
  obtain ⟨c,hm,hn⟩:=h3
  have h4:c∈(s.reverse.dropWhile q1n).reverse:=by simpa using qi5 (l:=s.reverse) (by simpa using hm) hn
  have:=List.all_eq_true.1 hc c h4
  rw [hn] at this;cases this
def numOf (s:List UInt8):Int:=match Lib.atoiAll s with
 | .ok v=>v
 | .range=>Lib.atoiSat s
 | _=>0
def qv1 (s:List UInt8):Bool:=match Lib.atoiAll s with
 | .ok v=>decide (2<=v)&&(decide (v<=999999999)&&decide (s=Lib.itoa v))
 | _=>false
theorem jjc {n:Int} (h0:2<=n) (h1:n<=999999999):qv1 (Lib.itoa n)=true/\numOf (Lib.itoa n)=n:=by
 unfold qv1 numOf;rw [jnv (by omega) h1];simp [h0,h1]
theorem j6f {s:List UInt8} (h:qv1 s=true):2<=numOf s/\numOf s<=999999999/\s=Lib.itoa (numOf s):=by
 unfold qv1 at h;unfold numOf
 cases e:Lib.atoiAll s with
 | ok v=>rw [e] at h;simpa using h
 | range=>rw [e] at h;cases h
 | «syntax»=>rw [e] at h;cases h
def okS (p:List UInt8):Bool:=qe3 p&&(!anyS (q2a p)&&(!q1f (q20 p)||(qv1 ((q20 p).drop 1) && !decide (q2a p = []))))
def q3q (p:List UInt8):List UInt8×(Int×Bool):=if okS p then (if q1f (q20 p) then (q2a p,(numOf ((q20 p).drop 1),true)) else (p,(0,true))) else ([],(0,false))
theorem jg5 {s:List UInt8} (h:qe3 s=true):s.length<=60/\(spl 47 [] s).all qep=true:=by
 unfold qe3 at h;simpa using h
theorem jni {p:List UInt8} (h:okS p=true):qe3 p=true/\anyS (q2a p)=false/\(q1f (q20 p)=true->qv1 ((q20 p).drop 1)=true/\q2a p ≠ []):=by
 unfold okS at h
 simp only [Bool.and_eq_true,Bool.or_eq_true,Bool.not_eq_true',decide_eq_false_iff_not] at h
 refine ⟨h.1,h.2.1,fun ht=>?_⟩
 rcases h.2.2 with h3|h3
 ·rw [ht] at h3;cases h3
 ·exact h3
end Go.Proofs.YtggoebaobojmjaaGreatDoor.AM
namespace Go.Proofs
open Go.RowKit Go.Shelf Go.Lib
shelf_lay Lays.n160 Nm 160 at Tryz as Tryz.laysTrim
set_option linter.unusedVariables false
set_option linter.unusedSimpArgs false
namespace YtggoebaobojmjaaGreatDoor.AM
def qs4 (s cs:List UInt8):Option (List UInt8):=if cs=jhn/\s.length<=1000000 then some (Lib.trimS s jhn) else none
def jcs:FC:={ f:=93,args:=[jfg,jfg],res:=jfg,F:=fun p=>qs4 p.1 p.2 }
theorem jsq:q0f Inv Tryz.prog jcs:=fun G hG=>⟨⟨by kernel_rfl,fun a r h=>by
 obtain ⟨s,cs⟩:=a
 have h':qs4 s cs=some r:=h
 unfold qs4 at h'
 split at h'
 case isFalse=>cases h'
 rename_i hc
 obtain ⟨rfl,hl⟩:=hc
 have hr:Lib.trimS s jhn=r:=Option.some.inj h'
 intro Pc w vs hg hlt hv
 obtain ⟨l⟩:=vs
 match l,hv with
 | [x,y],⟨h1,h2,_⟩ =>
  obtain rfl:x = .string (ba s):=q07 h1
  obtain rfl:y = .string (ba jhn):=q07 h2
  have e1:(ba s).data.toList=s:=by simp [ba]
  have e2:(ba jhn).data.toList=jhn:=by simp [ba]
  have hh:=Any.strings_Trim_laid Tryz.laysTrim (by kernel_rfl) (ba s) (ba jhn) w (by rw [q3h];omega) (by rw [q3h];decide) (by rw [e2];exact ascii_of_all (by decide))
  rw [e1,e2,hr] at hh
  refine hh.mono ?_
  rintro e w' ⟨rfl,hb⟩
  exact qff rfl hb (q06 (.string (ba r)))⟩,rfl⟩
end YtggoebaobojmjaaGreatDoor.AM
end Go.Proofs
namespace Go.Proofs.YtggoebaobojmjaaGreatDoor.AM
open Go.RowKit
set_option linter.unusedVariables false
set_option maxRecDepth 20000
@[reducible] def qi2:SSt:=⟨[(0,.one (.c (.d .str))),(1,.one (.c (.d (.int .u8)))),(5,.one (.c (.d (.int .i64))))],[],[]⟩
@[reducible] def qac:List (Exit×SSt):=[(.ret,⟨[(4,.one (.c (.d (.int .i64))))],[],[]⟩),(.exit 0,⟨[],[],[]⟩)]
def qod (n:Nat) (rec:(List UInt8)->Int->Int->Option (((Int×(Unit))×(Unit)×(Unit))⊕((Unit)×(Unit)×(Unit)))) (a1:List UInt8) (a2:Int) (a3:Int):Option (((Int×(Unit))×(Unit)×(Unit))⊕((Unit)×(Unit)×(Unit))) :=
 (bif decide ((0:Int)<=a3) then (sAt a1 a3).bind fun (c2:Int)=>(bif decide (c2=a2) then some (Sum.inl ((a3,()),((),()))) else q0d (IntKind.wrap .i64 (a3 - (1:Int))) fun (n3:Int)=>rec a1 a2 n3) else some (Sum.inr (((),((),())))))
def qys (n:Nat) (rec:pSt qi2->Option (q0b qac)) (p:pSt qi2):Option (q0b qac):=qod n (fun a1 a2 a3=>rec ((a1,(a2,(a3,()))),((),()))) p.1.1 p.1.2.1 p.1.2.2.1
def qa7 (n m:Nat) (a1:List UInt8) (a2:Int) (a3:Int):Option (((Int×(Unit))×(Unit)×(Unit))⊕((Unit)×(Unit)×(Unit))):=q0c (qys n) m ((a1,(a2,(a3,()))),((),()))
theorem qb4 (n m:Nat) (a1:List UInt8) (a2:Int) (a3:Int):qa7 n (m+1) a1 a2 a3=qod n (fun a1 a2 a3=>qa7 n m a1 a2 a3) a1 a2 a3:=rfl
def jev (n:Nat):LC:={ sh:=qi2,outs:=qac,F:=q0c (qys n) n }
def qs6 (n:Nat):List LC:=[jev n]
def qza (n:Nat) (a1:List UInt8) (a2:Int):Option (Int) :=
 q0d (IntKind.wrap .i64 (((List.length a1:Nat):Int) - (1:Int))) fun (n1:Int)=>(qa7 n n a1 a2 n1).bind fun (o4:((Int×(Unit))×(Unit)×(Unit))⊕((Unit)×(Unit)×(Unit)))=>Sum.elim (fun (q5:(Int×(Unit))×(Unit)×(Unit))=>some q5.1.1) (fun (q6:(Unit)×(Unit)×(Unit))=>some (-1:Int)) o4
def qh7 (n:Nat):FC:={ f:=112,args:=[.one (.c (.d .str)),.one (.c (.d (.int .u8)))],res:=.one (.c (.d (.int .i64))),F:=fun p=>qza n p.1 p.2 }
def qz8 (n:Nat):List FC:=[]
theorem qxz (n:Nat) {G:World->Prop} (hG:Know Inv G) : ∀c∈qz8 n,q0z Tryz.prog G c/\q0a c.args=true:=(fun _ h=>by cases h)
def qzs:q09:=[]
theorem jdf:drB qzs (q00 Tryz.f112)=true:=by kernel_rfl
theorem jou (n:Nat) : ∀rec p,qys n rec p=round Tryz.prog 19 (qz8 n) (qs6 n) qzs 1 qi2 qac (q01 0 0 (q00 Tryz.f112)) rec p:=by intro rec p;kernel_rfl
theorem jga (n:Nat) {F:Fr} (hF:F.n=19) (hK:Know Inv F.G):q57 Tryz.prog F (jev n) (q01 0 0 (q00 Tryz.f112)) :=
 q0e hF (by kernel_rfl) (qxz n hK) (jou n) (fuel:=n) (fun _=>rfl) (q02 fun j L h1 h2 h3=>absurd h2 (Nat.not_lt.2 (Nat.le_trans (by decide +kernel) h1))) (q0j jdf)
theorem jta (n:Nat) : ∀a,(qh7 n).F a=main Tryz.prog 19 (qz8 n) (qs6 n) qzs (q00 Tryz.f112) [.tmp 4] (qh7 n).args (qh7 n).res a:=by intro a;kernel_rfl
theorem jrs (n:Nat):q0f Inv Tryz.prog (qh7 n):=fun G hG=>⟨⟨by kernel_rfl,fun a r h=>q05 (c:=q00 Tryz.f112) Tryz.func112 (by kernel_rfl) (by kernel_rfl) (Nat.le_of_ble_eq_true (by kernel_rfl)) hG.st (by kernel_rfl) (rs:=[.tmp 4]) (by kernel_rfl) (qxz n hG) (lts:=qs6 n) (fun F hF hFG=>have hK:Know Inv F.G:=hFG ▸ hG;(q02 (c:=(q00 Tryz.f112)) (fun j L h1 h2 h3=>by
  have h2':j<1:=Nat.lt_of_lt_of_le h2 (by decide +kernel)
  match j,h1,h2',h3 with
  | 0,_,_,h3=>obtain rfl:=Option.some.inj h3;exact (show q01 0 0 (q00 Tryz.f112)=q01 0 0 (q00 Tryz.f112) by kernel_rfl) ▸ jga n hF hK
  | j+1,_,h2',_=>exact absurd h2' (by omega)))) jdf ((jta n a).symm.trans h)⟩,rfl⟩
def j52 (n:Nat):List LC:=[]
def qz5 (n:Nat) (a1:List UInt8) (a2:Int):Option (Int) :=
 (qza n a1 a2).bind fun (r1:Int)=>some r1
def qga (n:Nat):FC:={ f:=89,args:=[.one (.c (.d .str)),.one (.c (.d (.int .u8)))],res:=.one (.c (.d (.int .i64))),F:=fun p=>qz5 n p.1 p.2 }
def jfa (n:Nat):List FC:=[qh7 n]
theorem ji9 (n:Nat) {G:World->Prop} (hG:Know Inv G) : ∀c∈jfa n,q0z Tryz.prog G c/\q0a c.args=true:=List.forall_mem_cons.2 ⟨jrs n G hG,(fun _ h=>by cases h)⟩
def jep:q09:=[]
theorem jr6:drB jep (q00 Tryz.f89)=true:=by kernel_rfl
theorem jri (n:Nat) : ∀a,(qga n).F a=main Tryz.prog 8 (jfa n) (j52 n) jep (q00 Tryz.f89) [.tmp 4] (qga n).args (qga n).res a:=by intro a;kernel_rfl
theorem jf6 (n:Nat):q0f Inv Tryz.prog (qga n):=fun G hG=>⟨⟨by kernel_rfl,fun a r h=>q05 (c:=q00 Tryz.f89) Tryz.func89 (by kernel_rfl) (by kernel_rfl) (Nat.le_of_ble_eq_true (by kernel_rfl)) hG.st (by kernel_rfl) (rs:=[.tmp 4]) (by kernel_rfl) (ji9 n hG) (lts:=j52 n) (fun F hF hFG=>have hK:Know Inv F.G:=hFG ▸ hG;(q02 fun j L h1 h2 h3=>absurd h2 (Nat.not_lt.2 (Nat.le_trans (by decide +kernel) h1)))) jr6 ((jri n a).symm.trans h)⟩,rfl⟩
def qeh (n:Nat):List LC:=[]
def qbe (n:Nat) (a1:List UInt8) (a2:List UInt8):Option ((List UInt8)×(Bool)) :=
 (q51 n a1 a2).bind fun (r1:Bool)=>(bif !r1 then some (a1,false) else (qv2 a1 ((List.length a2:Nat):Int) ((List.length a1:Nat):Int)).bind fun (s2:List UInt8)=>some (s2,true))
def q3l (n:Nat):FC:={ f:=115,args:=[.one (.c (.d .str)),.one (.c (.d .str))],res:=.tup [.c (.d .str),.c (.d .bool)],F:=fun p=>qbe n p.1 p.2 }
def qhi (n:Nat):List FC:=[q2g n]
theorem qqu (n:Nat) {G:World->Prop} (hG:Know Inv G) : ∀c∈qhi n,q0z Tryz.prog G c/\q0a c.args=true:=List.forall_mem_cons.2 ⟨qif n G hG,(fun _ h=>by cases h)⟩
def qhl:q09:=[]
theorem qyh:drB qhl (q00 Tryz.f115)=true:=by kernel_rfl
theorem j16 (n:Nat) : ∀a,(q3l n).F a=main Tryz.prog 15 (qhi n) (qeh n) qhl (q00 Tryz.f115) [.tmp 4,.tmp 5] (q3l n).args (q3l n).res a:=by intro a;kernel_rfl
theorem qyn (n:Nat):q0f Inv Tryz.prog (q3l n):=fun G hG=>⟨⟨by kernel_rfl,fun a r h=>q05 (c:=q00 Tryz.f115) Tryz.func115 (by kernel_rfl) (by kernel_rfl) (Nat.le_of_ble_eq_true (by kernel_rfl)) hG.st (by kernel_rfl) (rs:=[.tmp 4,.tmp 5]) (by kernel_rfl) (qqu n hG) (lts:=qeh n) (fun F hF hFG=>have hK:Know Inv F.G:=hFG ▸ hG;(q02 fun j L h1 h2 h3=>absurd h2 (Nat.not_lt.2 (Nat.le_trans (by decide +kernel) h1)))) qyh ((j16 n a).symm.trans h)⟩,rfl⟩
def qip (n:Nat):List LC:=[]
def qa8 (n:Nat) (a1:List UInt8) (a2:List UInt8):Option ((List UInt8)×(Bool)) :=
 (qbe n a1 a2).bind fun (r1:(List UInt8)×(Bool))=>some r1
def q4t (n:Nat):FC:={ f:=92,args:=[.one (.c (.d .str)),.one (.c (.d .str))],res:=.tup [.c (.d .str),.c (.d .bool)],F:=fun p=>qa8 n p.1 p.2 }
def qmc (n:Nat):List FC:=[q3l n]
theorem quc (n:Nat) {G:World->Prop} (hG:Know Inv G) : ∀c∈qmc n,q0z Tryz.prog G c/\q0a c.args=true:=List.forall_mem_cons.2 ⟨qyn n G hG,(fun _ h=>by cases h)⟩
def qnb:q09:=[]
theorem j4h:drB qnb (q00 Tryz.f92)=true:=by kernel_rfl
theorem j30 (n:Nat) : ∀a,(q4t n).F a=main Tryz.prog 11 (qmc n) (qip n) qnb (q00 Tryz.f92) [.tmp 4,.tmp 5] (q4t n).args (q4t n).res a:=by intro a;kernel_rfl
theorem j1m (n:Nat):q0f Inv Tryz.prog (q4t n):=fun G hG=>⟨⟨by kernel_rfl,fun a r h=>q05 (c:=q00 Tryz.f92) Tryz.func92 (by kernel_rfl) (by kernel_rfl) (Nat.le_of_ble_eq_true (by kernel_rfl)) hG.st (by kernel_rfl) (rs:=[.tmp 4,.tmp 5]) (by kernel_rfl) (quc n hG) (lts:=qip n) (fun F hF hFG=>have hK:Know Inv F.G:=hFG ▸ hG;(q02 fun j L h1 h2 h3=>absurd h2 (Nat.not_lt.2 (Nat.le_trans (by decide +kernel) h1)))) j4h ((j30 n a).symm.trans h)⟩,rfl⟩
def qxi (n:Nat):List LC:=[]
def qiv (n:Nat) (a1:List UInt8):Option (Bool) :=
 (qa8 n a1 ([118]:List UInt8)).bind fun (r1:(List UInt8)×(Bool))=>(bif r1.2 then (bif !decide (r1.1=([]:List UInt8)) then (qs4 r1.1 ([48,49,50,51,52,53,54,55,56,57]:List UInt8)).bind fun (r2:List UInt8)=>some (decide (r2=([]:List UInt8))) else some false) else some false)
def qcf (n:Nat):FC:={ f:=59,args:=[.one (.c (.d .str))],res:=.one (.c (.d .bool)),F:=fun p=>qiv n p }
def j35 (n:Nat):List FC:=[q4t n,jcs]
theorem j9l (n:Nat) {G:World->Prop} (hG:Know Inv G) : ∀c∈j35 n,q0z Tryz.prog G c/\q0a c.args=true:=List.forall_mem_cons.2 ⟨j1m n G hG,List.forall_mem_cons.2 ⟨jsq G hG,(fun _ h=>by cases h)⟩⟩
def j3l:q09:=[]
theorem jnc:drB j3l (q00 Tryz.f59)=true:=by kernel_rfl
theorem jnf (n:Nat) : ∀a,(qcf n).F a=main Tryz.prog 20 (j35 n) (qxi n) j3l (q00 Tryz.f59) [.tmp 2] (qcf n).args (qcf n).res a:=by intro a;kernel_rfl
theorem j1q (n:Nat):q0f Inv Tryz.prog (qcf n):=fun G hG=>⟨⟨by kernel_rfl,fun a r h=>q05 (c:=q00 Tryz.f59) Tryz.func59 (by kernel_rfl) (by kernel_rfl) (Nat.le_of_ble_eq_true (by kernel_rfl)) hG.st (by kernel_rfl) (rs:=[.tmp 2]) (by kernel_rfl) (j9l n hG) (lts:=qxi n) (fun F hF hFG=>have hK:Know Inv F.G:=hFG ▸ hG;(q02 fun j L h1 h2 h3=>absurd h2 (Nat.not_lt.2 (Nat.le_trans (by decide +kernel) h1)))) jnc ((jnf n a).symm.trans h)⟩,rfl⟩
end Go.Proofs.YtggoebaobojmjaaGreatDoor.AM
namespace Go.Proofs.YtggoebaobojmjaaGreatDoor.AM
open Go.RowKit
set_option linter.unusedVariables false
set_option maxRecDepth 20000
def j59 (n:Nat):List LC:=[]
def j0e (n:Nat) (a1:Int):Option (Bool) :=
 (bif decide ((97:Int)<=a1) then (bif decide (a1<=(122:Int)) then (bif decide (a1<=(122:Int)) then some true else (bif decide (a1=(45:Int)) then some true else (bif decide (a1=(95:Int)) then some true else some (decide (a1=(46:Int)))))) else (bif decide ((65:Int)<=a1) then (bif decide (a1<=(90:Int)) then (bif decide (a1<=(90:Int)) then some true else (bif decide (a1=(45:Int)) then some true else (bif decide (a1=(95:Int)) then some true else some (decide (a1=(46:Int)))))) else (bif decide ((48:Int)<=a1) then (bif decide (a1<=(57:Int)) then some true else (bif decide (a1=(45:Int)) then some true else (bif decide (a1=(95:Int)) then some true else some (decide (a1=(46:Int)))))) else (bif decide (a1=(45:Int)) then some true else (bif decide (a1=(95:Int)) then some true else some (decide (a1=(46:Int))))))) else (bif decide ((48:Int)<=a1) then (bif decide (a1<=(57:Int)) then some true else (bif decide (a1=(45:Int)) then some true else (bif decide (a1=(95:Int)) then some true else some (decide (a1=(46:Int)))))) else (bif decide (a1=(45:Int)) then some true else (bif decide (a1=(95:Int)) then some true else some (decide (a1=(46:Int)))))))) else (bif decide ((65:Int)<=a1) then (bif decide (a1<=(90:Int)) then (bif decide (a1<=(90:Int)) then some true else (bif decide (a1=(45:Int)) then some true else (bif decide (a1=(95:Int)) then some true else some (decide (a1=(46:Int)))))) else (bif decide ((48:Int)<=a1) then (bif decide (a1<=(57:Int)) then some true else (bif decide (a1=(45:Int)) then some true else (bif decide (a1=(95:Int)) then some true else some (decide (a1=(46:Int)))))) else (bif decide (a1=(45:Int)) then some true else (bif decide (a1=(95:Int)) then some true else some (decide (a1=(46:Int))))))) else (bif decide ((48:Int)<=a1) then (bif decide (a1<=(57:Int)) then some true else (bif decide (a1=(45:Int)) then some true else (bif decide (a1=(95:Int)) then some true else some (decide (a1=(46:Int)))))) else (bif decide (a1=(45:Int)) then some true else (bif decide (a1=(95:Int)) then some true else some (decide (a1=(46:Int))))))))
def qg4 (n:Nat):FC:={ f:=114,args:=[.one (.c (.d (.int .u8)))],res:=.one (.c (.d .bool)),F:=fun p=>j0e n p }
def jdy (n:Nat):List FC:=[]
theorem jg3 (n:Nat) {G:World->Prop} (hG:Know Inv G) : ∀c∈jdy n,q0z Tryz.prog G c/\q0a c.args=true:=(fun _ h=>by cases h)
def jff:q09:=[]
theorem jr7:drB jff (q00 Tryz.f114)=true:=by kernel_rfl
theorem jsl (n:Nat) : ∀a,(qg4 n).F a=main Tryz.prog 32 (jdy n) (j59 n) jff (q00 Tryz.f114) [.tmp 2] (qg4 n).args (qg4 n).res a:=by intro a;kernel_rfl
theorem js0 (n:Nat):q0f Inv Tryz.prog (qg4 n):=fun G hG=>⟨⟨by kernel_rfl,fun a r h=>q05 (c:=q00 Tryz.f114) Tryz.func114 (by kernel_rfl) (by kernel_rfl) (Nat.le_of_ble_eq_true (by kernel_rfl)) hG.st (by kernel_rfl) (rs:=[.tmp 2]) (by kernel_rfl) (jg3 n hG) (lts:=j59 n) (fun F hF hFG=>have hK:Know Inv F.G:=hFG ▸ hG;(q02 fun j L h1 h2 h3=>absurd h2 (Nat.not_lt.2 (Nat.le_trans (by decide +kernel) h1)))) jr7 ((jsl n a).symm.trans h)⟩,rfl⟩
@[reducible] def qh5:SSt:=⟨[(0,.one (.c (.d .str))),(15,.one (.c (.d (.int .i64)))),(16,.one (.c (.d (.int .i64))))],[],[]⟩
@[reducible] def qa6:List (Exit×SSt):=[(.ret,⟨[(2,.one (.c (.d .bool)))],[],[]⟩),(.exit 0,⟨[],[],[]⟩)]
def qzx (n:Nat) (rec:(List UInt8)->Int->Int->Option (((Bool×(Unit))×(Unit)×(Unit))⊕((Unit)×(Unit)×(Unit)))) (a1:List UInt8) (a2:Int) (a3:Int):Option (((Bool×(Unit))×(Unit)×(Unit))⊕((Unit)×(Unit)×(Unit))) :=
 (bif decide (a3<a2) then (sAt a1 a3).bind fun (c1:Int)=>(j0e n c1).bind fun (r2:Bool)=>(bif !r2 then some (Sum.inl ((false,()),((),()))) else q0d (IntKind.wrap .i64 (a3+(1:Int))) fun (n3:Int)=>rec a1 a2 n3) else some (Sum.inr (((),((),())))))
def j0x (n:Nat) (rec:pSt qh5->Option (q0b qa6)) (p:pSt qh5):Option (q0b qa6):=qzx n (fun a1 a2 a3=>rec ((a1,(a2,(a3,()))),((),()))) p.1.1 p.1.2.1 p.1.2.2.1
def q9x (n m:Nat) (a1:List UInt8) (a2:Int) (a3:Int):Option (((Bool×(Unit))×(Unit)×(Unit))⊕((Unit)×(Unit)×(Unit))):=q0c (j0x n) m ((a1,(a2,(a3,()))),((),()))
theorem qnp (n m:Nat) (a1:List UInt8) (a2:Int) (a3:Int):q9x n (m+1) a1 a2 a3=qzx n (fun a1 a2 a3=>q9x n m a1 a2 a3) a1 a2 a3:=rfl
def jc0 (n:Nat):LC:={ sh:=qh5,outs:=qa6,F:=q0c (j0x n) n }
def qp8 (n:Nat):List LC:=[jc0 n]
def j88 (n:Nat) (a1:List UInt8):Option (Bool) :=
 (bif decide (a1=([]:List UInt8)) then some false else (bif decide (a1=([46]:List UInt8)) then some false else (bif decide (a1=([46,46]:List UInt8)) then some false else (q9x n n a1 ((List.length a1:Nat):Int) (0:Int)).bind fun (o4:((Bool×(Unit))×(Unit)×(Unit))⊕((Unit)×(Unit)×(Unit)))=>Sum.elim (fun (q5:(Bool×(Unit))×(Unit)×(Unit))=>some q5.1.1) (fun (q6:(Unit)×(Unit)×(Unit))=>some true) o4)))
def qou (n:Nat):FC:={ f:=91,args:=[.one (.c (.d .str))],res:=.one (.c (.d .bool)),F:=fun p=>j88 n p }
def qzz (n:Nat):List FC:=[qg4 n]
theorem qw5 (n:Nat) {G:World->Prop} (hG:Know Inv G) : ∀c∈qzz n,q0z Tryz.prog G c/\q0a c.args=true:=List.forall_mem_cons.2 ⟨js0 n G hG,(fun _ h=>by cases h)⟩
def j07:q09:=[]
theorem jcw:drB j07 (q00 Tryz.f91)=true:=by kernel_rfl
theorem jk1 (n:Nat) : ∀rec p,j0x n rec p=round Tryz.prog 25 (qzz n) (qp8 n) j07 1 qh5 qa6 (q01 0 0 (q00 Tryz.f91)) rec p:=by intro rec p;kernel_rfl
theorem jiz (n:Nat) {F:Fr} (hF:F.n=25) (hK:Know Inv F.G):q57 Tryz.prog F (jc0 n) (q01 0 0 (q00 Tryz.f91)) :=
 q0e hF (by kernel_rfl) (qw5 n hK) (jk1 n) (fuel:=n) (fun _=>rfl) (q02 fun j L h1 h2 h3=>absurd h2 (Nat.not_lt.2 (Nat.le_trans (by decide +kernel) h1))) (q0j jcw)
theorem jtc (n:Nat) : ∀a,(qou n).F a=main Tryz.prog 25 (qzz n) (qp8 n) j07 (q00 Tryz.f91) [.tmp 2] (qou n).args (qou n).res a:=by intro a;kernel_rfl
theorem jqc (n:Nat):q0f Inv Tryz.prog (qou n):=fun G hG=>⟨⟨by kernel_rfl,fun a r h=>q05 (c:=q00 Tryz.f91) Tryz.func91 (by kernel_rfl) (by kernel_rfl) (Nat.le_of_ble_eq_true (by kernel_rfl)) hG.st (by kernel_rfl) (rs:=[.tmp 2]) (by kernel_rfl) (qw5 n hG) (lts:=qp8 n) (fun F hF hFG=>have hK:Know Inv F.G:=hFG ▸ hG;(q02 (c:=(q00 Tryz.f91)) (fun j L h1 h2 h3=>by
  have h2':j<1:=Nat.lt_of_lt_of_le h2 (by decide +kernel)
  match j,h1,h2',h3 with
  | 0,_,_,h3=>obtain rfl:=Option.some.inj h3;exact (show q01 0 0 (q00 Tryz.f91)=q01 0 0 (q00 Tryz.f91) by kernel_rfl) ▸ jiz n hF hK
  | j+1,_,h2',_=>exact absurd h2' (by omega)))) jcw ((jtc n a).symm.trans h)⟩,rfl⟩
end Go.Proofs.YtggoebaobojmjaaGreatDoor.AM
namespace Go.Proofs.YtggoebaobojmjaaGreatDoor.AM
open Go.RowKit
set_option linter.unusedVariables false
set_option linter.unusedSimpArgs false
theorem jit (n:Nat) (c:UInt8):j0e n ((c.toNat:Nat):Int)=some (qqe c):=by
 have h : ∀k:Fin 256,j0e 0 ((k.val:Nat):Int)=some (qqe (UInt8.ofNat k.val)):=by decide +kernel
 have h1:=h ⟨c.toNat,c.toNat_lt⟩
 have e:UInt8.ofNat c.toNat=c:=by simp
 rw [e] at h1
 exact h1
theorem qx7 (n:Nat) (s:List UInt8) (hL:s.length<=1000000) : ∀m j:Nat,j<=s.length->s.length - j<m->q9x n m s ((s.length:Nat):Int) (j:Int)=some (if (s.drop j).all qqe=true then Sum.inr ((),((),())) else Sum.inl ((false,()),((),())))
 | 0,j,_,h=>absurd h (Nat.not_lt_zero _)
 | m+1,j,hj,h=>by
  rw [qnp]
  unfold qzx
  by_cases c0:j<s.length
  ·have c0':((j:Nat):Int)<((s.length:Nat):Int):=by omega
   have ih:=qx7 n s hL m (j+1) (by omega) (by omega)
   have hd:s.drop j=s[j]::s.drop (j+1):=(List.drop_eq_getElem_cons c0)
   simp only [c0',decide_true,cond_true,q6e c0,Option.bind_some,jit,q0d,q04 (show j<4611686018427387904 by omega),ih,hd,List.all_cons]
   cases qqe s[j]<;>simp
  ·have c0' : ¬ ((j:Nat):Int)<((s.length:Nat):Int):=by omega
   have:s.drop j = []:=List.drop_eq_nil_of_le (by omega)
   simp [c0',this]
theorem jft (n:Nat) (s:List UInt8) (hL:s.length<=1000000) (hn:s.length<n):j88 n s=some (qep s):=by
 unfold j88 qep
 have:=qx7 n s hL n 0 (Nat.zero_le _) (by omega)
 rw [show ((0:Nat):Int)=(0:Int) from rfl] at this
 rw [this,List.drop_zero]
 cases decide (s = [])<;>cases decide (s = [46])<;>cases decide (s = [46,46])<;>cases s.all qqe<;>rfl
end Go.Proofs.YtggoebaobojmjaaGreatDoor.AM
namespace Go.Proofs.YtggoebaobojmjaaGreatDoor.AM
open Go.RowKit
set_option linter.unusedVariables false
set_option linter.unusedSimpArgs false
theorem jtq {n:Int} (h:0<=n/\n<=999999999):(Lib.itoa n).length<=9:=by
 rw [qoz h.1];exact jo3 8 n.toNat (by omega)
theorem jme (s:List UInt8):(q3n s).length<=s.length:=by
 unfold q3n;split
 ·rw [List.length_drop];omega
 ·exact Nat.le_refl _
end Go.Proofs.YtggoebaobojmjaaGreatDoor.AM
namespace Go.Proofs.YtggoebaobojmjaaGreatDoor.AM
open Go.RowKit
set_option linter.unusedVariables false
set_option linter.unusedSimpArgs false
theorem qf3 (n m:Nat) (a1 a2 a3 i i' a5 a6 a7 x:Int) (a8 a9:List UInt8) (hx:q1a ([a1,a2,a3]:List Int) i=some x) (hi:i<3) (hw:IntKind.wrap .i64 (i+1)=i') :
  q4s n (m+1) a1 a2 a3 i a5 a6 a7 a8 a9=if j70 x=true then q4s n m a1 a2 a3 i' a5 a6 a7 a8 a9 else some (Sum.inl ((false,()),((),()))):=by
 rw [q8n]
 unfold qib j70
 simp only [hi,decide_true,cond_true,hx,Option.bind_some,q0d,hw]
 by_cases h1:x<0
 ·have : ¬ (0:Int)<=x:=by omega
  simp [h1,this]
 ·have h1':(0:Int)<=x:=by omega
  by_cases h2:999999999<x
  ·have : ¬ x<=999999999:=by omega
   simp [h1,h2,this]
  ·have:x<=999999999:=by omega
   simp [h1,h2,h1',this]
theorem q6k (n:Nat) (v:VD) (hn:4<=n):q7g n v=some (q0y v):=by
 obtain ⟨k,rfl⟩ : ∃ k,n=k+1+1+1+1:=⟨n - 4,by omega⟩
 obtain ⟨a,b,c,p,q⟩:=v
 unfold q7g
 rw [qf3 _ _ a b c 0 1 _ _ _ a _ _ rfl (by decide) rfl,qf3 _ _ a b c 1 2 _ _ _ b _ _ rfl (by decide) rfl,qf3 _ _ a b c 2 3 _ _ _ c _ _ rfl (by decide) rfl,q8n]
 unfold qib q0y qte ql5
 dsimp only
 cases j70 a with
 | false=>rfl
 | true=>cases j70 b with
  | false=>rfl
  | true=>cases j70 c with
   | false=>rfl
   | true =>
    simp only [if_true,Bool.true_and,show ¬ (3:Int)<3 from by decide,decide_false,cond_false,Option.bind_some,Sum.elim_inr]
    cases q6u q5d p<;>cases q6u q2d q<;>rfl
theorem jph (n:Nat) (s:List UInt8) (hs:s.length<=1000000):qc2 n s [118]=some (q3n s):=by
 unfold qc2 qag q51 q3n
 cases s with
 | nil=>rfl
 | cons b r =>
  have h1:((List.length ([118]:List UInt8):Nat):Int)<=((List.length (b::r):Nat):Int):=by simp;omega
  have h2:qv2 (b::r) (0:Int) ((List.length ([118]:List UInt8):Nat):Int)=some [b]:=sub_zero (b:=1) (by simp)
  have h3:qv2 (b::r) ((List.length ([118]:List UInt8):Nat):Int) ((List.length (b::r):Nat):Int)=some r:=by
   have:=sub_le (l:=b::r) (a:=1) (b:=(b::r).length) (by simp) (Nat.le_refl _)
   rw [show ((List.length ([118]:List UInt8):Nat):Int)=((1:Nat):Int) from rfl,this]
   simp
  simp only [h1,decide_true,cond_true,h2,Option.bind_some,List.head?_cons,Option.some.injEq,List.drop_succ_cons,List.drop_zero]
  by_cases hb:b=118
  ·simp only [hb,decide_true,cond_true,if_true] at h3 ⊢
   rw [h3];rfl
  ·have : ¬ [b]=([118]:List UInt8):=fun h=>hb (by simpa using h)
   simp [this,hb]
end Go.Proofs.YtggoebaobojmjaaGreatDoor.AM
namespace Go.Proofs.YtggoebaobojmjaaGreatDoor.AM
open Go.RowKit
set_option linter.unusedVariables false
set_option linter.unusedSimpArgs false
theorem qgw (s:List UInt8) (j:Nat) (h:j<s.length):(s.take (j+1)).reverse=s[j]::(s.take j).reverse:=by
 rw [List.take_succ_eq_append_getElem h];simp
theorem qww (n:Nat) (c:UInt8) (s:List UInt8) (hL:s.length<=1000000) : ∀m j:Nat,j<=s.length->j<m->qa7 n m s ((c.toNat:Nat):Int) ((j:Int) - 1)=some (if q85 c (s.take j).reverse = -1 then Sum.inr ((),((),())) else Sum.inl ((q85 c (s.take j).reverse,()),((),())))
 | 0,j,_,h=>absurd h (Nat.not_lt_zero _)
 | m+1,0,_,_=>by
  rw [qb4]
  unfold qod
  simp [q85]
 | m+1,j+1,hj,h=>by
  rw [qb4]
  unfold qod
  have e1:((j+1:Nat):Int) - 1=((j:Nat):Int):=by omega
  have ih:=qww n c s hL m j (by omega) (by omega)
  have w1:IntKind.wrap .i64 (((j:Nat):Int) - 1)=((j:Nat):Int) - 1:=wrap64 (by omega) (by omega)
  have c0:(0:Int)<=((j:Nat):Int):=by omega
  have d1:decide (((s[j].toNat:Nat):Int)=((c.toNat:Nat):Int))=decide (s[j]=c):=decide_eq_decide.2 ⟨fun h=>UInt8.toNat_inj.1 (by omega),fun h=>by rw [h]⟩
  rw [e1]
  simp only [c0,decide_true,cond_true,q6e (show j<s.length by omega),Option.bind_some,d1,q0d,w1,ih,qgw s j (by omega),q85]
  by_cases h0:s[j]=c
  ·have : ¬ (((s.take j).reverse.length:Nat):Int) = -1:=by omega
   have l1:(s.take j).reverse.length=j:=by simp;omega
   simp only [h0,decide_true,cond_true,if_true,this,if_false,l1]
   rw [if_neg (by omega)]
  ·simp [h0]
theorem ji0 (n:Nat) (c:UInt8) (s:List UInt8) (hL:s.length<=1000000) (hn:s.length<n):qza n s ((c.toNat:Nat):Int)=some (q93 c s):=by
 unfold qza
 have:=qww n c s hL n s.length (Nat.le_refl _) hn
 have w1:IntKind.wrap .i64 (((s.length:Nat):Int) - 1)=((s.length:Nat):Int) - 1:=wrap64 (by omega) (by omega)
 simp only [q0d,w1,this,List.take_length]
 unfold q93
 by_cases h:q85 c s.reverse = -1
 ·simp [h]
 ·simp [h]
theorem qvh (n:Nat) (s:List UInt8) (hL:s.length<=1000000) (hn:s.length<n):qz5 n s (47:Int)=some (q93 47 s):=by
 unfold qz5
 rw [show (47:Int)=(((47:UInt8).toNat:Nat):Int) from rfl,ji0 n 47 s hL hn];rfl
theorem jb3 (n:Nat) (s:List UInt8) (hs:s.length<=1000000):qa8 n s [118]=some (if s.head? = some 118 then (s.drop 1,true) else (s,false)):=by
 unfold qa8 qbe q51
 cases s with
 | nil=>rfl
 | cons b r =>
  have h1:((List.length ([118]:List UInt8):Nat):Int)<=((List.length (b::r):Nat):Int):=by simp;omega
  have h2:qv2 (b::r) (0:Int) ((List.length ([118]:List UInt8):Nat):Int)=some [b]:=sub_zero (b:=1) (by simp)
  have h3:qv2 (b::r) ((List.length ([118]:List UInt8):Nat):Int) ((List.length (b::r):Nat):Int)=some r:=by
   have:=sub_le (l:=b::r) (a:=1) (b:=(b::r).length) (by simp) (Nat.le_refl _)
   rw [show ((List.length ([118]:List UInt8):Nat):Int)=((1:Nat):Int) from rfl,this]
   simp
  simp only [h1,decide_true,cond_true,h2,Option.bind_some,List.head?_cons,Option.some.injEq,List.drop_succ_cons,List.drop_zero]
  by_cases hb:b=118
  ·simp only [hb,decide_true,cond_true,if_true,Bool.not_true,cond_false] at h3 ⊢
   rw [h3];rfl
  ·have : ¬ [b]=([118]:List UInt8):=fun h=>hb (by simpa using h)
   simp [this,hb]
theorem qpc (n:Nat) (s:List UInt8) (hs:s.length<=1000000):qiv n s=some (q1f s):=by
 unfold qiv q1f q2y
 rw [jb3 n s hs]
 by_cases h:s.head? = some 118
 ·have hl:(s.drop 1).length<=1000000:=by rw [List.length_drop];omega
  have ht:qs4 (s.drop 1) jhn=some (Lib.trimS (s.drop 1) jhn):=if_pos ⟨rfl,hl⟩
  simp only [h,if_true,Option.bind_some,cond_true,ht,jt6,decide_true,Bool.true_and]
  cases decide (s.drop 1 = [])<;>cases (s.drop 1).all q1n<;>rfl
 ·simp [h]
end Go.Proofs.YtggoebaobojmjaaGreatDoor.AM
namespace Go.Proofs
open Go.RowKit Go.Shelf Go.Lib
attribute [local go_sem] Oper.semAt_some
set_option linter.unusedVariables false
set_option linter.unusedSimpArgs false
namespace YtggoebaobojmjaaGreatDoor.AM
theorem jt3 (x:List UInt8) (w:World) (hI:Inv w) (hx:x.length<=1000000):Calls Tryz.prog 91 #[.string (ba x)] w fun e w'=>e = .returned (.bool (qep x))/\Below w.heap.size w w':=by
 have h:=(jqc 1000001 Inv q1d).1.2 x (qep x) (jft 1000001 x (by omega) (by omega))
 refine (h (fun _ _=>False) w #[.string (ba x)] hI (fun b o h=>h.elim) ⟨q06 _,trivial⟩).mono ?_
 rintro e w' ⟨v,Pc,rfl,hb,_,_,hv⟩
 have hv':v = .bool (qep x):=q07 hv
 rw [hv']
 exact ⟨rfl,hb⟩
set_option maxHeartbeats 2000000 in
theorem j7m (s:List UInt8) (w:World) (hI:Inv w):Calls Tryz.prog 57 #[.string (ba s)] w fun e w'=>e = .returned (.bool (qe3 s))/\Below w.heap.size w w':=by
 refine (callsIn_wide (n:=9)).1 ?_
 refine callsIn_of_wp_marks Tryz.func57 rfl trivial ?_ rfl
 simp only [Tryz.ntmps57,List.size_toArray,List.length_cons,List.length_nil,Nat.reduceAdd,Nat.reduceSub,Array.replicate_succ,Array.replicate_zero,List.push_toArray,List.append_toArray,List.nil_append,List.cons_append]
 have hsz:(ba s).size=s.length:=q3h s
 by_cases h2:s.length<=60
 ·skip
  gi_wp2_with (refine ⟨trivial,?_⟩;gi_at_call 90;refine (callsIn_wide.2 (q4f _ _ _)).mono ?_;rintro e w' ⟨rfl,rfl⟩)
  obtain ⟨W0,hW0,hs0,hb0,g0,g1,g2,g3⟩:=four w (Obj.cells #[Value.bool false] 4) (Obj.cells #[Value.string (ba s)] 9) (Obj.cells #[Value.string { data:=#[47] }] 9) (Obj.cells #[Value.int IntKind.i64 0] 3)
  rw [hW0]
  clear hW0
  obtain ⟨c1,f1⟩:=q0r g0
  obtain ⟨c2,f2⟩:=q0r g1
  obtain ⟨c3,f3⟩:=q0r g2
  obtain ⟨c4,f4⟩:=q0r g3
  refine range_split (n:=9) (by omega) 47 (w.heap.size+1) (w.heap.size+1+1) (w.heap.size+1+2) s (by omega) rfl ⟨c2,f2⟩
   (Rng (.string (ba [47])) (w.heap.size+1+1) w.heap.size (w.heap.size+1+1) (w.heap.size+1+2) 47 w qep) (RngX w.heap.size w qep) (qyo (by omega)) (j0c (by omega))
   (fun pre W h=>⟨h.cP,h.cC,(hI.below h.below).maxLen⟩) (fun pre W v h=>qyx v h (by omega) (by omega) (by omega) (by omega) (by omega)) ⟨c3,c1,f1,c3,c4,hb0,rfl⟩
   (fun x=>{ tmps:=#[.string (ba s),undef,.pointer (some ⟨w.heap.size,0,none⟩),.string (ba x),.string (ba s),.int .i64 s.length,.bool (decide ((60:Int)<s.length)),.string (ba s),.func (.func 139) #[] #[.pointer (some ⟨w.heap.size+1+1,0,none⟩),.pointer (some ⟨w.heap.size+1,0,none⟩),.pointer (some ⟨w.heap.size+1+2,0,none⟩)],.string (ba x),undef,undef,undef],defers:=[] }) ?assign ?body ?done ?stop
  case assign =>
   intro l x W K hK
   gi_wp2
   exact hK
  case body =>
   intro l pre x r W hi hL hx
   have k1:=hi.res
   have k2:=hi.frz
   have hc:=jt3 x W (hI.below hi.below) (by omega)
   cases hpx:qep x with
   | true =>
    rw [hpx] at hc
    gi_wp2_with (refine ⟨trivial,?_⟩;gi_at_call 91;refine (CallsIn.inRound l (callsIn_wide.2 hc)).mono ?_;rintro e w' ⟨rfl,hb'⟩)
    exact ⟨q1r hb',qi7 hi hb' (by simp [hpx]),qcr hL hb'⟩
   | false =>
    rw [hpx] at hc
    gi_wp2_with (refine ⟨trivial,?_⟩;gi_at_call 91;refine (CallsIn.inRound l (callsIn_wide.2 hc)).mono ?_;rintro e w' ⟨rfl,hb'⟩;have k3:=q1z hb' hi.res;have k4:=(q37 hb' hi.res).trans hi.frz)
    exact ⟨(q1r hb').trans (KeepsOthers.setCell _ _ _),World.cell?_setCell_same' _ _ _ (by rw [k3];rfl),(hi.below.trans (hb'.mono hi.below.size)).setCell (by simp) _,by simp [hpx]⟩
  case done =>
   intro D W hD hi hK
   have k1:=hi.res
   have k2:=hi.frz
   gi_wp2
   have hK':=(KeepsOthers.setCell W ⟨w.heap.size,0,none⟩ (.bool true)).same D _ hK rfl
   have hW':Below w.heap.size w (W.setCell ⟨w.heap.size,0,none⟩ (.bool true)):=hi.below.setCell (by simp) _
   have k5:(W.setCell ⟨w.heap.size,0,none⟩ (.bool true)).cell? ⟨w.heap.size,0,none⟩=some (.bool true):=World.cell?_setCell_same' _ _ _ (by rw [k1];rfl)
   generalize W.setCell ⟨w.heap.size,0,none⟩ (.bool true)=W2 at hK' hW' k5
   refine ⟨by simp,.inl ⟨_,_,rfl,run_takeDeferred hK',?_⟩⟩
   have hg:=grownBy_putObj' W2 D (.deferred none)
   refine ⟨_,q2j (b:=w.heap.size) (v:=.bool true) rfl rfl hag (cell_kept k5 hg (fun r e=>by cases e;exact ⟨_,hK',rfl⟩)),?_,?_⟩
   ·have ha:=hi.all
    unfold qe3;simp [h2,ha]
   ·exact hW'.grown hg hW'.size (fun k e=>by cases e;omega)
  case stop =>
   intro D pre x t W hD hsp hi hK
   refine ⟨by simp,.inl ⟨_,_,rfl,run_takeDeferred hK,?_⟩⟩
   have hg:=grownBy_putObj' W D (.deferred none)
   refine ⟨_,q2j (b:=w.heap.size) (v:=.bool false) rfl rfl hag (cell_kept hi.res hg (fun r e=>by cases e;exact ⟨_,hK,rfl⟩)),?_,?_⟩
   ·have ha:=jd1 hsp hi.no
    unfold qe3;simp [ha]
   ·exact hi.below.grown hg hi.below.size (fun k e=>by cases e;omega)
 ·gi_wp2
  refine ⟨_,q2j (b:=w.heap.size) (v:=.bool false) rfl rfl hag (by simp),?_,?_⟩
  ·unfold qe3;simp [h2]
  ·exact (Below.refl _ w).alloc (Nat.le_refl _) _
def j7f (s:List UInt8):Option Bool:=some (qe3 s)
def jd5:FC:={ f:=57,args:=[jfg],res:=js1,F:=fun p=>j7f p }
theorem jsr:q0f Inv Tryz.prog jd5:=fun G hG=>⟨⟨by kernel_rfl,fun (s:List UInt8) r h=>by
 have hr:qe3 s=r:=Option.some.inj h
 intro Pc w vs hg hlt hv
 obtain ⟨l⟩:=vs
 match l,hv with
 | [x],⟨h1,_⟩ =>
  obtain rfl:x = .string (ba s):=q07 h1
  refine (j7m s w (hG.im w hg)).mono ?_
  rintro e w' ⟨rfl,hb⟩
  subst hr
  exact qff rfl hb (q06 _)⟩,rfl⟩
end YtggoebaobojmjaaGreatDoor.AM
end Go.Proofs
namespace Go.Proofs
open Go.RowKit Go.Shelf Go.Lib
attribute [local go_sem] Oper.semAt_some
set_option linter.unusedVariables false
set_option linter.unusedSimpArgs false
namespace YtggoebaobojmjaaGreatDoor.AM
theorem joa (x:List UInt8) (w:World) (hI:Inv w) (hx:x.length<=1000000):Calls Tryz.prog 59 #[.string (ba x)] w fun e w'=>e = .returned (.bool (q1f x))/\Below w.heap.size w w':=by
 have h:=(j1q 1000001 Inv q1d).1.2 x (q1f x) (qpc 1000001 x (by omega))
 refine (h (fun _ _=>False) w #[.string (ba x)] hI (fun b o h=>h.elim) ⟨q06 _,trivial⟩).mono ?_
 rintro e w' ⟨v,Pc,rfl,hb,_,_,hv⟩
 have hv':v = .bool (q1f x):=q07 hv
 rw [hv']
 exact ⟨rfl,hb⟩
set_option maxHeartbeats 2000000 in
theorem jig (s:List UInt8) (w:World) (hI:Inv w) (h2:s.length<=1000000):Calls Tryz.prog 58 #[.string (ba s)] w fun e w'=>e = .returned (.bool (anyS s))/\Below w.heap.size w w':=by
 refine (callsIn_wide (n:=9)).1 ?_
 refine callsIn_of_wp_marks Tryz.func58 rfl trivial ?_ rfl
 simp only [Tryz.ntmps58,List.size_toArray,List.length_cons,List.length_nil,Nat.reduceAdd,Nat.reduceSub,Array.replicate_succ,Array.replicate_zero,List.push_toArray,List.append_toArray,List.nil_append,List.cons_append]
 have hsz:(ba s).size=s.length:=q3h s
 have key:anyS s = !((spl 47 [] s).all fun x=>!q1f x):=by unfold anyS;rw [List.any_eq_not_all_not]
 ·skip
  gi_wp2_with (refine ⟨trivial,?_⟩;gi_at_call 90;refine (callsIn_wide.2 (q4f _ _ _)).mono ?_;rintro e w' ⟨rfl,rfl⟩)
  obtain ⟨W0,hW0,hs0,hb0,g0,g1,g2,g3⟩:=four w (Obj.cells #[Value.bool false] 4) (Obj.cells #[Value.string (ba s)] 9) (Obj.cells #[Value.string { data:=#[47] }] 9) (Obj.cells #[Value.int IntKind.i64 0] 3)
  rw [hW0]
  clear hW0
  obtain ⟨c1,f1⟩:=q0r g0
  obtain ⟨c2,f2⟩:=q0r g1
  obtain ⟨c3,f3⟩:=q0r g2
  obtain ⟨c4,f4⟩:=q0r g3
  refine range_split (n:=9) (by omega) 47 (w.heap.size+1) (w.heap.size+1+1) (w.heap.size+1+2) s (by omega) rfl ⟨c2,f2⟩
   (Rng (.string (ba [47])) (w.heap.size+1+1) w.heap.size (w.heap.size+1+1) (w.heap.size+1+2) 47 w (fun x=>!q1f x)) (RngY w.heap.size w (fun x=>!q1f x)) (qyo (by omega)) (jtm (by omega))
   (fun pre W h=>⟨h.cP,h.cC,(hI.below h.below).maxLen⟩) (fun pre W v h=>qyx v h (by omega) (by omega) (by omega) (by omega) (by omega)) ⟨c3,c1,f1,c3,c4,hb0,rfl⟩
   (fun x=>{ tmps:=#[.string (ba s),undef,.pointer (some ⟨w.heap.size,0,none⟩),.string (ba x),.string (ba s),.func (.func 139) #[] #[.pointer (some ⟨w.heap.size+1+1,0,none⟩),.pointer (some ⟨w.heap.size+1,0,none⟩),.pointer (some ⟨w.heap.size+1+2,0,none⟩)],.string (ba x),undef,undef],defers:=[] }) ?assign ?body ?done ?stop
  case assign =>
   intro l x W K hK
   gi_wp2
   exact hK
  case body =>
   intro l pre x r W hi hL hx
   have k1:=hi.res
   have k2:=hi.frz
   have hc:=joa x W (hI.below hi.below) (by omega)
   cases hpx:q1f x with
   | false =>
    rw [hpx] at hc
    gi_wp2_with (refine ⟨trivial,?_⟩;gi_at_call 59;refine (CallsIn.inRound l (callsIn_wide.2 hc)).mono ?_;rintro e w' ⟨rfl,hb'⟩)
    exact ⟨q1r hb',qi7 hi hb' (by simp [hpx]),qcr hL hb'⟩
   | true =>
    rw [hpx] at hc
    gi_wp2_with (refine ⟨trivial,?_⟩;gi_at_call 59;refine (CallsIn.inRound l (callsIn_wide.2 hc)).mono ?_;rintro e w' ⟨rfl,hb'⟩;have k3:=q1z hb' hi.res;have k4:=(q37 hb' hi.res).trans hi.frz)
    exact ⟨(q1r hb').trans (KeepsOthers.setCell _ _ _),World.cell?_setCell_same' _ _ _ (by rw [k3];rfl),(hi.below.trans (hb'.mono hi.below.size)).setCell (by simp) _,by simp [hpx]⟩
  case done =>
   intro D W hD hi hK
   have k1:=hi.res
   have k2:=hi.frz
   gi_wp2
   have hK':=(KeepsOthers.setCell W ⟨w.heap.size,0,none⟩ (.bool false)).same D _ hK rfl
   have hW':Below w.heap.size w (W.setCell ⟨w.heap.size,0,none⟩ (.bool false)):=hi.below.setCell (by simp) _
   have k5:(W.setCell ⟨w.heap.size,0,none⟩ (.bool false)).cell? ⟨w.heap.size,0,none⟩=some (.bool false):=World.cell?_setCell_same' _ _ _ (by rw [k1];rfl)
   generalize W.setCell ⟨w.heap.size,0,none⟩ (.bool false)=W2 at hK' hW' k5
   refine ⟨by simp,.inl ⟨_,_,rfl,run_takeDeferred hK',?_⟩⟩
   have hg:=grownBy_putObj' W2 D (.deferred none)
   refine ⟨_,q2j (b:=w.heap.size) (v:=.bool false) rfl rfl hag (cell_kept k5 hg (fun r e=>by cases e;exact ⟨_,hK',rfl⟩)),?_,?_⟩
   ·have ha:=hi.all
    rw [key,ha];rfl
   ·exact hW'.grown hg hW'.size (fun k e=>by cases e;omega)
  case stop =>
   intro D pre x t W hD hsp hi hK
   refine ⟨by simp,.inl ⟨_,_,rfl,run_takeDeferred hK,?_⟩⟩
   have hg:=grownBy_putObj' W D (.deferred none)
   refine ⟨_,q2j (b:=w.heap.size) (v:=.bool true) rfl rfl hag (cell_kept hi.res hg (fun r e=>by cases e;exact ⟨_,hK,rfl⟩)),?_,?_⟩
   ·have ha:=jd1 hsp hi.no
    rw [key,ha];rfl
   ·exact hi.below.grown hg hi.below.size (fun k e=>by cases e;omega)
theorem jn7 (s:List UInt8) (b:Nat):(ba s).extract 0 b=ba (s.take b):=by
 rw [<-jkt ((ba s).extract 0 b)]
 congr 1
 unfold unB ba
 rw [ByteArray.data_extract]
 simp
theorem jmb (x:List UInt8) (w:World) (hI:Inv w) (hx:x.length<=1000000):Calls Tryz.prog 89 #[.string (ba x),.int .u8 47] w fun e w'=>e = .returned (.int .i64 (q93 47 x))/\Below w.heap.size w w':=by
 have h:=(jf6 1000001 Inv q1d).1.2 (x,(47:Int)) (q93 47 x) (qvh 1000001 x (by omega) (by omega))
 refine (h (fun _ _=>False) w #[.string (ba x),.int .u8 47] hI (fun b o h=>h.elim) ⟨q06 _,q06 _,trivial⟩).mono ?_
 rintro e w' ⟨v,Pc,rfl,hb,_,_,hv⟩
 have hv':v = .int .i64 (q93 47 x):=q07 hv
 rw [hv']
 exact ⟨rfl,hb⟩
theorem j8d (s:List UInt8) (w:World) (hI:Inv w) (hs:s.length<=1000000):Calls Tryz.prog 55 #[.string (ba s)] w fun e w'=>e = .returned (.string (ba (q2a s)))/\Below w.heap.size w w':=by
 have hl:=jbx 47 s
 have hsz:(ba s).size=s.length:=q3h s
 have hc:=jmb s w hI hs
 go_enter Tryz.func55,Tryz.ntmps55
 by_cases h0:q93 47 s = -1
 ·rw [h0] at hc
  go_wp2_with (go_at_call 89;refine hc.mono ?_)
  rintro e w' ⟨rfl,hb⟩
  go_wp2
  go_ret
  refine ⟨?_,hb⟩
  show Ending.returned (.string ((ba s).extract 0 (max 0 (-1:Int)).toNat))=_
  rw [jn7];unfold q2a;rw [h0];rfl
 ·obtain ⟨k,hk⟩ : ∃ k:Nat,q93 47 s=(k:Int):=⟨(q93 47 s).toNat,by omega⟩
  rw [hk] at hc
  go_wp2_with (go_at_call 89;refine hc.mono ?_)
  rintro e w' ⟨rfl,hb⟩
  go_wp2
  go_ret
  refine ⟨?_,hb⟩
  show Ending.returned (.string ((ba s).extract 0 (max 0 (k:Int)).toNat))=_
  rw [jn7];unfold q2a;rw [hk,Int.max_eq_right (by omega)]
theorem jtp (x:List UInt8) (w:World) (hI:Inv w) (hx:x.length<=1000000):Calls Tryz.prog 94 #[.string (ba x),.string (ba [118])] w fun e w'=>e = .returned (.string (ba (q3n x)))/\Below w.heap.size w w':=by
 have h:=(qzc 100 Inv q1d).1.2 (x,([118]:List UInt8)) (q3n x) (jph 100 x (by omega))
 refine (h (fun _ _=>False) w #[.string (ba x),.string (ba [118])] hI (fun b o h=>h.elim) ⟨q06 _,q06 _,trivial⟩).mono ?_
 rintro e w' ⟨v,Pc,rfl,hb,_,_,hv⟩
 have hv':v = .string (ba (q3n x)):=q07 hv
 rw [hv']
 exact ⟨rfl,hb⟩
theorem jov (n:Int) (w:World) (hI:Inv w) (h0:2<=n) (h1:n<=999999999):Calls Tryz.prog 96 #[.int .i64 n] w fun e w'=>e = .returned (.string (ba (Lib.itoa n)))/\Below w.heap.size w w':=by
 refine (Any.strconv_Itoa Tryz.laysItoa n (by omega) (by omega) w hI.tab).mono ?_
 rintro e w' ⟨rfl,k,os,rfl⟩
 exact ⟨rfl,Lib.below_grow _ w (Nat.le_refl _) k os⟩
set_option maxHeartbeats 2000000 in
theorem jgw (s:List UInt8) (w:World) (hI:Inv w) (hs:s.length<=1000000):Calls Tryz.prog 60 #[.string (ba s)] w fun e w'=>e = .returned (.tuple #[.int .i64 (numOf (q3n s)),.bool (qv1 (q3n s))])/\Below w.heap.size w w':=by
 have hc:=jtp s w hI hs
 have hl:=jme s
 go_enter Tryz.func60,Tryz.ntmps60
 go_wp2_with (go_at_call 94;refine hc.mono ?_)
 rintro e w1 ⟨rfl,hb1⟩
 clear hc
 have hI1:=hI.below hb1
 have e1:(ba (q3n s)).data.toList=q3n s:=by simp [ba]
 have hl':(ba (q3n s)).size<=281474976710656:=by rw [q3h];omega
 obtain ⟨ts,ps,hsy⟩:=hI1.syn
 obtain ⟨tr,pr,hrg⟩:=hI1.rng
 cases h:Lib.atoiAll (q3n s) with
 | ok v =>
  go_wp2_with (go_at_call 95;refine (Any.strconv_Atoi_ok Tryz.laysAtoi (ba (q3n s)) (by omega) v (by rw [e1];exact h) w1).mono ?_)
  rintro e w2 ⟨rfl,hw⟩
  have hb2:Below w1.heap.size w1 w2:=by
   rcases hw with rfl|⟨t,rfl⟩
   ·exact Below.refl _ _
   ·exact Lib.bytesWorld_below _ _ _
  clear hw
  have hb:Below w.heap.size w w2:=hb1.trans (hb2.mono hb1.size)
  by_cases h2:2<=v
  ·by_cases h3:v<=999999999
   ·have hi:=jov v w2 (hI.below hb) h2 h3
    go_wp2_with (go_at_call 96;refine hi.mono ?_)
    rintro e w3 ⟨rfl,hb3⟩
    go_wp2
    go_ret2
    refine ⟨?_,hb.trans (hb3.mono hb.size)⟩
    unfold numOf qv1;rw [h]
    simp [h2,h3,q8l]
    rw [Bool.eq_iff_iff];simp
   ·go_wp2
    go_ret2
    refine ⟨?_,hb⟩
    unfold numOf qv1;rw [h]
    simp [h2,show ¬ v<=999999999 from by omega]
  ·go_wp2
   go_ret2
   refine ⟨?_,hb⟩
   unfold numOf qv1;rw [h]
   simp [show ¬ 2<=v from by omega]
 | «syntax» =>
  go_wp2_with (go_at_call 95;refine (Any.strconv_Atoi_syntax Tryz.laysAtoi (ba (q3n s)) hl' (by rw [e1];exact h) _ w1 hsy (Or.inr ⟨_,_,rfl⟩)).mono ?_)
  rintro e w2 ⟨N,rfl,hN,hc,hb2⟩
  go_wp2
  go_ret2
  refine ⟨?_,hb1.trans (hb2.mono hb1.size)⟩
  unfold numOf qv1;rw [h];rfl
 | range =>
  go_wp2_with (go_at_call 95;refine (Any.strconv_Atoi_range Tryz.laysAtoi (ba (q3n s)) hl' (by rw [e1];exact h) _ w1 hrg (Or.inr ⟨_,_,rfl⟩)).mono ?_)
  rintro e w2 ⟨N,rfl,hN,hc,hb2⟩
  rw [e1]
  go_wp2
  go_ret2
  refine ⟨?_,hb1.trans (hb2.mono hb1.size)⟩
  unfold numOf qv1;rw [h];rfl
def j42 (s:List UInt8):Option Bool:=if s.length<=1000000 then some (anyS s) else none
def jjt:FC:={ f:=58,args:=[jfg],res:=js1,F:=fun p=>j42 p }
theorem jv7:q0f Inv Tryz.prog jjt:=fun G hG=>⟨⟨by kernel_rfl,fun (s:List UInt8) r h=>by
 have h':j42 s=some r:=h
 unfold j42 at h'
 split at h'
 case isFalse=>cases h'
 rename_i hc
 have hr:anyS s=r:=Option.some.inj h'
 intro Pc w vs hg hlt hv
 obtain ⟨l⟩:=vs
 match l,hv with
 | [x],⟨h1,_⟩ =>
  obtain rfl:x = .string (ba s):=q07 h1
  refine (jig s w (hG.im w hg) hc).mono ?_
  rintro e w' ⟨rfl,hb⟩
  subst hr
  exact qff rfl hb (q06 _)⟩,rfl⟩
def qpk (s:List UInt8):Option (List UInt8):=if s.length<=1000000 then some (q2a s) else none
def jdk:FC:={ f:=55,args:=[jfg],res:=jfg,F:=fun p=>qpk p }
theorem jr0:q0f Inv Tryz.prog jdk:=fun G hG=>⟨⟨by kernel_rfl,fun (s:List UInt8) r h=>by
 have h':qpk s=some r:=h
 unfold qpk at h'
 split at h'
 case isFalse=>cases h'
 rename_i hc
 have hr:q2a s=r:=Option.some.inj h'
 intro Pc w vs hg hlt hv
 obtain ⟨l⟩:=vs
 match l,hv with
 | [x],⟨h1,_⟩ =>
  obtain rfl:x = .string (ba s):=q07 h1
  refine (j8d s w (hG.im w hg) hc).mono ?_
  rintro e w' ⟨rfl,hb⟩
  subst hr
  exact qff rfl hb (q06 (.string (ba (q2a s))))⟩,rfl⟩
def qv7 (s:List UInt8):Option (Int×Bool):=if s.length<=1000000 then some (numOf (q3n s),qv1 (q3n s)) else none
def jl1:FC:={ f:=60,args:=[jfg],res:=.tup [.c (.d (.int .i64)),.c (.d .bool)],F:=fun p=>qv7 p }
theorem jw2:q0f Inv Tryz.prog jl1:=fun G hG=>⟨⟨by kernel_rfl,fun (s:List UInt8) (r:Int×Bool) h=>by
 have h':qv7 s=some r:=h
 unfold qv7 at h'
 split at h'
 case isFalse=>cases h'
 rename_i hc
 have hr:(numOf (q3n s),qv1 (q3n s))=r:=Option.some.inj h'
 intro Pc w vs hg hlt hv
 obtain ⟨l⟩:=vs
 match l,hv with
 | [x],⟨h1,_⟩ =>
  obtain rfl:x = .string (ba s):=q07 h1
  refine (jgw s w (hG.im w hg) hc).mono ?_
  rintro e w' ⟨rfl,hb⟩
  subst hr
  refine ⟨_,Pc,rfl,hb,fun _ _ h=>h,fun _ _ h=>Or.inl h,?_⟩
  exact ⟨#[.int .i64 (numOf (q3n s)),.bool (qv1 (q3n s))],rfl,q06 (σ:=q2m) (.int .i64 (numOf (q3n s))),q06 (σ:=q2m) (.bool (qv1 (q3n s))),trivial⟩⟩,rfl⟩
end YtggoebaobojmjaaGreatDoor.AM
end Go.Proofs
