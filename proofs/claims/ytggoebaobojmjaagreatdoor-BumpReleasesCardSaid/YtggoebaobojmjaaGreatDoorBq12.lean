
import Derived.Test.YtggoebaobojmjaaGreatDoorBq9
import Derived.Lib.SlTrimSet
import Derived.Test.YtggoebaobojmjaaGreatDoorBq11
import Derived.Shelf.Strings.SlTrimAscii
namespace Go.Proofs.YtggoebaobojmjaaGreatDoor.AM
open Go.RowKit
set_option linter.unusedVariables false
set_option linter.unusedSimpArgs false
def qz5 (c:UInt8):Bool:=jsf c||decide (c.toNat=95)||decide (c.toNat=46)
def qj0 (s:List UInt8):Bool:=!decide (s = [])&&(!decide (s = [46])&&(!decide (s = [46,46])&&s.all qz5))
def qhs (s:List UInt8):Bool:=decide (s.length<=60)&&(spl 47 [] s).all qj0
def q1g (w:List UInt8):Bool:=decide (w.head? = some 118)&&q3h (w.drop 1)
def anyS (s:List UInt8):Bool:=(spl 47 [] s).any q1g
def qas (c:UInt8):List UInt8->Int
 | []=>-1
 | b::r=>if b=c then (r.length:Int) else qas c r
def qbr (c:UInt8) (s:List UInt8):Int:=qas c s.reverse
theorem joi (c:UInt8) : ∀l,-1<=qas c l/\qas c l<(l.length:Int)
 | []=>by simp [qas]
 | b::r=>by
  have:=joi c r
  rw [qas];split
  ·simp;omega
  ·simp;omega
theorem jl5 (c:UInt8) (s:List UInt8) : -1<=qbr c s/\qbr c s<(s.length:Int):=by
 have:=joi c s.reverse;unfold qbr;simpa using this
theorem j3b (c:UInt8) : ∀l,c ∉ l->qas c l = -1
 | [],_=>rfl
 | b::r,h=>by
  have h1:b≠c:=fun e=>h (by simp [e])
  rw [qas,if_neg h1,j3b c r (fun e=>h (by simp [e]))]
theorem jax (c:UInt8) : ∀(y x:List UInt8),c ∉ y->qas c (y++c::x)=(x.length:Int)
 | [],x,_=>by simp [qas]
 | b::y,x,h=>by
  have h1:b≠c:=fun e=>h (by simp [e])
  rw [List.cons_append,qas,if_neg h1,jax c y x (fun e=>h (by simp [e]))]
theorem jqr {c:UInt8} {s:List UInt8} (h:c ∉ s):qbr c s = -1:=j3b c _ (by simpa using h)
theorem jum {c:UInt8} {x y:List UInt8} (h:c ∉ y):qbr c (x++c::y)=(x.length:Int):=by
 have:=jax c y.reverse x.reverse (by simpa using h)
 unfold qbr
 simpa using this
def q2j (s:List UInt8):List UInt8:=s.take (qbr 47 s).toNat
def q2f (s:List UInt8):List UInt8:=s.drop (qbr 47 s+1).toNat
theorem jm8 (c:UInt8) : ∀s:List UInt8,c ∉ s \/ ∃ x y,s=x++c::y/\c ∉ y
 | []=>Or.inl (by simp)
 | b::s=>by
  rcases jm8 c s with h|⟨x,y,rfl,h⟩
  ·by_cases hb:b=c
   ·subst hb;exact Or.inr ⟨[],s,rfl,h⟩
   ·exact Or.inl (by simp [h,Ne.symm hb])
  ·exact Or.inr ⟨b::x,y,rfl,h⟩
theorem jev {s:List UInt8} (h:47 ∉ s):q2j s = []/\q2f s=s:=by
 unfold q2j q2f;rw [jqr h];exact ⟨rfl,rfl⟩
theorem jl6 {x y:List UInt8} (h:47 ∉ y):q2j (x++47::y)=x/\q2f (x++47::y)=y:=by
 unfold q2j q2f;rw [jum h]
 constructor
 ·simp
 ·rw [show (((x.length:Nat):Int)+1).toNat=x.length+1 from by omega];simp
theorem jiw (c:UInt8) : ∀(x cur y:List UInt8),spl c cur (x++c::y)=spl c cur x++spl c [] y
 | [],cur,y=>by simp [spl]
 | b::x,cur,y=>by
  rw [List.cons_append,spl,spl]
  split
  ·rw [jiw c x];rfl
  ·rw [jiw c x]
theorem js4 (s:List UInt8):(47 ∉ s/\q2j s = []/\q2f s=s/\spl 47 [] s = [s])\/(s=q2j s++47::q2f s/\47 ∉ q2f s/\spl 47 [] s=spl 47 [] (q2j s) ++ [q2f s]):=by
 rcases jm8 47 s with h|⟨x,y,rfl,h⟩
 ·exact Or.inl ⟨h,(jev h).1,(jev h).2,jd4 47 s h⟩
 ·refine Or.inr ?_
  rw [(jl6 h).1,(jl6 h).2]
  exact ⟨rfl,h,by rw [jiw,jd4 47 y h]⟩
abbrev jrt:List UInt8:=[48,49,50,51,52,53,54,55,56,57]
theorem k2t (c:UInt8):jrt.contains c=q1v c:=by
 have h : ∀k:Fin 256,jrt.contains (UInt8.ofNat k.val)=q1v (UInt8.ofNat k.val):=by decide +kernel
 have h1:=h ⟨c.toNat,c.toNat_lt⟩
 simpa using h1
theorem dropWhile_nil (p:UInt8->Bool) : ∀l:List UInt8,l.dropWhile p = []↔l.all p=true
 | []=>by simp
 | b::l=>by
  rw [List.dropWhile_cons]
  cases h:p b with
  | true=>simp [h,dropWhile_nil p l]
  | false=>simp [h]
theorem qlm {p:UInt8->Bool} {c:UInt8} : ∀{l:List UInt8},c∈l->p c=false->c∈l.dropWhile p
 | b::l,h,hp=>by
  rw [List.dropWhile_cons]
  rcases List.mem_cons.1 h with rfl|h
  ·simp [hp]
  ·cases hb:p b with
   | true=>simpa using qlm h hp
   | false=>simp [h]
theorem k3t (s:List UInt8):decide (Lib.trimS s jrt = [])=s.all q1v:=by
 have he:(fun c=>jrt.contains c)=q1v:=funext k2t
 unfold Lib.trimS Lib.trimRightS Lib.trimLeftS
 rw [he]
 cases h:s.all q1v with
 | true =>
  have h2:s.reverse.all q1v=true:=by rw [List.all_reverse];exact h
  rw [(dropWhile_nil q1v s.reverse).2 h2];simp
 | false =>
  rw [decide_eq_false_iff_not,dropWhile_nil]
  intro hc
  have h3 : ∃ c,c∈s/\q1v c=false:=by
   have:=List.all_eq_false.1 h
   obtain ⟨c,hc,hn⟩:=this
   exact ⟨c,hc,by simpa using hn⟩
  obtain ⟨c,hm,hn⟩:=h3
  have h4:c∈(s.reverse.dropWhile q1v).reverse:=by simpa using qlm (l:=s.reverse) (by simpa using hm) hn
  have:=List.all_eq_true.1 hc c h4
  rw [hn] at this;cases this
def numOf (s:List UInt8):Int:=match Lib.atoiAll s with
 | .ok v=>v
 | .range=>Lib.atoiSat s
 | _=>0
def j28 (s:List UInt8):Bool:=match Lib.atoiAll s with
 | .ok v=>decide (2<=v)&&(decide (v<=999999999)&&decide (s=Lib.itoa v))
 | _=>false
theorem jvl {n:Int} (h0:2<=n) (h1:n<=999999999):j28 (Lib.itoa n)=true/\numOf (Lib.itoa n)=n:=by
 unfold j28 numOf;rw [jxw (by omega) h1];simp [h0,h1]
theorem jcv {s:List UInt8} (h:j28 s=true):2<=numOf s/\numOf s<=999999999/\s=Lib.itoa (numOf s):=by
 unfold j28 at h;unfold numOf
 cases e:Lib.atoiAll s with
 | ok v=>rw [e] at h;simpa using h
 | range=>rw [e] at h;cases h
 | «syntax»=>rw [e] at h;cases h
def okS (p:List UInt8):Bool:=qhs p&&(!anyS (q2j p)&&(!q1g (q2f p)||(j28 ((q2f p).drop 1) && !decide (q2j p = []))))
def q4o (p:List UInt8):List UInt8×(Int×Bool):=if okS p then (if q1g (q2f p) then (q2j p,(numOf ((q2f p).drop 1),true)) else (p,(0,true))) else ([],(0,false))
theorem jp1 {s:List UInt8} (h:qhs s=true):s.length<=60/\(spl 47 [] s).all qj0=true:=by
 unfold qhs at h;simpa using h
theorem jv2 {p:List UInt8} (h:okS p=true):qhs p=true/\anyS (q2j p)=false/\(q1g (q2f p)=true->j28 ((q2f p).drop 1)=true/\q2j p ≠ []):=by
 unfold okS at h
 simp only [Bool.and_eq_true,Bool.or_eq_true,Bool.not_eq_true',decide_eq_false_iff_not] at h
 refine ⟨h.1,h.2.1,fun ht=>?_⟩
 rcases h.2.2 with h3|h3
 ·rw [ht] at h3;cases h3
 ·exact h3
end Go.Proofs.YtggoebaobojmjaaGreatDoor.AM
namespace Go.Proofs
open Go.RowKit Go.Shelf Go.Lib
shelf_lay Lays.n160 Nm 160 at Tryz as Tryz.laysTrim
set_option linter.unusedVariables false
set_option linter.unusedSimpArgs false
namespace YtggoebaobojmjaaGreatDoor.AM
def j0m (s cs:List UInt8):Option (List UInt8):=if cs=jrt/\s.length<=1000000 then some (Lib.trimS s jrt) else none
def jmz:FC:={ f:=93,args:=[job,job],res:=job,F:=fun p=>j0m p.1 p.2 }
theorem k3a:q0h Inv Tryz.prog jmz:=fun G hG=>⟨⟨by kernel_rfl,fun a r h=>by
 obtain ⟨s,cs⟩:=a
 have h':j0m s cs=some r:=h
 unfold j0m at h'
 split at h'
 case isFalse=>cases h'
 rename_i hc
 obtain ⟨rfl,hl⟩:=hc
 have hr:Lib.trimS s jrt=r:=Option.some.inj h'
 intro Pc w vs hg hlt hv
 obtain ⟨l⟩:=vs
 match l,hv with
 | [x,y],⟨h1,h2,_⟩ =>
  obtain rfl:x = .string (ba s):=q0d h1
  obtain rfl:y = .string (ba jrt):=q0d h2
  have e1:(ba s).data.toList=s:=by simp [ba]
  have e2:(ba jrt).data.toList=jrt:=by simp [ba]
  have hh:=Any.strings_Trim_laid Tryz.laysTrim (by kernel_rfl) (ba s) (ba jrt) w (by rw [q4i];omega) (by rw [q4i];decide) (by rw [e2];exact ascii_of_all (by decide))
  rw [e1,e2,hr] at hh
  refine hh.mono ?_
  rintro e w' ⟨rfl,hb⟩
  exact qiw rfl hb (q07 (.string (ba r)))⟩,rfl⟩
end YtggoebaobojmjaaGreatDoor.AM
end Go.Proofs
namespace Go.Proofs.YtggoebaobojmjaaGreatDoor.AM
open Go.RowKit
set_option linter.unusedVariables false
set_option maxRecDepth 20000
@[reducible] def qls:SSt:=⟨[(0,.one (.c (.d .str))),(1,.one (.c (.d (.int .u8)))),(5,.one (.c (.d (.int .i64))))],[],[]⟩
@[reducible] def qcz:List (Exit×SSt):=[(.ret,⟨[(4,.one (.c (.d (.int .i64))))],[],[]⟩),(.exit 0,⟨[],[],[]⟩)]
def qvo (n:Nat) (rec:(List UInt8)->Int->Int->Option (((Int×Unit)×Unit×Unit)⊕(Unit×Unit×Unit))) (a1:List UInt8) (a2:Int) (a3:Int):Option (((Int×Unit)×Unit×Unit)⊕(Unit×Unit×Unit)) :=
 (bif decide (0<=a3) then (sAt a1 a3).bind fun c2=>(bif decide (c2=a2) then some (Sum.inl ((a3,()),((),()))) else q0f (IntKind.wrap .i64 (a3 - (1:Int))) fun n3=>rec a1 a2 n3) else some (Sum.inr (((),((),())))))
def j64 (n:Nat) (rec:pSt qls->Option (q06 qcz)) (p:pSt qls):Option (q06 qcz):=qvo n (fun a1 a2 a3=>rec ((a1,(a2,(a3,()))),((),()))) p.1.1 p.1.2.1 p.1.2.2.1
def qdf (n m:Nat) (a1:List UInt8) (a2:Int) (a3:Int):Option (((Int×Unit)×Unit×Unit)⊕(Unit×Unit×Unit)):=q08 (j64 n) m ((a1,(a2,(a3,()))),((),()))
theorem qe3 (n m:Nat) (a1 a2 a3):qdf n (m+1) a1 a2 a3=qvo n (fun a1 a2 a3=>qdf n m a1 a2 a3) a1 a2 a3:=rfl
def jms (n:Nat):LC:={ sh:=qls,outs:=qcz,F:=q08 (j64 n) n }
def qzf (n:Nat):List LC:=[jms n]
def j8d (n:Nat) (a1:List UInt8) (a2:Int):Option (Int) :=
 q0f (IntKind.wrap .i64 ((a1.length:Int) - (1:Int))) fun (n1:Int)=>(qdf n n a1 a2 n1).bind fun o4=>Sum.elim (fun (q5:(Int×Unit)×Unit×Unit)=>some q5.1.1) (fun (q6:(Unit)×Unit×Unit)=>some (-1:Int)) o4
def qo7 (n:Nat):FC:={ f:=112,args:=[.one (.c (.d .str)),.one (.c (.d (.int .u8)))],res:=.one (.c (.d (.int .i64))),F:=fun p=>j8d n p.1 p.2 }
def j6g (n:Nat):List FC:=[]
theorem j4w (n:Nat) {G:World->Prop} (hG:Know Inv G) : ∀c∈j6g n,q0t Tryz.prog G c/\q0c c.args=true:=(fun _ h=>by cases h)
def j7c:q0b:=[]
theorem jo7:drB j7c (q00 Tryz.f112)=true:=by kernel_rfl
theorem jtg (n:Nat) : ∀rec p,j64 n rec p=round Tryz.prog 19 (j6g n) (qzf n) j7c 1 qls qcz (q01 0 0 (q00 Tryz.f112)) rec p:=by intro rec p;kernel_rfl
theorem jqm (n:Nat) {F:Fr} (hF:F.n=19) (hK:Know Inv F.G):q2h Tryz.prog F (jms n) (q01 0 0 (q00 Tryz.f112)) :=
 q09 hF (by kernel_rfl) (j4w n hK) (jtg n) (fuel:=n) (fun _=>rfl) (q02 fun j L h1 h2 h3=>absurd h2 (Nat.not_lt.2 (Nat.le_trans (by decide +kernel) h1))) (q0g jo7)
theorem k04 (n:Nat) : ∀a,(qo7 n).F a=main Tryz.prog 19 (j6g n) (qzf n) j7c (q00 Tryz.f112) [.tmp 4] (qo7 n).args (qo7 n).res a:=by intro a;kernel_rfl
theorem k0c (n:Nat):q0h Inv Tryz.prog (qo7 n):=fun G hG=>⟨⟨by kernel_rfl,fun a r h=>q05 (c:=q00 Tryz.f112) Tryz.func112 (by kernel_rfl) (by kernel_rfl) (Nat.le_of_ble_eq_true (by kernel_rfl)) hG.st (by kernel_rfl) (rs:=[.tmp 4]) (by kernel_rfl) (j4w n hG) (lts:=qzf n) (fun F hF hFG=>have hK:Know Inv F.G:=hFG ▸ hG;(q02 (c:=(q00 Tryz.f112)) (fun j L h1 h2 h3=>by
  have h2':j<1:=Nat.lt_of_lt_of_le h2 (by decide +kernel)
  match j,h1,h2',h3 with
  | 0,_,_,h3=>obtain rfl:=Option.some.inj h3;exact (show q01 0 0 (q00 Tryz.f112)=q01 0 0 (q00 Tryz.f112) by kernel_rfl) ▸ jqm n hF hK
  | j+1,_,h2',_=>exact absurd h2' (by omega)))) jo7 ((k04 n a).symm.trans h)⟩,rfl⟩
def jao (n:Nat):List LC:=[]
def j6k (n:Nat) (a1:List UInt8) (a2:Int):Option (Int) :=
 (j8d n a1 a2).bind fun r1=>some r1
def qlp (n:Nat):FC:={ f:=89,args:=[.one (.c (.d .str)),.one (.c (.d (.int .u8)))],res:=.one (.c (.d (.int .i64))),F:=fun p=>j6k n p.1 p.2 }
def jl3 (n:Nat):List FC:=[qo7 n]
theorem jrn (n:Nat) {G:World->Prop} (hG:Know Inv G) : ∀c∈jl3 n,q0t Tryz.prog G c/\q0c c.args=true:=List.forall_mem_cons.2 ⟨k0c n G hG,(fun _ h=>by cases h)⟩
def jmg:q0b:=[]
theorem k3q:drB jmg (q00 Tryz.f89)=true:=by kernel_rfl
theorem k1d (n:Nat) : ∀a,(qlp n).F a=main Tryz.prog 8 (jl3 n) (jao n) jmg (q00 Tryz.f89) [.tmp 4] (qlp n).args (qlp n).res a:=by intro a;kernel_rfl
theorem jox (n:Nat):q0h Inv Tryz.prog (qlp n):=fun G hG=>⟨⟨by kernel_rfl,fun a r h=>q05 (c:=q00 Tryz.f89) Tryz.func89 (by kernel_rfl) (by kernel_rfl) (Nat.le_of_ble_eq_true (by kernel_rfl)) hG.st (by kernel_rfl) (rs:=[.tmp 4]) (by kernel_rfl) (jrn n hG) (lts:=jao n) (fun F hF hFG=>have hK:Know Inv F.G:=hFG ▸ hG;(q02 fun j L h1 h2 h3=>absurd h2 (Nat.not_lt.2 (Nat.le_trans (by decide +kernel) h1)))) k3q ((k1d n a).symm.trans h)⟩,rfl⟩
def qhx (n:Nat):List LC:=[]
def qf8 (n:Nat) (a1:List UInt8) (a2:List UInt8):Option ((List UInt8)×(Bool)) :=
 (q6h n a1 a2).bind fun r1=>(bif !r1 then some (a1,false) else (j2i a1 (a2.length:Int) (a1.length:Int)).bind fun s2=>some (s2,true))
def q4f (n:Nat):FC:={ f:=115,args:=[.one (.c (.d .str)),.one (.c (.d .str))],res:=.tup [.c (.d .str),.c (.d .bool)],F:=fun p=>qf8 n p.1 p.2 }
def qnq (n:Nat):List FC:=[q36 n]
theorem qz1 (n:Nat) {G:World->Prop} (hG:Know Inv G) : ∀c∈qnq n,q0t Tryz.prog G c/\q0c c.args=true:=List.forall_mem_cons.2 ⟨qly n G hG,(fun _ h=>by cases h)⟩
def qmu:q0b:=[]
theorem j88:drB qmu (q00 Tryz.f115)=true:=by kernel_rfl
theorem j6o (n:Nat) : ∀a,(q4f n).F a=main Tryz.prog 15 (qnq n) (qhx n) qmu (q00 Tryz.f115) [.tmp 4,.tmp 5] (q4f n).args (q4f n).res a:=by intro a;kernel_rfl
theorem j7l (n:Nat):q0h Inv Tryz.prog (q4f n):=fun G hG=>⟨⟨by kernel_rfl,fun a r h=>q05 (c:=q00 Tryz.f115) Tryz.func115 (by kernel_rfl) (by kernel_rfl) (Nat.le_of_ble_eq_true (by kernel_rfl)) hG.st (by kernel_rfl) (rs:=[.tmp 4,.tmp 5]) (by kernel_rfl) (qz1 n hG) (lts:=qhx n) (fun F hF hFG=>have hK:Know Inv F.G:=hFG ▸ hG;(q02 fun j L h1 h2 h3=>absurd h2 (Nat.not_lt.2 (Nat.le_trans (by decide +kernel) h1)))) j88 ((j6o n a).symm.trans h)⟩,rfl⟩
def qnf (n:Nat):List LC:=[]
def qcu (n:Nat) (a1:List UInt8) (a2:List UInt8):Option ((List UInt8)×(Bool)) :=
 (qf8 n a1 a2).bind fun r1=>some r1
def q66 (n:Nat):FC:={ f:=92,args:=[.one (.c (.d .str)),.one (.c (.d .str))],res:=.tup [.c (.d .str),.c (.d .bool)],F:=fun p=>qcu n p.1 p.2 }
def qsy (n:Nat):List FC:=[q4f n]
theorem j2o (n:Nat) {G:World->Prop} (hG:Know Inv G) : ∀c∈qsy n,q0t Tryz.prog G c/\q0c c.args=true:=List.forall_mem_cons.2 ⟨j7l n G hG,(fun _ h=>by cases h)⟩
def qsp:q0b:=[]
theorem jba:drB qsp (q00 Tryz.f92)=true:=by kernel_rfl
theorem jdu (n:Nat) : ∀a,(q66 n).F a=main Tryz.prog 11 (qsy n) (qnf n) qsp (q00 Tryz.f92) [.tmp 4,.tmp 5] (q66 n).args (q66 n).res a:=by intro a;kernel_rfl
theorem jbc (n:Nat):q0h Inv Tryz.prog (q66 n):=fun G hG=>⟨⟨by kernel_rfl,fun a r h=>q05 (c:=q00 Tryz.f92) Tryz.func92 (by kernel_rfl) (by kernel_rfl) (Nat.le_of_ble_eq_true (by kernel_rfl)) hG.st (by kernel_rfl) (rs:=[.tmp 4,.tmp 5]) (by kernel_rfl) (j2o n hG) (lts:=qnf n) (fun F hF hFG=>have hK:Know Inv F.G:=hFG ▸ hG;(q02 fun j L h1 h2 h3=>absurd h2 (Nat.not_lt.2 (Nat.le_trans (by decide +kernel) h1)))) jba ((jdu n a).symm.trans h)⟩,rfl⟩
def j4u (n:Nat):List LC:=[]
def qm3 (n:Nat) (a1:List UInt8):Option (Bool) :=
 (qcu n a1 ([118]:List UInt8)).bind fun r1=>(bif r1.2 then (bif !decide (r1.1=([]:List UInt8)) then (j0m r1.1 ([48,49,50,51,52,53,54,55,56,57]:List UInt8)).bind fun (r2:List UInt8)=>some (decide (r2=([]:List UInt8))) else some false) else some false)
def qfa (n:Nat):FC:={ f:=59,args:=[.one (.c (.d .str))],res:=.one (.c (.d .bool)),F:=fun p=>qm3 n p }
def jb7 (n:Nat):List FC:=[q66 n,jmz]
theorem jgx (n:Nat) {G:World->Prop} (hG:Know Inv G) : ∀c∈jb7 n,q0t Tryz.prog G c/\q0c c.args=true:=List.forall_mem_cons.2 ⟨jbc n G hG,List.forall_mem_cons.2 ⟨k3a G hG,(fun _ h=>by cases h)⟩⟩
def jaj:q0b:=[]
theorem jwn:drB jaj (q00 Tryz.f59)=true:=by kernel_rfl
theorem juc (n:Nat) : ∀a,(qfa n).F a=main Tryz.prog 20 (jb7 n) (j4u n) jaj (q00 Tryz.f59) [.tmp 2] (qfa n).args (qfa n).res a:=by intro a;kernel_rfl
theorem jat (n:Nat):q0h Inv Tryz.prog (qfa n):=fun G hG=>⟨⟨by kernel_rfl,fun a r h=>q05 (c:=q00 Tryz.f59) Tryz.func59 (by kernel_rfl) (by kernel_rfl) (Nat.le_of_ble_eq_true (by kernel_rfl)) hG.st (by kernel_rfl) (rs:=[.tmp 2]) (by kernel_rfl) (jgx n hG) (lts:=j4u n) (fun F hF hFG=>have hK:Know Inv F.G:=hFG ▸ hG;(q02 fun j L h1 h2 h3=>absurd h2 (Nat.not_lt.2 (Nat.le_trans (by decide +kernel) h1)))) jwn ((juc n a).symm.trans h)⟩,rfl⟩
end Go.Proofs.YtggoebaobojmjaaGreatDoor.AM
namespace Go.Proofs.YtggoebaobojmjaaGreatDoor.AM
open Go.RowKit
set_option linter.unusedVariables false
set_option maxRecDepth 20000
def jbh (n:Nat):List LC:=[]
def j7y (n:Nat) (a1:Int):Option (Bool) :=
 (bif decide (97<=a1) then (bif decide (a1<=122) then (bif decide (a1<=122) then some true else (bif decide (a1=45) then some true else (bif decide (a1=95) then some true else some (decide (a1=46))))) else (bif decide (65<=a1) then (bif decide (a1<=90) then (bif decide (a1<=90) then some true else (bif decide (a1=45) then some true else (bif decide (a1=95) then some true else some (decide (a1=46))))) else (bif decide (48<=a1) then (bif decide (a1<=57) then some true else (bif decide (a1=45) then some true else (bif decide (a1=95) then some true else some (decide (a1=46))))) else (bif decide (a1=45) then some true else (bif decide (a1=95) then some true else some (decide (a1=46)))))) else (bif decide (48<=a1) then (bif decide (a1<=57) then some true else (bif decide (a1=45) then some true else (bif decide (a1=95) then some true else some (decide (a1=46))))) else (bif decide (a1=45) then some true else (bif decide (a1=95) then some true else some (decide (a1=46))))))) else (bif decide (65<=a1) then (bif decide (a1<=90) then (bif decide (a1<=90) then some true else (bif decide (a1=45) then some true else (bif decide (a1=95) then some true else some (decide (a1=46))))) else (bif decide (48<=a1) then (bif decide (a1<=57) then some true else (bif decide (a1=45) then some true else (bif decide (a1=95) then some true else some (decide (a1=46))))) else (bif decide (a1=45) then some true else (bif decide (a1=95) then some true else some (decide (a1=46)))))) else (bif decide (48<=a1) then (bif decide (a1<=57) then some true else (bif decide (a1=45) then some true else (bif decide (a1=95) then some true else some (decide (a1=46))))) else (bif decide (a1=45) then some true else (bif decide (a1=95) then some true else some (decide (a1=46)))))))
def qn2 (n:Nat):FC:={ f:=114,args:=[.one (.c (.d (.int .u8)))],res:=.one (.c (.d .bool)),F:=fun p=>j7y n p }
def jow (n:Nat):List FC:=[]
theorem jrg (n:Nat) {G:World->Prop} (hG:Know Inv G) : ∀c∈jow n,q0t Tryz.prog G c/\q0c c.args=true:=(fun _ h=>by cases h)
def jnu:q0b:=[]
theorem k1o:drB jnu (q00 Tryz.f114)=true:=by kernel_rfl
theorem k3p (n:Nat) : ∀a,(qn2 n).F a=main Tryz.prog 32 (jow n) (jbh n) jnu (q00 Tryz.f114) [.tmp 2] (qn2 n).args (qn2 n).res a:=by intro a;kernel_rfl
theorem k1z (n:Nat):q0h Inv Tryz.prog (qn2 n):=fun G hG=>⟨⟨by kernel_rfl,fun a r h=>q05 (c:=q00 Tryz.f114) Tryz.func114 (by kernel_rfl) (by kernel_rfl) (Nat.le_of_ble_eq_true (by kernel_rfl)) hG.st (by kernel_rfl) (rs:=[.tmp 2]) (by kernel_rfl) (jrg n hG) (lts:=jbh n) (fun F hF hFG=>have hK:Know Inv F.G:=hFG ▸ hG;(q02 fun j L h1 h2 h3=>absurd h2 (Nat.not_lt.2 (Nat.le_trans (by decide +kernel) h1)))) k1o ((k3p n a).symm.trans h)⟩,rfl⟩
@[reducible] def qlc:SSt:=⟨[(0,.one (.c (.d .str))),(15,.one (.c (.d (.int .i64)))),(16,.one (.c (.d (.int .i64))))],[],[]⟩
@[reducible] def qdl:List (Exit×SSt):=[(.ret,⟨[(2,.one (.c (.d .bool)))],[],[]⟩),(.exit 0,⟨[],[],[]⟩)]
def j6z (n:Nat) (rec:(List UInt8)->Int->Int->Option (((Bool×Unit)×Unit×Unit)⊕(Unit×Unit×Unit))) (a1:List UInt8) (a2:Int) (a3:Int):Option (((Bool×Unit)×Unit×Unit)⊕(Unit×Unit×Unit)) :=
 (bif decide (a3<a2) then (sAt a1 a3).bind fun c1=>(j7y n c1).bind fun r2=>(bif !r2 then some (Sum.inl ((false,()),((),()))) else q0f (IntKind.wrap .i64 (a3+1)) fun n3=>rec a1 a2 n3) else some (Sum.inr (((),((),())))))
def j99 (n:Nat) (rec:pSt qlc->Option (q06 qdl)) (p:pSt qlc):Option (q06 qdl):=j6z n (fun a1 a2 a3=>rec ((a1,(a2,(a3,()))),((),()))) p.1.1 p.1.2.1 p.1.2.2.1
def qcl (n m:Nat) (a1:List UInt8) (a2:Int) (a3:Int):Option (((Bool×Unit)×Unit×Unit)⊕(Unit×Unit×Unit)):=q08 (j99 n) m ((a1,(a2,(a3,()))),((),()))
theorem qty (n m:Nat) (a1 a2 a3):qcl n (m+1) a1 a2 a3=j6z n (fun a1 a2 a3=>qcl n m a1 a2 a3) a1 a2 a3:=rfl
def jm3 (n:Nat):LC:={ sh:=qlc,outs:=qdl,F:=q08 (j99 n) n }
def j18 (n:Nat):List LC:=[jm3 n]
def jkm (n:Nat) (a1:List UInt8):Option (Bool) :=
 (bif decide (a1=([]:List UInt8)) then some false else (bif decide (a1=([46]:List UInt8)) then some false else (bif decide (a1=([46,46]:List UInt8)) then some false else (qcl n n a1 (a1.length:Int) (0:Int)).bind fun o4=>Sum.elim (fun (q5:(Bool×Unit)×Unit×Unit)=>some q5.1.1) (fun (q6:(Unit)×Unit×Unit)=>some true) o4)))
def quu (n:Nat):FC:={ f:=91,args:=[.one (.c (.d .str))],res:=.one (.c (.d .bool)),F:=fun p=>jkm n p }
def j7z (n:Nat):List FC:=[qn2 n]
theorem j42 (n:Nat) {G:World->Prop} (hG:Know Inv G) : ∀c∈j7z n,q0t Tryz.prog G c/\q0c c.args=true:=List.forall_mem_cons.2 ⟨k1z n G hG,(fun _ h=>by cases h)⟩
def j5z:q0b:=[]
theorem jog:drB j5z (q00 Tryz.f91)=true:=by kernel_rfl
theorem jyi (n:Nat) : ∀rec p,j99 n rec p=round Tryz.prog 25 (j7z n) (j18 n) j5z 1 qlc qdl (q01 0 0 (q00 Tryz.f91)) rec p:=by intro rec p;kernel_rfl
theorem jr1 (n:Nat) {F:Fr} (hF:F.n=25) (hK:Know Inv F.G):q2h Tryz.prog F (jm3 n) (q01 0 0 (q00 Tryz.f91)) :=
 q09 hF (by kernel_rfl) (j42 n hK) (jyi n) (fuel:=n) (fun _=>rfl) (q02 fun j L h1 h2 h3=>absurd h2 (Nat.not_lt.2 (Nat.le_trans (by decide +kernel) h1))) (q0g jog)
theorem k3m (n:Nat) : ∀a,(quu n).F a=main Tryz.prog 25 (j7z n) (j18 n) j5z (q00 Tryz.f91) [.tmp 2] (quu n).args (quu n).res a:=by intro a;kernel_rfl
theorem k3n (n:Nat):q0h Inv Tryz.prog (quu n):=fun G hG=>⟨⟨by kernel_rfl,fun a r h=>q05 (c:=q00 Tryz.f91) Tryz.func91 (by kernel_rfl) (by kernel_rfl) (Nat.le_of_ble_eq_true (by kernel_rfl)) hG.st (by kernel_rfl) (rs:=[.tmp 2]) (by kernel_rfl) (j42 n hG) (lts:=j18 n) (fun F hF hFG=>have hK:Know Inv F.G:=hFG ▸ hG;(q02 (c:=(q00 Tryz.f91)) (fun j L h1 h2 h3=>by
  have h2':j<1:=Nat.lt_of_lt_of_le h2 (by decide +kernel)
  match j,h1,h2',h3 with
  | 0,_,_,h3=>obtain rfl:=Option.some.inj h3;exact (show q01 0 0 (q00 Tryz.f91)=q01 0 0 (q00 Tryz.f91) by kernel_rfl) ▸ jr1 n hF hK
  | j+1,_,h2',_=>exact absurd h2' (by omega)))) jog ((k3m n a).symm.trans h)⟩,rfl⟩
end Go.Proofs.YtggoebaobojmjaaGreatDoor.AM
namespace Go.Proofs.YtggoebaobojmjaaGreatDoor.AM
open Go.RowKit
set_option linter.unusedVariables false
set_option linter.unusedSimpArgs false
theorem jqa (n:Nat) (c:UInt8):j7y n ((c.toNat:Nat):Int)=some (qz5 c):=by
 have h : ∀k:Fin 256,j7y 0 ((k.val:Nat):Int)=some (qz5 (UInt8.ofNat k.val)):=by decide +kernel
 have h1:=h ⟨c.toNat,c.toNat_lt⟩
 have e:UInt8.ofNat c.toNat=c:=by simp
 rw [e] at h1
 exact h1
theorem j5f (n:Nat) (s:List UInt8) (hL:s.length<=1000000) : ∀m j:Nat,j<=s.length->s.length - j<m->qcl n m s ((s.length:Nat):Int) (j:Int)=some (if (s.drop j).all qz5=true then Sum.inr ((),((),())) else Sum.inl ((false,()),((),())))
 | 0,j,_,h=>absurd h (Nat.not_lt_zero _)
 | m+1,j,hj,h=>by
  rw [qty]
  unfold j6z
  by_cases c0:j<s.length
  ·have c0':((j:Nat):Int)<((s.length:Nat):Int):=by omega
   have ih:=j5f n s hL m (j+1) (by omega) (by omega)
   have hd:s.drop j=s[j]::s.drop (j+1):=(List.drop_eq_getElem_cons c0)
   simp only [c0',decide_true,cond_true,q8j c0,Option.bind_some,jqa,q0f,q03 (show j<4611686018427387904 by omega),ih,hd,List.all_cons]
   cases qz5 s[j]<;>simp
  ·have c0' : ¬ ((j:Nat):Int)<((s.length:Nat):Int):=by omega
   have:s.drop j = []:=List.drop_eq_nil_of_le (by omega)
   simp [c0',this]
theorem jpt (n:Nat) (s:List UInt8) (hL:s.length<=1000000) (hn:s.length<n):jkm n s=some (qj0 s):=by
 unfold jkm qj0
 have:=j5f n s hL n 0 (Nat.zero_le _) (by omega)
 rw [show ((0:Nat):Int)=(0:Int) from rfl] at this
 rw [this,List.drop_zero]
 cases decide (s = [])<;>cases decide (s = [46])<;>cases decide (s = [46,46])<;>cases s.all qz5<;>rfl
end Go.Proofs.YtggoebaobojmjaaGreatDoor.AM
namespace Go.Proofs.YtggoebaobojmjaaGreatDoor.AM
open Go.RowKit
set_option linter.unusedVariables false
set_option linter.unusedSimpArgs false
theorem k2c {n:Int} (h:0<=n/\n<=999999999):(Lib.itoa n).length<=9:=by
 rw [qvd h.1];exact juj 8 n.toNat (by omega)
theorem jvf (s:List UInt8):(q4m s).length<=s.length:=by
 unfold q4m;split
 ·rw [List.length_drop];omega
 ·exact Nat.le_refl _
end Go.Proofs.YtggoebaobojmjaaGreatDoor.AM
namespace Go.Proofs.YtggoebaobojmjaaGreatDoor.AM
open Go.RowKit
set_option linter.unusedVariables false
set_option linter.unusedSimpArgs false
theorem ql3 (n m:Nat) (a1 a2 a3 i i' a5 a6 a7 x:Int) (a8 a9:List UInt8) (hx:q0s ([a1,a2,a3]:List Int) i=some x) (hi:i<3) (hw:IntKind.wrap .i64 (i+1)=i') :
  q6e n (m+1) a1 a2 a3 i a5 a6 a7 a8 a9=if jfq x=true then q6e n m a1 a2 a3 i' a5 a6 a7 a8 a9 else some (Sum.inl ((false,()),((),()))):=by
 rw [qbt]
 unfold qns jfq
 simp only [hi,decide_true,cond_true,hx,Option.bind_some,q0f,hw]
 by_cases h1:x<0
 ·have : ¬ (0:Int)<=x:=by omega
  simp [h1,this]
 ·have h1':(0:Int)<=x:=by omega
  by_cases h2:999999999<x
  ·have : ¬ x<=999999999:=by omega
   simp [h1,h2,this]
  ·have:x<=999999999:=by omega
   simp [h1,h2,h1',this]
theorem q8e (n:Nat) (v:VD) (hn:4<=n):q9l n v=some (q0y v):=by
 obtain ⟨k,rfl⟩ : ∃ k,n=k+1+1+1+1:=⟨n - 4,by omega⟩
 obtain ⟨a,b,c,p,q⟩:=v
 unfold q9l
 rw [ql3 _ _ a b c 0 1 _ _ _ a _ _ rfl (by decide) rfl,ql3 _ _ a b c 1 2 _ _ _ b _ _ rfl (by decide) rfl,ql3 _ _ a b c 2 3 _ _ _ c _ _ rfl (by decide) rfl,qbt]
 unfold qns q0y qz6 qqs
 dsimp only
 cases jfq a with
 | false=>rfl
 | true=>cases jfq b with
  | false=>rfl
  | true=>cases jfq c with
   | false=>rfl
   | true =>
    simp only [if_true,Bool.true_and,show ¬ (3:Int)<3 from by decide,decide_false,cond_false,Option.bind_some,Sum.elim_inr]
    cases q8s q6q p<;>cases q8s q2l q<;>rfl
theorem jwx (n:Nat) (s:List UInt8) (hs:s.length<=1000000):qf6 n s [118]=some (q4m s):=by
 unfold qf6 qcs q6h q4m
 cases s with
 | nil=>rfl
 | cons b r =>
  have h1:((List.length ([118]:List UInt8):Nat):Int)<=((List.length (b::r):Nat):Int):=by simp;omega
  have h2:j2i (b::r) (0:Int) ((List.length ([118]:List UInt8):Nat):Int)=some [b]:=sub_zero (b:=1) (by simp)
  have h3:j2i (b::r) ((List.length ([118]:List UInt8):Nat):Int) ((List.length (b::r):Nat):Int)=some r:=by
   have:=sub_le (l:=b::r) (a:=1) (b:=(b::r).length) (by simp) (Nat.le_refl _)
   rw [show ((List.length ([118]:List UInt8):Nat):Int)=((1:Nat):Int) from rfl,this]
   simp
  simp only [h1,decide_true,cond_true,h2,Option.bind_some,List.head?_cons,Option.some.injEq,List.drop_succ_cons,List.drop_zero]
  by_cases hb:b=118
  ·simp only [hb,decide_true,cond_true,if_true] at h3 ⊢
   rw [h3];rfl
  ·have : ¬ [b]=([118]:List UInt8):=fun h=>hb (by simpa using h)
   simp [this,hb]
end Go.Proofs.YtggoebaobojmjaaGreatDoor.AM
namespace Go.Proofs.YtggoebaobojmjaaGreatDoor.AM
open Go.RowKit
set_option linter.unusedVariables false
set_option linter.unusedSimpArgs false
theorem qoa (s:List UInt8) (j:Nat) (h:j<s.length):(s.take (j+1)).reverse=s[j]::(s.take j).reverse:=by
 rw [List.take_succ_eq_append_getElem h];simp
theorem j33 (n:Nat) (c:UInt8) (s:List UInt8) (hL:s.length<=1000000) : ∀m j:Nat,j<=s.length->j<m->qdf n m s ((c.toNat:Nat):Int) ((j:Int) - 1)=some (if qas c (s.take j).reverse = -1 then Sum.inr ((),((),())) else Sum.inl ((qas c (s.take j).reverse,()),((),())))
 | 0,j,_,h=>absurd h (Nat.not_lt_zero _)
 | m+1,0,_,_=>by
  rw [qe3]
  unfold qvo
  simp [qas]
 | m+1,j+1,hj,h=>by
  rw [qe3]
  unfold qvo
  have e1:((j+1:Nat):Int) - 1=((j:Nat):Int):=by omega
  have ih:=j33 n c s hL m j (by omega) (by omega)
  have w1:IntKind.wrap .i64 (((j:Nat):Int) - 1)=((j:Nat):Int) - 1:=wrap64 (by omega) (by omega)
  have c0:(0:Int)<=((j:Nat):Int):=by omega
  have d1:decide (((s[j].toNat:Nat):Int)=((c.toNat:Nat):Int))=decide (s[j]=c):=decide_eq_decide.2 ⟨fun h=>UInt8.toNat_inj.1 (by omega),fun h=>by rw [h]⟩
  rw [e1]
  simp only [c0,decide_true,cond_true,q8j (show j<s.length by omega),Option.bind_some,d1,q0f,w1,ih,qoa s j (by omega),qas]
  by_cases h0:s[j]=c
  ·have : ¬ (((s.take j).reverse.length:Nat):Int) = -1:=by omega
   have l1:(s.take j).reverse.length=j:=by simp;omega
   simp only [h0,decide_true,cond_true,if_true,this,if_false,l1]
   rw [if_neg (by omega)]
  ·simp [h0]
theorem jsx (n:Nat) (c:UInt8) (s:List UInt8) (hL:s.length<=1000000) (hn:s.length<n):j8d n s ((c.toNat:Nat):Int)=some (qbr c s):=by
 unfold j8d
 have:=j33 n c s hL n s.length (Nat.le_refl _) hn
 have w1:IntKind.wrap .i64 (((s.length:Nat):Int) - 1)=((s.length:Nat):Int) - 1:=wrap64 (by omega) (by omega)
 simp only [q0f,w1,this,List.take_length]
 unfold qbr
 by_cases h:qas c s.reverse = -1
 ·simp [h]
 ·simp [h]
theorem j2u (n:Nat) (s:List UInt8) (hL:s.length<=1000000) (hn:s.length<n):j6k n s (47:Int)=some (qbr 47 s):=by
 unfold j6k
 rw [show (47:Int)=(((47:UInt8).toNat:Nat):Int) from rfl,jsx n 47 s hL hn];rfl
theorem jkn (n:Nat) (s:List UInt8) (hs:s.length<=1000000):qcu n s [118]=some (if s.head? = some 118 then (s.drop 1,true) else (s,false)):=by
 unfold qcu qf8 q6h
 cases s with
 | nil=>rfl
 | cons b r =>
  have h1:((List.length ([118]:List UInt8):Nat):Int)<=((List.length (b::r):Nat):Int):=by simp;omega
  have h2:j2i (b::r) (0:Int) ((List.length ([118]:List UInt8):Nat):Int)=some [b]:=sub_zero (b:=1) (by simp)
  have h3:j2i (b::r) ((List.length ([118]:List UInt8):Nat):Int) ((List.length (b::r):Nat):Int)=some r:=by
   have:=sub_le (l:=b::r) (a:=1) (b:=(b::r).length) (by simp) (Nat.le_refl _)
   rw [show ((List.length ([118]:List UInt8):Nat):Int)=((1:Nat):Int) from rfl,this]
   simp
  simp only [h1,decide_true,cond_true,h2,Option.bind_some,List.head?_cons,Option.some.injEq,List.drop_succ_cons,List.drop_zero]
  by_cases hb:b=118
  ·simp only [hb,decide_true,cond_true,if_true,Bool.not_true,cond_false] at h3 ⊢
   rw [h3];rfl
  ·have : ¬ [b]=([118]:List UInt8):=fun h=>hb (by simpa using h)
   simp [this,hb]
theorem qxx (n:Nat) (s:List UInt8) (hs:s.length<=1000000):qm3 n s=some (q1g s):=by
 unfold qm3 q1g q3h
 rw [jkn n s hs]
 by_cases h:s.head? = some 118
 ·have hl:(s.drop 1).length<=1000000:=by rw [List.length_drop];omega
  have ht:j0m (s.drop 1) jrt=some (Lib.trimS (s.drop 1) jrt):=if_pos ⟨rfl,hl⟩
  simp only [h,if_true,Option.bind_some,cond_true,ht,k3t,decide_true,Bool.true_and]
  cases decide (s.drop 1 = [])<;>cases (s.drop 1).all q1v<;>rfl
 ·simp [h]
end Go.Proofs.YtggoebaobojmjaaGreatDoor.AM
namespace Go.Proofs
open Go.RowKit Go.Shelf Go.Lib
attribute [local go_sem] Oper.semAt_some
set_option linter.unusedVariables false
set_option linter.unusedSimpArgs false
namespace YtggoebaobojmjaaGreatDoor.AM
theorem k2g (x:List UInt8) (w:World) (hI:Inv w) (hx:x.length<=1000000):Calls Tryz.prog 91 #[.string (ba x)] w fun e w'=>e = .returned (.bool (qj0 x))/\Below w.heap.size w w':=by
 have h:=(k3n 1000001 Inv q1j).1.2 x (qj0 x) (jpt 1000001 x (by omega) (by omega))
 refine (h (fun _ _=>False) w #[.string (ba x)] hI (fun b o h=>h.elim) ⟨q07 _,trivial⟩).mono ?_
 rintro e w' ⟨v,Pc,rfl,hb,_,_,hv⟩
 have hv':v = .bool (qj0 x):=q0d hv
 rw [hv']
 exact ⟨rfl,hb⟩
set_option maxHeartbeats 2000000 in
theorem jkh (s:List UInt8) (w:World) (hI:Inv w):Calls Tryz.prog 57 #[.string (ba s)] w fun e w'=>e = .returned (.bool (qhs s))/\Below w.heap.size w w':=by
 refine (callsIn_wide (n:=9)).1 ?_
 refine callsIn_of_wp_marks Tryz.func57 rfl trivial ?_ rfl
 simp only [Tryz.ntmps57,List.size_toArray,List.length_cons,List.length_nil,Nat.reduceAdd,Nat.reduceSub,Array.replicate_succ,Array.replicate_zero,List.push_toArray,List.append_toArray,List.nil_append,List.cons_append]
 have hsz:(ba s).size=s.length:=q4i s
 by_cases h2:s.length<=60
 ·skip
  gi_wp2_with (refine ⟨trivial,?_⟩;gi_at_call 90;refine (callsIn_wide.2 (q5e _ _ _)).mono ?_;rintro e w' ⟨rfl,rfl⟩)
  obtain ⟨W0,hW0,hs0,hb0,g0,g1,g2,g3⟩:=four w (Obj.cells #[Value.bool false] 4) (Obj.cells #[Value.string (ba s)] 9) (Obj.cells #[Value.string { data:=#[47] }] 9) (Obj.cells #[Value.int IntKind.i64 0] 3)
  rw [hW0]
  clear hW0
  obtain ⟨c1,f1⟩:=q0q g0
  obtain ⟨c2,f2⟩:=q0q g1
  obtain ⟨c3,f3⟩:=q0q g2
  obtain ⟨c4,f4⟩:=q0q g3
  refine range_split (n:=9) (by omega) 47 (w.heap.size+1) (w.heap.size+1+1) (w.heap.size+1+2) s (by omega) rfl ⟨c2,f2⟩
   (Rng (.string (ba [47])) (w.heap.size+1+1) w.heap.size (w.heap.size+1+1) (w.heap.size+1+2) 47 w qj0) (RngX w.heap.size w qj0) (j7t (by omega)) (j8t (by omega))
   (fun pre W h=>⟨h.cP,h.cC,(hI.below h.below).maxLen⟩) (fun pre W v h=>j9q v h (by omega) (by omega) (by omega) (by omega) (by omega)) ⟨c3,c1,f1,c3,c4,hb0,rfl⟩
   (fun x=>{ tmps:=#[.string (ba s),undef,.pointer (some ⟨w.heap.size,0,none⟩),.string (ba x),.string (ba s),.int .i64 s.length,.bool (decide ((60:Int)<s.length)),.string (ba s),.func (.func 139) #[] #[.pointer (some ⟨w.heap.size+1+1,0,none⟩),.pointer (some ⟨w.heap.size+1,0,none⟩),.pointer (some ⟨w.heap.size+1+2,0,none⟩)],.string (ba x),undef,undef,undef],defers:=[] }) ?assign ?body ?done ?stop
  case assign =>
   intro l x W K hK
   gi_wp2
   exact hK
  case body =>
   intro l pre x r W hi hL hx
   have k1:=hi.res
   have k2:=hi.frz
   have hc:=k2g x W (hI.below hi.below) (by omega)
   cases hpx:qj0 x with
   | true =>
    rw [hpx] at hc
    gi_wp2_with (refine ⟨trivial,?_⟩;gi_at_call 91;refine (CallsIn.inRound l (callsIn_wide.2 hc)).mono ?_;rintro e w' ⟨rfl,hb'⟩)
    exact ⟨q1y hb',qmn hi hb' (by simp [hpx]),qhq hL hb'⟩
   | false =>
    rw [hpx] at hc
    gi_wp2_with (refine ⟨trivial,?_⟩;gi_at_call 91;refine (CallsIn.inRound l (callsIn_wide.2 hc)).mono ?_;rintro e w' ⟨rfl,hb'⟩;have k3:=q2a hb' hi.res;have k4:=(q3y hb' hi.res).trans hi.frz)
    exact ⟨(q1y hb').trans (KeepsOthers.setCell _ _ _),World.cell?_setCell_same' _ _ _ (by rw [k3];rfl),(hi.below.trans (hb'.mono hi.below.size)).setCell (by simp) _,by simp [hpx]⟩
  case done =>
   intro D W hD hi hK
   have k1:=hi.res
   have k2:=hi.frz
   gi_wp2
   have hK':=(KeepsOthers.setCell W ⟨w.heap.size,0,none⟩ (.bool true)).same D _ hK rfl
   have hW':Below w.heap.size w (W.setCell ⟨w.heap.size,0,none⟩ (.bool true)):=hi.below.setCell (by simp) _
   have k5:(W.setCell ⟨w.heap.size,0,none⟩ (.bool true)).cell? ⟨w.heap.size,0,none⟩=some (.bool true):=World.cell?_setCell_same' _ _ _ (by rw [k1];rfl)
   generalize W.setCell ⟨w.heap.size,0,none⟩ (.bool true)=W2 at hK' hW' k5
   refine ⟨by simp,.inl ⟨_,_,rfl,run_takeDeferred hK',?_⟩⟩
   have hg:=grownBy_putObj' W2 D (.deferred none)
   refine ⟨_,q2v (b:=w.heap.size) (v:=.bool true) rfl rfl hag (cell_kept k5 hg (fun r e=>by cases e;exact ⟨_,hK',rfl⟩)),?_,?_⟩
   ·have ha:=hi.all
    unfold qhs;simp [h2,ha]
   ·exact hW'.grown hg hW'.size (fun k e=>by cases e;omega)
  case stop =>
   intro D pre x t W hD hsp hi hK
   refine ⟨by simp,.inl ⟨_,_,rfl,run_takeDeferred hK,?_⟩⟩
   have hg:=grownBy_putObj' W D (.deferred none)
   refine ⟨_,q2v (b:=w.heap.size) (v:=.bool false) rfl rfl hag (cell_kept hi.res hg (fun r e=>by cases e;exact ⟨_,hK,rfl⟩)),?_,?_⟩
   ·have ha:=joj hsp hi.no
    unfold qhs;simp [ha]
   ·exact hi.below.grown hg hi.below.size (fun k e=>by cases e;omega)
 ·gi_wp2
  refine ⟨_,q2v (b:=w.heap.size) (v:=.bool false) rfl rfl hag (by simp),?_,?_⟩
  ·unfold qhs;simp [h2]
  ·exact (Below.refl _ w).alloc (Nat.le_refl _) _
def jk4 (s:List UInt8):Option Bool:=some (qhs s)
def jmn:FC:={ f:=57,args:=[job],res:=k2e,F:=fun p=>jk4 p }
theorem k23:q0h Inv Tryz.prog jmn:=fun G hG=>⟨⟨by kernel_rfl,fun (s:List UInt8) r h=>by
 have hr:qhs s=r:=Option.some.inj h
 intro Pc w vs hg hlt hv
 obtain ⟨l⟩:=vs
 match l,hv with
 | [x],⟨h1,_⟩ =>
  obtain rfl:x = .string (ba s):=q0d h1
  refine (jkh s w (hG.im w hg)).mono ?_
  rintro e w' ⟨rfl,hb⟩
  subst hr
  exact qiw rfl hb (q07 _)⟩,rfl⟩
end YtggoebaobojmjaaGreatDoor.AM
end Go.Proofs
namespace Go.Proofs
open Go.RowKit Go.Shelf Go.Lib
attribute [local go_sem] Oper.semAt_some
set_option linter.unusedVariables false
set_option linter.unusedSimpArgs false
namespace YtggoebaobojmjaaGreatDoor.AM
theorem jz2 (x:List UInt8) (w:World) (hI:Inv w) (hx:x.length<=1000000):Calls Tryz.prog 59 #[.string (ba x)] w fun e w'=>e = .returned (.bool (q1g x))/\Below w.heap.size w w':=by
 have h:=(jat 1000001 Inv q1j).1.2 x (q1g x) (qxx 1000001 x (by omega))
 refine (h (fun _ _=>False) w #[.string (ba x)] hI (fun b o h=>h.elim) ⟨q07 _,trivial⟩).mono ?_
 rintro e w' ⟨v,Pc,rfl,hb,_,_,hv⟩
 have hv':v = .bool (q1g x):=q0d hv
 rw [hv']
 exact ⟨rfl,hb⟩
set_option maxHeartbeats 2000000 in
theorem jrz (s:List UInt8) (w:World) (hI:Inv w) (h2:s.length<=1000000):Calls Tryz.prog 58 #[.string (ba s)] w fun e w'=>e = .returned (.bool (anyS s))/\Below w.heap.size w w':=by
 refine (callsIn_wide (n:=9)).1 ?_
 refine callsIn_of_wp_marks Tryz.func58 rfl trivial ?_ rfl
 simp only [Tryz.ntmps58,List.size_toArray,List.length_cons,List.length_nil,Nat.reduceAdd,Nat.reduceSub,Array.replicate_succ,Array.replicate_zero,List.push_toArray,List.append_toArray,List.nil_append,List.cons_append]
 have hsz:(ba s).size=s.length:=q4i s
 have key:anyS s = !((spl 47 [] s).all fun x=>!q1g x):=by unfold anyS;rw [List.any_eq_not_all_not]
 ·skip
  gi_wp2_with (refine ⟨trivial,?_⟩;gi_at_call 90;refine (callsIn_wide.2 (q5e _ _ _)).mono ?_;rintro e w' ⟨rfl,rfl⟩)
  obtain ⟨W0,hW0,hs0,hb0,g0,g1,g2,g3⟩:=four w (Obj.cells #[Value.bool false] 4) (Obj.cells #[Value.string (ba s)] 9) (Obj.cells #[Value.string { data:=#[47] }] 9) (Obj.cells #[Value.int IntKind.i64 0] 3)
  rw [hW0]
  clear hW0
  obtain ⟨c1,f1⟩:=q0q g0
  obtain ⟨c2,f2⟩:=q0q g1
  obtain ⟨c3,f3⟩:=q0q g2
  obtain ⟨c4,f4⟩:=q0q g3
  refine range_split (n:=9) (by omega) 47 (w.heap.size+1) (w.heap.size+1+1) (w.heap.size+1+2) s (by omega) rfl ⟨c2,f2⟩
   (Rng (.string (ba [47])) (w.heap.size+1+1) w.heap.size (w.heap.size+1+1) (w.heap.size+1+2) 47 w (fun x=>!q1g x)) (RngY w.heap.size w (fun x=>!q1g x)) (j7t (by omega)) (k3o (by omega))
   (fun pre W h=>⟨h.cP,h.cC,(hI.below h.below).maxLen⟩) (fun pre W v h=>j9q v h (by omega) (by omega) (by omega) (by omega) (by omega)) ⟨c3,c1,f1,c3,c4,hb0,rfl⟩
   (fun x=>{ tmps:=#[.string (ba s),undef,.pointer (some ⟨w.heap.size,0,none⟩),.string (ba x),.string (ba s),.func (.func 139) #[] #[.pointer (some ⟨w.heap.size+1+1,0,none⟩),.pointer (some ⟨w.heap.size+1,0,none⟩),.pointer (some ⟨w.heap.size+1+2,0,none⟩)],.string (ba x),undef,undef],defers:=[] }) ?assign ?body ?done ?stop
  case assign =>
   intro l x W K hK
   gi_wp2
   exact hK
  case body =>
   intro l pre x r W hi hL hx
   have k1:=hi.res
   have k2:=hi.frz
   have hc:=jz2 x W (hI.below hi.below) (by omega)
   cases hpx:q1g x with
   | false =>
    rw [hpx] at hc
    gi_wp2_with (refine ⟨trivial,?_⟩;gi_at_call 59;refine (CallsIn.inRound l (callsIn_wide.2 hc)).mono ?_;rintro e w' ⟨rfl,hb'⟩)
    exact ⟨q1y hb',qmn hi hb' (by simp [hpx]),qhq hL hb'⟩
   | true =>
    rw [hpx] at hc
    gi_wp2_with (refine ⟨trivial,?_⟩;gi_at_call 59;refine (CallsIn.inRound l (callsIn_wide.2 hc)).mono ?_;rintro e w' ⟨rfl,hb'⟩;have k3:=q2a hb' hi.res;have k4:=(q3y hb' hi.res).trans hi.frz)
    exact ⟨(q1y hb').trans (KeepsOthers.setCell _ _ _),World.cell?_setCell_same' _ _ _ (by rw [k3];rfl),(hi.below.trans (hb'.mono hi.below.size)).setCell (by simp) _,by simp [hpx]⟩
  case done =>
   intro D W hD hi hK
   have k1:=hi.res
   have k2:=hi.frz
   gi_wp2
   have hK':=(KeepsOthers.setCell W ⟨w.heap.size,0,none⟩ (.bool false)).same D _ hK rfl
   have hW':Below w.heap.size w (W.setCell ⟨w.heap.size,0,none⟩ (.bool false)):=hi.below.setCell (by simp) _
   have k5:(W.setCell ⟨w.heap.size,0,none⟩ (.bool false)).cell? ⟨w.heap.size,0,none⟩=some (.bool false):=World.cell?_setCell_same' _ _ _ (by rw [k1];rfl)
   generalize W.setCell ⟨w.heap.size,0,none⟩ (.bool false)=W2 at hK' hW' k5
   refine ⟨by simp,.inl ⟨_,_,rfl,run_takeDeferred hK',?_⟩⟩
   have hg:=grownBy_putObj' W2 D (.deferred none)
   refine ⟨_,q2v (b:=w.heap.size) (v:=.bool false) rfl rfl hag (cell_kept k5 hg (fun r e=>by cases e;exact ⟨_,hK',rfl⟩)),?_,?_⟩
   ·have ha:=hi.all
    rw [key,ha];rfl
   ·exact hW'.grown hg hW'.size (fun k e=>by cases e;omega)
  case stop =>
   intro D pre x t W hD hsp hi hK
   refine ⟨by simp,.inl ⟨_,_,rfl,run_takeDeferred hK,?_⟩⟩
   have hg:=grownBy_putObj' W D (.deferred none)
   refine ⟨_,q2v (b:=w.heap.size) (v:=.bool true) rfl rfl hag (cell_kept hi.res hg (fun r e=>by cases e;exact ⟨_,hK,rfl⟩)),?_,?_⟩
   ·have ha:=joj hsp hi.no
    rw [key,ha];rfl
   ·exact hi.below.grown hg hi.below.size (fun k e=>by cases e;omega)
theorem jy0 (s:List UInt8) (b:Nat):(ba s).extract 0 b=ba (s.take b):=by
 rw [<-k4r ((ba s).extract 0 b)]
 congr 1
 unfold unB ba
 rw [ByteArray.data_extract]
 simp
theorem jyk (x:List UInt8) (w:World) (hI:Inv w) (hx:x.length<=1000000):Calls Tryz.prog 89 #[.string (ba x),.int .u8 47] w fun e w'=>e = .returned (.int .i64 (qbr 47 x))/\Below w.heap.size w w':=by
 have h:=(jox 1000001 Inv q1j).1.2 (x,(47:Int)) (qbr 47 x) (j2u 1000001 x (by omega) (by omega))
 refine (h (fun _ _=>False) w #[.string (ba x),.int .u8 47] hI (fun b o h=>h.elim) ⟨q07 _,q07 _,trivial⟩).mono ?_
 rintro e w' ⟨v,Pc,rfl,hb,_,_,hv⟩
 have hv':v = .int .i64 (qbr 47 x):=q0d hv
 rw [hv']
 exact ⟨rfl,hb⟩
theorem jj4 (s:List UInt8) (w:World) (hI:Inv w) (hs:s.length<=1000000):Calls Tryz.prog 55 #[.string (ba s)] w fun e w'=>e = .returned (.string (ba (q2j s)))/\Below w.heap.size w w':=by
 have hl:=jl5 47 s
 have hsz:(ba s).size=s.length:=q4i s
 have hc:=jyk s w hI hs
 go_enter Tryz.func55,Tryz.ntmps55
 by_cases h0:qbr 47 s = -1
 ·rw [h0] at hc
  go_wp2_with (go_at_call 89;refine hc.mono ?_)
  rintro e w' ⟨rfl,hb⟩
  go_wp2
  go_ret
  refine ⟨?_,hb⟩
  show Ending.returned (.string ((ba s).extract 0 (max 0 (-1:Int)).toNat))=_
  rw [jy0];unfold q2j;rw [h0];rfl
 ·obtain ⟨k,hk⟩ : ∃ k:Nat,qbr 47 s=(k:Int):=⟨(qbr 47 s).toNat,by omega⟩
  rw [hk] at hc
  go_wp2_with (go_at_call 89;refine hc.mono ?_)
  rintro e w' ⟨rfl,hb⟩
  go_wp2
  go_ret
  refine ⟨?_,hb⟩
  show Ending.returned (.string ((ba s).extract 0 (max 0 (k:Int)).toNat))=_
  rw [jy0];unfold q2j;rw [hk,Int.max_eq_right (by omega)]
theorem k1k (x:List UInt8) (w:World) (hI:Inv w) (hx:x.length<=1000000):Calls Tryz.prog 94 #[.string (ba x),.string (ba [118])] w fun e w'=>e = .returned (.string (ba (q4m x)))/\Below w.heap.size w w':=by
 have h:=(j77 100 Inv q1j).1.2 (x,([118]:List UInt8)) (q4m x) (jwx 100 x (by omega))
 refine (h (fun _ _=>False) w #[.string (ba x),.string (ba [118])] hI (fun b o h=>h.elim) ⟨q07 _,q07 _,trivial⟩).mono ?_
 rintro e w' ⟨v,Pc,rfl,hb,_,_,hv⟩
 have hv':v = .string (ba (q4m x)):=q0d hv
 rw [hv']
 exact ⟨rfl,hb⟩
theorem jvw (n:Int) (w:World) (hI:Inv w) (h0:2<=n) (h1:n<=999999999):Calls Tryz.prog 96 #[.int .i64 n] w fun e w'=>e = .returned (.string (ba (Lib.itoa n)))/\Below w.heap.size w w':=by
 refine (Any.strconv_Itoa Tryz.laysItoa n (by omega) (by omega) w hI.tab).mono ?_
 rintro e w' ⟨rfl,k,os,rfl⟩
 exact ⟨rfl,Lib.below_grow _ w (Nat.le_refl _) k os⟩
set_option maxHeartbeats 2000000 in
theorem jqe (s:List UInt8) (w:World) (hI:Inv w) (hs:s.length<=1000000):Calls Tryz.prog 60 #[.string (ba s)] w fun e w'=>e = .returned (.tuple #[.int .i64 (numOf (q4m s)),.bool (j28 (q4m s))])/\Below w.heap.size w w':=by
 have hc:=k1k s w hI hs
 have hl:=jvf s
 go_enter Tryz.func60,Tryz.ntmps60
 go_wp2_with (go_at_call 94;refine hc.mono ?_)
 rintro e w1 ⟨rfl,hb1⟩
 clear hc
 have hI1:=hI.below hb1
 have e1:(ba (q4m s)).data.toList=q4m s:=by simp [ba]
 have hl':(ba (q4m s)).size<=281474976710656:=by rw [q4i];omega
 obtain ⟨ts,ps,hsy⟩:=hI1.syn
 obtain ⟨tr,pr,hrg⟩:=hI1.rng
 cases h:Lib.atoiAll (q4m s) with
 | ok v =>
  go_wp2_with (go_at_call 95;refine (Any.strconv_Atoi_ok Tryz.laysAtoi (ba (q4m s)) (by omega) v (by rw [e1];exact h) w1).mono ?_)
  rintro e w2 ⟨rfl,hw⟩
  have hb2:Below w1.heap.size w1 w2:=by
   rcases hw with rfl|⟨t,rfl⟩
   ·exact Below.refl _ _
   ·exact Lib.bytesWorld_below _ _ _
  clear hw
  have hb:Below w.heap.size w w2:=hb1.trans (hb2.mono hb1.size)
  by_cases h2:2<=v
  ·by_cases h3:v<=999999999
   ·have hi:=jvw v w2 (hI.below hb) h2 h3
    go_wp2_with (go_at_call 96;refine hi.mono ?_)
    rintro e w3 ⟨rfl,hb3⟩
    go_wp2
    go_ret2
    refine ⟨?_,hb.trans (hb3.mono hb.size)⟩
    unfold numOf j28;rw [h]
    simp [h2,h3,qbg]
    rw [Bool.eq_iff_iff];simp
   ·go_wp2
    go_ret2
    refine ⟨?_,hb⟩
    unfold numOf j28;rw [h]
    simp [h2,show ¬ v<=999999999 from by omega]
  ·go_wp2
   go_ret2
   refine ⟨?_,hb⟩
   unfold numOf j28;rw [h]
   simp [show ¬ 2<=v from by omega]
 | «syntax» =>
  go_wp2_with (go_at_call 95;refine (Any.strconv_Atoi_syntax Tryz.laysAtoi (ba (q4m s)) hl' (by rw [e1];exact h) _ w1 hsy (Or.inr ⟨_,_,rfl⟩)).mono ?_)
  rintro e w2 ⟨N,rfl,hN,hc,hb2⟩
  go_wp2
  go_ret2
  refine ⟨?_,hb1.trans (hb2.mono hb1.size)⟩
  unfold numOf j28;rw [h];rfl
 | range =>
  go_wp2_with (go_at_call 95;refine (Any.strconv_Atoi_range Tryz.laysAtoi (ba (q4m s)) hl' (by rw [e1];exact h) _ w1 hrg (Or.inr ⟨_,_,rfl⟩)).mono ?_)
  rintro e w2 ⟨N,rfl,hN,hc,hb2⟩
  rw [e1]
  go_wp2
  go_ret2
  refine ⟨?_,hb1.trans (hb2.mono hb1.size)⟩
  unfold numOf j28;rw [h];rfl
def ja3 (s:List UInt8):Option Bool:=if s.length<=1000000 then some (anyS s) else none
def jww:FC:={ f:=58,args:=[job],res:=k2e,F:=fun p=>ja3 p }
theorem k6v:q0h Inv Tryz.prog jww:=fun G hG=>⟨⟨by kernel_rfl,fun (s:List UInt8) r h=>by
 have h':ja3 s=some r:=h
 unfold ja3 at h'
 split at h'
 case isFalse=>cases h'
 rename_i hc
 have hr:anyS s=r:=Option.some.inj h'
 intro Pc w vs hg hlt hv
 obtain ⟨l⟩:=vs
 match l,hv with
 | [x],⟨h1,_⟩ =>
  obtain rfl:x = .string (ba s):=q0d h1
  refine (jrz s w (hG.im w hg) hc).mono ?_
  rintro e w' ⟨rfl,hb⟩
  subst hr
  exact qiw rfl hb (q07 _)⟩,rfl⟩
def qy1 (s:List UInt8):Option (List UInt8):=if s.length<=1000000 then some (q2j s) else none
def jl1:FC:={ f:=55,args:=[job],res:=job,F:=fun p=>qy1 p }
theorem k06:q0h Inv Tryz.prog jl1:=fun G hG=>⟨⟨by kernel_rfl,fun (s:List UInt8) r h=>by
 have h':qy1 s=some r:=h
 unfold qy1 at h'
 split at h'
 case isFalse=>cases h'
 rename_i hc
 have hr:q2j s=r:=Option.some.inj h'
 intro Pc w vs hg hlt hv
 obtain ⟨l⟩:=vs
 match l,hv with
 | [x],⟨h1,_⟩ =>
  obtain rfl:x = .string (ba s):=q0d h1
  refine (jj4 s w (hG.im w hg) hc).mono ?_
  rintro e w' ⟨rfl,hb⟩
  subst hr
  exact qiw rfl hb (q07 (.string (ba (q2j s))))⟩,rfl⟩
def j3c (s:List UInt8):Option (Int×Bool):=if s.length<=1000000 then some (numOf (q4m s),j28 (q4m s)) else none
def jwr:FC:={ f:=60,args:=[job],res:=.tup [.c (.d (.int .i64)),.c (.d .bool)],F:=fun p=>j3c p }
theorem k5b:q0h Inv Tryz.prog jwr:=fun G hG=>⟨⟨by kernel_rfl,fun (s:List UInt8) (r:Int×Bool) h=>by
 have h':j3c s=some r:=h
 unfold j3c at h'
 split at h'
 case isFalse=>cases h'
 rename_i hc
 have hr:(numOf (q4m s),j28 (q4m s))=r:=Option.some.inj h'
 intro Pc w vs hg hlt hv
 obtain ⟨l⟩:=vs
 match l,hv with
 | [x],⟨h1,_⟩ =>
  obtain rfl:x = .string (ba s):=q0d h1
  refine (jqe s w (hG.im w hg) hc).mono ?_
  rintro e w' ⟨rfl,hb⟩
  subst hr
  refine ⟨_,Pc,rfl,hb,fun _ _ h=>h,fun _ _ h=>Or.inl h,?_⟩
  exact ⟨#[.int .i64 (numOf (q4m s)),.bool (j28 (q4m s))],rfl,q07 (σ:=q38) (.int .i64 (numOf (q4m s))),q07 (σ:=q38) (.bool (j28 (q4m s))),trivial⟩⟩,rfl⟩
end YtggoebaobojmjaaGreatDoor.AM
end Go.Proofs
