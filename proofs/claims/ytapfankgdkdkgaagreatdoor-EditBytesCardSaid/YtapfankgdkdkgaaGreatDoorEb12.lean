
import Derived.Test.YtapfankgdkdkgaaGreatDoorEb10
import Derived.Lib.SlTrimSet
import Derived.Test.YtapfankgdkdkgaaGreatDoorEb11
import Derived.Shelf.Strings.SlTrimAscii
set_option linter.unusedVariables false
set_option linter.unusedSimpArgs false
namespace Go.Proofs.YtapfankgdkdkgaaGreatDoor.AM
open Go.RowKit
def qgb (c:UInt8):Bool:=qqm c||decide (c.toNat=95)||decide (c.toNat=46)
def qcq (s:Yy):Bool:=!decide (s = [])&&(!decide (s = [46])&&(!decide (s = [46,46])&&s.all qgb))
def q4u (s:Yy):Bool:=decide (s.length<=60)&&(spl 47 [] s).all qcq
def q1x (w:Yy):Bool:=decide (w.head? = some 118)&&q2q (w.drop 1)
def anyS (s:Yy):Bool:=(spl 47 [] s).any q1x
def q9a (c:UInt8):Yy->Int
 | []=>-1
 | b::r=>if b=c then (r.length:Int) else q9a c r
def qah (c:UInt8) (s:Yy):Int:=q9a c s.reverse
theorem jhg (c:UInt8) : ∀l,-1<=q9a c l/\q9a c l<(l.length:Int)
 | []=>by simp [q9a]
 | b::r=>by
  have:=jhg c r
  rw [q9a];split
  ·simp;omega
  ·simp;omega
theorem jku (c:UInt8) (s:Yy) : -1<=qah c s/\qah c s<(s.length:Int):=by
 have:=jhg c s.reverse;unfold qah;simpa using this
theorem qz7 (c:UInt8) : ∀l,c ∉ l->q9a c l = -1
 | [],_=>rfl
 | b::r,h=>by
  have h1:b≠c:=fun e=>h (by simp [e])
  rw [q9a,if_neg h1,qz7 c r (fun e=>h (by simp [e]))]
theorem jcc (c:UInt8) : ∀(y x:Yy),c ∉ y->q9a c (y++c::x)=(x.length:Int)
 | [],x,_=>by simp [q9a]
 | b::y,x,h=>by
  have h1:b≠c:=fun e=>h (by simp [e])
  rw [List.cons_append,q9a,if_neg h1,jcc c y x (fun e=>h (by simp [e]))]
theorem jp3 {c:UInt8} {s:Yy} (h:c ∉ s):qah c s = -1:=qz7 c _ (by simpa using h)
theorem jxl {c:UInt8} {x y:Yy} (h:c ∉ y):qah c (x++c::y)=(x.length:Int):=by
 have:=jcc c y.reverse x.reverse (by simpa using h)
 unfold qah
 simpa using this
def q2y (s:Yy):Yy:=s.take (qah 47 s).toNat
def q2w (s:Yy):Yy:=s.drop (qah 47 s+1).toNat
theorem jih (c:UInt8) : ∀s:Yy,c ∉ s \/ ∃ x y,s=x++c::y/\c ∉ y
 | []=>Or.inl (by simp)
 | b::s=>by
  rcases jih c s with h|⟨x,y,rfl,h⟩
  ·by_cases hb:b=c
   ·subst hb;exact Or.inr ⟨[],s,rfl,h⟩
   ·exact Or.inl (by simp [h,Ne.symm hb])
  ·exact Or.inr ⟨b::x,y,rfl,h⟩
theorem jbk {s:Yy} (h:47 ∉ s):q2y s = []/\q2w s=s:=by
 unfold q2y q2w;rw [jp3 h];exact ⟨rfl,rfl⟩
theorem jjl {x y:Yy} (h:47 ∉ y):q2y (x++47::y)=x/\q2w (x++47::y)=y:=by
 unfold q2y q2w;rw [jxl h]
 constructor
 ·simp
 ·rw [show (((x.length:Nat):Int)+1).toNat=x.length+1 from by omega];simp
theorem jgv (c:UInt8) : ∀(x cur y:Yy),spl c cur (x++c::y)=spl c cur x++spl c [] y
 | [],cur,y=>by simp [spl]
 | b::x,cur,y=>by
  rw [List.cons_append,spl,spl]
  split
  ·rw [jgv c x];rfl
  ·rw [jgv c x]
theorem jns (s:Yy):(47 ∉ s/\q2y s = []/\q2w s=s/\spl 47 [] s = [s])\/(s=q2y s++47::q2w s/\47 ∉ q2w s/\spl 47 [] s=spl 47 [] (q2y s) ++ [q2w s]):=by
 rcases jih 47 s with h|⟨x,y,rfl,h⟩
 ·exact Or.inl ⟨h,(jbk h).1,(jbk h).2,qdr 47 s h⟩
 ·refine Or.inr ?_
  rw [(jjl h).1,(jjl h).2]
  exact ⟨rfl,h,by rw [jgv,qdr 47 y h]⟩
abbrev jp7:Yy:=[48,49,50,51,52,53,54,55,56,57]
theorem k1d (c:UInt8):jp7.contains c=q1e c:=by
 have h : ∀k:Fin 256,jp7.contains (UInt8.ofNat k.val)=q1e (UInt8.ofNat k.val):=by decide +kernel
 have h1:=h ⟨c.toNat,c.toNat_lt⟩
 simpa using h1
theorem dropWhile_nil (p:UInt8->Bool) : ∀l:Yy,l.dropWhile p = []↔l.all p=true
 | []=>by simp
 | b::l=>by
  rw [List.dropWhile_cons]
  cases h:p b with
  | true=>simp [h,dropWhile_nil p l]
  | false=>simp [h]
theorem qkm {p:UInt8->Bool} {c:UInt8} : ∀{l:Yy},c∈l->p c=false->c∈l.dropWhile p
 | b::l,h,hp=>by
  rw [List.dropWhile_cons]
  rcases List.mem_cons.1 h with rfl|h
  ·simp [hp]
  ·cases hb:p b with
   | true=>simpa using qkm h hp
   | false=>simp [h]
theorem k1n (s:Yy):decide (Lib.trimS s jp7 = [])=s.all q1e:=by
 have he:(fun c=>jp7.contains c)=q1e:=funext k1d
 unfold Lib.trimS Lib.trimRightS Lib.trimLeftS
 rw [he]
 cases h:s.all q1e with
 | true =>
  have h2:s.reverse.all q1e=true:=by rw [List.all_reverse];exact h
  rw [(dropWhile_nil q1e s.reverse).2 h2];simp
 | false =>
  rw [decide_eq_false_iff_not,dropWhile_nil]
  intro hc
  have h3 : ∃ c,c∈s/\q1e c=false:=by
   have:=List.all_eq_false.1 h
   obtain ⟨c,hc,hn⟩:=this
   exact ⟨c,hc,by simpa using hn⟩
  obtain ⟨c,hm,hn⟩:=h3
  have h4:c∈(s.reverse.dropWhile q1e).reverse:=by simpa using qkm (l:=s.reverse) (by simpa using hm) hn
  have:=List.all_eq_true.1 hc c h4
  rw [hn] at this;cases this
def numOf (s:Yy):Int:=match Lib.atoiAll s with
 | .ok v=>v
 | .range=>Lib.atoiSat s
 | _=>0
def qyf (s:Yy):Bool:=match Lib.atoiAll s with
 | .ok v=>decide (2<=v)&&(decide (v<=999999999)&&decide (s=Lib.itoa v))
 | _=>false
theorem jvz {n:Int} (h0:2<=n) (h1:n<=999999999):qyf (Lib.itoa n)=true/\numOf (Lib.itoa n)=n:=by
 unfold qyf numOf;rw [qic (by omega) h1];simp [h0,h1]
theorem jal {s:Yy} (h:qyf s=true):2<=numOf s/\numOf s<=999999999/\s=Lib.itoa (numOf s):=by
 unfold qyf at h;unfold numOf
 cases e:Lib.atoiAll s with
 | ok v=>rw [e] at h;simpa using h
 | range=>rw [e] at h;cases h
 | «syntax»=>rw [e] at h;cases h
def okS (p:Yy):Bool:=q4u p&&(!anyS (q2y p)&&(!q1x (q2w p)||(qyf ((q2w p).drop 1) && !decide (q2y p = []))))
def qe8 (p:Yy):Yy×(Int×Bool):=if okS p then (if q1x (q2w p) then (q2y p,(numOf ((q2w p).drop 1),true)) else (p,(0,true))) else ([],(0,false))
theorem qli {s:Yy} (h:q4u s=true):s.length<=60/\(spl 47 [] s).all qcq=true:=by
 unfold q4u at h;simpa using h
theorem k5j {s:Yy} (h:q4u s=true):s ≠ []:=by
 rintro rfl;exact absurd h (by decide)
theorem jd6 {p:Yy} (h:okS p=true):q4u p=true/\anyS (q2y p)=false/\(q1x (q2w p)=true->qyf ((q2w p).drop 1)=true/\q2y p ≠ []):=by
 unfold okS at h
 simp only [Bool.and_eq_true,Bool.or_eq_true,Bool.not_eq_true',decide_eq_false_iff_not] at h
 refine ⟨h.1,h.2.1,fun ht=>?_⟩
 rcases h.2.2 with h3|h3
 ·rw [ht] at h3;cases h3
 ·exact h3
end Go.Proofs.YtapfankgdkdkgaaGreatDoor.AM
namespace Go.Proofs
open Go.RowKit Go.Shelf Go.Lib
shelf_lay Lays.n160 Nm 160 at Tryz as Tryz.laysTrim
namespace YtapfankgdkdkgaaGreatDoor.AM
def qwl (s cs:List UInt8):Option (List UInt8):=if cs=jp7/\s.length<=1000000 then some (Lib.trimS s jp7) else none
def jie:FC:={ f:=166,args:=[qyy,qyy],res:=qyy,F:=fun p=>qwl p.1 p.2 }
theorem jzt:q09 Inv Tryz.prog jie:=fun G hG=>⟨⟨by kernel_rfl,fun a r h=>by
 obtain ⟨s,cs⟩:=a
 have h':qwl s cs=some r:=h
 unfold qwl at h'
 split at h'
 case isFalse=>cases h'
 rename_i hc
 obtain ⟨rfl,hl⟩:=hc
 have hr:Lib.trimS s jp7=r:=Option.some.inj h'
 intro Pc w vs hg hlt hv
 obtain ⟨l⟩:=vs
 match l,hv with
 | [x,y],⟨h1,h2,_⟩ =>
  obtain rfl:x = .string (ba s):=q0d h1
  obtain rfl:y = .string (ba jp7):=q0d h2
  have e1:(ba s).data.toList=s:=by simp [ba]
  have e2:(ba jp7).data.toList=jp7:=by simp [ba]
  have hh:=Any.strings_Trim_laid Tryz.laysTrim (by kernel_rfl) (ba s) (ba jp7) w (by rw [q3m];omega) (by rw [q3m];decide) (by rw [e2];exact ascii_of_all (by decide))
  rw [e1,e2,hr] at hh
  refine hh.mono ?_
  rintro e w' ⟨rfl,hb⟩
  exact q58 rfl hb (q08 (.string (ba r)))⟩,rfl⟩
end YtapfankgdkdkgaaGreatDoor.AM
end Go.Proofs
namespace Go.Proofs.YtapfankgdkdkgaaGreatDoor.AM
open Go.RowKit
set_option maxRecDepth 20000
@[reducible] def qjj:SSt:=⟨[(0,.one (.c (.d .str))),(1,.one (.c (.d (.int .u8)))),(5,.one (.c (.d (.int .i64))))],[],[]⟩
@[reducible] def qbr:List (Exit×SSt):=[(.ret,⟨[(4,.one (.c (.d (.int .i64))))],[],[]⟩),(.exit 0,⟨[],[],[]⟩)]
def qpo (n:Nat) (rec:(Yy)->Int->Int->Option (((Int×Unit)×Unit×Unit)⊕(Unit×Unit×Unit))) (a1:Yy) (a2:Int) (a3:Int):Option (((Int×Unit)×Unit×Unit)⊕(Unit×Unit×Unit)) :=
 (bif decide (0<=a3) then (sAt a1 a3).bind fun c2=>(bif decide (c2=a2) then some (Sum.inl ((a3,()),((),()))) else q04 (IntKind.wrap .i64 (a3 - (1:Int))) fun n3=>rec a1 a2 n3) else some (Sum.inr (((),((),())))))
def j43 (n:Nat) (rec:pSt qjj->Option (q0f qbr)) (p:pSt qjj):Option (q0f qbr):=qpo n (fun a1 a2 a3=>rec ((a1,(a2,(a3,()))),((),()))) p.1.1 p.1.2.1 p.1.2.2.1
def qc4 (n m:Nat) (a1:Yy) (a2:Int) (a3:Int):Option (((Int×Unit)×Unit×Unit)⊕(Unit×Unit×Unit)):=q0g (j43 n) m ((a1,(a2,(a3,()))),((),()))
theorem qcm (n m:Nat) (a1 a2 a3):qc4 n (m+1) a1 a2 a3=qpo n (fun a1 a2 a3=>qc4 n m a1 a2 a3) a1 a2 a3:=rfl
def jhq (n:Nat):LC:={ sh:=qjj,outs:=qbr,F:=q0g (j43 n) n }
def qs6 (n:Nat):List LC:=[jhq n]
def qtd (n:Nat) (a1:Yy) (a2:Int):Option (Int) :=
 q04 (IntKind.wrap .i64 ((a1.length:Int) - (1:Int))) fun (n1:Int)=>(qc4 n n a1 a2 n1).bind fun o4=>Sum.elim (fun (q5:(Int×Unit)×Unit×Unit)=>some q5.1.1) (fun (q6:(Unit)×Unit×Unit)=>some (-1:Int)) o4
def qer (n:Nat):FC:={ f:=80,args:=[.one (.c (.d .str)),.one (.c (.d (.int .u8)))],res:=.one (.c (.d (.int .i64))),F:=fun p=>qtd n p.1 p.2 }
def j47 (n:Nat):List FC:=[]
theorem j1c (n:Nat) {G:World->Prop} (hG:Know Inv G) : ∀c∈j47 n,q0p Tryz.prog G c/\q07 c.args=true:=(fun _ h=>by cases h)
def j2d:q06:=[]
theorem jkc:drB j2d (q00 Tryz.f80)=true:=by kernel_rfl
theorem jwa (n:Nat) : ∀rec p,j43 n rec p=round Tryz.prog 19 (j47 n) (qs6 n) j2d 1 qjj qbr (q01 0 0 (q00 Tryz.f80)) rec p:=by intro rec p;kernel_rfl
theorem jnr (n:Nat) {F:Fr} (hF:F.n=19) (hK:Know Inv F.G):q75 Tryz.prog F (jhq n) (q01 0 0 (q00 Tryz.f80)) :=
 q0i hF (by kernel_rfl) (j1c n hK) (jwa n) (fuel:=n) (fun _=>rfl) (q02 fun j L h1 h2 h3=>absurd h2 (Nat.not_lt.2 (Nat.le_trans (by decide +kernel) h1))) (q0t jkc)
theorem k0q (n:Nat) : ∀a,(qer n).F a=main Tryz.prog 19 (j47 n) (qs6 n) j2d (q00 Tryz.f80) [.tmp 4] (qer n).args (qer n).res a:=by intro a;kernel_rfl
theorem jiv (n:Nat):q09 Inv Tryz.prog (qer n):=fun G hG=>⟨⟨by kernel_rfl,fun a r h=>q03 (c:=q00 Tryz.f80) Tryz.func80 (by kernel_rfl) (by kernel_rfl) (Nat.le_of_ble_eq_true (by kernel_rfl)) hG.st (by kernel_rfl) (rs:=[.tmp 4]) (by kernel_rfl) (j1c n hG) (lts:=qs6 n) (fun F hF hFG=>have hK:Know Inv F.G:=hFG ▸ hG;(q02 (c:=(q00 Tryz.f80)) (fun j L h1 h2 h3=>by
  have h2':j<1:=Nat.lt_of_lt_of_le h2 (by decide +kernel)
  match j,h1,h2',h3 with
  | 0,_,_,h3=>obtain rfl:=Option.some.inj h3;exact (show q01 0 0 (q00 Tryz.f80)=q01 0 0 (q00 Tryz.f80) by kernel_rfl) ▸ jnr n hF hK
  | j+1,_,h2',_=>exact absurd h2' (by omega)))) jkc ((k0q n a).symm.trans h)⟩,rfl⟩
def j6d (n:Nat):List LC:=[]
def j20 (n:Nat) (a1:Yy) (a2:Int):Option (Int) :=
 (qtd n a1 a2).bind fun r1=>some r1
def qj1 (n:Nat):FC:={ f:=164,args:=[.one (.c (.d .str)),.one (.c (.d (.int .u8)))],res:=.one (.c (.d (.int .i64))),F:=fun p=>j20 n p.1 p.2 }
def jki (n:Nat):List FC:=[qer n]
theorem jm0 (n:Nat) {G:World->Prop} (hG:Know Inv G) : ∀c∈jki n,q0p Tryz.prog G c/\q07 c.args=true:=List.forall_mem_cons.2 ⟨jiv n G hG,(fun _ h=>by cases h)⟩
def jj7:q06:=[]
theorem jzk:drB jj7 (q00 Tryz.f164)=true:=by kernel_rfl
theorem k0c (n:Nat) : ∀a,(qj1 n).F a=main Tryz.prog 8 (jki n) (j6d n) jj7 (q00 Tryz.f164) [.tmp 4] (qj1 n).args (qj1 n).res a:=by intro a;kernel_rfl
theorem jjw (n:Nat):q09 Inv Tryz.prog (qj1 n):=fun G hG=>⟨⟨by kernel_rfl,fun a r h=>q03 (c:=q00 Tryz.f164) Tryz.func164 (by kernel_rfl) (by kernel_rfl) (Nat.le_of_ble_eq_true (by kernel_rfl)) hG.st (by kernel_rfl) (rs:=[.tmp 4]) (by kernel_rfl) (jm0 n hG) (lts:=j6d n) (fun F hF hFG=>have hK:Know Inv F.G:=hFG ▸ hG;(q02 fun j L h1 h2 h3=>absurd h2 (Nat.not_lt.2 (Nat.le_trans (by decide +kernel) h1)))) jzk ((k0c n a).symm.trans h)⟩,rfl⟩
def qgp (n:Nat):List LC:=[]
def qe7 (n:Nat) (a1:Yy) (a2:Yy):Option (Yy×(Bool)) :=
 (q1t n a1 a2).bind fun r1=>(bif !r1 then some (a1,false) else (q1d a1 (a2.length:Int) (a1.length:Int)).bind fun s2=>some (s2,true))
def q4g (n:Nat):FC:={ f:=190,args:=[.one (.c (.d .str)),.one (.c (.d .str))],res:=.tup [.c (.d .str),.c (.d .bool)],F:=fun p=>qe7 n p.1 p.2 }
def qk4 (n:Nat):List FC:=[q0s n]
theorem qty (n:Nat) {G:World->Prop} (hG:Know Inv G) : ∀c∈qk4 n,q0p Tryz.prog G c/\q07 c.args=true:=List.forall_mem_cons.2 ⟨q4d n G hG,(fun _ h=>by cases h)⟩
def qka:q06:=[]
theorem j2v:drB qka (q00 Tryz.f190)=true:=by kernel_rfl
theorem j52 (n:Nat) : ∀a,(q4g n).F a=main Tryz.prog 15 (qk4 n) (qgp n) qka (q00 Tryz.f190) [.tmp 4,.tmp 5] (q4g n).args (q4g n).res a:=by intro a;kernel_rfl
theorem j3j (n:Nat):q09 Inv Tryz.prog (q4g n):=fun G hG=>⟨⟨by kernel_rfl,fun a r h=>q03 (c:=q00 Tryz.f190) Tryz.func190 (by kernel_rfl) (by kernel_rfl) (Nat.le_of_ble_eq_true (by kernel_rfl)) hG.st (by kernel_rfl) (rs:=[.tmp 4,.tmp 5]) (by kernel_rfl) (qty n hG) (lts:=qgp n) (fun F hF hFG=>have hK:Know Inv F.G:=hFG ▸ hG;(q02 fun j L h1 h2 h3=>absurd h2 (Nat.not_lt.2 (Nat.le_trans (by decide +kernel) h1)))) j2v ((j52 n a).symm.trans h)⟩,rfl⟩
def qji (n:Nat):List LC:=[]
def qc1 (n:Nat) (a1:Yy) (a2:Yy):Option (Yy×(Bool)) :=
 (qe7 n a1 a2).bind fun r1=>some r1
def q5n (n:Nat):FC:={ f:=165,args:=[.one (.c (.d .str)),.one (.c (.d .str))],res:=.tup [.c (.d .str),.c (.d .bool)],F:=fun p=>qc1 n p.1 p.2 }
def qp7 (n:Nat):List FC:=[q4g n]
theorem qyt (n:Nat) {G:World->Prop} (hG:Know Inv G) : ∀c∈qp7 n,q0p Tryz.prog G c/\q07 c.args=true:=List.forall_mem_cons.2 ⟨j3j n G hG,(fun _ h=>by cases h)⟩
def qp3:q06:=[]
theorem jb8:drB qp3 (q00 Tryz.f165)=true:=by kernel_rfl
theorem j92 (n:Nat) : ∀a,(q5n n).F a=main Tryz.prog 11 (qp7 n) (qji n) qp3 (q00 Tryz.f165) [.tmp 4,.tmp 5] (q5n n).args (q5n n).res a:=by intro a;kernel_rfl
theorem j62 (n:Nat):q09 Inv Tryz.prog (q5n n):=fun G hG=>⟨⟨by kernel_rfl,fun a r h=>q03 (c:=q00 Tryz.f165) Tryz.func165 (by kernel_rfl) (by kernel_rfl) (Nat.le_of_ble_eq_true (by kernel_rfl)) hG.st (by kernel_rfl) (rs:=[.tmp 4,.tmp 5]) (by kernel_rfl) (qyt n hG) (lts:=qji n) (fun F hF hFG=>have hK:Know Inv F.G:=hFG ▸ hG;(q02 fun j L h1 h2 h3=>absurd h2 (Nat.not_lt.2 (Nat.le_trans (by decide +kernel) h1)))) jb8 ((j92 n a).symm.trans h)⟩,rfl⟩
def q4n (n:Nat):List LC:=[]
def q0x (n:Nat) (a1:Yy) (a2:Yy):Option (Bool) :=
 (q1t n a1 a2).bind fun r1=>some r1
def q1s (n:Nat):FC:={ f:=152,args:=[.one (.c (.d .str)),.one (.c (.d .str))],res:=.one (.c (.d .bool)),F:=fun p=>q0x n p.1 p.2 }
def q5q (n:Nat):List FC:=[q0s n]
theorem q96 (n:Nat) {G:World->Prop} (hG:Know Inv G) : ∀c∈q5q n,q0p Tryz.prog G c/\q07 c.args=true:=List.forall_mem_cons.2 ⟨q4d n G hG,(fun _ h=>by cases h)⟩
def q5u:q06:=[]
theorem qel:drB q5u (q00 Tryz.f152)=true:=by kernel_rfl
theorem qdo (n:Nat) : ∀a,(q1s n).F a=main Tryz.prog 8 (q5q n) (q4n n) q5u (q00 Tryz.f152) [.tmp 4] (q1s n).args (q1s n).res a:=by intro a;kernel_rfl
theorem qp4 (n:Nat):q09 Inv Tryz.prog (q1s n):=fun G hG=>⟨⟨by kernel_rfl,fun a r h=>q03 (c:=q00 Tryz.f152) Tryz.func152 (by kernel_rfl) (by kernel_rfl) (Nat.le_of_ble_eq_true (by kernel_rfl)) hG.st (by kernel_rfl) (rs:=[.tmp 4]) (by kernel_rfl) (q96 n hG) (lts:=q4n n) (fun F hF hFG=>have hK:Know Inv F.G:=hFG ▸ hG;(q02 fun j L h1 h2 h3=>absurd h2 (Nat.not_lt.2 (Nat.le_trans (by decide +kernel) h1)))) qel ((qdo n a).symm.trans h)⟩,rfl⟩
def j08 (n:Nat):List LC:=[]
def qj5 (n:Nat) (a1:Yy):Option (Bool) :=
 (qc1 n a1 ([118]:Yy)).bind fun r1=>(bif r1.2 then (bif !decide (r1.1=([]:Yy)) then (qwl r1.1 ([48,49,50,51,52,53,54,55,56,57]:Yy)).bind fun (r2:Yy)=>some (decide (r2=([]:Yy))) else some false) else some false)
def qd3 (n:Nat):FC:={ f:=134,args:=[.one (.c (.d .str))],res:=.one (.c (.d .bool)),F:=fun p=>qj5 n p }
def j8z (n:Nat):List FC:=[q5n n,jie]
theorem jec (n:Nat) {G:World->Prop} (hG:Know Inv G) : ∀c∈j8z n,q0p Tryz.prog G c/\q07 c.args=true:=List.forall_mem_cons.2 ⟨j62 n G hG,List.forall_mem_cons.2 ⟨jzt G hG,(fun _ h=>by cases h)⟩⟩
def j90:q06:=[]
theorem jq3:drB j90 (q00 Tryz.f134)=true:=by kernel_rfl
theorem jri (n:Nat) : ∀a,(qd3 n).F a=main Tryz.prog 20 (j8z n) (j08 n) j90 (q00 Tryz.f134) [.tmp 2] (qd3 n).args (qd3 n).res a:=by intro a;kernel_rfl
theorem j7x (n:Nat):q09 Inv Tryz.prog (qd3 n):=fun G hG=>⟨⟨by kernel_rfl,fun a r h=>q03 (c:=q00 Tryz.f134) Tryz.func134 (by kernel_rfl) (by kernel_rfl) (Nat.le_of_ble_eq_true (by kernel_rfl)) hG.st (by kernel_rfl) (rs:=[.tmp 2]) (by kernel_rfl) (jec n hG) (lts:=j08 n) (fun F hF hFG=>have hK:Know Inv F.G:=hFG ▸ hG;(q02 fun j L h1 h2 h3=>absurd h2 (Nat.not_lt.2 (Nat.le_trans (by decide +kernel) h1)))) jq3 ((jri n a).symm.trans h)⟩,rfl⟩
end Go.Proofs.YtapfankgdkdkgaaGreatDoor.AM
namespace Go.Proofs.YtapfankgdkdkgaaGreatDoor.AM
open Go.RowKit
set_option maxRecDepth 20000
def j6x (n:Nat):List LC:=[]
def j2k (n:Nat) (a1:Int):Option (Bool) :=
 (bif decide (97<=a1) then (bif decide (a1<=122) then (bif decide (a1<=122) then some true else (bif decide (a1=45) then some true else (bif decide (a1=95) then some true else some (decide (a1=46))))) else (bif decide (65<=a1) then (bif decide (a1<=90) then (bif decide (a1<=90) then some true else (bif decide (a1=45) then some true else (bif decide (a1=95) then some true else some (decide (a1=46))))) else (bif decide (48<=a1) then (bif decide (a1<=57) then some true else (bif decide (a1=45) then some true else (bif decide (a1=95) then some true else some (decide (a1=46))))) else (bif decide (a1=45) then some true else (bif decide (a1=95) then some true else some (decide (a1=46)))))) else (bif decide (48<=a1) then (bif decide (a1<=57) then some true else (bif decide (a1=45) then some true else (bif decide (a1=95) then some true else some (decide (a1=46))))) else (bif decide (a1=45) then some true else (bif decide (a1=95) then some true else some (decide (a1=46))))))) else (bif decide (65<=a1) then (bif decide (a1<=90) then (bif decide (a1<=90) then some true else (bif decide (a1=45) then some true else (bif decide (a1=95) then some true else some (decide (a1=46))))) else (bif decide (48<=a1) then (bif decide (a1<=57) then some true else (bif decide (a1=45) then some true else (bif decide (a1=95) then some true else some (decide (a1=46))))) else (bif decide (a1=45) then some true else (bif decide (a1=95) then some true else some (decide (a1=46)))))) else (bif decide (48<=a1) then (bif decide (a1<=57) then some true else (bif decide (a1=45) then some true else (bif decide (a1=95) then some true else some (decide (a1=46))))) else (bif decide (a1=45) then some true else (bif decide (a1=95) then some true else some (decide (a1=46)))))))
def qk2 (n:Nat):FC:={ f:=182,args:=[.one (.c (.d (.int .u8)))],res:=.one (.c (.d .bool)),F:=fun p=>j2k n p }
def jkv (n:Nat):List FC:=[]
theorem jnt (n:Nat) {G:World->Prop} (hG:Know Inv G) : ∀c∈jkv n,q0p Tryz.prog G c/\q07 c.args=true:=(fun _ h=>by cases h)
def jko:q06:=[]
theorem jye:drB jko (q00 Tryz.f182)=true:=by kernel_rfl
theorem jy0 (n:Nat) : ∀a,(qk2 n).F a=main Tryz.prog 32 (jkv n) (j6x n) jko (q00 Tryz.f182) [.tmp 2] (qk2 n).args (qk2 n).res a:=by intro a;kernel_rfl
theorem k1h (n:Nat):q09 Inv Tryz.prog (qk2 n):=fun G hG=>⟨⟨by kernel_rfl,fun a r h=>q03 (c:=q00 Tryz.f182) Tryz.func182 (by kernel_rfl) (by kernel_rfl) (Nat.le_of_ble_eq_true (by kernel_rfl)) hG.st (by kernel_rfl) (rs:=[.tmp 2]) (by kernel_rfl) (jnt n hG) (lts:=j6x n) (fun F hF hFG=>have hK:Know Inv F.G:=hFG ▸ hG;(q02 fun j L h1 h2 h3=>absurd h2 (Nat.not_lt.2 (Nat.le_trans (by decide +kernel) h1)))) jye ((jy0 n a).symm.trans h)⟩,rfl⟩
@[reducible] def qk5:SSt:=⟨[(0,.one (.c (.d .str))),(15,.one (.c (.d (.int .i64)))),(16,.one (.c (.d (.int .i64))))],[],[]⟩
@[reducible] def qc5:List (Exit×SSt):=[(.ret,⟨[(2,.one (.c (.d .bool)))],[],[]⟩),(.exit 0,⟨[],[],[]⟩)]
def j4s (n:Nat) (rec:(Yy)->Int->Int->Option (((Bool×Unit)×Unit×Unit)⊕(Unit×Unit×Unit))) (a1:Yy) (a2:Int) (a3:Int):Option (((Bool×Unit)×Unit×Unit)⊕(Unit×Unit×Unit)) :=
 (bif decide (a3<a2) then (sAt a1 a3).bind fun c1=>(j2k n c1).bind fun r2=>(bif !r2 then some (Sum.inl ((false,()),((),()))) else q04 (IntKind.wrap .i64 (a3+1)) fun n3=>rec a1 a2 n3) else some (Sum.inr (((),((),())))))
def j2g (n:Nat) (rec:pSt qk5->Option (q0f qc5)) (p:pSt qk5):Option (q0f qc5):=j4s n (fun a1 a2 a3=>rec ((a1,(a2,(a3,()))),((),()))) p.1.1 p.1.2.1 p.1.2.2.1
def qc2 (n m:Nat) (a1:Yy) (a2:Int) (a3:Int):Option (((Bool×Unit)×Unit×Unit)⊕(Unit×Unit×Unit)):=q0g (j2g n) m ((a1,(a2,(a3,()))),((),()))
theorem qpd (n m:Nat) (a1 a2 a3):qc2 n (m+1) a1 a2 a3=j4s n (fun a1 a2 a3=>qc2 n m a1 a2 a3) a1 a2 a3:=rfl
def jju (n:Nat):LC:={ sh:=qk5,outs:=qc5,F:=q0g (j2g n) n }
def qv1 (n:Nat):List LC:=[jju n]
def jg5 (n:Nat) (a1:Yy):Option (Bool) :=
 (bif decide (a1=([]:Yy)) then some false else (bif decide (a1=([46]:Yy)) then some false else (bif decide (a1=([46,46]:Yy)) then some false else (qc2 n n a1 (a1.length:Int) (0:Int)).bind fun o4=>Sum.elim (fun (q5:(Bool×Unit)×Unit×Unit)=>some q5.1.1) (fun (q6:(Unit)×Unit×Unit)=>some true) o4)))
def qpv (n:Nat):FC:={ f:=154,args:=[.one (.c (.d .str))],res:=.one (.c (.d .bool)),F:=fun p=>jg5 n p }
def j4i (n:Nat):List FC:=[qk2 n]
theorem qzy (n:Nat) {G:World->Prop} (hG:Know Inv G) : ∀c∈j4i n,q0p Tryz.prog G c/\q07 c.args=true:=List.forall_mem_cons.2 ⟨k1h n G hG,(fun _ h=>by cases h)⟩
def j4c:q06:=[]
theorem jln:drB j4c (q00 Tryz.f154)=true:=by kernel_rfl
theorem jvh (n:Nat) : ∀rec p,j2g n rec p=round Tryz.prog 25 (j4i n) (qv1 n) j4c 1 qk5 qc5 (q01 0 0 (q00 Tryz.f154)) rec p:=by intro rec p;kernel_rfl
theorem joz (n:Nat) {F:Fr} (hF:F.n=25) (hK:Know Inv F.G):q75 Tryz.prog F (jju n) (q01 0 0 (q00 Tryz.f154)) :=
 q0i hF (by kernel_rfl) (qzy n hK) (jvh n) (fuel:=n) (fun _=>rfl) (q02 fun j L h1 h2 h3=>absurd h2 (Nat.not_lt.2 (Nat.le_trans (by decide +kernel) h1))) (q0t jln)
theorem k0g (n:Nat) : ∀a,(qpv n).F a=main Tryz.prog 25 (j4i n) (qv1 n) j4c (q00 Tryz.f154) [.tmp 2] (qpv n).args (qpv n).res a:=by intro a;kernel_rfl
theorem k05 (n:Nat):q09 Inv Tryz.prog (qpv n):=fun G hG=>⟨⟨by kernel_rfl,fun a r h=>q03 (c:=q00 Tryz.f154) Tryz.func154 (by kernel_rfl) (by kernel_rfl) (Nat.le_of_ble_eq_true (by kernel_rfl)) hG.st (by kernel_rfl) (rs:=[.tmp 2]) (by kernel_rfl) (qzy n hG) (lts:=qv1 n) (fun F hF hFG=>have hK:Know Inv F.G:=hFG ▸ hG;(q02 (c:=(q00 Tryz.f154)) (fun j L h1 h2 h3=>by
  have h2':j<1:=Nat.lt_of_lt_of_le h2 (by decide +kernel)
  match j,h1,h2',h3 with
  | 0,_,_,h3=>obtain rfl:=Option.some.inj h3;exact (show q01 0 0 (q00 Tryz.f154)=q01 0 0 (q00 Tryz.f154) by kernel_rfl) ▸ joz n hF hK
  | j+1,_,h2',_=>exact absurd h2' (by omega)))) jln ((k0g n a).symm.trans h)⟩,rfl⟩
end Go.Proofs.YtapfankgdkdkgaaGreatDoor.AM
namespace Go.Proofs.YtapfankgdkdkgaaGreatDoor.AM
open Go.RowKit
theorem jmd (n:Nat) (c:UInt8):j2k n ((c.toNat:Nat):Int)=some (qgb c):=by
 have h : ∀k:Fin 256,j2k 0 ((k.val:Nat):Int)=some (qgb (UInt8.ofNat k.val)):=by decide +kernel
 have h1:=h ⟨c.toNat,c.toNat_lt⟩
 have e:UInt8.ofNat c.toNat=c:=by simp
 rw [e] at h1
 exact h1
theorem j18 (n:Nat) (s:Yy) (hL:s.length<=1000000) : ∀m j:Nat,j<=s.length->s.length - j<m->qc2 n m s ((s.length:Nat):Int) (j:Int)=some (if (s.drop j).all qgb=true then Sum.inr ((),((),())) else Sum.inl ((false,()),((),())))
 | 0,j,_,h=>absurd h (Nat.not_lt_zero _)
 | m+1,j,hj,h=>by
  rw [qpd]
  unfold j4s
  by_cases c0:j<s.length
  ·have c0':((j:Nat):Int)<((s.length:Nat):Int):=by omega
   have ih:=j18 n s hL m (j+1) (by omega) (by omega)
   have hd:s.drop j=s[j]::s.drop (j+1):=(List.drop_eq_getElem_cons c0)
   simp only [c0',decide_true,cond_true,q1l c0,Option.bind_some,jmd,q04,q0a (show j<4611686018427387904 by omega),ih,hd,List.all_cons]
   cases qgb s[j]<;>simp
  ·have c0' : ¬ ((j:Nat):Int)<((s.length:Nat):Int):=by omega
   have:s.drop j = []:=List.drop_eq_nil_of_le (by omega)
   simp [c0',this]
theorem jo3 (n:Nat) (s:Yy) (hL:s.length<=1000000) (hn:s.length<n):jg5 n s=some (qcq s):=by
 unfold jg5 qcq
 have:=j18 n s hL n 0 (Nat.zero_le _) (by omega)
 rw [show ((0:Nat):Int)=(0:Int) from rfl] at this
 rw [this,List.drop_zero]
 cases decide (s = [])<;>cases decide (s = [46])<;>cases decide (s = [46,46])<;>cases s.all qgb<;>rfl
end Go.Proofs.YtapfankgdkdkgaaGreatDoor.AM
namespace Go.Proofs.YtapfankgdkdkgaaGreatDoor.AM
open Go.RowKit
theorem jix {a:Int} (h0:0<=a):Lib.itoa a=if a<10 then [UInt8.ofNat (48+a.toNat)] else Lib.itoa (a / 10) ++ [UInt8.ofNat (48+(a % 10).toNat)]:=by
 rw [q1j h0,Lib.decDigits]
 by_cases h:a<10
 ·rw [if_pos h,dif_pos (by omega)]
 ·rw [if_neg h,dif_neg (by omega),q1j (by omega)]
  rw [show (a / 10).toNat=a.toNat / 10 from by omega,show (a % 10).toNat=a.toNat % 10 from by omega]
theorem qbt {n:Int} (h:0<=n/\n<=999999999):(Lib.itoa n).length<=9:=by
 rw [q1j h.1];exact qhc 8 n.toNat (by omega)
theorem j8b (s:Yy):(q1y s).length<=s.length:=by
 unfold q1y;split
 ·rw [List.length_drop];omega
 ·exact Nat.le_refl _
end Go.Proofs.YtapfankgdkdkgaaGreatDoor.AM
namespace Go.Proofs.YtapfankgdkdkgaaGreatDoor.AM
open Go.RowKit
theorem q2o {s t:Yy} (h:s.length+t.length<=9223372036854775807):q7s s t=some (s++t):=if_pos h
theorem qhr (n m:Nat) (a1 a2 a3 i i' a5 a6 a7 x:Int) (a8 a9:Yy) (hx:q0n ([a1,a2,a3]:List Int) i=some x) (hi:i<3) (hw:IntKind.wrap .i64 (i+1)=i') :
  q60 n (m+1) a1 a2 a3 i a5 a6 a7 a8 a9=if jjn x=true then q60 n m a1 a2 a3 i' a5 a6 a7 a8 a9 else some (Sum.inl ((false,()),((),()))):=by
 rw [q9d]
 unfold qi7 jjn
 simp only [hi,decide_true,cond_true,hx,Option.bind_some,q04,hw]
 by_cases h1:x<0
 ·have : ¬ (0:Int)<=x:=by omega
  simp [h1,this]
 ·have h1':(0:Int)<=x:=by omega
  by_cases h2:999999999<x
  ·have : ¬ x<=999999999:=by omega
   simp [h1,h2,this]
  ·have:x<=999999999:=by omega
   simp [h1,h2,h1',this]
theorem q53 (n:Nat) (v:VD) (hn:4<=n):q6c n v=some (q1b v):=by
 obtain ⟨k,rfl⟩ : ∃ k,n=k+1+1+1+1:=⟨n - 4,by omega⟩
 obtain ⟨a,b,c,p,q⟩:=v
 unfold q6c
 rw [qhr _ _ a b c 0 1 _ _ _ a _ _ rfl (by decide) rfl,qhr _ _ a b c 1 2 _ _ _ b _ _ rfl (by decide) rfl,qhr _ _ a b c 2 3 _ _ _ c _ _ rfl (by decide) rfl,q9d]
 unfold qi7 q1b qvk qlu
 dsimp only
 cases jjn a with
 | false=>rfl
 | true=>cases jjn b with
  | false=>rfl
  | true=>cases jjn c with
   | false=>rfl
   | true =>
    simp only [if_true,Bool.true_and,show ¬ (3:Int)<3 from by decide,decide_false,cond_false,Option.bind_some,Sum.elim_inr]
    cases q69 q4v p<;>cases q69 q2l q<;>rfl
theorem jcb (n:Nat) (s:Yy) (hs:s.length<=1000000):q91 n s [118]=some (q1y s):=by
 unfold q91 qbk q1t q1y
 cases s with
 | nil=>rfl
 | cons b r =>
  have h1:((List.length ([118]:Yy):Nat):Int)<=((List.length (b::r):Nat):Int):=by simp;omega
  have h2:q1d (b::r) (0:Int) ((List.length ([118]:Yy):Nat):Int)=some [b]:=sub_zero (b:=1) (by simp)
  have h3:q1d (b::r) ((List.length ([118]:Yy):Nat):Int) ((List.length (b::r):Nat):Int)=some r:=by
   have:=sub_le (l:=b::r) (a:=1) (b:=(b::r).length) (by simp) (Nat.le_refl _)
   rw [show ((List.length ([118]:Yy):Nat):Int)=((1:Nat):Int) from rfl,this]
   simp
  simp only [h1,decide_true,cond_true,h2,Option.bind_some,List.head?_cons,Option.some.injEq,List.drop_succ_cons,List.drop_zero]
  by_cases hb:b=118
  ·simp only [hb,decide_true,cond_true,if_true] at h3 ⊢
   rw [h3];rfl
  ·have : ¬ [b]=([118]:Yy):=fun h=>hb (by simpa using h)
   simp [this,hb]
theorem qr7 {n:Int} (h:0<=n/\n<=999999999):qxs n=some (Lib.itoa n):=if_pos ⟨by omega,by omega⟩
end Go.Proofs.YtapfankgdkdkgaaGreatDoor.AM
namespace Go.Proofs.YtapfankgdkdkgaaGreatDoor.AM
open Go.RowKit
theorem qil (s:Yy) (j:Nat) (h:j<s.length):(s.take (j+1)).reverse=s[j]::(s.take j).reverse:=by
 rw [List.take_succ_eq_append_getElem h];simp
theorem j0w (n:Nat) (c:UInt8) (s:Yy) (hL:s.length<=1000000) : ∀m j:Nat,j<=s.length->j<m->qc4 n m s ((c.toNat:Nat):Int) ((j:Int) - 1)=some (if q9a c (s.take j).reverse = -1 then Sum.inr ((),((),())) else Sum.inl ((q9a c (s.take j).reverse,()),((),())))
 | 0,j,_,h=>absurd h (Nat.not_lt_zero _)
 | m+1,0,_,_=>by
  rw [qcm]
  unfold qpo
  simp [q9a]
 | m+1,j+1,hj,h=>by
  rw [qcm]
  unfold qpo
  have e1:((j+1:Nat):Int) - 1=((j:Nat):Int):=by omega
  have ih:=j0w n c s hL m j (by omega) (by omega)
  have w1:IntKind.wrap .i64 (((j:Nat):Int) - 1)=((j:Nat):Int) - 1:=wrap64 (by omega) (by omega)
  have c0:(0:Int)<=((j:Nat):Int):=by omega
  have d1:decide (((s[j].toNat:Nat):Int)=((c.toNat:Nat):Int))=decide (s[j]=c):=decide_eq_decide.2 ⟨fun h=>UInt8.toNat_inj.1 (by omega),fun h=>by rw [h]⟩
  rw [e1]
  simp only [c0,decide_true,cond_true,q1l (show j<s.length by omega),Option.bind_some,d1,q04,w1,ih,qil s j (by omega),q9a]
  by_cases h0:s[j]=c
  ·have : ¬ (((s.take j).reverse.length:Nat):Int) = -1:=by omega
   have l1:(s.take j).reverse.length=j:=by simp;omega
   simp only [h0,decide_true,cond_true,if_true,this,if_false,l1]
   rw [if_neg (by omega)]
  ·simp [h0]
theorem jni (n:Nat) (c:UInt8) (s:Yy) (hL:s.length<=1000000) (hn:s.length<n):qtd n s ((c.toNat:Nat):Int)=some (qah c s):=by
 unfold qtd
 have:=j0w n c s hL n s.length (Nat.le_refl _) hn
 have w1:IntKind.wrap .i64 (((s.length:Nat):Int) - 1)=((s.length:Nat):Int) - 1:=wrap64 (by omega) (by omega)
 simp only [q04,w1,this,List.take_length]
 unfold qah
 by_cases h:q9a c s.reverse = -1
 ·simp [h]
 ·simp [h]
theorem qzs (n:Nat) (s:Yy) (hL:s.length<=1000000) (hn:s.length<n):j20 n s (47:Int)=some (qah 47 s):=by
 unfold j20
 rw [show (47:Int)=(((47:UInt8).toNat:Nat):Int) from rfl,jni n 47 s hL hn];rfl
theorem jf8 (n:Nat) (s:Yy) (hs:s.length<=1000000):qc1 n s [118]=some (if s.head? = some 118 then (s.drop 1,true) else (s,false)):=by
 unfold qc1 qe7 q1t
 cases s with
 | nil=>rfl
 | cons b r =>
  have h1:((List.length ([118]:Yy):Nat):Int)<=((List.length (b::r):Nat):Int):=by simp;omega
  have h2:q1d (b::r) (0:Int) ((List.length ([118]:Yy):Nat):Int)=some [b]:=sub_zero (b:=1) (by simp)
  have h3:q1d (b::r) ((List.length ([118]:Yy):Nat):Int) ((List.length (b::r):Nat):Int)=some r:=by
   have:=sub_le (l:=b::r) (a:=1) (b:=(b::r).length) (by simp) (Nat.le_refl _)
   rw [show ((List.length ([118]:Yy):Nat):Int)=((1:Nat):Int) from rfl,this]
   simp
  simp only [h1,decide_true,cond_true,h2,Option.bind_some,List.head?_cons,Option.some.injEq,List.drop_succ_cons,List.drop_zero]
  by_cases hb:b=118
  ·simp only [hb,decide_true,cond_true,if_true,Bool.not_true,cond_false] at h3 ⊢
   rw [h3];rfl
  ·have : ¬ [b]=([118]:Yy):=fun h=>hb (by simpa using h)
   simp [this,hb]
theorem qt0 (n:Nat) (s:Yy) (hs:s.length<=1000000):qj5 n s=some (q1x s):=by
 unfold qj5 q1x q2q
 rw [jf8 n s hs]
 by_cases h:s.head? = some 118
 ·have hl:(s.drop 1).length<=1000000:=by rw [List.length_drop];omega
  have ht:qwl (s.drop 1) jp7=some (Lib.trimS (s.drop 1) jp7):=if_pos ⟨rfl,hl⟩
  simp only [h,if_true,Option.bind_some,cond_true,ht,k1n,decide_true,Bool.true_and]
  cases decide (s.drop 1 = [])<;>cases (s.drop 1).all q1e<;>rfl
 ·simp [h]
end Go.Proofs.YtapfankgdkdkgaaGreatDoor.AM
namespace Go.Proofs
open Go.RowKit Go.Shelf Go.Lib
attribute [local go_sem] Oper.semAt_some
namespace YtapfankgdkdkgaaGreatDoor.AM
theorem k0h (x:List UInt8) (w:World) (hI:Inv w) (hx:x.length<=1000000):Calls Tryz.prog 154 #[.string (ba x)] w fun e w'=>e = .returned (.bool (qcq x))/\Below w.heap.size w w':=by
 have h:=(k05 1000001 Inv qba).1.2 x (qcq x) (jo3 1000001 x (by omega) (by omega))
 refine (h (fun _ _=>False) w #[.string (ba x)] hI (fun b o h=>h.elim) ⟨q08 _,trivial⟩).mono ?_
 rintro e w' ⟨v,Pc,rfl,hb,_,_,hv⟩
 have hv':v = .bool (qcq x):=q0d hv
 rw [hv']
 exact ⟨rfl,hb⟩
set_option maxHeartbeats 2000000 in
theorem jea (s:List UInt8) (w:World) (hI:Inv w):Calls Tryz.prog 119 #[.string (ba s)] w fun e w'=>e = .returned (.bool (q4u s))/\Below w.heap.size w w':=by
 refine (callsIn_wide (n:=9)).1 ?_
 refine callsIn_of_wp_marks Tryz.func119 rfl trivial ?_ rfl
 simp only [Tryz.ntmps119,List.size_toArray,List.length_cons,List.length_nil,Nat.reduceAdd,Nat.reduceSub,Array.replicate_succ,Array.replicate_zero,List.push_toArray,List.append_toArray,List.nil_append,List.cons_append]
 have hsz:(ba s).size=s.length:=q3m s
 by_cases h2:s.length<=60
 ·skip
  gi_wp2_with (refine ⟨trivial,?_⟩;gi_at_call 136;refine (callsIn_wide.2 (q5f _ _ _)).mono ?_;rintro e w' ⟨rfl,rfl⟩)
  obtain ⟨W0,hW0,hs0,hb0,g0,g1,g2,g3⟩:=four w (Obj.cells #[Value.bool false] 4) (Obj.cells #[Value.string (ba s)] 9) (Obj.cells #[Value.string { data:=#[47] }] 9) (Obj.cells #[Value.int IntKind.i64 0] 3)
  rw [hW0]
  clear hW0
  obtain ⟨c1,f1⟩:=q0v g0
  obtain ⟨c2,f2⟩:=q0v g1
  obtain ⟨c3,f3⟩:=q0v g2
  obtain ⟨c4,f4⟩:=q0v g3
  refine range_split (n:=9) (by omega) 47 (w.heap.size+1) (w.heap.size+1+1) (w.heap.size+1+2) s (by omega) rfl ⟨c2,f2⟩
   (Rng (.string (ba [47])) (w.heap.size+1+1) w.heap.size (w.heap.size+1+1) (w.heap.size+1+2) 47 w qcq) (RngX w.heap.size w qcq) (j37 (by omega)) (j4w (by omega))
   (fun pre W h=>⟨h.cP,h.cC,(hI.below h.below).maxLen⟩) (fun pre W v h=>j5c v h (by omega) (by omega) (by omega) (by omega) (by omega)) ⟨c3,c1,f1,c3,c4,hb0,rfl⟩
   (fun x=>{ tmps:=#[.string (ba s),undef,.pointer (some ⟨w.heap.size,0,none⟩),.string (ba x),.string (ba s),.int .i64 s.length,.bool (decide ((60:Int)<s.length)),.string (ba s),.func (.func 200) #[] #[.pointer (some ⟨w.heap.size+1+1,0,none⟩),.pointer (some ⟨w.heap.size+1,0,none⟩),.pointer (some ⟨w.heap.size+1+2,0,none⟩)],.string (ba x),undef,undef,undef],defers:=[] }) ?assign ?body ?done ?stop
  case assign =>
   intro l x W K hK
   gi_wp2
   exact hK
  case body =>
   intro l pre x r W hi hL hx
   have k1:=hi.res
   have k2:=hi.frz
   have hc:=k0h x W (hI.below hi.below) (by omega)
   cases hpx:qcq x with
   | true =>
    rw [hpx] at hc
    gi_wp2_with (refine ⟨trivial,?_⟩;gi_at_call 154;refine (CallsIn.inRound l (callsIn_wide.2 hc)).mono ?_;rintro e w' ⟨rfl,hb'⟩)
    exact ⟨q2z hb',qkg hi hb' (by simp [hpx]),qfc hL hb'⟩
   | false =>
    rw [hpx] at hc
    gi_wp2_with (refine ⟨trivial,?_⟩;gi_at_call 154;refine (CallsIn.inRound l (callsIn_wide.2 hc)).mono ?_;rintro e w' ⟨rfl,hb'⟩;have k3:=q3e hb' hi.res;have k4:=(q46 hb' hi.res).trans hi.frz)
    exact ⟨(q2z hb').trans (KeepsOthers.setCell _ _ _),World.cell?_setCell_same' _ _ _ (by rw [k3];rfl),(hi.below.trans (hb'.mono hi.below.size)).setCell (by simp) _,by simp [hpx]⟩
  case done =>
   intro D W hD hi hK
   have k1:=hi.res
   have k2:=hi.frz
   gi_wp2
   have hK':=(KeepsOthers.setCell W ⟨w.heap.size,0,none⟩ (.bool true)).same D _ hK rfl
   have hW':Below w.heap.size w (W.setCell ⟨w.heap.size,0,none⟩ (.bool true)):=hi.below.setCell (by simp) _
   have k5:(W.setCell ⟨w.heap.size,0,none⟩ (.bool true)).cell? ⟨w.heap.size,0,none⟩=some (.bool true):=World.cell?_setCell_same' _ _ _ (by rw [k1];rfl)
   generalize W.setCell ⟨w.heap.size,0,none⟩ (.bool true)=W2 at hK' hW' k5
   refine ⟨by simp,.inl ⟨_,_,rfl,run_takeDeferred hK',?_⟩⟩
   have hg:=grownBy_putObj' W2 D (.deferred none)
   refine ⟨_,q3h (b:=w.heap.size) (v:=.bool true) rfl rfl hag (cell_kept k5 hg (fun r e=>by cases e;exact ⟨_,hK',rfl⟩)),?_,?_⟩
   ·have ha:=hi.all
    unfold q4u;simp [h2,ha]
   ·exact hW'.grown hg hW'.size (fun k e=>by cases e;omega)
  case stop =>
   intro D pre x t W hD hsp hi hK
   refine ⟨by simp,.inl ⟨_,_,rfl,run_takeDeferred hK,?_⟩⟩
   have hg:=grownBy_putObj' W D (.deferred none)
   refine ⟨_,q3h (b:=w.heap.size) (v:=.bool false) rfl rfl hag (cell_kept hi.res hg (fun r e=>by cases e;exact ⟨_,hK,rfl⟩)),?_,?_⟩
   ·have ha:=jli hsp hi.no
    unfold q4u;simp [ha]
   ·exact hi.below.grown hg hi.below.size (fun k e=>by cases e;omega)
 ·gi_wp2
  refine ⟨_,q3h (b:=w.heap.size) (v:=.bool false) rfl rfl hag (by simp),?_,?_⟩
  ·unfold q4u;simp [h2]
  ·exact (Below.refl _ w).alloc (Nat.le_refl _) _
def qxu (s:List UInt8):Option Bool:=some (q4u s)
def j3m:FC:={ f:=119,args:=[qyy],res:=jya,F:=fun p=>qxu p }
theorem jke:q09 Inv Tryz.prog j3m:=fun G hG=>⟨⟨by kernel_rfl,fun (s:List UInt8) r h=>by
 have hr:q4u s=r:=Option.some.inj h
 intro Pc w vs hg hlt hv
 obtain ⟨l⟩:=vs
 match l,hv with
 | [x],⟨h1,_⟩ =>
  obtain rfl:x = .string (ba s):=q0d h1
  refine (jea s w (hG.im w hg)).mono ?_
  rintro e w' ⟨rfl,hb⟩
  subst hr
  exact q58 rfl hb (q08 _)⟩,rfl⟩
end YtapfankgdkdkgaaGreatDoor.AM
end Go.Proofs
namespace Go.Proofs
open Go.RowKit Go.Shelf Go.Lib
attribute [local go_sem] Oper.semAt_some
namespace YtapfankgdkdkgaaGreatDoor.AM
theorem jqm (x:List UInt8) (w:World) (hI:Inv w) (hx:x.length<=1000000):Calls Tryz.prog 134 #[.string (ba x)] w fun e w'=>e = .returned (.bool (q1x x))/\Below w.heap.size w w':=by
 have h:=(j7x 1000001 Inv qba).1.2 x (q1x x) (qt0 1000001 x (by omega))
 refine (h (fun _ _=>False) w #[.string (ba x)] hI (fun b o h=>h.elim) ⟨q08 _,trivial⟩).mono ?_
 rintro e w' ⟨v,Pc,rfl,hb,_,_,hv⟩
 have hv':v = .bool (q1x x):=q0d hv
 rw [hv']
 exact ⟨rfl,hb⟩
set_option maxHeartbeats 2000000 in
theorem jn9 (s:List UInt8) (w:World) (hI:Inv w) (h2:s.length<=1000000):Calls Tryz.prog 133 #[.string (ba s)] w fun e w'=>e = .returned (.bool (anyS s))/\Below w.heap.size w w':=by
 refine (callsIn_wide (n:=9)).1 ?_
 refine callsIn_of_wp_marks Tryz.func133 rfl trivial ?_ rfl
 simp only [Tryz.ntmps133,List.size_toArray,List.length_cons,List.length_nil,Nat.reduceAdd,Nat.reduceSub,Array.replicate_succ,Array.replicate_zero,List.push_toArray,List.append_toArray,List.nil_append,List.cons_append]
 have hsz:(ba s).size=s.length:=q3m s
 have key:anyS s = !((spl 47 [] s).all fun x=>!q1x x):=by unfold anyS;rw [List.any_eq_not_all_not]
 ·skip
  gi_wp2_with (refine ⟨trivial,?_⟩;gi_at_call 136;refine (callsIn_wide.2 (q5f _ _ _)).mono ?_;rintro e w' ⟨rfl,rfl⟩)
  obtain ⟨W0,hW0,hs0,hb0,g0,g1,g2,g3⟩:=four w (Obj.cells #[Value.bool false] 4) (Obj.cells #[Value.string (ba s)] 9) (Obj.cells #[Value.string { data:=#[47] }] 9) (Obj.cells #[Value.int IntKind.i64 0] 3)
  rw [hW0]
  clear hW0
  obtain ⟨c1,f1⟩:=q0v g0
  obtain ⟨c2,f2⟩:=q0v g1
  obtain ⟨c3,f3⟩:=q0v g2
  obtain ⟨c4,f4⟩:=q0v g3
  refine range_split (n:=9) (by omega) 47 (w.heap.size+1) (w.heap.size+1+1) (w.heap.size+1+2) s (by omega) rfl ⟨c2,f2⟩
   (Rng (.string (ba [47])) (w.heap.size+1+1) w.heap.size (w.heap.size+1+1) (w.heap.size+1+2) 47 w (fun x=>!q1x x)) (RngY w.heap.size w (fun x=>!q1x x)) (j37 (by omega)) (jzx (by omega))
   (fun pre W h=>⟨h.cP,h.cC,(hI.below h.below).maxLen⟩) (fun pre W v h=>j5c v h (by omega) (by omega) (by omega) (by omega) (by omega)) ⟨c3,c1,f1,c3,c4,hb0,rfl⟩
   (fun x=>{ tmps:=#[.string (ba s),undef,.pointer (some ⟨w.heap.size,0,none⟩),.string (ba x),.string (ba s),.func (.func 200) #[] #[.pointer (some ⟨w.heap.size+1+1,0,none⟩),.pointer (some ⟨w.heap.size+1,0,none⟩),.pointer (some ⟨w.heap.size+1+2,0,none⟩)],.string (ba x),undef,undef],defers:=[] }) ?assign ?body ?done ?stop
  case assign =>
   intro l x W K hK
   gi_wp2
   exact hK
  case body =>
   intro l pre x r W hi hL hx
   have k1:=hi.res
   have k2:=hi.frz
   have hc:=jqm x W (hI.below hi.below) (by omega)
   cases hpx:q1x x with
   | false =>
    rw [hpx] at hc
    gi_wp2_with (refine ⟨trivial,?_⟩;gi_at_call 134;refine (CallsIn.inRound l (callsIn_wide.2 hc)).mono ?_;rintro e w' ⟨rfl,hb'⟩)
    exact ⟨q2z hb',qkg hi hb' (by simp [hpx]),qfc hL hb'⟩
   | true =>
    rw [hpx] at hc
    gi_wp2_with (refine ⟨trivial,?_⟩;gi_at_call 134;refine (CallsIn.inRound l (callsIn_wide.2 hc)).mono ?_;rintro e w' ⟨rfl,hb'⟩;have k3:=q3e hb' hi.res;have k4:=(q46 hb' hi.res).trans hi.frz)
    exact ⟨(q2z hb').trans (KeepsOthers.setCell _ _ _),World.cell?_setCell_same' _ _ _ (by rw [k3];rfl),(hi.below.trans (hb'.mono hi.below.size)).setCell (by simp) _,by simp [hpx]⟩
  case done =>
   intro D W hD hi hK
   have k1:=hi.res
   have k2:=hi.frz
   gi_wp2
   have hK':=(KeepsOthers.setCell W ⟨w.heap.size,0,none⟩ (.bool false)).same D _ hK rfl
   have hW':Below w.heap.size w (W.setCell ⟨w.heap.size,0,none⟩ (.bool false)):=hi.below.setCell (by simp) _
   have k5:(W.setCell ⟨w.heap.size,0,none⟩ (.bool false)).cell? ⟨w.heap.size,0,none⟩=some (.bool false):=World.cell?_setCell_same' _ _ _ (by rw [k1];rfl)
   generalize W.setCell ⟨w.heap.size,0,none⟩ (.bool false)=W2 at hK' hW' k5
   refine ⟨by simp,.inl ⟨_,_,rfl,run_takeDeferred hK',?_⟩⟩
   have hg:=grownBy_putObj' W2 D (.deferred none)
   refine ⟨_,q3h (b:=w.heap.size) (v:=.bool false) rfl rfl hag (cell_kept k5 hg (fun r e=>by cases e;exact ⟨_,hK',rfl⟩)),?_,?_⟩
   ·have ha:=hi.all
    rw [key,ha];rfl
   ·exact hW'.grown hg hW'.size (fun k e=>by cases e;omega)
  case stop =>
   intro D pre x t W hD hsp hi hK
   refine ⟨by simp,.inl ⟨_,_,rfl,run_takeDeferred hK,?_⟩⟩
   have hg:=grownBy_putObj' W D (.deferred none)
   refine ⟨_,q3h (b:=w.heap.size) (v:=.bool true) rfl rfl hag (cell_kept hi.res hg (fun r e=>by cases e;exact ⟨_,hK,rfl⟩)),?_,?_⟩
   ·have ha:=jli hsp hi.no
    rw [key,ha];rfl
   ·exact hi.below.grown hg hi.below.size (fun k e=>by cases e;omega)
theorem jt2 (s:List UInt8) (b:Nat):(ba s).extract 0 b=ba (s.take b):=by
 rw [<-jwv ((ba s).extract 0 b)]
 congr 1
 unfold unB ba
 rw [ByteArray.data_extract]
 simp
theorem jw5 (x:List UInt8) (w:World) (hI:Inv w) (hx:x.length<=1000000):Calls Tryz.prog 164 #[.string (ba x),.int .u8 47] w fun e w'=>e = .returned (.int .i64 (qah 47 x))/\Below w.heap.size w w':=by
 have h:=(jjw 1000001 Inv qba).1.2 (x,(47:Int)) (qah 47 x) (qzs 1000001 x (by omega) (by omega))
 refine (h (fun _ _=>False) w #[.string (ba x),.int .u8 47] hI (fun b o h=>h.elim) ⟨q08 _,q08 _,trivial⟩).mono ?_
 rintro e w' ⟨v,Pc,rfl,hb,_,_,hv⟩
 have hv':v = .int .i64 (qah 47 x):=q0d hv
 rw [hv']
 exact ⟨rfl,hb⟩
theorem jgc (s:List UInt8) (w:World) (hI:Inv w) (hs:s.length<=1000000):Calls Tryz.prog 131 #[.string (ba s)] w fun e w'=>e = .returned (.string (ba (q2y s)))/\Below w.heap.size w w':=by
 have hl:=jku 47 s
 have hsz:(ba s).size=s.length:=q3m s
 have hc:=jw5 s w hI hs
 go_enter Tryz.func131,Tryz.ntmps131
 by_cases h0:qah 47 s = -1
 ·rw [h0] at hc
  go_wp2_with (go_at_call 164;refine hc.mono ?_)
  rintro e w' ⟨rfl,hb⟩
  go_wp2
  go_ret
  refine ⟨?_,hb⟩
  show Ending.returned (.string ((ba s).extract 0 (max 0 (-1:Int)).toNat))=_
  rw [jt2];unfold q2y;rw [h0];rfl
 ·obtain ⟨k,hk⟩ : ∃ k:Nat,qah 47 s=(k:Int):=⟨(qah 47 s).toNat,by omega⟩
  rw [hk] at hc
  go_wp2_with (go_at_call 164;refine hc.mono ?_)
  rintro e w' ⟨rfl,hb⟩
  go_wp2
  go_ret
  refine ⟨?_,hb⟩
  show Ending.returned (.string ((ba s).extract 0 (max 0 (k:Int)).toNat))=_
  rw [jt2];unfold q2y;rw [hk,Int.max_eq_right (by omega)]
theorem jzr (x:List UInt8) (w:World) (hI:Inv w) (hx:x.length<=1000000):Calls Tryz.prog 155 #[.string (ba x),.string (ba [118])] w fun e w'=>e = .returned (.string (ba (q1y x)))/\Below w.heap.size w w':=by
 have h:=(qkr 100 Inv qba).1.2 (x,([118]:List UInt8)) (q1y x) (jcb 100 x (by omega))
 refine (h (fun _ _=>False) w #[.string (ba x),.string (ba [118])] hI (fun b o h=>h.elim) ⟨q08 _,q08 _,trivial⟩).mono ?_
 rintro e w' ⟨v,Pc,rfl,hb,_,_,hv⟩
 have hv':v = .string (ba (q1y x)):=q0d hv
 rw [hv']
 exact ⟨rfl,hb⟩
theorem jpw (n:Int) (w:World) (hI:Inv w) (h0:2<=n) (h1:n<=999999999):Calls Tryz.prog 76 #[.int .i64 n] w fun e w'=>e = .returned (.string (ba (Lib.itoa n)))/\Below w.heap.size w w':=by
 refine (Any.strconv_Itoa Tryz.laysItoa n (by omega) (by omega) w hI.tab).mono ?_
 rintro e w' ⟨rfl,k,os,rfl⟩
 exact ⟨rfl,Lib.below_grow _ w (Nat.le_refl _) k os⟩
set_option maxHeartbeats 2000000 in
theorem jlz (s:List UInt8) (w:World) (hI:Inv w) (hs:s.length<=1000000):Calls Tryz.prog 135 #[.string (ba s)] w fun e w'=>e = .returned (.tuple #[.int .i64 (numOf (q1y s)),.bool (qyf (q1y s))])/\Below w.heap.size w w':=by
 have hc:=jzr s w hI hs
 have hl:=j8b s
 go_enter Tryz.func135,Tryz.ntmps135
 go_wp2_with (go_at_call 155;refine hc.mono ?_)
 rintro e w1 ⟨rfl,hb1⟩
 clear hc
 have hI1:=hI.below hb1
 have e1:(ba (q1y s)).data.toList=q1y s:=by simp [ba]
 have hl':(ba (q1y s)).size<=281474976710656:=by rw [q3m];omega
 obtain ⟨ts,ps,hsy⟩:=hI1.syn
 obtain ⟨tr,pr,hrg⟩:=hI1.rng
 cases h:Lib.atoiAll (q1y s) with
 | ok v =>
  go_wp2_with (go_at_call 167;refine (Any.strconv_Atoi_ok Tryz.laysAtoi (ba (q1y s)) (by omega) v (by rw [e1];exact h) w1).mono ?_)
  rintro e w2 ⟨rfl,hw⟩
  have hb2:Below w1.heap.size w1 w2:=by
   rcases hw with rfl|⟨t,rfl⟩
   ·exact Below.refl _ _
   ·exact Lib.bytesWorld_below _ _ _
  clear hw
  have hb:Below w.heap.size w w2:=hb1.trans (hb2.mono hb1.size)
  by_cases h2:2<=v
  ·by_cases h3:v<=999999999
   ·have hi:=jpw v w2 (hI.below hb) h2 h3
    go_wp2_with (go_at_call 76;refine hi.mono ?_)
    rintro e w3 ⟨rfl,hb3⟩
    go_wp2
    go_ret2
    refine ⟨?_,hb.trans (hb3.mono hb.size)⟩
    unfold numOf qyf;rw [h]
    simp [h2,h3,qaa]
    rw [Bool.eq_iff_iff];simp
   ·go_wp2
    go_ret2
    refine ⟨?_,hb⟩
    unfold numOf qyf;rw [h]
    simp [h2,show ¬ v<=999999999 from by omega]
  ·go_wp2
   go_ret2
   refine ⟨?_,hb⟩
   unfold numOf qyf;rw [h]
   simp [show ¬ 2<=v from by omega]
 | «syntax» =>
  go_wp2_with (go_at_call 167;refine (Any.strconv_Atoi_syntax Tryz.laysAtoi (ba (q1y s)) hl' (by rw [e1];exact h) _ w1 hsy (Or.inr ⟨_,_,rfl⟩)).mono ?_)
  rintro e w2 ⟨N,rfl,hN,hc,hb2⟩
  go_wp2
  go_ret2
  refine ⟨?_,hb1.trans (hb2.mono hb1.size)⟩
  unfold numOf qyf;rw [h];rfl
 | range =>
  go_wp2_with (go_at_call 167;refine (Any.strconv_Atoi_range Tryz.laysAtoi (ba (q1y s)) hl' (by rw [e1];exact h) _ w1 hrg (Or.inr ⟨_,_,rfl⟩)).mono ?_)
  rintro e w2 ⟨N,rfl,hN,hc,hb2⟩
  rw [e1]
  go_wp2
  go_ret2
  refine ⟨?_,hb1.trans (hb2.mono hb1.size)⟩
  unfold numOf qyf;rw [h];rfl
def j7y (s:List UInt8):Option Bool:=if s.length<=1000000 then some (anyS s) else none
def jwb:FC:={ f:=133,args:=[qyy],res:=jya,F:=fun p=>j7y p }
theorem k3n:q09 Inv Tryz.prog jwb:=fun G hG=>⟨⟨by kernel_rfl,fun (s:List UInt8) r h=>by
 have h':j7y s=some r:=h
 unfold j7y at h'
 split at h'
 case isFalse=>cases h'
 rename_i hc
 have hr:anyS s=r:=Option.some.inj h'
 intro Pc w vs hg hlt hv
 obtain ⟨l⟩:=vs
 match l,hv with
 | [x],⟨h1,_⟩ =>
  obtain rfl:x = .string (ba s):=q0d h1
  refine (jn9 s w (hG.im w hg) hc).mono ?_
  rintro e w' ⟨rfl,hb⟩
  subst hr
  exact q58 rfl hb (q08 _)⟩,rfl⟩
def qv6 (s:List UInt8):Option (List UInt8):=if s.length<=1000000 then some (q2y s) else none
def jll:FC:={ f:=131,args:=[qyy],res:=qyy,F:=fun p=>qv6 p }
theorem jy5:q09 Inv Tryz.prog jll:=fun G hG=>⟨⟨by kernel_rfl,fun (s:List UInt8) r h=>by
 have h':qv6 s=some r:=h
 unfold qv6 at h'
 split at h'
 case isFalse=>cases h'
 rename_i hc
 have hr:q2y s=r:=Option.some.inj h'
 intro Pc w vs hg hlt hv
 obtain ⟨l⟩:=vs
 match l,hv with
 | [x],⟨h1,_⟩ =>
  obtain rfl:x = .string (ba s):=q0d h1
  refine (jgc s w (hG.im w hg) hc).mono ?_
  rintro e w' ⟨rfl,hb⟩
  subst hr
  exact q58 rfl hb (q08 (.string (ba (q2y s))))⟩,rfl⟩
def qyw (s:List UInt8):Option (Int×Bool):=if s.length<=1000000 then some (numOf (q1y s),qyf (q1y s)) else none
def jrn:FC:={ f:=135,args:=[qyy],res:=.tup [.c (.d (.int .i64)),.c (.d .bool)],F:=fun p=>qyw p }
theorem k4k:q09 Inv Tryz.prog jrn:=fun G hG=>⟨⟨by kernel_rfl,fun (s:List UInt8) (r:Int×Bool) h=>by
 have h':qyw s=some r:=h
 unfold qyw at h'
 split at h'
 case isFalse=>cases h'
 rename_i hc
 have hr:(numOf (q1y s),qyf (q1y s))=r:=Option.some.inj h'
 intro Pc w vs hg hlt hv
 obtain ⟨l⟩:=vs
 match l,hv with
 | [x],⟨h1,_⟩ =>
  obtain rfl:x = .string (ba s):=q0d h1
  refine (jlz s w (hG.im w hg) hc).mono ?_
  rintro e w' ⟨rfl,hb⟩
  subst hr
  refine ⟨_,Pc,rfl,hb,fun _ _ h=>h,fun _ _ h=>Or.inl h,?_⟩
  exact ⟨#[.int .i64 (numOf (q1y s)),.bool (qyf (q1y s))],rfl,q08 (σ:=qq0) (.int .i64 (numOf (q1y s))),q08 (σ:=qq0) (.bool (qyf (q1y s))),trivial⟩⟩,rfl⟩
end YtapfankgdkdkgaaGreatDoor.AM
end Go.Proofs
