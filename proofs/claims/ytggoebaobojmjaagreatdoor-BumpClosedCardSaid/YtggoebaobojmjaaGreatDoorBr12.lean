
import Derived.Test.YtggoebaobojmjaaGreatDoorBr9
import Derived.Lib.SlTrimSet
import Derived.Test.YtggoebaobojmjaaGreatDoorBr11
import Derived.Shelf.Strings.SlTrimAscii
namespace Go.Proofs.YtggoebaobojmjaaGreatDoor.AM
open Go.RowKit
set_option linter.unusedVariables false
set_option linter.unusedSimpArgs false
def qv1 (c:UInt8):Bool:=jjr c||decide (c.toNat=95)||decide (c.toNat=46)
def qg3 (s:List UInt8):Bool:=!decide (s = [])&&(!decide (s = [46])&&(!decide (s = [46,46])&&s.all qv1))
def q73 (s:List UInt8):Bool:=decide (s.length<=60)&&(spl 47 [] s).all qg3
def q0w (w:List UInt8):Bool:=decide (w.head? = some 118)&&q33 (w.drop 1)
def anyS (s:List UInt8):Bool:=(spl 47 [] s).any q0w
def q8s (c:UInt8):List UInt8->Int
 | []=>-1
 | b::r=>if b=c then (r.length:Int) else q8s c r
def q91 (c:UInt8) (s:List UInt8):Int:=q8s c s.reverse
theorem jga (c:UInt8) : ∀l,-1<=q8s c l/\q8s c l<(l.length:Int)
 | []=>by simp [q8s]
 | b::r=>by
  have:=jga c r
  rw [q8s];split
  ·simp;omega
  ·simp;omega
theorem jdg (c:UInt8) (s:List UInt8) : -1<=q91 c s/\q91 c s<(s.length:Int):=by
 have:=jga c s.reverse;unfold q91;simpa using this
theorem qwe (c:UInt8) : ∀l,c ∉ l->q8s c l = -1
 | [],_=>rfl
 | b::r,h=>by
  have h1:b≠c:=fun e=>h (by simp [e])
  rw [q8s,if_neg h1,qwe c r (fun e=>h (by simp [e]))]
theorem j3b (c:UInt8) : ∀(y x:List UInt8),c ∉ y->q8s c (y++c::x)=(x.length:Int)
 | [],x,_=>by simp [q8s]
 | b::y,x,h=>by
  have h1:b≠c:=fun e=>h (by simp [e])
  rw [List.cons_append,q8s,if_neg h1,j3b c y x (fun e=>h (by simp [e]))]
theorem jju {c:UInt8} {s:List UInt8} (h:c ∉ s):q91 c s = -1:=qwe c _ (by simpa using h)
theorem jn3 {c:UInt8} {x y:List UInt8} (h:c ∉ y):q91 c (x++c::y)=(x.length:Int):=by
 have:=j3b c y.reverse x.reverse (by simpa using h)
 unfold q91
 simpa using this
def q1m (s:List UInt8):List UInt8:=s.take (q91 47 s).toNat
def q1i (s:List UInt8):List UInt8:=s.drop (q91 47 s+1).toNat
theorem jey (c:UInt8) : ∀s:List UInt8,c ∉ s \/ ∃ x y,s=x++c::y/\c ∉ y
 | []=>Or.inl (by simp)
 | b::s=>by
  rcases jey c s with h|⟨x,y,rfl,h⟩
  ·by_cases hb:b=c
   ·subst hb;exact Or.inr ⟨[],s,rfl,h⟩
   ·exact Or.inl (by simp [h,Ne.symm hb])
  ·exact Or.inr ⟨b::x,y,rfl,h⟩
theorem j3g {s:List UInt8} (h:47 ∉ s):q1m s = []/\q1i s=s:=by
 unfold q1m q1i;rw [jju h];exact ⟨rfl,rfl⟩
theorem jf9 {x y:List UInt8} (h:47 ∉ y):q1m (x++47::y)=x/\q1i (x++47::y)=y:=by
 unfold q1m q1i;rw [jn3 h]
 constructor
 ·simp
 ·rw [show (((x.length:Nat):Int)+1).toNat=x.length+1 from by omega];simp
theorem jb8 (c:UInt8) : ∀(x cur y:List UInt8),spl c cur (x++c::y)=spl c cur x++spl c [] y
 | [],cur,y=>by simp [spl]
 | b::x,cur,y=>by
  rw [List.cons_append,spl,spl]
  split
  ·rw [jb8 c x];rfl
  ·rw [jb8 c x]
theorem qe1 (s:List UInt8):(47 ∉ s/\q1m s = []/\q1i s=s/\spl 47 [] s = [s])\/(s=q1m s++47::q1i s/\47 ∉ q1i s/\spl 47 [] s=spl 47 [] (q1m s) ++ [q1i s]):=by
 rcases jey 47 s with h|⟨x,y,rfl,h⟩
 ·exact Or.inl ⟨h,(j3g h).1,(j3g h).2,j4e 47 s h⟩
 ·refine Or.inr ?_
  rw [(jf9 h).1,(jf9 h).2]
  exact ⟨rfl,h,by rw [jb8,j4e 47 y h]⟩
abbrev jj4:List UInt8:=[48,49,50,51,52,53,54,55,56,57]
theorem ju6 (c:UInt8):jj4.contains c=q1z c:=by
 have h : ∀k:Fin 256,jj4.contains (UInt8.ofNat k.val)=q1z (UInt8.ofNat k.val):=by decide +kernel
 have h1:=h ⟨c.toNat,c.toNat_lt⟩
 simpa using h1
theorem dropWhile_nil (p:UInt8->Bool) : ∀l:List UInt8,l.dropWhile p = []↔l.all p=true
 | []=>by simp
 | b::l=>by
  rw [List.dropWhile_cons]
  cases h:p b with
  | true=>simp [h,dropWhile_nil p l]
  | false=>simp [h]
theorem qi9 {p:UInt8->Bool} {c:UInt8} : ∀{l:List UInt8},c∈l->p c=false->c∈l.dropWhile p
 | b::l,h,hp=>by
  rw [List.dropWhile_cons]
  rcases List.mem_cons.1 h with rfl|h
  ·simp [hp]
  ·cases hb:p b with
   | true=>simpa using qi9 h hp
   | false=>simp [h]
theorem jrl (s:List UInt8):decide (Lib.trimS s jj4 = [])=s.all q1z:=by
 have he:(fun c=>jj4.contains c)=q1z:=funext ju6
 unfold Lib.trimS Lib.trimRightS Lib.trimLeftS
 rw [he]
 cases h:s.all q1z with
 | true =>
  have h2:s.reverse.all q1z=true:=by rw [List.all_reverse];exact h
  rw [(dropWhile_nil q1z s.reverse).2 h2];simp
 | false =>
  rw [decide_eq_false_iff_not,dropWhile_nil]
  intro hc
  have h3 : ∃ c,c∈s/\q1z c=false:=by
   have:=List.all_eq_false.1 h
   obtain ⟨c,hc,hn⟩:=this
   exact ⟨c,hc,by simpa using hn⟩
  obtain ⟨c,hm,hn⟩:=h3
  have h4:c∈(s.reverse.dropWhile q1z).reverse:=by simpa using qi9 (l:=s.reverse) (by simpa using hm) hn
  have:=List.all_eq_true.1 hc c h4
  rw [hn] at this;cases this
def numOf (s:List UInt8):Int:=match Lib.atoiAll s with
 | .ok v=>v
 | .range=>Lib.atoiSat s
 | _=>0
def qv5 (s:List UInt8):Bool:=match Lib.atoiAll s with
 | .ok v=>decide (2<=v)&&(decide (v<=999999999)&&decide (s=Lib.itoa v))
 | _=>false
theorem jlz {n:Int} (h0:2<=n) (h1:n<=999999999):qv5 (Lib.itoa n)=true/\numOf (Lib.itoa n)=n:=by
 unfold qv5 numOf;rw [jni (by omega) h1];simp [h0,h1]
theorem qst {s:List UInt8} (h:qv5 s=true):2<=numOf s/\numOf s<=999999999/\s=Lib.itoa (numOf s):=by
 unfold qv5 at h;unfold numOf
 cases e:Lib.atoiAll s with
 | ok v=>rw [e] at h;simpa using h
 | range=>rw [e] at h;cases h
 | «syntax»=>rw [e] at h;cases h
def okS (p:List UInt8):Bool:=q73 p&&(!anyS (q1m p)&&(!q0w (q1i p)||(qv5 ((q1i p).drop 1) && !decide (q1m p = []))))
def q1e (p:List UInt8):List UInt8×(Int×Bool):=if okS p then (if q0w (q1i p) then (q1m p,(numOf ((q1i p).drop 1),true)) else (p,(0,true))) else ([],(0,false))
def majT (n:Int):List UInt8:=118::Lib.itoa n
theorem qxg {s:List UInt8} (h:q73 s=true):s.length<=60/\(spl 47 [] s).all qg3=true:=by
 unfold q73 at h;simpa using h
theorem j9i {p:List UInt8} (h:okS p=true):q73 p=true/\anyS (q1m p)=false/\(q0w (q1i p)=true->qv5 ((q1i p).drop 1)=true/\q1m p ≠ []):=by
 unfold okS at h
 simp only [Bool.and_eq_true,Bool.or_eq_true,Bool.not_eq_true',decide_eq_false_iff_not] at h
 refine ⟨h.1,h.2.1,fun ht=>?_⟩
 rcases h.2.2 with h3|h3
 ·rw [ht] at h3;cases h3
 ·exact h3
theorem ok_of {p:List UInt8} (h1:q73 p=true) (h2:anyS (q1m p)=false) (h3:q0w (q1i p)=true->qv5 ((q1i p).drop 1)=true/\q1m p ≠ []):okS p=true:=by
 unfold okS
 rw [h1,h2]
 cases ht:q0w (q1i p) with
 | false=>rfl
 | true=>have:=h3 ht;rw [this.1];simp [this.2]
theorem ok_none {p:List UInt8} (h1:q73 p=true) (h2:anyS p=false):q1e p=(p,(0,true)):=by
 have hl:q0w (q1i p)=false/\anyS (q1m p)=false:=by
  rcases qe1 p with ⟨_,a,b,c⟩|⟨_,_,c⟩
  ·unfold anyS at h2;rw [c] at h2
   rw [a,b]
   exact ⟨by simpa using h2,by decide⟩
  ·unfold anyS at h2 ⊢;rw [c,List.any_append] at h2
   simp at h2
   exact ⟨h2.2,by simpa using h2.1⟩
 unfold q1e
 rw [ok_of h1 hl.2 (fun h=>by rw [hl.1] at h;cases h),hl.1];rfl
theorem jc6 (p:List UInt8):(okS p=false/\q1e p=([],(0,false)))\/(q73 p=true/\anyS p=false/\q1e p=(p,(0,true)))\/(∃ x n,2<=n/\n<=999999999/\p=x++47::majT n/\q73 p=true/\q73 x=true/\anyS x=false/\q1e p=(x,(n,true))):=by
 cases ho:okS p with
 | false=>exact Or.inl ⟨rfl,by unfold q1e;rw [ho];rfl⟩
 | true =>
  obtain ⟨h1,h2,h3⟩:=j9i ho
  refine Or.inr ?_
  cases ht:q0w (q1i p) with
  | false =>
   have ha:anyS p=false:=by
    rcases qe1 p with ⟨_,_,b,c⟩|⟨_,_,c⟩
    ·unfold anyS;rw [c];rw [b] at ht;simp [ht]
    ·unfold anyS at h2 ⊢;rw [c,List.any_append,h2];simp [ht]
   exact Or.inl ⟨h1,ha,ok_none h1 ha⟩
  | true =>
   obtain ⟨hf,hb⟩:=h3 ht
   obtain ⟨n0,n1,ne⟩:=qst hf
   rcases qe1 p with ⟨_,a,_,_⟩|⟨he,hs,hc⟩
   ·exact absurd a hb
   ·have hl:q1i p=majT (numOf ((q1i p).drop 1)):=by
     unfold majT;rw [<-ne]
     unfold q0w at ht
     simp only [Bool.and_eq_true,decide_eq_true_eq] at ht
     generalize q1i p=w at ht
     cases w with
     | nil=>cases ht.1
     | cons b r =>
            have:b=118:=by simpa using ht.1
            rw [this];rfl
    have hpx:q73 (q1m p)=true:=by
     obtain ⟨l1,l2⟩:=qxg h1
     rw [hc,List.all_append] at l2
     have:(q1m p).length<=60:=by unfold q1m;rw [List.length_take];omega
     unfold q73
     simp only [Bool.and_eq_true,decide_eq_true_eq] at l2 ⊢
     exact ⟨this,l2.1⟩
    exact Or.inr ⟨q1m p,_,n0,n1,by rw [<-hl];exact he,h1,hpx,h2,by unfold q1e;rw [ho,ht];rfl⟩
end Go.Proofs.YtggoebaobojmjaaGreatDoor.AM
namespace Go.Proofs
open Go.RowKit Go.Shelf Go.Lib
shelf_lay Lays.n160 Nm 160 at Tryz as Tryz.laysTrim
set_option linter.unusedVariables false
set_option linter.unusedSimpArgs false
namespace YtggoebaobojmjaaGreatDoor.AM
def qtt (s cs:List UInt8):Option (List UInt8):=if cs=jj4/\s.length<=1000000 then some (Lib.trimS s jj4) else none
def jed:FC:={ f:=93,args:=[jem,jem],res:=jem,F:=fun p=>qtt p.1 p.2 }
theorem jtq:q0g Inv Tryz.prog jed:=fun G hG=>⟨⟨by kernel_rfl,fun a r h=>by
 obtain ⟨s,cs⟩:=a
 have h':qtt s cs=some r:=h
 unfold qtt at h'
 split at h'
 case isFalse=>cases h'
 rename_i hc
 obtain ⟨rfl,hl⟩:=hc
 have hr:Lib.trimS s jj4=r:=Option.some.inj h'
 intro Pc w vs hg hlt hv
 obtain ⟨l⟩:=vs
 match l,hv with
 | [x,y],⟨h1,h2,_⟩ =>
  obtain rfl:x = .string (ba s):=q07 h1
  obtain rfl:y = .string (ba jj4):=q07 h2
  have e1:(ba s).data.toList=s:=by simp [ba]
  have e2:(ba jj4).data.toList=jj4:=by simp [ba]
  have hh:=Any.strings_Trim_laid Tryz.laysTrim (by kernel_rfl) (ba s) (ba jj4) w (by rw [q3j];omega) (by rw [q3j];decide) (by rw [e2];exact ascii_of_all (by decide))
  rw [e1,e2,hr] at hh
  refine hh.mono ?_
  rintro e w' ⟨rfl,hb⟩
  exact qgz rfl hb (q06 (.string (ba r)))⟩,rfl⟩
end YtggoebaobojmjaaGreatDoor.AM
end Go.Proofs
namespace Go.Proofs.YtggoebaobojmjaaGreatDoor.AM
open Go.RowKit
set_option linter.unusedVariables false
set_option maxRecDepth 20000
@[reducible] def qi4:SSt:=⟨[(0,.one (.c (.d .str))),(1,.one (.c (.d (.int .u8)))),(5,.one (.c (.d (.int .i64))))],[],[]⟩
@[reducible] def qaq:List (Exit×SSt):=[(.ret,⟨[(4,.one (.c (.d (.int .i64))))],[],[]⟩),(.exit 0,⟨[],[],[]⟩)]
def qpw (n:Nat) (rec:(List UInt8)->Int->Int->Option (((Int×(Unit))×(Unit)×(Unit))⊕((Unit)×(Unit)×(Unit)))) (a1:List UInt8) (a2:Int) (a3:Int):Option (((Int×(Unit))×(Unit)×(Unit))⊕((Unit)×(Unit)×(Unit))) :=
 (bif decide ((0:Int)<=a3) then (sAt a1 a3).bind fun (c2:Int)=>(bif decide (c2=a2) then some (Sum.inl ((a3,()),((),()))) else q0e (IntKind.wrap .i64 (a3 - (1:Int))) fun (n3:Int)=>rec a1 a2 n3) else some (Sum.inr (((),((),())))))
def j0h (n:Nat) (rec:pSt qi4->Option (q08 qaq)) (p:pSt qi4):Option (q08 qaq):=qpw n (fun a1 a2 a3=>rec ((a1,(a2,(a3,()))),((),()))) p.1.1 p.1.2.1 p.1.2.2.1
def qao (n m:Nat) (a1:List UInt8) (a2:Int) (a3:Int):Option (((Int×(Unit))×(Unit)×(Unit))⊕((Unit)×(Unit)×(Unit))):=q0a (j0h n) m ((a1,(a2,(a3,()))),((),()))
theorem qbl (n m:Nat) (a1:List UInt8) (a2:Int) (a3:Int):qao n (m+1) a1 a2 a3=qpw n (fun a1 a2 a3=>qao n m a1 a2 a3) a1 a2 a3:=rfl
def jex (n:Nat):LC:={ sh:=qi4,outs:=qaq,F:=q0a (j0h n) n }
def quz (n:Nat):List LC:=[jex n]
def j0r (n:Nat) (a1:List UInt8) (a2:Int):Option (Int) :=
 q0e (IntKind.wrap .i64 (((List.length a1:Nat):Int) - (1:Int))) fun (n1:Int)=>(qao n n a1 a2 n1).bind fun (o4:((Int×(Unit))×(Unit)×(Unit))⊕((Unit)×(Unit)×(Unit)))=>Sum.elim (fun (q5:(Int×(Unit))×(Unit)×(Unit))=>some q5.1.1) (fun (q6:(Unit)×(Unit)×(Unit))=>some (-1:Int)) o4
def qil (n:Nat):FC:={ f:=112,args:=[.one (.c (.d .str)),.one (.c (.d (.int .u8)))],res:=.one (.c (.d (.int .i64))),F:=fun p=>j0r n p.1 p.2 }
def j0m (n:Nat):List FC:=[]
theorem qy7 (n:Nat) {G:World->Prop} (hG:Know Inv G) : ∀c∈j0m n,q0v Tryz.prog G c/\q0d c.args=true:=(fun _ h=>by cases h)
def j0l:q0c:=[]
theorem jcj:drB j0l (q00 Tryz.f112)=true:=by kernel_rfl
theorem jkq (n:Nat) : ∀rec p,j0h n rec p=round Tryz.prog 19 (j0m n) (quz n) j0l 1 qi4 qaq (q01 0 0 (q00 Tryz.f112)) rec p:=by intro rec p;kernel_rfl
theorem jis (n:Nat) {F:Fr} (hF:F.n=19) (hK:Know Inv F.G):q3k Tryz.prog F (jex n) (q01 0 0 (q00 Tryz.f112)) :=
 q0b hF (by kernel_rfl) (qy7 n hK) (jkq n) (fuel:=n) (fun _=>rfl) (q02 fun j L h1 h2 h3=>absurd h2 (Nat.not_lt.2 (Nat.le_trans (by decide +kernel) h1))) (q0h jcj)
theorem jsu (n:Nat) : ∀a,(qil n).F a=main Tryz.prog 19 (j0m n) (quz n) j0l (q00 Tryz.f112) [.tmp 4] (qil n).args (qil n).res a:=by intro a;kernel_rfl
theorem jrs (n:Nat):q0g Inv Tryz.prog (qil n):=fun G hG=>⟨⟨by kernel_rfl,fun a r h=>q05 (c:=q00 Tryz.f112) Tryz.func112 (by kernel_rfl) (by kernel_rfl) (Nat.le_of_ble_eq_true (by kernel_rfl)) hG.st (by kernel_rfl) (rs:=[.tmp 4]) (by kernel_rfl) (qy7 n hG) (lts:=quz n) (fun F hF hFG=>have hK:Know Inv F.G:=hFG ▸ hG;(q02 (c:=(q00 Tryz.f112)) (fun j L h1 h2 h3=>by
  have h2':j<1:=Nat.lt_of_lt_of_le h2 (by decide +kernel)
  match j,h1,h2',h3 with
  | 0,_,_,h3=>obtain rfl:=Option.some.inj h3;exact (show q01 0 0 (q00 Tryz.f112)=q01 0 0 (q00 Tryz.f112) by kernel_rfl) ▸ jis n hF hK
  | j+1,_,h2',_=>exact absurd h2' (by omega)))) jcj ((jsu n a).symm.trans h)⟩,rfl⟩
def j7i (n:Nat):List LC:=[]
def j22 (n:Nat) (a1:List UInt8) (a2:Int):Option (Int) :=
 (j0r n a1 a2).bind fun (r1:Int)=>some r1
def qhx (n:Nat):FC:={ f:=89,args:=[.one (.c (.d .str)),.one (.c (.d (.int .u8)))],res:=.one (.c (.d (.int .i64))),F:=fun p=>j22 n p.1 p.2 }
def jf7 (n:Nat):List FC:=[qil n]
theorem jjf (n:Nat) {G:World->Prop} (hG:Know Inv G) : ∀c∈jf7 n,q0v Tryz.prog G c/\q0d c.args=true:=List.forall_mem_cons.2 ⟨jrs n G hG,(fun _ h=>by cases h)⟩
def jec:q0c:=[]
theorem jst:drB jec (q00 Tryz.f89)=true:=by kernel_rfl
theorem jt3 (n:Nat) : ∀a,(qhx n).F a=main Tryz.prog 8 (jf7 n) (j7i n) jec (q00 Tryz.f89) [.tmp 4] (qhx n).args (qhx n).res a:=by intro a;kernel_rfl
theorem jee (n:Nat):q0g Inv Tryz.prog (qhx n):=fun G hG=>⟨⟨by kernel_rfl,fun a r h=>q05 (c:=q00 Tryz.f89) Tryz.func89 (by kernel_rfl) (by kernel_rfl) (Nat.le_of_ble_eq_true (by kernel_rfl)) hG.st (by kernel_rfl) (rs:=[.tmp 4]) (by kernel_rfl) (jjf n hG) (lts:=j7i n) (fun F hF hFG=>have hK:Know Inv F.G:=hFG ▸ hG;(q02 fun j L h1 h2 h3=>absurd h2 (Nat.not_lt.2 (Nat.le_trans (by decide +kernel) h1)))) jst ((jt3 n a).symm.trans h)⟩,rfl⟩
def qfd (n:Nat):List LC:=[]
def qct (n:Nat) (a1:List UInt8) (a2:List UInt8):Option ((List UInt8)×(Bool)) :=
 (q54 n a1 a2).bind fun (r1:Bool)=>(bif !r1 then some (a1,false) else (qtj a1 ((List.length a2:Nat):Int) ((List.length a1:Nat):Int)).bind fun (s2:List UInt8)=>some (s2,true))
def q3v (n:Nat):FC:={ f:=115,args:=[.one (.c (.d .str)),.one (.c (.d .str))],res:=.tup [.c (.d .str),.c (.d .bool)],F:=fun p=>qct n p.1 p.2 }
def qj3 (n:Nat):List FC:=[q2t n]
theorem qrk (n:Nat) {G:World->Prop} (hG:Know Inv G) : ∀c∈qj3 n,q0v Tryz.prog G c/\q0d c.args=true:=List.forall_mem_cons.2 ⟨qic n G hG,(fun _ h=>by cases h)⟩
def qje:q0c:=[]
theorem j0i:drB qje (q00 Tryz.f115)=true:=by kernel_rfl
theorem j1f (n:Nat) : ∀a,(q3v n).F a=main Tryz.prog 15 (qj3 n) (qfd n) qje (q00 Tryz.f115) [.tmp 4,.tmp 5] (q3v n).args (q3v n).res a:=by intro a;kernel_rfl
theorem j26 (n:Nat):q0g Inv Tryz.prog (q3v n):=fun G hG=>⟨⟨by kernel_rfl,fun a r h=>q05 (c:=q00 Tryz.f115) Tryz.func115 (by kernel_rfl) (by kernel_rfl) (Nat.le_of_ble_eq_true (by kernel_rfl)) hG.st (by kernel_rfl) (rs:=[.tmp 4,.tmp 5]) (by kernel_rfl) (qrk n hG) (lts:=qfd n) (fun F hF hFG=>have hK:Know Inv F.G:=hFG ▸ hG;(q02 fun j L h1 h2 h3=>absurd h2 (Nat.not_lt.2 (Nat.le_trans (by decide +kernel) h1)))) j0i ((j1f n a).symm.trans h)⟩,rfl⟩
def qjc (n:Nat):List LC:=[]
def qa8 (n:Nat) (a1:List UInt8) (a2:List UInt8):Option ((List UInt8)×(Bool)) :=
 (qct n a1 a2).bind fun (r1:(List UInt8)×(Bool))=>some r1
def q5f (n:Nat):FC:={ f:=92,args:=[.one (.c (.d .str)),.one (.c (.d .str))],res:=.tup [.c (.d .str),.c (.d .bool)],F:=fun p=>qa8 n p.1 p.2 }
def qng (n:Nat):List FC:=[q3v n]
theorem qvg (n:Nat) {G:World->Prop} (hG:Know Inv G) : ∀c∈qng n,q0v Tryz.prog G c/\q0d c.args=true:=List.forall_mem_cons.2 ⟨j26 n G hG,(fun _ h=>by cases h)⟩
def qn8:q0c:=[]
theorem j2i:drB qn8 (q00 Tryz.f92)=true:=by kernel_rfl
theorem j7o (n:Nat) : ∀a,(q5f n).F a=main Tryz.prog 11 (qng n) (qjc n) qn8 (q00 Tryz.f92) [.tmp 4,.tmp 5] (q5f n).args (q5f n).res a:=by intro a;kernel_rfl
theorem j2g (n:Nat):q0g Inv Tryz.prog (q5f n):=fun G hG=>⟨⟨by kernel_rfl,fun a r h=>q05 (c:=q00 Tryz.f92) Tryz.func92 (by kernel_rfl) (by kernel_rfl) (Nat.le_of_ble_eq_true (by kernel_rfl)) hG.st (by kernel_rfl) (rs:=[.tmp 4,.tmp 5]) (by kernel_rfl) (qvg n hG) (lts:=qjc n) (fun F hF hFG=>have hK:Know Inv F.G:=hFG ▸ hG;(q02 fun j L h1 h2 h3=>absurd h2 (Nat.not_lt.2 (Nat.le_trans (by decide +kernel) h1)))) j2i ((j7o n a).symm.trans h)⟩,rfl⟩
def qwv (n:Nat):List LC:=[]
def qhh (n:Nat) (a1:List UInt8):Option (Bool) :=
 (qa8 n a1 ([118]:List UInt8)).bind fun (r1:(List UInt8)×(Bool))=>(bif r1.2 then (bif !decide (r1.1=([]:List UInt8)) then (qtt r1.1 ([48,49,50,51,52,53,54,55,56,57]:List UInt8)).bind fun (r2:List UInt8)=>some (decide (r2=([]:List UInt8))) else some false) else some false)
def qda (n:Nat):FC:={ f:=59,args:=[.one (.c (.d .str))],res:=.one (.c (.d .bool)),F:=fun p=>qhh n p }
def j49 (n:Nat):List FC:=[q5f n,jed]
theorem j9o (n:Nat) {G:World->Prop} (hG:Know Inv G) : ∀c∈j49 n,q0v Tryz.prog G c/\q0d c.args=true:=List.forall_mem_cons.2 ⟨j2g n G hG,List.forall_mem_cons.2 ⟨jtq G hG,(fun _ h=>by cases h)⟩⟩
def j5r:q0c:=[]
theorem jm2:drB j5r (q00 Tryz.f59)=true:=by kernel_rfl
theorem jlq (n:Nat) : ∀a,(qda n).F a=main Tryz.prog 20 (j49 n) (qwv n) j5r (q00 Tryz.f59) [.tmp 2] (qda n).args (qda n).res a:=by intro a;kernel_rfl
theorem j7g (n:Nat):q0g Inv Tryz.prog (qda n):=fun G hG=>⟨⟨by kernel_rfl,fun a r h=>q05 (c:=q00 Tryz.f59) Tryz.func59 (by kernel_rfl) (by kernel_rfl) (Nat.le_of_ble_eq_true (by kernel_rfl)) hG.st (by kernel_rfl) (rs:=[.tmp 2]) (by kernel_rfl) (j9o n hG) (lts:=qwv n) (fun F hF hFG=>have hK:Know Inv F.G:=hFG ▸ hG;(q02 fun j L h1 h2 h3=>absurd h2 (Nat.not_lt.2 (Nat.le_trans (by decide +kernel) h1)))) jm2 ((jlq n a).symm.trans h)⟩,rfl⟩
end Go.Proofs.YtggoebaobojmjaaGreatDoor.AM
namespace Go.Proofs.YtggoebaobojmjaaGreatDoor.AM
open Go.RowKit
set_option linter.unusedVariables false
set_option maxRecDepth 20000
def j48 (n:Nat):List LC:=[]
def j0b (n:Nat) (a1:Int):Option (Bool) :=
 (bif decide ((97:Int)<=a1) then (bif decide (a1<=(122:Int)) then (bif decide (a1<=(122:Int)) then some true else (bif decide (a1=(45:Int)) then some true else (bif decide (a1=(95:Int)) then some true else some (decide (a1=(46:Int)))))) else (bif decide ((65:Int)<=a1) then (bif decide (a1<=(90:Int)) then (bif decide (a1<=(90:Int)) then some true else (bif decide (a1=(45:Int)) then some true else (bif decide (a1=(95:Int)) then some true else some (decide (a1=(46:Int)))))) else (bif decide ((48:Int)<=a1) then (bif decide (a1<=(57:Int)) then some true else (bif decide (a1=(45:Int)) then some true else (bif decide (a1=(95:Int)) then some true else some (decide (a1=(46:Int)))))) else (bif decide (a1=(45:Int)) then some true else (bif decide (a1=(95:Int)) then some true else some (decide (a1=(46:Int))))))) else (bif decide ((48:Int)<=a1) then (bif decide (a1<=(57:Int)) then some true else (bif decide (a1=(45:Int)) then some true else (bif decide (a1=(95:Int)) then some true else some (decide (a1=(46:Int)))))) else (bif decide (a1=(45:Int)) then some true else (bif decide (a1=(95:Int)) then some true else some (decide (a1=(46:Int)))))))) else (bif decide ((65:Int)<=a1) then (bif decide (a1<=(90:Int)) then (bif decide (a1<=(90:Int)) then some true else (bif decide (a1=(45:Int)) then some true else (bif decide (a1=(95:Int)) then some true else some (decide (a1=(46:Int)))))) else (bif decide ((48:Int)<=a1) then (bif decide (a1<=(57:Int)) then some true else (bif decide (a1=(45:Int)) then some true else (bif decide (a1=(95:Int)) then some true else some (decide (a1=(46:Int)))))) else (bif decide (a1=(45:Int)) then some true else (bif decide (a1=(95:Int)) then some true else some (decide (a1=(46:Int))))))) else (bif decide ((48:Int)<=a1) then (bif decide (a1<=(57:Int)) then some true else (bif decide (a1=(45:Int)) then some true else (bif decide (a1=(95:Int)) then some true else some (decide (a1=(46:Int)))))) else (bif decide (a1=(45:Int)) then some true else (bif decide (a1=(95:Int)) then some true else some (decide (a1=(46:Int))))))))
def qjr (n:Nat):FC:={ f:=114,args:=[.one (.c (.d (.int .u8)))],res:=.one (.c (.d .bool)),F:=fun p=>j0b n p }
def jep (n:Nat):List FC:=[]
theorem jh6 (n:Nat) {G:World->Prop} (hG:Know Inv G) : ∀c∈jep n,q0v Tryz.prog G c/\q0d c.args=true:=(fun _ h=>by cases h)
def jf8:q0c:=[]
theorem jtw:drB jf8 (q00 Tryz.f114)=true:=by kernel_rfl
theorem jrn (n:Nat) : ∀a,(qjr n).F a=main Tryz.prog 32 (jep n) (j48 n) jf8 (q00 Tryz.f114) [.tmp 2] (qjr n).args (qjr n).res a:=by intro a;kernel_rfl
theorem juj (n:Nat):q0g Inv Tryz.prog (qjr n):=fun G hG=>⟨⟨by kernel_rfl,fun a r h=>q05 (c:=q00 Tryz.f114) Tryz.func114 (by kernel_rfl) (by kernel_rfl) (Nat.le_of_ble_eq_true (by kernel_rfl)) hG.st (by kernel_rfl) (rs:=[.tmp 2]) (by kernel_rfl) (jh6 n hG) (lts:=j48 n) (fun F hF hFG=>have hK:Know Inv F.G:=hFG ▸ hG;(q02 fun j L h1 h2 h3=>absurd h2 (Nat.not_lt.2 (Nat.le_trans (by decide +kernel) h1)))) jtw ((jrn n a).symm.trans h)⟩,rfl⟩
@[reducible] def qj2:SSt:=⟨[(0,.one (.c (.d .str))),(15,.one (.c (.d (.int .i64)))),(16,.one (.c (.d (.int .i64))))],[],[]⟩
@[reducible] def qau:List (Exit×SSt):=[(.ret,⟨[(2,.one (.c (.d .bool)))],[],[]⟩),(.exit 0,⟨[],[],[]⟩)]
def j1n (n:Nat) (rec:(List UInt8)->Int->Int->Option (((Bool×(Unit))×(Unit)×(Unit))⊕((Unit)×(Unit)×(Unit)))) (a1:List UInt8) (a2:Int) (a3:Int):Option (((Bool×(Unit))×(Unit)×(Unit))⊕((Unit)×(Unit)×(Unit))) :=
 (bif decide (a3<a2) then (sAt a1 a3).bind fun (c1:Int)=>(j0b n c1).bind fun (r2:Bool)=>(bif !r2 then some (Sum.inl ((false,()),((),()))) else q0e (IntKind.wrap .i64 (a3+(1:Int))) fun (n3:Int)=>rec a1 a2 n3) else some (Sum.inr (((),((),())))))
def j0n (n:Nat) (rec:pSt qj2->Option (q08 qau)) (p:pSt qj2):Option (q08 qau):=j1n n (fun a1 a2 a3=>rec ((a1,(a2,(a3,()))),((),()))) p.1.1 p.1.2.1 p.1.2.2.1
def qah (n m:Nat) (a1:List UInt8) (a2:Int) (a3:Int):Option (((Bool×(Unit))×(Unit)×(Unit))⊕((Unit)×(Unit)×(Unit))):=q0a (j0n n) m ((a1,(a2,(a3,()))),((),()))
theorem qot (n m:Nat) (a1:List UInt8) (a2:Int) (a3:Int):qah n (m+1) a1 a2 a3=j1n n (fun a1 a2 a3=>qah n m a1 a2 a3) a1 a2 a3:=rfl
def jge (n:Nat):LC:={ sh:=qj2,outs:=qau,F:=q0a (j0n n) n }
def qr5 (n:Nat):List LC:=[jge n]
def j8y (n:Nat) (a1:List UInt8):Option (Bool) :=
 (bif decide (a1=([]:List UInt8)) then some false else (bif decide (a1=([46]:List UInt8)) then some false else (bif decide (a1=([46,46]:List UInt8)) then some false else (qah n n a1 ((List.length a1:Nat):Int) (0:Int)).bind fun (o4:((Bool×(Unit))×(Unit)×(Unit))⊕((Unit)×(Unit)×(Unit)))=>Sum.elim (fun (q5:(Bool×(Unit))×(Unit)×(Unit))=>some q5.1.1) (fun (q6:(Unit)×(Unit)×(Unit))=>some true) o4)))
def qph (n:Nat):FC:={ f:=91,args:=[.one (.c (.d .str))],res:=.one (.c (.d .bool)),F:=fun p=>j8y n p }
def qzp (n:Nat):List FC:=[qjr n]
theorem qxf (n:Nat) {G:World->Prop} (hG:Know Inv G) : ∀c∈qzp n,q0v Tryz.prog G c/\q0d c.args=true:=List.forall_mem_cons.2 ⟨juj n G hG,(fun _ h=>by cases h)⟩
def qzh:q0c:=[]
theorem jer:drB qzh (q00 Tryz.f91)=true:=by kernel_rfl
theorem jpi (n:Nat) : ∀rec p,j0n n rec p=round Tryz.prog 25 (qzp n) (qr5 n) qzh 1 qj2 qau (q01 0 0 (q00 Tryz.f91)) rec p:=by intro rec p;kernel_rfl
theorem jgs (n:Nat) {F:Fr} (hF:F.n=25) (hK:Know Inv F.G):q3k Tryz.prog F (jge n) (q01 0 0 (q00 Tryz.f91)) :=
 q0b hF (by kernel_rfl) (qxf n hK) (jpi n) (fuel:=n) (fun _=>rfl) (q02 fun j L h1 h2 h3=>absurd h2 (Nat.not_lt.2 (Nat.le_trans (by decide +kernel) h1))) (q0h jer)
theorem jtn (n:Nat) : ∀a,(qph n).F a=main Tryz.prog 25 (qzp n) (qr5 n) qzh (q00 Tryz.f91) [.tmp 2] (qph n).args (qph n).res a:=by intro a;kernel_rfl
theorem jtr (n:Nat):q0g Inv Tryz.prog (qph n):=fun G hG=>⟨⟨by kernel_rfl,fun a r h=>q05 (c:=q00 Tryz.f91) Tryz.func91 (by kernel_rfl) (by kernel_rfl) (Nat.le_of_ble_eq_true (by kernel_rfl)) hG.st (by kernel_rfl) (rs:=[.tmp 2]) (by kernel_rfl) (qxf n hG) (lts:=qr5 n) (fun F hF hFG=>have hK:Know Inv F.G:=hFG ▸ hG;(q02 (c:=(q00 Tryz.f91)) (fun j L h1 h2 h3=>by
  have h2':j<1:=Nat.lt_of_lt_of_le h2 (by decide +kernel)
  match j,h1,h2',h3 with
  | 0,_,_,h3=>obtain rfl:=Option.some.inj h3;exact (show q01 0 0 (q00 Tryz.f91)=q01 0 0 (q00 Tryz.f91) by kernel_rfl) ▸ jgs n hF hK
  | j+1,_,h2',_=>exact absurd h2' (by omega)))) jer ((jtn n a).symm.trans h)⟩,rfl⟩
end Go.Proofs.YtggoebaobojmjaaGreatDoor.AM
namespace Go.Proofs.YtggoebaobojmjaaGreatDoor.AM
open Go.RowKit
set_option linter.unusedVariables false
set_option linter.unusedSimpArgs false
theorem ji3 (n:Nat) (c:UInt8):j0b n ((c.toNat:Nat):Int)=some (qv1 c):=by
 have h : ∀k:Fin 256,j0b 0 ((k.val:Nat):Int)=some (qv1 (UInt8.ofNat k.val)):=by decide +kernel
 have h1:=h ⟨c.toNat,c.toNat_lt⟩
 have e:UInt8.ofNat c.toNat=c:=by simp
 rw [e] at h1
 exact h1
theorem qwn (n:Nat) (s:List UInt8) (hL:s.length<=1000000) : ∀m j:Nat,j<=s.length->s.length - j<m->qah n m s ((s.length:Nat):Int) (j:Int)=some (if (s.drop j).all qv1=true then Sum.inr ((),((),())) else Sum.inl ((false,()),((),())))
 | 0,j,_,h=>absurd h (Nat.not_lt_zero _)
 | m+1,j,hj,h=>by
  rw [qot]
  unfold j1n
  by_cases c0:j<s.length
  ·have c0':((j:Nat):Int)<((s.length:Nat):Int):=by omega
   have ih:=qwn n s hL m (j+1) (by omega) (by omega)
   have hd:s.drop j=s[j]::s.drop (j+1):=(List.drop_eq_getElem_cons c0)
   simp only [c0',decide_true,cond_true,q6x c0,Option.bind_some,ji3,q0e,q04 (show j<4611686018427387904 by omega),ih,hd,List.all_cons]
   cases qv1 s[j]<;>simp
  ·have c0' : ¬ ((j:Nat):Int)<((s.length:Nat):Int):=by omega
   have:s.drop j = []:=List.drop_eq_nil_of_le (by omega)
   simp [c0',this]
theorem jjo (n:Nat) (s:List UInt8) (hL:s.length<=1000000) (hn:s.length<n):j8y n s=some (qg3 s):=by
 unfold j8y qg3
 have:=qwn n s hL n 0 (Nat.zero_le _) (by omega)
 rw [show ((0:Nat):Int)=(0:Int) from rfl] at this
 rw [this,List.drop_zero]
 cases decide (s = [])<;>cases decide (s = [46])<;>cases decide (s = [46,46])<;>cases s.all qv1<;>rfl
end Go.Proofs.YtggoebaobojmjaaGreatDoor.AM
namespace Go.Proofs.YtggoebaobojmjaaGreatDoor.AM
open Go.RowKit
set_option linter.unusedVariables false
set_option linter.unusedSimpArgs false
theorem juf {n:Int} (h:0<=n/\n<=999999999):(Lib.itoa n).length<=9:=by
 rw [qpc h.1];exact jlt 8 n.toNat (by omega)
theorem jkn (s:List UInt8):(q45 s).length<=s.length:=by
 unfold q45;split
 ·rw [List.length_drop];omega
 ·exact Nat.le_refl _
end Go.Proofs.YtggoebaobojmjaaGreatDoor.AM
namespace Go.Proofs.YtggoebaobojmjaaGreatDoor.AM
open Go.RowKit
set_option linter.unusedVariables false
set_option linter.unusedSimpArgs false
theorem qha (n m:Nat) (a1 a2 a3 i i' a5 a6 a7 x:Int) (a8 a9:List UInt8) (hx:q0x ([a1,a2,a3]:List Int) i=some x) (hi:i<3) (hw:IntKind.wrap .i64 (i+1)=i') :
  q51 n (m+1) a1 a2 a3 i a5 a6 a7 a8 a9=if qvf x=true then q51 n m a1 a2 a3 i' a5 a6 a7 a8 a9 else some (Sum.inl ((false,()),((),()))):=by
 rw [q9i]
 unfold qi3 qvf
 simp only [hi,decide_true,cond_true,hx,Option.bind_some,q0e,hw]
 by_cases h1:x<0
 ·have : ¬ (0:Int)<=x:=by omega
  simp [h1,this]
 ·have h1':(0:Int)<=x:=by omega
  by_cases h2:999999999<x
  ·have : ¬ x<=999999999:=by omega
   simp [h1,h2,this]
  ·have:x<=999999999:=by omega
   simp [h1,h2,h1',this]
theorem q7c (n:Nat) (v:VD) (hn:4<=n):q7m n v=some (q1f v):=by
 obtain ⟨k,rfl⟩ : ∃ k,n=k+1+1+1+1:=⟨n - 4,by omega⟩
 obtain ⟨a,b,c,p,q⟩:=v
 unfold q7m
 rw [qha _ _ a b c 0 1 _ _ _ a _ _ rfl (by decide) rfl,qha _ _ a b c 1 2 _ _ _ b _ _ rfl (by decide) rfl,qha _ _ a b c 2 3 _ _ _ c _ _ rfl (by decide) rfl,q9i]
 unfold qi3 q1f qrf qkd
 dsimp only
 cases qvf a with
 | false=>rfl
 | true=>cases qvf b with
  | false=>rfl
  | true=>cases qvf c with
   | false=>rfl
   | true =>
    simp only [if_true,Bool.true_and,show ¬ (3:Int)<3 from by decide,decide_false,cond_false,Option.bind_some,Sum.elim_inr]
    cases q5p q5e p<;>cases q5p q2f q<;>rfl
theorem jnn (n:Nat) (s:List UInt8) (hs:s.length<=1000000):qc4 n s [118]=some (q45 s):=by
 unfold qc4 qaz q54 q45
 cases s with
 | nil=>rfl
 | cons b r =>
  have h1:((List.length ([118]:List UInt8):Nat):Int)<=((List.length (b::r):Nat):Int):=by simp;omega
  have h2:qtj (b::r) (0:Int) ((List.length ([118]:List UInt8):Nat):Int)=some [b]:=sub_zero (b:=1) (by simp)
  have h3:qtj (b::r) ((List.length ([118]:List UInt8):Nat):Int) ((List.length (b::r):Nat):Int)=some r:=by
   have:=sub_le (l:=b::r) (a:=1) (b:=(b::r).length) (by simp) (Nat.le_refl _)
   rw [show ((List.length ([118]:List UInt8):Nat):Int)=((1:Nat):Int) from rfl,this]
   simp
  simp only [h1,decide_true,cond_true,h2,Option.bind_some,List.head?_cons,Option.some.injEq,List.drop_succ_cons,List.drop_zero]
  by_cases hb:b=118
  ·simp only [hb,decide_true,cond_true,if_true] at h3 ⊢
   rw [h3];rfl
  ·have : ¬ [b]=([118]:List UInt8):=fun h=>hb (by simpa using h)
   simp [this,hb]
end Go.Proofs.YtggoebaobojmjaaGreatDoor.AM
namespace Go.Proofs.YtggoebaobojmjaaGreatDoor.AM
open Go.RowKit
set_option linter.unusedVariables false
set_option linter.unusedSimpArgs false
theorem qiz (s:List UInt8) (j:Nat) (h:j<s.length):(s.take (j+1)).reverse=s[j]::(s.take j).reverse:=by
 rw [List.take_succ_eq_append_getElem h];simp
theorem qwx (n:Nat) (c:UInt8) (s:List UInt8) (hL:s.length<=1000000) : ∀m j:Nat,j<=s.length->j<m->qao n m s ((c.toNat:Nat):Int) ((j:Int) - 1)=some (if q8s c (s.take j).reverse = -1 then Sum.inr ((),((),())) else Sum.inl ((q8s c (s.take j).reverse,()),((),())))
 | 0,j,_,h=>absurd h (Nat.not_lt_zero _)
 | m+1,0,_,_=>by
  rw [qbl]
  unfold qpw
  simp [q8s]
 | m+1,j+1,hj,h=>by
  rw [qbl]
  unfold qpw
  have e1:((j+1:Nat):Int) - 1=((j:Nat):Int):=by omega
  have ih:=qwx n c s hL m j (by omega) (by omega)
  have w1:IntKind.wrap .i64 (((j:Nat):Int) - 1)=((j:Nat):Int) - 1:=wrap64 (by omega) (by omega)
  have c0:(0:Int)<=((j:Nat):Int):=by omega
  have d1:decide (((s[j].toNat:Nat):Int)=((c.toNat:Nat):Int))=decide (s[j]=c):=decide_eq_decide.2 ⟨fun h=>UInt8.toNat_inj.1 (by omega),fun h=>by rw [h]⟩
  rw [e1]
  simp only [c0,decide_true,cond_true,q6x (show j<s.length by omega),Option.bind_some,d1,q0e,w1,ih,qiz s j (by omega),q8s]
  by_cases h0:s[j]=c
  ·have : ¬ (((s.take j).reverse.length:Nat):Int) = -1:=by omega
   have l1:(s.take j).reverse.length=j:=by simp;omega
   simp only [h0,decide_true,cond_true,if_true,this,if_false,l1]
   rw [if_neg (by omega)]
  ·simp [h0]
theorem jip (n:Nat) (c:UInt8) (s:List UInt8) (hL:s.length<=1000000) (hn:s.length<n):j0r n s ((c.toNat:Nat):Int)=some (q91 c s):=by
 unfold j0r
 have:=qwx n c s hL n s.length (Nat.le_refl _) hn
 have w1:IntKind.wrap .i64 (((s.length:Nat):Int) - 1)=((s.length:Nat):Int) - 1:=wrap64 (by omega) (by omega)
 simp only [q0e,w1,this,List.take_length]
 unfold q91
 by_cases h:q8s c s.reverse = -1
 ·simp [h]
 ·simp [h]
theorem qwb (n:Nat) (s:List UInt8) (hL:s.length<=1000000) (hn:s.length<n):j22 n s (47:Int)=some (q91 47 s):=by
 unfold j22
 rw [show (47:Int)=(((47:UInt8).toNat:Nat):Int) from rfl,jip n 47 s hL hn];rfl
theorem j8z (n:Nat) (s:List UInt8) (hs:s.length<=1000000):qa8 n s [118]=some (if s.head? = some 118 then (s.drop 1,true) else (s,false)):=by
 unfold qa8 qct q54
 cases s with
 | nil=>rfl
 | cons b r =>
  have h1:((List.length ([118]:List UInt8):Nat):Int)<=((List.length (b::r):Nat):Int):=by simp;omega
  have h2:qtj (b::r) (0:Int) ((List.length ([118]:List UInt8):Nat):Int)=some [b]:=sub_zero (b:=1) (by simp)
  have h3:qtj (b::r) ((List.length ([118]:List UInt8):Nat):Int) ((List.length (b::r):Nat):Int)=some r:=by
   have:=sub_le (l:=b::r) (a:=1) (b:=(b::r).length) (by simp) (Nat.le_refl _)
   rw [show ((List.length ([118]:List UInt8):Nat):Int)=((1:Nat):Int) from rfl,this]
   simp
  simp only [h1,decide_true,cond_true,h2,Option.bind_some,List.head?_cons,Option.some.injEq,List.drop_succ_cons,List.drop_zero]
  by_cases hb:b=118
  ·simp only [hb,decide_true,cond_true,if_true,Bool.not_true,cond_false] at h3 ⊢
   rw [h3];rfl
  ·have : ¬ [b]=([118]:List UInt8):=fun h=>hb (by simpa using h)
   simp [this,hb]
theorem qup (n:Nat) (s:List UInt8) (hs:s.length<=1000000):qhh n s=some (q0w s):=by
 unfold qhh q0w q33
 rw [j8z n s hs]
 by_cases h:s.head? = some 118
 ·have hl:(s.drop 1).length<=1000000:=by rw [List.length_drop];omega
  have ht:qtt (s.drop 1) jj4=some (Lib.trimS (s.drop 1) jj4):=if_pos ⟨rfl,hl⟩
  simp only [h,if_true,Option.bind_some,cond_true,ht,jrl,decide_true,Bool.true_and]
  cases decide (s.drop 1 = [])<;>cases (s.drop 1).all q1z<;>rfl
 ·simp [h]
end Go.Proofs.YtggoebaobojmjaaGreatDoor.AM
namespace Go.Proofs
open Go.RowKit Go.Shelf Go.Lib
attribute [local go_sem] Oper.semAt_some
set_option linter.unusedVariables false
set_option linter.unusedSimpArgs false
namespace YtggoebaobojmjaaGreatDoor.AM
theorem jsc (x:List UInt8) (w:World) (hI:Inv w) (hx:x.length<=1000000):Calls Tryz.prog 91 #[.string (ba x)] w fun e w'=>e = .returned (.bool (qg3 x))/\Below w.heap.size w w':=by
 have h:=(jtr 1000001 Inv q1k).1.2 x (qg3 x) (jjo 1000001 x (by omega) (by omega))
 refine (h (fun _ _=>False) w #[.string (ba x)] hI (fun b o h=>h.elim) ⟨q06 _,trivial⟩).mono ?_
 rintro e w' ⟨v,Pc,rfl,hb,_,_,hv⟩
 have hv':v = .bool (qg3 x):=q07 hv
 rw [hv']
 exact ⟨rfl,hb⟩
set_option maxHeartbeats 2000000 in
theorem j9y (s:List UInt8) (w:World) (hI:Inv w):Calls Tryz.prog 57 #[.string (ba s)] w fun e w'=>e = .returned (.bool (q73 s))/\Below w.heap.size w w':=by
 refine (callsIn_wide (n:=9)).1 ?_
 refine callsIn_of_wp_marks Tryz.func57 rfl trivial ?_ rfl
 simp only [Tryz.ntmps57,List.size_toArray,List.length_cons,List.length_nil,Nat.reduceAdd,Nat.reduceSub,Array.replicate_succ,Array.replicate_zero,List.push_toArray,List.append_toArray,List.nil_append,List.cons_append]
 have hsz:(ba s).size=s.length:=q3j s
 by_cases h2:s.length<=60
 ·skip
  gi_wp2_with (refine ⟨trivial,?_⟩;gi_at_call 90;refine (callsIn_wide.2 (q4p _ _ _)).mono ?_;rintro e w' ⟨rfl,rfl⟩)
  obtain ⟨W0,hW0,hs0,hb0,g0,g1,g2,g3⟩:=four w (Obj.cells #[Value.bool false] 4) (Obj.cells #[Value.string (ba s)] 9) (Obj.cells #[Value.string { data:=#[47] }] 9) (Obj.cells #[Value.int IntKind.i64 0] 3)
  rw [hW0]
  clear hW0
  obtain ⟨c1,f1⟩:=q0p g0
  obtain ⟨c2,f2⟩:=q0p g1
  obtain ⟨c3,f3⟩:=q0p g2
  obtain ⟨c4,f4⟩:=q0p g3
  refine range_split (n:=9) (by omega) 47 (w.heap.size+1) (w.heap.size+1+1) (w.heap.size+1+2) s (by omega) rfl ⟨c2,f2⟩
   (Rng (.string (ba [47])) (w.heap.size+1+1) w.heap.size (w.heap.size+1+1) (w.heap.size+1+2) 47 w qg3) (RngX w.heap.size w qg3) (j1l (by omega)) (j0y (by omega))
   (fun pre W h=>⟨h.cP,h.cC,(hI.below h.below).maxLen⟩) (fun pre W v h=>qzs v h (by omega) (by omega) (by omega) (by omega) (by omega)) ⟨c3,c1,f1,c3,c4,hb0,rfl⟩
   (fun x=>{ tmps:=#[.string (ba s),undef,.pointer (some ⟨w.heap.size,0,none⟩),.string (ba x),.string (ba s),.int .i64 s.length,.bool (decide ((60:Int)<s.length)),.string (ba s),.func (.func 139) #[] #[.pointer (some ⟨w.heap.size+1+1,0,none⟩),.pointer (some ⟨w.heap.size+1,0,none⟩),.pointer (some ⟨w.heap.size+1+2,0,none⟩)],.string (ba x),undef,undef,undef],defers:=[] }) ?assign ?body ?done ?stop
  case assign =>
   intro l x W K hK
   gi_wp2
   exact hK
  case body =>
   intro l pre x r W hi hL hx
   have k1:=hi.res
   have k2:=hi.frz
   have hc:=jsc x W (hI.below hi.below) (by omega)
   cases hpx:qg3 x with
   | true =>
    rw [hpx] at hc
    gi_wp2_with (refine ⟨trivial,?_⟩;gi_at_call 91;refine (CallsIn.inRound l (callsIn_wide.2 hc)).mono ?_;rintro e w' ⟨rfl,hb'⟩)
    exact ⟨q27 hb',qhf hi hb' (by simp [hpx]),qe2 hL hb'⟩
   | false =>
    rw [hpx] at hc
    gi_wp2_with (refine ⟨trivial,?_⟩;gi_at_call 91;refine (CallsIn.inRound l (callsIn_wide.2 hc)).mono ?_;rintro e w' ⟨rfl,hb'⟩;have k3:=q2e hb' hi.res;have k4:=(q3f hb' hi.res).trans hi.frz)
    exact ⟨(q27 hb').trans (KeepsOthers.setCell _ _ _),World.cell?_setCell_same' _ _ _ (by rw [k3];rfl),(hi.below.trans (hb'.mono hi.below.size)).setCell (by simp) _,by simp [hpx]⟩
  case done =>
   intro D W hD hi hK
   have k1:=hi.res
   have k2:=hi.frz
   gi_wp2
   have hK':=(KeepsOthers.setCell W ⟨w.heap.size,0,none⟩ (.bool true)).same D _ hK rfl
   have hW':Below w.heap.size w (W.setCell ⟨w.heap.size,0,none⟩ (.bool true)):=hi.below.setCell (by simp) _
   have k5:(W.setCell ⟨w.heap.size,0,none⟩ (.bool true)).cell? ⟨w.heap.size,0,none⟩=some (.bool true):=World.cell?_setCell_same' _ _ _ (by rw [k1];rfl)
   generalize W.setCell ⟨w.heap.size,0,none⟩ (.bool true)=W2 at hK' hW' k5
   refine ⟨by simp,.inl ⟨_,_,rfl,run_takeDeferred hK',?_⟩⟩
   have hg:=grownBy_putObj' W2 D (.deferred none)
   refine ⟨_,q2r (b:=w.heap.size) (v:=.bool true) rfl rfl hag (cell_kept k5 hg (fun r e=>by cases e;exact ⟨_,hK',rfl⟩)),?_,?_⟩
   ·have ha:=hi.all
    unfold q73;simp [h2,ha]
   ·exact hW'.grown hg hW'.size (fun k e=>by cases e;omega)
  case stop =>
   intro D pre x t W hD hsp hi hK
   refine ⟨by simp,.inl ⟨_,_,rfl,run_takeDeferred hK,?_⟩⟩
   have hg:=grownBy_putObj' W D (.deferred none)
   refine ⟨_,q2r (b:=w.heap.size) (v:=.bool false) rfl rfl hag (cell_kept hi.res hg (fun r e=>by cases e;exact ⟨_,hK,rfl⟩)),?_,?_⟩
   ·have ha:=jcl hsp hi.no
    unfold q73;simp [ha]
   ·exact hi.below.grown hg hi.below.size (fun k e=>by cases e;omega)
 ·gi_wp2
  refine ⟨_,q2r (b:=w.heap.size) (v:=.bool false) rfl rfl hag (by simp),?_,?_⟩
  ·unfold q73;simp [h2]
  ·exact (Below.refl _ w).alloc (Nat.le_refl _) _
def jai (s:List UInt8):Option Bool:=some (q73 s)
def jdm:FC:={ f:=57,args:=[jem],res:=jup,F:=fun p=>jai p }
theorem jss:q0g Inv Tryz.prog jdm:=fun G hG=>⟨⟨by kernel_rfl,fun (s:List UInt8) r h=>by
 have hr:q73 s=r:=Option.some.inj h
 intro Pc w vs hg hlt hv
 obtain ⟨l⟩:=vs
 match l,hv with
 | [x],⟨h1,_⟩ =>
  obtain rfl:x = .string (ba s):=q07 h1
  refine (j9y s w (hG.im w hg)).mono ?_
  rintro e w' ⟨rfl,hb⟩
  subst hr
  exact qgz rfl hb (q06 _)⟩,rfl⟩
end YtggoebaobojmjaaGreatDoor.AM
end Go.Proofs
namespace Go.Proofs
open Go.RowKit Go.Shelf Go.Lib
attribute [local go_sem] Oper.semAt_some
set_option linter.unusedVariables false
set_option linter.unusedSimpArgs false
namespace YtggoebaobojmjaaGreatDoor.AM
theorem jno (x:List UInt8) (w:World) (hI:Inv w) (hx:x.length<=1000000):Calls Tryz.prog 59 #[.string (ba x)] w fun e w'=>e = .returned (.bool (q0w x))/\Below w.heap.size w w':=by
 have h:=(j7g 1000001 Inv q1k).1.2 x (q0w x) (qup 1000001 x (by omega))
 refine (h (fun _ _=>False) w #[.string (ba x)] hI (fun b o h=>h.elim) ⟨q06 _,trivial⟩).mono ?_
 rintro e w' ⟨v,Pc,rfl,hb,_,_,hv⟩
 have hv':v = .bool (q0w x):=q07 hv
 rw [hv']
 exact ⟨rfl,hb⟩
set_option maxHeartbeats 2000000 in
theorem jgv (s:List UInt8) (w:World) (hI:Inv w) (h2:s.length<=1000000):Calls Tryz.prog 58 #[.string (ba s)] w fun e w'=>e = .returned (.bool (anyS s))/\Below w.heap.size w w':=by
 refine (callsIn_wide (n:=9)).1 ?_
 refine callsIn_of_wp_marks Tryz.func58 rfl trivial ?_ rfl
 simp only [Tryz.ntmps58,List.size_toArray,List.length_cons,List.length_nil,Nat.reduceAdd,Nat.reduceSub,Array.replicate_succ,Array.replicate_zero,List.push_toArray,List.append_toArray,List.nil_append,List.cons_append]
 have hsz:(ba s).size=s.length:=q3j s
 have key:anyS s = !((spl 47 [] s).all fun x=>!q0w x):=by unfold anyS;rw [List.any_eq_not_all_not]
 ·skip
  gi_wp2_with (refine ⟨trivial,?_⟩;gi_at_call 90;refine (callsIn_wide.2 (q4p _ _ _)).mono ?_;rintro e w' ⟨rfl,rfl⟩)
  obtain ⟨W0,hW0,hs0,hb0,g0,g1,g2,g3⟩:=four w (Obj.cells #[Value.bool false] 4) (Obj.cells #[Value.string (ba s)] 9) (Obj.cells #[Value.string { data:=#[47] }] 9) (Obj.cells #[Value.int IntKind.i64 0] 3)
  rw [hW0]
  clear hW0
  obtain ⟨c1,f1⟩:=q0p g0
  obtain ⟨c2,f2⟩:=q0p g1
  obtain ⟨c3,f3⟩:=q0p g2
  obtain ⟨c4,f4⟩:=q0p g3
  refine range_split (n:=9) (by omega) 47 (w.heap.size+1) (w.heap.size+1+1) (w.heap.size+1+2) s (by omega) rfl ⟨c2,f2⟩
   (Rng (.string (ba [47])) (w.heap.size+1+1) w.heap.size (w.heap.size+1+1) (w.heap.size+1+2) 47 w (fun x=>!q0w x)) (RngY w.heap.size w (fun x=>!q0w x)) (j1l (by omega)) (jr5 (by omega))
   (fun pre W h=>⟨h.cP,h.cC,(hI.below h.below).maxLen⟩) (fun pre W v h=>qzs v h (by omega) (by omega) (by omega) (by omega) (by omega)) ⟨c3,c1,f1,c3,c4,hb0,rfl⟩
   (fun x=>{ tmps:=#[.string (ba s),undef,.pointer (some ⟨w.heap.size,0,none⟩),.string (ba x),.string (ba s),.func (.func 139) #[] #[.pointer (some ⟨w.heap.size+1+1,0,none⟩),.pointer (some ⟨w.heap.size+1,0,none⟩),.pointer (some ⟨w.heap.size+1+2,0,none⟩)],.string (ba x),undef,undef],defers:=[] }) ?assign ?body ?done ?stop
  case assign =>
   intro l x W K hK
   gi_wp2
   exact hK
  case body =>
   intro l pre x r W hi hL hx
   have k1:=hi.res
   have k2:=hi.frz
   have hc:=jno x W (hI.below hi.below) (by omega)
   cases hpx:q0w x with
   | false =>
    rw [hpx] at hc
    gi_wp2_with (refine ⟨trivial,?_⟩;gi_at_call 59;refine (CallsIn.inRound l (callsIn_wide.2 hc)).mono ?_;rintro e w' ⟨rfl,hb'⟩)
    exact ⟨q27 hb',qhf hi hb' (by simp [hpx]),qe2 hL hb'⟩
   | true =>
    rw [hpx] at hc
    gi_wp2_with (refine ⟨trivial,?_⟩;gi_at_call 59;refine (CallsIn.inRound l (callsIn_wide.2 hc)).mono ?_;rintro e w' ⟨rfl,hb'⟩;have k3:=q2e hb' hi.res;have k4:=(q3f hb' hi.res).trans hi.frz)
    exact ⟨(q27 hb').trans (KeepsOthers.setCell _ _ _),World.cell?_setCell_same' _ _ _ (by rw [k3];rfl),(hi.below.trans (hb'.mono hi.below.size)).setCell (by simp) _,by simp [hpx]⟩
  case done =>
   intro D W hD hi hK
   have k1:=hi.res
   have k2:=hi.frz
   gi_wp2
   have hK':=(KeepsOthers.setCell W ⟨w.heap.size,0,none⟩ (.bool false)).same D _ hK rfl
   have hW':Below w.heap.size w (W.setCell ⟨w.heap.size,0,none⟩ (.bool false)):=hi.below.setCell (by simp) _
   have k5:(W.setCell ⟨w.heap.size,0,none⟩ (.bool false)).cell? ⟨w.heap.size,0,none⟩=some (.bool false):=World.cell?_setCell_same' _ _ _ (by rw [k1];rfl)
   generalize W.setCell ⟨w.heap.size,0,none⟩ (.bool false)=W2 at hK' hW' k5
   refine ⟨by simp,.inl ⟨_,_,rfl,run_takeDeferred hK',?_⟩⟩
   have hg:=grownBy_putObj' W2 D (.deferred none)
   refine ⟨_,q2r (b:=w.heap.size) (v:=.bool false) rfl rfl hag (cell_kept k5 hg (fun r e=>by cases e;exact ⟨_,hK',rfl⟩)),?_,?_⟩
   ·have ha:=hi.all
    rw [key,ha];rfl
   ·exact hW'.grown hg hW'.size (fun k e=>by cases e;omega)
  case stop =>
   intro D pre x t W hD hsp hi hK
   refine ⟨by simp,.inl ⟨_,_,rfl,run_takeDeferred hK,?_⟩⟩
   have hg:=grownBy_putObj' W D (.deferred none)
   refine ⟨_,q2r (b:=w.heap.size) (v:=.bool true) rfl rfl hag (cell_kept hi.res hg (fun r e=>by cases e;exact ⟨_,hK,rfl⟩)),?_,?_⟩
   ·have ha:=jcl hsp hi.no
    rw [key,ha];rfl
   ·exact hi.below.grown hg hi.below.size (fun k e=>by cases e;omega)
theorem jn1 (s:List UInt8) (b:Nat):(ba s).extract 0 b=ba (s.take b):=by
 rw [<-jv6 ((ba s).extract 0 b)]
 congr 1
 unfold unB ba
 rw [ByteArray.data_extract]
 simp
theorem jor (x:List UInt8) (w:World) (hI:Inv w) (hx:x.length<=1000000):Calls Tryz.prog 89 #[.string (ba x),.int .u8 47] w fun e w'=>e = .returned (.int .i64 (q91 47 x))/\Below w.heap.size w w':=by
 have h:=(jee 1000001 Inv q1k).1.2 (x,(47:Int)) (q91 47 x) (qwb 1000001 x (by omega) (by omega))
 refine (h (fun _ _=>False) w #[.string (ba x),.int .u8 47] hI (fun b o h=>h.elim) ⟨q06 _,q06 _,trivial⟩).mono ?_
 rintro e w' ⟨v,Pc,rfl,hb,_,_,hv⟩
 have hv':v = .int .i64 (q91 47 x):=q07 hv
 rw [hv']
 exact ⟨rfl,hb⟩
theorem j8i (s:List UInt8) (w:World) (hI:Inv w) (hs:s.length<=1000000):Calls Tryz.prog 55 #[.string (ba s)] w fun e w'=>e = .returned (.string (ba (q1m s)))/\Below w.heap.size w w':=by
 have hl:=jdg 47 s
 have hsz:(ba s).size=s.length:=q3j s
 have hc:=jor s w hI hs
 go_enter Tryz.func55,Tryz.ntmps55
 by_cases h0:q91 47 s = -1
 ·rw [h0] at hc
  go_wp2_with (go_at_call 89;refine hc.mono ?_)
  rintro e w' ⟨rfl,hb⟩
  go_wp2
  go_ret
  refine ⟨?_,hb⟩
  show Ending.returned (.string ((ba s).extract 0 (max 0 (-1:Int)).toNat))=_
  rw [jn1];unfold q1m;rw [h0];rfl
 ·obtain ⟨k,hk⟩ : ∃ k:Nat,q91 47 s=(k:Int):=⟨(q91 47 s).toNat,by omega⟩
  rw [hk] at hc
  go_wp2_with (go_at_call 89;refine hc.mono ?_)
  rintro e w' ⟨rfl,hb⟩
  go_wp2
  go_ret
  refine ⟨?_,hb⟩
  show Ending.returned (.string ((ba s).extract 0 (max 0 (k:Int)).toNat))=_
  rw [jn1];unfold q1m;rw [hk,Int.max_eq_right (by omega)]
theorem ju3 (x:List UInt8) (w:World) (hI:Inv w) (hx:x.length<=1000000):Calls Tryz.prog 94 #[.string (ba x),.string (ba [118])] w fun e w'=>e = .returned (.string (ba (q45 x)))/\Below w.heap.size w w':=by
 have h:=(qzx 100 Inv q1k).1.2 (x,([118]:List UInt8)) (q45 x) (jnn 100 x (by omega))
 refine (h (fun _ _=>False) w #[.string (ba x),.string (ba [118])] hI (fun b o h=>h.elim) ⟨q06 _,q06 _,trivial⟩).mono ?_
 rintro e w' ⟨v,Pc,rfl,hb,_,_,hv⟩
 have hv':v = .string (ba (q45 x)):=q07 hv
 rw [hv']
 exact ⟨rfl,hb⟩
theorem jlh (n:Int) (w:World) (hI:Inv w) (h0:2<=n) (h1:n<=999999999):Calls Tryz.prog 96 #[.int .i64 n] w fun e w'=>e = .returned (.string (ba (Lib.itoa n)))/\Below w.heap.size w w':=by
 refine (Any.strconv_Itoa Tryz.laysItoa n (by omega) (by omega) w hI.tab).mono ?_
 rintro e w' ⟨rfl,k,os,rfl⟩
 exact ⟨rfl,Lib.below_grow _ w (Nat.le_refl _) k os⟩
set_option maxHeartbeats 2000000 in
theorem ji7 (s:List UInt8) (w:World) (hI:Inv w) (hs:s.length<=1000000):Calls Tryz.prog 60 #[.string (ba s)] w fun e w'=>e = .returned (.tuple #[.int .i64 (numOf (q45 s)),.bool (qv5 (q45 s))])/\Below w.heap.size w w':=by
 have hc:=ju3 s w hI hs
 have hl:=jkn s
 go_enter Tryz.func60,Tryz.ntmps60
 go_wp2_with (go_at_call 94;refine hc.mono ?_)
 rintro e w1 ⟨rfl,hb1⟩
 clear hc
 have hI1:=hI.below hb1
 have e1:(ba (q45 s)).data.toList=q45 s:=by simp [ba]
 have hl':(ba (q45 s)).size<=281474976710656:=by rw [q3j];omega
 obtain ⟨ts,ps,hsy⟩:=hI1.syn
 obtain ⟨tr,pr,hrg⟩:=hI1.rng
 cases h:Lib.atoiAll (q45 s) with
 | ok v =>
  go_wp2_with (go_at_call 95;refine (Any.strconv_Atoi_ok Tryz.laysAtoi (ba (q45 s)) (by omega) v (by rw [e1];exact h) w1).mono ?_)
  rintro e w2 ⟨rfl,hw⟩
  have hb2:Below w1.heap.size w1 w2:=by
   rcases hw with rfl|⟨t,rfl⟩
   ·exact Below.refl _ _
   ·exact Lib.bytesWorld_below _ _ _
  clear hw
  have hb:Below w.heap.size w w2:=hb1.trans (hb2.mono hb1.size)
  by_cases h2:2<=v
  ·by_cases h3:v<=999999999
   ·have hi:=jlh v w2 (hI.below hb) h2 h3
    go_wp2_with (go_at_call 96;refine hi.mono ?_)
    rintro e w3 ⟨rfl,hb3⟩
    go_wp2
    go_ret2
    refine ⟨?_,hb.trans (hb3.mono hb.size)⟩
    unfold numOf qv5;rw [h]
    simp [h2,h3,q9t]
    rw [Bool.eq_iff_iff];simp
   ·go_wp2
    go_ret2
    refine ⟨?_,hb⟩
    unfold numOf qv5;rw [h]
    simp [h2,show ¬ v<=999999999 from by omega]
  ·go_wp2
   go_ret2
   refine ⟨?_,hb⟩
   unfold numOf qv5;rw [h]
   simp [show ¬ 2<=v from by omega]
 | «syntax» =>
  go_wp2_with (go_at_call 95;refine (Any.strconv_Atoi_syntax Tryz.laysAtoi (ba (q45 s)) hl' (by rw [e1];exact h) _ w1 hsy (Or.inr ⟨_,_,rfl⟩)).mono ?_)
  rintro e w2 ⟨N,rfl,hN,hc,hb2⟩
  go_wp2
  go_ret2
  refine ⟨?_,hb1.trans (hb2.mono hb1.size)⟩
  unfold numOf qv5;rw [h];rfl
 | range =>
  go_wp2_with (go_at_call 95;refine (Any.strconv_Atoi_range Tryz.laysAtoi (ba (q45 s)) hl' (by rw [e1];exact h) _ w1 hrg (Or.inr ⟨_,_,rfl⟩)).mono ?_)
  rintro e w2 ⟨N,rfl,hN,hc,hb2⟩
  rw [e1]
  go_wp2
  go_ret2
  refine ⟨?_,hb1.trans (hb2.mono hb1.size)⟩
  unfold numOf qv5;rw [h];rfl
def j5b (s:List UInt8):Option Bool:=if s.length<=1000000 then some (anyS s) else none
def jln:FC:={ f:=58,args:=[jem],res:=jup,F:=fun p=>j5b p }
theorem jwt:q0g Inv Tryz.prog jln:=fun G hG=>⟨⟨by kernel_rfl,fun (s:List UInt8) r h=>by
 have h':j5b s=some r:=h
 unfold j5b at h'
 split at h'
 case isFalse=>cases h'
 rename_i hc
 have hr:anyS s=r:=Option.some.inj h'
 intro Pc w vs hg hlt hv
 obtain ⟨l⟩:=vs
 match l,hv with
 | [x],⟨h1,_⟩ =>
  obtain rfl:x = .string (ba s):=q07 h1
  refine (jgv s w (hG.im w hg) hc).mono ?_
  rintro e w' ⟨rfl,hb⟩
  subst hr
  exact qgz rfl hb (q06 _)⟩,rfl⟩
def qqr (s:List UInt8):Option (List UInt8):=if s.length<=1000000 then some (q1m s) else none
def jdt:FC:={ f:=55,args:=[jem],res:=jem,F:=fun p=>qqr p }
theorem jrc:q0g Inv Tryz.prog jdt:=fun G hG=>⟨⟨by kernel_rfl,fun (s:List UInt8) r h=>by
 have h':qqr s=some r:=h
 unfold qqr at h'
 split at h'
 case isFalse=>cases h'
 rename_i hc
 have hr:q1m s=r:=Option.some.inj h'
 intro Pc w vs hg hlt hv
 obtain ⟨l⟩:=vs
 match l,hv with
 | [x],⟨h1,_⟩ =>
  obtain rfl:x = .string (ba s):=q07 h1
  refine (j8i s w (hG.im w hg) hc).mono ?_
  rintro e w' ⟨rfl,hb⟩
  subst hr
  exact qgz rfl hb (q06 (.string (ba (q1m s))))⟩,rfl⟩
def qyn (s:List UInt8):Option (Int×Bool):=if s.length<=1000000 then some (numOf (q45 s),qv5 (q45 s)) else none
def jnf:FC:={ f:=60,args:=[jem],res:=.tup [.c (.d (.int .i64)),.c (.d .bool)],F:=fun p=>qyn p }
theorem jw5:q0g Inv Tryz.prog jnf:=fun G hG=>⟨⟨by kernel_rfl,fun (s:List UInt8) (r:Int×Bool) h=>by
 have h':qyn s=some r:=h
 unfold qyn at h'
 split at h'
 case isFalse=>cases h'
 rename_i hc
 have hr:(numOf (q45 s),qv5 (q45 s))=r:=Option.some.inj h'
 intro Pc w vs hg hlt hv
 obtain ⟨l⟩:=vs
 match l,hv with
 | [x],⟨h1,_⟩ =>
  obtain rfl:x = .string (ba s):=q07 h1
  refine (ji7 s w (hG.im w hg) hc).mono ?_
  rintro e w' ⟨rfl,hb⟩
  subst hr
  refine ⟨_,Pc,rfl,hb,fun _ _ h=>h,fun _ _ h=>Or.inl h,?_⟩
  exact ⟨#[.int .i64 (numOf (q45 s)),.bool (qv5 (q45 s))],rfl,q06 (σ:=q2y) (.int .i64 (numOf (q45 s))),q06 (σ:=q2y) (.bool (qv5 (q45 s))),trivial⟩⟩,rfl⟩
end YtggoebaobojmjaaGreatDoor.AM
end Go.Proofs
