
import Derived.Test.YtlmjgghohipipaaGreatDoorLc9
import Derived.Ground.NamesProg
import Derived.Shelf.Abstract
import Derived.WalkKit
import Derived.OwnWalkIn
import Derived.LoopIn
import Derived.Lib.Hide
import Derived.Test.YtlmjgghohipipaaGreatDoorProg
import Derived.Test.YtlmjgghohipipaaGreatDoorLc8
namespace Go.Proofs.YtlmjgghohipipaaGreatDoor.AM.Bs
set_option linter.unusedVariables false
set_option linter.unusedSimpArgs false
def sgT:List UInt8:=[65,66,67,68,69,70,71,72,73,74,75,76,77,78,79,80,81,82,83,84,85,86,87,88,89,90,97,98,99,100,101,102,103,104,105,106,107,108,109,110,111,112,113,114,115,116,117,118,119,120,121,122,48,49,50,51,52,53,54,55,56,57,43,47]
def sg (n:Nat):UInt8:=sgT.getD n 0
def nuL (c:UInt8):List UInt8->Nat->Option Nat
 | [],_=>none
 | x::l,i=>if x=c then some i else nuL c l (i+1)
def nu (c:UInt8):Option Nat:=nuL c sgT 0
theorem nu_sg : ∀k:Fin 64,nu (sg k.val)=some k.val:=by decide +kernel
theorem nu_lt : ∀c:Fin 256,∀k,nu (UInt8.ofNat c.val)=some k->k<64:=by
 have h : ∀c:Fin 256,(match nu (UInt8.ofNat c.val) with|some k=>decide (k<64)|none=>true)=true:=by decide +kernel
 intro c k hk
 have:=h c
 rw [hk] at this
 exact of_decide_eq_true this
theorem qw2 {c:UInt8} {k:Nat} (h:nu c=some k):k<64:=nu_lt ⟨c.toNat,UInt8.toNat_lt c⟩ k (by simpa using h)
theorem q5c {k:Nat} (h:k<64):nu (sg k)=some k:=nu_sg ⟨k,h⟩
theorem jdq:nu 61=none:=by decide
theorem q7w {k:Nat} (h:k<64):sg k≠61:=fun e=>by
 have:=q5c h
 rw [e,jdq] at this
 cases this
def q4n:List UInt8->List UInt8
 | a::b::c::r=>sg (a.toNat / 4)::sg (a.toNat % 4*16+b.toNat / 16)::sg (b.toNat % 16*4+c.toNat / 64)::sg (c.toNat % 64)::q4n r
 | [a,b]=>[sg (a.toNat / 4),sg (a.toNat % 4*16+b.toNat / 16),sg (b.toNat % 16*4),61]
 | [a]=>[sg (a.toNat / 4),sg (a.toNat % 4*16),61,61]
 | []=>[]
theorem qub : ∀s:List UInt8,(q4n s).length=(s.length+2) / 3*4
 | a::b::c::r=>by
  have:=qub r
  simp only [q4n,List.length_cons,this]
  omega
 | [a,b]=>by simp [q4n]
 | [a]=>by simp [q4n]
 | []=>rfl
theorem j2v : ∀s t:List UInt8,s.length % 3=0->q4n (s++t)=q4n s++q4n t
 | a::b::c::r,t,h=>by
  have:=j2v r t (by simp only [List.length_cons] at h;omega)
  simp only [List.cons_append,q4n,this]
 | [a,b],t,h=>by simp at h
 | [a],t,h=>by simp at h
 | [],t,h=>rfl
def ja5:List UInt8->Nat->Nat->Option (List UInt8)
 | [],_,_=>some []
 | c::t,n,bits=>if c=61 then some [] else
  match nu c with
  | none=>none
  | some k=>if bits+6 >= 8 then (ja5 t ((n*64+k) % 65536) (bits+6 - 8)).map fun l=>UInt8.ofNat ((n*64+k) % 65536 / 2 ^ (bits+6 - 8) % 256)::l
   else ja5 t ((n*64+k) % 65536) (bits+6)
theorem ofNat_eq {n:Nat} {a:UInt8} (h:n=a.toNat):UInt8.ofNat n=a:=by subst h;simp
theorem qkz : ∀(s:List UInt8) (n:Nat),ja5 (q4n s) n 0=some s
 | a::b::c::r,n=>by
  have ha:=UInt8.toNat_lt a;have hb:=UInt8.toNat_lt b;have hc:=UInt8.toNat_lt c
  have k0:a.toNat / 4<64:=by omega
  have k1:a.toNat % 4*16+b.toNat / 16<64:=by omega
  have k2:b.toNat % 16*4+c.toNat / 64<64:=by omega
  have k3:c.toNat % 64<64:=by omega
  unfold q4n
  simp only [ja5,if_neg (q7w k0),if_neg (q7w k1),if_neg (q7w k2),if_neg (q7w k3),q5c k0,q5c k1,q5c k2,q5c k3,Nat.zero_add,Nat.reduceAdd,Nat.reduceSub,Nat.reduceLeDiff,ge_iff_le,if_true,if_false,qkz r,Option.map_some,Nat.reducePow,Nat.div_one]
  rw [ofNat_eq (a:=a) (by omega),ofNat_eq (a:=b) (by omega),ofNat_eq (a:=c) (by omega)]
 | [a,b],n=>by
  have ha:=UInt8.toNat_lt a;have hb:=UInt8.toNat_lt b
  have k0:a.toNat / 4<64:=by omega
  have k1:a.toNat % 4*16+b.toNat / 16<64:=by omega
  have k2:b.toNat % 16*4<64:=by omega
  unfold q4n
  simp only [ja5,if_neg (q7w k0),if_neg (q7w k1),if_neg (q7w k2),q5c k0,q5c k1,q5c k2,Nat.zero_add,Nat.reduceAdd,Nat.reduceSub,Nat.reduceLeDiff,ge_iff_le,if_true,if_false,Option.map_some,Nat.reducePow,Nat.div_one]
  rw [ofNat_eq (a:=a) (by omega),ofNat_eq (a:=b) (by omega)]
 | [a],n=>by
  have ha:=UInt8.toNat_lt a
  have k0:a.toNat / 4<64:=by omega
  have k1:a.toNat % 4*16<64:=by omega
  unfold q4n
  simp only [ja5,if_neg (q7w k0),if_neg (q7w k1),q5c k0,q5c k1,Nat.zero_add,Nat.reduceAdd,Nat.reduceSub,Nat.reduceLeDiff,ge_iff_le,if_true,if_false,Option.map_some,Nat.reducePow,Nat.div_one]
  rw [ofNat_eq (a:=a) (by omega)]
 | [],n=>rfl
theorem j4q {s t:List UInt8} (h:q4n s=q4n t):s=t:=by
 have h1:=qkz s 0
 rw [h,qkz t 0] at h1
 exact (Option.some.inj h1).symm
def q6j (t:List UInt8):List UInt8×Bool:=match ja5 t 0 0 with
 | none=>([],false)
 | some s=>if q4n s=t then (s,true) else ([],false)
theorem qs1 {s t:List UInt8} (h:q4n s=t):q6j t=(s,true):=by
 unfold q6j
 subst h
 rw [qkz]
 simp
theorem j8h {t:List UInt8} (h : ∀s,q4n s≠t):q6j t=([],false):=by
 unfold q6j
 split
 ·rfl
 ·rw [if_neg (h _)]
theorem j05 {t s:List UInt8} (h:q6j t=(s,true)):q4n s=t:=by
 unfold q6j at h
 split at h
 ·cases h
 ·split at h
  ·rename_i s' _ he
   obtain ⟨rfl,_⟩:=Prod.mk.inj h
   exact he
  ·cases h
theorem j1h {t s:List UInt8} (h:q6j t=(s,false)):s = []/\∀x,q4n x≠t:=by
 refine ⟨?_,fun x hx=>?_⟩
 ·unfold q6j at h
  split at h
  ·exact (Prod.mk.inj h).1.symm
  ·split at h
   ·cases h
   ·exact (Prod.mk.inj h).1.symm
 ·rw [qs1 hx] at h;cases h
def rdS (t:List UInt8) (g:List UInt8):Prop:=g ≠ []/\g.length<=3/\q4n g=t
theorem j83 {t g:List UInt8} (h:rdS t g):t.length=4:=by
 obtain ⟨h1,h2,rfl⟩:=h
 rw [qub]
 cases g with
 | nil=>exact absurd rfl h1
 | cons a g=>simp only [List.length_cons] at h2 ⊢;omega
theorem jb5:q6j []=([],true):=qs1 (s:=[]) rfl
theorem jb6 {s:List UInt8} (h:q4n s = []):s = []:=j4q (t:=[]) h
theorem qr7 {s t:List UInt8} (h:q4n s=t) (h4:t ≠ []) : ∃ g r,rdS (t.take 4) g/\q4n r=t.drop 4/\s=g++r/\(g.length<3->t.length<=4):=by
 match s,h with
 | [],h=>exact absurd h.symm h4
 | [a],h=>subst h;exact ⟨[a],[],⟨by simp,by simp,rfl⟩,rfl,rfl,fun _=>by simp [q4n]⟩
 | [a,b],h=>subst h;exact ⟨[a,b],[],⟨by simp,by simp,rfl⟩,rfl,rfl,fun _=>by simp [q4n]⟩
 | a::b::c::r,h=>subst h;exact ⟨[a,b,c],r,⟨by simp,by simp,rfl⟩,rfl,rfl,fun h=>by simp at h⟩
theorem j9p {t g g':List UInt8} (h:rdS t g) (h':rdS t g'):g=g':=j4q (h.2.2.trans h'.2.2.symm)
theorem j3m {t:List UInt8} (h4:t ≠ []) (h : ∀g,rdS (t.take 4) g->g.length<3/\4<t.length):q6j t=([],false) :=
 j8h fun s hs=>by
  obtain ⟨g,r,h1,h2,h3,h5⟩:=qr7 hs h4
  have:=h g h1
  have:=h5 this.1
  omega
theorem j1l {t:List UInt8} (h4:t ≠ []) (h:t.length<4):q6j t=([],false) :=
 j3m h4 fun g hg=>by
  have:=j83 hg
  rw [List.length_take] at this
  omega
end Go.Proofs.YtlmjgghohipipaaGreatDoor.AM.Bs
namespace Go.Proofs
open Go.RowKit
set_option linter.unusedVariables false
set_option linter.unusedSimpArgs false
namespace YtlmjgghohipipaaGreatDoor.AM.Bs
theorem wrap_u32 (x:Int):IntKind.wrap .u32 x=x % (2 ^ 32):=rfl
theorem q8u {α β:Type} (x:α) (f:α->Option β):q2f x f=f x:=rfl
theorem ja7 {x j:Nat} (hj:j<=32):qtl .u32 (x:Int) (j:Int)=some ((x / 2 ^ j:Nat):Int):=by
 unfold qtl
 rw [if_pos (by omega)]
 have e:min (Int.toNat (j:Int)) (IntKind.bits .u32)=j:=by show min (Int.toNat (j:Int)) 32=j;rw [Int.toNat_natCast];omega
 rw [e]
 congr 1
 rw [Int.fdiv_eq_ediv_of_nonneg _ (by have:=Int.pow_pos (n:=2) (m:=j) (by decide);omega)]
 rw [show ((2:Int) ^ j)=((2 ^ j:Nat):Int) from (Int.natCast_pow 2 j).symm,<-Int.natCast_ediv]
theorem shl32 {x j:Nat} (hj:j<=32) (h:x*2 ^ j<4294967296):jbd .u32 (x:Int) (j:Int)=some ((x*2 ^ j:Nat):Int):=by
 unfold jbd
 rw [if_pos (by omega)]
 have e:min (Int.toNat (j:Int)) (IntKind.bits .u32)=j:=by show min (Int.toNat (j:Int)) 32=j;rw [Int.toNat_natCast];omega
 rw [e]
 congr 1
 rw [show ((2:Int) ^ j)=((2 ^ j:Nat):Int) from (Int.natCast_pow 2 j).symm,<-Int.natCast_mul,wrap_u32]
 generalize x*2 ^ j=y at h
 omega
theorem or32 {x c j:Nat} (hj:c<2 ^ j) (hx:x*2 ^ j+c<4294967296):orI .u32 ((x*2 ^ j:Nat):Int) (c:Int)=((x*2 ^ j+c:Nat):Int):=by
 unfold orI
 have h:=Nat.shiftLeft_add_eq_or_of_lt (a:=x) (b:=c) (i:=j) hj
 rw [Nat.shiftLeft_eq] at h
 generalize x*2 ^ j=y at *
 have e4:(BitVec.ofInt 32 (y:Int) ||| BitVec.ofInt 32 (c:Int)).toNat=y+c:=by
  rw [BitVec.toNat_or,BitVec.ofInt_natCast,BitVec.ofInt_natCast,BitVec.toNat_ofNat,BitVec.toNat_ofNat,Nat.mod_eq_of_lt (by omega),Nat.mod_eq_of_lt (by omega)]
  exact h.symm
 have e5:(BitVec.ofInt (IntKind.bits .u32) (y:Int) ||| BitVec.ofInt (IntKind.bits .u32) (c:Int)).toNat=y+c:=e4
 rw [e5,wrap_u32]
 omega
end YtlmjgghohipipaaGreatDoor.AM.Bs
end Go.Proofs
namespace Go.Proofs.YtlmjgghohipipaaGreatDoor.AM.Bs
open Go.RowKit
set_option linter.unusedVariables false
set_option maxRecDepth 20000
def qgr (n:Nat):List LC:=[]
def q15 (n:Nat) (a1:Int):Option (Int) :=
 (jc7 a1 (64:Int)).bind fun (n1:Int)=>(sAt ([65,66,67,68,69,70,71,72,73,74,75,76,77,78,79,80,81,82,83,84,85,86,87,88,89,90,97,98,99,100,101,102,103,104,105,106,107,108,109,110,111,112,113,114,115,116,117,118,119,120,121,122,48,49,50,51,52,53,54,55,56,57,43,47]:List UInt8) n1).bind fun (c2:Int)=>some c2
def q4t (n:Nat):FC:={ f:=152,args:=[.one (.c (.d (.int .u32)))],res:=.one (.c (.d (.int .u8))),F:=fun p=>q15 n p }
def qib (n:Nat):List FC:=[]
theorem qol (n:Nat) {G:World->Prop} (hG:Know Inv G) : ∀c∈qib n,q1b Tryz.prog G c/\q0i c.args=true:=(fun _ h=>by cases h)
def qjq:q0f:=[]
theorem qye:drB qjq (q00 Tryz.f152)=true:=by kernel_rfl
theorem qz0 (n:Nat) : ∀a,(q4t n).F a=main Tryz.prog 6 (qib n) (qgr n) qjq (q00 Tryz.f152) [.tmp 2] (q4t n).args (q4t n).res a:=by intro a;kernel_rfl
theorem qzb (n:Nat):q0d Inv Tryz.prog (q4t n):=fun G hG=>⟨⟨by kernel_rfl,fun a r h=>q06 (c:=q00 Tryz.f152) Tryz.func152 (by kernel_rfl) (by kernel_rfl) (Nat.le_of_ble_eq_true (by kernel_rfl)) hG.st (by kernel_rfl) (rs:=[.tmp 2]) (by kernel_rfl) (qol n hG) (lts:=qgr n) (fun F hF hFG=>have hK:Know Inv F.G:=hFG ▸ hG;(q07 fun j L h1 h2 h3=>absurd h2 (Nat.not_lt.2 (Nat.le_trans (by decide +kernel) h1)))) qye ((qz0 n a).symm.trans h)⟩,rfl⟩
@[reducible] def q6z:SSt:=⟨[(0,.one (.c (.d .str))),(2,.one (.c (.box 2 0))),(3,.one (.c (.d (.int .u32)))),(6,.one (.c (.d (.int .i64))))],[(2,(127,[.d (.int .u8),.d (.int .u8),.d (.int .u8),.d (.int .u8)]))],[]⟩
@[reducible] def q3n:List (Exit×SSt):=[(.exit 0,⟨[(0,.one (.c (.d .str))),(2,.one (.c (.box 2 0))),(3,.one (.c (.d (.int .u32))))],[(2,(127,[.d (.int .u8),.d (.int .u8),.d (.int .u8),.d (.int .u8)]))],[]⟩)]
def q9r (n:Nat) (rec:(List UInt8)->Int->Int->Int->Int->Int->Int->Option (((List UInt8)×(Unit×(Int×(Unit))))×((Int×(Int×(Int×(Int))))×(Unit))×(Unit))) (a1:List UInt8) (a2:Int) (a3:Int) (a4:Int) (a5:Int) (a6:Int) (a7:Int):Option (((List UInt8)×(Unit×(Int×(Unit))))×((Int×(Int×(Int×(Int))))×(Unit))×(Unit)) :=
 (bif decide (a3<(3:Int)) then (jbd .u32 a2 (8:Int)).bind fun (n1:Int)=>(bif decide (a3<((List.length a1:Nat):Int)) then (sAt a1 a3).bind fun (c2:Int)=>q2f (IntKind.wrap .u32 c2) fun (n3:Int)=>q2f (orI .u32 n1 n3) fun (n4:Int)=>q2f (IntKind.wrap .i64 (a3+(1:Int))) fun (n5:Int)=>rec a1 n4 n5 a4 a5 a6 a7 else q2f (IntKind.wrap .i64 (a3+(1:Int))) fun (n6:Int)=>rec a1 n1 n6 a4 a5 a6 a7) else some (((a1,((),(a2,()))),(((a4,(a5,(a6,a7))),()),()))))
def qgy (n:Nat) (rec:pSt q6z->Option (q0t q3n)) (p:pSt q6z):Option (q0t q3n):=q9r n (fun a1 a2 a3 a4 a5 a6 a7=>rec ((a1,((),(a2,(a3,())))),(((a4,(a5,(a6,a7))),()),()))) p.1.1 p.1.2.2.1 p.1.2.2.2.1 p.2.1.1.1 p.2.1.1.2.1 p.2.1.1.2.2.1 p.2.1.1.2.2.2
def q0s (n m:Nat) (a1:List UInt8) (a2:Int) (a3:Int) (a4:Int) (a5:Int) (a6:Int) (a7:Int):Option (((List UInt8)×(Unit×(Int×(Unit))))×((Int×(Int×(Int×(Int))))×(Unit))×(Unit)):=q10 (qgy n) m ((a1,((),(a2,(a3,())))),(((a4,(a5,(a6,a7))),()),()))
theorem q4d (n m:Nat) (a1:List UInt8) (a2:Int) (a3:Int) (a4:Int) (a5:Int) (a6:Int) (a7:Int):q0s n (m+1) a1 a2 a3 a4 a5 a6 a7=q9r n (fun a1 a2 a3 a4 a5 a6 a7=>q0s n m a1 a2 a3 a4 a5 a6 a7) a1 a2 a3 a4 a5 a6 a7:=rfl
def qqv (n:Nat):LC:={ sh:=q6z,outs:=q3n,F:=q10 (qgy n) n }
def qam (n:Nat):List LC:=[qqv n]
def qkv (n:Nat) (a1:List UInt8):Option (Int×(Int×(Int×(Int)))) :=
 (q0s n n a1 (0:Int) (0:Int) (0:Int) (0:Int) (0:Int) (0:Int)).bind fun (o7:((List UInt8)×(Unit×(Int×(Unit))))×((Int×(Int×(Int×(Int))))×(Unit))×(Unit))=>(sAt ([61]:List UInt8) (0:Int)).bind fun (c8:Int)=>(sAt ([61]:List UInt8) (0:Int)).bind fun (c9:Int)=>(sAt ([61]:List UInt8) (0:Int)).bind fun (c10:Int)=>(sAt ([61]:List UInt8) (0:Int)).bind fun (c11:Int)=>(bif decide (((List.length o7.1.1:Nat):Int)=(3:Int)) then (q15 n o7.1.2.2.1).bind fun (r12:Int)=>(qtl .u32 o7.1.2.2.1 (6:Int)).bind fun (n13:Int)=>(q15 n n13).bind fun (r14:Int)=>(qtl .u32 o7.1.2.2.1 (12:Int)).bind fun (n15:Int)=>(q15 n n15).bind fun (r16:Int)=>(qtl .u32 o7.1.2.2.1 (18:Int)).bind fun (n17:Int)=>(q15 n n17).bind fun (r18:Int)=>some (r18,(r16,(r14,r12))) else (bif decide (((List.length o7.1.1:Nat):Int)=(2:Int)) then (qtl .u32 o7.1.2.2.1 (6:Int)).bind fun (n19:Int)=>(q15 n n19).bind fun (r20:Int)=>(qtl .u32 o7.1.2.2.1 (12:Int)).bind fun (n21:Int)=>(q15 n n21).bind fun (r22:Int)=>(qtl .u32 o7.1.2.2.1 (18:Int)).bind fun (n23:Int)=>(q15 n n23).bind fun (r24:Int)=>some (r24,(r22,(r20,c11))) else (bif decide (((List.length o7.1.1:Nat):Int)=(1:Int)) then (qtl .u32 o7.1.2.2.1 (12:Int)).bind fun (n25:Int)=>(q15 n n25).bind fun (r26:Int)=>(qtl .u32 o7.1.2.2.1 (18:Int)).bind fun (n27:Int)=>(q15 n n27).bind fun (r28:Int)=>some (r28,(r26,(c10,c11))) else some (c8,(c9,(c10,c11))))))
def qai (n:Nat):FC:={ f:=128,args:=[.one (.c (.d .str))],res:=.one (.agg [.d (.int .u8),.d (.int .u8),.d (.int .u8),.d (.int .u8)]),F:=fun p=>qkv n p }
def qh7 (n:Nat):List FC:=[q4t n]
theorem qfu (n:Nat) {G:World->Prop} (hG:Know Inv G) : ∀c∈qh7 n,q1b Tryz.prog G c/\q0i c.args=true:=List.forall_mem_cons.2 ⟨qzb n G hG,(fun _ h=>by cases h)⟩
def qdv:q0f:=[(9,[⟨3*2^67,2^66,0⟩,⟨3*2^70,2^69,0⟩,⟨3*2^73,2^72,0⟩,⟨3*2^76,2^75,0⟩,⟨25161*2^66,2^78,15⟩,⟨196608,98304,0⟩,⟨302231454903657293774848,65536,63⟩])]
theorem qo6:drB qdv (q00 Tryz.f128)=true:=by kernel_rfl
theorem qzg (n:Nat) : ∀rec p,qgy n rec p=round Tryz.prog 51 (qh7 n) (qam n) qdv 1 q6z q3n (q03 0 0 (q00 Tryz.f128)) rec p:=by intro rec p;kernel_rfl
theorem qu0 (n:Nat) {F:Fr} (hF:F.n=51) (hK:Know Inv F.G):qk3 Tryz.prog F (qqv n) (q03 0 0 (q00 Tryz.f128)) :=
 q1a hF (by kernel_rfl) (qfu n hK) (qzg n) (fuel:=n) (fun _=>rfl) (q07 fun j L h1 h2 h3=>absurd h2 (Nat.not_lt.2 (Nat.le_trans (by decide +kernel) h1))) (q2t qo6)
theorem j19 (n:Nat) : ∀a,(qai n).F a=main Tryz.prog 51 (qh7 n) (qam n) qdv (q00 Tryz.f128) [.cell 2 127] (qai n).args (qai n).res a:=by intro a;kernel_rfl
theorem j43 (n:Nat):q0d Inv Tryz.prog (qai n):=fun G hG=>⟨⟨by kernel_rfl,fun a r h=>q06 (c:=q00 Tryz.f128) Tryz.func128 (by kernel_rfl) (by kernel_rfl) (Nat.le_of_ble_eq_true (by kernel_rfl)) hG.st (by kernel_rfl) (rs:=[.cell 2 127]) (by kernel_rfl) (qfu n hG) (lts:=qam n) (fun F hF hFG=>have hK:Know Inv F.G:=hFG ▸ hG;(q07 (c:=(q00 Tryz.f128)) (fun j L h1 h2 h3=>by
  have h2':j<1:=Nat.lt_of_lt_of_le h2 (by decide +kernel)
  match j,h1,h2',h3 with
  | 0,_,_,h3=>obtain rfl:=Option.some.inj h3;exact (show q03 0 0 (q00 Tryz.f128)=q03 0 0 (q00 Tryz.f128) by kernel_rfl) ▸ qu0 n hF hK
  | j+1,_,h2',_=>exact absurd h2' (by omega)))) qo6 ((j19 n a).symm.trans h)⟩,rfl⟩
end Go.Proofs.YtlmjgghohipipaaGreatDoor.AM.Bs
namespace Go.Proofs
open Go.RowKit
set_option linter.unusedVariables false
set_option linter.unusedSimpArgs false
namespace YtlmjgghohipipaaGreatDoor.AM.Bs
theorem jc6 {k:Nat} (h:k<64):sAt sgT (k:Int)=some (((sg k).toNat:Nat):Int):=by
 have h':k<sgT.length:=h
 rw [qe0 h']
 unfold sg
 rw [List.getD_eq_getElem?_getD,List.getElem?_eq_getElem h'];rfl
theorem q20 (n x:Nat):q15 n (x:Int)=some (((sg (x % 64)).toNat:Nat):Int):=by
 unfold q15
 have e:jc7 (x:Int) (64:Int)=some ((x % 64:Nat):Int):=by unfold jc7;rw [if_pos (by decide)];rfl
 have h:=jc6 (Nat.mod_lt x (show 64>0 by decide))
 unfold sgT at h
 rw [e,Option.bind_some,h]
 rfl
theorem qhb (n m:Nat) (s:List UInt8) (x k:Nat) (hk:k<3) (hx:x<65536) (hs:s.length<=3) (a4 a5 a6 a7:Int) :
  q0s n (m+1) s (x:Int) (k:Int) a4 a5 a6 a7=q0s n m s ((x*256+(s.getD k 0).toNat:Nat):Int) ((k+1:Nat):Int) a4 a5 a6 a7:=by
 rw [q4d]
 unfold q9r
 have h1:decide ((k:Int)<3)=true:=decide_eq_true (by omega)
 have h2:jbd .u32 (x:Int) (8:Int)=some ((x*2 ^ 8:Nat):Int):=shl32 (j:=8) (by decide) (by omega)
 have h5:IntKind.wrap .i64 ((k:Int)+1)=((k+1:Nat):Int):=q12 (by omega)
 rw [h1,cond_true,h2,Option.bind_some]
 by_cases c:k<s.length
 ·have hc:=UInt8.toNat_lt s[k]
  have e:s.getD k 0=s[k]:=by rw [List.getD_eq_getElem?_getD,List.getElem?_eq_getElem c];rfl
  have h3:IntKind.wrap .u32 ((s[k].toNat:Nat):Int)=((s[k].toNat:Nat):Int):=by rw [wrap_u32];omega
  rw [decide_eq_true (by omega),cond_true,qe0 c,Option.bind_some,q8u,h3,q8u,or32 (by omega) (by omega),q8u,h5,e]
 ·have e:s.getD k 0=0:=by rw [List.getD_eq_getElem?_getD,List.getElem?_eq_none (by omega)];rfl
  have z:(0:UInt8).toNat=0:=rfl
  rw [decide_eq_false (by omega),cond_false,q8u,h5,e,z,Nat.add_zero (x*256),show (2 ^ 8:Nat)=256 from rfl]
theorem j5y (n m:Nat) (s:List UInt8) (hs:s.length<=3) (a4 a5 a6 a7:Int) :
  q0s n (m+4) s 0 0 a4 a5 a6 a7=some ((s,((),(((((s.getD 0 0).toNat*256+(s.getD 1 0).toNat)*256+(s.getD 2 0).toNat:Nat):Int),()))),(((a4,(a5,(a6,a7))),()),())):=by
 have h0:=UInt8.toNat_lt (s.getD 0 0);have h1:=UInt8.toNat_lt (s.getD 1 0)
 have e0:=qhb n (m+3) s 0 0 (by decide) (by decide) hs a4 a5 a6 a7
 have e1:=qhb n (m+2) s (0*256+(s.getD 0 0).toNat) 1 (by decide) (by omega) hs a4 a5 a6 a7
 have e2:=qhb n (m+1) s ((0*256+(s.getD 0 0).toNat)*256+(s.getD 1 0).toNat) 2 (by decide) (by omega) hs a4 a5 a6 a7
 have e3:q0s n (m+4) s 0 0 a4 a5 a6 a7=q0s n (m+3+1) s ((0:Nat):Int) ((0:Nat):Int) a4 a5 a6 a7:=rfl
 rw [e3,e0,e1,e2,q4d]
 unfold q9r
 rw [decide_eq_false (by decide),cond_false,Nat.zero_mul,Nat.zero_add]
set_option maxRecDepth 20000 in
theorem ql2 (m:Nat) (s:List UInt8) (h1:s ≠ []) (h3:s.length<=3) : ∃ p q r t:UInt8,q4n s = [p,q,r,t]/\qkv (m+4) s=some (((p.toNat:Nat):Int),(((q.toNat:Nat):Int),(((r.toNat:Nat):Int),((t.toNat:Nat):Int)))):=by
 obtain ⟨x,hx,hl⟩ : ∃ x:Nat,x=((s.getD 0 0).toNat*256+(s.getD 1 0).toNat)*256+(s.getD 2 0).toNat /\
  q0s (m+4) (m+4) s 0 0 0 0 0 0=some ((s,((),(((x:Nat):Int),()))),((((0:Int),((0:Int),((0:Int),(0:Int)))),()),())):=⟨_,rfl,j5y (m+4) m s h3 0 0 0 0⟩
 have hp:sAt ([61]:List UInt8) (0:Int)=some (((61:UInt8).toNat:Nat):Int):=rfl
 have f1:qtl .u32 (x:Int) (6:Int)=some ((x / 2 ^ 6:Nat):Int):=ja7 (j:=6) (by decide)
 have f2:qtl .u32 (x:Int) (12:Int)=some ((x / 2 ^ 12:Nat):Int):=ja7 (j:=12) (by decide)
 have f3:qtl .u32 (x:Int) (18:Int)=some ((x / 2 ^ 18:Nat):Int):=ja7 (j:=18) (by decide)
 unfold qkv
 rw [hl,Option.bind_some,hp,Option.bind_some,Option.bind_some,Option.bind_some,Option.bind_some]
 have z:(0:UInt8).toNat=0:=rfl
 match s,h1,h3,hx with
 | [a],_,_,hx =>
  have ha:=UInt8.toNat_lt a
  have hx':x=a.toNat*65536:=by
   rw [hx];show (a.toNat*256+(0:UInt8).toNat)*256+(0:UInt8).toNat=_;rw [z];omega
  clear hx hl
  refine ⟨_,_,_,_,rfl,?_⟩
  rw [decide_eq_false (p:=((([a]:List UInt8).length:Nat):Int)=3) (show ¬ ((1:Nat):Int)=3 by decide),cond_false,decide_eq_false (p:=((([a]:List UInt8).length:Nat):Int)=2) (show ¬ ((1:Nat):Int)=2 by decide),cond_false,decide_eq_true (p:=((([a]:List UInt8).length:Nat):Int)=1) (show ((1:Nat):Int)=1 by decide),cond_true,f2,Option.bind_some,q20,Option.bind_some,f3,Option.bind_some,q20,Option.bind_some]
  rw [show x / 2 ^ 12 % 64=a.toNat % 4*16 from by omega,show x / 2 ^ 18 % 64=a.toNat / 4 from by omega]
 | [a,b],_,_,hx =>
  have ha:=UInt8.toNat_lt a;have hb:=UInt8.toNat_lt b
  have hx':x=a.toNat*65536+b.toNat*256:=by
   rw [hx];show (a.toNat*256+b.toNat)*256+(0:UInt8).toNat=_;rw [z];omega
  clear hx hl
  refine ⟨_,_,_,_,rfl,?_⟩
  rw [decide_eq_false (p:=((([a,b]:List UInt8).length:Nat):Int)=3) (show ¬ ((2:Nat):Int)=3 by decide),cond_false,decide_eq_true (p:=((([a,b]:List UInt8).length:Nat):Int)=2) (show ((2:Nat):Int)=2 by decide),cond_true,f1,Option.bind_some,q20,Option.bind_some,f2,Option.bind_some,q20,Option.bind_some,f3,Option.bind_some,q20,Option.bind_some]
  rw [show x / 2 ^ 6 % 64=b.toNat % 16*4 from by omega,show x / 2 ^ 12 % 64=a.toNat % 4*16+b.toNat / 16 from by omega,show x / 2 ^ 18 % 64=a.toNat / 4 from by omega]
 | [a,b,c],_,_,hx =>
  have ha:=UInt8.toNat_lt a;have hb:=UInt8.toNat_lt b;have hc:=UInt8.toNat_lt c
  have hx':x=(a.toNat*256+b.toNat)*256+c.toNat:=hx
  clear hx hl
  refine ⟨_,_,_,_,rfl,?_⟩
  rw [decide_eq_true (p:=((([a,b,c]:List UInt8).length:Nat):Int)=3) (show ((3:Nat):Int)=3 by decide),cond_true,q20,Option.bind_some,f1,Option.bind_some,q20,Option.bind_some,f2,Option.bind_some,q20,Option.bind_some,f3,Option.bind_some,q20,Option.bind_some]
  rw [show x % 64=c.toNat % 64 from by omega,show x / 2 ^ 6 % 64=b.toNat % 16*4+c.toNat / 64 from by omega,show x / 2 ^ 12 % 64=a.toNat % 4*16+b.toNat / 16 from by omega,show x / 2 ^ 18 % 64=a.toNat / 4 from by omega]
theorem lay_c (s:List UInt8) (h1:s ≠ []) (h3:s.length<=3) (w:World) (hI:Inv w) : ∃ p q r t:UInt8,q4n s = [p,q,r,t] /\
  Calls Tryz.prog 128 #[.string (ba s)] w fun e w'=>e = .returned (.agg #[.int .u8 (p.toNat:Int),.int .u8 (q.toNat:Int),.int .u8 (r.toNat:Int),.int .u8 (t.toNat:Int)])/\Below w.heap.size w w':=by
 obtain ⟨p,q,r,t,he,hl⟩:=ql2 5 s h1 h3
 refine ⟨p,q,r,t,he,?_⟩
 have h:=(j43 9 AM.Inv AM.q34).1.2 s _ hl
 refine (h (AM.Old w) w #[.string (ba s)] hI (fun b o h=>h) ⟨q02 (σ:=q6b) (.string (ba s)),trivial⟩).mono ?_
 rintro e w' ⟨v,Pc,rfl,hb,_,_,hv⟩
 obtain ⟨vs,rfl,hv⟩:=hv
 obtain ⟨l⟩:=vs
 match l,hv with
 | [x,y,z,u],⟨h1,h2,h3,h4,_⟩ =>
  rw [q05 (σ:=q6b) h1,q05 (σ:=q6b) h2,q05 (σ:=q6b) h3,q05 (σ:=q6b) h4]
  exact ⟨rfl,hb⟩
end YtlmjgghohipipaaGreatDoor.AM.Bs
end Go.Proofs
