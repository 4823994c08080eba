
import Derived.Test.YtggoebaobojmjaaGreatDoorBr20
import Derived.Test.YtggoebaobojmjaaGreatDoorBr12
import Derived.Test.YtggoebaobojmjaaGreatDoorBr21
import Derived.Test.YtggoebaobojmjaaGreatDoorBr8
namespace Go.Proofs.YtggoebaobojmjaaGreatDoor.AM
open Go.RowKit Go.Shelf Go.Lib
attribute [local go_sem] Oper.semAt_some
set_option linter.unusedVariables false
set_option linter.unusedSimpArgs false
theorem q5c {B k:Nat} {W W':World} {row:Option Nat} {vs:Array Value} {T:TypeId} {fr:Nat×Nat} (h:W.heap[k]? = some (.cells vs T fr)) (hg:W.grownBy W' row) (hr : ∀r,row=some r->B<=r/\∃ o:Obj,W.heap[r]? = some o/\o.isCells=false):W'.heap[k]? = some (.cells vs T fr):=by
 rw [hg.block k (q0q h) (fun e=>?_)]
 ·exact h
 ·obtain ⟨_,o,ho,hc⟩:=hr k e.symm
  rw [h] at ho
  obtain rfl:=Option.some.inj ho
  cases hc
theorem jdc {B B' k:Nat} {W W':World} {row:Option Nat} {E sz n:Nat} {v:Value} {xs:List Value} (h:W.ownsRow B' E sz v n xs) (hg:W.grownBy W' row) (hr : ∀r,row=some r->B<=r/\∃ o:Obj,W.heap[r]? = some o/\o.isCells=false):W'.ownsRow B' E sz v n xs:=by
 refine ⟨h.1,?_⟩
 rcases h.2 with h3|⟨g,cap,cur,h3,h4,h5,h6⟩
 ·exact .inl h3
 ·exact .inr ⟨g,cap,cur,h3,h4,q5c h5 hg hr,h6⟩
theorem qjp {P:Program} {fn:Func} {p1 p2:Tmp} {t1 t2:TypeId} {b1 b2:Nat} {v1 v2:Value} {tmps:Array Value} {w:World} (h:fn.results = #[.cell p1 t1,.cell p2 t2]) (hp1:tmps.getD p1 undef = .pointer (some ⟨b1,0,none⟩)) (hp2:tmps.getD p2 undef = .pointer (some ⟨b2,0,none⟩)) (ha1:qvc P t1=some false) (ha2:qvc P t2=some false)
  (hc1:w.cell? ⟨b1,0,none⟩=some v1) (hc2:w.cell? ⟨b2,0,none⟩=some v2):(results fn tmps).run P w = .ok (.tuple #[v1,v2]) w:=by
 have hp1':tmps[p1]?.getD undef = .pointer (some ⟨b1,0,none⟩):=by simpa using hp1
 have hp2':tmps[p2]?.getD undef = .pointer (some ⟨b2,0,none⟩):=by simpa using hp2
 simp only [results,h]
 simp [Sem.run_bind,hp1',hp2',asAddr,loadVar,q1d ha1 w,q1d ha2 w,go_sem,hc1,hc2]
theorem q0y {W:World} {b:Nat} {v:Value} {T:TypeId} (h:W.heap[b]? = some (.cells #[v] T (0,0))):W.cell? ⟨b,0,none⟩=some v:=by rw [cell_of_row W _ _ _ _ _ h];rfl
theorem qhl {W:World} {b:Nat} {vs us:Array Value} {T:TypeId} {fr:Nat×Nat} (h:W.heap[b]? = some (.cells vs T fr)):KeepsOthers W (W.setRow b us):=⟨by simp,fun k o hk hc=>by
 have:k≠b:=fun e=>by subst e;rw [h] at hk;obtain rfl:=Option.some.inj hk;cases hc
 rw [setRow_other W b k us this];exact hk⟩
theorem qeu {F:Fence} {n:Nat} {P:Program} (w:World) {ops:Array Oper} {rest:List Oper} {o:Oper} {a:Act} {Q:Exit->Act->World->Prop}
  (hg:o.guard=none) (s x:Operand) (t t':TypeId) (hop:o.op=Op.call { callee:=Callee.builtin Builtin.append,args:=#[s,x],argTypes:=#[t,t'] })
  (v u:Value) (hs:a.eval s=v) (hx:a.eval x=u) {v':Value} {w':World} (hrun:(Builtin.append_ #[t,t'] o.type #[v,u]).run P w = .ok v' w') (hK:wpListIn F n P ops Q rest (a.put o.dst v') w') :
  wpListIn F n P ops Q (o::rest) a w:=by
 refine wpListIn_plain hg fun K hK'=>?_
 unfold Oper.wpIn
 refine ⟨?_,?_⟩
 ·simp [Oper.about,hop,resolve,Target.leads,Sem.run_pure]
 ·rw [Oper.semAt_plain F _ _ (by rw [hop];intro c hc';cases hc')]
  simp [execOp,hop,resolve,invoke,builtin,hs,hx,hrun,Result.andThen]
  exact hK' _ _ hK
end Go.Proofs.YtggoebaobojmjaaGreatDoor.AM
namespace Go.Proofs.YtggoebaobojmjaaGreatDoor.AM
open Go.RowKit
set_option linter.unusedVariables false
def qvp:Nat->Code->Option Code
 | i,.region id ops d=>bif Nat.beq i id then some (.region id ops d) else none
 | i,.seq a b=>match qvp i a with|some c=>some c|none=>qvp i b
 | i,.cond _ a b=>match qvp i a with|some c=>some c|none=>qvp i b
 | i,.block _ a=>qvp i a
 | i,.scope a=>qvp i a
 | i,.loop a=>qvp i a
 | i,.rangeFunc _ _ a b=>match qvp i a with|some c=>some c|none=>qvp i b
 | _,_=>none
def jp4 (i:Nat) (c:Code):Code:=match qvp i c with|some c=>c|none=>.skip
def piece (P:Program) (n:Nat) (ct:List FC) (dh:q0c) (c:Code) (σ:TSt) (sh:SSt) (xs:List Nat):Option (pSt sh×List (Option TD)) :=
 run P n ct [] dh 0 c σ fun ex τ=>match ex with
  | .normal=>match cSt sh τ with
   | some q=>some (q,xs.map (lk τ.slots))
   | none=>none
  | _=>none
theorem jrm {P:Program} {F:Fr} {n:Nat} {ct:List FC} {dh:q0c} {c:Code} {σ:TSt} {sh:SSt} {xs:List Nat} {q:pSt sh} {ys:List (Option TD)} (hnF:F.n=n) (hm:P.follows .mixedOrders=true) (hct : ∀c∈ct,q0v P F.G c/\q0d c.args=true) (hl:LOk P F [] 0 c) (hdr:drB dh c=true)
  (h:piece P n ct dh c σ sh xs=some (q,ys)):q1y P F c (eS σ) (fun ex σ'=>ex = .normal/\∃ τ,σ'=eS τ/\cSt sh τ=some q/\xs.map (lk τ.slots)=ys):=by
 refine jdd hnF hm hct hl hdr h fun ex τ hk=>?_
 cases ex with
 | normal =>
  simp only at hk
  split at hk
  case h_2=>cases hk
  rename_i q' hq
  cases hk
  exact ⟨rfl,τ,rfl,hq,rfl⟩
 | _=>cases hk
theorem wp_eq {P:Program} {c c':Code} {Q:Exit->Act->World->Prop} {a:Act} {w:World} (h:c=c') (h':c'.wp P Q a w):c.wp P Q a w:=h ▸ h'
def jwd (n:Nat) (Pc:Nat->Nat->Prop) (G:World->Prop) (hG:jys G) (w:World) (hg:G w):Fr:={ n:=n,w0:=w,Pc:=Pc,G:=G,g0:=hg,gst:=hG }
theorem jus {n:Nat} {Pc:Nat->Nat->Prop} {G:World->Prop} {hG:jys G} {w:World} {hg:G w} (hlt : ∀b o,Pc b o->b<w.heap.size) (σ:TSt) (hb:σ.boxes = []) (hr:σ.rows = []):Hp (jwd n Pc G hG w hg) (eS σ) (q2i Pc) w:=by
 have h1 : ∀β,(eS σ).box β=none:=fun β=>by show (lk σ.boxes β).map eB=none;rw [hb];rfl
 have h2 : ∀t,(eS σ).row t=none:=fun t=>by show (lk σ.rows t).map eR=none;rw [hr];rfl
 refine ⟨Below.refl _ _,fun _ _ h=>h,fun _ _ h=>Or.inl h,hlt,(fun β T cs hx=>by rw [h1] at hx;cases hx),(fun β hβ=>by rw [h1] at hβ;cases hβ),(fun β β' hβ=>by rw [h1] at hβ;cases hβ),(fun t r hr=>by rw [h2] at hr;cases hr),(fun t r b hr=>by rw [h2] at hr;cases hr),(fun t r b hr=>by rw [h2] at hr;cases hr),(fun t r b β hr=>by rw [h2] at hr;cases hr),(fun t t' r r' b hn hr=>by rw [h2] at hr;cases hr),
  ⟨fun b hb=>False.elim hb,Nat.le_refl _,(fun β hβ=>by rw [h1] at hβ;cases hβ),(fun t r b hr=>by rw [h2] at hr;cases hr),fun b o hp=>Or.inl hp,fun _ _ _=>rfl,(fun β a h=>by cases h)⟩⟩
theorem jt7 {t:Array Value} {n:Nat} (h:t.size=n):t=((List.range n).map fun i=>t.getD i undef).toArray:=by
 refine Array.ext (by simp [h]) fun i h1 h2=>?_
 simp [Array.getD,h1]
end Go.Proofs.YtggoebaobojmjaaGreatDoor.AM
namespace Go.Proofs.YtggoebaobojmjaaGreatDoor.AM
open Go.RowKit
set_option linter.unusedVariables false
set_option maxRecDepth 20000
@[reducible] def jdj:SSt:=⟨[(0,.one (.c (.d .any))),(7,.one (.c (.d (.int .i64)))),(8,.one (.c (.box 8 0))),(9,.one (.c (.d (.int .i64)))),(10,.one (.c (.d .any))),(11,.one (.c (.d (.int .i64)))),(12,.one (.c (.d (.int .i64))))],[(8,(30,[.d (.int .i64),.d .bool,.d (.int .i64),.d (.int .i64),.d (.int .i64),.d .str,.d .str,.d (.int .i64),.d (.int .i64),.d (.int .i64),.d .str,.d .str,.d (.int .i64)]))],[]⟩
def jg7 (y0:IV) (ms:List (List UInt8×(List UInt8×(List (List UInt8×((Int)×((Int)×((Int)×(List UInt8×(List UInt8)))))))))) (tg:List (List UInt8×((Int)×((Int)×((Int)×(List UInt8×(List UInt8×(List UInt8)))))))) (lv:(Int)×((Int)×((Int)×((Int)×((Int)×((Int)×((Int)×((Int)×((Int)×((Int)×((Int)×(Int)))))))))))) (a:Int) (y1:IV) (n1 n2:Int):TSt:=⟨[(0,.one (.c (.d .any y0))),(2,.one (.c (.rp ((.lst (.prod .str (.prod .str (.lst (.prod .str (.prod (.int .i64) (.prod (.int .i64) (.prod (.int .i64) (.prod .str .str)))))))))) 0 ms))),(3,.one (.c (.rp ((.lst (.prod .str (.prod (.int .i64) (.prod (.int .i64) (.prod (.int .i64) (.prod .str (.prod .str .str)))))))) 0 tg))),(4,.one (.c (.rp ((.prod (.int .i64) (.prod (.int .i64) (.prod (.int .i64) (.prod (.int .i64) (.prod (.int .i64) (.prod (.int .i64) (.prod (.int .i64) (.prod (.int .i64) (.prod (.int .i64) (.prod (.int .i64) (.prod (.int .i64) (.int .i64))))))))))))) 0 lv))),(7,.one (.c (.d (.int .i64) a))),(10,.one (.c (.d .any y1))),(11,.one (.c (.d (.int .i64) n1))),(12,.one (.c (.d (.int .i64) n2)))],[],[]⟩
def jc7 (n:Nat) (y0:IV) (ms:List (List UInt8×(List UInt8×(List (List UInt8×((Int)×((Int)×((Int)×(List UInt8×(List UInt8)))))))))) (tg:List (List UInt8×((Int)×((Int)×((Int)×(List UInt8×(List UInt8×(List UInt8)))))))) (lv:(Int)×((Int)×((Int)×((Int)×((Int)×((Int)×((Int)×((Int)×((Int)×((Int)×((Int)×(Int)))))))))))) (a:Int) (y1:IV) (n1 n2:Int):Option (pSt jdj×List (Option TD)) :=
 (q0x ms a).bind fun (x1:List UInt8×(List UInt8×(List (List UInt8×((Int)×((Int)×((Int)×(List UInt8×(List UInt8)))))))))=>(jq0 n lv a).bind fun (r2:Int)=>(qm1 n x1.2.1 tg r2).bind fun (r3:(Int×(Bool×(Int×(Int×(Int×((List UInt8)×((List UInt8)×(Int×(Int×(Int×((List UInt8)×((List UInt8)×(Int)))))))))))))×(Int))=>some (((y0,(a,((),(r3.2,(y1,(n1,(n2,()))))))),((r3.1,()),())),[some (.one (.c (.rp ((.lst (.prod .str (.prod .str (.lst (.prod .str (.prod (.int .i64) (.prod (.int .i64) (.prod (.int .i64) (.prod .str .str)))))))))) 0 ms))),some (.one (.c (.rp ((.lst (.prod .str (.prod (.int .i64) (.prod (.int .i64) (.prod (.int .i64) (.prod .str (.prod .str .str)))))))) 0 tg))),some (.one (.c (.rp ((.prod (.int .i64) (.prod (.int .i64) (.prod (.int .i64) (.prod (.int .i64) (.prod (.int .i64) (.prod (.int .i64) (.prod (.int .i64) (.prod (.int .i64) (.prod (.int .i64) (.prod (.int .i64) (.prod (.int .i64) (.int .i64))))))))))))) 0 lv)))])
def jcy (n:Nat):List FC:=[j3p n,qbc n]
theorem jh5 (n:Nat) {G:World->Prop} (hG:Know Inv G) : ∀c∈jcy n,q0v Tryz.prog G c/\q0d c.args=true:=List.forall_mem_cons.2 ⟨jzu n G hG,List.forall_mem_cons.2 ⟨jd0 n G hG,(fun _ h=>by cases h)⟩⟩
def jde:q0c:=[(3,[⟨13510798882111552,2^51,0⟩,⟨51539607553*2^21,2^54,0⟩,⟨393*2^51,2^57,3⟩,⟨49*2^57,2^60,7⟩,⟨49*2^60,2^63,15⟩,⟨442721857769029239296,2^66,0⟩,⟨3541774862152233914368,2^69,0⟩,⟨13510798882111489*2^21,2^72,0⟩,⟨393*2^69,2^75,192⟩,⟨200713*2^63,2^78,511⟩,⟨536870915*2^49,2^48,1023⟩,⟨51539607553*2^48,2^81,2047⟩,⟨412316860417*2^48,2^84,2047⟩,⟨3*2^25,3*2^24,0⟩,⟨144115188075855875*2^24,2^25,12287⟩,⟨72057594037927939*2^28,2^27,32767⟩])]
theorem jtt:drB jde (jp4 3 (q00 Tryz.f82))=true:=by kernel_rfl
theorem jrp (n:Nat) (y0:IV) (ms:List (List UInt8×(List UInt8×(List (List UInt8×((Int)×((Int)×((Int)×(List UInt8×(List UInt8)))))))))) (tg:List (List UInt8×((Int)×((Int)×((Int)×(List UInt8×(List UInt8×(List UInt8)))))))) (lv:(Int)×((Int)×((Int)×((Int)×((Int)×((Int)×((Int)×((Int)×((Int)×((Int)×((Int)×(Int)))))))))))) (a:Int) (y1:IV) (n1 n2:Int):jc7 n y0 ms tg lv a y1 n1 n2=piece Tryz.prog 37 (jcy n) jde (jp4 3 (q00 Tryz.f82)) (jg7 y0 ms tg lv a y1 n1 n2) jdj [2,3,4]:=by kernel_rfl
end Go.Proofs.YtggoebaobojmjaaGreatDoor.AM
namespace Go.Proofs
open Go.RowKit Go.Shelf Go.Lib
attribute [local go_sem] Oper.semAt_some
set_option linter.unusedVariables false
set_option linter.unusedSimpArgs false
namespace YtggoebaobojmjaaGreatDoor.AM
abbrev q9x:=Int×(Bool×(Int×(Int×(Int×(List UInt8×(List UInt8×(Int×(Int×(Int×(List UInt8×(List UInt8×Int)))))))))))
abbrev j4s:=Int×(Int×(Int×(Int×(Int×(Int×(Int×(Int×(Int×(Int×(Int×Int))))))))))
abbrev qyr:=List UInt8×(List UInt8×List (List UInt8×(Int×(Int×(Int×(List UInt8×List UInt8))))))
abbrev j7q:=List UInt8×(Int×(Int×(Int×(List UInt8×(List UInt8×List UInt8)))))
abbrev jub:Ty:=.prod .str (.prod .str (.lst (.prod .str (.prod (.int .i64) (.prod (.int .i64) (.prod (.int .i64) (.prod .str .str)))))))
abbrev jz5:Ty:=.prod .str (.prod (.int .i64) (.prod (.int .i64) (.prod (.int .i64) (.prod .str (.prod .str .str)))))
abbrev k0m:Ty:=.prod (.int .i64) (.prod .bool (.prod (.int .i64) (.prod (.int .i64) (.prod (.int .i64) (.prod .str (.prod .str (.prod (.int .i64) (.prod (.int .i64) (.prod (.int .i64) (.prod .str (.prod .str (.int .i64))))))))))))
theorem q8j {Pc:Nat->Nat->Prop} {w:World} {v:Value} {sz:Nat} {xs:List (List Dat)} (h:DatRep Pc w v (.lst sz xs)) :
  ∃ a cap b off,v = .slice a xs.length cap/\xs.length<=cap/\cap<=maxLen/\(0<xs.length->a=some ⟨b,off,none⟩)/\∀k x j d,xs[k]? = some x->x[j]? = some d->∃ u,Pc b (off+k*sz+j)/\w.cell? ⟨b,off+k*sz+j,none⟩=some u/\DatRep Pc w u d:=by
 generalize hd:Dat.lst sz xs=D at h
 cases h with
 | v x=>cases hd
 | lst a n cap sz' xs' b off c hn hcap hmax hsz ha hc hr =>
  cases hd
  subst hn
  refine ⟨a,cap,b,off,rfl,hcap,hmax,ha,fun k x j d hx hj=>?_⟩
  obtain ⟨hk,rfl⟩:=List.getElem?_eq_some_iff.1 hx
  obtain ⟨hjl,rfl⟩:=List.getElem?_eq_some_iff.1 hj
  have hs:=hsz _ (List.getElem_mem hk)
  have h1:=hc k j hk (by omega)
  exact ⟨_,h1.1,h1.2.1,hr k j hk hjl⟩
theorem q8w {Pc:Nat->Nat->Prop} {w:World} {u x:Value} (h:DatRep Pc w u (.v x)):u=x:=by cases h;rfl
def rls (r:q9x):Array Value:=#[.int .i64 r.1,.bool r.2.1,.int .i64 r.2.2.1,.int .i64 r.2.2.2.1,.int .i64 r.2.2.2.2.1,.string (ba r.2.2.2.2.2.1),.string (ba r.2.2.2.2.2.2.1),.int .i64 r.2.2.2.2.2.2.2.1,.int .i64 r.2.2.2.2.2.2.2.2.1,.int .i64 r.2.2.2.2.2.2.2.2.2.1,.string (ba r.2.2.2.2.2.2.2.2.2.2.1),.string (ba r.2.2.2.2.2.2.2.2.2.2.2.1),.int .i64 r.2.2.2.2.2.2.2.2.2.2.2.2]
abbrev LT18:Ty:=.prod (.int .i64) (.prod (.int .i64) (.prod (.int .i64) (.prod (.int .i64) (.prod (.int .i64) (.prod (.int .i64) (.prod (.int .i64) (.prod (.int .i64) (.prod (.int .i64) (.prod (.int .i64) (.prod (.int .i64) (.int .i64)))))))))))
theorem jvf {t:Array Value} (h:t.size=37):t = #[t.getD 0 undef,t.getD 1 undef,t.getD 2 undef,t.getD 3 undef,t.getD 4 undef,t.getD 5 undef,t.getD 6 undef,t.getD 7 undef,t.getD 8 undef,t.getD 9 undef,t.getD 10 undef,t.getD 11 undef,t.getD 12 undef,t.getD 13 undef,t.getD 14 undef,t.getD 15 undef,t.getD 16 undef,t.getD 17 undef,t.getD 18 undef,t.getD 19 undef,t.getD 20 undef,t.getD 21 undef,t.getD 22 undef,t.getD 23 undef,t.getD 24 undef,t.getD 25 undef,t.getD 26 undef,t.getD 27 undef,t.getD 28 undef,t.getD 29 undef,t.getD 30 undef,t.getD 31 undef,t.getD 32 undef,t.getD 33 undef,t.getD 34 undef,t.getD 35 undef,t.getD 36 undef]:=jt7 h
def j0s (ms:List qyr) (tg:List j7q) (lv:j4s) (a:Int):Option (q9x×Int):=(q0x ms a).bind fun m=>(jq0 1000001 lv a).bind fun k=>qm1 1000001 m.2.1 tg k
structure RP (Pc:Nat->Nat->Prop) (v2 v3 v4 vD:Value) (D:List Int) (ms:List qyr) (tg:List j7q) (lv:j4s) (W:World):Prop where
 p2:q1w (q2i Pc) q2y W v2 (eC (.rp (.lst jub) 0 ms))
 p3:q1w (q2i Pc) q2y W v3 (eC (.rp (.lst jz5) 0 tg))
 p4:q1w (q2i Pc) q2y W v4 (eC (.rp LT18 0 lv))
 dD:DatRep Pc W vD (.lst 1 (D.map (q03 (.int .i64))))
theorem j6l {Pc Pc':Nat->Nat->Prop} {W W':World} (hP : ∀b o,Pc b o->Pc' b o) (hw : ∀b o,Pc b o->W'.cell? ⟨b,o,none⟩=W.cell? ⟨b,o,none⟩) : ∀{us:List Value} {cs:List Dat},q0i (DatRep Pc W) us cs->q0i (DatRep Pc' W') us cs
 | [],[],_=>trivial
 | [],_::_,h=>h.elim
 | _::_,[],h=>h.elim
 | u::us,c::cs,h=>⟨h.1.mono hP hw,j6l hP hw h.2⟩
theorem j94 {Pc Pc':Nat->Nat->Prop} {W W':World} {v:Value} {cs:List Dat} (hP : ∀b o,Pc b o->Pc' b o) (hw : ∀b o,Pc b o->W'.cell? ⟨b,o,none⟩=W.cell? ⟨b,o,none⟩) (h:q1w (q2i Pc) q2y W v (.rp cs)):q1w (q2i Pc') q2y W' v (.rp cs):=by
 obtain ⟨b,o,h1,us,h2,h3⟩:=h
 refine ⟨b,o,h1,us,j6l hP hw h2,fun j hj=>?_⟩
 obtain ⟨h4,h5⟩:=h3 j hj
 exact ⟨hP _ _ h4,(hw _ _ h4).trans h5.1,h5.2⟩
theorem RP.mono {Pc Pc':Nat->Nat->Prop} {v2 v3 v4 vD:Value} {D:List Int} {ms:List qyr} {tg:List j7q} {lv:j4s} {W W':World} (h:RP Pc v2 v3 v4 vD D ms tg lv W) (hP : ∀b o,Pc b o->Pc' b o) (hw : ∀b o,Pc b o->W'.cell? ⟨b,o,none⟩=W.cell? ⟨b,o,none⟩):RP Pc' v2 v3 v4 vD D ms tg lv W' :=
 ⟨j94 hP hw h.p2,j94 hP hw h.p3,j94 hP hw h.p4,h.dD.mono hP hw⟩
theorem jto {σ:TSt} {e:Env} {W:World} {t:Array Value} (h : ∀p∈σ.slots,q1c e (eS σ) W (t.getD p.1 undef) (eD p.2)) : ∀i,q1c e (eS σ) W (t.getD i undef) ((eS σ).slot i):=by
 have key : ∀(l:List (Nat×TD)),(∀p∈l,q1c e (eS σ) W (t.getD p.1 undef) (eD p.2))->∀i,q1c e (eS σ) W (t.getD i undef) (match lk l i with|some x=>eD x|none=>.one (.c .bad)):=by
  intro l
  induction l with
  | nil=>intro _ i;trivial
  | cons p l ih =>
   intro hl i
   obtain ⟨j,x⟩:=p
   rw [q0l]
   by_cases hj:i=j
   ·subst hj
    rw [if_pos rfl]
    exact hl _ (List.mem_cons_self ..)
   ·rw [if_neg hj]
    exact ih (fun q hq=>hl q (List.mem_cons_of_mem _ hq)) i
 exact key σ.slots h
theorem jue {Pc:Nat->Nat->Prop} {v2 v3 v4 vD:Value} {D:List Int} {ms:List qyr} {tg:List j7q} {lv:j4s} {W:World} (hI:Inv W) (hlt : ∀b o,Pc b o->b<W.heap.size) (hP:RP Pc v2 v3 v4 vD D ms tg lv W) (y0 y1:Value) (hy0:y0.oneCell'=true) (hy1:y1.oneCell'=true) (a n1 n2:Int) (x:q9x×Int) (hx:j0s ms tg lv a=some x)
  (t:Array Value) (ht:t.size=37) (g0:t.getD 0 undef=y0) (g2:t.getD 2 undef=v2) (g3:t.getD 3 undef=v3) (g4:t.getD 4 undef=v4) (g7:t.getD 7 undef = .int .i64 a) (g10:t.getD 10 undef=y1) (g11:t.getD 11 undef = .int .i64 n1) (g12:t.getD 12 undef = .int .i64 n2)
  (Q:Exit->Act->World->Prop)
  (hK : ∀(Pc':Nat->Nat->Prop) (t':Array Value) (W':World) (b:Nat) (w2 w3 w4:Value),t'.size=37->Below W.heap.size W W'->(∀b o,Pc b o->Pc' b o)->(∀b o,Pc' b o->Pc b o\/W.heap.size<=b)->(∀b o,Pc' b o->b<W'.heap.size)->RP Pc' w2 w3 w4 vD D ms tg lv W' ->
   t'.getD 0 undef=y0->t'.getD 2 undef=w2->t'.getD 3 undef=w3->t'.getD 4 undef=w4->t'.getD 7 undef = .int .i64 a->t'.getD 8 undef = .pointer (some ⟨b,0,none⟩)->t'.getD 9 undef = .int .i64 x.2->t'.getD 10 undef=y1->t'.getD 11 undef = .int .i64 n1->t'.getD 12 undef = .int .i64 n2 ->
   W.heap.size<=b->(∀o,¬ Pc' b o)->W'.heap[b]? = some (.cells (rls x.1) 30 (0,0))->Q .normal { tmps:=t',defers:=[] } W') :
  (jp4 3 (q00 Tryz.f82)).wp Tryz.prog Q { tmps:=t,defers:=[] } W:=by
 have hq : ∃ q ys,jc7 1000001 ⟨y0,hy0⟩ ms tg lv a ⟨y1,hy1⟩ n1 n2=some (q,ys)/\q=((⟨y0,hy0⟩,(a,((),(x.2,(⟨y1,hy1⟩,(n1,(n2,()))))))),((x.1,()),()))/\ys = [some (.one (.c (.rp (.lst jub) 0 ms))),some (.one (.c (.rp (.lst jz5) 0 tg))),some (.one (.c (.rp LT18 0 lv)))]:=by
  unfold j0s at hx
  obtain ⟨m,hm,hx⟩:=Option.bind_eq_some_iff.1 hx
  obtain ⟨k,hk,hx⟩:=Option.bind_eq_some_iff.1 hx
  refine ⟨_,_,?_,rfl,rfl⟩
  unfold jc7
  rw [hm,Option.bind_some,hk,Option.bind_some,hx]
  rfl
 obtain ⟨q,ys,hq,hqe,hye⟩:=hq
 rw [jrp] at hq
 let F:Fr:=jwd 37 Pc Inv q1k.st W hI
 have hR:R F (eS (jg7 ⟨y0,hy0⟩ ms tg lv a ⟨y1,hy1⟩ n1 n2)) (q2i Pc) { tmps:=t,defers:=[] } W:=by
  refine ⟨rfl,ht,jto ?_,jus hlt _ rfl rfl⟩
  refine List.forall_mem_cons.2 ⟨?_,List.forall_mem_cons.2 ⟨?_,List.forall_mem_cons.2 ⟨?_,List.forall_mem_cons.2 ⟨?_,List.forall_mem_cons.2 ⟨?_,List.forall_mem_cons.2 ⟨?_,List.forall_mem_cons.2 ⟨?_,List.forall_mem_cons.2 ⟨?_,fun _ h=>by cases h⟩⟩⟩⟩⟩⟩⟩⟩
  ·show q1c _ _ W (t.getD 0 undef) _;rw [g0];exact DatRep.v y0
  ·show q1c _ _ W (t.getD 2 undef) _;rw [g2];exact hP.p2
  ·show q1c _ _ W (t.getD 3 undef) _;rw [g3];exact hP.p3
  ·show q1c _ _ W (t.getD 4 undef) _;rw [g4];exact hP.p4
  ·show q1c _ _ W (t.getD 7 undef) _;rw [g7];exact DatRep.v _
  ·show q1c _ _ W (t.getD 10 undef) _;rw [g10];exact DatRep.v y1
  ·show q1c _ _ W (t.getD 11 undef) _;rw [g11];exact DatRep.v _
  ·show q1c _ _ W (t.getD 12 undef) _;rw [g12];exact DatRep.v _
 refine wp_mono (jrm (F:=F) (n:=37) rfl (by kernel_rfl) (jh5 1000001 q1k) (by show LOk Tryz.prog F [] 0 (jp4 3 (q00 Tryz.f82));exact trivial) jtt hq _ _ _ hR) ?_
 rintro ex a' W' ⟨σ',e',⟨rfl,τ,rfl,hτ,hys⟩,hR'⟩
 obtain ⟨t',df⟩:=a'
 obtain rfl:df = []:=hR'.defers
 have hC:=jfu hτ hR'
 subst hqe
 rw [hye] at hys
 simp only [List.map_cons,List.map_nil,List.cons.injEq,and_true] at hys
 obtain ⟨h2,h3,h4⟩:=hys
 have s2:q1w (q2i e'.Pc) q2y W' (t'.getD 2 undef) (eC (.rp (.lst jub) 0 ms)):=by
  have:=hR'.slots 2
  rw [show (eS τ).slot 2=eD (.one (.c (.rp (.lst jub) 0 ms))) from by show (match lk τ.slots 2 with|some x=>eD x|none=>_)=_;rw [h2]] at this
  exact this
 have s3:q1w (q2i e'.Pc) q2y W' (t'.getD 3 undef) (eC (.rp (.lst jz5) 0 tg)):=by
  have:=hR'.slots 3
  rw [show (eS τ).slot 3=eD (.one (.c (.rp (.lst jz5) 0 tg))) from by show (match lk τ.slots 3 with|some x=>eD x|none=>_)=_;rw [h3]] at this
  exact this
 have s4:q1w (q2i e'.Pc) q2y W' (t'.getD 4 undef) (eC (.rp LT18 0 lv)):=by
  have:=hR'.slots 4
  rw [show (eS τ).slot 4=eD (.one (.c (.rp LT18 0 lv))) from by show (match lk τ.slots 4 with|some x=>eD x|none=>_)=_;rw [h4]] at this
  exact this
 have hb:Below W.heap.size W W':=hR'.hp.below
 have hPP : ∀b o,Pc b o->e'.Pc b o:=hR'.hp.pc0
 obtain ⟨hbx1,hbx2⟩:=hC.hp.boxes 8 30 _ rfl
 rcases hbx2 with ⟨_,vs,k1,k2,_⟩|⟨h7,_⟩
 case inr=>exact absurd h7 (by decide)
 have hvs:vs=rls x.1:=by
  obtain ⟨vs⟩:=vs
  match vs,k2 with
  | [y0,y1,y2,y3,y4,y5,y6,y7,y8,y9,ya,yb,yc],⟨k0,k1,k2,k3,k4,k5,k6,k7,k8,k9,ka,kb,kc,_⟩ =>
   obtain rfl:y0=_:=q8w k0
   obtain rfl:y1=_:=q8w k1
   obtain rfl:y2=_:=q8w k2
   obtain rfl:y3=_:=q8w k3
   obtain rfl:y4=_:=q8w k4
   obtain rfl:y5=_:=q8w k5
   obtain rfl:y6=_:=q8w k6
   obtain rfl:y7=_:=q8w k7
   obtain rfl:y8=_:=q8w k8
   obtain rfl:y9=_:=q8w k9
   obtain rfl:ya=_:=q8w ka
   obtain rfl:yb=_:=q8w kb
   obtain rfl:yc=_:=q8w kc
   rfl
 rw [hvs] at k1
 refine hK e'.Pc t' W' (e'.m 8) _ _ _ hR'.size hb hPP hR'.hp.pcNew hR'.hp.pcLt ⟨s2,s3,s4,hP.dD.mono hPP fun b o hp=>hb.cell (p:=⟨b,o,none⟩) (hlt b o hp)⟩ (q8w (hC.slots 0)) rfl rfl rfl (q8w (hC.slots 7)) (hC.slots 8).2 (q8w (hC.slots 9)) (q8w (hC.slots 10)) (q8w (hC.slots 11)) (q8w (hC.slots 12)) hbx1 (hC.hp.boxPc 8 rfl) k1
end YtggoebaobojmjaaGreatDoor.AM
end Go.Proofs
namespace Go.Proofs
open Go.RowKit Go.Shelf Go.Lib
attribute [local go_sem] Oper.semAt_some
set_option linter.unusedVariables false
set_option linter.unusedSimpArgs false
namespace YtggoebaobojmjaaGreatDoor.AM
set_option maxHeartbeats 4000000 in
set_option maxRecDepth 1000000 in
theorem jzf {Pc0:Nat->Nat->Prop} {v2 v3 v4 vD:Value} {D:List Int} {ms:List qyr} {tg:List j7q} {lv:j4s} (n l:Nat) (hn:2<=n) (hD:D.length<=1000000) (pD:Nat)
  (J:(Nat->Nat->Prop)->List q9x×List Int->World->Prop) (Jx:World->Prop)
  (hJb : ∀Pc Pc' q W W',J Pc q W->Below W.heap.size W W'->(∀b o,Pc' b o->Pc b o\/W.heap.size<=b)->(∀b o,Pc' b o->b<W'.heap.size)->J Pc' q W') (hJi : ∀Pc q W,J Pc q W->Inv W/\∀b o,Pc b o->b<W.heap.size)
  (hJo : ∀Pc acc a r W,J Pc (acc,a::r) W->∃ x,j0s ms tg lv a=some x)
  (hY : ∀Pc acc a r x W,j0s ms tg lv a=some x->J Pc (acc,a::r) W->YieldAt Fence.wide (n - 1) Tryz.prog l #[.agg (rls (a,x.1.2)),.int .i64 x.2] W fun e W' =>
   (e = .returned (.bool true)/\J Pc (acc ++ [(a,x.1.2)],r) W'/\∀b o,Pc b o->W'.cell? ⟨b,o,none⟩=W.cell? ⟨b,o,none⟩)\/(e = .returned (.bool false)/\Jx W'))
  (W:World) (hcD:W.cell? ⟨pD,0,none⟩=some vD) (hP0:RP Pc0 v2 v3 v4 vD D ms tg lv W) (h0:J Pc0 ([],D) W) :
  CallsIn Fence.wide n Tryz.prog 82 #[.func (.yield l) #[] #[],.pointer (some ⟨pD,0,none⟩),v2,v3,v4] W fun e W'=>(∃ v,e = .returned v)/\((∃ Pc acc,J Pc (acc,[]) W')\/Jx W'):=by
 refine callsIn_of_wp Tryz.func82 rfl trivial ?_ rfl
 simp only [Tryz.ntmps82,List.size_toArray,List.length_cons,List.length_nil,Nat.reduceAdd,Nat.reduceSub,Array.replicate_succ,Array.replicate_zero,List.push_toArray,List.append_toArray,List.nil_append,List.cons_append]
 obtain ⟨aD,cD,bD,oD,hvD,hcD1,hcD2,haD,_⟩:=q8j hP0.dD
 rw [List.length_map] at hvD hcD1 haD
 subst hvD
 have hcD3:cD<=9223372036854775807:=by unfold maxLen at hcD2;omega
 gi_wp2_with fail
 refine wpIn_loop (I:=fun a wr=>∃ (Pc:Nat->Nat->Prop) (k:Nat) (acc:List q9x) (w2 w3 w4:Value),a.defers = []/\a.tmps.size=37/\a.tmps.getD 0 undef = .func (.yield l) #[] #[]/\a.tmps.getD 2 undef=w2/\a.tmps.getD 3 undef=w3/\a.tmps.getD 4 undef=w4/\a.tmps.getD 10 undef = .slice aD D.length cD/\a.tmps.getD 11 undef = .int .i64 ((D.length:Nat):Int)/\a.tmps.getD 12 undef = .int .i64 ((k:Nat):Int)/\k<=D.length/\J Pc (acc,D.drop k) wr/\RP Pc w2 w3 w4 (.slice aD D.length cD) D ms tg lv wr) (fun a _=>D.length - (RowKit.intOf (a.tmps.getD 12 undef)).toNat) ?start ?round
 case start=>exact ⟨Pc0,0,[],_,_,_,rfl,rfl,rfl,rfl,rfl,rfl,rfl,rfl,rfl,Nat.zero_le _,h0,hP0⟩
 case round =>
  rintro ⟨t,df⟩ wr ⟨Pc,k,acc,w2,w3,w4,hdf,ht,g0,g2,g3,g4,g10,g11,g12,hk,hJr,hPr⟩
  simp only at hdf ht g0 g2 g3 g4 g10 g11 g12
  subst hdf
  have ht37:=jvf ht
  rw [g0,g2,g3,g4,g10,g11,g12] at ht37
  generalize t.getD 1 undef=z1 at ht37;generalize t.getD 5 undef=z5 at ht37;generalize t.getD 6 undef=z6 at ht37;generalize t.getD 7 undef=z7 at ht37;generalize t.getD 8 undef=z8 at ht37;generalize t.getD 9 undef=z9 at ht37;generalize t.getD 13 undef=z13 at ht37;generalize t.getD 14 undef=z14 at ht37;generalize t.getD 15 undef=z15 at ht37;generalize t.getD 16 undef=z16 at ht37;generalize t.getD 17 undef=z17 at ht37;generalize t.getD 18 undef=z18 at ht37;generalize t.getD 19 undef=z19 at ht37;generalize t.getD 20 undef=z20 at ht37;generalize t.getD 21 undef=z21 at ht37;generalize t.getD 22 undef=z22 at ht37;generalize t.getD 23 undef=z23 at ht37;generalize t.getD 24 undef=z24 at ht37;generalize t.getD 25 undef=z25 at ht37;generalize t.getD 26 undef=z26 at ht37;generalize t.getD 27 undef=z27 at ht37;generalize t.getD 28 undef=z28 at ht37;generalize t.getD 29 undef=z29 at ht37;generalize t.getD 30 undef=z30 at ht37;generalize t.getD 31 undef=z31 at ht37;generalize t.getD 32 undef=z32 at ht37;generalize t.getD 33 undef=z33 at ht37;generalize t.getD 34 undef=z34 at ht37;generalize t.getD 35 undef=z35 at ht37;generalize t.getD 36 undef=z36 at ht37
  clear g0 g2 g3 g4 g10 g11 g12 ht
  subst ht37
  clear h0 hP0
  by_cases hkl:k<D.length
  ·have hkk:(k:Int)<(D.length:Int):=by omega
   obtain ⟨aD',cD',bD',oD',hvD,_,_,haD',hcD'⟩:=q8j hPr.dD
   rw [List.length_map] at hvD haD'
   cases hvD
   obtain rfl:=haD' (by omega)
   obtain ⟨u,_,hcu,hu⟩:=hcD' k _ 0 _ (by rw [List.getElem?_map,List.getElem?_eq_getElem hkl];rfl) (rfl)
   obtain rfl:=q8w hu
   have hdrop:=List.drop_eq_getElem_cons hkl
   rw [hdrop] at hJr
   generalize D[k]=a at *
   obtain ⟨x,hx⟩:=hJo _ _ _ _ _ hJr
   have hyy:=hY
   rw [Nat.mul_one,Nat.add_zero] at hcu
   clear hdrop hY hJo hcD' hu
   gi_wp2_with fail
   refine wpIn_wide.2 (wp_eq (c':=jp4 3 (q00 Tryz.f82)) (by kernel_rfl) (jue (hJi _ _ _ hJr).1 (hJi _ _ _ hJr).2 hPr (.func (.yield l) #[] #[]) (.slice (some ⟨bD',oD',none⟩) D.length cD) rfl rfl a _ _ x hx _ rfl rfl rfl rfl rfl rfl rfl rfl rfl _ ?_))
   intro Pc' t' W' b w2 w3 w4 ht' hbel hPP hPn hPl hP' g0 g2 g3 g4 g7 g8 g9 g10 g11 g12 hbb hbP hbo
   have ht37:=jvf ht'
   rw [g0,g2,g3,g4,g7,g8,g9,g10,g11,g12] at ht37
   generalize t'.getD 1 undef=y1 at ht37;generalize t'.getD 5 undef=y5 at ht37;generalize t'.getD 6 undef=y6 at ht37;generalize t'.getD 13 undef=y13 at ht37;generalize t'.getD 14 undef=y14 at ht37;generalize t'.getD 15 undef=y15 at ht37;generalize t'.getD 16 undef=y16 at ht37;generalize t'.getD 17 undef=y17 at ht37;generalize t'.getD 18 undef=y18 at ht37;generalize t'.getD 19 undef=y19 at ht37;generalize t'.getD 20 undef=y20 at ht37;generalize t'.getD 21 undef=y21 at ht37;generalize t'.getD 22 undef=y22 at ht37;generalize t'.getD 23 undef=y23 at ht37;generalize t'.getD 24 undef=y24 at ht37;generalize t'.getD 25 undef=y25 at ht37;generalize t'.getD 26 undef=y26 at ht37;generalize t'.getD 27 undef=y27 at ht37;generalize t'.getD 28 undef=y28 at ht37;generalize t'.getD 29 undef=y29 at ht37;generalize t'.getD 30 undef=y30 at ht37;generalize t'.getD 31 undef=y31 at ht37;generalize t'.getD 32 undef=y32 at ht37;generalize t'.getD 33 undef=y33 at ht37;generalize t'.getD 34 undef=y34 at ht37;generalize t'.getD 35 undef=y35 at ht37;generalize t'.getD 36 undef=y36 at ht37
   clear g0 g2 g3 g4 g7 g8 g9 g10 g11 g12 ht'
   subst ht37
   simp only [Exit.then]
   go_at_K
   obtain ⟨x1,xe⟩:=x
   obtain ⟨r0,r1,r2,r3,r4,r5,r6,r7,r8,r9,ra,rb,rc⟩:=x1
   simp only [rls] at hbo hyy ⊢
   have f0:W'.frozen? ⟨b,0,none⟩=false:=by simp [World.frozen?,hbo]
   have e0:W'.cell? ⟨b,0,none⟩=some (.int .i64 r0):=by rw [cell_of_row W' _ _ _ _ _ hbo];rfl
   have e1:W'.cell? ⟨b,1,none⟩=some (.bool r1):=by rw [cell_of_row W' _ _ _ _ _ hbo];rfl
   have e2:W'.cell? ⟨b,2,none⟩=some (.int .i64 r2):=by rw [cell_of_row W' _ _ _ _ _ hbo];rfl
   have e3:W'.cell? ⟨b,3,none⟩=some (.int .i64 r3):=by rw [cell_of_row W' _ _ _ _ _ hbo];rfl
   have e4:W'.cell? ⟨b,4,none⟩=some (.int .i64 r4):=by rw [cell_of_row W' _ _ _ _ _ hbo];rfl
   have e5:W'.cell? ⟨b,5,none⟩=some (.string (ba r5)):=by rw [cell_of_row W' _ _ _ _ _ hbo];rfl
   have e6:W'.cell? ⟨b,6,none⟩=some (.string (ba r6)):=by rw [cell_of_row W' _ _ _ _ _ hbo];rfl
   have e7:W'.cell? ⟨b,7,none⟩=some (.int .i64 r7):=by rw [cell_of_row W' _ _ _ _ _ hbo];rfl
   have e8:W'.cell? ⟨b,8,none⟩=some (.int .i64 r8):=by rw [cell_of_row W' _ _ _ _ _ hbo];rfl
   have e9:W'.cell? ⟨b,9,none⟩=some (.int .i64 r9):=by rw [cell_of_row W' _ _ _ _ _ hbo];rfl
   have e10:W'.cell? ⟨b,10,none⟩=some (.string (ba ra)):=by rw [cell_of_row W' _ _ _ _ _ hbo];rfl
   have e11:W'.cell? ⟨b,11,none⟩=some (.string (ba rb)):=by rw [cell_of_row W' _ _ _ _ _ hbo];rfl
   have e12:W'.cell? ⟨b,12,none⟩=some (.int .i64 rc):=by rw [cell_of_row W' _ _ _ _ _ hbo];rfl
   have hs:=setCell_eq_setRow W' b 0 _ 30 (0,0) (.int .i64 a) hbo
   have hbB:Below wr.heap.size wr (W'.setCell ⟨b,0,none⟩ (.int .i64 a)):=by rw [hs];exact below_setRow hbel hbb _
   have hsz:(W'.setCell ⟨b,0,none⟩ (.int .i64 a)).heap.size=W'.heap.size:=by rw [hs];simp
   have hJ':=hJb Pc Pc' _ wr _ hJr hbB hPn (by rw [hsz];exact hPl)
   have hcs : ∀b' o,Pc' b' o->(W'.setCell ⟨b,0,none⟩ (.int .i64 a)).cell? ⟨b',o,none⟩=W'.cell? ⟨b',o,none⟩:=fun b' o hp=>by
    have hne:b'≠b:=fun e=>hbP o (e ▸ hp)
    rw [hs]
    exact World.cell?_of_block (setRow_other W' b b' _ hne)
   obtain ⟨fn,tmps,assign,body,hy,hRy⟩:=hyy Pc' acc a _ _ _ hx hJ'
   have HP:=hid hP'
   have HCS:=hid hcs
   clear hyy hP' hcs hPr hJ' hs hsz hPn hPl hPP hbP hJb hJi
   gi_wp2_with fail
   refine ⟨fun h=>(by cases h),hRy.mono ?_⟩
   rintro e W3 (⟨rfl,hJ3,hc3⟩|⟨rfl,hJx⟩)
   ·have hP3:=HP.out.mono (fun _ _ h=>h) (fun b' o hp=>(hc3 b' o hp).trans (HCS.out b' o hp))
    clear hy hRy
    gi_wp2_with fail
    refine ⟨⟨Pc',k+1,_,w2,w3,w4,trivial,rfl,rfl,rfl,rfl,rfl,rfl,rfl,rfl,by omega,hJ3,hP3⟩,?_⟩
    show D.length - (RowKit.intOf (.int .i64 ((k:Int)+1))).toNat<D.length - (RowKit.intOf (.int .i64 (k:Int))).toNat
    simp only [RowKit.intOf]
    omega
   ·clear hy hRy
    gi_wp2
    refine bodyPost_ret (results_none rfl _ _ _) rfl ?_
    exact ⟨⟨_,rfl⟩,.inr hJx⟩
  ·gi_wp2
   go_end0
   rw [List.drop_of_length_le (by omega)] at hJr
   exact ⟨⟨_,rfl⟩,.inl ⟨Pc,acc,hJr⟩⟩
end YtggoebaobojmjaaGreatDoor.AM
end Go.Proofs
namespace Go.Proofs
open Go.RowKit Go.Shelf Go.Lib
attribute [local go_sem] Oper.semAt_some
set_option linter.unusedVariables false
set_option linter.unusedSimpArgs false
namespace YtggoebaobojmjaaGreatDoor.AM
def jmh (I:(Nat->Nat->Prop)->List q9x×List Int->World->Prop) (Ix:Unit->World->Prop) (Pc:Nat->Nat->Prop) (q:List q9x×List Int) (W:World):Exit->Act->World->Prop
 | .normal,_,W'=>KeepsOthers W W'/\I Pc q W'/\∀b o,Pc b o->W'.cell? ⟨b,o,none⟩=W.cell? ⟨b,o,none⟩
 | .ret,_,W'=>KeepsOthers W W'/\Ix () W'
 | _,_,_=>False
def rlO (r:q9x):Obj:=.cells (rls r) 30
theorem jgt : ∀args w,(callFunc 82 args).run Tryz.prog w = .ok (.enter 82 args) w:=enters_of Tryz.func82 (by kernel_rfl) rfl
theorem jp6 {n:Nat} (hn:4<=n) {g:Operand} {p p':Tmp} {assign body:Code} {Q:Exit->Act->World->Prop} {a:Act} {w:World} {Pc0:Nat->Nat->Prop} {v2 v3 v4 vD:Value} {D:List Int} {ms:List qyr} {tg:List j7q} {lv:j4s} (hD:D.length<=1000000) (pD:Nat)
  (hg:a.eval g = .func (.func 82) #[] #[.pointer (some ⟨pD,0,none⟩),v2,v3,v4]) (hcD:w.cell? ⟨pD,0,none⟩=some vD)
  (I:(Nat->Nat->Prop)->List q9x×List Int->World->Prop) (Ix:Unit->World->Prop) (hI : ∀Pc,OwnFrom w.heap.size (I Pc)) (hIx:OwnFrom w.heap.size Ix)
  (hIb : ∀Pc Pc' q W W',I Pc q W->Below W.heap.size W W'->(∀b o,Pc' b o->Pc b o\/W.heap.size<=b)->(∀b o,Pc' b o->b<W'.heap.size)->I Pc' q W') (hIi : ∀Pc q W,I Pc q W->Inv W/\∀b o,Pc b o->b<W.heap.size)
  (hIo : ∀Pc acc a r W,I Pc (acc,a::r) W->∃ x,j0s ms tg lv a=some x)
  (hP0:RP Pc0 v2 v3 v4 vD D ms tg lv w) (h0:I Pc0 ([],D) w)
  (a₁:Nat->q9x->Int->Act)
  (hassign : ∀(l:Nat) (o:q9x) (e:Int) (W:World) (K:Act->World->Prop),K (a₁ W.heap.size o e) (W.alloc (rlO o)) ->
   assign.wpIn (Fence.wide.inRound l) (n - 1 - 1) Tryz.prog (Exit.then K (fun _ _ _=>False)) { tmps:=(a.tmps.setIfInBounds p (.agg (rls o))).setIfInBounds p' (.int .i64 e),defers:=[] } W)
  (hbody : ∀(l:Nat) (Pc:Nat->Nat->Prop) (acc:List q9x) (a0:Int) (r:List Int) (x:q9x×Int) (W:World) (b:Nat),j0s ms tg lv a0=some x->I Pc (acc,a0::r) W->W.heap[b]? = some (rlO (a0,x.1.2)) ->
   body.wpIn (Fence.wide.inRound l) (n - 1 - 1) Tryz.prog (jmh I Ix Pc (acc ++ [(a0,x.1.2)],r) W) (a₁ b (a0,x.1.2) x.2) W)
  (hdone : ∀(D':Nat) (Pc:Nat->Nat->Prop) (acc:List q9x) (W:World),w.heap.size<=D'->I Pc (acc,[]) W->W.heap[D']? = some (.deferred (some []))->Q .normal { a with defers:={ target:=.collected D',args:=#[] } :: a.defers } W)
  (hstop : ∀(D':Nat) (W:World),w.heap.size<=D'->Ix () W->W.heap[D']? = some (.deferred (some []))->Q .ret { a with defers:={ target:=.collected D',args:=#[] } :: a.defers } W) :
  (Code.rangeFunc g #[p,p'] assign body).wpIn Fence.wide n Tryz.prog Q a w:=by
 refine wpIn_rangeFunc fun fn hfn=>?_
 generalize hrec:(fun st pe=>({ state:=st,pending:=pe,fn,tmps:=a.tmps,params:=#[p,p'],assign,body,defers:=w.heap.size } : Loop))=rec
 have hr1 : ∀st pe,rec st pe = { state:=st,pending:=pe,fn,tmps:=a.tmps,params:=#[p,p'],assign,body,defers:=w.heap.size }:=fun st pe=>by rw [<-hrec]
 generalize hW1:(w.alloc (.deferred (some []))).alloc (.loop (rec .ready none))=W1
 have hk1:W1.heap[w.heap.size]? = some (.deferred (some [])):=by
  rw [<-hW1];exact (Below.heap_alloc _ _ _ (by simp)).trans (World.alloc_heap_new w _)
 have hl1:W1.heap[w.heap.size+1]? = some (.loop (rec .ready none)):=by
  have:=World.alloc_heap_new (w.alloc (.deferred (some []))) (.loop (rec .ready none))
  rw [World.size_alloc] at this
  rw [<-hW1];exact this
 have hi1:I Pc0 ([],D) W1:=by rw [<-hW1];exact (hI _).alloc _ ((hI _).alloc _ h0)
 have hbW1:Below w.heap.size w W1:=by rw [<-hW1];exact ((Below.refl w.heap.size w).alloc (Nat.le_refl _) _).alloc (by simp) _
 have hS1:W1.cell? ⟨pD,0,none⟩=some vD:=q2e hbW1 hcD
 have hP1:RP Pc0 v2 v3 v4 vD D ms tg lv W1:=hP0.mono (fun _ _ h=>h) fun b o hp=>hbW1.cell (p:=⟨b,o,none⟩) ((hIi _ _ _ h0).2 b o hp)
 refine ⟨w.heap.size+1,[{ target:=.collected w.heap.size,args:=#[] }],W1,{ target:=.fn (.func 82) #[.pointer (some ⟨pD,0,none⟩),v2,v3,v4],args:=#[.func (.yield (w.heap.size+1)) #[] #[]] },W1,82,
  #[.func (.yield (w.heap.size+1)) #[] #[],.pointer (some ⟨pD,0,none⟩),v2,v3,v4],W1,?_,?_,fun _ _=>trivial,?_,(fun h=>by cases h),?_⟩
 ·rw [<-hW1,hr1];exact run_enterLoop_outer _ _ _ _ _
 ·simp only [resolve,hg]
  simp [go_sem]
 ·have eg:=jgt
  simp [invoke,go_sem,eg]
 ·refine (jzf (Pc0:=Pc0) (vD:=vD) (D:=D) (ms:=ms) (tg:=tg) (lv:=lv) (n - 1) (w.heap.size+1) (by omega) hD pD
   (fun Pc q W=>I Pc q W/\W.heap[w.heap.size+1]? = some (.loop (rec .ready none))/\W.heap[w.heap.size]? = some (.deferred (some [])))
   (fun W=>Ix () W/\W.heap[w.heap.size+1]? = some (.loop (rec .done (some .ret)))/\W.heap[w.heap.size]? = some (.deferred (some [])))
   (fun Pc Pc' q W W' h hb h1 h2=>⟨hIb Pc Pc' q W W' h.1 hb h1 h2,(hb.block _ (q0q h.2.1)).trans h.2.1,(hb.block _ (q0q h.2.2)).trans h.2.2⟩) (fun Pc q W h=>hIi Pc q W h.1) (fun Pc acc a r W h=>hIo Pc acc a r W h.1) ?_ W1 hS1 hP1 ⟨hi1,hl1,hk1⟩).mono ?_
  ·rintro Pc acc a0 r x W hx ⟨hi,hl,hk⟩
   have hy:=run_yield (P:=Tryz.prog) (args:=#[.agg (rls (a0,x.1.2)),.int .i64 x.2]) hl (by rw [hr1];rfl)
   rw [hr1] at hy
   have hz:(Array.zip #[p,p'] #[.agg (rls (a0,x.1.2)),Value.int .i64 x.2]).foldl (fun tmps (t,a)=>tmps.setIfInBounds t a) a.tmps=(a.tmps.setIfInBounds p (.agg (rls (a0,x.1.2)))).setIfInBounds p' (.int .i64 x.2):=by simp
   dsimp only at hy
   rw [hz] at hy
   have hbA:Below W.heap.size W (W.alloc (rlO (a0,x.1.2))):=(Below.refl _ _).alloc (Nat.le_refl _) _
   have hlA:=(hbA.block _ (q0q hl)).trans hl
   have hkA:=(hbA.block _ (q0q hk)).trans hk
   have hiA:=hIb Pc Pc _ _ _ hi hbA (fun _ _ h=>.inl h) (fun b o h=>Nat.lt_of_lt_of_le ((hIi _ _ _ hi).2 b o h) hbA.size)
   have hcA : ∀b o,Pc b o->(W.alloc (rlO (a0,x.1.2))).cell? ⟨b,o,none⟩=W.cell? ⟨b,o,none⟩:=fun b o hp=>hbA.cell (p:=⟨b,o,none⟩) ((hIi _ _ _ hi).2 b o hp)
   have hoA:(W.alloc (rlO (a0,x.1.2))).heap[W.heap.size]? = some (rlO (a0,x.1.2)):=World.alloc_heap_new W _
   have hneA:W.heap.size≠w.heap.size+1:=fun e=>by have:=q0q hl;omega
   refine ⟨fn,_,assign,body,hy,roundIn_of_wpIn hfn (hassign _ (a0,x.1.2) x.2 W _ ?_)⟩
   generalize W.alloc (rlO (a0,x.1.2))=WA at hlA hkA hiA hoA hcA
   refine ⟨_,run_beginRound hlA (by rw [hr1]),?_⟩
   have hlt:w.heap.size+1<WA.heap.size:=q0q hlA
   generalize hW2:WA.putObj (w.heap.size+1) (.loop { rec .ready none with state:=.busy })=W2
   have hl2:W2.heap[w.heap.size+1]? = some (.loop { rec .ready none with state:=.busy }):=by rw [<-hW2];exact World.putObj_heap_same hlt
   have hk2:W2.heap[w.heap.size]? = some (.deferred (some [])):=by rw [<-hW2];exact (World.putObj_heap_other (by omega)).trans hkA
   have ho2:W2.heap[W.heap.size]? = some (rlO (a0,x.1.2)):=by rw [<-hW2];exact (World.putObj_heap_other hneA).trans hoA
   have hi2:I Pc (acc,a0::r) W2:=by rw [<-hW2];exact (hI Pc).putObj _ hiA (by omega) hlA rfl
   have hc2 : ∀b o,W2.cell? ⟨b,o,none⟩=WA.cell? ⟨b,o,none⟩:=fun b o=>by
    by_cases hb:b=w.heap.size+1
    ·subst hb;simp [World.cell?,hl2,hlA]
    ·rw [<-hW2];exact World.cell?_of_block (World.putObj_heap_other hb)
   have fin : ∀(jump:Option Code) (W3:World),KeepsOthers W2 W3->(Instr.endRound (w.heap.size+1) jump).run Tryz.prog W3 = .ok (.bool jump.isNone) (W3.putObj (w.heap.size+1) (.loop (rec (if jump.isNone then .ready else .done) jump))) /\
     W3.heap[w.heap.size+1]? = some (.loop { rec .ready none with state:=.busy }) /\
     (W3.putObj (w.heap.size+1) (.loop (rec (if jump.isNone then .ready else .done) jump))).heap[w.heap.size+1]? = some (.loop (rec (if jump.isNone then .ready else .done) jump)) /\
     (W3.putObj (w.heap.size+1) (.loop (rec (if jump.isNone then .ready else .done) jump))).heap[w.heap.size]? = some (.deferred (some [])):=fun jump W3 hk3=>by
    have hl3:=hk3.same _ _ hl2 rfl
    have he:=run_endRound (P:=Tryz.prog) jump hl3
    rw [hr1] at he
    refine ⟨by rw [hr1];exact he,hl3,World.putObj_heap_same (q0q hl3),(World.putObj_heap_other (by omega)).trans (hk3.same _ _ hk2 rfl)⟩
   refine wpIn_mono (hbody _ Pc acc a0 r x W2 W.heap.size hx hi2 ho2) ?_
   rintro e a3 W3 hp
   cases e with
   | normal =>
    obtain ⟨q1,q3,q4⟩:=hp
    obtain ⟨f1,f2,f3,f4⟩:=fin none W3 q1
    refine ⟨_,_,f1,.inl ⟨rfl,⟨(hI Pc).putObj _ q3 (by omega) f2 rfl,f3,f4⟩,fun b o hp=>?_⟩⟩
    refine Eq.trans ?_ ((q4 b o hp).trans ((hc2 b o).trans (hcA b o hp)))
    by_cases hb:b=w.heap.size+1
    ·subst hb
     have f3':(W3.putObj (w.heap.size+1) (.loop (rec (if (none:Option Code).isNone then .ready else .done) none))).cell? ⟨w.heap.size+1,o,none⟩=none:=by simp only [World.cell?,f3]
     have f2':W3.cell? ⟨w.heap.size+1,o,none⟩=none:=by simp only [World.cell?,f2]
     rw [f2'];exact f3'
    ·exact World.cell?_of_block (World.putObj_heap_other hb)
   | ret =>
    obtain ⟨q1,q2⟩:=hp
    obtain ⟨f1,f2,f3,f4⟩:=fin (some .ret) W3 q1
    exact ⟨_,_,f1,.inr ⟨rfl,hIx.putObj _ q2 (by omega) f2 rfl,f3,f4⟩⟩
   | _=>exact hp.elim
  ·rintro e W2 ⟨⟨v,rfl⟩,(⟨Pc,acc,hi,hl,hk⟩|⟨hi,hl,hk⟩)⟩
   ·have he:=run_endLoop (P:=Tryz.prog) hl (by rw [hr1];simp)
    rw [hr1] at he
    exact ⟨none,_,he,hdone _ Pc _ _ (Nat.le_refl _) ((hI Pc).putObj _ hi (by omega) hl rfl) ((World.putObj_heap_other (by omega)).trans hk)⟩
   ·have he:=run_endLoop (P:=Tryz.prog) hl (by rw [hr1];simp)
    rw [hr1] at he
    exact ⟨some .ret,_,he,wpIn_ret (hstop _ _ (Nat.le_refl _) (hIx.putObj _ hi (by omega) hl rfl) ((World.putObj_heap_other (by omega)).trans hk))⟩
end YtggoebaobojmjaaGreatDoor.AM
end Go.Proofs
namespace Go.Proofs
open Go.RowKit Go.Shelf Go.Lib
attribute [local go_sem] Oper.semAt_some
set_option linter.unusedVariables false
set_option linter.unusedSimpArgs false
namespace YtggoebaobojmjaaGreatDoor.AM
def q2h (l:List q9x):List Value:=l.flatMap fun r=>(rls r).toList
theorem qw9 : ∀l:List q9x,(q2h l).length=l.length*13
 | []=>rfl
 | r::l=>by
  show ((rls r).toList++q2h l).length=_
  rw [List.length_append,qw9 l,List.length_cons]
  show 13+_=_
  omega
theorem jit (a b:List q9x):q2h (a++b)=q2h a++q2h b:=List.flatMap_append
def jqv (ms:List qyr) (tg:List j7q) (lv:j4s):List Int->List q9x->Option (List q9x×Int)
 | [],acc=>some (acc,0)
 | a::D,acc=>(j0s ms tg lv a).bind fun x=>if x.2=0 then jqv ms tg lv D (acc ++ [(a,x.1.2)]) else some ([],x.2)
theorem jwa : ∃ i:TypeInfo,Tryz.prog.info? 30=some i/\i.size=13/\i.bytes=136/\∃ z,i.zero=some z/\z.cells.size=13:=by
 have h:(match Tryz.prog.info? 30 with
  | some i=>decide (i.size=13)&&(decide (i.bytes=136)&&(match i.zero with|some z=>decide (z.cells.size=13)|none=>false))
  | none=>false)=true:=by kernel_rfl
 split at h
 ·rename_i i hi
  simp only [Bool.and_eq_true,decide_eq_true_eq] at h
  obtain ⟨h1,h2,h3⟩:=h
  split at h3
  ·rename_i z hz
   exact ⟨i,hi,h1,h2,z,hz,by simpa using h3⟩
  ·cases h3
 ·cases h
structure DR (w0:World) (ms:List qyr) (tg:List j7q) (lv:j4s) (D:List Int) (out:List q9x×Int) (b2 b3 b4:Nat) (Pc:Nat->Nat->Prop) (q:List q9x×List Int) (W:World):Prop where
 inv:Inv W
 lt : ∀b o,Pc b o->b<W.heap.size
 pro : ∀b o,Pc b o->b≠b2/\b≠b3/\b≠b4
 res:W.heap[b2]? = some (.cells #[.slice none 0 0] 45 (0,0))
 err:W.heap[b3]? = some (.cells #[.int .i64 0] 31 (0,0))
 ops : ∃ v,W.heap[b4]? = some (.cells #[v] 45 (0,0))/\W.ownsRow w0.heap.size 30 13 v q.1.length (q2h q.1)/\v.ownBlock≠some b2/\v.ownBlock≠some b3/\v.ownBlock≠some b4/\(∃ a n c,v = .slice a n c)/\∀b o,Pc b o->v.ownBlock≠some b
 below:Below w0.heap.size w0 W
 rel:jqv ms tg lv q.2 q.1=some out
 len:q.1.length+q.2.length<=1000000
theorem k0n {w0:World} {ms:List qyr} {tg:List j7q} {lv:j4s} {D:List Int} {out:List q9x×Int} {b2 b3 b4 B:Nat} {Pc:Nat->Nat->Prop} (hI:Inv w0) (hB:w0.heap.size<=B):OwnFrom B (DR w0 ms tg lv D out b2 b3 b4 Pc):=fun q W W' row h hg hr=>by
 obtain ⟨v,h1,h2,h3,h4,h5,h6,h7⟩:=h.ops
 have hbl:=h.below.grown hg h.below.size (fun k e=>Nat.le_trans hB (hr k e).1)
 exact ⟨hI.below hbl,fun b o hp=>Nat.lt_of_lt_of_le (h.lt b o hp) hg.size,h.pro,q5c h.res hg hr,q5c h.err hg hr,⟨v,q5c h1 hg hr,jdc (k:=0) h2 hg hr,h3,h4,h5,h6,h7⟩,h.below.grown hg h.below.size (fun k e=>Nat.le_trans hB (hr k e).1),h.rel,h.len⟩
theorem k0i {w:World} {B E sz n:Nat} {v:Value} {xs:List Value} (h:w.ownsRow B E sz v n xs) {b:Nat} (hb:v.ownBlock=some b):b<w.heap.size:=(h.lt b hb).2
theorem jeb {w0:World} {ms:List qyr} {tg:List j7q} {lv:j4s} {D:List Int} {out:List q9x×Int} {b2 b3 b4:Nat} {Pc Pc':Nat->Nat->Prop} {q:List q9x×List Int} {W W':World} (h:DR w0 ms tg lv D out b2 b3 b4 Pc q W) (hb:Below W.heap.size W W')
  (h1 : ∀b o,Pc' b o->Pc b o\/W.heap.size<=b) (h2 : ∀b o,Pc' b o->b<W'.heap.size):DR w0 ms tg lv D out b2 b3 b4 Pc' q W':=by
 obtain ⟨v,k1,k2,k3,k4,k5,k6,k7⟩:=h.ops
 have l2:=q0q h.res
 have l3:=q0q h.err
 have l4:=q0q k1
 refine ⟨h.inv.below hb,h2,fun b o hp=>?_,(hb.block _ l2).trans h.res,(hb.block _ l3).trans h.err,⟨v,(hb.block _ l4).trans k1,q6j k2 hb,k3,k4,k5,k6,fun b o hp e=>?_⟩,h.below.trans (hb.mono h.below.size),h.rel,h.len⟩
 ·rcases h1 b o hp with hx|hx
  ·exact h.pro b o hx
  ·omega
 ·rcases h1 b o hp with hx|hx
  ·exact k7 b o hx e
  ·have:=k0i k2 e;omega
structure DQ (w0:World) (out:List q9x×Int) (b2 b3:Nat) (u:Unit) (W:World):Prop where
 res:W.heap[b2]? = some (.cells #[.slice none 0 0] 45 (0,0))
 err:W.heap[b3]? = some (.cells #[.int .i64 out.2] 31 (0,0))
 nil:out.1 = []
 below:Below w0.heap.size w0 W
theorem juu {w0:World} {out:List q9x×Int} {b2 b3 B:Nat} (hB:w0.heap.size<=B):OwnFrom B (DQ w0 out b2 b3):=fun q W W' row h hg hr =>
 ⟨q5c h.res hg hr,q5c h.err hg hr,h.nil,h.below.grown hg h.below.size (fun k e=>Nat.le_trans hB (hr k e).1)⟩
theorem hagR:qvc Tryz.prog 45=some false:=by kernel_rfl
theorem hagE:qvc Tryz.prog 31=some false:=by kernel_rfl
theorem jwb (w:World) (B:Nat) (v:Value) (acc:List q9x) (o:q9x) (vb:Nat) (hown:w.ownsRow B 30 13 v acc.length (q2h acc)) (hv:w.heap[vb]? = some (rlO o)) (hn:acc.length<=1000000) (hBw:B<=w.heap.size) (ty:TypeId) :
  ∃ v' w',(Builtin.append_ #[45,45] ty #[v,.slice (some ⟨vb,0,none⟩) 1 1]).run Tryz.prog w = .ok v' w'/\w'.ownsRow B 30 13 v' (acc ++ [o]).length (q2h (acc ++ [o]))/\w.grownBy w' v.ownBlock/\(∀b,v'.ownBlock=some b->v.ownBlock=some b\/w.heap.size<=b):=by
 obtain ⟨i0,hi0,hz,hby,z,hzz,hzs⟩:=jwa
 obtain ⟨v',w',hr,h2,h3,_,h5⟩:=qg5 (P:=Tryz.prog) w B 45 ty 30 i0 z 13 136 Tryz.underlying45 hi0 hzz hz hby hzs (by omega) v acc.length (q2h acc) hown (.slice (some ⟨vb,0,none⟩) 1 1) 1 (rls o).toList
  (Or.inl ⟨⟨vb,0,none⟩,1,rfl,fun j u hu=>by rw [Addr.add_lit,cell_of_row w vb _ _ _ _ hv];simpa using hu⟩) rfl (by intro u hu;simp [rls] at hu;rcases hu with rfl|rfl|rfl|rfl|rfl|rfl|rfl|rfl|rfl|rfl|rfl|rfl|rfl<;>rfl) (by unfold maxLen;omega) (by omega) hBw
 refine ⟨v',w',hr,?_,h3,h5⟩
 rw [jit,List.length_append]
 have e:q2h [o]=(rls o).toList:=by simp [q2h]
 rw [e]
 exact h2
theorem jy8 {w0:World} {ms:List qyr} {tg:List j7q} {lv:j4s} {D:List Int} {out:List q9x×Int} {b2 b3 b4:Nat} {Pc:Nat->Nat->Prop} {q:List q9x×List Int} {W:World} (h:DR w0 ms tg lv D out b2 b3 b4 Pc q W) (hne:b2≠b3) (h2:w0.heap.size<=b2) (h3:w0.heap.size<=b3) (hd:out.1 = []) :
  KeepsOthers W ((W.setCell ⟨b2,0,none⟩ (.slice none 0 0)).setCell ⟨b3,0,none⟩ (.int .i64 out.2))/\DQ w0 out b2 b3 () ((W.setCell ⟨b2,0,none⟩ (.slice none 0 0)).setCell ⟨b3,0,none⟩ (.int .i64 out.2)):=by
 have e1:=setCell_eq_setRow W b2 0 _ _ _ (.slice none 0 0) h.res
 have hr2:=setRow_heap W b2 _ (#[Value.slice none 0 0].setIfInBounds 0 (.slice none 0 0)) _ _ h.res
 have he2:=(setRow_other W b2 b3 (#[Value.slice none 0 0].setIfInBounds 0 (.slice none 0 0)) (Ne.symm hne)).trans h.err
 have e2:=setCell_eq_setRow (W.setRow b2 (#[Value.slice none 0 0].setIfInBounds 0 (.slice none 0 0))) b3 0 _ _ _ (.int .i64 out.2) he2
 have hr3:=setRow_heap _ b3 _ (#[Value.int .i64 0].setIfInBounds 0 (.int .i64 out.2)) _ _ he2
 rw [e1,e2]
 refine ⟨(qhl h.res).trans (qhl he2),?_,hr3,hd,below_setRow (below_setRow h.below h2 _) h3 _⟩
 rw [setRow_other _ b3 b2 _ hne];exact hr2
theorem jx0 {w:World} {ms:List qyr} {tg:List j7q} {lv:j4s} {D:List Int} {out:List q9x×Int} {b2 b3 b4:Nat} {Pc:Nat->Nat->Prop} {acc:List q9x} {r:List Int} {a0:Int} {o:q9x} {WA W2:World} {v v':Value} (hI:Inv w) (hJA:DR w ms tg lv D out b2 b3 b4 Pc (acc,a0::r) WA) (n23:b2≠b4) (n34:b3≠b4) (h4:w.heap.size<=b4)
  (hk4:WA.heap[b4]? = some (.cells #[v] 45 (0,0))) (hrow:WA.ownsRow w.heap.size 30 13 v acc.length (q2h acc)) (hv3:v.ownBlock≠some b2) (hv4:v.ownBlock≠some b3) (hv5:v.ownBlock≠some b4)
  (ho2:W2.ownsRow w.heap.size 30 13 v' (acc ++ [o]).length (q2h (acc ++ [o]))) (hg2:WA.grownBy W2 v.ownBlock) (hblk : ∀b,v'.ownBlock=some b->v.ownBlock=some b\/WA.heap.size<=b) (hvs : ∃ a n c,v' = .slice a n c)
  (hvP : ∀b o,Pc b o->v.ownBlock≠some b) (hdec:jqv ms tg lv r (acc ++ [o])=some out) :
  KeepsOthers WA (W2.setCell ⟨b4,0,none⟩ v')/\DR w ms tg lv D out b2 b3 b4 Pc (acc ++ [o],r) (W2.setCell ⟨b4,0,none⟩ v')/\∀b o,Pc b o->(W2.setCell ⟨b4,0,none⟩ v').cell? ⟨b,o,none⟩=WA.cell? ⟨b,o,none⟩:=by
 have hk42:=(hg2.block _ (q0q hk4) (fun e=>hv5 e.symm)).trans hk4
 have e4:=setCell_eq_setRow W2 b4 0 _ _ _ v' hk42
 have hr4:=setRow_heap W2 b4 _ (#[v].setIfInBounds 0 v') _ _ hk42
 have hb2:Below w.heap.size w W2:=hJA.below.grown hg2 hJA.below.size (fun k hk=>(hrow.lt k hk).1)
 have hb3:=below_setRow hb2 h4 (#[v].setIfInBounds 0 v')
 have hl2:=q0q hJA.res
 have hl3:=q0q hJA.err
 have hl4:=q0q hk4
 have r2:=(hg2.block _ hl2 (fun e=>hv3 e.symm)).trans hJA.res
 have r3:=(hg2.block _ hl3 (fun e=>hv4 e.symm)).trans hJA.err
 have nb : ∀b,b<WA.heap.size->v.ownBlock≠some b->v'.ownBlock≠some b:=fun b hb hn e=>by
  rcases hblk b e with h|h
  ·exact hn h
  ·omega
 rw [e4]
 refine ⟨⟨by simpa using hg2.size,fun k ob hk hc=>?_⟩,⟨hI.below hb3,fun b o hp=>by have:=hJA.lt b o hp;have:=hg2.size;simp;omega,hJA.pro,(setRow_other W2 b4 b2 _ n23).trans r2,(setRow_other W2 b4 b3 _ n34).trans r3,⟨v',hr4,?_,nb _ hl2 hv3,nb _ hl3 hv4,nb _ hl4 hv5,hvs,fun b o hp=>nb b (hJA.lt b o hp) (hvP b o hp)⟩,hb3,hdec,?_⟩,fun b o hp=>?_⟩
 ·have hne4:k≠b4:=fun e=>by subst e;rw [hk4] at hk;obtain rfl:=Option.some.inj hk;cases hc
  rw [setRow_other W2 b4 k _ hne4,hg2.block k (q0q hk) (fun e=>?_)]
  ·exact hk
  ·rcases hrow.2 with ⟨h5,_⟩|⟨g,cap,cur,h5,_,hg5,_⟩
   ·rw [h5] at e;cases e
   ·rw [h5] at e
    obtain rfl:k=g:=by simpa [Value.ownBlock] using e
    rw [hg5] at hk;obtain rfl:=Option.some.inj hk;cases hc
 ·refine ⟨ho2.1,?_⟩
  rcases ho2.2 with h5|⟨g,cap,cur,h5,h6,h7,h8⟩
  ·exact .inl h5
  ·have hgn:g≠b4:=fun e=>nb _ hl4 hv5 (by rw [h5,e];rfl)
   exact .inr ⟨g,cap,cur,h5,h6,(setRow_other W2 b4 g _ hgn).trans h7,h8⟩
 ·have:=hJA.len
  simp only [List.length_append,List.length_cons,List.length_nil] at this ⊢
  omega
 ·refine (World.cell?_of_block (setRow_other W2 b4 b _ (hJA.pro b o hp).2.2)).trans (World.cell?_of_block (hg2.block b (hJA.lt b o hp) (fun e=>hvP b o hp e.symm)))
theorem jwc {w:World} {ms:List qyr} {tg:List j7q} {lv:j4s} {D:List Int} {out:List q9x×Int} {b2 b3 b4:Nat} {Pc:Nat->Nat->Prop} {acc:List q9x} {W:World} {v:Value} (hJ:DR w ms tg lv D out b2 b3 b4 Pc (acc,[]) W) (n23:b2≠b3) (h2:w.heap.size<=b2) (h3:w.heap.size<=b3) (hrow:W.ownsRow w.heap.size 30 13 v acc.length (q2h acc)) (hv2:v.ownBlock≠some b2) (hv3:v.ownBlock≠some b3) :
  KeepsOthers W ((W.setCell ⟨b2,0,none⟩ v).setCell ⟨b3,0,none⟩ (.int .i64 0))/\Below w.heap.size w ((W.setCell ⟨b2,0,none⟩ v).setCell ⟨b3,0,none⟩ (.int .i64 0))/\((W.setCell ⟨b2,0,none⟩ v).setCell ⟨b3,0,none⟩ (.int .i64 0)).heap[b2]? = some (.cells #[v] 45 (0,0)) /\
   ((W.setCell ⟨b2,0,none⟩ v).setCell ⟨b3,0,none⟩ (.int .i64 0)).heap[b3]? = some (.cells #[.int .i64 0] 31 (0,0))/\((W.setCell ⟨b2,0,none⟩ v).setCell ⟨b3,0,none⟩ (.int .i64 0)).ownsRow w.heap.size 30 13 v acc.length (q2h acc):=by
 have e1:=setCell_eq_setRow W b2 0 _ _ _ v hJ.res
 have hr2:=setRow_heap W b2 _ (#[Value.slice none 0 0].setIfInBounds 0 v) _ _ hJ.res
 have he2:=(setRow_other W b2 b3 (#[Value.slice none 0 0].setIfInBounds 0 v) (Ne.symm n23)).trans hJ.err
 have e2:=setCell_eq_setRow (W.setRow b2 (#[Value.slice none 0 0].setIfInBounds 0 v)) b3 0 _ _ _ (.int .i64 0) he2
 have hr3:=setRow_heap _ b3 _ (#[Value.int .i64 0].setIfInBounds 0 (.int .i64 0)) _ _ he2
 rw [e1,e2]
 refine ⟨(qhl hJ.res).trans (qhl he2),below_setRow (below_setRow hJ.below h2 _) h3 _,(setRow_other _ b3 b2 _ n23).trans hr2,hr3,hrow.1,?_⟩
 rcases hrow.2 with h5|⟨g,cap,cur,h5,h6,h7,h8⟩
 ·exact .inl h5
 ·have g2:g≠b2:=fun e=>hv2 (by rw [h5,e];rfl)
  have g3:g≠b3:=fun e=>hv3 (by rw [h5,e];rfl)
  exact .inr ⟨g,cap,cur,h5,h6,(setRow_other _ b3 g _ g3).trans ((setRow_other W b2 g _ g2).trans h7),h8⟩
end YtggoebaobojmjaaGreatDoor.AM
end Go.Proofs
namespace Go.Proofs
open Go.RowKit Go.Shelf Go.Lib
attribute [local go_sem] Oper.semAt_some
set_option linter.unusedVariables false
set_option linter.unusedSimpArgs false
namespace YtggoebaobojmjaaGreatDoor.AM
def lvs (lv:j4s):Array Value:=#[.int .i64 lv.1,.int .i64 lv.2.1,.int .i64 lv.2.2.1,.int .i64 lv.2.2.2.1,.int .i64 lv.2.2.2.2.1,.int .i64 lv.2.2.2.2.2.1,.int .i64 lv.2.2.2.2.2.2.1,.int .i64 lv.2.2.2.2.2.2.2.1,.int .i64 lv.2.2.2.2.2.2.2.2.1,.int .i64 lv.2.2.2.2.2.2.2.2.2.1,.int .i64 lv.2.2.2.2.2.2.2.2.2.2.1,.int .i64 lv.2.2.2.2.2.2.2.2.2.2.2]
set_option maxRecDepth 100000 in
theorem qvy (w:World) (aM aT aD:Option Addr) (nM cM nT cT nD cD:Nat) (lv:j4s):Calls Tryz.prog 45 #[.slice aM nM cM,.slice aT nT cT,.slice aD nD cD,.agg (lvs lv)] w fun e w' =>
  e = .returned (.func (.func 82) #[] #[.pointer (some ⟨w.heap.size+1+1,0,none⟩),.pointer (some ⟨w.heap.size,0,none⟩),.pointer (some ⟨w.heap.size+1,0,none⟩),.pointer (some ⟨w.heap.size+1+1+1,0,none⟩)]) /\
   w'=(((w.alloc (.cells #[.slice aM nM cM] 38)).alloc (.cells #[.slice aT nT cT] 22)).alloc (.cells #[.slice aD nD cD] 39)).alloc (.cells (lvs lv) 87):=by
 unfold lvs
 go_enter Tryz.func45,Tryz.ntmps45
 go_wp2
 go_ret
 exact ⟨rfl,rfl⟩
theorem qy6 {Pc:Nat->Nat->Prop} {w:World} : ∀{l:List Int} {cells:List Value},q0i (DatRep Pc w) cells (l.map (q03 (.int .i64))).flatten->cells=q5a l
 | [],[],_=>rfl
 | [],_::_,h=>h.elim
 | x::l,[],h=>h.elim
 | x::l,c::cells,h=>by
  obtain ⟨h1,h2⟩:=h
  rw [q8w h1,qy6 h2];rfl
theorem joy {Pc:Nat->Nat->Prop} (ms:List qyr) (vM:Value) (w:World) (hI:Inv w) (hlt : ∀b o,Pc b o->b<w.heap.size) (h:DatRep Pc w vM (.lst 3 (ms.map (q03 jub)))) {o:(Unit×Int)×Unit×(List Int×Unit)} (ho:qc3 1000001 ms=some o) :
  Calls Tryz.prog 37 #[vM] w fun e w'=>∃ (v:Value) (Pc':Nat->Nat->Prop),e = .returned (.tuple #[v,.int .i64 o.1.2])/\Below w.heap.size w w'/\(∀b o,Pc b o->Pc' b o)/\(∀b o,Pc' b o->Pc b o\/w.heap.size<=b)/\(∀b o,Pc' b o->b<w'.heap.size) /\
   w'.ownsRow w.heap.size 3 1 v o.2.2.1.length (q5a o.2.2.1)/\(∀b,v.ownBlock=some b->∀o,¬ Pc' b o)/\∃ a n c,v = .slice a n c:=by
 have hh:=(jak 1000001 Inv q1k).2 (ms,((),())) o ho
 have hp:=jus (n:=0) (G:=Inv) (hG:=q1k.st) (hg:=hI) hlt ⟨[],[],[]⟩ rfl rfl
 refine (hh (jwd 0 Pc Inv q1k.st w hI) rfl (q2i Pc) w #[vM] hp ⟨h,trivial⟩).mono ?_
 rintro e w' ⟨v,e',rfl,hp',hd⟩
 obtain ⟨us,rfl,hd⟩:=hd
 obtain ⟨us⟩:=us
 match us,hd with
 | [a,b],⟨h1,h2,_⟩ =>
  obtain rfl:b = .int .i64 o.1.2:=q07 (σ:=q2y) h2
  obtain ⟨_,rfl,hsl⟩:=h1
  obtain ⟨_,cells,hx,hcs⟩:=hp'.rows 26 ⟨0,3,1,true,o.2.2.1.map (q03 (.int .i64))⟩ rfl
  have hc:=qy6 hcs.1
  subst hc
  refine ⟨_,e'.Pc,rfl,hp'.below,hp'.pc0,hp'.pcNew,hp'.pcLt,?_,fun b hb o' hpo=>?_,hsl⟩
  ·have:=(q5b (by show (3:Nat)<_;decide)).1 hx
   rw [List.length_map] at this
   exact this
  ·have:=hp'.rowPc 26 ⟨0,3,1,true,o.2.2.1.map (q03 (.int .i64))⟩ b rfl hb o' hpo
   cases this.1
theorem jy3 {Pc:Nat->Nat->Prop} {w:World} {u v:Value} {A B:List Int} (hlt : ∀b o,Pc b o->b<w.heap.size) (hu:DatRep Pc w u (.lst 1 (A.map (q03 (.int .i64))))) (hv:DatRep Pc w v (.lst 1 (B.map (q03 (.int .i64))))) :
  DatRep (fun b o=>Pc b o\/(b=w.heap.size/\o<2)) (w.alloc (.cells #[u,v] 39)) (.slice (some ⟨w.heap.size,0,none⟩) 2 2) (.lst 1 ([A,B].map (q03 LI))):=by
 have hb:Below w.heap.size w (w.alloc (.cells #[u,v] 39)):=(Below.refl _ _).alloc (Nat.le_refl _) _
 have hn:=World.alloc_heap_new w (.cells #[u,v] 39)
 have m : ∀{x:Value} {d:Dat},DatRep Pc w x d->DatRep (fun b o=>Pc b o\/(b=w.heap.size/\o<2)) (w.alloc (.cells #[u,v] 39)) x d:=fun h=>h.mono (fun _ _ h=>.inl h) fun b o hp=>hb.cell (p:=⟨b,o,none⟩) (hlt b o hp)
 have c1 : ∀{x:Value} {l:List Int},DatRep Pc w x (.lst 1 (l.map (q03 (.int .i64))))->x.oneCell'=true:=fun {x l} h=>by
  obtain ⟨a,c,b,o,rfl,_⟩:=q8j h
  rfl
 refine DatRep.lst (some ⟨w.heap.size,0,none⟩) 2 2 1 _ w.heap.size 0 (fun k _=>if k=0 then u else v) rfl (Nat.le_refl _) (by unfold maxLen;omega) (fun x hx=>?_) (fun _=>rfl) (fun k j hk hj=>?_) (fun k j hk hj=>?_)
 ·simp only [List.map_cons,List.map_nil,List.mem_cons,List.not_mem_nil,or_false] at hx
  rcases hx with rfl|rfl<;>rfl
 ·have hk':k<2:=hk
  obtain rfl:j=0:=by omega
  refine ⟨.inr ⟨rfl,by omega⟩,?_,?_⟩
  ·rw [cell_of_row _ _ _ _ _ _ hn]
   match k,hk' with
   | 0,_=>rfl
   | 1,_=>rfl
  ·match k,hk' with
   | 0,_=>exact c1 hu
   | 1,_=>exact c1 hv
 ·have hk':k<2:=hk
  obtain rfl|rfl:k=0\/k=1:=by omega
  ·obtain rfl:j=0:=by have:j<1:=hj;omega
   exact m hu
  ·obtain rfl:j=0:=by have:j<1:=hj;omega
   exact m hv
set_option maxHeartbeats 1000000 in
set_option maxRecDepth 100000 in
theorem jtv (b:Nat) (w:World):Calls Tryz.prog 80 #[.slice none 0 0,.func (.func 43) #[] #[.pointer (some ⟨b,0,none⟩)]] w fun e w'=>e = .returned (.int .i64 (-1))/\Below w.heap.size w w':=by
 go_enter Tryz.func80,Tryz.ntmps80
 go_wp2_with fail
 go_loopw [8] (fun i wr=>i = .int .i64 0/\Below w.heap.size w wr) (fun _ _=>0)
 case atStart=>exact ⟨rfl,Below.refl _ _⟩
 case round =>
  obtain ⟨rfl,hbel⟩:=hrel
  go_wp2_with fail
  go_ret
  exact ⟨rfl,hbel⟩
set_option maxRecDepth 100000 in
theorem jrj (b:Nat) (w:World):Calls Tryz.prog 42 #[.slice none 0 0,.func (.func 43) #[] #[.pointer (some ⟨b,0,none⟩)]] w fun e w'=>e = .returned (.slice none 0 0)/\Below w.heap.size w w':=by
 have hX:=jtv b w
 go_enter Tryz.func42,Tryz.ntmps42
 go_wp2_with (go_at_call 80;refine hX.mono ?_)
 rintro e W1 ⟨rfl,hb1⟩
 clear hX
 go_wp2
 go_ret
 exact ⟨rfl,hb1⟩
theorem jyg {Pc:Nat->Nat->Prop} (w:World) (B b:Nat) (v:Value) (U O:List Int) (h:Holds Pc b U w) (hIB : ∀wr,Below B w wr->Inv wr) (hB:B<=w.heap.size) (hown:w.ownsRow B 3 1 v O.length (q5a O)) (hbk:v.ownBlock≠some b)
  (hpg : ∀g,v.ownBlock=some g->∀b' o,Pc b' o->b'≠g) (hO:O.length<=1000000) (hU:U.length<=1000000) :
  Calls Tryz.prog 42 #[v,.func (.func 43) #[] #[.pointer (some ⟨b,0,none⟩)]] w fun e w' =>
   ∃ v',e = .returned v'/\w'.ownsRow B 3 1 v' (q46 U O).length (q5a (q46 U O))/\Below B w w'/\(∀k,k<w.heap.size->v.ownBlock≠some k->w'.heap[k]? = w.heap[k]?)/\(∀k,v'.ownBlock=some k->v.ownBlock=some k)/\∃ a n c,v' = .slice a n c:=by
 rcases hown with ⟨h1,⟨h3,h4⟩|⟨g,cap,cur,h3,h4,h5,h6,h7,h8,h9⟩⟩
 ·obtain rfl:O = []:=List.eq_nil_of_length_eq_zero (by first|exact h4|(have:=h4;simp [q5a] at this;simp [this])|omega)
  subst h3
  refine (jrj b w).mono ?_
  rintro e w' ⟨rfl,hb⟩
  exact ⟨_,rfl,World.ownsRow_nil _ _ _ _,hb.mono hB,fun k hk _=>hb.block k hk,fun k hk=>(by cases hk),_,_,_,rfl⟩
 ·subst h3
  have hb':b≠g:=fun e=>hbk (by rw [e];rfl)
  refine (jjh w B b g cap cur U O h hIB hb' (hpg g rfl) h4 h5 h6 h7 h8 h9 hB hO hU).mono ?_
  rintro e w' ⟨v',rfl,k1,k2,k3,k4⟩
  refine ⟨v',rfl,k1,k2,fun k hk hne=>k3 k hk (fun e=>hne (by rw [e];rfl)),fun k hk=>by rw [k4 k hk];rfl,?_⟩
  rcases k1.2 with ⟨h5,_⟩|⟨g,cap,cur,h5,_⟩<;>exact ⟨_,_,_,h5⟩
theorem jsj {w:World} {B:Nat} {v:Value} {l:List Int} {Pc:Nat->Nat->Prop} (h:w.ownsRow B 3 1 v l.length (q5a l)) (hP : ∀b o,v.ownBlock=some b->o<l.length->Pc b o):DatRep Pc w v (.lst 1 (l.map (q03 (.int .i64)))):=by
 obtain ⟨h1,⟨h3,h4⟩|⟨g,cap,cur,h3,h4,h5,h6,h7,h8,h9⟩⟩:=h
 ·obtain rfl:l = []:=List.eq_nil_of_length_eq_zero (by first|exact h4|(have:=h4;simp [q5a] at this;simp [this])|omega)
  subst h3
  exact DatRep.lst none 0 0 1 _ 0 0 (fun _ _=>undef) rfl (Nat.le_refl _) (by unfold maxLen;omega) (fun x hx=>(by cases hx)) (fun hl=>(by cases hl)) (fun k j hk=>(by cases hk)) (fun k j hk=>(by cases hk))
 ·subst h3
  refine DatRep.lst (some ⟨g,0,none⟩) l.length cap 1 _ g 0 (fun k _=>.int .i64 (l.getD k 0)) (by rw [List.length_map]) h6 h7 (fun x hx=>?_) (fun _=>rfl) (fun k j hk hj=>?_) (fun k j hk hj=>?_)
  ·obtain ⟨y,_,rfl⟩:=List.mem_map.1 hx;rfl
  ·rw [List.length_map] at hk
   obtain rfl:j=0:=by omega
   refine ⟨hP g _ rfl (by omega),?_,rfl⟩
   rw [cell_of_row w g _ cur _ _ h5]
   have e:(cur.toList.take (l.length*1))[k]? = some (.int .i64 (l.getD k 0)):=by rw [h9];unfold q5a;rw [List.getElem?_map,List.getElem?_eq_getElem hk];simp [List.getD,List.getElem?_eq_getElem hk]
   rw [List.getElem?_take,if_pos (by omega)] at e
   simpa using e
  ·have hk':=hk
   rw [List.length_map] at hk'
   simp only [List.getElem_map] at hj ⊢
   obtain rfl:j=0:=by have:j<1:=hj;omega
   rw [List.getD_eq_getElem?_getD,List.getElem?_eq_getElem hk']
   exact DatRep.v _
end YtggoebaobojmjaaGreatDoor.AM
end Go.Proofs
