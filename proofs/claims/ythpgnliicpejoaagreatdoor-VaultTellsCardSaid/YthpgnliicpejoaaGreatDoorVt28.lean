
import Derived.Test.YthpgnliicpejoaaGreatDoorVt23
import Derived.Shelf.RegionOpenPlain
import Derived.Laws.CopyRow
import Derived.Laws.CopyOwn
import Derived.Laws.AppendOwn
import Derived.Laws.Externs
import Derived.Laws.NewBlocks
import Derived.Lib.Overlaps
import Derived.Lib.AppendZerosOnto
import Derived.Lib.JoinLaws
import Derived.Deep.RegionLaw
import Derived.Lib.Hide
namespace Go.Proofs
open Go.RowKit Go.Shelf Go.Lib
set_option linter.unusedVariables false
set_option linter.unusedSimpArgs false
namespace YthpgnliicpejoaaGreatDoor.AM
section
variable {P:Program}
theorem q4x (w:World) (dT sT ty elem:TypeId) (g o dLen dCap:Nat) (a:Addr) (sLen sCap:Nat) (cur:Array Value) (t:TypeId) (cs:List Value) (size n:Nat)
  (hu:P.underlying dT=some (.slice elem)) (hs:(P.info? elem).map (·.size)=some size)
  (hg:w.heap[g]? = some (.cells cur t (0,0))) (hn:Nat.min sLen dLen=n) (hl:cs.length=n*size)
  (hsrc : ∀j v,cs[j]? = some v->w.cell? (a.add j)=some v) (hfit:o+cs.length<=cur.size) (h1 : ∀v∈cs,v.oneCell'=true) :
  (Builtin.copy_ #[dT,sT] ty #[.slice (some ⟨g,o,none⟩) dLen dCap,.slice (some a) sLen sCap]).run P w =
   .ok (goInt n) (w.setRow g (cur.toList.take o++cs++cur.toList.drop (o+cs.length)).toArray):=by
 have hl':=run_firstCells_some (P:=P) w size n a sLen sCap cs hl hsrc
 have hst:=run_storeCells_at P g o t cs 0 cur w hg (by simpa using hfit) h1
 cases hq:P.info? elem with
 | none=>simp [hq] at hs
 | some i =>
  have hi:i.size=size:=by simpa [hq] using hs
  simp [Builtin.copy_,run_underlying hu,Builtin.lenOf,sizeOf,typeInfo,hq,hi,hn,hl',hst]
theorem qty (w:World) (t e ty:TypeId) (z:Value) (zs:List Value) (ht:P.underlying t=some (.slice e)) (hv : ∀w,(zeroValue e).run P w = .ok z w) (hz:(Builtin.zeroCells z.cells 1).toList=zs) (h1 : ∀v∈zs,v.oneCell'=true)
  (g o c:Nat) (cur:Array Value) (T:TypeId) (hg:w.heap[g]? = some (.cells cur T (0,0))) (hfit:o+zs.length<=cur.size) :
  (Builtin.clear_ #[t] ty #[.slice (some ⟨g,o,none⟩) 1 c]).run P w = .ok (.tuple #[]) (w.setRow g (cur.toList.take o++zs++cur.toList.drop (o+zs.length)).toArray):=by
 have hst:=run_storeCells_at P g o T zs 0 cur w hg (by simpa using hfit) h1
 simp only [Nat.add_zero] at hst
 simp [Builtin.clear_,run_underlying ht,hv,hz,hst]
theorem qig {ops:Array Oper} {o:Oper} {a:Act} {w:World} {K:Act->World->Prop} {Q:Exit->Act->World->Prop} {E:Prop}
  (hg:o.guard=none) (d x:Operand) (dT sT:TypeId) (hop:o.op=Op.call { callee:=Callee.builtin Builtin.append,args:=#[d,x],argTypes:=#[dT,sT] })
  (v u:Value) (hd:a.eval d=v) (hx:a.eval x=u) {v':Value} {w':World} (hr:(Builtin.append_ #[dT,sT] o.type #[v,u]).run P w = .ok v' w') (hK:K (a.put o.dst v') w') :
  if Region.wanted o (yielded ops a.tmps)=true then Oper.wp P o a w K Q else E:=by
 have hw:Region.wanted o (yielded ops a.tmps)=true:=by simp [Region.wanted,hg]
 rw [if_pos hw]
 unfold Oper.wp
 simp [execOp,hop,resolve,invoke,builtin,hd,hx,hr,Result.andThen]
 exact hK
theorem qbp {ops:Array Oper} {o:Oper} {a:Act} {w:World} {K:Act->World->Prop} {Q:Exit->Act->World->Prop} {E:Prop}
  (hg:o.guard=none) (d x:Operand) (dT sT:TypeId) (hop:o.op=Op.call { callee:=Callee.builtin Builtin.copy,args:=#[d,x],argTypes:=#[dT,sT] })
  (v u:Value) (hd:a.eval d=v) (hx:a.eval x=u) {v':Value} {w':World} (hr:(Builtin.copy_ #[dT,sT] o.type #[v,u]).run P w = .ok v' w') (hK:K (a.put o.dst v') w') :
  if Region.wanted o (yielded ops a.tmps)=true then Oper.wp P o a w K Q else E:=by
 have hw:Region.wanted o (yielded ops a.tmps)=true:=by simp [Region.wanted,hg]
 rw [if_pos hw]
 unfold Oper.wp
 simp [execOp,hop,resolve,invoke,builtin,hd,hx,hr,Result.andThen]
 exact hK
theorem q8n (w:World) {ops:Array Oper} {rest:List Oper} {o:Oper} {a:Act} {Q:Exit->Act->World->Prop} (hgd:o.guard=none) (d s:Operand) (t t':TypeId)
  (ho:o.op = .call { callee:=.builtin .copy,args:=#[d,s],argTypes:=#[t,t'] }) (v u:Value) (hd:a.eval d=v) (hs:a.eval s=u) {v':Value} {w':World}
  (hr:(Builtin.copy_ #[t,t'] o.type #[v,u]).run P w = .ok v' w') (h:wpList P ops Q rest (a.put o.dst v') w'):wpList P ops Q (o::rest) a w :=
 wpList_plain hgd fun _ hK=>by
  unfold Oper.wp execOp
  simp only [ho,resolve,invoke,builtin,Sem.run_bind,Sem.run_pure,Result.andThen_ok,List.map_toArray,List.map_cons,List.map_nil,hd,hs,hr]
  exact hK _ _ h
theorem q2q (w:World) {ops:Array Oper} {rest:List Oper} {o:Oper} {a:Act} {Q:Exit->Act->World->Prop} (hgd:o.guard=none) (d s:Operand) (t t':TypeId)
  (ho:o.op = .call { callee:=.builtin .append,args:=#[d,s],argTypes:=#[t,t'] }) (v u:Value) (hd:a.eval d=v) (hs:a.eval s=u) {v':Value} {w':World}
  (hr:(Builtin.append_ #[t,t'] o.type #[v,u]).run P w = .ok v' w') (h:wpList P ops Q rest (a.put o.dst v') w'):wpList P ops Q (o::rest) a w :=
 wpList_plain hgd fun _ hK=>by
  unfold Oper.wp execOp
  simp only [ho,resolve,invoke,builtin,Sem.run_bind,Sem.run_pure,Result.andThen_ok,List.map_toArray,List.map_cons,List.map_nil,hd,hs,hr]
  exact hK _ _ h
theorem qfr (w:World) {ops:Array Oper} {rest:List Oper} {o:Oper} {a:Act} {Q:Exit->Act->World->Prop} (hgd:o.guard=none) (d:Operand) (t:TypeId)
  (ho:o.op = .call { callee:=.builtin .clear,args:=#[d],argTypes:=#[t] }) (v:Value) (hd:a.eval d=v) {v':Value} {w':World}
  (hr:(Builtin.clear_ #[t] o.type #[v]).run P w = .ok v' w') (h:wpList P ops Q rest (a.put o.dst v') w'):wpList P ops Q (o::rest) a w :=
 wpList_plain hgd fun _ hK=>by
  unfold Oper.wp execOp
  simp only [ho,resolve,invoke,builtin,Sem.run_bind,Sem.run_pure,Result.andThen_ok,List.map_toArray,List.map_cons,List.map_nil,hd,hr]
  exact hK _ _ h
end
end YthpgnliicpejoaaGreatDoor.AM
end Go.Proofs
namespace Go.Proofs
open Go.RowKit Go.Shelf Go.Lib
attribute [local go_sem] Oper.semAt_some
set_option linter.unusedVariables false
set_option linter.unusedSimpArgs false
namespace YthpgnliicpejoaaGreatDoor.AM
theorem qer : ∃ i:TypeInfo,Tryz.prog.info? 71=some i/\i.size=2/\i.bytes=32/\∃ z,i.zero=some z/\z.cells.size=2/\z.cells.toList = [.string ⟨#[]⟩,.string ⟨#[]⟩]:=by
 have h:(match Tryz.prog.info? 71 with
  | some i=>decide (i.size=2/\i.bytes=32)&&(match i.zero with|some (.agg ⟨[.string ⟨⟨[]⟩⟩,.string ⟨⟨[]⟩⟩]⟩)=>true|_=>false)
  | none=>false)=true:=by kernel_rfl
 split at h
 ·rename_i i hi
  simp only [Bool.and_eq_true,decide_eq_true_eq] at h
  obtain ⟨⟨h1,h2⟩,h3⟩:=h
  split at h3
  ·rename_i hz
   exact ⟨i,hi,h1,h2,_,hz,rfl,rfl⟩
  ·cases h3
 ·cases h
set_option maxHeartbeats 4000000 in
set_option maxRecDepth 1000000 in
theorem qvt (w:World) (g cap n i:Nat) (cur:Array Value) (hg:w.heap[g]? = some (.cells cur 71 (0,0))) (hi:i<n) (hn:n<=cap) (hc:cap<=9223372036854775807) (hs:cur.size=cap*2) (h1 : ∀u∈cur.toList.take (n*2),u.oneCell'=true) :
  Calls Tryz.prog 106 #[.slice (some ⟨g,0,none⟩) n cap,.int .i64 i,.int .i64 ((i:Int)+1)] w fun e w' =>
   e = .returned (.slice (some ⟨g,0,none⟩) (n - 1) cap)/\∃ X:Array Value,w'=w.drew.setRow g X/\X.size=cap*2/\X.toList.take ((n - 1)*2)=cur.toList.take (i*2)++(cur.toList.take (n*2)).drop ((i+1)*2):=by
 obtain ⟨i0,hi0,hz,hby,z,hzz,hzs,hzl⟩:=qer
 have hzc:(Builtin.zeroCells z.cells 1).toList = [.string ⟨#[]⟩,.string ⟨#[]⟩]:=by
  have e:z.cells = #[.string ⟨#[]⟩,.string ⟨#[]⟩]:=by rw [<-Array.toList_inj];exact hzl
  rw [e];simp [Builtin.zeroCells,List.range_succ]
 have mixed:Tryz.prog.follows .mixedOrders=true:=by kernel_rfl
 have hic:i<=cap:=by omega
 have hjc:i+1<=cap:=by omega
 have hb1:(0:Int)<=(i:Int)+1:=by omega
 have hb2:(i:Int)+1<=(n:Int):=by omega
 obtain ⟨news,hnews⟩ : ∃ news,news=(cur.toList.take (n*2)).drop ((i+1)*2):=⟨_,rfl⟩
 have hlen:news.length=(n - (i+1))*2:=by rw [hnews,List.length_drop,List.length_take,Array.length_toList];omega
 have hgw:w.drew.heap[g]? = some (.cells cur 71 (0,0)):=hg
 obtain ⟨A,hA,hsrc⟩ : ∃ A:Addr,(if cap=i+1 then some (⟨g,0,none⟩:Addr) else some ⟨g,(i+1)*2,none⟩)=some A/\Hid (∀t u,news[t]? = some u->w.drew.cell? (A.add t)=some u):=by
  by_cases h:cap=i+1
  ·refine ⟨⟨g,0,none⟩,by simp [h],hid fun t u hu=>?_⟩
   have h0:news = []:=List.eq_nil_of_length_eq_zero (by rw [hlen];omega)
   rw [h0] at hu;cases hu
  ·refine ⟨⟨g,(i+1)*2,none⟩,by simp [h],hid fun t u hu=>?_⟩
   rw [hnews,List.getElem?_drop,List.getElem?_take] at hu
   split at hu
   case isFalse=>cases hu
   rw [Addr.add_lit,cell_of_row w.drew g _ cur _ _ hgw]
   simpa using hu
 have hne1 : ∀u∈news,u.oneCell'=true:=fun u hu=>h1 u (by rw [hnews] at hu;exact List.mem_of_mem_drop hu)
 obtain ⟨X1,hX1⟩ : ∃ X1,X1=(cur.toList.take (i*2)++news++cur.toList.drop (i*2+news.length)).toArray:=⟨_,rfl⟩
 have hX1s:X1.size=cap*2:=by rw [hX1];simp [hlen];omega
 have hap:=fun ty cc=>run_append_room (P:=Tryz.prog) w.drew 30 ty 71 i0 Tryz.underlying30 hi0 g i cap cur hgw A (n - (i+1)) cc news (by rw [hlen,hz]) hsrc.out hne1 (by omega) (by rw [hz,hlen];omega)
 obtain ⟨k,hk⟩ : ∃ k,k=i+(n - (i+1)):=⟨_,rfl⟩
 rw [hz,<-hX1,<-hk] at hap
 have hkn:k+1=n:=by omega
 have hk1:n - k=1:=by omega
 have hk2 : ¬ (cap=k):=by omega
 have hk3:(k:Int)<=(n:Int):=by omega
 have hk4:k<=n:=by omega
 have hX1g:(w.drew.setRow g X1).heap[g]? = some (.cells X1 71 (0,0)):=setRow_heap _ g cur X1 _ _ hgw
 obtain ⟨X,hX⟩ : ∃ X,X=(X1.toList.take (k*2) ++ [Value.string ⟨#[]⟩,Value.string ⟨#[]⟩]++X1.toList.drop (k*2+2)).toArray:=⟨_,rfl⟩
 have hcl : ∀ty cc,(Builtin.clear_ #[30] ty #[.slice (some ⟨g,k*2,none⟩) 1 cc]).run Tryz.prog (w.drew.setRow g X1) = .ok (.tuple #[]) (w.drew.setRow g X):=fun ty cc=>by
  have:=qty (P:=Tryz.prog) (w.drew.setRow g X1) 30 71 ty z [.string ⟨#[]⟩,.string ⟨#[]⟩] Tryz.underlying30 (fun w=>by simp [zeroValue,typeInfo,hi0,hzz]) hzc (by intro v hv;simp at hv;subst hv;rfl) g (k*2) cc X1 71 hX1g (by simp;omega)
  rw [this,setRow_setRow,hX];rfl
 have hXs:X.size=cap*2:=by rw [hX];simp;omega
 have hXt:X.toList.take ((n - 1)*2)=cur.toList.take (i*2)++(cur.toList.take (n*2)).drop ((i+1)*2):=by
  have e1:(n - 1)*2=k*2:=by omega
  have e2:(cur.toList.take (i*2)++news).length=k*2:=by rw [List.length_append,hlen,List.length_take,Array.length_toList];omega
  rw [e1,hX]
  show List.take (k*2) ((X1.toList.take (k*2)++_)++_)=_
  rw [List.append_assoc,List.take_append_of_le_length (by simp;omega),List.take_take,Nat.min_self,hX1]
  show List.take (k*2) ((cur.toList.take (i*2)++news)++_)=_
  rw [<-e2,List.take_left,hnews]
 refine Calls.mono (R:=fun e w'=>e = .returned (.slice (some ⟨g,0,none⟩) (n - 1) cap)/\w'=w.drew.setRow g X) ?_ (fun e w' hh=>⟨hh.1,X,hh.2,hXs,hXt⟩)
 have hn1:n - 1=k:=by omega
 rw [hn1]
 clear hX1 hnews hlen hne1 hgw hXs hXt hX hX1s hX1g hzc hkn hn1 h1 hk hsrc
 go_enter Tryz.func106,Tryz.ntmps106
 go_wp2_with fail
 go_region_law_o (refine qig rfl (.tmp 22) (.tmp 25) 30 30 rfl (.slice (some ⟨g,0,none⟩) i cap) (.slice (some A) (n - (i+1)) (cap - (i+1))) (by simp [Act.eval,Act.put]) (by simp [Act.eval,Act.put]) (hap _ _) ?_)
 go_wp2_with (at_builtin;refine qfr _ rfl _ 30 rfl _ rfl (hcl _ _) ?_)
 go_ret
 exact ⟨rfl,rfl⟩
end YthpgnliicpejoaaGreatDoor.AM
end Go.Proofs
namespace Go.Proofs
open Go.RowKit Go.Shelf Go.Lib
attribute [local go_sem] Oper.semAt_some
set_option linter.unusedVariables false
set_option linter.unusedSimpArgs false
namespace YthpgnliicpejoaaGreatDoor.AM
set_option maxHeartbeats 4000000 in
set_option maxRecDepth 1000000 in
theorem j9i (w:World) (B n vb:Nat) (v:Value) (xs:List Value) (x y:Value) (hown:w.ownsRow B 71 2 v n xs) (hv:w.heap[vb]? = some (.cells #[x,y] 71 (0,0)))
  (hn:n<=1000000) (hBw:B<=w.heap.size) (hx:x.oneCell'=true) (hy:y.oneCell'=true) :
  Calls Tryz.prog 107 #[v,.int .i64 n,.slice (some ⟨vb,0,none⟩) 1 1] w fun e w' =>
   ∃ v',e = .returned v'/\w'.ownsRow B 71 2 v' (n+1) (xs ++ [x,y])/\w.grownBy w' v.ownBlock/\(∀b,v'.ownBlock=some b->v.ownBlock=some b\/w.heap.size<=b):=by
 obtain ⟨i0,hi0,hz,hby,z,hzz,hzs,hzl⟩:=qer
 have hcell : ∀j u,([x,y]:List Value)[j]? = some u->w.cell? ((⟨vb,0,none⟩:Addr).add j)=some u:=fun j u hu=>by
  rw [Addr.add_lit,cell_of_row w vb _ _ _ _ hv];simpa using hu
 have h1 : ∀u∈([x,y]:List Value),u.oneCell'=true:=by intro u hu;simp at hu;rcases hu with rfl|rfl<;>assumption
 have ap : ∀ty,∃ v' w',(Builtin.append_ #[30,30] ty #[v,.slice (some ⟨vb,0,none⟩) 1 1]).run Tryz.prog w = .ok v' w'/\w'.ownsRow B 71 2 v' (n+1) (xs ++ [x,y])/\w.grownBy w' v.ownBlock/\(∀g o,v.ownBlock=some g->o<n*2->w'.cell? ⟨g,o,none⟩=w.cell? ⟨g,o,none⟩)/\(∀b,v'.ownBlock=some b->v.ownBlock=some b\/w.heap.size<=b):=fun ty =>
  q7y (P:=Tryz.prog) w B 30 ty 71 i0 z 2 32 Tryz.underlying30 hi0 hzz hz hby hzs (by omega) v n xs hown (.slice (some ⟨vb,0,none⟩) 1 1) 1 [x,y] (Or.inl ⟨⟨vb,0,none⟩,1,rfl,hcell⟩) rfl h1 (by unfold maxLen;omega) (by omega) hBw
 obtain ⟨v',w',hr,h2,h3,_,h5⟩:=ap 30
 rcases hown.2 with ⟨rfl,rfl⟩|⟨g,cap,cur,rfl,hbg,hg,hnc,hcm,hcs,htake⟩
 ·clear ap hown hcell
  go_enter Tryz.func107,Tryz.ntmps107
  go_wp2_with (at_builtin;refine q2q _ rfl _ _ 30 30 rfl _ _ rfl rfl hr ?_)
  go_ret
  exact ⟨_,rfl,h2,h3,h5⟩
 ·clear ap hown hcell htake
  have hcm':cap<=9223372036854775807:=by unfold maxLen at hcm;omega
  go_enter Tryz.func107,Tryz.ntmps107
  go_wp2_with (at_builtin;refine q2q _ rfl _ _ 30 30 rfl _ _ rfl rfl hr ?_)
  all_goals (go_ret;exact ⟨_,rfl,h2,h3,h5⟩)
end YthpgnliicpejoaaGreatDoor.AM
end Go.Proofs
namespace Go.Proofs
open Go.RowKit Go.Shelf Go.Lib
attribute [local go_sem] Oper.semAt_some
set_option linter.unusedVariables false
set_option linter.unusedSimpArgs false
namespace YthpgnliicpejoaaGreatDoor.AM
set_option maxHeartbeats 4000000 in
set_option maxRecDepth 1000000 in
theorem qzg (w:World) (g cap n i vb:Nat) (cur:Array Value) (x y:Value) (hg:w.heap[g]? = some (.cells cur 71 (0,0))) (hv:w.heap[vb]? = some (.cells #[x,y] 71 (0,0))) (hne:vb≠g)
  (hi:i<n) (hn:n+1<=cap) (hc:cap<=9223372036854775807) (hs:cur.size=cap*2) (h1 : ∀u∈cur.toList.take (n*2),u.oneCell'=true) (hx:x.oneCell'=true) (hy:y.oneCell'=true) :
  Calls Tryz.prog 107 #[.slice (some ⟨g,0,none⟩) n cap,.int .i64 i,.slice (some ⟨vb,0,none⟩) 1 1] w fun e w' =>
   e = .returned (.slice (some ⟨g,0,none⟩) (n+1) cap)/\∃ X:Array Value,w'=w.drew.setRow g X/\X.size=cap*2/\X.toList.take ((n+1)*2)=cur.toList.take (i*2)++([x,y]++(cur.toList.take (n*2)).drop (i*2)):=by
 obtain ⟨i0,hi0,hz,hby,z,hzz,hzs,hzl⟩:=qer
 have hsz:(Tryz.prog.info? 71).map (·.size)=some 2:=by rw [hi0];simp [hz]
 have mixed:Tryz.prog.follows .mixedOrders=true:=by kernel_rfl
 obtain ⟨cs,hcs⟩ : ∃ cs,cs=(cur.toList.take (n*2)).drop (i*2):=⟨_,rfl⟩
 have hlen:cs.length=(n - i)*2:=by rw [hcs,List.length_drop,List.length_take,Array.length_toList];omega
 have hgw:w.drew.heap[g]? = some (.cells cur 71 (0,0)):=hg
 have hsrc : ∀t u,cs[t]? = some u->w.drew.cell? ((⟨g,i*2,none⟩:Addr).add t)=some u:=fun t u hu=>by
  rw [hcs,List.getElem?_drop,List.getElem?_take] at hu
  split at hu
  case isFalse=>cases hu
  rw [Addr.add_lit,cell_of_row w.drew g _ cur _ _ hgw]
  simpa using hu
 have hc1 : ∀u∈cs,u.oneCell'=true:=fun u hu=>h1 u (by rw [hcs] at hu;exact List.mem_of_mem_drop hu)
 obtain ⟨X1,hX1⟩ : ∃ X1,X1=(cur.toList.take ((i+1)*2)++cs++cur.toList.drop ((i+1)*2+cs.length)).toArray:=⟨_,rfl⟩
 have hX1s:X1.size=cap*2:=by rw [hX1];simp [hlen];omega
 have hcp1 : ∀ty dc sc,(Builtin.copy_ #[30,30] ty #[.slice (some ⟨g,(i+1)*2,none⟩) (n - i) dc,.slice (some ⟨g,i*2,none⟩) (n+1 - i) sc]).run Tryz.prog w.drew = .ok (goInt ((n - i:Nat):Int)) (w.drew.setRow g X1):=fun ty dc sc=>by
  rw [hX1]
  exact q4x (P:=Tryz.prog) w.drew 30 30 ty 71 g ((i+1)*2) (n - i) dc ⟨g,i*2,none⟩ (n+1 - i) sc cur 71 cs 2 (n - i) Tryz.underlying30 hsz hgw (by simp only [Nat.min_def];split<;>omega) hlen hsrc (by omega) hc1
 have hX1g:(w.drew.setRow g X1).heap[g]? = some (.cells X1 71 (0,0)):=setRow_heap _ g cur X1 _ _ hgw
 have hvg:(w.drew.setRow g X1).heap[vb]? = some (.cells #[x,y] 71 (0,0)):=(setRow_other w.drew g vb X1 hne).trans hv
 obtain ⟨X,hX⟩ : ∃ X,X=(X1.toList.take (i*2) ++ [x,y]++X1.toList.drop (i*2+2)).toArray:=⟨_,rfl⟩
 have hcp2 : ∀ty dc,(Builtin.copy_ #[30,30] ty #[.slice (some ⟨g,i*2,none⟩) (n+1 - i) dc,.slice (some ⟨vb,0,none⟩) 1 1]).run Tryz.prog (w.drew.setRow g X1) = .ok (goInt ((1:Nat):Int)) (w.drew.setRow g X):=fun ty dc=>by
  have:=q4x (P:=Tryz.prog) (w.drew.setRow g X1) 30 30 ty 71 g (i*2) (n+1 - i) dc ⟨vb,0,none⟩ 1 1 X1 71 [x,y] 2 1 Tryz.underlying30 hsz hX1g (by simp only [Nat.min_def];split<;>omega) rfl
   (fun j u hu=>by rw [Addr.add_lit,cell_of_row _ vb _ _ _ _ hvg];simpa using hu) (by simp;omega) (by intro u hu;simp at hu;rcases hu with rfl|rfl<;>assumption)
  rw [this,setRow_setRow,hX];rfl
 have hXs:X.size=cap*2:=by rw [hX];simp;omega
 have hXt:X.toList.take ((n+1)*2)=cur.toList.take (i*2)++([x,y]++cs):=by
  have e0:X1.toList=cur.toList.take ((i+1)*2)++(cs++cur.toList.drop ((i+1)*2+cs.length)):=by rw [hX1];simp
  have e1:X1.toList.take (i*2)=cur.toList.take (i*2):=by
   rw [e0,List.take_append_of_le_length (by simp;omega),List.take_take]
   congr 1;omega
  have e2:X1.toList.drop (i*2+2)=cs++cur.toList.drop ((i+1)*2+cs.length):=by
   have e3:(cur.toList.take ((i+1)*2)).length=i*2+2:=by simp;omega
   rw [e0,<-e3,List.drop_left]
  have e4:(cur.toList.take (i*2)++([x,y]++cs)).length=(n+1)*2:=by simp [hlen];omega
  have e5:X.toList=(cur.toList.take (i*2)++([x,y]++cs))++cur.toList.drop ((i+1)*2+cs.length):=by rw [hX];simp only [e1,e2,List.append_assoc]
  rw [e5,<-e4,List.take_left]
 rw [<-hcs]
 refine Calls.mono (R:=fun e w'=>e = .returned (.slice (some ⟨g,0,none⟩) (n+1) cap)/\w'=w.drew.setRow g X) ?_ (fun e w' hh=>⟨hh.1,X,hh.2,hXs,hXt⟩)
 have hsa:w.shape? vb=some (71,2):=by simp [World.shape?,hv]
 have hsb:w.shape? g=some (71,cap*2):=by simp [World.shape?,hg,hs]
 have hfa:w.frozen? ⟨vb,0,none⟩=false:=by simp [World.frozen?,hv]
 have hfe:w.frozen? ⟨vb,2,none⟩=false:=by simp [World.frozen?,hv]
 have hov : ∀lb cb,(callFunc 133 #[.slice (some ⟨vb,0,none⟩) 1 1,.slice (some ⟨g,(i+1)*2,none⟩) lb cb]).run Tryz.prog w = .ok (.value (.bool false)) w:=fun lb cb=>by
  rw [run_callFunc_extern Tryz.func133 (by kernel_rfl) (by kernel_rfl) (by kernel_rfl) (e:=Extern.SlicesOverlaps.overlaps #[30,30] #[4]) (by kernel_rfl),
   Lib.run_overlaps_apart w 30 4 71 Tryz.underlying30 2 (fun w=>by simp [Go.sizeOf,typeInfo,hi0,hz]) ⟨vb,0,none⟩ ⟨g,(i+1)*2,none⟩ 1 1 lb cb hne _ _ _ _ hsa hsb (by omega) hfa hfe]
  rfl
 have hw1:IntKind.i64.wrap ((i:Int)+1)=(i:Int)+1:=by rw [IntKind.wrap_i64];omega
 have hb1:(0:Int)<=(i:Int)+1:=by omega
 have hin:i<=n:=by omega
 have hz2 : ¬ ((i:Int)=(n:Int)):=by omega
 have hb2 : ¬ (cap=i+1):=by omega
 have hb3:(i:Int)<=(n:Int)+1:=by omega
 have hb4 : ¬ (cap=i):=by omega
 have hb5:i+1<=n+1:=by omega
 clear hX1 hlen hcs hc1 hgw hXs hXt hX hX1s hX1g hsrc hvg h1 hsa hsb hfa hfe hg hv hs
 go_enter Tryz.func107,Tryz.ntmps107
 go_wp2_with (simp only [hov])
 go_region_law_o (refine qbp rfl (.tmp 73) (.tmp 76) 30 30 rfl (.slice (some ⟨g,(i+1)*2,none⟩) (n - i) (cap - (i+1))) (.slice (some ⟨g,i*2,none⟩) (n+1 - i) (cap - i)) (by simp [Act.eval,Act.put]) (by simp [Act.eval,Act.put]) (hcp1 _ _ _) ?_)
 go_wp2_with (at_builtin;refine q8n _ rfl _ _ 30 30 rfl _ _ rfl rfl (hcp2 _ _) ?_)
 go_ret
 exact ⟨rfl,rfl⟩
end YthpgnliicpejoaaGreatDoor.AM
end Go.Proofs
namespace Go.Proofs
open Go.RowKit Go.Shelf Go.Lib
attribute [local go_sem] Oper.semAt_some
set_option linter.unusedVariables false
set_option linter.unusedSimpArgs false
namespace YthpgnliicpejoaaGreatDoor.AM
set_option maxHeartbeats 4000000 in
set_option maxRecDepth 1000000 in
theorem j3e (w:World) (g n i vb:Nat) (cur:Array Value) (x y:Value) (hg:w.heap[g]? = some (.cells cur 71 (0,0))) (hv:w.heap[vb]? = some (.cells #[x,y] 71 (0,0)))
  (hi:i<n) (hn:n<=1000000) (hs:cur.size=n*2) (h1 : ∀u∈cur.toList,u.oneCell'=true) (hx:x.oneCell'=true) (hy:y.oneCell'=true) :
  Calls Tryz.prog 107 #[.slice (some ⟨g,0,none⟩) n n,.int .i64 i,.slice (some ⟨vb,0,none⟩) 1 1] w fun e w' =>
   ∃ G,n+1<=G/\G<=maxLen/\e = .returned (.slice (some ⟨w.heap.size,0,none⟩) (n+1) G)/\∃ X:Array Value,w'.heap[w.heap.size]? = some (.cells X 71 (0,0))/\w.grownBy w' none/\X.size=G*2/\X.toList.take ((n+1)*2)=cur.toList.take (i*2)++([x,y]++cur.toList.drop (i*2)):=by
 obtain ⟨i0,hi0,hz,hby,z,hzz,hzs,hzl⟩:=qer
 have hsz:(Tryz.prog.info? 71).map (·.size)=some 2:=by rw [hi0];simp [hz]
 have mixed:Tryz.prog.follows .mixedOrders=true:=by kernel_rfl
 have hgl:g<w.heap.size:=q1l hg
 have hvl:vb<w.heap.size:=q1l hv
 obtain ⟨cs,hcs⟩ : ∃ cs,cs=cur.toList.drop (i*2):=⟨_,rfl⟩
 have hlen:cs.length=(n - i)*2:=by rw [hcs,List.length_drop,Array.length_toList];omega
 obtain ⟨G,hG⟩ : ∃ G,G=grownCap w (n+1) n 71:=⟨_,rfl⟩
 have hGn:n+1<=G:=by rw [hG];exact grownCap_ge w _ _ _
 have hGm:G<=maxLen:=by rw [hG];exact grownCap_le_maxLen w _ _ _ (by unfold maxLen;omega)
 have hG63:G<=9223372036854775807:=by unfold maxLen at hGm;omega
 have hold:(Builtin.firstCells i0.size i (.slice (some ⟨g,0,none⟩) i n)).run Tryz.prog w.drew = .ok (cur.toList.take (i*2)).toArray w.drew:=by
  rw [hz]
  exact run_firstCells_some w.drew 2 i ⟨g,0,none⟩ i n _ (by rw [List.length_take,Array.length_toList];omega) (fun j v hj=>by
   rw [Addr.add_lit,cell_of_row w.drew g _ cur _ _ hg]
   rw [List.getElem?_take] at hj
   split at hj
   ·simpa using hj
   ·cases hj)
 have hik:i+(n+1 - i)=n+1:=by omega
 have hkk:(n:Int)+1 - (i:Int)=((n+1 - i:Nat):Int):=by omega
 obtain ⟨ROW,hROW⟩ : ∃ ROW:Array Value,ROW=(cur.toList.take (i*2)).toArray++Builtin.zeroCells z.cells (n+1 - i)++Builtin.zeroCells z.cells (G - (n+1)):=⟨_,rfl⟩
 have hrz : ∀ty,(Builtin.append_ #[30,3] ty #[.slice (some ⟨g,0,none⟩) i n,.int .i64 ((n:Int)+1 - (i:Int))]).run Tryz.prog w =
   .ok (.slice (some ⟨w.heap.size,0,none⟩) (n+1) G) (w.drew.alloc (.cells ROW 71)):=fun ty=>by
  have h:=Lib.run_append_grow_zeros (P:=Tryz.prog) w 30 3 ty 71 i0 z .i64 .i64 Tryz.underlying30 Tryz.underlying3 hi0 hzz (some ⟨g,0,none⟩) i n (cur.toList.take (i*2)) hold (n+1 - i) (by omega) (by omega) (by omega) (by omega) (by rw [hby];omega)
   (by rw [hby,hik];exact growslice_fits (by omega) (by omega))
  rw [hik,<-hG,<-hROW] at h
  rw [hkk];exact h
 have hRs:ROW.size=G*2:=by
  rw [hROW]
  simp only [Array.size_append,List.size_toArray,size_zeroCells,hzs,List.length_take,Array.length_toList]
  omega
 have hRt:ROW.toList.take (i*2)=cur.toList.take (i*2):=by
  have e3:(cur.toList.take (i*2)).length=i*2:=by simp;omega
  rw [hROW]
  simp only [Array.toList_append,List.append_assoc]
  rw [<-e3]
  simp
 clear hROW hold hG hkk
 obtain ⟨W0,hW0⟩ : ∃ W0,W0=w.drew.alloc (.cells ROW 71):=⟨_,rfl⟩
 have hN:W0.heap[w.heap.size]? = some (.cells ROW 71 (0,0)):=by rw [hW0];exact heap_alloc_new w.drew _
 have hOg:W0.heap[g]? = some (.cells cur 71 (0,0)):=by rw [hW0];exact (heap_alloc_old (w:=w.drew) (o:=_) (h:=hgl)).trans hg
 have hOv:W0.heap[vb]? = some (.cells #[x,y] 71 (0,0)):=by rw [hW0];exact (heap_alloc_old (w:=w.drew) (o:=_) (h:=hvl)).trans hv
 have hgr:w.grownBy W0 none:=by rw [hW0];exact ⟨rfl,rfl,rfl,by simp,fun k hk _=>heap_alloc_old (w:=w.drew) (o:=_) (h:=hk)⟩
 have hNg:g≠w.heap.size:=by omega
 have hNv:vb≠w.heap.size:=by omega
 rw [<-hW0] at hrz
 obtain ⟨X1,hX1⟩ : ∃ X1,X1=(ROW.toList.take (i*2) ++ [x,y]++ROW.toList.drop (i*2+2)).toArray:=⟨_,rfl⟩
 have hX1s:X1.size=G*2:=by rw [hX1];simp;omega
 have hcpA : ∀ty dc,(Builtin.copy_ #[30,30] ty #[.slice (some ⟨w.heap.size,i*2,none⟩) (n+1 - i) dc,.slice (some ⟨vb,0,none⟩) 1 1]).run Tryz.prog W0 = .ok (goInt ((1:Nat):Int)) (W0.setRow w.heap.size X1):=fun ty dc=>by
  rw [hX1]
  exact q4x (P:=Tryz.prog) W0 30 30 ty 71 w.heap.size (i*2) (n+1 - i) dc ⟨vb,0,none⟩ 1 1 ROW 71 [x,y] 2 1 Tryz.underlying30 hsz hN (by simp only [Nat.min_def];split<;>omega) rfl
   (fun j u hu=>by rw [Addr.add_lit,cell_of_row _ vb _ _ _ _ hOv];simpa using hu) (by simp;omega) (by intro u hu;simp at hu;rcases hu with rfl|rfl<;>assumption)
 obtain ⟨W1,hW1⟩ : ∃ W1,W1=W0.setRow w.heap.size X1:=⟨_,rfl⟩
 rw [<-hW1] at hcpA
 have hN1:W1.drew.heap[w.heap.size]? = some (.cells X1 71 (0,0)):=by rw [hW1];exact setRow_heap W0 _ ROW X1 _ _ hN
 have hOg1:W1.drew.heap[g]? = some (.cells cur 71 (0,0)):=by rw [hW1];exact (setRow_other W0 _ g X1 hNg).trans hOg
 obtain ⟨X,hX⟩ : ∃ X,X=(X1.toList.take ((i+1)*2)++cs++X1.toList.drop ((i+1)*2+cs.length)).toArray:=⟨_,rfl⟩
 have hXs:X.size=G*2:=by rw [hX];simp [hlen];omega
 have hsrc : ∀t u,cs[t]? = some u->W1.drew.cell? ((⟨g,i*2,none⟩:Addr).add t)=some u:=fun t u hu=>by
  rw [hcs,List.getElem?_drop] at hu
  rw [Addr.add_lit,cell_of_row W1.drew g _ cur _ _ hOg1]
  simpa using hu
 have hcpB : ∀ty dc sc,(Builtin.copy_ #[30,30] ty #[.slice (some ⟨w.heap.size,(i+1)*2,none⟩) (n - i) dc,.slice (some ⟨g,i*2,none⟩) (n - i) sc]).run Tryz.prog W1.drew = .ok (goInt ((n - i:Nat):Int)) (W1.drew.setRow w.heap.size X):=fun ty dc sc=>by
  rw [hX]
  exact q4x (P:=Tryz.prog) W1.drew 30 30 ty 71 w.heap.size ((i+1)*2) (n - i) dc ⟨g,i*2,none⟩ (n - i) sc X1 71 cs 2 (n - i) Tryz.underlying30 hsz hN1 (by simp) hlen hsrc (by omega) (fun u hu=>h1 u (by rw [hcs] at hu;exact List.mem_of_mem_drop hu))
 have hXt:X.toList.take ((n+1)*2)=cur.toList.take (i*2)++([x,y]++cs):=by
  have e0:X1.toList=cur.toList.take (i*2)++([x,y]++ROW.toList.drop (i*2+2)):=by rw [hX1,<-hRt];simp
  have e1:X1.toList.take ((i+1)*2)=cur.toList.take (i*2) ++ [x,y]:=by
   have e3:(cur.toList.take (i*2) ++ [x,y]).length=(i+1)*2:=by simp;omega
   rw [e0,<-List.append_assoc,<-e3,List.take_left]
  have e4:(cur.toList.take (i*2)++([x,y]++cs)).length=(n+1)*2:=by simp [hlen];omega
  have e5:X.toList=(cur.toList.take (i*2)++([x,y]++cs))++X1.toList.drop ((i+1)*2+cs.length):=by rw [hX];simp only [e1,List.append_assoc]
  rw [e5,<-e4,List.take_left]
 rw [<-hcs]
 have hXg:(W1.drew.setRow w.heap.size X).heap[w.heap.size]? = some (.cells X 71 (0,0)):=setRow_heap W1.drew _ X1 X _ _ hN1
 have hgr2:w.grownBy (W1.drew.setRow w.heap.size X) none:=by
  refine ⟨by rw [hW1];exact hgr.1,by rw [hW1];exact hgr.2,by rw [hW1];exact hgr.3,?_,fun k hk hk2=>?_⟩
  ·have:=hgr.size;rw [hW1];simpa using this
  ·have hkN:k≠w.heap.size:=by omega
   rw [setRow_other W1.drew _ k X hkN]
   show W1.heap[k]? = _
   rw [hW1,setRow_other W0 _ k X1 hkN]
   exact hgr.block k hk hk2
 refine Calls.mono (R:=fun e w'=>e = .returned (.slice (some ⟨w.heap.size,0,none⟩) (n+1) G)/\w'=W1.drew.setRow w.heap.size X) ?_ (fun e w' hh=>⟨G,hGn,hGm,hh.1,X,by rw [hh.2];exact hXg,by rw [hh.2];exact hgr2,hXs,hXt⟩)
 have hw1:IntKind.i64.wrap ((i:Int)+1)=(i:Int)+1:=by rw [IntKind.wrap_i64];omega
 have hb1:(0:Int)<=(i:Int)+1:=by omega
 have hin:i<=n:=by omega
 have hz2 : ¬ ((i:Int)=(n:Int)):=by omega
 have hb2 : ¬ (G=i+1):=by omega
 have hb3:(i:Int)<=(n:Int)+1:=by omega
 have hb4 : ¬ (G=i):=by omega
 have hb5:i+1<=n+1:=by omega
 have hb6 : ¬ (n=i):=by omega
 clear hX1 hlen hcs hXs hXt hX hX1s hsrc h1 hg hv hs hRt hRs hN hOg hOv hN1 hOg1 hXg hgr hgr2 hW1 hW0 hik hGm hgl hvl
 go_enter Tryz.func107,Tryz.ntmps107
 go_wp2_with (first
  | (at_builtin;refine q2q _ rfl _ _ 30 3 rfl _ _ rfl rfl (hrz _) ?_)
  | (at_builtin;refine q8n _ rfl _ _ 30 30 rfl _ _ rfl rfl (hcpA _ _) ?_))
 go_region_law_o (refine qbp rfl (.tmp 50) (.tmp 53) 30 30 rfl (.slice (some ⟨w.heap.size,(i+1)*2,none⟩) (n - i) (G - (i+1))) (.slice (some ⟨g,i*2,none⟩) (n - i) (n - i)) (by simp [Act.eval,Act.put]) (by simp [Act.eval,Act.put]) (hcpB _ _ _) ?_)
 go_wp2
 go_ret
 exact ⟨rfl,rfl⟩
end YthpgnliicpejoaaGreatDoor.AM
end Go.Proofs
namespace Go.Proofs
open Go.RowKit Go.Shelf Go.Lib
set_option linter.unusedVariables false
set_option linter.unusedSimpArgs false
namespace YthpgnliicpejoaaGreatDoor.AM
theorem j9p (w:World) (B n i vb:Nat) (v:Value) (xs:List Value) (x y:Value) (hown:w.ownsRow B 71 2 v n xs) (hv:w.heap[vb]? = some (.cells #[x,y] 71 (0,0))) (hne:v.ownBlock≠some vb)
  (hi:i<=n) (hn:n<=1000000) (hBw:B<=w.heap.size) (h1 : ∀u∈xs,u.oneCell'=true) (hx:x.oneCell'=true) (hy:y.oneCell'=true) :
  Calls Tryz.prog 107 #[v,.int .i64 i,.slice (some ⟨vb,0,none⟩) 1 1] w fun e w' =>
   ∃ v',e = .returned v'/\w'.ownsRow B 71 2 v' (n+1) (xs.take (i*2)++([x,y]++xs.drop (i*2)))/\Below B w w':=by
 have hxl:xs.length=n*2:=hown.1
 by_cases hin:i=n
 ·subst hin
  refine (j9i w B i vb v xs x y hown hv hn hBw hx hy).mono ?_
  rintro e w' ⟨v',rfl,h2,h3,h4⟩
  refine ⟨v',rfl,?_,(Below.refl B w).grown h3 hBw (fun k hk=>(hown.lt k hk).1)⟩
  rw [<-hxl,List.take_length,List.drop_length,List.append_nil]
  exact h2
 ·have hlt:i<n:=by omega
  rcases hown.2 with ⟨rfl,h0⟩|⟨g,cap,cur,rfl,hbg,hg,hnc,hcm,hcs,htake⟩
  ·omega
  ·have hng:vb≠g:=fun e=>hne (by rw [e];rfl)
   have hlen2 : ∀c:List Value,(c.take (i*2)++([x,y]++c.drop (i*2))).length=c.length+2:=fun c=>by simp;omega
   by_cases hroom:n+1<=cap
   ·refine (qzg w g cap n i vb cur x y hg hv hng hlt hroom (by unfold maxLen at hcm;omega) hcs (by rw [htake];exact h1) hx hy).mono ?_
    rintro e w' ⟨rfl,X,rfl,hXs,hXt⟩
    have hgd:w.drew.heap[g]? = some (.cells cur 71 (0,0)):=hg
    refine ⟨_,rfl,⟨by rw [hlen2,hxl];omega,.inr ⟨g,cap,X,rfl,hbg,setRow_heap w.drew g cur X _ _ hgd,hroom,hcm,hXs,?_⟩⟩,below_setRow (Below.refl B w).drew hbg X⟩
    rw [hXt,htake]
    congr 1
    rw [<-htake,List.take_take];congr 1;omega
   ·have hc:cap=n:=by omega
    subst hc
    have hcl:cur.toList=xs:=by rw [<-htake,List.take_of_length_le (by rw [Array.length_toList];omega)]
    refine (j3e w g cap i vb cur x y hg hv hlt hn hcs (by rw [hcl];exact h1) hx hy).mono ?_
    rintro e w' ⟨G,hG1,hG2,rfl,X,hX,hgr,hXs,hXt⟩
    refine ⟨_,rfl,⟨by rw [hlen2,hxl];omega,.inr ⟨w.heap.size,G,X,rfl,hBw,hX,hG1,hG2,hXs,?_⟩⟩,(Below.refl B w).grown hgr hBw (fun k hk=>by cases hk)⟩
    rw [hXt,hcl]
theorem ja4 (w:World) (B n i:Nat) (v:Value) (xs:List Value) (hown:w.ownsRow B 71 2 v n xs) (hi:i<n) (h1 : ∀u∈xs,u.oneCell'=true) :
  Calls Tryz.prog 106 #[v,.int .i64 i,.int .i64 ((i:Int)+1)] w fun e w' =>
   ∃ v',e = .returned v'/\w'.ownsRow B 71 2 v' (n - 1) (xs.take (i*2)++xs.drop ((i+1)*2))/\Below B w w':=by
 have hxl:xs.length=n*2:=hown.1
 rcases hown.2 with ⟨rfl,h0⟩|⟨g,cap,cur,rfl,hbg,hg,hnc,hcm,hcs,htake⟩
 ·omega
 ·refine (qvt w g cap n i cur hg hi hnc (by unfold maxLen at hcm;omega) hcs (by rw [htake];exact h1)).mono ?_
  rintro e w' ⟨rfl,X,rfl,hXs,hXt⟩
  have hgd:w.drew.heap[g]? = some (.cells cur 71 (0,0)):=hg
  refine ⟨_,rfl,⟨by rw [List.length_append,List.length_take,List.length_drop,hxl];omega,.inr ⟨g,cap,X,rfl,hbg,setRow_heap w.drew g cur X _ _ hgd,by omega,hcm,hXs,?_⟩⟩,below_setRow (Below.refl B w).drew hbg X⟩
  rw [hXt,htake]
  congr 1
  rw [<-htake,List.take_take];congr 1;omega
end YthpgnliicpejoaaGreatDoor.AM
end Go.Proofs
