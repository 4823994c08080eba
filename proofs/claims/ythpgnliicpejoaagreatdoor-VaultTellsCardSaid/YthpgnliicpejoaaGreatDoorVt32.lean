
import Derived.Test.YthpgnliicpejoaaGreatDoorVt31
import Derived.WideLaws
namespace Go.Proofs
open Go.RowKit Go.Extern.Stop Go.Stop Go.Extern
set_option linter.unusedVariables false
set_option linter.unusedSimpArgs false
namespace YthpgnliicpejoaaGreatDoor.AM
theorem jsm (w:World):(isAgg 114).run Tryz.prog w = .ok true w:=by kernel_rfl
theorem jsd (w:World):(isAgg 120).run Tryz.prog w = .ok true w:=by kernel_rfl
theorem jt2 (tb b:Nat) (n:Int) (old:Value) (W:World) (hb:W.cell? ⟨b,0,none⟩=some (.int .i64 n)) (ht:W.cell? ⟨tb,0,none⟩=some old) (hf:W.frozen? ⟨tb,0,none⟩=false) :
  (ReflectliteValue.set #[.agg #[.pointer (some ⟨gC,114,none⟩),.pointer (some ⟨tb,0,none⟩),.int .u64 409],.agg #[.pointer (some ⟨gC,114,none⟩),.pointer (some ⟨b,0,none⟩),.int .u64 153]]).run Tryz.prog W
   = .ok (.tuple #[]) (W.setCell ⟨tb,0,none⟩ (.int .i64 n)):=by
 rw [jtr]
 simp only [Sem.run_bind,jny,jtd,Result.andThen]
 simp [ReflectliteValue.flagAddr,loadVar,jsm,js1,loadCells,loadCellsFrom,Addr.add,hb,Result.andThen,js3,storeVar,Value.cells,storeCells]
 rw [run_store Tryz.prog W ⟨tb,0,none⟩ _ _ (by rfl)]
 simp [ht,hf]
theorem jsf (tb b:Nat) (n:Int) (c:Value) (old old':Value) (W:World) (h1:c.oneCell'=true) (hb:W.cell? ⟨b,0,none⟩=some (.int .i64 n)) (hb':W.cell? ⟨b,1,none⟩=some c) (ht:W.cell? ⟨tb,0,none⟩=some old) (hf:W.frozen? ⟨tb,0,none⟩=false) (ht':W.cell? ⟨tb,1,none⟩=some old') (hf':W.frozen? ⟨tb,1,none⟩=false) :
  (ReflectliteValue.set #[.agg #[.pointer (some ⟨gC,120,none⟩),.pointer (some ⟨tb,0,none⟩),.int .u64 409],.agg #[.pointer (some ⟨gC,120,none⟩),.pointer (some ⟨b,0,none⟩),.int .u64 153]]).run Tryz.prog W
   = .ok (.tuple #[]) ((W.setCell ⟨tb,0,none⟩ (.int .i64 n)).setCell ⟨tb,1,none⟩ c):=by
 rw [jtr]
 simp only [Sem.run_bind,jqv,jsg,Result.andThen]
 simp [ReflectliteValue.flagAddr,loadVar,jsd,jsr,loadCells,loadCellsFrom,Addr.add,hb,hb',Result.andThen,jsn,storeVar,Value.cells,storeCells]
 rw [run_store Tryz.prog W ⟨tb,0,none⟩ _ _ (by rfl)]
 simp [ht,hf,Sem.run_bind,Result.andThen]
 rw [run_store Tryz.prog _ ⟨tb,1,none⟩ _ _ h1]
 have e1:(W.setCell ⟨tb,0,none⟩ (.int .i64 n)).cell? ⟨tb,1,none⟩=some old':=(World.cell?_setCell_other _ _ _ _ (by simp)).trans ht'
 simp [e1,hf']
theorem asUnA:Tryz.prog.underlying 202=some (.interface (Tryz.prog.methodsAt 202)):=by kernel_rfl
theorem asUnU:Tryz.prog.underlying 205=some (.interface (Tryz.prog.methodsAt 205)):=by kernel_rfl
theorem asUnL:Tryz.prog.underlying 207=some (.interface (Tryz.prog.methodsAt 207)):=by kernel_rfl
theorem asNoA (v:Value) (xT:TypeId) (w:World):(Instr.typeAssert (.iface 114 v) xT 202 true).run Tryz.prog w = .ok (.tuple #[.nilIface,.bool false]) w:=run_typeAssert_lacksB asUnA (by kernel_rfl) (by kernel_rfl) v xT w
theorem asNoU (v:Value) (xT:TypeId) (w:World):(Instr.typeAssert (.iface 114 v) xT 205 true).run Tryz.prog w = .ok (.tuple #[.nilIface,.bool false]) w:=run_typeAssert_lacksB asUnU (by kernel_rfl) (by kernel_rfl) v xT w
theorem asNoL (v:Value) (xT:TypeId) (w:World):(Instr.typeAssert (.iface 114 v) xT 207 true).run Tryz.prog w = .ok (.tuple #[.nilIface,.bool false]) w:=run_typeAssert_lacksB asUnL (by kernel_rfl) (by kernel_rfl) v xT w
set_option maxHeartbeats 4000000 in
theorem jpg (n:Int) (tb:Nat) (old:Value) (w:World) (hg:w.cell? ⟨0,0,none⟩=some (.iface 197 (.agg #[.pointer (some ⟨gC,81,none⟩)]))) (ht0:w.cell? ⟨tb,0,none⟩=some old) (hf0:w.frozen? ⟨tb,0,none⟩=false) :
  Calls Tryz.prog 64 #[.iface 114 (.agg #[.int .i64 n]),.iface 123 (.pointer (some ⟨tb,0,none⟩))] w fun ev w'=>ev = .returned (.bool true)∧w'=((((w.alloc (.cells #[.pointer (some ⟨tb,0,none⟩)] 123)).alloc (.cells #[.pointer (some ⟨gC,123,none⟩),.pointer (some ⟨w.heap.size,0,none⟩),.int .u64 150] 159)).alloc (.cells #[.pointer (some ⟨gC,123,none⟩),.pointer (some ⟨w.heap.size,0,none⟩),.int .u64 150] 159)).alloc (.cells #[.int .i64 n] 114)).setCell ⟨tb,0,none⟩ (.int .i64 n):=by
 have h6:=@run_callFunc_extern Tryz.prog 95 _ (fun args=>ReflectliteValue.unpack (args.getD 0 (.tuple #[]))) Tryz.func95 (by kernel_rfl) (by kernel_rfl) (by kernel_rfl) (by kernel_rfl)
 have h7:=@run_callFunc_extern Tryz.prog 96 _ (ReflectliteValue.methodAny (ReflectliteValue.valueError "reflectlite.Value.Type" 0) (fun t _ _ _=>ReflectliteType.toType t)) Tryz.func96 (by kernel_rfl) (by kernel_rfl) (by kernel_rfl) (by kernel_rfl)
 have h8:=@run_callFunc_extern Tryz.prog 97 _ (ReflectliteValue.method (ReflectliteValue.valueError "reflectlite.Value.IsNil" 0) ReflectliteValue.isNil) Tryz.func97 (by kernel_rfl) (by kernel_rfl) (by kernel_rfl) (by kernel_rfl)
 have h27:=@run_callFunc_extern Tryz.prog 189 _ (ReflectliteType.abiMethod fun t=>do pure (.int .u8 (← Rtype.kind t))) Tryz.func189 (by kernel_rfl) (by kernel_rfl) (by kernel_rfl) (by kernel_rfl)
 have h37:=@run_callFunc_extern Tryz.prog 202 _ (ReflectliteType.method ReflectliteType.elem) Tryz.func202 (by kernel_rfl) (by kernel_rfl) (by kernel_rfl) (by kernel_rfl)
 have h38:=@run_callFunc_extern Tryz.prog 203 _ (ReflectliteType.relation "Implements" ReflectliteType.implements_) Tryz.func203 (by kernel_rfl) (by kernel_rfl) (by kernel_rfl) (by kernel_rfl)
 have h10:=@run_callFunc_extern Tryz.prog 123 _ ReflectliteType.typeOf Tryz.func123 (by kernel_rfl) (by kernel_rfl) (by kernel_rfl) (by kernel_rfl)
 have h35:=@run_callFunc_extern Tryz.prog 200 _ (ReflectliteType.relation "AssignableTo" ReflectliteType.assignableTo) Tryz.func200 (by kernel_rfl) (by kernel_rfl) (by kernel_rfl) (by kernel_rfl)
 have h11:=@run_callFunc_extern Tryz.prog 124 _ (ReflectliteValue.method (ReflectliteValue.valueError "reflectlite.Value.Elem" 0) ReflectliteValue.elem) Tryz.func124 (by kernel_rfl) (by kernel_rfl) (by kernel_rfl) (by kernel_rfl)
 have h12:=@run_callFunc_extern Tryz.prog 125 _ ReflectliteValue.set Tryz.func125 (by kernel_rfl) (by kernel_rfl) (by kernel_rfl) (by kernel_rfl)
 have tO:=jm6
 have mA:=asMA
 have a25:=jtu
 have v25:=jn7
 have f6:=jox
 have f7:=jor
 have mK:=asMK
 have mE:=asME
 have mI:=asMI
 have k27:=jno
 have k25:=jtt
 have e27:=jqm
 have i25:=jth
 have n8:=jqk ⟨w.heap.size,0,none⟩ ⟨tb,0,none⟩ ((w.alloc (.cells #[.pointer (some ⟨tb,0,none⟩)] 123)).alloc (.cells #[.pointer (some ⟨gC,123,none⟩),.pointer (some ⟨w.heap.size,0,none⟩),.int .u64 150] 159)) (by simp)
 have hlt:0<w.heap.size:=World.block_lt_of_cell? _ _ hg
 have htl:tb<w.heap.size:=World.block_lt_of_cell? _ _ ht0
 have hg2:((w.alloc (.cells #[.pointer (some ⟨tb,0,none⟩)] 123)).alloc (.cells #[.pointer (some ⟨gC,123,none⟩),.pointer (some ⟨w.heap.size,0,none⟩),.int .u64 150] 159)).cell? ⟨0,0,none⟩=some (.iface 197 (.agg #[.pointer (some ⟨gC,81,none⟩)])):=by
  rw [World.cell?_alloc_lt _ _ ⟨_,0,none⟩ (by simp<;>omega),World.cell?_alloc_lt _ _ ⟨_,0,none⟩ hlt];exact hg
 have el:=jjh ⟨w.heap.size,0,none⟩ ⟨tb,0,none⟩ (((w.alloc (.cells #[.pointer (some ⟨tb,0,none⟩)] 123)).alloc (.cells #[.pointer (some ⟨gC,123,none⟩),.pointer (some ⟨w.heap.size,0,none⟩),.int .u64 150] 159)).alloc (.cells #[.pointer (some ⟨gC,123,none⟩),.pointer (some ⟨w.heap.size,0,none⟩),.int .u64 150] 159)) (by rw [World.cell?_alloc_lt _ _ ⟨w.heap.size,0,none⟩ (by simp;omega)];simp)
 have st:=jt2 tb (w.heap.size+1+1+1) n old ((((w.alloc (.cells #[.pointer (some ⟨tb,0,none⟩)] 123)).alloc (.cells #[.pointer (some ⟨gC,123,none⟩),.pointer (some ⟨w.heap.size,0,none⟩),.int .u64 150] 159)).alloc (.cells #[.pointer (some ⟨gC,123,none⟩),.pointer (some ⟨w.heap.size,0,none⟩),.int .u64 150] 159)).alloc (.cells #[.int .i64 n] 114))
  (by rw [World.cell?_alloc_at _ _ _ _ (by simp)];rfl)
  (by rw [World.cell?_alloc_lt _ _ ⟨tb,0,none⟩ (by simp;omega),World.cell?_alloc_lt _ _ ⟨tb,0,none⟩ (by simp;omega),World.cell?_alloc_lt _ _ ⟨tb,0,none⟩ (by simp;omega),World.cell?_alloc_lt _ _ ⟨tb,0,none⟩ htl];exact ht0)
  (by rw [World.frozen?_alloc_old _ _ ⟨tb,0,none⟩ (by simp;omega),World.frozen?_alloc_old _ _ ⟨tb,0,none⟩ (by simp;omega),World.frozen?_alloc_old _ _ ⟨tb,0,none⟩ (by simp;omega),World.frozen?_alloc_old _ _ ⟨tb,0,none⟩ (Nat.ne_of_lt htl)];exact hf0)
 go_enter Tryz.func64,Tryz.ntmps64
 go_wp2
 refine wp_loop_rounds 1 ?_
 rw [rounds_succ]
 go_wp2
 go_ret
 exact ⟨rfl,rfl⟩
set_option maxHeartbeats 4000000 in
theorem jpc (n:Int) (c:Value) (h1:c.oneCell'=true) (tb:Nat) (old old':Value) (w:World) (hg:w.cell? ⟨0,0,none⟩=some (.iface 197 (.agg #[.pointer (some ⟨gC,81,none⟩)]))) (ht0:w.cell? ⟨tb,0,none⟩=some old) (hf0:w.frozen? ⟨tb,0,none⟩=false) (ht0':w.cell? ⟨tb,1,none⟩=some old') (hf0':w.frozen? ⟨tb,1,none⟩=false) :
  Calls Tryz.prog 64 #[.iface 120 (.agg #[.int .i64 n,c]),.iface 122 (.pointer (some ⟨tb,0,none⟩))] w fun ev w'=>ev = .returned (.bool true)∧w'=(((((w.alloc (.cells #[.pointer (some ⟨tb,0,none⟩)] 122)).alloc (.cells #[.pointer (some ⟨gC,122,none⟩),.pointer (some ⟨w.heap.size,0,none⟩),.int .u64 150] 159)).alloc (.cells #[.pointer (some ⟨gC,122,none⟩),.pointer (some ⟨w.heap.size,0,none⟩),.int .u64 150] 159)).alloc (.cells #[.int .i64 n,c] 120)).setCell ⟨tb,0,none⟩ (.int .i64 n)).setCell ⟨tb,1,none⟩ c:=by
 have h6:=@run_callFunc_extern Tryz.prog 95 _ (fun args=>ReflectliteValue.unpack (args.getD 0 (.tuple #[]))) Tryz.func95 (by kernel_rfl) (by kernel_rfl) (by kernel_rfl) (by kernel_rfl)
 have h7:=@run_callFunc_extern Tryz.prog 96 _ (ReflectliteValue.methodAny (ReflectliteValue.valueError "reflectlite.Value.Type" 0) (fun t _ _ _=>ReflectliteType.toType t)) Tryz.func96 (by kernel_rfl) (by kernel_rfl) (by kernel_rfl) (by kernel_rfl)
 have h8:=@run_callFunc_extern Tryz.prog 97 _ (ReflectliteValue.method (ReflectliteValue.valueError "reflectlite.Value.IsNil" 0) ReflectliteValue.isNil) Tryz.func97 (by kernel_rfl) (by kernel_rfl) (by kernel_rfl) (by kernel_rfl)
 have h27:=@run_callFunc_extern Tryz.prog 189 _ (ReflectliteType.abiMethod fun t=>do pure (.int .u8 (← Rtype.kind t))) Tryz.func189 (by kernel_rfl) (by kernel_rfl) (by kernel_rfl) (by kernel_rfl)
 have h37:=@run_callFunc_extern Tryz.prog 202 _ (ReflectliteType.method ReflectliteType.elem) Tryz.func202 (by kernel_rfl) (by kernel_rfl) (by kernel_rfl) (by kernel_rfl)
 have h38:=@run_callFunc_extern Tryz.prog 203 _ (ReflectliteType.relation "Implements" ReflectliteType.implements_) Tryz.func203 (by kernel_rfl) (by kernel_rfl) (by kernel_rfl) (by kernel_rfl)
 have h10:=@run_callFunc_extern Tryz.prog 123 _ ReflectliteType.typeOf Tryz.func123 (by kernel_rfl) (by kernel_rfl) (by kernel_rfl) (by kernel_rfl)
 have h35:=@run_callFunc_extern Tryz.prog 200 _ (ReflectliteType.relation "AssignableTo" ReflectliteType.assignableTo) Tryz.func200 (by kernel_rfl) (by kernel_rfl) (by kernel_rfl) (by kernel_rfl)
 have h11:=@run_callFunc_extern Tryz.prog 124 _ (ReflectliteValue.method (ReflectliteValue.valueError "reflectlite.Value.Elem" 0) ReflectliteValue.elem) Tryz.func124 (by kernel_rfl) (by kernel_rfl) (by kernel_rfl) (by kernel_rfl)
 have h12:=@run_callFunc_extern Tryz.prog 125 _ ReflectliteValue.set Tryz.func125 (by kernel_rfl) (by kernel_rfl) (by kernel_rfl) (by kernel_rfl)
 have tO:=jtg
 have mA:=asMA
 have a25:=jsh
 have v25:=jti
 have f6:=jbf
 have f7:=jdt
 have mK:=asMK
 have mE:=asME
 have mI:=asMI
 have k27:=jhp
 have k25:=jmm
 have e27:=ji5
 have i25:=jmr
 have n8:=jc4 ⟨w.heap.size,0,none⟩ ⟨tb,0,none⟩ ((w.alloc (.cells #[.pointer (some ⟨tb,0,none⟩)] 122)).alloc (.cells #[.pointer (some ⟨gC,122,none⟩),.pointer (some ⟨w.heap.size,0,none⟩),.int .u64 150] 159)) (by simp)
 have hlt:0<w.heap.size:=World.block_lt_of_cell? _ _ hg
 have htl:tb<w.heap.size:=World.block_lt_of_cell? _ _ ht0
 have hg2:((w.alloc (.cells #[.pointer (some ⟨tb,0,none⟩)] 122)).alloc (.cells #[.pointer (some ⟨gC,122,none⟩),.pointer (some ⟨w.heap.size,0,none⟩),.int .u64 150] 159)).cell? ⟨0,0,none⟩=some (.iface 197 (.agg #[.pointer (some ⟨gC,81,none⟩)])):=by
  rw [World.cell?_alloc_lt _ _ ⟨_,0,none⟩ (by simp<;>omega),World.cell?_alloc_lt _ _ ⟨_,0,none⟩ hlt];exact hg
 have el:=jkc ⟨w.heap.size,0,none⟩ ⟨tb,0,none⟩ (((w.alloc (.cells #[.pointer (some ⟨tb,0,none⟩)] 122)).alloc (.cells #[.pointer (some ⟨gC,122,none⟩),.pointer (some ⟨w.heap.size,0,none⟩),.int .u64 150] 159)).alloc (.cells #[.pointer (some ⟨gC,122,none⟩),.pointer (some ⟨w.heap.size,0,none⟩),.int .u64 150] 159)) (by rw [World.cell?_alloc_lt _ _ ⟨w.heap.size,0,none⟩ (by simp;omega)];simp)
 have st:=jsf tb (w.heap.size+1+1+1) n c old old' ((((w.alloc (.cells #[.pointer (some ⟨tb,0,none⟩)] 122)).alloc (.cells #[.pointer (some ⟨gC,122,none⟩),.pointer (some ⟨w.heap.size,0,none⟩),.int .u64 150] 159)).alloc (.cells #[.pointer (some ⟨gC,122,none⟩),.pointer (some ⟨w.heap.size,0,none⟩),.int .u64 150] 159)).alloc (.cells #[.int .i64 n,c] 120))
  h1
  (by rw [World.cell?_alloc_at _ _ _ _ (by simp)];rfl)
  (by rw [World.cell?_alloc_at _ _ _ _ (by simp)];rfl)
  (by rw [World.cell?_alloc_lt _ _ ⟨tb,0,none⟩ (by simp;omega),World.cell?_alloc_lt _ _ ⟨tb,0,none⟩ (by simp;omega),World.cell?_alloc_lt _ _ ⟨tb,0,none⟩ (by simp;omega),World.cell?_alloc_lt _ _ ⟨tb,0,none⟩ htl];exact ht0)
  (by rw [World.frozen?_alloc_old _ _ ⟨tb,0,none⟩ (by simp;omega),World.frozen?_alloc_old _ _ ⟨tb,0,none⟩ (by simp;omega),World.frozen?_alloc_old _ _ ⟨tb,0,none⟩ (by simp;omega),World.frozen?_alloc_old _ _ ⟨tb,0,none⟩ (Nat.ne_of_lt htl)];exact hf0)
  (by rw [World.cell?_alloc_lt _ _ ⟨tb,1,none⟩ (by simp;omega),World.cell?_alloc_lt _ _ ⟨tb,1,none⟩ (by simp;omega),World.cell?_alloc_lt _ _ ⟨tb,1,none⟩ (by simp;omega),World.cell?_alloc_lt _ _ ⟨tb,1,none⟩ htl];exact ht0')
  (by rw [World.frozen?_alloc_old _ _ ⟨tb,1,none⟩ (by simp;omega),World.frozen?_alloc_old _ _ ⟨tb,1,none⟩ (by simp;omega),World.frozen?_alloc_old _ _ ⟨tb,1,none⟩ (by simp;omega),World.frozen?_alloc_old _ _ ⟨tb,1,none⟩ (Nat.ne_of_lt htl)];exact hf0')
 go_enter Tryz.func64,Tryz.ntmps64
 go_wp2
 refine wp_loop_rounds 1 ?_
 rw [rounds_succ]
 go_wp2
 go_ret
 exact ⟨rfl,rfl⟩
set_option maxHeartbeats 4000000 in
theorem jfo (n:Int) (tb:Nat) (old:Value) (w:World) (hg:w.cell? ⟨0,0,none⟩=some (.iface 197 (.agg #[.pointer (some ⟨gC,81,none⟩)]))) (ht0:w.cell? ⟨tb,0,none⟩=some old) (hf0:w.frozen? ⟨tb,0,none⟩=false) :
  Calls Tryz.prog 64 #[.iface 114 (.agg #[.int .i64 n]),.iface 122 (.pointer (some ⟨tb,0,none⟩))] w fun ev w'=>ev = .returned (.bool false)∧w'=(((w.alloc (.cells #[.pointer (some ⟨tb,0,none⟩)] 122)).alloc (.cells #[.pointer (some ⟨gC,122,none⟩),.pointer (some ⟨w.heap.size,0,none⟩),.int .u64 150] 159)).alloc (.cells #[.pointer (some ⟨gC,122,none⟩),.pointer (some ⟨w.heap.size,0,none⟩),.int .u64 150] 159)):=by
 have h6:=@run_callFunc_extern Tryz.prog 95 _ (fun args=>ReflectliteValue.unpack (args.getD 0 (.tuple #[]))) Tryz.func95 (by kernel_rfl) (by kernel_rfl) (by kernel_rfl) (by kernel_rfl)
 have h7:=@run_callFunc_extern Tryz.prog 96 _ (ReflectliteValue.methodAny (ReflectliteValue.valueError "reflectlite.Value.Type" 0) (fun t _ _ _=>ReflectliteType.toType t)) Tryz.func96 (by kernel_rfl) (by kernel_rfl) (by kernel_rfl) (by kernel_rfl)
 have h8:=@run_callFunc_extern Tryz.prog 97 _ (ReflectliteValue.method (ReflectliteValue.valueError "reflectlite.Value.IsNil" 0) ReflectliteValue.isNil) Tryz.func97 (by kernel_rfl) (by kernel_rfl) (by kernel_rfl) (by kernel_rfl)
 have h27:=@run_callFunc_extern Tryz.prog 189 _ (ReflectliteType.abiMethod fun t=>do pure (.int .u8 (← Rtype.kind t))) Tryz.func189 (by kernel_rfl) (by kernel_rfl) (by kernel_rfl) (by kernel_rfl)
 have h37:=@run_callFunc_extern Tryz.prog 202 _ (ReflectliteType.method ReflectliteType.elem) Tryz.func202 (by kernel_rfl) (by kernel_rfl) (by kernel_rfl) (by kernel_rfl)
 have h38:=@run_callFunc_extern Tryz.prog 203 _ (ReflectliteType.relation "Implements" ReflectliteType.implements_) Tryz.func203 (by kernel_rfl) (by kernel_rfl) (by kernel_rfl) (by kernel_rfl)
 have h10:=@run_callFunc_extern Tryz.prog 123 _ ReflectliteType.typeOf Tryz.func123 (by kernel_rfl) (by kernel_rfl) (by kernel_rfl) (by kernel_rfl)
 have h35:=@run_callFunc_extern Tryz.prog 200 _ (ReflectliteType.relation "AssignableTo" ReflectliteType.assignableTo) Tryz.func200 (by kernel_rfl) (by kernel_rfl) (by kernel_rfl) (by kernel_rfl)
 have h11:=@run_callFunc_extern Tryz.prog 124 _ (ReflectliteValue.method (ReflectliteValue.valueError "reflectlite.Value.Elem" 0) ReflectliteValue.elem) Tryz.func124 (by kernel_rfl) (by kernel_rfl) (by kernel_rfl) (by kernel_rfl)
 have h12:=@run_callFunc_extern Tryz.prog 125 _ ReflectliteValue.set Tryz.func125 (by kernel_rfl) (by kernel_rfl) (by kernel_rfl) (by kernel_rfl)
 have tO:=jm6
 have mA:=asMA
 have a25:=jo2
 have v25:=jn7
 have f6:=jbf
 have f7:=jdt
 have mK:=asMK
 have mE:=asME
 have mI:=asMI
 have k27:=jhp
 have k25:=jmm
 have e27:=ji5
 have nA:=asNoA
 have nU:=asNoU
 have nL:=asNoL
 have i25:=jmr
 have n8:=jc4 ⟨w.heap.size,0,none⟩ ⟨tb,0,none⟩ ((w.alloc (.cells #[.pointer (some ⟨tb,0,none⟩)] 122)).alloc (.cells #[.pointer (some ⟨gC,122,none⟩),.pointer (some ⟨w.heap.size,0,none⟩),.int .u64 150] 159)) (by simp)
 have hlt:0<w.heap.size:=World.block_lt_of_cell? _ _ hg
 have htl:tb<w.heap.size:=World.block_lt_of_cell? _ _ ht0
 have hg2:((w.alloc (.cells #[.pointer (some ⟨tb,0,none⟩)] 122)).alloc (.cells #[.pointer (some ⟨gC,122,none⟩),.pointer (some ⟨w.heap.size,0,none⟩),.int .u64 150] 159)).cell? ⟨0,0,none⟩=some (.iface 197 (.agg #[.pointer (some ⟨gC,81,none⟩)])):=by
  rw [World.cell?_alloc_lt _ _ ⟨_,0,none⟩ (by simp<;>omega),World.cell?_alloc_lt _ _ ⟨_,0,none⟩ hlt];exact hg
 go_enter Tryz.func64,Tryz.ntmps64
 go_wp2
 refine wp_loop_rounds 1 ?_
 rw [rounds_succ]
 go_wp2
 go_ret
 exact ⟨rfl,rfl⟩
end YthpgnliicpejoaaGreatDoor.AM
end Go.Proofs
