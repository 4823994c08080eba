
import Derived.WalkKit
import Derived.LaidEql
import Derived.Stop.Asserts
import Derived.RowKitTokens
import Derived.Test.YtapfankgdkdkgaaGreatDoorProg
import Derived.WideLaws
import Derived.Below
import Derived.OwnWalk
import Derived.Orders
import Derived.Laws.CopyOwn
set_option linter.unusedVariables false
set_option linter.unusedSimpArgs false
namespace Go.Proofs
open Go.RowKit Go.Extern.Stop Go.Stop Go.Extern
namespace YtapfankgdkdkgaaGreatDoor.AM
abbrev gC:Nat:=9
theorem jy2 (z:Sem Value) (f:TypeId→Addr→Nat→Nat→Sem Value) (v:Value) :
  ReflectliteValue.method z f #[v]=(do match ← ReflectliteValue.parts v with|none=>z|some (t,a,fl)=>f t a fl (fl % 32)):=rfl
theorem k9s (v x:Value):ReflectliteValue.set #[v,x]=(do
  let (some (dst,a,fl),some (src,b,_)):=(← ReflectliteValue.parts v,← ReflectliteValue.parts x)
   | unsupported (.noEntry "extern/(internal/reflectlite.Value).Set.zeroValue")
  if fl / ReflectliteValue.flagAddr % 2==0 then unsupported (.noEntry "extern/(internal/reflectlite.Value).Set.unaddressable")
  let val ← loadVar src b
  if ← Rtype.directlyAssignable dst src then storeVar dst a val
  else if ← Rtype.implements dst src then
   if (← Rtype.kind src)==20 then
    match val with
    | .nilIface=>unsupported (.noEntry "extern/reflectlite: a nil value of one interface type handed on as a value of another")
    | _=>storeVar dst a val
   else storeVar dst a (.iface src val)
  else panicString ("reflectlite.Set: value of type " ++ (← Rtype.spelt src) ++ " is not assignable to type " ++ (← Rtype.spelt dst))
  pure (.tuple #[])):=rfl
theorem asMK (h:Value) (w:World):(Go.method 406 196 (.agg #[h]) "Kind").run Tryz.prog w = .ok (250,h) w:=by kernel_rfl
theorem asME (h:Value) (w:World):(Go.method 406 196 (.agg #[h]) "Elem").run Tryz.prog w = .ok (263,.agg #[h]) w:=by kernel_rfl
theorem asMI (h:Value) (w:World):(Go.method 406 196 (.agg #[h]) "Implements").run Tryz.prog w = .ok (264,.agg #[h]) w:=by kernel_rfl
theorem asMA (h:Value) (w:World):(Go.method 406 196 (.agg #[h]) "AssignableTo").run Tryz.prog w = .ok (261,.agg #[h]) w:=by kernel_rfl
theorem k3a (t:Addr) (w:World):(ReflectliteValue.unpack (.iface 136 (.pointer (some t)))).run Tryz.prog w
  = .ok (.agg #[.pointer (some ⟨gC,136,none⟩),.pointer (some ⟨w.heap.size,0,none⟩),.int .u64 150]) (w.alloc (.cells #[.pointer (some t)] 136)):=by kernel_rfl
theorem k43 (a:Addr) (w:World):(ReflectliteValue.methodAny (ReflectliteValue.valueError "reflectlite.Value.Type" 0) (fun t _ _ _=>ReflectliteType.toType t) #[.agg #[.pointer (some ⟨gC,136,none⟩),.pointer (some a),.int .u64 150]]).run Tryz.prog w
  = .ok (.iface 196 (.agg #[.pointer (some ⟨gC,136,none⟩)])) w:=by kernel_rfl
theorem k4r (w:World):((ReflectliteType.abiMethod fun t=>(fun a:Nat=>Value.int IntKind.u8 (a:Int)) <$> Rtype.kind t) #[.pointer (some ⟨gC,136,none⟩)]).run Tryz.prog w = .ok (.int .u8 22) w:=by kernel_rfl
theorem k9k (w:World):((ReflectliteType.abiMethod fun t=>(fun a:Nat=>Value.int IntKind.u8 (a:Int)) <$> Rtype.kind t) #[.pointer (some ⟨gC,126,none⟩)]).run Tryz.prog w = .ok (.int .u8 25) w:=by kernel_rfl
theorem jrl (a:Addr) (w:World):(ReflectliteValue.parts (.agg #[.pointer (some ⟨gC,136,none⟩),.pointer (some a),.int .u64 150])).run Tryz.prog w = .ok (some (136,a,150)) w:=by kernel_rfl
theorem jum:Tryz.prog.underlying 136=some (.pointer 126):=by kernel_rfl
theorem k56 (a p:Addr) (W:World) (ha:W.cell? a=some (.pointer (some p))) :
  (ReflectliteValue.method (ReflectliteValue.valueError "reflectlite.Value.IsNil" 0) ReflectliteValue.isNil #[.agg #[.pointer (some ⟨gC,136,none⟩),.pointer (some a),.int .u64 150]]).run Tryz.prog W = .ok (.bool false) W:=by
 rw [jy2]
 simp only [Sem.run_bind,jrl,Result.andThen]
 simp [ReflectliteValue.isNil,loadVar,isAgg,underlying,jum,ha,Result.andThen]
theorem k3i (w:World):(ReflectliteType.method ReflectliteType.elem #[.agg #[.pointer (some ⟨gC,136,none⟩)]]).run Tryz.prog w = .ok (.iface 196 (.agg #[.pointer (some ⟨gC,126,none⟩)])) w:=by kernel_rfl
theorem k7l (w:World):(ReflectliteType.relation "Implements" ReflectliteType.implements_ #[.agg #[.pointer (some ⟨gC,126,none⟩)],.iface 196 (.agg #[.pointer (some ⟨gC,82,none⟩)])]).run Tryz.prog w = .ok (.bool true) w:=by kernel_rfl
theorem k9p (v:Value) (w:World):(ReflectliteType.typeOf #[.iface 126 v]).run Tryz.prog w = .ok (.iface 196 (.agg #[.pointer (some ⟨gC,126,none⟩)])) w:=by kernel_rfl
theorem k7e (w:World):(ReflectliteType.relation "AssignableTo" ReflectliteType.assignableTo #[.agg #[.pointer (some ⟨gC,126,none⟩)],.iface 196 (.agg #[.pointer (some ⟨gC,126,none⟩)])]).run Tryz.prog w = .ok (.bool true) w:=by kernel_rfl
theorem k6d (w:World):(Rtype.elem? 136).run Tryz.prog w = .ok (some 126) w:=by kernel_rfl
theorem asMkT (p:Addr) (w:World):(ReflectliteValue.mk 126 p ReflectliteValue.flagAddr).run Tryz.prog w = .ok (.agg #[.pointer (some ⟨gC,126,none⟩),.pointer (some p),.int .u64 409]) w:=by kernel_rfl
theorem k1l (a p:Addr) (W:World) (ha:W.cell? a=some (.pointer (some p))) :
  (ReflectliteValue.method (ReflectliteValue.valueError "reflectlite.Value.Elem" 0) ReflectliteValue.elem #[.agg #[.pointer (some ⟨gC,136,none⟩),.pointer (some a),.int .u64 150]]).run Tryz.prog W
   = .ok (.agg #[.pointer (some ⟨gC,126,none⟩),.pointer (some p),.int .u64 409]) W:=by
 rw [jy2]
 simp only [Sem.run_bind,jrl,Result.andThen]
 simp [ReflectliteValue.elem,loadVar,isAgg,underlying,jum,ha,Result.andThen,k6d,asMkT]
theorem k9w (n:Int) (w:World):(ReflectliteValue.unpack (.iface 126 (.agg #[.int .i64 n]))).run Tryz.prog w
  = .ok (.agg #[.pointer (some ⟨gC,126,none⟩),.pointer (some ⟨w.heap.size,0,none⟩),.int .u64 153]) (w.alloc (.cells #[.int .i64 n] 126)):=by kernel_rfl
theorem k3p (a:Addr) (w:World):(ReflectliteValue.parts (.agg #[.pointer (some ⟨gC,126,none⟩),.pointer (some a),.int .u64 409])).run Tryz.prog w = .ok (some (126,a,409)) w:=by kernel_rfl
theorem k81 (a:Addr) (w:World):(ReflectliteValue.parts (.agg #[.pointer (some ⟨gC,126,none⟩),.pointer (some a),.int .u64 153])).run Tryz.prog w = .ok (some (126,a,153)) w:=by kernel_rfl
theorem k8q (w:World):(Rtype.directlyAssignable 126 126).run Tryz.prog w = .ok true w:=by kernel_rfl
theorem k8c (w:World):(sizeOf 126).run Tryz.prog w = .ok 1 w:=by kernel_rfl
theorem k58 (t:Addr) (w:World):(ReflectliteValue.unpack (.iface 135 (.pointer (some t)))).run Tryz.prog w
  = .ok (.agg #[.pointer (some ⟨gC,135,none⟩),.pointer (some ⟨w.heap.size,0,none⟩),.int .u64 150]) (w.alloc (.cells #[.pointer (some t)] 135)):=by kernel_rfl
theorem k5r (a:Addr) (w:World):(ReflectliteValue.methodAny (ReflectliteValue.valueError "reflectlite.Value.Type" 0) (fun t _ _ _=>ReflectliteType.toType t) #[.agg #[.pointer (some ⟨gC,135,none⟩),.pointer (some a),.int .u64 150]]).run Tryz.prog w
  = .ok (.iface 196 (.agg #[.pointer (some ⟨gC,135,none⟩)])) w:=by kernel_rfl
theorem k3m (w:World):((ReflectliteType.abiMethod fun t=>(fun a:Nat=>Value.int IntKind.u8 (a:Int)) <$> Rtype.kind t) #[.pointer (some ⟨gC,135,none⟩)]).run Tryz.prog w = .ok (.int .u8 22) w:=by kernel_rfl
theorem k9u (w:World):((ReflectliteType.abiMethod fun t=>(fun a:Nat=>Value.int IntKind.u8 (a:Int)) <$> Rtype.kind t) #[.pointer (some ⟨gC,128,none⟩)]).run Tryz.prog w = .ok (.int .u8 25) w:=by kernel_rfl
theorem jv3 (a:Addr) (w:World):(ReflectliteValue.parts (.agg #[.pointer (some ⟨gC,135,none⟩),.pointer (some a),.int .u64 150])).run Tryz.prog w = .ok (some (135,a,150)) w:=by kernel_rfl
theorem jpm:Tryz.prog.underlying 135=some (.pointer 128):=by kernel_rfl
theorem k3q (a p:Addr) (W:World) (ha:W.cell? a=some (.pointer (some p))) :
  (ReflectliteValue.method (ReflectliteValue.valueError "reflectlite.Value.IsNil" 0) ReflectliteValue.isNil #[.agg #[.pointer (some ⟨gC,135,none⟩),.pointer (some a),.int .u64 150]]).run Tryz.prog W = .ok (.bool false) W:=by
 rw [jy2]
 simp only [Sem.run_bind,jv3,Result.andThen]
 simp [ReflectliteValue.isNil,loadVar,isAgg,underlying,jpm,ha,Result.andThen]
theorem k6c (w:World):(ReflectliteType.method ReflectliteType.elem #[.agg #[.pointer (some ⟨gC,135,none⟩)]]).run Tryz.prog w = .ok (.iface 196 (.agg #[.pointer (some ⟨gC,128,none⟩)])) w:=by kernel_rfl
theorem k7f (w:World):(ReflectliteType.relation "Implements" ReflectliteType.implements_ #[.agg #[.pointer (some ⟨gC,128,none⟩)],.iface 196 (.agg #[.pointer (some ⟨gC,82,none⟩)])]).run Tryz.prog w = .ok (.bool true) w:=by kernel_rfl
theorem k2a (v:Value) (w:World):(ReflectliteType.typeOf #[.iface 128 v]).run Tryz.prog w = .ok (.iface 196 (.agg #[.pointer (some ⟨gC,128,none⟩)])) w:=by kernel_rfl
theorem k84 (w:World):(ReflectliteType.relation "AssignableTo" ReflectliteType.assignableTo #[.agg #[.pointer (some ⟨gC,128,none⟩)],.iface 196 (.agg #[.pointer (some ⟨gC,128,none⟩)])]).run Tryz.prog w = .ok (.bool true) w:=by kernel_rfl
theorem k67 (w:World):(Rtype.elem? 135).run Tryz.prog w = .ok (some 128) w:=by kernel_rfl
theorem asMkB (p:Addr) (w:World):(ReflectliteValue.mk 128 p ReflectliteValue.flagAddr).run Tryz.prog w = .ok (.agg #[.pointer (some ⟨gC,128,none⟩),.pointer (some p),.int .u64 409]) w:=by kernel_rfl
theorem jys (a p:Addr) (W:World) (ha:W.cell? a=some (.pointer (some p))) :
  (ReflectliteValue.method (ReflectliteValue.valueError "reflectlite.Value.Elem" 0) ReflectliteValue.elem #[.agg #[.pointer (some ⟨gC,135,none⟩),.pointer (some a),.int .u64 150]]).run Tryz.prog W
   = .ok (.agg #[.pointer (some ⟨gC,128,none⟩),.pointer (some p),.int .u64 409]) W:=by
 rw [jy2]
 simp only [Sem.run_bind,jv3,Result.andThen]
 simp [ReflectliteValue.elem,loadVar,isAgg,underlying,jpm,ha,Result.andThen,k67,asMkB]
theorem k9x (n:Int) (c:Value) (w:World):(ReflectliteValue.unpack (.iface 128 (.agg #[.int .i64 n,c]))).run Tryz.prog w
  = .ok (.agg #[.pointer (some ⟨gC,128,none⟩),.pointer (some ⟨w.heap.size,0,none⟩),.int .u64 153]) (w.alloc (.cells #[.int .i64 n,c] 128)):=by kernel_rfl
theorem k3c (a:Addr) (w:World):(ReflectliteValue.parts (.agg #[.pointer (some ⟨gC,128,none⟩),.pointer (some a),.int .u64 409])).run Tryz.prog w = .ok (some (128,a,409)) w:=by kernel_rfl
theorem k8g (a:Addr) (w:World):(ReflectliteValue.parts (.agg #[.pointer (some ⟨gC,128,none⟩),.pointer (some a),.int .u64 153])).run Tryz.prog w = .ok (some (128,a,153)) w:=by kernel_rfl
theorem k7z (w:World):(Rtype.directlyAssignable 128 128).run Tryz.prog w = .ok true w:=by kernel_rfl
theorem k7t (w:World):(sizeOf 128).run Tryz.prog w = .ok 2 w:=by kernel_rfl
theorem k5y (w:World):(ReflectliteType.relation "AssignableTo" ReflectliteType.assignableTo #[.agg #[.pointer (some ⟨gC,128,none⟩)],.iface 196 (.agg #[.pointer (some ⟨gC,126,none⟩)])]).run Tryz.prog w = .ok (.bool false) w:=by kernel_rfl
theorem asMU (v:Value) (w:World):(Go.method 406 128 v "Unwrap").run Tryz.prog w = .ok (255,v) w:=by kernel_rfl
end YtapfankgdkdkgaaGreatDoor.AM
end Go.Proofs
namespace Go.Proofs
open Go.RowKit Go.Extern.Stop Go.Stop Go.Extern
namespace YtapfankgdkdkgaaGreatDoor.AM
theorem k8z (w:World):(isAgg 126).run Tryz.prog w = .ok true w:=by kernel_rfl
theorem k82 (w:World):(isAgg 128).run Tryz.prog w = .ok true w:=by kernel_rfl
theorem k8o (tb b:Nat) (n:Int) (old:Value) (W:World) (hb:W.cell? ⟨b,0,none⟩=some (.int .i64 n)) (ht:W.cell? ⟨tb,0,none⟩=some old) (hf:W.frozen? ⟨tb,0,none⟩=false) :
  (ReflectliteValue.set #[.agg #[.pointer (some ⟨gC,126,none⟩),.pointer (some ⟨tb,0,none⟩),.int .u64 409],.agg #[.pointer (some ⟨gC,126,none⟩),.pointer (some ⟨b,0,none⟩),.int .u64 153]]).run Tryz.prog W
   = .ok (.tuple #[]) (W.setCell ⟨tb,0,none⟩ (.int .i64 n)):=by
 rw [k9s]
 simp only [Sem.run_bind,k3p,k81,Result.andThen]
 simp [ReflectliteValue.flagAddr,loadVar,k8z,k8c,loadCells,loadCellsFrom,Addr.add,hb,Result.andThen,k8q,storeVar,Value.cells,storeCells]
 rw [run_store Tryz.prog W ⟨tb,0,none⟩ _ _ (by rfl)]
 simp [ht,hf]
theorem k89 (tb b:Nat) (n:Int) (c:Value) (old old':Value) (W:World) (h1:c.oneCell'=true) (hb:W.cell? ⟨b,0,none⟩=some (.int .i64 n)) (hb':W.cell? ⟨b,1,none⟩=some c) (ht:W.cell? ⟨tb,0,none⟩=some old) (hf:W.frozen? ⟨tb,0,none⟩=false) (ht':W.cell? ⟨tb,1,none⟩=some old') (hf':W.frozen? ⟨tb,1,none⟩=false) :
  (ReflectliteValue.set #[.agg #[.pointer (some ⟨gC,128,none⟩),.pointer (some ⟨tb,0,none⟩),.int .u64 409],.agg #[.pointer (some ⟨gC,128,none⟩),.pointer (some ⟨b,0,none⟩),.int .u64 153]]).run Tryz.prog W
   = .ok (.tuple #[]) ((W.setCell ⟨tb,0,none⟩ (.int .i64 n)).setCell ⟨tb,1,none⟩ c):=by
 rw [k9s]
 simp only [Sem.run_bind,k3c,k8g,Result.andThen]
 simp [ReflectliteValue.flagAddr,loadVar,k82,k7t,loadCells,loadCellsFrom,Addr.add,hb,hb',Result.andThen,k7z,storeVar,Value.cells,storeCells]
 rw [run_store Tryz.prog W ⟨tb,0,none⟩ _ _ (by rfl)]
 simp [ht,hf,Sem.run_bind,Result.andThen]
 rw [run_store Tryz.prog _ ⟨tb,1,none⟩ _ _ h1]
 have e1:(W.setCell ⟨tb,0,none⟩ (.int .i64 n)).cell? ⟨tb,1,none⟩=some old':=(World.cell?_setCell_other _ _ _ _ (by simp)).trans ht'
 simp [e1,hf']
theorem asUnA:Tryz.prog.underlying 201=some (.interface (Tryz.prog.methodsAt 201)):=by kernel_rfl
theorem asUnU:Tryz.prog.underlying 204=some (.interface (Tryz.prog.methodsAt 204)):=by kernel_rfl
theorem k9q (v:Value) (xT:TypeId) (w:World):(Instr.typeAssert (.iface 128 v) xT 201 true).run Tryz.prog w = .ok (.tuple #[.nilIface,.bool false]) w:=run_typeAssert_lacksB asUnA (by kernel_rfl) (by kernel_rfl) v xT w
theorem k37 (v:Value) (xT:TypeId) (w:World):(Instr.typeAssert (.iface 128 v) xT 204 true).run Tryz.prog w = .ok (.tuple #[.iface 128 v,.bool true]) w:=run_typeAssert_hasB asUnU (by kernel_rfl) v xT w
set_option maxHeartbeats 4000000 in
theorem k4s (n:Int) (c:Value) (h1:c.oneCell'=true) (tb:Nat) (old old':Value) (w:World) (hg:w.cell? ⟨0,0,none⟩=some (.iface 196 (.agg #[.pointer (some ⟨gC,82,none⟩)]))) (ht0:w.cell? ⟨tb,0,none⟩=some old) (hf0:w.frozen? ⟨tb,0,none⟩=false) (ht0':w.cell? ⟨tb,1,none⟩=some old') (hf0':w.frozen? ⟨tb,1,none⟩=false) :
  Calls Tryz.prog 66 #[.iface 128 (.agg #[.int .i64 n,c]),.iface 135 (.pointer (some ⟨tb,0,none⟩))] w fun ev w'=>ev = .returned (.bool true)∧w'=(((((w.alloc (.cells #[.pointer (some ⟨tb,0,none⟩)] 135)).alloc (.cells #[.pointer (some ⟨gC,135,none⟩),.pointer (some ⟨w.heap.size,0,none⟩),.int .u64 150] 167)).alloc (.cells #[.pointer (some ⟨gC,135,none⟩),.pointer (some ⟨w.heap.size,0,none⟩),.int .u64 150] 167)).alloc (.cells #[.int .i64 n,c] 128)).setCell ⟨tb,0,none⟩ (.int .i64 n)).setCell ⟨tb,1,none⟩ c:=by
 have h6:=@run_callFunc_extern Tryz.prog 98 _ (fun args=>ReflectliteValue.unpack (args.getD 0 (.tuple #[]))) Tryz.func98 (by kernel_rfl) (by kernel_rfl) (by kernel_rfl) (by kernel_rfl)
 have h7:=@run_callFunc_extern Tryz.prog 99 _ (ReflectliteValue.methodAny (ReflectliteValue.valueError "reflectlite.Value.Type" 0) (fun t _ _ _=>ReflectliteType.toType t)) Tryz.func99 (by kernel_rfl) (by kernel_rfl) (by kernel_rfl) (by kernel_rfl)
 have h8:=@run_callFunc_extern Tryz.prog 100 _ (ReflectliteValue.method (ReflectliteValue.valueError "reflectlite.Value.IsNil" 0) ReflectliteValue.isNil) Tryz.func100 (by kernel_rfl) (by kernel_rfl) (by kernel_rfl) (by kernel_rfl)
 have h27:=@run_callFunc_extern Tryz.prog 250 _ (ReflectliteType.abiMethod fun t=>do pure (.int .u8 (← Rtype.kind t))) Tryz.func250 (by kernel_rfl) (by kernel_rfl) (by kernel_rfl) (by kernel_rfl)
 have h37:=@run_callFunc_extern Tryz.prog 263 _ (ReflectliteType.method ReflectliteType.elem) Tryz.func263 (by kernel_rfl) (by kernel_rfl) (by kernel_rfl) (by kernel_rfl)
 have h38:=@run_callFunc_extern Tryz.prog 264 _ (ReflectliteType.relation "Implements" ReflectliteType.implements_) Tryz.func264 (by kernel_rfl) (by kernel_rfl) (by kernel_rfl) (by kernel_rfl)
 have h10:=@run_callFunc_extern Tryz.prog 127 _ ReflectliteType.typeOf Tryz.func127 (by kernel_rfl) (by kernel_rfl) (by kernel_rfl) (by kernel_rfl)
 have h35:=@run_callFunc_extern Tryz.prog 261 _ (ReflectliteType.relation "AssignableTo" ReflectliteType.assignableTo) Tryz.func261 (by kernel_rfl) (by kernel_rfl) (by kernel_rfl) (by kernel_rfl)
 have h11:=@run_callFunc_extern Tryz.prog 128 _ (ReflectliteValue.method (ReflectliteValue.valueError "reflectlite.Value.Elem" 0) ReflectliteValue.elem) Tryz.func128 (by kernel_rfl) (by kernel_rfl) (by kernel_rfl) (by kernel_rfl)
 have h12:=@run_callFunc_extern Tryz.prog 129 _ ReflectliteValue.set Tryz.func129 (by kernel_rfl) (by kernel_rfl) (by kernel_rfl) (by kernel_rfl)
 have tO:=k2a
 have mA:=asMA
 have a25:=k84
 have v25:=k9x
 have f6:=k58
 have f7:=k5r
 have mK:=asMK
 have mE:=asME
 have mI:=asMI
 have k27:=k3m
 have k25:=k9u
 have e27:=k6c
 have i25:=k7f
 have n8:=k3q ⟨w.heap.size,0,none⟩ ⟨tb,0,none⟩ ((w.alloc (.cells #[.pointer (some ⟨tb,0,none⟩)] 135)).alloc (.cells #[.pointer (some ⟨gC,135,none⟩),.pointer (some ⟨w.heap.size,0,none⟩),.int .u64 150] 167)) (by simp)
 have hlt:0<w.heap.size:=World.block_lt_of_cell? _ _ hg
 have htl:tb<w.heap.size:=World.block_lt_of_cell? _ _ ht0
 have hg2:((w.alloc (.cells #[.pointer (some ⟨tb,0,none⟩)] 135)).alloc (.cells #[.pointer (some ⟨gC,135,none⟩),.pointer (some ⟨w.heap.size,0,none⟩),.int .u64 150] 167)).cell? ⟨0,0,none⟩=some (.iface 196 (.agg #[.pointer (some ⟨gC,82,none⟩)])):=by
  rw [World.cell?_alloc_lt _ _ ⟨_,0,none⟩ (by simp<;>omega),World.cell?_alloc_lt _ _ ⟨_,0,none⟩ hlt];exact hg
 have el:=jys ⟨w.heap.size,0,none⟩ ⟨tb,0,none⟩ (((w.alloc (.cells #[.pointer (some ⟨tb,0,none⟩)] 135)).alloc (.cells #[.pointer (some ⟨gC,135,none⟩),.pointer (some ⟨w.heap.size,0,none⟩),.int .u64 150] 167)).alloc (.cells #[.pointer (some ⟨gC,135,none⟩),.pointer (some ⟨w.heap.size,0,none⟩),.int .u64 150] 167)) (by rw [World.cell?_alloc_lt _ _ ⟨w.heap.size,0,none⟩ (by simp;omega)];simp)
 have st:=k89 tb (w.heap.size+1+1+1) n c old old' ((((w.alloc (.cells #[.pointer (some ⟨tb,0,none⟩)] 135)).alloc (.cells #[.pointer (some ⟨gC,135,none⟩),.pointer (some ⟨w.heap.size,0,none⟩),.int .u64 150] 167)).alloc (.cells #[.pointer (some ⟨gC,135,none⟩),.pointer (some ⟨w.heap.size,0,none⟩),.int .u64 150] 167)).alloc (.cells #[.int .i64 n,c] 128))
  h1
  (by rw [World.cell?_alloc_at _ _ _ _ (by simp)];rfl)
  (by rw [World.cell?_alloc_at _ _ _ _ (by simp)];rfl)
  (by rw [World.cell?_alloc_lt _ _ ⟨tb,0,none⟩ (by simp;omega),World.cell?_alloc_lt _ _ ⟨tb,0,none⟩ (by simp;omega),World.cell?_alloc_lt _ _ ⟨tb,0,none⟩ (by simp;omega),World.cell?_alloc_lt _ _ ⟨tb,0,none⟩ htl];exact ht0)
  (by rw [World.frozen?_alloc_old _ _ ⟨tb,0,none⟩ (by simp;omega),World.frozen?_alloc_old _ _ ⟨tb,0,none⟩ (by simp;omega),World.frozen?_alloc_old _ _ ⟨tb,0,none⟩ (by simp;omega),World.frozen?_alloc_old _ _ ⟨tb,0,none⟩ (Nat.ne_of_lt htl)];exact hf0)
  (by rw [World.cell?_alloc_lt _ _ ⟨tb,1,none⟩ (by simp;omega),World.cell?_alloc_lt _ _ ⟨tb,1,none⟩ (by simp;omega),World.cell?_alloc_lt _ _ ⟨tb,1,none⟩ (by simp;omega),World.cell?_alloc_lt _ _ ⟨tb,1,none⟩ htl];exact ht0')
  (by rw [World.frozen?_alloc_old _ _ ⟨tb,1,none⟩ (by simp;omega),World.frozen?_alloc_old _ _ ⟨tb,1,none⟩ (by simp;omega),World.frozen?_alloc_old _ _ ⟨tb,1,none⟩ (by simp;omega),World.frozen?_alloc_old _ _ ⟨tb,1,none⟩ (Nat.ne_of_lt htl)];exact hf0')
 go_enter Tryz.func66,Tryz.ntmps66
 go_wp2
 refine wp_loop_rounds 1 ?_
 rw [rounds_succ]
 go_wp2
 go_ret
 exact ⟨rfl,rfl⟩
set_option maxHeartbeats 4000000 in
theorem k3o (m n:Int) (tb:Nat) (old:Value) (w:World) (hg:w.cell? ⟨0,0,none⟩=some (.iface 196 (.agg #[.pointer (some ⟨gC,82,none⟩)]))) (ht0:w.cell? ⟨tb,0,none⟩=some old) (hf0:w.frozen? ⟨tb,0,none⟩=false) :
  Calls Tryz.prog 66 #[.iface 128 (.agg #[.int .i64 m,.iface 126 (.agg #[.int .i64 n])]),.iface 136 (.pointer (some ⟨tb,0,none⟩))] w fun ev w'=>ev = .returned (.bool true)∧w'=(((((w.alloc (.cells #[.pointer (some ⟨tb,0,none⟩)] 136)).alloc (.cells #[.pointer (some ⟨gC,136,none⟩),.pointer (some ⟨w.heap.size,0,none⟩),.int .u64 150] 167)).alloc (.cells #[.pointer (some ⟨gC,136,none⟩),.pointer (some ⟨w.heap.size,0,none⟩),.int .u64 150] 167)).alloc (.cells #[.int .i64 m,.iface 126 (.agg #[.int .i64 n])] 128)).alloc (.cells #[.int .i64 n] 126)).setCell ⟨tb,0,none⟩ (.int .i64 n):=by
 have h6:=@run_callFunc_extern Tryz.prog 98 _ (fun args=>ReflectliteValue.unpack (args.getD 0 (.tuple #[]))) Tryz.func98 (by kernel_rfl) (by kernel_rfl) (by kernel_rfl) (by kernel_rfl)
 have h7:=@run_callFunc_extern Tryz.prog 99 _ (ReflectliteValue.methodAny (ReflectliteValue.valueError "reflectlite.Value.Type" 0) (fun t _ _ _=>ReflectliteType.toType t)) Tryz.func99 (by kernel_rfl) (by kernel_rfl) (by kernel_rfl) (by kernel_rfl)
 have h8:=@run_callFunc_extern Tryz.prog 100 _ (ReflectliteValue.method (ReflectliteValue.valueError "reflectlite.Value.IsNil" 0) ReflectliteValue.isNil) Tryz.func100 (by kernel_rfl) (by kernel_rfl) (by kernel_rfl) (by kernel_rfl)
 have h27:=@run_callFunc_extern Tryz.prog 250 _ (ReflectliteType.abiMethod fun t=>do pure (.int .u8 (← Rtype.kind t))) Tryz.func250 (by kernel_rfl) (by kernel_rfl) (by kernel_rfl) (by kernel_rfl)
 have h37:=@run_callFunc_extern Tryz.prog 263 _ (ReflectliteType.method ReflectliteType.elem) Tryz.func263 (by kernel_rfl) (by kernel_rfl) (by kernel_rfl) (by kernel_rfl)
 have h38:=@run_callFunc_extern Tryz.prog 264 _ (ReflectliteType.relation "Implements" ReflectliteType.implements_) Tryz.func264 (by kernel_rfl) (by kernel_rfl) (by kernel_rfl) (by kernel_rfl)
 have h10:=@run_callFunc_extern Tryz.prog 127 _ ReflectliteType.typeOf Tryz.func127 (by kernel_rfl) (by kernel_rfl) (by kernel_rfl) (by kernel_rfl)
 have h35:=@run_callFunc_extern Tryz.prog 261 _ (ReflectliteType.relation "AssignableTo" ReflectliteType.assignableTo) Tryz.func261 (by kernel_rfl) (by kernel_rfl) (by kernel_rfl) (by kernel_rfl)
 have h11:=@run_callFunc_extern Tryz.prog 128 _ (ReflectliteValue.method (ReflectliteValue.valueError "reflectlite.Value.Elem" 0) ReflectliteValue.elem) Tryz.func128 (by kernel_rfl) (by kernel_rfl) (by kernel_rfl) (by kernel_rfl)
 have h12:=@run_callFunc_extern Tryz.prog 129 _ ReflectliteValue.set Tryz.func129 (by kernel_rfl) (by kernel_rfl) (by kernel_rfl) (by kernel_rfl)
 have tO:=k9p
 have mA:=asMA
 have a25:=k7e
 have b25:=k5y
 have tB:=k2a
 have mU:=asMU
 have nA:=k9q
 have yU:=k37
 have v25:=k9w
 have f6:=k3a
 have f7:=k43
 have mK:=asMK
 have mE:=asME
 have mI:=asMI
 have k27:=k4r
 have k25:=k9k
 have e27:=k3i
 have i25:=k7l
 have n8:=k56 ⟨w.heap.size,0,none⟩ ⟨tb,0,none⟩ ((w.alloc (.cells #[.pointer (some ⟨tb,0,none⟩)] 136)).alloc (.cells #[.pointer (some ⟨gC,136,none⟩),.pointer (some ⟨w.heap.size,0,none⟩),.int .u64 150] 167)) (by simp)
 have hlt:0<w.heap.size:=World.block_lt_of_cell? _ _ hg
 have htl:tb<w.heap.size:=World.block_lt_of_cell? _ _ ht0
 have hg2:((w.alloc (.cells #[.pointer (some ⟨tb,0,none⟩)] 136)).alloc (.cells #[.pointer (some ⟨gC,136,none⟩),.pointer (some ⟨w.heap.size,0,none⟩),.int .u64 150] 167)).cell? ⟨0,0,none⟩=some (.iface 196 (.agg #[.pointer (some ⟨gC,82,none⟩)])):=by
  rw [World.cell?_alloc_lt _ _ ⟨_,0,none⟩ (by simp<;>omega),World.cell?_alloc_lt _ _ ⟨_,0,none⟩ hlt];exact hg
 have el:=k1l ⟨w.heap.size,0,none⟩ ⟨tb,0,none⟩ ((((w.alloc (.cells #[.pointer (some ⟨tb,0,none⟩)] 136)).alloc (.cells #[.pointer (some ⟨gC,136,none⟩),.pointer (some ⟨w.heap.size,0,none⟩),.int .u64 150] 167)).alloc (.cells #[.pointer (some ⟨gC,136,none⟩),.pointer (some ⟨w.heap.size,0,none⟩),.int .u64 150] 167)).alloc (.cells #[.int .i64 m,.iface 126 (.agg #[.int .i64 n])] 128)) (by rw [World.cell?_alloc_lt _ _ ⟨w.heap.size,0,none⟩ (by simp;omega),World.cell?_alloc_lt _ _ ⟨w.heap.size,0,none⟩ (by simp;omega)];simp)
 have st:=k8o tb (w.heap.size+1+1+1+1) n old (((((w.alloc (.cells #[.pointer (some ⟨tb,0,none⟩)] 136)).alloc (.cells #[.pointer (some ⟨gC,136,none⟩),.pointer (some ⟨w.heap.size,0,none⟩),.int .u64 150] 167)).alloc (.cells #[.pointer (some ⟨gC,136,none⟩),.pointer (some ⟨w.heap.size,0,none⟩),.int .u64 150] 167)).alloc (.cells #[.int .i64 m,.iface 126 (.agg #[.int .i64 n])] 128)).alloc (.cells #[.int .i64 n] 126))
  (by rw [World.cell?_alloc_at _ _ _ _ (by simp)];rfl)
  (by rw [World.cell?_alloc_lt _ _ ⟨tb,0,none⟩ (by simp;omega),World.cell?_alloc_lt _ _ ⟨tb,0,none⟩ (by simp;omega),World.cell?_alloc_lt _ _ ⟨tb,0,none⟩ (by simp;omega),World.cell?_alloc_lt _ _ ⟨tb,0,none⟩ (by simp;omega),World.cell?_alloc_lt _ _ ⟨tb,0,none⟩ htl];exact ht0)
  (by rw [World.frozen?_alloc_old _ _ ⟨tb,0,none⟩ (by simp;omega),World.frozen?_alloc_old _ _ ⟨tb,0,none⟩ (by simp;omega),World.frozen?_alloc_old _ _ ⟨tb,0,none⟩ (by simp;omega),World.frozen?_alloc_old _ _ ⟨tb,0,none⟩ (by simp;omega),World.frozen?_alloc_old _ _ ⟨tb,0,none⟩ (Nat.ne_of_lt htl)];exact hf0)
 go_enter Tryz.func66,Tryz.ntmps66
 go_wp2
 refine wp_loop_rounds 2 ?_
 rw [rounds_succ]
 go_wp2
 rw [rounds_succ]
 go_wp2
 go_ret
 exact ⟨rfl,rfl⟩
end YtapfankgdkdkgaaGreatDoor.AM
end Go.Proofs
namespace Go.Proofs.YtapfankgdkdkgaaGreatDoor.AM
abbrev Yy:=List UInt8
abbrev Vv:=Int×(Int×(Int×(Yy×Yy)))
abbrev Qq:=Yy×Vv
abbrev LQ:=List Qq
open Go.RowKit
inductive Dat where
 | v (x:Value)
 | lst (sz:Nat) (xs:List (List Dat))
def q0j {α β:Type} (r:α→β→Prop):List α→List β→Prop
 | [],[]=>True
 | a::asx,b::bs=>r a b∧q0j r asx bs
 | _,_=>False
theorem q0j.length {α β:Type} {r:α→β→Prop} : ∀ {l:List α} {m:List β},q0j r l m→l.length=m.length
 | [],[],_=>rfl
 | _::_,_::_,h=>congrArg (· + 1) (q0j.length h.2)
 | [],_::_,h=>h.elim
 | _::_,[],h=>h.elim
theorem q0j.mono {α β:Type} {r r':α→β→Prop} (hr : ∀ a b,r a b→r' a b) : ∀ {l:List α} {m:List β},q0j r l m→q0j r' l m
 | [],[],_=>trivial
 | _::_,_::_,h=>⟨hr _ _ h.1,q0j.mono hr h.2⟩
 | [],_::_,h=>h.elim
 | _::_,[],h=>h.elim
theorem q0j.get {α β:Type} {r:α→β→Prop} : ∀ {l:List α} {m:List β},q0j r l m→∀ (i:Nat) (hi:i<l.length) (hj:i<m.length),r l[i] m[i]
 | _::_,_::_,h,0,_,_=>h.1
 | _::_,_::_,h,i+1,hi,hj=>q0j.get h.2 i (by simpa using hi) (by simpa using hj)
 | [],_,_,i,hi,_=>absurd hi (by simp)
theorem q0j.mk {α β:Type} {r:α→β→Prop} : ∀ {l:List α} {m:List β},l.length=m.length→(∀ (i:Nat) (hi:i<l.length) (hj:i<m.length),r l[i] m[i])→q0j r l m
 | [],[],_,_=>trivial
 | a::asx,b::bs,hl,h=>⟨h 0 (by simp) (by simp),q0j.mk (by simpa using hl) (fun i hi hj=>h (i+1) (by simpa using hi) (by simpa using hj))⟩
 | [],_::_,hl,_=>by simp at hl
 | _::_,[],hl,_=>by simp at hl
theorem q0j.drop {α β:Type} {r:α→β→Prop} : ∀ {l:List α} {m:List β},q0j r l m→∀ (n:Nat),q0j r (l.drop n) (m.drop n)
 | _,_,h,0=>by simpa using h
 | [],[],_,n+1=>by simp [q0j]
 | _::_,_::_,h,n+1=>by simpa using q0j.drop h.2 n
 | [],_::_,h,_=>h.elim
 | _::_,[],h,_=>h.elim
theorem q0j.take {α β:Type} {r:α→β→Prop} : ∀ {l:List α} {m:List β},q0j r l m→∀ (n:Nat),q0j r (l.take n) (m.take n)
 | _,_,_,0=>by simp [q0j]
 | [],[],_,n+1=>by simp [q0j]
 | _::_,_::_,h,n+1=>by simpa using ⟨h.1,q0j.take h.2 n⟩
 | [],_::_,h,_=>h.elim
 | _::_,[],h,_=>h.elim
theorem q0j.append {α β:Type} {r:α→β→Prop} : ∀ {l:List α} {m:List β} {l':List α} {m':List β},q0j r l m→q0j r l' m'→q0j r (l++l') (m++m')
 | [],[],_,_,_,h=>h
 | _::_,_::_,_,_,h,h'=>⟨h.1,q0j.append h.2 h'⟩
 | [],_::_,_,_,h,_=>h.elim
 | _::_,[],_,_,h,_=>h.elim
inductive DatRep (Pc:Nat→Nat→Prop) (w:World):Value→Dat→Prop
 | v (x:Value):DatRep Pc w x (.v x)
 | lst (a:Option Addr) (n cap sz:Nat) (xs:List (List Dat)) (b off:Nat) (c:Nat→Nat→Value)
   (hn:n=xs.length) (hcap:n≤cap) (hmax:cap≤maxLen) (hsz : ∀ x∈xs,x.length=sz)
   (ha:0<xs.length→a=some ⟨b,off,none⟩)
   (hc : ∀ k j,k<xs.length→j<sz→Pc b (off+k*sz+j)∧w.cell? ⟨b,off+k*sz+j,none⟩=some (c k j)∧(c k j).oneCell'=true)
   (hr : ∀ (k j:Nat) (hk:k<xs.length) (hj:j<(xs[k]).length),DatRep Pc w (c k j) ((xs[k])[j])) :
   DatRep Pc w (.slice a n cap) (.lst sz xs)
theorem DatRep.mono {Pc Pc':Nat→Nat→Prop} {w w':World} (hP : ∀ b o,Pc b o→Pc' b o) (hw : ∀ b o,Pc b o→w'.cell? ⟨b,o,none⟩=w.cell? ⟨b,o,none⟩) {x:Value} {d:Dat} (h:DatRep Pc w x d) :
  DatRep Pc' w' x d:=by
 induction h with
 | v x=>exact .v x
 | lst a n cap sz xs b off c hn hcap hmax hsz ha hc hr ih =>
  exact .lst a n cap sz xs b off c hn hcap hmax hsz ha (fun k j hk hj=>⟨hP _ _ (hc k j hk hj).1,(hw _ _ (hc k j hk hj).1).trans (hc k j hk hj).2.1,(hc k j hk hj).2.2⟩) ih
structure Row where
 gen:Nat
 E:Nat
 sz:Nat
 wr:Bool
 xs:List (List Dat)
inductive C where
 | d (x:Dat)
 | box (β off:Nat)
 | bsl (β n:Nat)
 | row (t g:Nat)
 | rp (cs:List Dat)
 | wp (t g k off:Nat)
 | fn (f:Nat) (caps:List Nat)
 | mv (β:Nat)
 | bad
inductive D1 where
 | c (x:C)
 | agg (cs:List C)
inductive D where
 | one (x:D1)
 | tup (xs:List D1)
structure Env where
 m:Nat→Nat
 rv:Nat→Nat→Value
 Pc:Nat→Nat→Prop
structure St where
 slot:Nat→D
 box:Nat→Option (Nat×List C)
 row:Nat→Option Row
def q2v (e:Env) (σ:St) (w:World) (v:Value):C→Prop
 | .d x=>DatRep e.Pc w v x
 | .box β off=>(σ.box β).isSome=true∧v = .pointer (some ⟨e.m β,off,none⟩)
 | .bsl β n=>(σ.box β).isSome=true∧v = .slice (some ⟨e.m β,0,none⟩) n n
 | .row t g=>(∃ r,σ.row t=some r∧g≤r.gen)∧v=e.rv t g∧∃ a n c,v = .slice a n c
 | .rp cs=>∃ b o,v = .pointer (some ⟨b,o,none⟩)∧∃ us:List Value,q0j (DatRep e.Pc w) us cs∧∀ (j:Nat) (h:j<us.length),e.Pc b (o+j)∧w.cell? ⟨b,o+j,none⟩=some us[j]∧(us[j]).oneCell'=true
 | .wp t g k off=>∃ r b,σ.row t=some r∧g≤r.gen∧(e.rv t g).ownBlock=some b∧v = .pointer (some ⟨b,k*r.sz+off,none⟩)
 | .fn f caps=>(∀ β∈caps,(σ.box β).isSome=true)∧v = .func (.func f) #[] (caps.map fun β=>Value.pointer (some ⟨e.m β,0,none⟩)).toArray
 | .mv β=>(σ.box β).isSome=true∧v = .map (some (e.m β))
 | .bad=>True
def q9g (e:Env) (σ:St) (w:World) (v:Value):D1→Prop
 | .c x=>q2v e σ w v x
 | .agg cs=>∃ vs:Array Value,v = .agg vs∧q0j (q2v e σ w) vs.toList cs
def q2a (e:Env) (σ:St) (w:World) (v:Value):D→Prop
 | .one x=>q9g e σ w v x
 | .tup xs=>∃ vs:Array Value,v = .tuple vs∧q0j (q9g e σ w) vs.toList xs
structure Fwd (e:Env) (σ:St) (w:World) (e':Env) (σ':St) (w':World):Prop where
 pc : ∀ b o,e.Pc b o→e'.Pc b o
 cell : ∀ b o,e.Pc b o→w'.cell? ⟨b,o,none⟩=w.cell? ⟨b,o,none⟩
 box : ∀ β,(σ.box β).isSome=true→(σ'.box β).isSome=true∧e'.m β=e.m β
 row : ∀ t r g,σ.row t=some r→g≤r.gen→(∃ r',σ'.row t=some r'∧g≤r'.gen∧r'.sz=r.sz)∧e'.rv t g=e.rv t g
section
variable {e e' e'':Env} {σ σ' σ'':St} {w w' w'':World}
theorem Fwd.refl (e:Env) (σ:St) (w:World):Fwd e σ w e σ w:=⟨fun _ _ h=>h,fun _ _ _=>rfl,fun _ h=>⟨h,rfl⟩,fun t r g h hg=>⟨⟨r,h,hg,rfl⟩,rfl⟩⟩
theorem q2v.fwd (h:Fwd e σ w e' σ' w') {v:Value} {c:C} (hc:q2v e σ w v c):q2v e' σ' w' v c:=by
 cases c with
 | d x=>exact DatRep.mono h.pc h.cell hc
 | box β off=>exact ⟨(h.box β hc.1).1,by rw [(h.box β hc.1).2];exact hc.2⟩
 | bsl β n=>exact ⟨(h.box β hc.1).1,by rw [(h.box β hc.1).2];exact hc.2⟩
 | row t g =>
  obtain ⟨⟨r,h1,h2⟩,h3⟩:=hc
  obtain ⟨⟨r',h4,h6,_⟩,h5⟩:=h.row t r g h1 h2
  exact ⟨⟨r',h4,h6⟩,by rw [h5];exact h3.1,h3.2⟩
 | rp cs =>
  obtain ⟨b,o,h1,us,h2,h3⟩:=hc
  exact ⟨b,o,h1,us,h2.mono fun _ _=>DatRep.mono h.pc h.cell,fun j hj=>⟨h.pc _ _ (h3 j hj).1,(h.cell _ _ (h3 j hj).1).trans (h3 j hj).2.1,(h3 j hj).2.2⟩⟩
 | wp t g k off =>
  obtain ⟨r,b,h1,h2,h3,h4⟩:=hc
  obtain ⟨⟨r',h5,h6,h7⟩,h8⟩:=h.row t r g h1 h2
  exact ⟨r',b,h5,h6,by rw [h8];exact h3,by rw [h7];exact h4⟩
 | fn f caps =>
  refine ⟨fun β hβ=>(h.box β (hc.1 β hβ)).1,?_⟩
  rw [hc.2]
  congr 2
  apply List.map_congr_left
  intro β hβ
  rw [(h.box β (hc.1 β hβ)).2]
 | mv β=>exact ⟨(h.box β hc.1).1,by rw [(h.box β hc.1).2];exact hc.2⟩
 | bad=>trivial
theorem q9g.fwd (h:Fwd e σ w e' σ' w') {v:Value} {c:D1} (hc:q9g e σ w v c):q9g e' σ' w' v c:=by
 cases c with
 | c x=>exact q2v.fwd h hc
 | agg cs=>obtain ⟨vs,h1,h2⟩:=hc;exact ⟨vs,h1,h2.mono fun _ _=>q2v.fwd h⟩
theorem q2a.fwd (h:Fwd e σ w e' σ' w') {v:Value} {c:D} (hc:q2a e σ w v c):q2a e' σ' w' v c:=by
 cases c with
 | one x=>exact q9g.fwd h hc
 | tup xs=>obtain ⟨vs,h1,h2⟩:=hc;exact ⟨vs,h1,h2.mono fun _ _=>q9g.fwd h⟩
end
def mKw (T:Nat):Nat:=T / 4096 % 1024
def mKa (T:Nat):Bool:=Nat.beq (T / 2048 % 2) 1
def mVw (T:Nat):Nat:=T / 2 % 1024
def mVa (T:Nat):Bool:=Nat.beq (T % 2) 1
def valOf (ag:Bool) (us:List Value):Value:=match ag with
 | true=>.agg us.toArray
 | false=>us.headD undef
def qrs (T:Nat):Nat→List (List Value)→List MapEntry
 | _,[]=>[]
 | i,us::es=>{ key:=valOf (mKa T) (us.take (mKw T)),val:=valOf (mVa T) (us.drop (mKw T)),born:=i } :: qrs T (i+1) es
def MapR (Pc:Nat→Nat→Prop) (w:World) (b T sz:Nat) (xs:List (List Dat)):Prop :=
 sz=mKw T+mVw T∧∃ es:List (List Value),w.heap[b]? = some (.map (qrs T 0 es).toArray es.length)∧q0j (fun us x=>q0j (DatRep Pc w) us x∧us.length=sz∧∀ u∈us,u.oneCell'=true) es xs
def j5h (e:Env) (σ:St) (w:World) (b T:Nat) (cs:List C):Prop :=
 (T<2199023255552∧∃ vs:Array Value,w.heap[b]? = some (.cells vs T (0,0))∧q0j (q2v e σ w) vs.toList cs∧∀ u∈vs.toList,u.oneCell'=true) ∨
 (2199023255552≤T∧∃ sz xs,cs = [.d (.lst sz xs)]∧MapR e.Pc w b T sz xs)
theorem MapR.mono {Pc Pc':Nat→Nat→Prop} {w w':World} {b T sz:Nat} {xs:List (List Dat)} (hP : ∀ b o,Pc b o→Pc' b o) (hw : ∀ b o,Pc b o→w'.cell? ⟨b,o,none⟩=w.cell? ⟨b,o,none⟩) (hb:w'.heap[b]? = w.heap[b]?) (h:MapR Pc w b T sz xs):MapR Pc' w' b T sz xs:=by
 obtain ⟨h1,es,h2,h3⟩:=h
 exact ⟨h1,es,hb.trans h2,h3.mono fun us x ⟨k1,k2⟩=>⟨k1.mono fun _ _=>DatRep.mono hP hw,k2⟩⟩
theorem j5h.fwd {e e':Env} {σ σ':St} {w w':World} {b T:Nat} {cs:List C} (hf:Fwd e σ w e' σ' w') (hb:w'.heap[b]? = w.heap[b]?) (h:j5h e σ w b T cs):j5h e' σ' w' b T cs:=by
 rcases h with ⟨h0,vs,h1,h2,h3⟩|⟨h0,sz,xs,h1,h2⟩
 ·exact Or.inl ⟨h0,vs,hb.trans h1,h2.mono fun _ _=>q2v.fwd hf,h3⟩
 ·exact Or.inr ⟨h0,sz,xs,h1,h2.mono hf.pc hf.cell hb⟩
theorem j5h.lt {e:Env} {σ:St} {w:World} {b T:Nat} {cs:List C} (h:j5h e σ w b T cs):b<w.heap.size:=by
 rcases h with ⟨_,vs,h1,_⟩|⟨_,sz,xs,_,_,es,h1,_⟩
 ·exact (Array.getElem?_eq_some_iff.1 h1).1
 ·exact (Array.getElem?_eq_some_iff.1 h1).1
theorem j5h.cells {e:Env} {σ:St} {w:World} {b T:Nat} {cs:List C} (h:j5h e σ w b T cs) (hT:T<2199023255552) : ∃ vs:Array Value,w.heap[b]? = some (.cells vs T (0,0))∧q0j (q2v e σ w) vs.toList cs∧∀ u∈vs.toList,u.oneCell'=true:=by
 rcases h with ⟨_,h1⟩|⟨h0,_⟩
 ·exact h1
 ·omega
def Stab (G:World→Prop):Prop:=∀ w w',G w→Below w.heap.size w w'→G w'
structure Fr where
 n:Nat
 w0:World
 Pc:Nat→Nat→Prop
 G:World→Prop
 g0:G w0
 gst:Stab G
 K:Nat→Prop:=fun _=>False
 wk:World:=w0
 kLt : ∀ b,K b→b<wk.heap.size:=by intro b h;exact h.elim
 m0:Nat→Option Nat:=fun _=>none
 m0ge : ∀ β a,m0 β=some a→1000000≤β:=by intro β a h;cases h
def tyOf (E:Nat):Nat:=E % 1099511627776
def k35 (E n:Nat):Nat×Nat:=if E<1099511627776 then (0,0) else (n,n+1)
def q9c (w:World) (base:Nat) (E size:Nat) (v:Value) (n:Nat) (xs:List Value):Prop :=
 xs.length=n*size ∧
 (
  (v = .slice none 0 0∧n=0) ∨
  ∃ g cap cur,v = .slice (some ⟨g,0,none⟩) n cap∧base≤g∧w.heap[g]? = some (.cells cur (tyOf E) (k35 E cur.size))∧n≤cap∧cap≤maxLen∧cur.size=cap*size∧cur.toList.take (n*size)=xs)
theorem q7o {w:World} {base E size n:Nat} {v:Value} {xs:List Value} (h:E<1099511627776):q9c w base E size v n xs↔w.ownsRow base E size v n xs:=by
 unfold q9c World.ownsRow tyOf k35
 rw [Nat.mod_eq_of_lt h]
 simp only [h,if_true]
theorem js4 (w:World) (base E size:Nat):q9c w base E size (.slice none 0 0) 0 []:=⟨by simp,.inl ⟨rfl,rfl⟩⟩
theorem q9c.lt {w:World} {base E size n:Nat} {v:Value} {xs:List Value} (h:q9c w base E size v n xs) : ∀ k,v.ownBlock=some k→base≤k∧k<w.heap.size:=by
 intro k hk
 rcases h.2 with ⟨rfl,_⟩|⟨g,cap,cur,rfl,hb,hg,_⟩
 ·simp [Value.ownBlock] at hk
 ·simp [Value.ownBlock] at hk
  subst hk
  exact ⟨hb,(Array.getElem?_eq_some_iff.1 hg).1⟩
theorem q9c.cells {w:World} {base E size n:Nat} {v:Value} {xs:List Value} (h:q9c w base E size v n xs) {g:Nat} (hg:v.ownBlock=some g) : ∀ j u,xs[j]? = some u→w.cell? ((⟨g,0,none⟩:Addr).add j)=some u:=by
 intro j u hu
 rcases h.2 with ⟨rfl,_⟩|⟨g',cap,cur,rfl,_,hgg,_,_,_,htake⟩
 ·simp [Value.ownBlock] at hg
 ·simp [Value.ownBlock] at hg
  subst hg
  have hadd:(⟨g',0,none⟩:Addr).add j=⟨g',j,none⟩:=by unfold Addr.add;split<;>simp_all
  rw [hadd,cell_of_row w g' j cur _ _ hgg]
  rw [← htake,List.getElem?_take] at hu
  split at hu
  ·simpa using hu
  ·cases hu
theorem q9c.alloc {w:World} {base E size n:Nat} {v:Value} {xs:List Value} (h:q9c w base E size v n xs) (o:Obj):q9c (w.alloc o) base E size v n xs:=by
 refine ⟨h.1,?_⟩
 rcases h.2 with hn|⟨g,cap,cur,hv,hb,hgg,rest⟩
 ·exact .inl hn
 ·exact .inr ⟨g,cap,cur,hv,hb,(Below.heap_alloc w o g (Array.getElem?_eq_some_iff.1 hgg).1).trans hgg,rest⟩
structure Kp (F:Fr) (σ:St) (e:Env) (w:World):Prop where
 keep : ∀ b,F.K b→w.heap[b]? = F.wk.heap[b]?
 wkLe:F.wk.heap.size≤w.heap.size
 boxK : ∀ β,(σ.box β).isSome=true→¬ F.K (e.m β)
 rowK : ∀ t r b,σ.row t=some r→(e.rv t r.gen).ownBlock=some b→¬ F.K b
 pcK : ∀ b o,e.Pc b o→F.Pc b o ∨ ¬ F.K b
 cellK : ∀ b o,F.Pc b o→w.cell? ⟨b,o,none⟩=F.wk.cell? ⟨b,o,none⟩
 boxM : ∀ β a,F.m0 β=some a→e.m β=a
theorem Kp.lt {F:Fr} {σ:St} {e:Env} {w:World} (h:Kp F σ e w) {b:Nat} (hb:F.K b):b<w.heap.size:=Nat.lt_of_lt_of_le (F.kLt b hb) h.wkLe
structure Hp (F:Fr) (σ:St) (e:Env) (w:World):Prop where
 below:Below F.w0.heap.size F.w0 w
 pc0 : ∀ b o,F.Pc b o→e.Pc b o
 pcNew : ∀ b o,e.Pc b o→F.Pc b o∨F.w0.heap.size≤b
 pcLt : ∀ b o,e.Pc b o→b<w.heap.size
 boxes : ∀ β T cs,σ.box β=some (T,cs)→F.w0.heap.size≤e.m β∧j5h e σ w (e.m β) T cs
 boxPc : ∀ β,(σ.box β).isSome=true→∀ o,¬ e.Pc (e.m β) o
 boxNe : ∀ β β',(σ.box β).isSome=true→(σ.box β').isSome=true→β≠β'→e.m β≠e.m β'
 rows : ∀ t r,σ.row t=some r→(∀ x∈r.xs,x.length=r.sz)∧∃ cells:List Value,q9c w F.w0.heap.size r.E r.sz (e.rv t r.gen) r.xs.length cells∧q0j (DatRep e.Pc w) cells r.xs.flatten∧∀ u∈cells,u.oneCell'=true
 rowPro : ∀ t r b,σ.row t=some r→r.wr=false→(e.rv t r.gen).ownBlock=some b→∀ o,o<r.xs.length*r.sz→e.Pc b o
 rowPc : ∀ t r b,σ.row t=some r→(e.rv t r.gen).ownBlock=some b→∀ o,e.Pc b o→r.wr=false∧o<r.xs.length*r.sz
 rowBox : ∀ t r b β,σ.row t=some r→(e.rv t r.gen).ownBlock=some b→(σ.box β).isSome=true→e.m β≠b
 rowNe : ∀ t t' r r' b,t≠t'→σ.row t=some r→σ.row t'=some r'→(e.rv t r.gen).ownBlock=some b→(e.rv t' r'.gen).ownBlock≠some b
 kp:Kp F σ e w
structure R (F:Fr) (σ:St) (e:Env) (a:Act) (w:World):Prop where
 defers:a.defers = []
 size:a.tmps.size=F.n
 slots : ∀ i,q2a e σ w (a.tmps.getD i undef) (σ.slot i)
 hp:Hp F σ e w
def upd {α:Type} (f:Nat→α) (i:Nat) (x:α):Nat→α:=fun j=>if j=i then x else f j
theorem q0w {α:Type} (f:Nat→α) (i:Nat) (x:α):upd f i x i=x:=if_pos rfl
theorem q3p {α:Type} (f:Nat→α) {i j:Nat} (x:α) (h:j≠i):upd f i x j=f j:=if_neg h
def St.put (σ:St) (d:Option Nat) (x:D):St:=match d with
 | some i=>{ σ with slot:=upd σ.slot i x }
 | none=>σ
theorem Hp.put {F:Fr} {σ:St} {e:Env} {w:World} (h:Hp F σ e w) (d:Option Nat) (x:D):Hp F (σ.put d x) e w:=by
 cases d with
 | none=>exact h
 | some i=>exact ⟨h.below,h.pc0,h.pcNew,h.pcLt,h.boxes,h.boxPc,h.boxNe,h.rows,h.rowPro,h.rowPc,h.rowBox,h.rowNe,⟨h.kp.keep,h.kp.wkLe,h.kp.boxK,h.kp.rowK,h.kp.pcK,h.kp.cellK,h.kp.boxM⟩⟩
theorem q2a.slot {e:Env} {σ σ':St} {w:World} {v:Value} {x:D} (hb:σ'.box=σ.box) (hr:σ'.row=σ.row) (h:q2a e σ w v x):q2a e σ' w v x :=
 h.fwd ⟨fun _ _ h=>h,fun _ _ _=>rfl,fun _ h=>⟨by rw [hb];exact h,rfl⟩,fun t r g h hg=>⟨⟨r,by rw [hr];exact h,hg,rfl⟩,rfl⟩⟩
theorem R.next {F:Fr} {σ σ':St} {e e':Env} {a:Act} {w w':World} (h:R F σ e a w) (hf:Fwd e σ w e' σ' w') (hh:Hp F σ' e' w') (hs:σ'.slot=σ.slot)
  (d:Option Nat) (hd : ∀ k,d=some k→k<F.n) (v:Value) (x:D) (hx:q2a e' σ' w' v x):R F (σ'.put d x) e' (a.put d v) w':=by
 have hb:(σ'.put d x).box=σ'.box∧(σ'.put d x).row=σ'.row:=by cases d<;>exact ⟨rfl,rfl⟩
 refine ⟨?_,?_,fun i=>?_,hh.put d x⟩
 ·cases d with
  | none=>exact h.defers
  | some k=>exact h.defers
 ·cases d with
  | none=>exact h.size
  | some k=>show (a.tmps.setIfInBounds k v).size=_;rw [Array.size_setIfInBounds];exact h.size
 ·refine q2a.slot hb.1 hb.2 ?_
  cases d with
  | none=>rw [show (σ'.put none x).slot=σ.slot from hs];exact (h.slots i).fwd hf
  | some k =>
   show q2a e' σ' w' ((a.tmps.setIfInBounds k v).getD i undef) (upd σ'.slot k x i)
   by_cases hik:i=k
   ·subst hik
    rw [q0w]
    have:(a.tmps.setIfInBounds i v).getD i undef=v:=by
     have hi':i<a.tmps.size:=by rw [h.size];exact hd i rfl
     simp [Array.getD,hi']
    rw [this];exact hx
   ·rw [q3p _ _ hik,hs]
    have:(a.tmps.setIfInBounds k v).getD i undef=a.tmps.getD i undef:=by
     simp only [Array.getD_eq_getD_getElem?,Array.getElem?_setIfInBounds_ne (Ne.symm hik)]
    rw [this];exact (h.slots i).fwd hf
end Go.Proofs.YtapfankgdkdkgaaGreatDoor.AM
namespace Go.Proofs.YtapfankgdkdkgaaGreatDoor.AM
open Go.RowKit
variable {F:Fr} {σ:St} {e:Env} {w:World}
theorem Hp.sizeLe (h:Hp F σ e w):F.w0.heap.size≤w.heap.size:=h.below.size
theorem jl0 {w:World} {g:Nat} {o:Obj} (h:w.heap[g]? = some o):g<w.heap.size:=(Array.getElem?_eq_some_iff.1 h).1
theorem isSome_some {α:Type} {o:Option α} {x:α} (h:o=some x):o.isSome=true:=by rw [h];rfl
theorem Hp.boxLt (h:Hp F σ e w) {β:Nat} (hb:(σ.box β).isSome=true):e.m β<w.heap.size:=by
 obtain ⟨⟨T,cs⟩,hx⟩:=Option.isSome_iff_exists.1 hb
 exact (h.boxes β T cs hx).2.lt
theorem Hp.rowLt (h:Hp F σ e w) {t b:Nat} {r:Row} (hr:σ.row t=some r) (hb:(e.rv t r.gen).ownBlock=some b):F.w0.heap.size≤b∧b<w.heap.size:=by
 obtain ⟨_,cells,h1,_⟩:=h.rows t r hr
 exact h1.lt b hb
theorem Hp.grow (h:Hp F σ e w) {w':World} (hb:Below w.heap.size w w'):Fwd e σ w e σ w'∧Hp F σ e w':=by
 have hf:Fwd e σ w e σ w':=⟨fun _ _ h=>h,fun b o hp=>hb.cell (p:=⟨b,o,none⟩) (h.pcLt b o hp),fun _ h=>⟨h,rfl⟩,fun t r g h hg=>⟨⟨r,h,hg,rfl⟩,rfl⟩⟩
 refine ⟨hf,h.below.trans (hb.mono h.sizeLe),h.pc0,h.pcNew,fun b o hp=>Nat.lt_of_lt_of_le (h.pcLt b o hp) hb.size,fun β T cs hx=>?_,h.boxPc,h.boxNe,fun t r hr=>?_,h.rowPro,h.rowPc,h.rowBox,h.rowNe,⟨fun k hk=>(hb.block k (h.kp.lt hk)).trans (h.kp.keep k hk),Nat.le_trans h.kp.wkLe hb.size,h.kp.boxK,h.kp.rowK,h.kp.pcK,fun b o hp=>(hf.cell b o (h.pc0 b o hp)).trans (h.kp.cellK b o hp),h.kp.boxM⟩⟩
 ·obtain ⟨h0,h1⟩:=h.boxes β T cs hx
  exact ⟨h0,h1.fwd hf (hb.block _ h1.lt)⟩
 ·obtain ⟨hs,cells,h1,h2,h2'⟩:=h.rows t r hr
  refine ⟨hs,cells,⟨h1.1,?_⟩,h2.mono fun _ _=>DatRep.mono (fun _ _ h=>h) (fun b o hp=>hb.cell (p:=⟨b,o,none⟩) (h.pcLt b o hp)),h2'⟩
  rcases h1.2 with h3|⟨g,cap,cur,h3,h4,h5,h6⟩
  ·exact .inl h3
  ·exact .inr ⟨g,cap,cur,h3,h4,(hb.block g (jl0 h5)).trans h5,h6⟩
theorem Hp.drew (h:Hp F σ e w):Fwd e σ w e σ w.drew∧Hp F σ e w.drew:=h.grow (Below.refl _ _).drew
theorem Hp.more (h:Hp F σ e w) (N:Nat→Nat→Prop) (h1 : ∀ b o,N b o→F.w0.heap.size≤b∧b<w.heap.size) (h2 : ∀ b o,N b o→∀ β,(σ.box β).isSome=true→e.m β≠b) (h3 : ∀ b o,N b o→∀ t r,σ.row t=some r→(e.rv t r.gen).ownBlock≠some b) (h4 : ∀ b o,N b o→¬ F.K b) :
  Fwd e σ w { e with Pc:=fun b o=>e.Pc b o∨N b o } σ w∧Hp F σ { e with Pc:=fun b o=>e.Pc b o∨N b o } w:=by
 have hf:Fwd e σ w { e with Pc:=fun b o=>e.Pc b o∨N b o } σ w:=⟨fun _ _ h=>Or.inl h,fun _ _ _=>rfl,fun _ h=>⟨h,rfl⟩,fun t r g h hg=>⟨⟨r,h,hg,rfl⟩,rfl⟩⟩
 refine ⟨hf,h.below,fun b o hp=>Or.inl (h.pc0 b o hp),?_,?_,fun β T cs hx=>?_,?_,h.boxNe,fun t r hr=>?_,fun t r b hr hw hb o ho=>Or.inl (h.rowPro t r b hr hw hb o ho),?_,h.rowBox,h.rowNe,⟨h.kp.keep,h.kp.wkLe,h.kp.boxK,h.kp.rowK,fun b o hp=>hp.elim (h.kp.pcK b o) (fun hN=>Or.inr (h4 b o hN)),h.kp.cellK,h.kp.boxM⟩⟩
 ·rintro b o (hp|hp)
  ·exact h.pcNew b o hp
  ·exact Or.inr (h1 b o hp).1
 ·rintro b o (hp|hp)
  ·exact h.pcLt b o hp
  ·exact (h1 b o hp).2
 ·obtain ⟨h0,h1⟩:=h.boxes β T cs hx
  exact ⟨h0,h1.fwd hf rfl⟩
 ·rintro β hβ o (hp|hp)
  ·exact h.boxPc β hβ o hp
  ·exact h2 _ _ hp β hβ rfl
 ·obtain ⟨hs,cells,hc,hd,h1⟩:=h.rows t r hr
  exact ⟨hs,cells,hc,hd.mono fun _ _=>DatRep.mono (fun _ _ h=>Or.inl h) (fun _ _ _=>rfl),h1⟩
 ·rintro t r b hr hb o (hp|hp)
  ·exact h.rowPc t r b hr hb o hp
  ·exact absurd hb (h3 _ _ hp t r hr)
theorem Hp.allocO (h:Hp F σ e w) (i T:Nat) (o:Obj) (cs:List C) (hi:σ.box i=none) (hi2:i<1000000) (hbx:Fwd e σ w { e with m:=upd e.m i w.heap.size } { σ with box:=upd σ.box i (some (T,cs)) } (w.alloc o)→j5h { e with m:=upd e.m i w.heap.size } { σ with box:=upd σ.box i (some (T,cs)) } (w.alloc o) w.heap.size T cs) :
  Fwd e σ w { e with m:=upd e.m i w.heap.size } { σ with box:=upd σ.box i (some (T,cs)) } (w.alloc o) ∧
  Hp F { σ with box:=upd σ.box i (some (T,cs)) } { e with m:=upd e.m i w.heap.size } (w.alloc o):=by
 have hb:Below w.heap.size w (w.alloc o):=(Below.refl _ _).alloc (Nat.le_refl _) _
 have hne : ∀ β,(σ.box β).isSome=true→β≠i:=fun β hβ e=>by subst e;rw [hi] at hβ;cases hβ
 have hf:Fwd e σ w { e with m:=upd e.m i w.heap.size } { σ with box:=upd σ.box i (some (T,cs)) } (w.alloc o) :=
  ⟨fun _ _ h=>h,fun b o hp=>hb.cell (p:=⟨b,o,none⟩) (h.pcLt b o hp),fun β hβ=>by
   show ((upd σ.box i (some (T,cs))) β).isSome=true∧upd e.m i w.heap.size β=e.m β
   rw [q3p _ _ (hne β hβ),q3p _ _ (hne β hβ)];exact ⟨hβ,rfl⟩,fun t r g h hg=>⟨⟨r,h,hg,rfl⟩,rfl⟩⟩
 have dom : ∀ β,((upd σ.box i (some (T,cs))) β).isSome=true→β=i∨(β≠i∧(σ.box β).isSome=true):=fun β hβ=>by
  by_cases hβi:β=i
  ·exact Or.inl hβi
  ·rw [q3p _ _ hβi] at hβ;exact Or.inr ⟨hβi,hβ⟩
 refine ⟨hf,h.below.trans (hb.mono h.sizeLe),h.pc0,h.pcNew,fun b o hp=>Nat.lt_of_lt_of_le (h.pcLt b o hp) hb.size,fun β T' cs' hx=>?_,?_,?_,fun t r hr=>?_,h.rowPro,h.rowPc,?_,h.rowNe,⟨fun k hk=>(hb.block k (h.kp.lt hk)).trans (h.kp.keep k hk),Nat.le_trans h.kp.wkLe hb.size,fun β hβ hk=>?_,h.kp.rowK,h.kp.pcK,fun b o hp=>(hf.cell b o (h.pc0 b o hp)).trans (h.kp.cellK b o hp),fun β a ha=>(q3p _ _ (by have:=F.m0ge β a ha;omega)).trans (h.kp.boxM β a ha)⟩⟩
 ·by_cases hβi:β=i
  ·subst hβi
   rw [show ({ σ with box:=upd σ.box β (some (T,cs)) } : St).box β=some (T,cs) from q0w _ _ _] at hx
   simp only [Option.some.injEq,Prod.mk.injEq] at hx
   obtain ⟨rfl,rfl⟩:=hx
   refine ⟨?_,?_⟩
   ·show F.w0.heap.size≤upd e.m β w.heap.size β
    rw [q0w];exact h.sizeLe
   ·have hm:({ e with m:=upd e.m β w.heap.size } : Env).m β=w.heap.size:=q0w _ _ _
    rw [hm];exact hbx hf
  ·rw [show ({ σ with box:=upd σ.box i (some (T,cs)) } : St).box β=σ.box β from q3p _ _ hβi] at hx
   obtain ⟨g0,g1⟩:=h.boxes β T' cs' hx
   have hm:({ e with m:=upd e.m i w.heap.size } : Env).m β=e.m β:=q3p _ _ hβi
   rw [hm]
   exact ⟨g0,g1.fwd hf (hb.block _ g1.lt)⟩
 ·intro β hβ o hp
  have hlt:=h.pcLt _ _ hp
  rcases dom β hβ with rfl|⟨hβi,hβ'⟩
  ·rw [show ({ e with m:=upd e.m β w.heap.size } : Env).m β=w.heap.size from q0w _ _ _] at hlt;omega
  ·rw [show ({ e with m:=upd e.m i w.heap.size } : Env).m β=e.m β from q3p _ _ hβi] at hp
   exact h.boxPc β hβ' o hp
 ·intro β β' hβ hβ' hn
  show upd e.m i w.heap.size β≠upd e.m i w.heap.size β'
  rcases dom β hβ with rfl|⟨hβi,hβs⟩
  ·rcases dom β' hβ' with rfl|⟨hβi',hβs'⟩
   ·exact absurd rfl hn
   ·rw [q0w,q3p _ _ hβi'];have:=h.boxLt hβs';omega
  ·rcases dom β' hβ' with rfl|⟨hβi',hβs'⟩
   ·rw [q0w,q3p _ _ hβi];have:=h.boxLt hβs;omega
   ·rw [q3p _ _ hβi,q3p _ _ hβi'];exact h.boxNe β β' hβs hβs' hn
 ·obtain ⟨hs,cells,g1,g2,g3⟩:=h.rows t r hr
  exact ⟨hs,cells,g1.alloc _,g2.mono fun _ _=>DatRep.mono (fun _ _ h=>h) (fun b o hp=>hb.cell (p:=⟨b,o,none⟩) (h.pcLt b o hp)),g3⟩
 ·intro t r b β hr hb' hβ
  show upd e.m i w.heap.size β≠b
  have hlt:=h.rowLt hr hb'
  rcases dom β hβ with rfl|⟨hβi,hβs⟩
  ·rw [q0w];omega
  ·rw [q3p _ _ hβi];exact h.rowBox t r b β hr hb' hβs
 ·have hk':F.K (upd e.m i w.heap.size β):=hk
  rcases dom β hβ with rfl|⟨hβi,hβs⟩
  ·rw [q0w] at hk';exact Nat.lt_irrefl _ (h.kp.lt hk')
  ·rw [q3p _ _ hβi] at hk';exact h.kp.boxK β hβs hk'
theorem Hp.alloc (h:Hp F σ e w) (i T:Nat) (vs:Array Value) (cs:List C) (hi:σ.box i=none) (hi2:i<1000000) (hT:T<2199023255552) (hv:q0j (q2v e σ w) vs.toList cs) (h1 : ∀ u∈vs.toList,u.oneCell'=true) :
  Fwd e σ w { e with m:=upd e.m i w.heap.size } { σ with box:=upd σ.box i (some (T,cs)) } (w.alloc (.cells vs T)) ∧
  Hp F { σ with box:=upd σ.box i (some (T,cs)) } { e with m:=upd e.m i w.heap.size } (w.alloc (.cells vs T)) :=
 h.allocO i T (.cells vs T) cs hi hi2 fun hf=>Or.inl ⟨hT,vs,heap_alloc_new w _,hv.mono fun _ _=>q2v.fwd hf,h1⟩
theorem Hp.setO (h:Hp F σ e w) (β T:Nat) (cs cs':List C) (hβ:σ.box β=some (T,cs)) {w':World} (hbl:Below F.w0.heap.size F.w0 w') (hsz:w'.heap.size=w.heap.size) (hoth : ∀ k,k≠e.m β→w'.heap[k]? = w.heap[k]?)
  (hcell0 : ∀ b o,b≠e.m β→w'.cell? ⟨b,o,none⟩=w.cell? ⟨b,o,none⟩) (hbx:Fwd e σ w e { σ with box:=upd σ.box β (some (T,cs')) } w'→j5h e { σ with box:=upd σ.box β (some (T,cs')) } w' (e.m β) T cs') :
  Fwd e σ w e { σ with box:=upd σ.box β (some (T,cs')) } w'∧Hp F { σ with box:=upd σ.box β (some (T,cs')) } e w':=by
 obtain ⟨g0,g1⟩:=h.boxes β T cs hβ
 have hs:=isSome_some hβ
 have hcell : ∀ b o,e.Pc b o→w'.cell? ⟨b,o,none⟩=w.cell? ⟨b,o,none⟩:=fun b o hp =>
  hcell0 b o (fun he=>h.boxPc β hs o (by rw [← show b=e.m β from he];exact hp))
 have dom : ∀ γ,((upd σ.box β (some (T,cs'))) γ).isSome=true→(σ.box γ).isSome=true:=fun γ hγ=>by
  by_cases hγβ:γ=β
  ·subst hγβ;exact hs
  ·rw [q3p _ _ hγβ] at hγ;exact hγ
 have hf:Fwd e σ w e { σ with box:=upd σ.box β (some (T,cs')) } w':=⟨fun _ _ h=>h,hcell,fun γ hγ=>⟨by
  show ((upd σ.box β (some (T,cs'))) γ).isSome=true
  by_cases hγβ:γ=β
  ·subst hγβ;rw [q0w];rfl
  ·rw [q3p _ _ hγβ];exact hγ,rfl⟩,fun t r g h hg=>⟨⟨r,h,hg,rfl⟩,rfl⟩⟩
 refine ⟨hf,hbl,h.pc0,h.pcNew,fun b o hp=>by rw [hsz];exact h.pcLt b o hp,fun γ T' ds hx=>?_,fun γ hγ=>h.boxPc γ (dom γ hγ),fun γ γ' hγ hγ'=>h.boxNe γ γ' (dom γ hγ) (dom γ' hγ'),fun t r hr=>?_,h.rowPro,h.rowPc,fun t r b γ hr hb hγ=>h.rowBox t r b γ hr hb (dom γ hγ),h.rowNe,⟨fun k hk=>(hoth k (fun he=>h.kp.boxK β hs (by rw [← show k=e.m β from he];exact hk))).trans (h.kp.keep k hk),by rw [hsz];exact h.kp.wkLe,fun γ hγ=>h.kp.boxK γ (dom γ hγ),h.kp.rowK,h.kp.pcK,fun b o hp=>(hcell b o (h.pc0 b o hp)).trans (h.kp.cellK b o hp),h.kp.boxM⟩⟩
 ·by_cases hγβ:γ=β
  ·subst hγβ
   rw [show ({ σ with box:=upd σ.box γ (some (T,cs')) } : St).box γ=some (T,cs') from q0w _ _ _] at hx
   simp only [Option.some.injEq,Prod.mk.injEq] at hx
   obtain ⟨rfl,rfl⟩:=hx
   exact ⟨g0,hbx hf⟩
  ·rw [show ({ σ with box:=upd σ.box β (some (T,cs')) } : St).box γ=σ.box γ from q3p _ _ hγβ] at hx
   obtain ⟨k0,k1⟩:=h.boxes γ T' ds hx
   exact ⟨k0,k1.fwd hf (hoth _ (h.boxNe γ β (isSome_some hx) hs hγβ))⟩
 ·obtain ⟨hs',cells,k1,k2,k2'⟩:=h.rows t r hr
  refine ⟨hs',cells,⟨k1.1,?_⟩,k2.mono fun _ _=>DatRep.mono (fun _ _ h=>h) hcell,k2'⟩
  rcases k1.2 with k3|⟨g,cap,cur,k3,k4,k5,k6⟩
  ·exact .inl k3
  ·exact .inr ⟨g,cap,cur,k3,k4,(hoth g (fun he=>h.rowBox t r g β hr (by rw [k3];rfl) hs he.symm)).trans k5,k6⟩
theorem Hp.set (h:Hp F σ e w) (β T:Nat) (cs cs':List C) (vs:Array Value) (hβ:σ.box β=some (T,cs)) (hT:T<2199023255552) (hv:q0j (q2v e σ w) vs.toList cs') (h1 : ∀ u∈vs.toList,u.oneCell'=true) :
  Fwd e σ w e { σ with box:=upd σ.box β (some (T,cs')) } (w.setRow (e.m β) vs)∧Hp F { σ with box:=upd σ.box β (some (T,cs')) } e (w.setRow (e.m β) vs):=by
 obtain ⟨g0,g1⟩:=h.boxes β T cs hβ
 obtain ⟨us,g2,_,_⟩:=g1.cells hT
 exact h.setO β T cs cs' hβ (below_setRow h.below g0 vs) (setRow_size ..) (fun k hk=>setRow_other w _ k vs hk) (fun b o hb=>cell_setRow_other w (e.m β) vs ⟨b,o,none⟩ hb)
  fun hf=>Or.inl ⟨hT,vs,setRow_heap w _ us vs T _ g2,hv.mono fun _ _=>q2v.fwd hf,h1⟩
end Go.Proofs.YtapfankgdkdkgaaGreatDoor.AM
