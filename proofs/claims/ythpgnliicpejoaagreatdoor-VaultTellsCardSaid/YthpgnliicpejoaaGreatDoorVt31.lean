
import Derived.WalkKit
import Derived.LaidEql
import Derived.Stop.Asserts
import Derived.RowKitTokens
import Derived.Test.YthpgnliicpejoaaGreatDoorProg
namespace Go.Proofs
open Go.RowKit Go.Extern.Stop Go.Stop Go.Extern
set_option linter.unusedVariables false
set_option linter.unusedSimpArgs false
namespace YthpgnliicpejoaaGreatDoor.AM
abbrev gC:Nat:=4
theorem jif (z:Sem Value) (f:TypeId→Addr→Nat→Nat→Sem Value) (v:Value) :
  ReflectliteValue.method z f #[v]=(do match ← ReflectliteValue.parts v with|none=>z|some (t,a,fl)=>f t a fl (fl % 32)):=rfl
theorem jtr (v x:Value):ReflectliteValue.set #[v,x]=(do
  let (some (dst,a,fl),some (src,b,_)):=(← ReflectliteValue.parts v,← ReflectliteValue.parts x)
   | unsupported (.noEntry "extern/(internal/reflectlite.Value).Set.zeroValue")
  if fl / ReflectliteValue.flagAddr % 2==0 then unsupported (.noEntry "extern/(internal/reflectlite.Value).Set.unaddressable")
  let val ← loadVar src b
  if ← Rtype.directlyAssignable dst src then storeVar dst a val
  else if ← Rtype.implements dst src then
   if (← Rtype.kind src)==20 then
    match val with
    | .nilIface=>unsupported (.noEntry "extern/reflectlite: a nil value of one interface type handed on as a value of another")
    | _=>storeVar dst a val
   else storeVar dst a (.iface src val)
  else panicString ("reflectlite.Set: value of type " ++ (← Rtype.spelt src) ++ " is not assignable to type " ++ (← Rtype.spelt dst))
  pure (.tuple #[])):=rfl
theorem asMK (h:Value) (w:World):(Go.method 377 197 (.agg #[h]) "Kind").run Tryz.prog w = .ok (189,h) w:=by kernel_rfl
theorem asME (h:Value) (w:World):(Go.method 377 197 (.agg #[h]) "Elem").run Tryz.prog w = .ok (202,.agg #[h]) w:=by kernel_rfl
theorem asMI (h:Value) (w:World):(Go.method 377 197 (.agg #[h]) "Implements").run Tryz.prog w = .ok (203,.agg #[h]) w:=by kernel_rfl
theorem asMA (h:Value) (w:World):(Go.method 377 197 (.agg #[h]) "AssignableTo").run Tryz.prog w = .ok (200,.agg #[h]) w:=by kernel_rfl
theorem jox (t:Addr) (w:World):(ReflectliteValue.unpack (.iface 123 (.pointer (some t)))).run Tryz.prog w
  = .ok (.agg #[.pointer (some ⟨gC,123,none⟩),.pointer (some ⟨w.heap.size,0,none⟩),.int .u64 150]) (w.alloc (.cells #[.pointer (some t)] 123)):=by kernel_rfl
theorem jor (a:Addr) (w:World):(ReflectliteValue.methodAny (ReflectliteValue.valueError "reflectlite.Value.Type" 0) (fun t _ _ _=>ReflectliteType.toType t) #[.agg #[.pointer (some ⟨gC,123,none⟩),.pointer (some a),.int .u64 150]]).run Tryz.prog w
  = .ok (.iface 197 (.agg #[.pointer (some ⟨gC,123,none⟩)])) w:=by kernel_rfl
theorem jno (w:World):((ReflectliteType.abiMethod fun t=>(fun a:Nat=>Value.int IntKind.u8 (a:Int)) <$> Rtype.kind t) #[.pointer (some ⟨gC,123,none⟩)]).run Tryz.prog w = .ok (.int .u8 22) w:=by kernel_rfl
theorem jtt (w:World):((ReflectliteType.abiMethod fun t=>(fun a:Nat=>Value.int IntKind.u8 (a:Int)) <$> Rtype.kind t) #[.pointer (some ⟨gC,114,none⟩)]).run Tryz.prog w = .ok (.int .u8 25) w:=by kernel_rfl
theorem jc5 (a:Addr) (w:World):(ReflectliteValue.parts (.agg #[.pointer (some ⟨gC,123,none⟩),.pointer (some a),.int .u64 150])).run Tryz.prog w = .ok (some (123,a,150)) w:=by kernel_rfl
theorem jd8:Tryz.prog.underlying 123=some (.pointer 114):=by kernel_rfl
theorem jqk (a p:Addr) (W:World) (ha:W.cell? a=some (.pointer (some p))) :
  (ReflectliteValue.method (ReflectliteValue.valueError "reflectlite.Value.IsNil" 0) ReflectliteValue.isNil #[.agg #[.pointer (some ⟨gC,123,none⟩),.pointer (some a),.int .u64 150]]).run Tryz.prog W = .ok (.bool false) W:=by
 rw [jif]
 simp only [Sem.run_bind,jc5,Result.andThen]
 simp [ReflectliteValue.isNil,loadVar,isAgg,underlying,jd8,ha,Result.andThen]
theorem jqm (w:World):(ReflectliteType.method ReflectliteType.elem #[.agg #[.pointer (some ⟨gC,123,none⟩)]]).run Tryz.prog w = .ok (.iface 197 (.agg #[.pointer (some ⟨gC,114,none⟩)])) w:=by kernel_rfl
theorem jth (w:World):(ReflectliteType.relation "Implements" ReflectliteType.implements_ #[.agg #[.pointer (some ⟨gC,114,none⟩)],.iface 197 (.agg #[.pointer (some ⟨gC,81,none⟩)])]).run Tryz.prog w = .ok (.bool true) w:=by kernel_rfl
theorem jm6 (v:Value) (w:World):(ReflectliteType.typeOf #[.iface 114 v]).run Tryz.prog w = .ok (.iface 197 (.agg #[.pointer (some ⟨gC,114,none⟩)])) w:=by kernel_rfl
theorem jtu (w:World):(ReflectliteType.relation "AssignableTo" ReflectliteType.assignableTo #[.agg #[.pointer (some ⟨gC,114,none⟩)],.iface 197 (.agg #[.pointer (some ⟨gC,114,none⟩)])]).run Tryz.prog w = .ok (.bool true) w:=by kernel_rfl
theorem jo9 (w:World):(Rtype.elem? 123).run Tryz.prog w = .ok (some 114) w:=by kernel_rfl
theorem asMkT (p:Addr) (w:World):(ReflectliteValue.mk 114 p ReflectliteValue.flagAddr).run Tryz.prog w = .ok (.agg #[.pointer (some ⟨gC,114,none⟩),.pointer (some p),.int .u64 409]) w:=by kernel_rfl
theorem jjh (a p:Addr) (W:World) (ha:W.cell? a=some (.pointer (some p))) :
  (ReflectliteValue.method (ReflectliteValue.valueError "reflectlite.Value.Elem" 0) ReflectliteValue.elem #[.agg #[.pointer (some ⟨gC,123,none⟩),.pointer (some a),.int .u64 150]]).run Tryz.prog W
   = .ok (.agg #[.pointer (some ⟨gC,114,none⟩),.pointer (some p),.int .u64 409]) W:=by
 rw [jif]
 simp only [Sem.run_bind,jc5,Result.andThen]
 simp [ReflectliteValue.elem,loadVar,isAgg,underlying,jd8,ha,Result.andThen,jo9,asMkT]
theorem jn7 (n:Int) (w:World):(ReflectliteValue.unpack (.iface 114 (.agg #[.int .i64 n]))).run Tryz.prog w
  = .ok (.agg #[.pointer (some ⟨gC,114,none⟩),.pointer (some ⟨w.heap.size,0,none⟩),.int .u64 153]) (w.alloc (.cells #[.int .i64 n] 114)):=by kernel_rfl
theorem jny (a:Addr) (w:World):(ReflectliteValue.parts (.agg #[.pointer (some ⟨gC,114,none⟩),.pointer (some a),.int .u64 409])).run Tryz.prog w = .ok (some (114,a,409)) w:=by kernel_rfl
theorem jtd (a:Addr) (w:World):(ReflectliteValue.parts (.agg #[.pointer (some ⟨gC,114,none⟩),.pointer (some a),.int .u64 153])).run Tryz.prog w = .ok (some (114,a,153)) w:=by kernel_rfl
theorem js3 (w:World):(Rtype.directlyAssignable 114 114).run Tryz.prog w = .ok true w:=by kernel_rfl
theorem js1 (w:World):(sizeOf 114).run Tryz.prog w = .ok 1 w:=by kernel_rfl
theorem jbf (t:Addr) (w:World):(ReflectliteValue.unpack (.iface 122 (.pointer (some t)))).run Tryz.prog w
  = .ok (.agg #[.pointer (some ⟨gC,122,none⟩),.pointer (some ⟨w.heap.size,0,none⟩),.int .u64 150]) (w.alloc (.cells #[.pointer (some t)] 122)):=by kernel_rfl
theorem jdt (a:Addr) (w:World):(ReflectliteValue.methodAny (ReflectliteValue.valueError "reflectlite.Value.Type" 0) (fun t _ _ _=>ReflectliteType.toType t) #[.agg #[.pointer (some ⟨gC,122,none⟩),.pointer (some a),.int .u64 150]]).run Tryz.prog w
  = .ok (.iface 197 (.agg #[.pointer (some ⟨gC,122,none⟩)])) w:=by kernel_rfl
theorem jhp (w:World):((ReflectliteType.abiMethod fun t=>(fun a:Nat=>Value.int IntKind.u8 (a:Int)) <$> Rtype.kind t) #[.pointer (some ⟨gC,122,none⟩)]).run Tryz.prog w = .ok (.int .u8 22) w:=by kernel_rfl
theorem jmm (w:World):((ReflectliteType.abiMethod fun t=>(fun a:Nat=>Value.int IntKind.u8 (a:Int)) <$> Rtype.kind t) #[.pointer (some ⟨gC,120,none⟩)]).run Tryz.prog w = .ok (.int .u8 25) w:=by kernel_rfl
theorem jc1 (a:Addr) (w:World):(ReflectliteValue.parts (.agg #[.pointer (some ⟨gC,122,none⟩),.pointer (some a),.int .u64 150])).run Tryz.prog w = .ok (some (122,a,150)) w:=by kernel_rfl
theorem jd3:Tryz.prog.underlying 122=some (.pointer 120):=by kernel_rfl
theorem jc4 (a p:Addr) (W:World) (ha:W.cell? a=some (.pointer (some p))) :
  (ReflectliteValue.method (ReflectliteValue.valueError "reflectlite.Value.IsNil" 0) ReflectliteValue.isNil #[.agg #[.pointer (some ⟨gC,122,none⟩),.pointer (some a),.int .u64 150]]).run Tryz.prog W = .ok (.bool false) W:=by
 rw [jif]
 simp only [Sem.run_bind,jc1,Result.andThen]
 simp [ReflectliteValue.isNil,loadVar,isAgg,underlying,jd3,ha,Result.andThen]
theorem ji5 (w:World):(ReflectliteType.method ReflectliteType.elem #[.agg #[.pointer (some ⟨gC,122,none⟩)]]).run Tryz.prog w = .ok (.iface 197 (.agg #[.pointer (some ⟨gC,120,none⟩)])) w:=by kernel_rfl
theorem jmr (w:World):(ReflectliteType.relation "Implements" ReflectliteType.implements_ #[.agg #[.pointer (some ⟨gC,120,none⟩)],.iface 197 (.agg #[.pointer (some ⟨gC,81,none⟩)])]).run Tryz.prog w = .ok (.bool true) w:=by kernel_rfl
theorem jtg (v:Value) (w:World):(ReflectliteType.typeOf #[.iface 120 v]).run Tryz.prog w = .ok (.iface 197 (.agg #[.pointer (some ⟨gC,120,none⟩)])) w:=by kernel_rfl
theorem jsh (w:World):(ReflectliteType.relation "AssignableTo" ReflectliteType.assignableTo #[.agg #[.pointer (some ⟨gC,120,none⟩)],.iface 197 (.agg #[.pointer (some ⟨gC,120,none⟩)])]).run Tryz.prog w = .ok (.bool true) w:=by kernel_rfl
theorem joh (w:World):(Rtype.elem? 122).run Tryz.prog w = .ok (some 120) w:=by kernel_rfl
theorem asMkB (p:Addr) (w:World):(ReflectliteValue.mk 120 p ReflectliteValue.flagAddr).run Tryz.prog w = .ok (.agg #[.pointer (some ⟨gC,120,none⟩),.pointer (some p),.int .u64 409]) w:=by kernel_rfl
theorem jkc (a p:Addr) (W:World) (ha:W.cell? a=some (.pointer (some p))) :
  (ReflectliteValue.method (ReflectliteValue.valueError "reflectlite.Value.Elem" 0) ReflectliteValue.elem #[.agg #[.pointer (some ⟨gC,122,none⟩),.pointer (some a),.int .u64 150]]).run Tryz.prog W
   = .ok (.agg #[.pointer (some ⟨gC,120,none⟩),.pointer (some p),.int .u64 409]) W:=by
 rw [jif]
 simp only [Sem.run_bind,jc1,Result.andThen]
 simp [ReflectliteValue.elem,loadVar,isAgg,underlying,jd3,ha,Result.andThen,joh,asMkB]
theorem jti (n:Int) (c:Value) (w:World):(ReflectliteValue.unpack (.iface 120 (.agg #[.int .i64 n,c]))).run Tryz.prog w
  = .ok (.agg #[.pointer (some ⟨gC,120,none⟩),.pointer (some ⟨w.heap.size,0,none⟩),.int .u64 153]) (w.alloc (.cells #[.int .i64 n,c] 120)):=by kernel_rfl
theorem jqv (a:Addr) (w:World):(ReflectliteValue.parts (.agg #[.pointer (some ⟨gC,120,none⟩),.pointer (some a),.int .u64 409])).run Tryz.prog w = .ok (some (120,a,409)) w:=by kernel_rfl
theorem jsg (a:Addr) (w:World):(ReflectliteValue.parts (.agg #[.pointer (some ⟨gC,120,none⟩),.pointer (some a),.int .u64 153])).run Tryz.prog w = .ok (some (120,a,153)) w:=by kernel_rfl
theorem jsn (w:World):(Rtype.directlyAssignable 120 120).run Tryz.prog w = .ok true w:=by kernel_rfl
theorem jsr (w:World):(sizeOf 120).run Tryz.prog w = .ok 2 w:=by kernel_rfl
theorem jo2 (w:World):(ReflectliteType.relation "AssignableTo" ReflectliteType.assignableTo #[.agg #[.pointer (some ⟨gC,114,none⟩)],.iface 197 (.agg #[.pointer (some ⟨gC,120,none⟩)])]).run Tryz.prog w = .ok (.bool false) w:=by kernel_rfl
end YthpgnliicpejoaaGreatDoor.AM
end Go.Proofs
