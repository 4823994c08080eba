
import Derived.WalkKit
import Derived.LaidEql
import Derived.Stop.Asserts
import Derived.RowKitTokens
import Derived.Test.YthpgnliicpejoaaGreatDoorProg
namespace Go.Proofs
open Go.RowKit Go.Extern.Stop Go.Stop Go.Extern
set_option linter.unusedVariables false
set_option linter.unusedSimpArgs false
namespace YthpgnliicpejoaaGreatDoor.AM
abbrev gC:Nat:=4
theorem j9k (z:Sem Value) (f:TypeId→Addr→Nat→Nat→Sem Value) (v:Value) :
  ReflectliteValue.method z f #[v]=(do match ← ReflectliteValue.parts v with|none=>z|some (t,a,fl)=>f t a fl (fl % 32)):=rfl
theorem jgt (v x:Value):ReflectliteValue.set #[v,x]=(do
  let (some (dst,a,fl),some (src,b,_)):=(← ReflectliteValue.parts v,← ReflectliteValue.parts x)
   | unsupported (.noEntry "extern/(internal/reflectlite.Value).Set.zeroValue")
  if fl / ReflectliteValue.flagAddr % 2==0 then unsupported (.noEntry "extern/(internal/reflectlite.Value).Set.unaddressable")
  let val ← loadVar src b
  if ← Rtype.directlyAssignable dst src then storeVar dst a val
  else if ← Rtype.implements dst src then
   if (← Rtype.kind src)==20 then
    match val with
    | .nilIface=>unsupported (.noEntry "extern/reflectlite: a nil value of one interface type handed on as a value of another")
    | _=>storeVar dst a val
   else storeVar dst a (.iface src val)
  else panicString ("reflectlite.Set: value of type " ++ (← Rtype.spelt src) ++ " is not assignable to type " ++ (← Rtype.spelt dst))
  pure (.tuple #[])):=rfl
theorem asMK (h:Value) (w:World):(Go.method 377 197 (.agg #[h]) "Kind").run Tryz.prog w = .ok (189,h) w:=by kernel_rfl
theorem asME (h:Value) (w:World):(Go.method 377 197 (.agg #[h]) "Elem").run Tryz.prog w = .ok (202,.agg #[h]) w:=by kernel_rfl
theorem asMI (h:Value) (w:World):(Go.method 377 197 (.agg #[h]) "Implements").run Tryz.prog w = .ok (203,.agg #[h]) w:=by kernel_rfl
theorem asMA (h:Value) (w:World):(Go.method 377 197 (.agg #[h]) "AssignableTo").run Tryz.prog w = .ok (200,.agg #[h]) w:=by kernel_rfl
theorem jcp (t:Addr) (w:World):(ReflectliteValue.unpack (.iface 123 (.pointer (some t)))).run Tryz.prog w
  = .ok (.agg #[.pointer (some ⟨gC,123,none⟩),.pointer (some ⟨w.heap.size,0,none⟩),.int .u64 150]) (w.alloc (.cells #[.pointer (some t)] 123)):=by kernel_rfl
theorem jdx (a:Addr) (w:World):(ReflectliteValue.methodAny (ReflectliteValue.valueError "reflectlite.Value.Type" 0) (fun t _ _ _=>ReflectliteType.toType t) #[.agg #[.pointer (some ⟨gC,123,none⟩),.pointer (some a),.int .u64 150]]).run Tryz.prog w
  = .ok (.iface 197 (.agg #[.pointer (some ⟨gC,123,none⟩)])) w:=by kernel_rfl
theorem jb6 (w:World):((ReflectliteType.abiMethod fun t=>(fun a:Nat=>Value.int IntKind.u8 (a:Int)) <$> Rtype.kind t) #[.pointer (some ⟨gC,123,none⟩)]).run Tryz.prog w = .ok (.int .u8 22) w:=by kernel_rfl
theorem jff (w:World):((ReflectliteType.abiMethod fun t=>(fun a:Nat=>Value.int IntKind.u8 (a:Int)) <$> Rtype.kind t) #[.pointer (some ⟨gC,114,none⟩)]).run Tryz.prog w = .ok (.int .u8 25) w:=by kernel_rfl
theorem j47 (a:Addr) (w:World):(ReflectliteValue.parts (.agg #[.pointer (some ⟨gC,123,none⟩),.pointer (some a),.int .u64 150])).run Tryz.prog w = .ok (some (123,a,150)) w:=by kernel_rfl
theorem j3f:Tryz.prog.underlying 123=some (.pointer 114):=by kernel_rfl
theorem jdy (a p:Addr) (W:World) (ha:W.cell? a=some (.pointer (some p))) :
  (ReflectliteValue.method (ReflectliteValue.valueError "reflectlite.Value.IsNil" 0) ReflectliteValue.isNil #[.agg #[.pointer (some ⟨gC,123,none⟩),.pointer (some a),.int .u64 150]]).run Tryz.prog W = .ok (.bool false) W:=by
 rw [j9k]
 simp only [Sem.run_bind,j47,Result.andThen]
 simp [ReflectliteValue.isNil,loadVar,isAgg,underlying,j3f,ha,Result.andThen]
theorem jbe (w:World):(ReflectliteType.method ReflectliteType.elem #[.agg #[.pointer (some ⟨gC,123,none⟩)]]).run Tryz.prog w = .ok (.iface 197 (.agg #[.pointer (some ⟨gC,114,none⟩)])) w:=by kernel_rfl
theorem jfd (w:World):(ReflectliteType.relation "Implements" ReflectliteType.implements_ #[.agg #[.pointer (some ⟨gC,114,none⟩)],.iface 197 (.agg #[.pointer (some ⟨gC,81,none⟩)])]).run Tryz.prog w = .ok (.bool true) w:=by kernel_rfl
theorem jb3 (v:Value) (w:World):(ReflectliteType.typeOf #[.iface 114 v]).run Tryz.prog w = .ok (.iface 197 (.agg #[.pointer (some ⟨gC,114,none⟩)])) w:=by kernel_rfl
theorem jh0 (w:World):(ReflectliteType.relation "AssignableTo" ReflectliteType.assignableTo #[.agg #[.pointer (some ⟨gC,114,none⟩)],.iface 197 (.agg #[.pointer (some ⟨gC,114,none⟩)])]).run Tryz.prog w = .ok (.bool true) w:=by kernel_rfl
theorem jdf (w:World):(Rtype.elem? 123).run Tryz.prog w = .ok (some 114) w:=by kernel_rfl
theorem asMkT (p:Addr) (w:World):(ReflectliteValue.mk 114 p ReflectliteValue.flagAddr).run Tryz.prog w = .ok (.agg #[.pointer (some ⟨gC,114,none⟩),.pointer (some p),.int .u64 409]) w:=by kernel_rfl
theorem j75 (a p:Addr) (W:World) (ha:W.cell? a=some (.pointer (some p))) :
  (ReflectliteValue.method (ReflectliteValue.valueError "reflectlite.Value.Elem" 0) ReflectliteValue.elem #[.agg #[.pointer (some ⟨gC,123,none⟩),.pointer (some a),.int .u64 150]]).run Tryz.prog W
   = .ok (.agg #[.pointer (some ⟨gC,114,none⟩),.pointer (some p),.int .u64 409]) W:=by
 rw [j9k]
 simp only [Sem.run_bind,j47,Result.andThen]
 simp [ReflectliteValue.elem,loadVar,isAgg,underlying,j3f,ha,Result.andThen,jdf,asMkT]
theorem jaq (n:Int) (w:World):(ReflectliteValue.unpack (.iface 114 (.agg #[.int .i64 n]))).run Tryz.prog w
  = .ok (.agg #[.pointer (some ⟨gC,114,none⟩),.pointer (some ⟨w.heap.size,0,none⟩),.int .u64 153]) (w.alloc (.cells #[.int .i64 n] 114)):=by kernel_rfl
theorem jdw (a:Addr) (w:World):(ReflectliteValue.parts (.agg #[.pointer (some ⟨gC,114,none⟩),.pointer (some a),.int .u64 409])).run Tryz.prog w = .ok (some (114,a,409)) w:=by kernel_rfl
theorem jg3 (a:Addr) (w:World):(ReflectliteValue.parts (.agg #[.pointer (some ⟨gC,114,none⟩),.pointer (some a),.int .u64 153])).run Tryz.prog w = .ok (some (114,a,153)) w:=by kernel_rfl
theorem jgx (w:World):(Rtype.directlyAssignable 114 114).run Tryz.prog w = .ok true w:=by kernel_rfl
theorem jgs (w:World):(sizeOf 114).run Tryz.prog w = .ok 1 w:=by kernel_rfl
theorem j2l (t:Addr) (w:World):(ReflectliteValue.unpack (.iface 122 (.pointer (some t)))).run Tryz.prog w
  = .ok (.agg #[.pointer (some ⟨gC,122,none⟩),.pointer (some ⟨w.heap.size,0,none⟩),.int .u64 150]) (w.alloc (.cells #[.pointer (some t)] 122)):=by kernel_rfl
theorem j36 (a:Addr) (w:World):(ReflectliteValue.methodAny (ReflectliteValue.valueError "reflectlite.Value.Type" 0) (fun t _ _ _=>ReflectliteType.toType t) #[.agg #[.pointer (some ⟨gC,122,none⟩),.pointer (some a),.int .u64 150]]).run Tryz.prog w
  = .ok (.iface 197 (.agg #[.pointer (some ⟨gC,122,none⟩)])) w:=by kernel_rfl
theorem j0h (w:World):((ReflectliteType.abiMethod fun t=>(fun a:Nat=>Value.int IntKind.u8 (a:Int)) <$> Rtype.kind t) #[.pointer (some ⟨gC,122,none⟩)]).run Tryz.prog w = .ok (.int .u8 22) w:=by kernel_rfl
theorem jan (w:World):((ReflectliteType.abiMethod fun t=>(fun a:Nat=>Value.int IntKind.u8 (a:Int)) <$> Rtype.kind t) #[.pointer (some ⟨gC,120,none⟩)]).run Tryz.prog w = .ok (.int .u8 25) w:=by kernel_rfl
theorem j1g (a:Addr) (w:World):(ReflectliteValue.parts (.agg #[.pointer (some ⟨gC,122,none⟩),.pointer (some a),.int .u64 150])).run Tryz.prog w = .ok (some (122,a,150)) w:=by kernel_rfl
theorem j28:Tryz.prog.underlying 122=some (.pointer 120):=by kernel_rfl
theorem j35 (a p:Addr) (W:World) (ha:W.cell? a=some (.pointer (some p))) :
  (ReflectliteValue.method (ReflectliteValue.valueError "reflectlite.Value.IsNil" 0) ReflectliteValue.isNil #[.agg #[.pointer (some ⟨gC,122,none⟩),.pointer (some a),.int .u64 150]]).run Tryz.prog W = .ok (.bool false) W:=by
 rw [j9k]
 simp only [Sem.run_bind,j1g,Result.andThen]
 simp [ReflectliteValue.isNil,loadVar,isAgg,underlying,j28,ha,Result.andThen]
theorem j2q (w:World):(ReflectliteType.method ReflectliteType.elem #[.agg #[.pointer (some ⟨gC,122,none⟩)]]).run Tryz.prog w = .ok (.iface 197 (.agg #[.pointer (some ⟨gC,120,none⟩)])) w:=by kernel_rfl
theorem ja7 (w:World):(ReflectliteType.relation "Implements" ReflectliteType.implements_ #[.agg #[.pointer (some ⟨gC,120,none⟩)],.iface 197 (.agg #[.pointer (some ⟨gC,81,none⟩)])]).run Tryz.prog w = .ok (.bool true) w:=by kernel_rfl
theorem jfg (v:Value) (w:World):(ReflectliteType.typeOf #[.iface 120 v]).run Tryz.prog w = .ok (.iface 197 (.agg #[.pointer (some ⟨gC,120,none⟩)])) w:=by kernel_rfl
theorem jfs (w:World):(ReflectliteType.relation "AssignableTo" ReflectliteType.assignableTo #[.agg #[.pointer (some ⟨gC,120,none⟩)],.iface 197 (.agg #[.pointer (some ⟨gC,120,none⟩)])]).run Tryz.prog w = .ok (.bool true) w:=by kernel_rfl
theorem jeb (w:World):(Rtype.elem? 122).run Tryz.prog w = .ok (some 120) w:=by kernel_rfl
theorem asMkB (p:Addr) (w:World):(ReflectliteValue.mk 120 p ReflectliteValue.flagAddr).run Tryz.prog w = .ok (.agg #[.pointer (some ⟨gC,120,none⟩),.pointer (some p),.int .u64 409]) w:=by kernel_rfl
theorem j90 (a p:Addr) (W:World) (ha:W.cell? a=some (.pointer (some p))) :
  (ReflectliteValue.method (ReflectliteValue.valueError "reflectlite.Value.Elem" 0) ReflectliteValue.elem #[.agg #[.pointer (some ⟨gC,122,none⟩),.pointer (some a),.int .u64 150]]).run Tryz.prog W
   = .ok (.agg #[.pointer (some ⟨gC,120,none⟩),.pointer (some p),.int .u64 409]) W:=by
 rw [j9k]
 simp only [Sem.run_bind,j1g,Result.andThen]
 simp [ReflectliteValue.elem,loadVar,isAgg,underlying,j28,ha,Result.andThen,jeb,asMkB]
theorem jhg (n:Int) (c:Value) (w:World):(ReflectliteValue.unpack (.iface 120 (.agg #[.int .i64 n,c]))).run Tryz.prog w
  = .ok (.agg #[.pointer (some ⟨gC,120,none⟩),.pointer (some ⟨w.heap.size,0,none⟩),.int .u64 153]) (w.alloc (.cells #[.int .i64 n,c] 120)):=by kernel_rfl
theorem jeo (a:Addr) (w:World):(ReflectliteValue.parts (.agg #[.pointer (some ⟨gC,120,none⟩),.pointer (some a),.int .u64 409])).run Tryz.prog w = .ok (some (120,a,409)) w:=by kernel_rfl
theorem jga (a:Addr) (w:World):(ReflectliteValue.parts (.agg #[.pointer (some ⟨gC,120,none⟩),.pointer (some a),.int .u64 153])).run Tryz.prog w = .ok (some (120,a,153)) w:=by kernel_rfl
theorem jhr (w:World):(Rtype.directlyAssignable 120 120).run Tryz.prog w = .ok true w:=by kernel_rfl
theorem jg9 (w:World):(sizeOf 120).run Tryz.prog w = .ok 2 w:=by kernel_rfl
theorem jbo (w:World):(ReflectliteType.relation "AssignableTo" ReflectliteType.assignableTo #[.agg #[.pointer (some ⟨gC,114,none⟩)],.iface 197 (.agg #[.pointer (some ⟨gC,120,none⟩)])]).run Tryz.prog w = .ok (.bool false) w:=by kernel_rfl
end YthpgnliicpejoaaGreatDoor.AM
end Go.Proofs
