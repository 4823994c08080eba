
import Derived.WalkKit
import Derived.LaidEql
import Derived.Stop.Asserts
import Derived.RowKitTokens
import Derived.Test.YthpgnliicpejoaaGreatDoorProg
namespace Go.Proofs
open Go.RowKit Go.Extern.Stop Go.Stop Go.Extern
set_option linter.unusedVariables false
set_option linter.unusedSimpArgs false
namespace YthpgnliicpejoaaGreatDoor.AM
abbrev gC:Nat:=4
theorem jbq (z:Sem Value) (f:TypeId→Addr→Nat→Nat→Sem Value) (v:Value) :
  ReflectliteValue.method z f #[v]=(do match ← ReflectliteValue.parts v with|none=>z|some (t,a,fl)=>f t a fl (fl % 32)):=rfl
theorem jja (v x:Value):ReflectliteValue.set #[v,x]=(do
  let (some (dst,a,fl),some (src,b,_)):=(← ReflectliteValue.parts v,← ReflectliteValue.parts x)
   | unsupported (.noEntry "extern/(internal/reflectlite.Value).Set.zeroValue")
  if fl / ReflectliteValue.flagAddr % 2==0 then unsupported (.noEntry "extern/(internal/reflectlite.Value).Set.unaddressable")
  let val ← loadVar src b
  if ← Rtype.directlyAssignable dst src then storeVar dst a val
  else if ← Rtype.implements dst src then
   if (← Rtype.kind src)==20 then
    match val with
    | .nilIface=>unsupported (.noEntry "extern/reflectlite: a nil value of one interface type handed on as a value of another")
    | _=>storeVar dst a val
   else storeVar dst a (.iface src val)
  else panicString ("reflectlite.Set: value of type " ++ (← Rtype.spelt src) ++ " is not assignable to type " ++ (← Rtype.spelt dst))
  pure (.tuple #[])):=rfl
theorem asMK (h:Value) (w:World):(Go.method 377 197 (.agg #[h]) "Kind").run Tryz.prog w = .ok (189,h) w:=by kernel_rfl
theorem asME (h:Value) (w:World):(Go.method 377 197 (.agg #[h]) "Elem").run Tryz.prog w = .ok (202,.agg #[h]) w:=by kernel_rfl
theorem asMI (h:Value) (w:World):(Go.method 377 197 (.agg #[h]) "Implements").run Tryz.prog w = .ok (203,.agg #[h]) w:=by kernel_rfl
theorem asMA (h:Value) (w:World):(Go.method 377 197 (.agg #[h]) "AssignableTo").run Tryz.prog w = .ok (200,.agg #[h]) w:=by kernel_rfl
theorem ji5 (t:Addr) (w:World):(ReflectliteValue.unpack (.iface 123 (.pointer (some t)))).run Tryz.prog w
  = .ok (.agg #[.pointer (some ⟨gC,123,none⟩),.pointer (some ⟨w.heap.size,0,none⟩),.int .u64 150]) (w.alloc (.cells #[.pointer (some t)] 123)):=by kernel_rfl
theorem jh0 (a:Addr) (w:World):(ReflectliteValue.methodAny (ReflectliteValue.valueError "reflectlite.Value.Type" 0) (fun t _ _ _=>ReflectliteType.toType t) #[.agg #[.pointer (some ⟨gC,123,none⟩),.pointer (some a),.int .u64 150]]).run Tryz.prog w
  = .ok (.iface 197 (.agg #[.pointer (some ⟨gC,123,none⟩)])) w:=by kernel_rfl
theorem ji7 (w:World):((ReflectliteType.abiMethod fun t=>(fun a:Nat=>Value.int IntKind.u8 (a:Int)) <$> Rtype.kind t) #[.pointer (some ⟨gC,123,none⟩)]).run Tryz.prog w = .ok (.int .u8 22) w:=by kernel_rfl
theorem jll (w:World):((ReflectliteType.abiMethod fun t=>(fun a:Nat=>Value.int IntKind.u8 (a:Int)) <$> Rtype.kind t) #[.pointer (some ⟨gC,114,none⟩)]).run Tryz.prog w = .ok (.int .u8 25) w:=by kernel_rfl
theorem j42 (a:Addr) (w:World):(ReflectliteValue.parts (.agg #[.pointer (some ⟨gC,123,none⟩),.pointer (some a),.int .u64 150])).run Tryz.prog w = .ok (some (123,a,150)) w:=by kernel_rfl
theorem j95:Tryz.prog.underlying 123=some (.pointer 114):=by kernel_rfl
theorem jfq (a p:Addr) (W:World) (ha:W.cell? a=some (.pointer (some p))) :
  (ReflectliteValue.method (ReflectliteValue.valueError "reflectlite.Value.IsNil" 0) ReflectliteValue.isNil #[.agg #[.pointer (some ⟨gC,123,none⟩),.pointer (some a),.int .u64 150]]).run Tryz.prog W = .ok (.bool false) W:=by
 rw [jbq]
 simp only [Sem.run_bind,j42,Result.andThen]
 simp [ReflectliteValue.isNil,loadVar,isAgg,underlying,j95,ha,Result.andThen]
theorem jh4 (w:World):(ReflectliteType.method ReflectliteType.elem #[.agg #[.pointer (some ⟨gC,123,none⟩)]]).run Tryz.prog w = .ok (.iface 197 (.agg #[.pointer (some ⟨gC,114,none⟩)])) w:=by kernel_rfl
theorem jj5 (w:World):(ReflectliteType.relation "Implements" ReflectliteType.implements_ #[.agg #[.pointer (some ⟨gC,114,none⟩)],.iface 197 (.agg #[.pointer (some ⟨gC,81,none⟩)])]).run Tryz.prog w = .ok (.bool true) w:=by kernel_rfl
theorem jec (v:Value) (w:World):(ReflectliteType.typeOf #[.iface 114 v]).run Tryz.prog w = .ok (.iface 197 (.agg #[.pointer (some ⟨gC,114,none⟩)])) w:=by kernel_rfl
theorem jjr (w:World):(ReflectliteType.relation "AssignableTo" ReflectliteType.assignableTo #[.agg #[.pointer (some ⟨gC,114,none⟩)],.iface 197 (.agg #[.pointer (some ⟨gC,114,none⟩)])]).run Tryz.prog w = .ok (.bool true) w:=by kernel_rfl
theorem jfh (w:World):(Rtype.elem? 123).run Tryz.prog w = .ok (some 114) w:=by kernel_rfl
theorem asMkT (p:Addr) (w:World):(ReflectliteValue.mk 114 p ReflectliteValue.flagAddr).run Tryz.prog w = .ok (.agg #[.pointer (some ⟨gC,114,none⟩),.pointer (some p),.int .u64 409]) w:=by kernel_rfl
theorem jas (a p:Addr) (W:World) (ha:W.cell? a=some (.pointer (some p))) :
  (ReflectliteValue.method (ReflectliteValue.valueError "reflectlite.Value.Elem" 0) ReflectliteValue.elem #[.agg #[.pointer (some ⟨gC,123,none⟩),.pointer (some a),.int .u64 150]]).run Tryz.prog W
   = .ok (.agg #[.pointer (some ⟨gC,114,none⟩),.pointer (some p),.int .u64 409]) W:=by
 rw [jbq]
 simp only [Sem.run_bind,j42,Result.andThen]
 simp [ReflectliteValue.elem,loadVar,isAgg,underlying,j95,ha,Result.andThen,jfh,asMkT]
theorem jeh (n:Int) (w:World):(ReflectliteValue.unpack (.iface 114 (.agg #[.int .i64 n]))).run Tryz.prog w
  = .ok (.agg #[.pointer (some ⟨gC,114,none⟩),.pointer (some ⟨w.heap.size,0,none⟩),.int .u64 153]) (w.alloc (.cells #[.int .i64 n] 114)):=by kernel_rfl
theorem jgu (a:Addr) (w:World):(ReflectliteValue.parts (.agg #[.pointer (some ⟨gC,114,none⟩),.pointer (some a),.int .u64 409])).run Tryz.prog w = .ok (some (114,a,409)) w:=by kernel_rfl
theorem jjg (a:Addr) (w:World):(ReflectliteValue.parts (.agg #[.pointer (some ⟨gC,114,none⟩),.pointer (some a),.int .u64 153])).run Tryz.prog w = .ok (some (114,a,153)) w:=by kernel_rfl
theorem jk3 (w:World):(Rtype.directlyAssignable 114 114).run Tryz.prog w = .ok true w:=by kernel_rfl
theorem jju (w:World):(sizeOf 114).run Tryz.prog w = .ok 1 w:=by kernel_rfl
theorem j9y (t:Addr) (w:World):(ReflectliteValue.unpack (.iface 122 (.pointer (some t)))).run Tryz.prog w
  = .ok (.agg #[.pointer (some ⟨gC,122,none⟩),.pointer (some ⟨w.heap.size,0,none⟩),.int .u64 150]) (w.alloc (.cells #[.pointer (some t)] 122)):=by kernel_rfl
theorem j7k (a:Addr) (w:World):(ReflectliteValue.methodAny (ReflectliteValue.valueError "reflectlite.Value.Type" 0) (fun t _ _ _=>ReflectliteType.toType t) #[.agg #[.pointer (some ⟨gC,122,none⟩),.pointer (some a),.int .u64 150]]).run Tryz.prog w
  = .ok (.iface 197 (.agg #[.pointer (some ⟨gC,122,none⟩)])) w:=by kernel_rfl
theorem j4m (w:World):((ReflectliteType.abiMethod fun t=>(fun a:Nat=>Value.int IntKind.u8 (a:Int)) <$> Rtype.kind t) #[.pointer (some ⟨gC,122,none⟩)]).run Tryz.prog w = .ok (.int .u8 22) w:=by kernel_rfl
theorem jek (w:World):((ReflectliteType.abiMethod fun t=>(fun a:Nat=>Value.int IntKind.u8 (a:Int)) <$> Rtype.kind t) #[.pointer (some ⟨gC,120,none⟩)]).run Tryz.prog w = .ok (.int .u8 25) w:=by kernel_rfl
theorem j97 (a:Addr) (w:World):(ReflectliteValue.parts (.agg #[.pointer (some ⟨gC,122,none⟩),.pointer (some a),.int .u64 150])).run Tryz.prog w = .ok (some (122,a,150)) w:=by kernel_rfl
theorem j91:Tryz.prog.underlying 122=some (.pointer 120):=by kernel_rfl
theorem j5s (a p:Addr) (W:World) (ha:W.cell? a=some (.pointer (some p))) :
  (ReflectliteValue.method (ReflectliteValue.valueError "reflectlite.Value.IsNil" 0) ReflectliteValue.isNil #[.agg #[.pointer (some ⟨gC,122,none⟩),.pointer (some a),.int .u64 150]]).run Tryz.prog W = .ok (.bool false) W:=by
 rw [jbq]
 simp only [Sem.run_bind,j97,Result.andThen]
 simp [ReflectliteValue.isNil,loadVar,isAgg,underlying,j91,ha,Result.andThen]
theorem j7a (w:World):(ReflectliteType.method ReflectliteType.elem #[.agg #[.pointer (some ⟨gC,122,none⟩)]]).run Tryz.prog w = .ok (.iface 197 (.agg #[.pointer (some ⟨gC,120,none⟩)])) w:=by kernel_rfl
theorem jed (w:World):(ReflectliteType.relation "Implements" ReflectliteType.implements_ #[.agg #[.pointer (some ⟨gC,120,none⟩)],.iface 197 (.agg #[.pointer (some ⟨gC,81,none⟩)])]).run Tryz.prog w = .ok (.bool true) w:=by kernel_rfl
theorem jla (v:Value) (w:World):(ReflectliteType.typeOf #[.iface 120 v]).run Tryz.prog w = .ok (.iface 197 (.agg #[.pointer (some ⟨gC,120,none⟩)])) w:=by kernel_rfl
theorem jle (w:World):(ReflectliteType.relation "AssignableTo" ReflectliteType.assignableTo #[.agg #[.pointer (some ⟨gC,120,none⟩)],.iface 197 (.agg #[.pointer (some ⟨gC,120,none⟩)])]).run Tryz.prog w = .ok (.bool true) w:=by kernel_rfl
theorem jfz (w:World):(Rtype.elem? 122).run Tryz.prog w = .ok (some 120) w:=by kernel_rfl
theorem asMkB (p:Addr) (w:World):(ReflectliteValue.mk 120 p ReflectliteValue.flagAddr).run Tryz.prog w = .ok (.agg #[.pointer (some ⟨gC,120,none⟩),.pointer (some p),.int .u64 409]) w:=by kernel_rfl
theorem jb8 (a p:Addr) (W:World) (ha:W.cell? a=some (.pointer (some p))) :
  (ReflectliteValue.method (ReflectliteValue.valueError "reflectlite.Value.Elem" 0) ReflectliteValue.elem #[.agg #[.pointer (some ⟨gC,122,none⟩),.pointer (some a),.int .u64 150]]).run Tryz.prog W
   = .ok (.agg #[.pointer (some ⟨gC,120,none⟩),.pointer (some p),.int .u64 409]) W:=by
 rw [jbq]
 simp only [Sem.run_bind,j97,Result.andThen]
 simp [ReflectliteValue.elem,loadVar,isAgg,underlying,j91,ha,Result.andThen,jfz,asMkB]
theorem jkc (n:Int) (c:Value) (w:World):(ReflectliteValue.unpack (.iface 120 (.agg #[.int .i64 n,c]))).run Tryz.prog w
  = .ok (.agg #[.pointer (some ⟨gC,120,none⟩),.pointer (some ⟨w.heap.size,0,none⟩),.int .u64 153]) (w.alloc (.cells #[.int .i64 n,c] 120)):=by kernel_rfl
theorem jhf (a:Addr) (w:World):(ReflectliteValue.parts (.agg #[.pointer (some ⟨gC,120,none⟩),.pointer (some a),.int .u64 409])).run Tryz.prog w = .ok (some (120,a,409)) w:=by kernel_rfl
theorem jks (a:Addr) (w:World):(ReflectliteValue.parts (.agg #[.pointer (some ⟨gC,120,none⟩),.pointer (some a),.int .u64 153])).run Tryz.prog w = .ok (some (120,a,153)) w:=by kernel_rfl
theorem jjm (w:World):(Rtype.directlyAssignable 120 120).run Tryz.prog w = .ok true w:=by kernel_rfl
theorem jl3 (w:World):(sizeOf 120).run Tryz.prog w = .ok 2 w:=by kernel_rfl
theorem jg4 (w:World):(ReflectliteType.relation "AssignableTo" ReflectliteType.assignableTo #[.agg #[.pointer (some ⟨gC,114,none⟩)],.iface 197 (.agg #[.pointer (some ⟨gC,120,none⟩)])]).run Tryz.prog w = .ok (.bool false) w:=by kernel_rfl
end YthpgnliicpejoaaGreatDoor.AM
end Go.Proofs
