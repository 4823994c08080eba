/- A head that a function tells out of a variable of its own. -/
import Derived.Test.YtnoegkhkeeameaaRecMath2
import Derived.Test.YtnoegkhkeeameaaLib
import Derived.Test.YtnoegkhkeeameaaChecked
import Derived.Laws.ResultCell
namespace Go.Proofs.Ytnoegkhkeeameaa
open Go.RowKit
namespace RecW
theorem results_hd {fn : Func} {p u : Tmp} (h : fn.results = #[.cell p 74, .tmp u]) (tmps : Array Value) (w : World) (b : Nat) (k g q z m : Int) (hp : tmps.getD p undef = .pointer (some ⟨b, 0, none⟩))
    (c0 : w.cell? ⟨b, 0, none⟩ = some (.int .i64 k)) (c1 : w.cell? ⟨b, 1, none⟩ = some (.int .i64 g)) (c2 : w.cell? ⟨b, 2, none⟩ = some (.int .i64 q)) (c3 : w.cell? ⟨b, 3, none⟩ = some (.int .i64 z)) (c4 : w.cell? ⟨b, 4, none⟩ = some (.int .i64 m)) :
    (results fn tmps).run Try.prog w = .ok (.tuple #[RM.hd k g q z m, tmps.getD u undef]) w := by
  rw [results_cell_tmp h, hp]
  simp [RM.hd, loadVar, go_sem, Result.andThen, c0, c1, c2, c3, c4]
theorem results_rhd {fn : Func} {p u : Tmp} (h : fn.results = #[.cell p 53, .tmp u]) (tmps : Array Value) (w : World) (b : Nat) (k g q z m : Int) (hp : tmps.getD p undef = .pointer (some ⟨b, 0, none⟩))
    (c0 : w.cell? ⟨b, 0, none⟩ = some (.int .i64 k)) (c1 : w.cell? ⟨b, 1, none⟩ = some (.int .i64 g)) (c2 : w.cell? ⟨b, 2, none⟩ = some (.int .i64 q)) (c3 : w.cell? ⟨b, 3, none⟩ = some (.int .i64 z)) (c4 : w.cell? ⟨b, 4, none⟩ = some (.int .i64 m)) :
    (results fn tmps).run Try.prog w = .ok (.tuple #[RM.hd k g q z m, tmps.getD u undef]) w := by
  rw [results_cell_tmp h, hp]
  simp [RM.hd, loadVar, go_sem, Result.andThen, c0, c1, c2, c3, c4]
end RecW
end Go.Proofs.Ytnoegkhkeeameaa
