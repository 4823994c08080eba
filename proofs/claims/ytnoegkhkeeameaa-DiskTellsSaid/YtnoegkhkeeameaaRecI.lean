/- The contract of the document's joiner. -/
import Derived.Test.YtnoegkhkeeameaaRecH
namespace Go.Proofs.Ytnoegkhkeeameaa
open Go.RowKit
namespace RecW
theorem sv_len {w : World} {v : Value} {l : List ByteArray} {n : Nat} (hn : l.length = n) (h : RM.SV w v l) : ∃ a cap, v = .slice a n cap ∧ (0 < n → ∃ b off, a = some ⟨b, off, none⟩ ∧ ∀ j (h : j < l.length), w.cell? ⟨b, off + j, none⟩ = some (.string l[j])) := by
  subst hn
  obtain ⟨a, cap, h1, h2⟩ := h
  exact ⟨a, cap, h1, fun h0 => by obtain ⟨b, off, h3, _, h4⟩ := h2 h0; exact ⟨b, off, h3, h4⟩⟩
theorem lists_eq {a b : List ByteArray} (hn : a.length = b.length) (h : ∀ j (h1 : j < a.length) (h2 : j < b.length), a[j] = b[j]) : a = b := List.ext_getElem hn h
end RecW
end Go.Proofs.Ytnoegkhkeeameaa
