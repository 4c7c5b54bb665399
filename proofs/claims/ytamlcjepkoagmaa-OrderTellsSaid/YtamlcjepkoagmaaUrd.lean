/- A slice that reads as units of places. No condition. -/
import Derived.Test.YtamlcjepkoagmaaSme
import Derived.Test.YtamlcjepkoagmaaOap
namespace Go.Proofs.Ytamlcjepkoagmaa
open Go.RowKit
set_option linter.unusedSimpArgs false
set_option linter.unusedVariables false

section
variable {w w' : World} {A B : Option Addr} {U : List (List Nat)} {u : List Nat} {i k b : Nat} {e : Ending}
/-- A slice at this address reads as these units. -/
def URd (w : World) (B : Option Addr) (U : List (List Nat)) : Prop := ∃ vs, RdK w 1 B (cellsW vs) ∧ UI w vs (U.map ints)
theorem URd.later (h : URd w B U) (hb : Below w.heap.size w w') : URd w' B U := by
  obtain ⟨vs, h1, h2⟩ := h
  exact ⟨vs, h1.later hb, h2.later hb⟩
theorem URd.at (h : URd w B U) (hi : i < U.length) : ∃ g o A c, B = some ⟨g, o, none⟩ ∧ g < w.heap.size ∧ w.cell? ⟨g, o + i, none⟩ = some (.slice A U[i].length c) ∧ RdI w A (ints U[i]) ∧ U[i].length ≤ c ∧ c ≤ 9223372036854775807 := by
  obtain ⟨vs, h1, h2⟩ := h
  obtain ⟨A, c, hv, hr, hc, hc2⟩ := h2.el i (ints U[i]) (by simp [hi])
  obtain ⟨g, o, hB, hg, hcell⟩ := cellW h1 hv
  rw [show (ints U[i]).length = U[i].length by simp [ints]] at hcell hc
  exact ⟨g, o, A, c, hB, hg, hcell, hr, hc, hc2⟩
theorem RdI.nat (h : RdI w A (ints u)) (hk : k < u.length) : ∃ g o, A = some ⟨g, o, none⟩ ∧ g < w.heap.size ∧ w.cell? ⟨g, o + k, none⟩ = some (.int .i64 (u[k] : Int)) := by
  obtain ⟨g, o, hA, hg, hc⟩ := h.at (i := k) (by simpa [ints] using hk)
  refine ⟨g, o, hA, hg, ?_⟩
  rw [hc]; simp [ints]
theorem RetU.rd (h : RetU b w e U) : ∃ B c, e = .returned (.slice B U.length c) ∧ URd w B U ∧ U.length ≤ c ∧ c ≤ 9223372036854775807 := by
  obtain ⟨v, vs, rfl, h1, h2⟩ := h
  obtain ⟨B, c, hv, hr, hc, hc2, _⟩ := h1.sl
  rw [cellsW_length, h2.len] at hv hc
  refine ⟨B, c, by rw [hv], ⟨vs, hr, h2.ui⟩, hc, ?_⟩
  unfold maxLen at hc2; omega
end
end Go.Proofs.Ytamlcjepkoagmaa
