/- What the laws begin with: a new store, blocks of one byte, numbers of blocks; bytes as strings. No condition beyond those that each lemma bears. -/
import Derived.Test.YtnikhlajlhgikaaPln
namespace Go.Proofs.Ytnikhlajlhgikaa
open Go.RowKit
set_option linter.unusedSimpArgs false
set_option linter.unusedVariables false

theorem full_of (x : Int) (h : (Lit.int .u8 x).wf = true) : ∃ c : UInt8, x = (c.toNat : Int) ∧ ∃ C : List UInt8, C = List.replicate 64 c ∧ ∀ W : World, Calls Try.prog 23 #[.int .u8 x] W fun e w' => e = .returned (.slice (some ⟨W.heap.size, 0, none⟩) 64 64) ∧ Bk w' W.heap.size 5 (cells C).toArray ∧ Below W.heap.size W w' := by
  have hx : 0 ≤ x ∧ x ≤ 255 := by simpa [Lit.wf, IntKind.min, IntKind.max, IntKind.signed, IntKind.bits] using h
  have e : (((UInt8.ofNat x.toNat).toNat : Nat) : Int) = x := by simp; omega
  refine ⟨UInt8.ofNat x.toNat, e.symm, _, rfl, fun W => ?_⟩
  have := full_any (UInt8.ofNat x.toNat) W
  rw [e] at this
  exact this
theorem block_of (i : Int) (h : (Lit.int .u16 i).wf = true) : ∃ m k : Nat, i = (m : Int) ∧ m < 65536 ∧ (m : Int) % 1024 = (k : Int) ∧ k < 1024 := by
  have hx : 0 ≤ i ∧ i ≤ 65535 := by simpa [Lit.wf, IntKind.min, IntKind.max, IntKind.signed, IntKind.bits] using h
  exact ⟨i.toNat, i.toNat % 1024, by omega, by omega, by omega, by omega⟩
theorem part_of (i : Int) (h : (Lit.int .u8 i).wf = true) : ∃ m k : Nat, i = (m : Int) ∧ m < 256 ∧ (m : Int) % 65 = (k : Int) ∧ k ≤ 64 := by
  have hx : 0 ≤ i ∧ i ≤ 255 := by simpa [Lit.wf, IntKind.min, IntKind.max, IntKind.signed, IntKind.bits] using h
  exact ⟨i.toNat, i.toNat % 65, by omega, by omega, by omega, by omega⟩
/-- 65536 bytes 0 (by a name of its own: else they are written out). -/
def zeroB : List UInt8 := List.replicate 65536 0
theorem new_at (w : World) : Calls Try.prog 10 #[] w fun e w' => e = .returned (.pointer (some ⟨w.heap.size, 0, none⟩)) ∧ (∃ B0 : List UInt8, B0 = zeroB ∧ St w' w.heap.size ⟨B0, false, 0, false, 0, 0⟩) ∧ Below w.heap.size w w' := by
  refine (new_any w).mono fun e w' h => ⟨h.1, ⟨_, rfl, h.2.1⟩, h.2.2⟩
theorem w01 : wrap64 (0 + 1) = 1 := by unfold wrap64; omega
theorem w12 : wrap64 (1 + 1) = 2 := by unfold wrap64; omega
theorem w10 : wrap64 (1 - 1) = 0 := by unfold wrap64; omega
/-- A row that the call owns whole is a block. -/
theorem Own.bk {w : World} {base e g cap : Nat} {l : List UInt8} (h : Own w base e g cap l) (hl : l.length = cap) : Bk w g e (cells l).toArray := by
  rcases h.2 with ⟨h0, _⟩ | ⟨g', cap', cur, hv, _, hc, h1, h2, h3, h4⟩
  · cases h0
  · injection hv with hA _ hc'
    injection hA with hA
    injection hA with hA
    subst hA hc'
    unfold Bk
    rw [hc]
    have e : cur = (cells l).toArray := by
      apply Array.toList_inj.1
      rw [← h4, Nat.mul_one, List.take_of_length_le (by rw [Array.length_toList, h3, hl, Nat.mul_one]; exact Nat.le_refl _)]
    rw [e]
/-- Bytes as a string. -/
def S (l : List UInt8) : ByteArray := ⟨l.toArray⟩
theorem str_of {w : World} {A : Option Addr} {n c : Nat} {l : List UInt8} (hr : Rd w A l) (hn : n = l.length) : (convert 37 9 (.slice A n c)).run Try.prog w = .ok (.string (S l)) w := run_str_rd _ Try.underlying37 Try.underlying5 Try.underlying9 hn hr
theorem byte_at {w : World} {g : Nat} {T : TypeId} {l : List UInt8} (h : Bk w g T (cells l).toArray) {i : Nat} (hi : i < l.length) : ∃ b : UInt8, w.cell? ⟨g, i, none⟩ = some (.int .u8 (b.toNat : Int)) :=
  ⟨l[i], by rw [h.cellAt, List.getElem?_toArray]; exact cells_at (List.getElem?_eq_getElem hi)⟩
end Go.Proofs.Ytnikhlajlhgikaa
