/- A byte appended where there is no room. No condition. -/
import Derived.Test.YtehkdaknhgmdkaaBck
namespace Go.Proofs.Ytehkdaknhgmdkaa
open Go.RowKit
set_option linter.unusedSimpArgs false
set_option linter.unusedVariables false

section
variable {P : Program} (w : World)
/-- Appending one byte to a slice that reads as l and has no room: the new slice reads as l and the byte; what there was has not changed. -/
theorem wpList_append_byte {ops : Array Oper} {rest : List Oper} {o : Oper} {a : Act} {Q : Exit → Act → World → Prop}
    (hgd : o.guard = none) (sl x : Operand) (t : TypeId) (hop : o.op = Op.call { callee := Callee.builtin Builtin.append, args := #[sl, x], argTypes := #[t, t] })
    (e : Nat) (i : TypeInfo) (ht : P.underlying t = some (.slice e)) (hi : P.info? e = some i) (hz : i.zero = some (.int .u8 0)) (hsize : i.size = 1) (hby : i.bytes = 1)
    (g n : Nat) (l : List UInt8) (h : Nat) (m : UInt8) (hs : a.eval sl = .slice (some ⟨g, 0, none⟩) n n) (hx : a.eval x = .slice (some ⟨h, 0, none⟩) 1 1) (hr : Rd w (some ⟨g, 0, none⟩) l) (hm : w.cell? ⟨h, 0, none⟩ = some (.int .u8 (m.toNat : Int))) (hn : n = l.length) (hb : n ≤ 70368744177664)
    (hK : ∀ A c w', Rd w' A (l ++ [m]) → Below w.heap.size w w' → n + 1 ≤ c → c ≤ maxLen → wpList P ops Q rest (a.put o.dst (.slice A (n + 1) c)) w') :
    wpList P ops Q (o :: rest) a w := by
  subst hn
  refine wpList_plain hgd fun K hK' => ?_
  have hnews : ∀ j v, [Value.int .u8 (m.toNat : Int)][j]? = some v → w.cell? ((⟨h, 0, none⟩ : Addr).add j) = some v := fun j v hv => by
    match j, hv with
    | 0, hv => simp at hv; subst hv; simpa [Addr.add] using hm
    | (j + 1), hv => simp at hv
  have hrun := run_append_grow (P := P) w t o.type e i (.int .u8 0) ht hi hz ⟨g, 0, none⟩ l.length l.length (cells l) (by rw [cells_length, hsize, Nat.mul_one]) (hr.news _ rfl) ⟨h, 0, none⟩ 1 1 [.int .u8 (m.toNat : Int)] (by rw [hsize]; rfl) hnews (by omega) (by omega) (by rw [hby]; exact growslice_fits (by omega) (by omega))
  unfold Oper.wp
  simp [execOp, hop, resolve, invoke, builtin, hs, hx, hrun, Result.andThen]
  refine hK' _ _ (hK _ _ _ ?_ ((Below.refl _ _).drew.alloc (Nat.le_refl _) _) (grownCap_ge w _ _ e) (grownCap_le_maxLen w _ _ e (by unfold maxLen; omega)))
  intro k b hb
  refine ⟨_, _, rfl, ?_⟩
  rw [Nat.zero_add]
  have hk := (List.getElem?_eq_some_iff.1 hb).1
  refine (cell_of_row _ w.heap.size k _ e (0, 0) (heap_alloc_new w.drew _)).trans ?_
  have hc := cells_at hb
  rw [cells_append] at hc
  rw [Array.getElem?_append_left (by simp [cells_length]; simpa using hk)]
  simpa [cells] using hc
end
end Go.Proofs.Ytehkdaknhgmdkaa
