/- copy of bytes into a part of a block that is known whole. No condition beyond the law's own. -/
import Derived.Test.YtnikhlajlhgikaaDsm
namespace Go.Proofs.Ytnikhlajlhgikaa
open Go.RowKit
set_option linter.unusedSimpArgs false
set_option linter.unusedVariables false
section
variable {P : Program}
theorem copy_bk_op {o : Oper} {a : Act} {w : World} {K : Act → World → Prop} {Q : Exit → Act → World → Prop} (x y : Operand) (t e : TypeId) (hop : o.op = Op.call { callee := Callee.builtin Builtin.copy, args := #[x, y], argTypes := #[t, t] })
    (h1 : P.underlying t = some (.slice e)) (h2 : (P.info? e).map (·.size) = some 1) (g off m cm : Nat) (T : TypeId) (cs : Array Value) (A : Addr) (n c : Nat) (l : List UInt8)
    (hx : a.eval x = .slice (some ⟨g, off, none⟩) m cm) (hy : a.eval y = .slice (some A) n c) (hB : Bk w g T cs) (hr : Rd w (some A) l) (hn : n = l.length) (hf : off + m ≤ cs.size)
    (h : ∀ w', Bk w' g T (putPart cs off (cells (l.take m)).toArray) → w.grownBy w' (some g) → w'.heap.size = w.heap.size → K (a.put o.dst (goInt (Nat.min n m : Nat))) w') : o.wp P a w K Q := by
  subst hn
  have hlen : (cells (l.take m)).length = Nat.min l.length m := by rw [cells_length, List.length_take]; exact Nat.min_comm _ _
  have hle : (cells (l.take m)).length ≤ m := by rw [hlen]; exact Nat.min_le_right _ _
  have hrun := run_copy_row P w t t o.type e g off m cm A l.length c cs T (cells (l.take m)) h1 h2 hB hlen (fun j v hj => by
    obtain ⟨b, hb, rfl⟩ := cells_get hj
    rw [List.getElem?_take] at hb
    split at hb
    · exact hr.news A rfl j _ (cells_at hb)
    · cases hb) (by omega) (cells_one _)
  rw [hlen] at hrun
  unfold Oper.wp
  simp [execOp, hop, resolve, invoke, builtin, hx, hy, hrun, Result.andThen]
  refine h _ ?_ ⟨rfl, rfl, rfl, by simp, fun i hi hne => ?_⟩ (by simp)
  · have e2 : putPart cs off (cells (l.take m)).toArray = (List.take off cs.toList ++ cells (List.take m l) ++ List.drop (off + l.length.min m) cs.toList).toArray := by
      unfold putPart; simp only [List.size_toArray, hlen]
    rw [e2]
    have := setRow_heap w g cs (List.take off cs.toList ++ cells (List.take m l) ++ List.drop (off + l.length.min m) cs.toList).toArray T (0, 0) hB
    unfold Bk
    simpa using this
  · exact setRow_other w g i _ (fun e => hne (by rw [e]))
theorem copy_bk {ops : Array Oper} {rest : List Oper} {o : Oper} {a : Act} {w : World} {Q : Exit → Act → World → Prop} (hw : Region.wanted o (yielded ops a.tmps) = true) (x y : Operand) (t e : TypeId) (hop : o.op = Op.call { callee := Callee.builtin Builtin.copy, args := #[x, y], argTypes := #[t, t] })
    (h1 : P.underlying t = some (.slice e)) (h2 : (P.info? e).map (·.size) = some 1) (g off m cm : Nat) (T : TypeId) (cs : Array Value) (A : Addr) (n c : Nat) (l : List UInt8)
    (hx : a.eval x = .slice (some ⟨g, off, none⟩) m cm) (hy : a.eval y = .slice (some A) n c) (hB : Bk w g T cs) (hr : Rd w (some A) l) (hn : n = l.length) (hf : off + m ≤ cs.size)
    (h : ∀ w', Bk w' g T (putPart cs off (cells (l.take m)).toArray) → w.grownBy w' (some g) → w'.heap.size = w.heap.size → wpList P ops Q rest (a.put o.dst (goInt (Nat.min n m : Nat))) w') : wpList P ops Q (o :: rest) a w :=
  BigFrame.wpList_want hw fun _ hK => copy_bk_op x y t e hop h1 h2 g off m cm T cs A n c l hx hy hB hr hn hf (fun w' h1 h2 h3 => hK _ _ (h w' h1 h2 h3))
end
/-- What the walk through a drawn region keeps may be made stronger in its midst. -/
theorem wpAnyH_strong {P : Program} {md : Region.Mode} {ops : Array Oper} {Q : Exit → Act → World → Prop} {S S' : World → Prop} (hS : ∀ w, S' w → S w) : ∀ (fuel : Nat) (listed : Array Bool) (a : Act) (w : World), wpAnyH P md ops Q S' fuel listed a w → wpAnyH P md ops Q S fuel listed a w
  | 0, _, _, _, h => h
  | fuel + 1, _, _, _, h => ⟨h.1, fun i hi => wpOp_mono (fun a' w' h' => ⟨hS _ h'.1, wpAnyH_strong hS fuel _ a' w' h'.2⟩) (h.2 i hi)⟩
end Go.Proofs.Ytnikhlajlhgikaa
