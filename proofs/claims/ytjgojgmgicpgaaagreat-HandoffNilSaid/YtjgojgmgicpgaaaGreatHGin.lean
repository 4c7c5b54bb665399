/- The contracts of slices.Insert at the end of a row that the call owns, at machines and at queues. Condition: the row is of at most 1000 elements. -/
import Derived.Test.YtjgojgmgicpgaaaGreatHQ03
import Derived.Test.YtjgojgmgicpgaaaGreatHOmp
namespace Go.Proofs.YtjgojgmgicpgaaaGreat
open Go.RowKit
set_option linter.unusedSimpArgs false
set_option linter.unusedVariables false

set_option maxHeartbeats 3200000 in
set_option maxRecDepth 100000 in
theorem insertQ_end (base : Nat) (v : Value) (L : List Qx) (q : Qx) (ad : Addr) (c n : Nat) (w : World) (hn : Hid (n = L.length)) (hbig : n ≤ 1000) (hO : Hid (OwnK w base 55 4 v (cellsQ L))) (hr : Hid (RdK w 4 (some ad) (cellsQ [q]))) (hb : base ≤ w.heap.size) :
    Calls Tryz.prog 248 #[v, .int .i64 n, .slice (some ad) 1 c] w fun e w' => (∃ v', e = .returned v' ∧ OwnK w' base 55 4 v' (cellsQ (L ++ [q])) ∧ (v'.ownBlock = v.ownBlock ∨ v'.ownBlock = some w.heap.size)) ∧ w.grownBy w' v.ownBlock := by
  obtain ⟨A, cap, hv, _, hc1, hc2, _⟩ := hO.out.sl
  rw [cellsQ_length] at hv hc1
  have hnl := hn.out
  rw [← hnl] at hv hc1
  subst hv
  have hc3 : cap ≤ 9223372036854775807 := by unfold maxLen at hc2; omega
  clear hnl hc2
  have HE : Hid ((cellsQ L).length = n) := by show _ = _; rw [cellsQ_length]; exact hn.out.symm
  have HA : Hid (cellsQ (L ++ [q]) = cellsQ L ++ cellsQ [q]) := cellsQ_append _ _
  go_enter Tryz.func248, Tryz.ntmps248
  go_wp2_with (first | ((with_reducible refine append_ka _ rfl (.tmp 23) (.tmp 24) 23 rfl base 55 _ 4 40 Tryz.underlying23 infoQ15 rfl (by omega) (.slice A n cap) (cellsQ L) rfl hO.out ad c 1 (cellsQ [q]) rfl hr.out (cellsQ_k _) (cellsQ_one _) (by simp [cellsQ]) (by have := HE.out; simp only [cellsQ_length, List.length_singleton, maxLen] at *; omega) (by have := HE.out; simp only [cellsQ_length, List.length_singleton] at *; omega) hb ?_); intro v' w1 hown hgrow hat))
  all_goals go_ret
  all_goals exact ⟨⟨v', rfl, by rw [HA.out]; exact hown, by cases A <;> exact hat⟩, by cases A <;> exact hgrow⟩

set_option maxHeartbeats 3200000 in
set_option maxRecDepth 100000 in
theorem insertM_end (base : Nat) (v : Value) (L : List Mc) (q : Mc) (ad : Addr) (c n : Nat) (w : World) (hn : Hid (n = L.length)) (hbig : n ≤ 1000) (hO : Hid (OwnK w base 93 7 v (cellsM L))) (hr : Hid (RdK w 7 (some ad) (cellsM [q]))) (hb : base ≤ w.heap.size) :
    Calls Tryz.prog 244 #[v, .int .i64 n, .slice (some ad) 1 c] w fun e w' => (∃ v', e = .returned v' ∧ OwnK w' base 93 7 v' (cellsM (L ++ [q])) ∧ (v'.ownBlock = v.ownBlock ∨ v'.ownBlock = some w.heap.size)) ∧ w.grownBy w' v.ownBlock := by
  obtain ⟨A, cap, hv, _, hc1, hc2, _⟩ := hO.out.sl
  rw [cellsM_length] at hv hc1
  have hnl := hn.out
  rw [← hnl] at hv hc1
  subst hv
  have hc3 : cap ≤ 9223372036854775807 := by unfold maxLen at hc2; omega
  clear hnl hc2
  have HE : Hid ((cellsM L).length = n) := by show _ = _; rw [cellsM_length]; exact hn.out.symm
  have HA : Hid (cellsM (L ++ [q]) = cellsM L ++ cellsM [q]) := cellsM_append _ _
  go_enter Tryz.func244, Tryz.ntmps244
  go_wp2_with (first | ((with_reducible refine append_ka _ rfl (.tmp 23) (.tmp 24) 22 rfl base 93 _ 7 80 Tryz.underlying22 infoM15 rfl (by omega) (.slice A n cap) (cellsM L) rfl hO.out ad c 1 (cellsM [q]) rfl hr.out (cellsM_k _) (cellsM_one _) (by simp [cellsM]) (by have := HE.out; simp only [cellsM_length, List.length_singleton, maxLen] at *; omega) (by have := HE.out; simp only [cellsM_length, List.length_singleton] at *; omega) hb ?_); intro v' w1 hown hgrow hat))
  all_goals go_ret
  all_goals exact ⟨⟨v', rfl, by rw [HA.out]; exact hown, by cases A <;> exact hat⟩, by cases A <;> exact hgrow⟩
end Go.Proofs.YtjgojgmgicpgaaaGreat
