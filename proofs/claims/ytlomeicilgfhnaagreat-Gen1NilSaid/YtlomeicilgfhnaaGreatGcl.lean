/- The contracts of slices.Clone at machines, queues, jobs and labels. Condition: the slice reads as such elements, of at most 1000. -/
import Derived.Test.YtlomeicilgfhnaaGreatGs0
namespace Go.Proofs.YtlomeicilgfhnaaGreat
open Go.RowKit
set_option linter.unusedSimpArgs false
set_option linter.unusedVariables false

theorem infoM15 : (Tryz.prog.info? 60).map (fun i => (i.zero, i.size, i.bytes)) = some (some (.agg #[.string ⟨#[]⟩, .int .i64 0, .int .i64 0, .int .i64 0, .slice none 0 0, .bool false, .int .i64 0]), 7, 80) := by kernel_rfl
theorem infoQ15 : (Tryz.prog.info? 45).map (fun i => (i.zero, i.size, i.bytes)) = some (some (.agg #[.string ⟨#[]⟩, .int .i64 0, .int .i64 0, .int .i64 0]), 4, 40) := by kernel_rfl
theorem infoJ15 : (Tryz.prog.info? 66).map (fun i => (i.zero, i.size, i.bytes)) = some (some (.agg #[.string ⟨#[]⟩, .string ⟨#[]⟩, .int .i64 0, .int .i64 0, .int .i64 0, .int .i64 0, .slice none 0 0, .string ⟨#[]⟩, .string ⟨#[]⟩, .int .i64 0, .int .i64 0, .string ⟨#[]⟩, .int .i64 0]), 13, 160) := by kernel_rfl
theorem infoL15 : (Tryz.prog.info? 70).map (fun i => (i.zero, i.size, i.bytes)) = some (some (.agg #[.string ⟨#[]⟩, .string ⟨#[]⟩]), 2, 32) := by kernel_rfl
theorem infoA15 : (Tryz.prog.info? 64).map (fun i => (i.zero, i.size, i.bytes)) = some (some (.agg #[.int .i64 0, .string ⟨#[]⟩, .string ⟨#[]⟩]), 3, 40) := by kernel_rfl

set_option maxHeartbeats 2000000 in
set_option maxRecDepth 100000 in
theorem cloneM_any (A : Option Addr) (n c : Nat) (l : List Mc) (w : World) (hn : Hid (n = l.length)) (hr : Hid (RdK w 7 A (cellsM l))) (hbig : n ≤ 1000) :
    Calls Tryz.prog 68 #[.slice A n c] w fun e w' => ∃ v, e = .returned v ∧ OwnK w' w.heap.size 60 7 v (cellsM l) ∧ Below w.heap.size w w' := by
  have q22 : ∀ (w : World) (a : Option Addr) (n c n' c' : Nat), (binOp .eql 27 (.slice a n c) (.slice none n' c')).run Tryz.prog w = .ok (.bool a.isNone) w := fun w a n c n' c' => Lib.run_eql_slice_nil w _ _ a n c n' c' Tryz.underlying27
  cases A with
  | none =>
    have hl : l = [] := by
      cases l with
      | nil => rfl
      | cons x r => obtain ⟨_, _, ha, _⟩ := hr.out 0 _ (by simp [cellsM]; rfl); cases ha
    have HL := Lib.hid hl
    clear hl
    go_enter Tryz.func68, Tryz.ntmps68
    go_wp2
    go_ret
    exact ⟨_, rfl, by rw [HL.out]; exact OwnK.nil _ _ _ _, Below.refl _ _⟩
  | some a =>
    have hr2 := Lib.hid (hr.out.later ((Below.refl w.heap.size w).alloc (Nat.le_refl _) (.cells #[] 60)))
    have hlen : (cellsM l).length = n := by rw [cellsM_length, hn.out]
    have HLen := Lib.hid hlen
    clear hlen
    go_enter Tryz.func68, Tryz.ntmps68
    go_wp2_with ((with_reducible refine append_k _ rfl (.tmp 5) (.tmp 6) 27 rfl w.heap.size 60 _ 7 80 Tryz.underlying27 infoM15 rfl (by omega) (.slice (some ⟨w.heap.size, 0, none⟩) 0 0) [] rfl (OwnK.empty w w.heap.size 60 7 (Nat.le_refl _) rfl) a c n (cellsM l) rfl hr2.out (cellsM_k l) (cellsM_one l) HLen.out.symm (by have := HLen.out; simp only [List.length_nil, maxLen]; omega) (by have := HLen.out; simp only [List.length_nil]; omega) (by simp) ?_); intro v' w1 hown hgrow)
    go_ret
    refine ⟨v', rfl, by simpa using hown, ?_⟩
    exact ((Below.refl _ w).alloc (Nat.le_refl _) _).grown hgrow (by simp) (by intro k hk; simp [Value.ownBlock] at hk; omega)

set_option maxHeartbeats 2000000 in
set_option maxRecDepth 100000 in
theorem cloneQ_any (A : Option Addr) (n c : Nat) (l : List Qx) (w : World) (hn : Hid (n = l.length)) (hr : Hid (RdK w 4 A (cellsQ l))) (hbig : n ≤ 1000) :
    Calls Tryz.prog 69 #[.slice A n c] w fun e w' => ∃ v, e = .returned v ∧ OwnK w' w.heap.size 45 4 v (cellsQ l) ∧ Below w.heap.size w w' := by
  have q22 : ∀ (w : World) (a : Option Addr) (n c n' c' : Nat), (binOp .eql 28 (.slice a n c) (.slice none n' c')).run Tryz.prog w = .ok (.bool a.isNone) w := fun w a n c n' c' => Lib.run_eql_slice_nil w _ _ a n c n' c' Tryz.underlying28
  cases A with
  | none =>
    have hl : l = [] := by
      cases l with
      | nil => rfl
      | cons x r => obtain ⟨_, _, ha, _⟩ := hr.out 0 _ (by simp [cellsQ]; rfl); cases ha
    have HL := Lib.hid hl
    clear hl
    go_enter Tryz.func69, Tryz.ntmps69
    go_wp2
    go_ret
    exact ⟨_, rfl, by rw [HL.out]; exact OwnK.nil _ _ _ _, Below.refl _ _⟩
  | some a =>
    have hr2 := Lib.hid (hr.out.later ((Below.refl w.heap.size w).alloc (Nat.le_refl _) (.cells #[] 45)))
    have hlen : (cellsQ l).length = n := by rw [cellsQ_length, hn.out]
    have HLen := Lib.hid hlen
    clear hlen
    go_enter Tryz.func69, Tryz.ntmps69
    go_wp2_with ((with_reducible refine append_k _ rfl (.tmp 5) (.tmp 6) 28 rfl w.heap.size 45 _ 4 40 Tryz.underlying28 infoQ15 rfl (by omega) (.slice (some ⟨w.heap.size, 0, none⟩) 0 0) [] rfl (OwnK.empty w w.heap.size 45 4 (Nat.le_refl _) rfl) a c n (cellsQ l) rfl hr2.out (cellsQ_k l) (cellsQ_one l) HLen.out.symm (by have := HLen.out; simp only [List.length_nil, maxLen]; omega) (by have := HLen.out; simp only [List.length_nil]; omega) (by simp) ?_); intro v' w1 hown hgrow)
    go_ret
    refine ⟨v', rfl, by simpa using hown, ?_⟩
    exact ((Below.refl _ w).alloc (Nat.le_refl _) _).grown hgrow (by simp) (by intro k hk; simp [Value.ownBlock] at hk; omega)

set_option maxHeartbeats 2000000 in
set_option maxRecDepth 100000 in
theorem cloneJ_any (A : Option Addr) (n c : Nat) (l : List Jb) (w : World) (hn : Hid (n = l.length)) (hr : Hid (RdK w 13 A (cellsJ l))) (hbig : n ≤ 1000) :
    Calls Tryz.prog 70 #[.slice A n c] w fun e w' => ∃ v, e = .returned v ∧ OwnK w' w.heap.size 66 13 v (cellsJ l) ∧ Below w.heap.size w w' := by
  have q22 : ∀ (w : World) (a : Option Addr) (n c n' c' : Nat), (binOp .eql 29 (.slice a n c) (.slice none n' c')).run Tryz.prog w = .ok (.bool a.isNone) w := fun w a n c n' c' => Lib.run_eql_slice_nil w _ _ a n c n' c' Tryz.underlying29
  cases A with
  | none =>
    have hl : l = [] := by
      cases l with
      | nil => rfl
      | cons x r => obtain ⟨_, _, ha, _⟩ := hr.out 0 _ (by simp [cellsJ]; rfl); cases ha
    have HL := Lib.hid hl
    clear hl
    go_enter Tryz.func70, Tryz.ntmps70
    go_wp2
    go_ret
    exact ⟨_, rfl, by rw [HL.out]; exact OwnK.nil _ _ _ _, Below.refl _ _⟩
  | some a =>
    have hr2 := Lib.hid (hr.out.later ((Below.refl w.heap.size w).alloc (Nat.le_refl _) (.cells #[] 66)))
    have hlen : (cellsJ l).length = n := by rw [cellsJ_length, hn.out]
    have HLen := Lib.hid hlen
    clear hlen
    go_enter Tryz.func70, Tryz.ntmps70
    go_wp2_with ((with_reducible refine append_k _ rfl (.tmp 5) (.tmp 6) 29 rfl w.heap.size 66 _ 13 160 Tryz.underlying29 infoJ15 rfl (by omega) (.slice (some ⟨w.heap.size, 0, none⟩) 0 0) [] rfl (OwnK.empty w w.heap.size 66 13 (Nat.le_refl _) rfl) a c n (cellsJ l) rfl hr2.out (cellsJ_k l) (cellsJ_one l) HLen.out.symm (by have := HLen.out; simp only [List.length_nil, maxLen]; omega) (by have := HLen.out; simp only [List.length_nil]; omega) (by simp) ?_); intro v' w1 hown hgrow)
    go_ret
    refine ⟨v', rfl, by simpa using hown, ?_⟩
    exact ((Below.refl _ w).alloc (Nat.le_refl _) _).grown hgrow (by simp) (by intro k hk; simp [Value.ownBlock] at hk; omega)

set_option maxHeartbeats 2000000 in
set_option maxRecDepth 100000 in
theorem cloneL_any (A : Option Addr) (n c : Nat) (l : List Lb) (w : World) (hn : Hid (n = l.length)) (hr : Hid (RdK w 2 A (cellsLb l))) (hbig : n ≤ 1000) :
    Calls Tryz.prog 71 #[.slice A n c] w fun e w' => ∃ v, e = .returned v ∧ OwnK w' w.heap.size 70 2 v (cellsLb l) ∧ Below w.heap.size w w' := by
  have q22 : ∀ (w : World) (a : Option Addr) (n c n' c' : Nat), (binOp .eql 41 (.slice a n c) (.slice none n' c')).run Tryz.prog w = .ok (.bool a.isNone) w := fun w a n c n' c' => Lib.run_eql_slice_nil w _ _ a n c n' c' Tryz.underlying41
  cases A with
  | none =>
    have hl : l = [] := by
      cases l with
      | nil => rfl
      | cons x r => obtain ⟨_, _, ha, _⟩ := hr.out 0 _ (by simp [cellsLb]; rfl); cases ha
    have HL := Lib.hid hl
    clear hl
    go_enter Tryz.func71, Tryz.ntmps71
    go_wp2
    go_ret
    exact ⟨_, rfl, by rw [HL.out]; exact OwnK.nil _ _ _ _, Below.refl _ _⟩
  | some a =>
    have hr2 := Lib.hid (hr.out.later ((Below.refl w.heap.size w).alloc (Nat.le_refl _) (.cells #[] 70)))
    have hlen : (cellsLb l).length = n := by rw [cellsLb_length, hn.out]
    have HLen := Lib.hid hlen
    clear hlen
    go_enter Tryz.func71, Tryz.ntmps71
    go_wp2_with ((with_reducible refine append_k _ rfl (.tmp 5) (.tmp 6) 41 rfl w.heap.size 70 _ 2 32 Tryz.underlying41 infoL15 rfl (by omega) (.slice (some ⟨w.heap.size, 0, none⟩) 0 0) [] rfl (OwnK.empty w w.heap.size 70 2 (Nat.le_refl _) rfl) a c n (cellsLb l) rfl hr2.out (cellsLb_k l) (cellsLb_one l) HLen.out.symm (by have := HLen.out; simp only [List.length_nil, maxLen]; omega) (by have := HLen.out; simp only [List.length_nil]; omega) (by simp) ?_); intro v' w1 hown hgrow)
    go_ret
    refine ⟨v', rfl, by simpa using hown, ?_⟩
    exact ((Below.refl _ w).alloc (Nat.le_refl _) _).grown hgrow (by simp) (by intro k hk; simp [Value.ownBlock] at hk; omega)
end Go.Proofs.YtlomeicilgfhnaaGreat
