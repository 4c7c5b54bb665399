/- The contracts of the document's store: Arm, Power, Read. Condition: the store lies there. -/
import Derived.Test.YtnikhlajlhgikaaFsh
namespace Go.Proofs.Ytnikhlajlhgikaa
open Go.RowKit
set_option linter.unusedSimpArgs false
set_option linter.unusedVariables false

/-- The document's store is another one; nothing else has turned. -/
def Changed (g gb : Nat) (r : Rv) (w w' : World) : Prop := Rs w' g gb r ∧ Gr [g, gb] w w' ∧ w'.heap.size = w.heap.size
section
variable {w w' : World} {g gb : Nat} {r : Rv}
theorem Rs.s1 (h : Rs w g gb r) (v : Bool) : Rs (w.setCell ⟨g, 1, none⟩ (.bool v)) g gb { r with armed := v } :=
  ⟨h.len, h.ne, h.bk.put 1 (.bool v), h.row.other (p := ⟨g, 1, none⟩) (fun e => h.ne e.symm) _⟩
theorem Rs.s2 (h : Rs w g gb r) (v : Int) : Rs (w.setCell ⟨g, 2, none⟩ (.int .i64 v)) g gb { r with left := v } :=
  ⟨h.len, h.ne, h.bk.put 2 (.int .i64 v), h.row.other (p := ⟨g, 2, none⟩) (fun e => h.ne e.symm) _⟩
theorem Rs.s3 (h : Rs w g gb r) (v : Int) : Rs (w.setCell ⟨g, 3, none⟩ (.int .i64 v)) g gb { r with part := v } :=
  ⟨h.len, h.ne, h.bk.put 3 (.int .i64 v), h.row.other (p := ⟨g, 3, none⟩) (fun e => h.ne e.symm) _⟩
theorem Rs.s4 (h : Rs w g gb r) (v : Bool) : Rs (w.setCell ⟨g, 4, none⟩ (.bool v)) g gb { r with down := v } :=
  ⟨h.len, h.ne, h.bk.put 4 (.bool v), h.row.other (p := ⟨g, 4, none⟩) (fun e => h.ne e.symm) _⟩
theorem Rs.s5 (h : Rs w g gb r) (v : Int) : Rs (w.setCell ⟨g, 5, none⟩ (.int .i64 v)) g gb { r with wr := v } :=
  ⟨h.len, h.ne, h.bk.put 5 (.int .i64 v), h.row.other (p := ⟨g, 5, none⟩) (fun e => h.ne e.symm) _⟩
theorem Rs.c0 (h : Rs w g gb r) : w.cell? ⟨g, 0, none⟩ = some (.slice (some ⟨gb, 0, none⟩) 65536 65536) := h.bk.cellAt 0
theorem Rs.c1 (h : Rs w g gb r) : w.cell? ⟨g, 1, none⟩ = some (.bool r.armed) := h.bk.cellAt 1
theorem Rs.c2 (h : Rs w g gb r) : w.cell? ⟨g, 2, none⟩ = some (.int .i64 r.left) := h.bk.cellAt 2
theorem Rs.c3 (h : Rs w g gb r) : w.cell? ⟨g, 3, none⟩ = some (.int .i64 r.part) := h.bk.cellAt 3
theorem Rs.c4 (h : Rs w g gb r) : w.cell? ⟨g, 4, none⟩ = some (.bool r.down) := h.bk.cellAt 4
theorem Rs.c5 (h : Rs w g gb r) : w.cell? ⟨g, 5, none⟩ = some (.int .i64 r.wr) := h.bk.cellAt 5
end
theorem rarm_any (g gb : Nat) (r : Rv) (n p : Int) (w : World) (h : Rs w g gb r) : Calls Try.prog 17 #[.pointer (some ⟨g, 0, none⟩), .int .i64 n, .int .i64 p] w fun e w' => e = .returned (.tuple #[]) ∧ Changed g gb { r with armed := decide (0 ≤ n), left := n, part := p } w w' := by
  have k1 := h.c1
  have k2 := h.c2
  have k3 := h.c3
  have f1 := h.bk.free 1
  have f2 := h.bk.free 2
  have f3 := h.bk.free 3
  have hg := h.bk.here
  have H := Lib.hid h
  clear h
  go_enter Try.func17, Try.ntmps17
  go_wp2
  go_returns
  exact ⟨rfl, ((H.out.s1 _).s2 n).s3 p, (((Gr.refl _ _).set (p := ⟨g, 1, none⟩) (by simp) _).set (p := ⟨g, 2, none⟩) (by simp) _).set (p := ⟨g, 3, none⟩) (by simp) _, by simp⟩
theorem rpower_any (g gb : Nat) (r : Rv) (w : World) (h : Rs w g gb r) : Calls Try.prog 19 #[.pointer (some ⟨g, 0, none⟩)] w fun e w' => e = .returned (.tuple #[]) ∧ Changed g gb { r with armed := false, down := false } w w' := by
  have k1 := h.c1
  have k4 := h.c4
  have f1 := h.bk.free 1
  have f4 := h.bk.free 4
  have hg := h.bk.here
  have H := Lib.hid h
  clear h
  go_enter Try.func19, Try.ntmps19
  go_wp2
  go_returns
  exact ⟨rfl, (H.out.s4 _).s1 _, ((Gr.refl _ _).set (p := ⟨g, 4, none⟩) (by simp) _).set (p := ⟨g, 1, none⟩) (by simp) _, by simp⟩
/-- What the document's Read answers. -/
def Rv.read (r : Rv) (i : Int) : List UInt8 × Int := if r.down = true then ([], 13) else if isB i = false then ([], 1) else (blockAt r.B i.toNat, 0)
set_option maxHeartbeats 1600000 in
theorem rread_any (g gb : Nat) (r : Rv) (i : Int) (w : World) (h : Rs w g gb r) : Calls Try.prog 15 #[.pointer (some ⟨g, 0, none⟩), .int .i64 i] w fun e w' => e = .returned (.tuple #[.string (S (r.read i).1), .int .i64 (r.read i).2]) ∧ w = w' := by
  have hg := h.bk.here
  have k4 := h.c4
  have k0 := h.c0
  have hS0 : S [] = ⟨#[]⟩ := rfl
  by_cases hd : r.down = true
  · have e1 : r.read i = ([], 13) := by unfold Rv.read; rw [if_pos hd]
    rw [e1]
    rw [hd] at k4
    have H := Lib.hid h
    clear h e1 hd
    go_enter Try.func15, Try.ntmps15
    go_wp2
    go_ret2
    exact ⟨rfl, rfl⟩
  · rw [(by simpa using hd : r.down = false)] at k4
    by_cases h0 : i < 0
    · have e1 : r.read i = ([], 1) := by unfold Rv.read; rw [if_neg hd, if_pos (by unfold isB; simp; omega)]
      rw [e1]
      have H := Lib.hid h
      clear h e1 hd
      go_enter Try.func15, Try.ntmps15
      go_wp2
      go_ret2
      exact ⟨rfl, rfl⟩
    · by_cases h1 : 1023 < i
      · have e1 : r.read i = ([], 1) := by unfold Rv.read; rw [if_neg hd, if_pos (by unfold isB; simp; omega)]
        rw [e1]
        have H := Lib.hid h
        clear h e1 hd
        go_enter Try.func15, Try.ntmps15
        go_wp2
        go_ret2
        exact ⟨rfl, rfl⟩
      · obtain ⟨k, rfl, hk⟩ : ∃ k : Nat, i = (k : Int) ∧ k < 1024 := ⟨i.toNat, by omega, by omega⟩
        have e1 : r.read (k : Int) = (blockAt r.B k, 0) := by unfold Rv.read; rw [if_neg hd, if_neg (by rw [isB_k hk]; simp)]; rfl
        rw [e1]
        have hm1 : wrap64 (64 * (k : Int)) = 64 * (k : Int) := by unfold wrap64; omega
        have hm2 : wrap64 (64 * (k : Int) + 64) = 64 * (k : Int) + 64 := by unfold wrap64; omega
        have hm3 : (0 : Int) ≤ 64 * (k : Int) := by omega
        have hm4 : 64 * (k : Int) + 64 ≤ 65536 := by omega
        have hm5 : 64 * (k : Int) ≤ 64 * (k : Int) + 64 := by omega
        have hx : (convert 37 9 (.slice (some ⟨gb, 64 * k, none⟩) 64 (65536 - 64 * k))).run Try.prog w = .ok (.string (S (blockAt r.B k))) w := by
          refine str_of ?_ (blockAt_length h.len hk).symm
          have := Bk.rdAt (l := r.B) (tl := []) (by simpa using h.row) (k * 64) 64
          rw [Nat.mul_comm 64 k]
          exact this
        have H := Lib.hid h
        clear h e1 hd
        go_enter Try.func15, Try.ntmps15
        go_wp2
        go_ret2
        exact ⟨rfl, rfl⟩
end Go.Proofs.Ytnikhlajlhgikaa
