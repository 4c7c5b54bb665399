/- Tick of a scheduler without machines and jobs. Condition: it lies in memory that the call owns. · The contract of the statements' own look at a state's size. Condition: what is handed in reads as a state. -/
import Derived.Test.YtjgojgmgicpgaaaGreatTGdq
import Derived.Test.YtjgojgmgicpgaaaGreatTOmp
import Derived.Carry
import Derived.Test.YtjgojgmgicpgaaaGreatTGsa
namespace Go.Proofs.YtjgojgmgicpgaaaGreat
open Go.RowKit
set_option linter.unusedSimpArgs false
set_option linter.unusedVariables false

set_option maxHeartbeats 1000000 in
theorem insI_none (A : Option Addr) (c : Nat) (f : Value) (w : World) : Calls Tryz.prog 459 #[.slice A 0 c, .int .i64 0, .int .i64 0, f] w fun e w' => e = .returned (.tuple #[]) ∧ w = w' := by
  go_enter Tryz.func459, Tryz.ntmps459
  go_wp2
  refine wp_loop_rounds 1 ?_
  rw [rounds_succ]
  go_wp2
  go_end0
  exact ⟨rfl, rfl⟩
set_option maxHeartbeats 1000000 in
theorem stableI_none (A : Option Addr) (c : Nat) (f : Value) (w : World) : Calls Tryz.prog 438 #[.slice A 0 c, .int .i64 0, f] w fun e w' => e = .returned (.tuple #[]) ∧ w = w' := by
  have K1 := Lib.hid (fun W => insI_none A c f W)
  go_enter Tryz.func438, Tryz.ntmps438
  go_wp2
  refine wp_loop_rounds 1 ?_
  rw [rounds_succ]
  go_wp2_with fail
  refine (K1.out _).mono ?_; rintro e w' ⟨rfl, rfl⟩
  go_wp2_with fail
  refine wp_loop_rounds 1 ?_
  rw [rounds_succ]
  go_wp2
  go_end0
  exact ⟨rfl, rfl⟩
set_option maxHeartbeats 1000000 in
theorem sortStableI_none (A : Option Addr) (c : Nat) (f : Value) (w : World) : Calls Tryz.prog 414 #[.slice A 0 c, f] w fun e w' => e = .returned (.tuple #[]) ∧ w = w' := by
  have K1 := Lib.hid (fun W => stableI_none A c f W)
  go_enter Tryz.func414, Tryz.ntmps414
  go_wp2_with fail
  refine (K1.out _).mono ?_; rintro e w' ⟨rfl, rfl⟩
  go_wp2_with fail
  go_end0
  exact ⟨rfl, rfl⟩
set_option maxHeartbeats 1600000 in
theorem waiting_nil (w : World) : Calls Tryz.prog 368 #[.slice none 0 0] w fun e w' => e = .returned (.slice none 0 0) ∧ Below w.heap.size w w' := by
  have K1 := Lib.hid (fun f W => sortStableI_none none 0 f W)
  have hb0 : Below w.heap.size w (w.alloc (.cells #[.slice none 0 0] 24)) := (Below.refl _ _).alloc (Nat.le_refl _) _
  go_enter Tryz.func368, Tryz.ntmps368
  go_wp2_with fail
  refine wp_loop_rounds 1 ?_
  rw [rounds_succ]
  go_wp2_with fail
  refine (K1.out _ _).mono ?_; rintro e w' ⟨rfl, rfl⟩
  go_wp2_with fail
  go_ret
  exact ⟨rfl, hb0⟩
set_option maxHeartbeats 1600000 in
theorem collect_nil (w : World) : Calls Tryz.prog 369 #[.slice none 0 0, .slice none 0 0] w fun e w' => (∃ b, e = .returned (.map (some b))) ∧ Below w.heap.size w w' := by
  have hmm := @run_makeMap Tryz.prog
  go_enter Tryz.func369, Tryz.ntmps369
  go_wp2_with fail
  refine wp_loop_rounds 1 ?_
  rw [rounds_succ]
  go_wp2_with fail
  refine wp_loop_rounds 1 ?_
  rw [rounds_succ]
  go_wp2_with fail
  go_ret
  exact ⟨⟨_, rfl⟩, (Below.refl _ _).alloc (Nat.le_refl _) _⟩
set_option maxHeartbeats 1600000 in
theorem units_nil (w : World) : Calls Tryz.prog 317 #[.slice none 0 0] w fun e w' => e = .returned (.slice none 0 0) ∧ Below w.heap.size w w' := by
  have K1 := Lib.hid (fun W => waiting_nil W)
  have K2 := Lib.hid (fun W => collect_nil W)
  go_enter Tryz.func317, Tryz.ntmps317
  go_wp2_with fail
  refine (K1.out _).mono ?_; rintro e w1 ⟨rfl, hb1⟩
  go_wp2_with fail
  refine (K2.out _).mono ?_; rintro e w2 ⟨⟨b, rfl⟩, hb2⟩
  go_wp2_with fail
  refine wp_loop_rounds 1 ?_
  rw [rounds_succ]
  go_wp2_with fail
  go_ret
  exact ⟨rfl, hb1.trans (hb2.mono hb1.size)⟩
set_option maxHeartbeats 1600000 in
theorem pass_nil (g : Nat) (w : World) (hc : w.cell? ⟨g, 4, none⟩ = some (.slice none 0 0)) : Calls Tryz.prog 255 #[.pointer (some ⟨g, 0, none⟩)] w fun e w' => e = .returned (.slice none 0 0) ∧ Below w.heap.size w w' := by
  have K1 := Lib.hid (fun W => units_nil W)
  go_enter Tryz.func255, Tryz.ntmps255
  go_wp2_with fail
  refine (K1.out _).mono ?_; rintro e w1 ⟨rfl, hb1⟩
  go_wp2_with fail
  refine wp_loop_rounds 1 ?_
  rw [rounds_succ]
  go_wp2_with fail
  go_ret
  exact ⟨rfl, hb1⟩
set_option maxHeartbeats 1600000 in
theorem expire_nil (g : Nat) (w : World) (hc : w.cell? ⟨g, 2, none⟩ = some (.slice none 0 0)) : Calls Tryz.prog 254 #[.pointer (some ⟨g, 0, none⟩)] w fun e w' => e = .returned (.slice none 0 0) ∧ w = w' := by
  go_enter Tryz.func254, Tryz.ntmps254
  go_wp2_with fail
  refine wp_loop_rounds 1 ?_
  rw [rounds_succ]
  go_wp2_with fail
  go_ret
  exact ⟨rfl, rfl⟩
/-- The state of a new scheduler behind one tick. -/
def sgT : Sg := { Sg.new with ck := 1 }
set_option maxHeartbeats 6400000 in
set_option maxRecDepth 100000 in
theorem tick_new (b g : Nat) (lst : Int) (w : World) (hG : Gs w b g lst (.slice none 0 0) (.slice none 0 0) (.slice none 0 0) Sg.new) :
    Calls Tryz.prog 151 #[.pointer (some ⟨g, 0, none⟩)] w fun e w' => e = .returned (.tuple #[.slice none 0 0, .int .i64 0]) ∧ Went w w' b g (.slice none 0 0) (.slice none 0 0) (.slice none 0 0) Sg.new sgT := by
  obtain ⟨w1, hw1⟩ : ∃ w1, w1 = w.setCell ⟨g, 0, none⟩ (.int .i64 1) := ⟨_, rfl⟩
  have hB : Bk w g 111 #[.int .i64 0, .int .i64 lst, .slice none 0 0, .slice none 0 0, .slice none 0 0] := hG.bk
  have hB1 : Bk w1 g 111 #[.int .i64 1, .int .i64 lst, .slice none 0 0, .slice none 0 0, .slice none 0 0] := by rw [hw1]; exact hB.put 0 _
  have hgr : GrP (fun k => k = g) w w1 := by rw [hw1]; exact (GrP.refl (fun k => k = g) w).set rfl _
  have hG1 : Gs w1 b g lst (.slice none 0 0) (.slice none 0 0) (.slice none 0 0) sgT := ⟨hB1, hG.nx, ⟨OwnK.nil _ _ _ _, OwnK.nil _ _ _ _, OwnK.nil _ _ _ _, fun x hx => (by cases hx), fun x hx => (by cases hx), fun x hx => (by cases hx), fun x hx => (by cases hx), fun x hx => (by cases hx)⟩, hG.le, fun k hk => (blkS_new hk).elim⟩
  have c0 : w.cell? ⟨g, 0, none⟩ = some (.int .i64 0) := hB.cellAt 0
  have f0 : w.frozen? ⟨g, 0, none⟩ = false := hB.free 0
  have c2 : w1.cell? ⟨g, 2, none⟩ = some (.slice none 0 0) := hB1.cellAt 2
  have c4 : w1.cell? ⟨g, 4, none⟩ = some (.slice none 0 0) := hB1.cellAt 4
  have HW : Hid (∀ w2, Below w1.heap.size w1 w2 → Went w w2 b g (.slice none 0 0) (.slice none 0 0) (.slice none 0 0) Sg.new sgT) := fun w2 hb2 =>
    ⟨lst, _, _, _, sgT, hG1.below hb2, rfl, (hgr.wide fun k _ e => .inl e).trans (GrP.ofBelow hb2), fun k hk => .inl (hk.imp id fun h => (blkS_new h).elim)⟩
  have K1 := Lib.hid (expire_nil g w1 c2)
  have K2 := Lib.hid (pass_nil g w1 c4)
  clear hB hB1 hgr hG1 c2 c4 hG
  go_enter Tryz.func151, Tryz.ntmps151
  go_wp2_with fail
  rw [← hw1]
  clear hw1 c0 f0
  refine K1.out.mono ?_; rintro e w' ⟨rfl, rfl⟩
  go_wp2_with fail
  refine K2.out.mono ?_; rintro e w2 ⟨rfl, hb2⟩
  go_wp2_with fail
  exact bodyPost_ret (v := .tuple #[.slice none 0 0, .int .i64 0]) (by simp [results, Tryz.results151, go_sem]) rfl ⟨rfl, HW.out w2 hb2⟩
end Go.Proofs.YtjgojgmgicpgaaaGreat

namespace Go.Proofs.YtjgojgmgicpgaaaGreat
open Go.RowKit
set_option linter.unusedSimpArgs false
set_option linter.unusedVariables false

/-- A state of a size that is looked at. -/
structure StB (S : Sg) : Prop where
  M : S.M.length ≤ 40
  Q : S.Q.length ≤ 40
  J : S.J.length ≤ 100
  lM : ∀ x ∈ S.M, x.2.length ≤ 20
  lJ : ∀ x ∈ S.J, x.2.length ≤ 20
/-- A bool is returned; if it is true this holds. -/
def RetIf (e : Ending) (p : Prop) : Prop := ∃ b, e = .returned (.bool b) ∧ (b = true → p)
theorem RetIf.no {p : Prop} : RetIf (.returned (.bool false)) p := ⟨false, rfl, fun h => by cases h⟩
theorem RetIf.yes {p : Prop} (h : p) : RetIf (.returned (.bool true)) p := ⟨true, rfl, fun _ => h⟩
theorem mem_take_succ {α : Type} {p : α → Prop} {L : List α} {k : Nat} (hk : k < L.length) (h : ∀ x ∈ L.take k, p x) (hx : p L[k]) : ∀ x ∈ L.take (k + 1), p x := by
  intro x hm
  rw [List.take_succ_eq_append_getElem hk] at hm
  rcases List.mem_append.1 hm with h1 | h1
  · exact h x h1
  · rw [List.mem_singleton] at h1; subst h1; exact hx
end Go.Proofs.YtjgojgmgicpgaaaGreat
