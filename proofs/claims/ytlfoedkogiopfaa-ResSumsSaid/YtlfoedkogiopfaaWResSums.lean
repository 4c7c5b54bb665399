/- The walk of ResSums, and a slice of vectors as an argument, opened. No condition beyond the form's own. -/
import Derived.Test.YtlfoedkogiopfaaSum
import Derived.Test.YtlfoedkogiopfaaRsum
import Derived.Test.YtlfoedkogiopfaaArr
import Derived.Deep.Slices
namespace Go.Proofs.Ytlfoedkogiopfaa
open Go.ChangeShapes Go.WideShapes Go.ChangeAt Go.RowKit
set_option linter.unusedSimpArgs false
set_option linter.unusedVariables false

theorem open_vecs {H : Type} {enc : TypeId × Value → H} {W : World} {base : Nat} {sp : Nat → Bool} {held : Bool} {a : Option Addr} {len cap : Nat} {d : DataW H} {p : List MemPlace}
    (h : DataW.Trod enc Try.prog W base sp held 33 (.slice a len cap) d p) : ∃ l, len = l.length ∧ len ≤ 9223372036854775807 ∧ RdV W a l := by
  obtain ⟨fuel, hf⟩ := h
  rcases Go.Deep.open_slice Try.underlying33 hf with ⟨hcs, _⟩ | ⟨x, l, c, m, n, D, Pl, hcs, _, hl, hm, hmm, _, hi⟩
  · simp [Value.cells] at hcs
    obtain ⟨rfl, rfl, rfl⟩ := hcs
    exact ⟨[], rfl, by omega, fun i t ht => by simp at ht⟩
  · simp [Value.cells] at hcs
    obtain ⟨rfl, rfl, rfl⟩ := hcs
    rw [cells23] at hi
    have hlm : len ≤ m := by rw [hmm]; split <;> omega
    unfold maxLen at hm
    have hspot : 0 < len → x.spot = none := fun h => by
      obtain ⟨cs', hc, ht⟩ := hi 0 (by omega)
      obtain ⟨_, hcl, hat⟩ := World.cells?_some hc
      have h0 := hat 0 (by omega)
      rw [List.getElem?_eq_getElem (by omega)] at h0
      simpa [Addr.add] using World.cell?_spot h0
    have key : ∀ i, i < len → ∃ t : Int × Int × Int, ∃ g o, x = ⟨g, o, none⟩ ∧ W.cell? ⟨g, o + i * 3, none⟩ = some (.int .i64 t.1) ∧ W.cell? ⟨g, o + i * 3 + 1, none⟩ = some (.int .i64 t.2.1) ∧ W.cell? ⟨g, o + i * 3 + 2, none⟩ = some (.int .i64 t.2.2) := fun i hlt => by
      obtain ⟨cs', hc, ht⟩ := hi i (by omega)
      obtain ⟨_, hcl, hat⟩ := World.cells?_some hc
      obtain ⟨c0, c1, c2, rfl⟩ := list3 cs' (by simpa using hcl)
      obtain ⟨y0, y1, y2, q, hx, hy0, hy1, hy2⟩ := trod_array3 Try.underlying23 cells3 ht
      obtain ⟨x0, e0, rfl, w0⟩ := DataW.trod_int Try.underlying3 hy0
      obtain ⟨x1, e1, rfl, w1⟩ := DataW.trod_int Try.underlying3 hy1
      obtain ⟨x2, e2, rfl, w2⟩ := DataW.trod_int Try.underlying3 hy2
      simp at e0 e1 e2
      subst e0 e1 e2
      have h0 := hat 0 (by omega)
      have h1 := hat 1 (by omega)
      have h2 := hat 2 (by omega)
      simp at h0 h1 h2
      obtain ⟨g, o, spot⟩ := x
      have hs : spot = none := hspot (by omega)
      subst hs
      rw [Addr.add_lit] at h0 h1 h2
      rw [Addr.add_lit] at h0 h1 h2
      exact ⟨(x0, x1, x2), g, o, rfl, by simpa using h0, h1, h2⟩
    have pick : ∀ n, n ≤ len → ∃ l : List (Int × Int × Int), l.length = n ∧ RdV W (some x) l := by
      intro n
      induction n with
      | zero => exact fun _ => ⟨[], rfl, fun i t ht => by simp at ht⟩
      | succ n ih =>
        intro hn
        obtain ⟨l, hll, hr⟩ := ih (by omega)
        obtain ⟨t, g, o, hx, h0, h1, h2⟩ := key n (by omega)
        refine ⟨l ++ [t], by simp [hll], fun i u hu => ?_⟩
        by_cases hil : i < l.length
        · rw [List.getElem?_append_left hil] at hu
          exact hr i u hu
        · have hin : i = n := by
            have := (List.getElem?_eq_some_iff.1 hu).1
            simp at this
            omega
          subst hin
          rw [List.getElem?_append_right (by omega), hll] at hu
          simp at hu
          subst hu
          exact ⟨g, o, by rw [hx], h0, h1, h2⟩
    obtain ⟨l, hll, hr⟩ := pick len (Nat.le_refl _)
    exact ⟨l, hll.symm, by omega, hr⟩
namespace resSums

set_option maxHeartbeats 800000 in
theorem walk (A : Option Addr) (n cap : Nat) (l : List (Int × Int × Int)) (w : World) (hn : n = l.length) (hl : n ≤ 9223372036854775807) (hA : RdV w A l) :
    Calls Try.prog 4 #[.slice A n cap] w fun r w' => r = .returned (.bool true) ∧ Below w.heap.size w w' := by
  obtain ⟨s, hs⟩ : ∃ s, sm 0 0 0 l = s := ⟨_, rfl⟩
  obtain ⟨x, y, z, v⟩ := s
  have HN := Lib.hid hn; clear hn
  have HA := Lib.hid hA; clear hA
  have HS := Lib.hid hs; clear hs
  have hE : eq3 x y z x y z = true := by simp [eq3]
  by_cases h : 1000 < n
  · go_enter Try.func4, Try.ntmps4
    go_wp2_with fail
    refine (awake_any _).mono ?_; rintro r w1 ⟨rfl, hb1⟩
    go_wp2_with fail
    refine (awake_any _).mono ?_; rintro r w2 ⟨rfl, hb2⟩
    have hs1 := hb1.size
    go_wp2
    go_ret
    exact ⟨rfl, by (repeat' (first | (with_reducible exact Below.refl _ _) | (with_reducible refine Below.drew ?_) | (with_reducible refine Below.setCell ?_ ?_ _) | (with_reducible refine Below.alloc ?_ ?_ _) | (with_reducible refine Below.trans ?_ (Below.mono hb1 ?_)) | (with_reducible refine Below.trans ?_ (Below.mono hb2 ?_)) | go_size))⟩
  · have h' : decide (1000 < (n : Int)) = false := by simp; omega
    go_enter Try.func4, Try.ntmps4
    go_wp2_with fail
    refine (awake_any _).mono ?_; rintro r w1 ⟨rfl, hb1⟩
    have hs1 := hb1.size
    have HA1 := Lib.hid (HA.out.below hb1)
    go_wp2_with fail
    refine (sum_any A n cap l _ HN hl HA1 x y z v HS).mono ?_; rintro r w2 ⟨rfl, hb2⟩
    have hs2 := hb2.size
    have HA2 := Lib.hid ((HA1.out.below hb2).below ((Below.refl _ _).alloc (Nat.le_refl _) (.cells #[.int .i64 x, .int .i64 y, .int .i64 z] 23)))
    go_wp2_with fail
    refine (rsum_any A n cap l _ HN hl HA2 x y z v HS).mono ?_; rintro r w3 ⟨rfl, hb3⟩
    obtain ⟨hc3, hf3⟩ := bcell hb3
    have hs3 : w2.heap.size < w3.heap.size := by have h := hb3.size; simp at h; omega
    go_wp2
    go_ret
    exact ⟨rfl, by (repeat' (first | (with_reducible exact Below.refl _ _) | (with_reducible refine Below.drew ?_) | (with_reducible refine Below.setCell ?_ ?_ _) | (with_reducible refine Below.alloc ?_ ?_ _) | (with_reducible refine Below.trans ?_ (Below.mono hb1 ?_)) | (with_reducible refine Below.trans ?_ (Below.mono hb2 ?_)) | (with_reducible refine Below.trans ?_ (Below.mono hb3 ?_)) | go_size))⟩
end resSums
end Go.Proofs.Ytlfoedkogiopfaa
