/- An operation that is valid has small texts. No condition. -/
import Derived.Test.YtehkdaknhgmdkaaOat
namespace Go.Proofs.Ytehkdaknhgmdkaa
open Go.RowKit
set_option linter.unusedSimpArgs false
set_option linter.unusedVariables false

theorem Sz.nothing : Sz [] := fun x hx => by cases hx
theorem empty_le : (⟨#[]⟩ : ByteArray).size ≤ 140737488351232 := by decide
theorem op_small {x : Ov} (h : opB x = true) : Sz x.l1 ∧ Sz x.l3 ∧ x.nn.size ≤ 140737488351232 ∧ x.qn.size ≤ 140737488351232 ∧ x.tn.size ≤ 140737488351232 ∧ x.tq.size ≤ 140737488351232 ∧ x.ta.size ≤ 140737488351232 ∧ x.tg.size ≤ 140737488351232 ∧ x.s.size ≤ 140737488351232 := by
  rcases kinds_of h with hk | hk | hk | hk | hk
  · obtain ⟨hx, hv⟩ := ov_1 hk h
    unfold nodeB at hv
    simp only [Bool.and_eq_true] at hv
    have h1 := (nameB_le hv.1.1).2
    have h2 := (labelsB_le hv.2).2.sz
    rw [hx]
    exact ⟨h2, Sz.nothing, by show x.nn.size ≤ _; omega, empty_le, empty_le, empty_le, empty_le, empty_le, empty_le⟩
  · obtain ⟨hx, hv⟩ := ov_3 hk h
    unfold queueB at hv
    simp only [Bool.and_eq_true] at hv
    have h1 := (nameB_le hv.1).2
    rw [hx]
    exact ⟨Sz.nothing, Sz.nothing, empty_le, by show x.qn.size ≤ _; omega, empty_le, empty_le, empty_le, empty_le, empty_le⟩
  · obtain ⟨hx, hv⟩ := ov_5 hk h
    unfold taskB at hv
    simp only [Bool.and_eq_true, decide_eq_true_eq] at hv
    obtain ⟨⟨⟨⟨⟨⟨⟨v1, v2⟩, v3⟩, v4⟩, v5⟩, v6⟩, v7⟩, v8⟩ := hv
    have h1 := (nameB_le v1).2
    have h2 := (nameB_le v2).2
    have h3 := (labelsB_le v6).2.sz
    have h4 := apartB_le v7
    have h5 := (gangB_le v8).1
    rw [hx]
    exact ⟨Sz.nothing, h3, empty_le, empty_le, by show x.tn.size ≤ _; omega, by show x.tq.size ≤ _; omega, by show x.ta.size ≤ _; omega, by show x.tg.size ≤ _; omega, empty_le⟩
  · rw [ov_9 hk h]
    exact ⟨Sz.nothing, Sz.nothing, empty_le, empty_le, empty_le, empty_le, empty_le, empty_le, empty_le⟩
  · obtain ⟨hx, hv⟩ := ov_nm hk h
    have h1 := (nameB_le hv).2
    rw [hx]
    exact ⟨Sz.nothing, Sz.nothing, empty_le, empty_le, empty_le, empty_le, empty_le, empty_le, by show x.s.size ≤ _; omega⟩
end Go.Proofs.Ytehkdaknhgmdkaa
