/- How long an operation's bytes are. No condition. -/
import Derived.Test.YtehkdaknhgmdkaaOen
namespace Go.Proofs.Ytehkdaknhgmdkaa
open Go.RowKit
set_option linter.unusedSimpArgs false
set_option linter.unusedVariables false

theorem vecEnc_rB {a b c : Int} (h : rB a b c = true) : (vecEnc a.toNat b.toNat c.toNat).length ≤ 27 := by
  have := rB_bd h
  exact vecEnc_le (by omega) (by omega) (by omega)
theorem nodeEnc_le {nm : ByteArray} {a b c : Int} {l : List Lb} (h : nodeB nm a b c l = true) : (nodeEnc nm a b c l).length ≤ 1000 := by
  unfold nodeB at h
  simp only [Bool.and_eq_true] at h
  have h1 := encT_le (nameB_le h.1.1).2
  have h2 := vecEnc_rB h.1.2
  have h3 := labEnc_le (labelsB_le h.2).1 (labelsB_le h.2).2
  rw [nodeEnc, List.length_append, List.length_append]; omega
theorem queueEnc_le {nm : ByteArray} {a b c : Int} (h : queueB nm a b c = true) : (queueEnc nm a b c).length ≤ 1000 := by
  unfold queueB at h
  simp only [Bool.and_eq_true] at h
  have h1 := encT_le (nameB_le h.1).2
  have h2 := vecEnc_rB h.2
  rw [queueEnc, List.length_append]; omega
theorem taskEnc_le {nm qu : ByteArray} {pr a b c : Int} {l : List Lb} {ap ga : ByteArray} {sz : Int} (h : taskB nm qu pr a b c l ap ga sz = true) : (taskEnc nm qu pr a b c l ap ga sz).length ≤ 1000 := by
  unfold taskB at h
  simp only [Bool.and_eq_true, decide_eq_true_eq] at h
  obtain ⟨⟨⟨⟨⟨⟨⟨v1, v2⟩, v3⟩, v4⟩, v5⟩, v6⟩, v7⟩, v8⟩ := h
  have h1 := encT_le (nameB_le v1).2
  have h2 := encT_le (nameB_le v2).2
  have h3 := enc_le (n := pr.toNat) (by omega)
  have h4 := vecEnc_rB v5
  have h5 := labEnc_le (labelsB_le v6).1 (labelsB_le v6).2
  have h6 := encT_le (apartB_le v7)
  have h7 := encT_le (gangB_le v8).1
  have h8 := enc_le (n := sz.toNat) (by have := (gangB_le v8).2; omega)
  simp only [taskEnc, List.length_append]
  omega
theorem nameEnc_le {s : ByteArray} (h : nameB s = true) : (encT s).length ≤ 1000 := by have := encT_le (nameB_le h).2; omega
theorem opEnc_le {x : Ov} (h : opB x = true) : 2 ≤ (opEnc x).length ∧ (opEnc x).length ≤ 1002 := by
  have hk := opB_kind h
  have e2 := enc_two (n := x.k.toNat) (by omega) (by omega)
  have hk' : x.k = 1 ∨ x.k = 3 ∨ x.k = 5 ∨ x.k = 9 ∨ (x.k = 2 ∨ x.k = 4 ∨ x.k = 6 ∨ x.k = 7 ∨ x.k = 8) := by omega
  rcases hk' with h1 | h1 | h1 | h1 | h1
  · rw [opB_1 h1] at h
    simp only [Bool.and_eq_true] at h
    have := nodeEnc_le h.1.1.1
    rw [h1] at e2
    rw [opEnc_1 h1, List.length_append]
    have e3 : (enc 1).length = 2 := e2
    omega
  · rw [opB_3 h1] at h
    simp only [Bool.and_eq_true] at h
    have := queueEnc_le h.1.1.1
    rw [h1] at e2
    rw [opEnc_3 h1, List.length_append]
    have e3 : (enc 3).length = 2 := e2
    omega
  · rw [opB_5 h1] at h
    simp only [Bool.and_eq_true] at h
    have := taskEnc_le h.1.1.1
    rw [h1] at e2
    rw [opEnc_5 h1, List.length_append]
    have e3 : (enc 5).length = 2 := e2
    omega
  · rw [h1] at e2
    rw [opEnc_9 h1]
    have e3 : (enc 9).length = 2 := e2
    omega
  · rw [opB_nm h1] at h
    simp only [Bool.and_eq_true] at h
    have := nameEnc_le h.1.1.1
    rw [opEnc_nm h1, List.length_append]
    omega
end Go.Proofs.Ytehkdaknhgmdkaa
