/- Layer 18: the program's index in memory: names with rows of labels, and for each label a set of names; what of it stays and what turns. No condition. -/
import Derived.Test.YtldijginplgikaaMgk
import Derived.Test.YtldijginplgikaaLx1
namespace Go.Proofs.Ytldijginplgikaa
open Go.RowKit
set_option linter.unusedSimpArgs false
set_option linter.unusedVariables false
set_option linter.unusedSectionVars false

/-! ### Labels as keys -/
def encLb (l : Lb) : Value := .agg #[.string l.1, .string l.2]
theorem encLb_inj (a b : Lb) (h : encLb a = encLb b) : a = b := by
  unfold encLb at h
  injection h with h
  injection h with h
  injection h with h1 h
  injection h with h2 _
  injection h1 with h1
  injection h2 with h2
  exact Prod.ext h1 h2
theorem equalLb (w : World) (s t : Lb) : (Op.equal 48 (encLb s) (encLb t)).run Try.prog w = .ok (decide (s = t)) w := by
  have u1 := @Try.underlying48
  have u2 := @Try.underlying9
  have hf : Try.prog.fieldsOf 48 = #[⟨"Key", 9, 0, false, "", "", 0⟩, ⟨"Value", 9, 1, false, "", "", 16⟩] := by kernel_rfl
  have hst : Try.prog.stoodInHeld 48 = false := by kernel_rfl
  have hb : ∀ (a b : ByteArray), (a.toList == b.toList) = decide (a = b) := fun a b => by
    rw [Bool.eq_iff_iff, decide_eq_true_eq]; exact sE_iff
  show (Op.equalIn (9998 + 1 + 1) 48 (encLb s) (encLb t)).run Try.prog w = _
  unfold encLb
  rw [run_equalIn_struct w (9998 + 1) 48 _ _ (by rw [hf]; exact u1) hst, hf]
  obtain ⟨a, b⟩ := s
  obtain ⟨c, d⟩ := t
  by_cases h1 : a = c
  · by_cases h2 : b = d
    · subst h1 h2; go_simp
    · subst h1; go_simp
  · go_simp
theorem partLb (w : World) (ty : TypeId) (hty : ty = 9) (a b : ByteArray) : (part ty #[.string a, .string b] 0).run Try.prog w = .ok (.string a) w ∧ (part ty #[.string a, .string b] 1).run Try.prog w = .ok (.string b) w := by
  subst hty
  have u2 := @Try.underlying9
  have z2 := @Try.sizeOf9
  constructor <;> go_simp
theorem findAskLb (w : World) (s : Lb) : ∀ (es : List MapEntry) (i : Nat), (∀ e ∈ es, ∃ t, e.key = encLb t) →
    ((Instr.findAsking 48 (encLb s) es i).run Try.prog w = .ok none w ∧ ∀ e ∈ es, e.key ≠ encLb s) ∨ ∃ j e0, (Instr.findAsking 48 (encLb s) es i).run Try.prog w = .ok (some (i + j, e0.val)) w ∧ es[j]? = some e0 ∧ e0.key = encLb s
  | [], i, _ => .inl ⟨by simp [Instr.findAsking], by simp⟩
  | e :: es, i, h => by
    obtain ⟨t, ht⟩ := h e (by simp)
    have he := equalLb w s t
    by_cases hst : s = t
    · right
      have he2 : (Op.equal 48 (encLb s) (encLb t)).run Try.prog w = .ok true w := by rw [he, decide_eq_true hst]
      exact ⟨0, e, by simp [Instr.findAsking, ht, he2], rfl, by rw [ht, hst]⟩
    · have he2 : (Op.equal 48 (encLb s) (encLb t)).run Try.prog w = .ok false w := by rw [he, decide_eq_false hst]
      rcases findAskLb w s es (i + 1) (fun x hx => h x (by simp [hx])) with ⟨h1, h2⟩ | ⟨j, e0, h1, h2, h3⟩
      · left
        refine ⟨by simp [Instr.findAsking, ht, he2, h1], fun x hx => ?_⟩
        rcases List.mem_cons.1 hx with rfl | hx
        · rw [ht]; exact fun e1 => hst (encLb_inj _ _ e1).symm
        · exact h2 x hx
      · right
        exact ⟨j + 1, e0, by simp [Instr.findAsking, ht, he2, h1, Nat.add_assoc, Nat.add_comm 1 j], by simpa using h2, h3⟩
theorem keyLb : KeyK Try.prog 48 encLb where
  inj := encLb_inj
  chk := fun w em s => by
    obtain ⟨a, b⟩ := s
    have u1 := @Try.underlying48
    have u2 := @Try.underlying9
    show (Instr.checkKey em (9998 + 1 + 1) 48 (.agg #[.string a, .string b])).run Try.prog w = _
    obtain ⟨h1, h2⟩ := partLb w 9 rfl a b
    obtain ⟨n, hn⟩ : ∃ n, n = 9998 := ⟨_, rfl⟩
    rw [← hn]
    have h3 : ∀ s, (Instr.checkKey em (n + 1) 9 (.string s)).run Try.prog w = .ok () w := fun s => by simp [Instr.checkKey, run_underlying u2]
    rw [Instr.checkKey]
    simp [run_underlying u1, h1, h2, h3, Result.andThen]
  stays := fun w s => by
    obtain ⟨a, b⟩ := s
    have : Instr.sameBits 10000 (encLb (a, b)) (encLb (a, b)) = true := by
      obtain ⟨n, hn⟩ : ∃ n, n = 9998 := ⟨_, rfl⟩
      show Instr.sameBits (9998 + 1 + 1) (.agg #[.string a, .string b]) (.agg #[.string a, .string b]) = true
      rw [← hn]
      simp [Instr.sameBits, ba_eq]
    simp [Instr.keyThatStays, this]
  find := fun w s es h => by
    have hw : (match Try.prog.underlying 48 with | some (.array _ _) | some (.struct _) => true | _ => false) = true := by rw [Try.underlying48]
    rw [run_findKey_eq w hw]
    rcases findAskLb w s es 0 h with h | ⟨j, e0, h1, h2⟩
    · exact .inl h
    · exact .inr ⟨j, e0, by rw [h1, Nat.zero_add], h2⟩
end Go.Proofs.Ytldijginplgikaa
