/- The order of machines by score and name, plainly: one is put into its place, and a list of all is made so. No condition. -/
import Derived.Test.YthikdhgkjcdepaaSco
import Derived.Test.YthikdhgkjcdepaaMs
import Derived.Test.YthikdhgkjcdepaaRtx
namespace Go.Proofs.Ythikdhgkjcdepaa
open Go.RowKit
set_option linter.unusedSimpArgs false
set_option linter.unusedVariables false

/-- A name and its score. -/
abbrev En := ByteArray × Int
/-- Does the one stand ahead of the other? -/
def bef (x y : En) : Bool := decide (y.2 < x.2) || (decide (y.2 = x.2) && sL y.1 x.1)
/-- Put into its place. -/
def insE (x : En) (E : List En) : List En := E.takeWhile (bef x) ++ x :: E.dropWhile (bef x)
/-- A machine's name and score, if it can run the task. -/
def entry (t : Kt) (tl : List Lb) (l : List Jb) (m : Ml) : Option En := (sco m.1 m.2 t tl l).map fun s => (m.1.nm, s)
/-- All of them, the best one first. -/
def srt (t : Kt) (tl : List Lb) (l : List Jb) (L : List Ml) : List En := L.foldl (fun E m => match entry t tl l m with | some x => insE x E | none => E) []
section
variable {t : Kt} {tl : List Lb} {l : List Jb} {L : List Ml} {k : Nat}
theorem srt_take (h : k < L.length) : srt t tl l (L.take (k + 1)) = match entry t tl l L[k] with | some x => insE x (srt t tl l (L.take k)) | none => srt t tl l (L.take k) := by
  unfold srt
  rw [List.take_succ_eq_append_getElem h, List.foldl_append]; rfl
theorem srt_no (h : k < L.length) (he : sco L[k].1 L[k].2 t tl l = none) : srt t tl l (L.take (k + 1)) = srt t tl l (L.take k) := by
  rw [srt_take h]; unfold entry; rw [he]; rfl
theorem srt_yes (h : k < L.length) {s : Int} (he : sco L[k].1 L[k].2 t tl l = some s) : srt t tl l (L.take (k + 1)) = insE (L[k].1.nm, s) (srt t tl l (L.take k)) := by
  rw [srt_take h]; unfold entry; rw [he]; rfl
theorem insE_len (x : En) (E : List En) : (insE x E).length = E.length + 1 := by
  have h : (E.takeWhile (bef x)).length + (E.dropWhile (bef x)).length = E.length := by rw [← List.length_append, List.takeWhile_append_dropWhile]
  unfold insE
  rw [List.length_append, List.length_cons]; omega
theorem srt_len (L : List Ml) : (srt t tl l L).length ≤ L.length := by
  have key : ∀ (L : List Ml) (E : List En), (L.foldl (fun E m => match entry t tl l m with | some x => insE x E | none => E) E).length ≤ E.length + L.length := by
    intro L
    induction L with
    | nil => intro E; simp
    | cons m L ih =>
      intro E
      rw [List.foldl_cons, List.length_cons]
      cases he : entry t tl l m
      · exact Nat.le_trans (ih E) (by omega)
      · refine Nat.le_trans (ih _) ?_
        rw [insE_len]; omega
  exact Nat.le_trans (key L []) (by simp)
end
/-- Where a place is found: all ahead of it stand ahead, and it doesn't (or there is none). -/
theorem place {x : En} {E : List En} {a : Nat} (h1 : (E.take a).all (bef x) = true) (h2 : a = E.length ∨ ∃ h : a < E.length, bef x E[a] = false) (ha : a ≤ E.length) : insE x E = E.take a ++ x :: E.drop a := by
  have key : ∀ (E : List En) (a : Nat), (E.take a).all (bef x) = true → (a = E.length ∨ ∃ h : a < E.length, bef x E[a] = false) → a ≤ E.length → E.takeWhile (bef x) = E.take a ∧ E.dropWhile (bef x) = E.drop a := by
    intro E
    induction E with
    | nil => intro a _ _ ha; simp at ha; subst ha; exact ⟨rfl, rfl⟩
    | cons y E ih =>
      intro a h1 h2 ha
      cases a with
      | zero =>
        rcases h2 with h2 | ⟨_, h2⟩
        · simp at h2
        · simp at h2; rw [List.takeWhile_cons, List.dropWhile_cons, h2]; exact ⟨rfl, rfl⟩
      | succ a =>
        rw [List.take_succ_cons, List.all_cons, Bool.and_eq_true] at h1
        obtain ⟨i1, i2⟩ := ih a h1.2 (by
          rcases h2 with h2 | ⟨hl, h2⟩
          · exact .inl (by simpa using h2)
          · exact .inr ⟨by simpa using hl, by simpa using h2⟩) (by simpa using ha)
        rw [List.takeWhile_cons, List.dropWhile_cons, h1.1]
        exact ⟨by simp [i1], by simp [i2]⟩
  obtain ⟨i1, i2⟩ := key E a h1 h2 ha
  unfold insE
  rw [i1, i2]
theorem all_takeE {E : List En} {p : En → Bool} {k : Nat} (h : k < E.length) : (E.take (k + 1)).all p = ((E.take k).all p && p E[k]) := by
  rw [List.take_succ_eq_append_getElem h, List.all_append]; simp
/-- Names and scores. -/
abbrev nms (E : List En) : List ByteArray := E.map Prod.fst
abbrev scs (E : List En) : List Int := E.map Prod.snd
end Go.Proofs.Ythikdhgkjcdepaa
