/- Names with their scores as elements of two cells. No condition. -/
import Derived.Test.YthikdhgkjcdepaaSrk
import Derived.Test.YthikdhgkjcdepaaRko
import Derived.Test.YthikdhgkjcdepaaSt
namespace Go.Proofs.Ythikdhgkjcdepaa
open Go.RowKit
set_option linter.unusedSimpArgs false
set_option linter.unusedVariables false

/-- The cells of a name with its score. -/
def encE (x : En) : List Value := [.string x.1, .int .i64 x.2]
/-- The cells of such a list. -/
def cellsE (l : List En) : List (List Value) := l.map encE
theorem cellsE_length (l : List En) : (cellsE l).length = l.length := by simp [cellsE]
theorem cellsE_append (l m : List En) : cellsE (l ++ m) = cellsE l ++ cellsE m := by simp [cellsE]
theorem cellsE_k (l : List En) : ∀ x ∈ cellsE l, x.length = 2 := by
  intro x hx
  simp only [cellsE, List.mem_map] at hx
  obtain ⟨j, _, rfl⟩ := hx
  rfl
theorem encE_len (x : En) : (encE x).length = 2 := rfl
theorem encE_one (x : En) : ∀ u ∈ encE x, u.oneCell' = true := by
  intro u hu
  simp [encE] at hu
  rcases hu with rfl | rfl <;> rfl
theorem cellsE_one (l : List En) : ∀ y ∈ cellsE l, ∀ u ∈ y, u.oneCell' = true := by
  intro x hx u hu
  simp only [cellsE, List.mem_map] at hx
  obtain ⟨j, _, rfl⟩ := hx
  exact encE_one j u hu
theorem infoE : (Try.prog.info? 58).map (fun i => (i.zero, i.size, i.bytes)) = some (some (.agg #[.string ⟨#[]⟩, .int .i64 0]), 2, 24) := by kernel_rfl
/-- A slice at this address reads as these. -/
def RdE (w : World) (A : Option Addr) (l : List En) : Prop := RdK w 2 A (cellsE l)
theorem RdE.later {w w' : World} {A : Option Addr} {l : List En} (h : RdE w A l) (hb : Below w.heap.size w w') : RdE w' A l := RdK.later h hb
theorem RdE.at {w : World} {A : Option Addr} {l : List En} (h : RdE w A l) {i : Nat} (hi : i < l.length) : ∃ g o, A = some ⟨g, o, none⟩ ∧ g < w.heap.size ∧ w.rangeAt g (o + i * 2) [.string l[i].1, .int .i64 l[i].2] := by
  obtain ⟨g, o, ha, hr⟩ := RdK.at h (i := i) (by rw [cellsE_length]; exact hi)
  have hr' : w.rangeAt g (o + i * 2) [.string l[i].1, .int .i64 l[i].2] := by have h2 := hr; simp only [cellsE, List.getElem_map] at h2; exact h2
  exact ⟨g, o, ha, range_lt hr' (by show 0 < 2; omega), hr'⟩
/-- A call has returned these, in memory of its own. -/
def RetE (b : Nat) (w : World) (e : Ending) (l : List En) : Prop := ∃ v, e = .returned v ∧ OwnK w b 58 2 v (cellsE l)
/-- Those that can run the task, in the machines' order. -/
def able (t : Kt) (tl : List Lb) (l : List Jb) (L : List Ml) : List En := L.filterMap (entry t tl l)
section
variable {t : Kt} {tl : List Lb} {l : List Jb} {L : List Ml} {k : Nat}
theorem able_no (h : k < L.length) (he : sco L[k].1 L[k].2 t tl l = none) : able t tl l (L.take (k + 1)) = able t tl l (L.take k) := by
  unfold able
  rw [List.take_succ_eq_append_getElem h, List.filterMap_append]
  simp [entry, he]
theorem able_yes (h : k < L.length) {s : Int} (he : sco L[k].1 L[k].2 t tl l = some s) : able t tl l (L.take (k + 1)) = able t tl l (L.take k) ++ [(L[k].1.nm, s)] := by
  unfold able
  rw [List.take_succ_eq_append_getElem h, List.filterMap_append]
  simp [entry, he]
theorem able_len (L : List Ml) : (able t tl l L).length ≤ L.length := List.length_filterMap_le _ _
end
end Go.Proofs.Ythikdhgkjcdepaa
