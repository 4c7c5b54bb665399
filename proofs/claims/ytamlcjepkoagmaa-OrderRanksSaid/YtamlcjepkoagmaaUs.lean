/- Units of places, plainly; slices of slices of places. No condition. -/
import Derived.Test.YtamlcjepkoagmaaIns
import Derived.Test.YtamlcjepkoagmaaSo14
namespace Go.Proofs.Ytamlcjepkoagmaa
open Go.RowKit
set_option linter.unusedSimpArgs false
set_option linter.unusedVariables false

theorem JAt.ga {w : World} {g o : Nat} {j : Jb} (h : JAt w g o j) : w.cell? ⟨g, o + 8, none⟩ = some (.string j.ga) := h.rg 8 _ rfl
theorem JAt.sz {w : World} {g o : Nat} {j : Jb} (h : JAt w g o j) : w.cell? ⟨g, o + 9, none⟩ = some (.int .i64 j.sz) := h.rg 9 _ rfl
/-- How many jobs of a gang there are among the first k. -/
def manyK (l : List Jb) (s : ByteArray) (k : Nat) : Nat := ((l.take k).filter fun j => sE j.ga s).length
theorem manyK_succ {l : List Jb} {s : ByteArray} {k : Nat} (h : k < l.length) : manyK l s (k + 1) = manyK l s k + if sE l[k].ga s then 1 else 0 := by
  unfold manyK
  rw [List.take_succ_eq_append_getElem h, List.filter_append, List.length_append]
  cases he : sE l[k].ga s
  · rw [List.filter_cons_of_neg (by simp [he])]; rfl
  · rw [List.filter_cons_of_pos (p := fun j : Jb => sE j.ga s) he]; rfl
theorem manyK_le (l : List Jb) (s : ByteArray) (k : Nat) : manyK l s k ≤ k := by
  unfold manyK
  refine Nat.le_trans (List.length_filter_le _ _) ?_
  rw [List.length_take]; omega
/-- Is the gang of the job at place i there for the first time? -/
def firstK (l : List Jb) (s : ByteArray) (S : List Nat) : Bool := S.all fun y => !sE (jat l y).ga s
/-- Those of this gang. -/
def gangOf (l : List Jb) (s : ByteArray) (S : List Nat) : List Nat := S.filter fun y => sE (jat l y).ga s
/-- What the job at place p of the order (S: all; T: those ahead) adds. -/
def unitAt (l : List Jb) (S T : List Nat) (p : Nat) : List (List Nat) :=
  if (jat l p).ga.size = 0 then [[p]] else if firstK l (jat l p).ga T && decide ((jat l p).sz ≤ (manyK l (jat l p).ga l.length : Int)) then [gangOf l (jat l p).ga S] else []
/-- The units that the first k of the order make. -/
def unitsK (l : List Jb) (S : List Nat) (k : Nat) : List (List Nat) := ((List.range k).map fun i => unitAt l S (S.take i) (S.getD i 0)).flatten
theorem unitsK_succ {l : List Jb} {S : List Nat} {k : Nat} (h : k < S.length) : unitsK l S (k + 1) = unitsK l S k ++ unitAt l S (S.take k) S[k] := by
  unfold unitsK
  rw [List.range_succ, List.map_append, List.flatten_append]
  simp [List.getD, List.getElem?_eq_getElem h]
theorem unitAt_len (l : List Jb) (S T : List Nat) (p : Nat) : (unitAt l S T p).length ≤ 1 := by
  unfold unitAt; split
  · simp
  · split <;> simp
theorem unitsK_len (l : List Jb) (S : List Nat) : ∀ k, (unitsK l S k).length ≤ k
  | 0 => by simp [unitsK]
  | k + 1 => by
    have h := unitsK_len l S k
    unfold unitsK at h ⊢
    rw [List.range_succ, List.map_append, List.flatten_append, List.length_append]
    have := unitAt_len l S (S.take k) (S.getD k 0)
    simp only [List.map_cons, List.map_nil, List.flatten_cons, List.flatten_nil, List.append_nil]
    omega

/-- Slices, as one cell each. -/
def cellsW (vs : List Value) : List (List Value) := vs.map fun v => [v]
theorem cellsW_length (vs : List Value) : (cellsW vs).length = vs.length := by simp [cellsW]
theorem cellsW_append (a b : List Value) : cellsW (a ++ b) = cellsW a ++ cellsW b := by simp [cellsW]
theorem cellsW_k (vs : List Value) : ∀ x ∈ cellsW vs, x.length = 1 := by
  intro x hx
  simp only [cellsW, List.mem_map] at hx
  obtain ⟨j, _, rfl⟩ := hx
  rfl
/-- Two rows of unlike element types lie in unlike blocks. -/
theorem OwnK.apart {w : World} {b b' k k' : Nat} {e e' : TypeId} {v v' : Value} {l l' : List (List Value)} (h : OwnK w b e k v l) (h' : OwnK w b' e' k' v' l') (hne : e ≠ e') : v.ownBlock = none ∨ v.ownBlock ≠ v'.ownBlock := by
  rcases h.2.2 with ⟨rfl, _⟩ | ⟨g, cap, cur, rfl, _, hg, _⟩
  · exact .inl rfl
  · rcases h'.2.2 with ⟨rfl, _⟩ | ⟨g', cap', cur', rfl, _, hg', _⟩
    · exact .inr (by intro e; cases e)
    · refine .inr fun he => ?_
      injection he with he
      subst he
      have := hg.symm.trans hg'
      injection this with this
      injection this with _ this
      exact hne this
theorem OwnK.grown {w w' : World} {b k : Nat} {e : TypeId} {v : Value} {l : List (List Value)} {row : Option Nat} (h : OwnK w b e k v l) (hg : w.grownBy w' row) (hne : v.ownBlock = none ∨ v.ownBlock ≠ row) : OwnK w' b e k v l := ⟨h.1, World.ownsRow.kept h.2 hg hne⟩
/-- One element in a new block, as a row that the call owns. -/
theorem OwnK.lit1 (w : World) (b : Nat) (e : TypeId) (v : Value) (hb : b ≤ w.heap.size) : OwnK (w.alloc (.cells #[v] e)) b e 1 (.slice (some ⟨w.heap.size, 0, none⟩) 1 1) [[v]] :=
  ⟨by simp, by have h := World.ownsRow_lit (base := b) (e := e) (size := 1) w #[v] 1 hb (by simp [maxLen]) rfl; simpa using h⟩
/-- A row that the call owns is one cell. -/
theorem OwnK.cell1 {w : World} {b k : Nat} {e : TypeId} {v : Value} {l : List (List Value)} (h : OwnK w b e k v l) : v.oneCell' = true := by
  obtain ⟨A, c, hv, _⟩ := h.sl
  rw [hv]; rfl
/-- These slices are rows of the call's own that read as these units. -/
structure UOk (w : World) (b : Nat) (vs : List Value) (U : List (List Nat)) : Prop where
  len : vs.length = U.length
  el : ∀ (i : Nat) (u : List Nat), U[i]? = some u → ∃ v, vs[i]? = some v ∧ OwnK w b 3 1 v (cellsI (ints u))
theorem UOk.later {w w' : World} {b : Nat} {vs : List Value} {U : List (List Nat)} (h : UOk w b vs U) (hb : Below w.heap.size w w') : UOk w' b vs U := ⟨h.len, fun i u hu => by
  obtain ⟨v, h1, h2⟩ := h.el i u hu
  exact ⟨v, h1, h2.below hb⟩⟩
theorem UOk.grown {w w' : World} {b b' : Nat} {vs : List Value} {U : List (List Nat)} {v : Value} {l : List (List Value)} (h : UOk w b vs U) (ho : OwnK w b' 37 1 v l) (hg : w.grownBy w' v.ownBlock) : UOk w' b vs U := ⟨h.len, fun i u hu => by
  obtain ⟨v, h1, h2⟩ := h.el i u hu
  exact ⟨v, h1, h2.grown hg (h2.apart ho (by decide))⟩⟩
theorem UOk.nil (w : World) (b : Nat) : UOk w b [] [] := ⟨rfl, fun i u hu => by simp at hu⟩
theorem UOk.snoc {w : World} {b : Nat} {vs : List Value} {U : List (List Nat)} (h : UOk w b vs U) {v : Value} {u : List Nat} (hr : OwnK w b 3 1 v (cellsI (ints u))) : UOk w b (vs ++ [v]) (U ++ [u]) := by
  refine ⟨by simp [h.len], fun i x hx => ?_⟩
  by_cases hi : i < U.length
  · rw [List.getElem?_append_left hi] at hx
    obtain ⟨v', h1, h2⟩ := h.el i x hx
    exact ⟨v', by rw [List.getElem?_append_left (by rw [h.len]; exact hi)]; exact h1, h2⟩
  · rw [List.getElem?_append_right (by omega)] at hx
    have hi0 : i - U.length = 0 := by
      have := (List.getElem?_eq_some_iff.1 hx).1
      simp at this; omega
    rw [hi0] at hx
    simp at hx; subst hx
    exact ⟨v, by rw [List.getElem?_append_right (by rw [h.len]; omega), h.len, hi0]; rfl, hr⟩
theorem UOk.one {w : World} {b : Nat} {vs : List Value} {U : List (List Nat)} (h : UOk w b vs U) : ∀ y ∈ cellsW vs, ∀ u ∈ y, u.oneCell' = true := by
  intro x hx u hu
  simp only [cellsW, List.mem_map] at hx
  obtain ⟨v, hv, rfl⟩ := hx
  simp at hu; subst hu
  obtain ⟨i, hi, rfl⟩ := List.getElem_of_mem hv
  have hiU : i < U.length := by rw [← h.len]; exact hi
  obtain ⟨v, h1, h2⟩ := h.el i U[i] (List.getElem?_eq_getElem hiU)
  rw [List.getElem?_eq_getElem hi] at h1
  injection h1 with h1
  rw [h1]; exact h2.cell1
/-- A call has returned these units: the outer list is the call's own. -/
def RetU (b : Nat) (w : World) (e : Ending) (U : List (List Nat)) : Prop := ∃ v vs, e = .returned v ∧ OwnK w b 37 1 v (cellsW vs) ∧ UOk w b vs U
theorem infoU : (Try.prog.info? 37).map (fun i => (i.zero, i.size, i.bytes)) = some (some (.slice none 0 0), 1, 24) := by kernel_rfl
end Go.Proofs.Ytamlcjepkoagmaa
