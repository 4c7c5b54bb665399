/- Elements that bear their places: a stable sort under a comparison is a sort under an order that tells places apart; and a row that the call owns is one behind the sort too. No condition; it serves any seat. -/
import Derived.Test.YtamlcjepkoagmaaGw
import Derived.Test.YtamlcjepkoagmaaFo
import Derived.Test.YtamlcjepkoagmaaSrk2
namespace Go.Proofs.Ytamlcjepkoagmaa
open Go.Shelf Go.RowKit Go.Lib Go.Sort Go.Proofs
set_option linter.unusedSimpArgs false
set_option linter.unusedVariables false

section
variable {β : Type}
/-- A list's elements, each with its place. -/
def tagd (l : List β) : Array (β × Nat) := l.zipIdx.toArray
theorem tagd_size (l : List β) : (tagd l).size = l.length := by simp [tagd]
theorem tagd_get [Inhabited β] {l : List β} {i : Nat} (h : i < l.length) : (tagd l)[i]! = (l[i], i) := by
  rw [getElem!_pos _ i (by rw [tagd_size]; exact h)]
  simp [tagd]
theorem tagd_map (l : List β) {γ : Type} (f : β → γ) : (tagd l).toList.map (fun x => f x.1) = l.map f := by
  unfold tagd
  simp only
  apply List.ext_getElem (by simp)
  intro i h1 h2
  simp
/-- Ahead, or alike and earlier. -/
def ltTag (lt : β → β → Bool) (x y : β × Nat) : Bool := lt x.1 y.1 || (!lt y.1 x.1 && decide (x.2 < y.2))
theorem ltTag_iff {lt : β → β → Bool} {x y : β × Nat} : ltTag lt x y = true ↔ lt x.1 y.1 = true ∨ (lt y.1 x.1 = false ∧ x.2 < y.2) := by unfold ltTag; simp
theorem ltTag_no {lt : β → β → Bool} {x y : β × Nat} : ltTag lt x y = false ↔ lt x.1 y.1 = false ∧ (lt y.1 x.1 = false → ¬ x.2 < y.2) := by unfold ltTag; simp
theorem swo_asymm {lt : β → β → Bool} (h : SWO lt) {x y : β} (h1 : lt x y = true) : lt y x = false := by
  cases h2 : lt y x
  · rfl
  · have := h.trans x y x h1 h2
    rw [h.irrefl] at this; cases this
theorem swo_left {lt : β → β → Bool} (h : SWO lt) {x y z : β} (h1 : lt x y = true) (h2 : lt z y = false) : lt x z = true := by
  cases h3 : lt x z
  · have := h.ntrans x z y h3 h2
    rw [h1] at this; cases this
  · rfl
theorem swo_right {lt : β → β → Bool} (h : SWO lt) {x y z : β} (h1 : lt y x = false) (h2 : lt y z = true) : lt x z = true := by
  cases h3 : lt x z
  · have := h.ntrans y x z h1 h3
    rw [h2] at this; cases this
  · rfl
theorem swoTag {lt : β → β → Bool} (h : SWO lt) : SWO (ltTag lt) where
  irrefl x := by rw [ltTag_no]; exact ⟨h.irrefl _, fun _ => by omega⟩
  trans x y z h1 h2 := by
    rw [ltTag_iff] at *
    rcases h1 with h1 | ⟨h1, k1⟩ <;> rcases h2 with h2 | ⟨h2, k2⟩
    · exact .inl (h.trans _ _ _ h1 h2)
    · exact .inl (swo_left h h1 h2)
    · exact .inl (swo_right h h1 h2)
    · exact .inr ⟨h.ntrans _ _ _ h2 h1, by omega⟩
  ntrans x y z h1 h2 := by
    rw [ltTag_no] at *
    refine ⟨h.ntrans _ _ _ h1.1 h2.1, fun hz => ?_⟩
    have e1 : lt y.1 x.1 = false := by
      cases h3 : lt y.1 x.1
      · rfl
      · have := swo_left h h3 hz
        rw [h2.1] at this; cases this
    have e2 : lt z.1 y.1 = false := by
      cases h3 : lt z.1 y.1
      · rfl
      · have := swo_left h h3 h1.1
        rw [hz] at this; cases this
    have := h1.2 e1
    have := h2.2 e2
    omega
/-- The elements' own comparison, of such ones. -/
def cfTag (cf : β → β → Int) (x y : β × Nat) : Int := cf x.1 y.1
theorem swoCf {cf : β → β → Int} (h : SWO (ltOf cf)) : SWO (ltOf (cfTag cf)) := ⟨fun x => h.irrefl x.1, fun x y z => h.trans x.1 y.1 z.1, fun x y z => h.ntrans x.1 y.1 z.1⟩
theorem tagd_say [Inhabited β] {cf : β → β → Int} {l : List β} {i j : Nat} (hij : i < j) (hj : j < l.length) : decide (cfTag cf (tagd l)[j]! (tagd l)[i]! < 0) = ltTag (ltOf cf) (tagd l)[j]! (tagd l)[i]! := by
  rw [tagd_get hj, tagd_get (show i < l.length by omega)]
  unfold ltTag cfTag ltOf
  simp only
  rw [decide_eq_false (show ¬ j < i by omega), Bool.and_false, Bool.or_false]
/-- What a stable sort leaves: the places, in their order. -/
theorem stable_places [Inhabited β] {cf : β → β → Int} {l : List β} {D : Array (β × Nat)} (hp : PermIn 0 l.length (tagd l) D) (hs : SortedIn (ltTag (ltOf cf)) 0 l.length D) :
    ∃ W : List Nat, W.Perm (List.range l.length) ∧ W.Pairwise (Fore fun i y => ltOf cf (l.getD i default) (l.getD y default)) ∧ D.toList.map (fun x => x.1) = W.map fun i => l.getD i default := by
  obtain ⟨h1, _, h3⟩ := hp
  rw [tagd_size] at h1
  have h4 : D.toList.Perm (tagd l).toList := by
    have e : D.extract 0 l.length = D := by rw [← h1]; simp
    have e2 : (tagd l).extract 0 l.length = tagd l := by rw [← tagd_size l]; simp
    rw [e, e2] at h3
    exact h3
  have hz : ∀ x ∈ D.toList, x.2 < l.length ∧ x.1 = l.getD x.2 default := by
    intro x hx
    have hx2 := h4.subset hx
    unfold tagd at hx2
    simp only at hx2
    obtain ⟨i, hi, e⟩ := List.getElem_of_mem hx2
    rw [List.getElem_zipIdx] at e
    have hi' : i < l.length := by simpa using hi
    subst e
    simp only [Nat.zero_add]
    exact ⟨hi', by rw [List.getD_eq_getElem?_getD, List.getElem?_eq_getElem hi', Option.getD_some]⟩
  have hperm : (D.toList.map (·.2)).Perm (List.range l.length) := by
    refine (h4.map (·.2)).trans ?_
    unfold tagd
    simp only
    rw [show l.zipIdx.map (fun x => x.2) = List.range l.length by
      apply List.ext_getElem (by simp)
      intro i h1 h2
      simp]
  refine ⟨D.toList.map (·.2), hperm, ?_, ?_⟩
  · have hnd : (D.toList.map (·.2)).Nodup := hperm.nodup_iff.2 List.nodup_range
    rw [List.pairwise_iff_getElem]
    intro i j hi hj hij
    have hi' : i < D.size := by simpa using hi
    have hj' : j < D.size := by simpa using hj
    have hso := hs i j (Nat.zero_le _) hij (by omega)
    rw [getElem!_pos D i hi', getElem!_pos D j hj'] at hso
    have ei := hz D[i] (by simp)
    have ej := hz D[j] (by simp)
    have hne : D[i].2 ≠ D[j].2 := by
      have := List.pairwise_iff_getElem.1 hnd i j hi hj hij
      simpa using this
    rw [ltTag_no, ei.2, ej.2] at hso
    simp only [List.getElem_map, Array.getElem_toList]
    cases hc : ltOf cf (l.getD D[i].2 default) (l.getD D[j].2 default)
    · refine .inr ⟨hso.1, ?_⟩
      have := hso.2 hc
      omega
    · exact .inl hc
  · rw [List.map_map]
    refine List.map_congr_left fun x hx => ?_
    exact (hz x hx).2
end

/-! ### A row that the call owns, behind the sort -/
section
variable {α : Type} [Inhabited α] {enc : α → List Value} {k : Nat}
theorem heap_sort {w : World} {g n : Nat} {os : Array Obj} {cur : Array Value} {e : TypeId} {fr : Nat × Nat} (F : Array Value) (hb : w.heap[g]? = some (.cells cur e fr)) :
    (grow (putRow id (Sort.ahead w n) g 0 F) os).heap[g]? = some (.cells (putCells id 0 F cur) e fr) := by
  have hg : g < w.heap.size := (Array.getElem?_eq_some_iff.1 hb).1
  rw [heap_grow_old _ _ (by simpa using hg)]
  simp [putRow, mapBlock, Sort.ahead, Array.getElem?_modify, hb, onCells]
theorem take_put (cur F : Array Value) (h : F.size ≤ cur.size) : (putCells id 0 F cur).toList.take F.size = F.toList := by
  apply List.ext_getElem?
  intro j
  by_cases hj : j < F.size
  · rw [List.getElem?_take_of_lt hj, Array.getElem?_toList, Array.getElem?_toList]
    simp [putCells, hj, show j < cur.size by omega]
  · rw [List.getElem?_take_eq_none (by omega), List.getElem?_eq_none (by simp; omega)]
theorem flatK_is (hk : ∀ x, (enc x).length = k) (h0 : 0 < k) (D : Array α) : (flatK enc k D).toList = (D.toList.map enc).flatten := by
  have hl : ∀ x ∈ D.toList.map enc, x.length = k := by
    intro x hx
    rw [List.mem_map] at hx
    obtain ⟨y, _, rfl⟩ := hx
    exact hk y
  have hlen : (D.toList.map enc).flatten.length = D.size * k := by rw [flat_length hl]; simp
  apply List.ext_getElem (by rw [hlen]; simp)
  intro t h1 h2
  have ht : t < D.size * k := by rw [← hlen]; exact h2
  have hi : t / k < D.size := (Nat.div_lt_iff_lt_mul h0).2 ht
  have hj : t % k < k := Nat.mod_lt _ h0
  have hx : (D.toList.map enc)[t / k]? = some (enc D[t / k]!) := by
    rw [List.getElem?_map, Array.getElem?_toList, Array.getElem?_eq_getElem hi, getElem!_pos D (t / k) hi]; rfl
  have hv : (enc D[t / k]!)[t % k]? = some ((enc D[t / k]!)[t % k]'(by rw [hk]; exact hj)) := List.getElem?_eq_getElem _
  have hf := flat_get hl hx hv
  rw [Nat.div_add_mod' t k, List.getElem?_eq_getElem h2] at hf
  injection hf with hf
  rw [hf]
  have hg := get_flatK enc k D t ht
  rw [getElem!_pos _ t (by rw [size_flatK]; exact ht), getElem!_pos (enc D[t / k]!) (t % k) (by rw [hk]; exact hj)] at hg
  simpa using hg
theorem own_sorted (hk : ∀ x, (enc x).length = k) (h0 : 0 < k) {w w' : World} {base g cap : Nat} {e : TypeId} {l : List α} {D : Array α} (h : OwnK w base e k (.slice (some ⟨g, 0, none⟩) l.length cap) (l.map enc)) (hS : SWK enc k w g 0 D w') (hD : D.size = l.length) :
    OwnK w' base e k (.slice (some ⟨g, 0, none⟩) l.length cap) (D.toList.map enc) := by
  obtain ⟨n, os, rfl⟩ := hS
  have hfl : (flatK enc k D).size = l.length * k := by rw [size_flatK, hD]
  obtain ⟨hk', hl', hr⟩ := h
  rw [List.length_map] at hr
  rcases hr with ⟨hv, _⟩ | ⟨g', cap', cur, hv, hb, hg, hn, hm, hc, ht⟩
  · cases hv
  · injection hv with hv1 hv2 hv3
    injection hv1 with hv1
    injection hv1 with hv1
    subst hv1 hv3
    have hml : (D.toList.map enc).length = l.length := by simp [hD]
    refine ⟨fun x hx => ?_, ?_, .inr ⟨g, cap, _, ?_, hb, heap_sort (flatK enc k D) hg, ?_, hm, by simp [putCells, hc], ?_⟩⟩
    · rw [List.mem_map] at hx
      obtain ⟨y, _, rfl⟩ := hx
      exact hk y
    · rw [hml, ← flatK_is hk h0]; simp [hD]
    · rw [hml]
    · rw [hml]; exact hn
    · rw [hml, ← flatK_is hk h0, ← hfl]
      exact take_put cur _ (by rw [hfl, hc]; exact Nat.mul_le_mul_right k hn)
end
end Go.Proofs.Ytamlcjepkoagmaa
