/- The stable sort of the standard library at []int over a row that the call owns, with a comparison that may read what it captured: behind it the row holds the same elements, in the comparison's order, those that are alike as they stood. Condition: fewer than 2^60 elements; the comparison answers in each world that has turned but for the row. -/
import Derived.Test.YtamlcjepkoagmaaStgI
import Derived.Test.YtamlcjepkoagmaaTag
import Derived.Test.YtamlcjepkoagmaaSt
namespace Go.Proofs.Ytamlcjepkoagmaa.StI
open Go.Shelf Go.RowKit Go.Lib Go.Sort Go.Proofs
set_option linter.unusedSimpArgs false
set_option linter.unusedVariables false

/-- An element with its place, as its cell. -/
def encV {β : Type} (val : β → Int) (x : β × Nat) : Value := .int .i64 (val x.1)
theorem oneV {β : Type} (val : β → Int) : OneCell (encV val) := fun _ => rfl
section
variable {β : Type} [Inhabited β] {val : β → Int} {cf : β → β → Int} {g : Nat} {cb : Array Value}
theorem grown_sort (val : β → Int) (w : World) (b n : Nat) (d : Array (β × Nat)) (os : Array Obj) : w.grownBy (sortWorld (encV val) w b 0 n d os) (some b) := by
  refine ⟨rfl, rfl, rfl, by simp [sortWorld], fun k hk hne => ?_⟩
  unfold sortWorld
  rw [heap_grow_old _ _ (by simpa using hk)]
  have : b ≠ k := fun e => hne (by rw [e])
  simp [putRow, mapBlock, Sort.ahead, Array.getElem?_modify, this]
theorem heap_sortV {w : World} {b n : Nat} {os : Array Obj} {cur : Array Value} {e : TypeId} {fr : Nat × Nat} (d : Array (β × Nat)) (hb : w.heap[b]? = some (.cells cur e fr)) : (sortWorld (encV val) w b 0 n d os).heap[b]? = some (.cells (putCells (encV val) 0 d cur) e fr) := by
  have hg : b < w.heap.size := (Array.getElem?_eq_some_iff.1 hb).1
  unfold sortWorld
  rw [heap_grow_old _ _ (by simpa using hg)]
  simp [putRow, mapBlock, Sort.ahead, Array.getElem?_modify, hb, onCells]
theorem take_putV (cur : Array Value) (d : Array (β × Nat)) (h : d.size ≤ cur.size) : (putCells (encV val) 0 d cur).toList.take d.size = d.toList.map (encV val) := by
  apply List.ext_getElem?
  intro j
  by_cases hj : j < d.size
  · rw [List.getElem?_take_of_lt hj, Array.getElem?_toList]
    simp [putCells, hj, show j < cur.size by omega]
  · rw [List.getElem?_take_eq_none (by omega), List.getElem?_eq_none (by simp; omega)]
theorem flatV (l : List Int) : (cellsI l).flatten = l.map fun x => Value.int .i64 x := by
  unfold cellsI
  induction l with
  | nil => rfl
  | cons a r ih => simp [ih]

theorem stable_own (swo : SWO (ltOf cf)) (ent : ∀ args w, (callFunc g args).run Try.prog w = .ok (.enter g args) w) {l : List β} {w : World} {base : Nat} {v : Value} {A : Option Addr} {n cap : Nat} (hv : v = .slice A n cap) (hn : n = l.length) (h : OwnK w base 3 1 v (cellsI (l.map val))) (hb : base ≤ w.heap.size) (hl : n < 1152921504606846976)
    (call : ∀ b, v.ownBlock = some b → ∀ W, w.grownBy W (some b) → ∀ x y : β, Calls Try.prog g (#[.int .i64 (val x), .int .i64 (val y)] ++ cb) W fun e w' => e = .returned (.int .i64 (cf x y)) ∧ Gw W w') :
    Calls Try.prog 21 #[.slice A n cap, .func (.func g) #[] cb] w fun e w' => e = .returned (.tuple #[]) ∧ ∃ W : List Nat, W.Perm (List.range l.length) ∧ W.Pairwise (Fore fun i y => ltOf cf (l.getD i default) (l.getD y default)) ∧ OwnK w' base 3 1 v (cellsI ((W.map fun i => l.getD i default).map val)) ∧ Below base w w' := by
  subst hv
  have h' := h
  obtain ⟨hk, hs0, hr⟩ := h
  rcases hr with ⟨h1, h0⟩ | ⟨b, cap1, cur, h1, hbg, hg, hn1, hm1, hc1, ht1⟩
  · rw [cellsI_length, List.length_map] at h0
    have hl0 : l = [] := List.length_eq_zero_iff.1 h0
    subst hl0
    injection h1 with e1 e2 e3
    subst e1 e2 e3
    refine (sortStable_none none 0 w).mono ?_
    rintro e w' ⟨he, rfl⟩
    exact ⟨he, [], by simp, List.Pairwise.nil, OwnK.nil _ _ _ _, Below.refl _ _⟩
  · rw [cellsI_length, List.length_map] at h1 hn1 ht1
    rw [Nat.mul_one] at ht1
    injection h1 with e1 e2 e3
    subst e1 e3
    rw [flatV] at ht1
    have hblk : b < w.heap.size := Bk.here hg
    have htag : (tagd l).size = n := by rw [hn, tagd_size]
    have hH : Holds (encV val) w b 0 (tagd l) := by
      intro j hj
      have hj' : j < l.length := by rw [tagd_size] at hj; exact hj
      refine ⟨?_, Bk.free hg _⟩
      rw [Nat.zero_add, Bk.cellAt hg j, tagd_get hj', ← Array.getElem?_toList]
      have h9 : (cur.toList.take l.length)[j]? = ((l.map val).map fun x => Value.int .i64 x)[j]? := by rw [ht1]
      rw [List.getElem?_take_of_lt hj'] at h9
      rw [h9]
      simp [encV, hj']
    have C : CmpOk (encV val) (cfTag cf) g cb b 0 (tagd l).size w := ⟨swoCf swo, ent, fun m os dk hsz x y => call b rfl _ (grown_sort val w b m dk os) x.1 y.1⟩
    have R : Row1 (encV val) w b 0 (tagd l) := ⟨oneV val, hH, hblk⟩
    have hc := sortStable_any (ltTag (ltOf cf)) (swoTag swo) b 0 cap n (tagd l) w C R htag.symm hl (fun i j hij hj => tagd_say hij (by omega))
    refine Calls.mono hc ?_
    rintro e w' ⟨he, D, hp, hs, hS⟩
    rw [hn] at hp hs
    obtain ⟨W, w1, w2, w3⟩ := stable_places hp hs
    have hD : D.size = l.length := by rw [← tagd_size l]; exact hp.1
    obtain ⟨m, os, rfl⟩ := hS
    refine ⟨he, W, w1, w2, ?_, ?_⟩
    · rw [← w3]
      have hdl : (List.map val (List.map (fun x => x.1) D.toList)).length = l.length := by simp [hD]
      refine ⟨cellsI_k _, by rw [flatV, cellsI_length]; simp, .inr ⟨b, cap, _, by rw [cellsI_length, hdl, ← e2, hn], hbg, heap_sortV D hg, by rw [cellsI_length, hdl]; exact hn1, hm1, by simp [putCells, hc1], ?_⟩⟩
      rw [cellsI_length, hdl, Nat.mul_one, ← hD, take_putV cur D (by rw [hD, hc1, Nat.mul_one]; exact hn1), flatV, List.map_map, List.map_map]
      rfl
    · exact (Below.refl base w).grown (grown_sort val w b m D os) hb (fun k hk => by injection hk with hk; subst hk; exact hbg)
end
end Go.Proofs.Ytamlcjepkoagmaa.StI
