/- Arguments that are nodes, queues and tasks, opened: what they hold, and that their texts are not longer than Go can have (by the form's reach, or by the second form's bulk). No condition beyond the forms' own. -/
import Derived.Test.YtjgojgmgicpgaaaGreatTQ01
import Derived.Test.YtjgojgmgicpgaaaGreatRows
import Derived.ProofKit
import Derived.SizedLaws
import Derived.WideShapes
import Derived.Laws.IdiomArrays
namespace Go.Proofs.YtjgojgmgicpgaaaGreat
open Go.ChangeShapes Go.WideShapes Go.RowKit Go.Deep
set_option linter.unusedSimpArgs false
set_option linter.unusedVariables false

theorem cellsInt : Tryz.prog.cellsOf 3 = 1 := by kernel_rfl
theorem cellsRes : Tryz.prog.cellsOf 50 = 3 := by kernel_rfl
theorem cellsLabs : Tryz.prog.cellsOf 51 = 1 := by kernel_rfl
theorem cellsNode : Tryz.prog.cellsOf 53 = 5 := by kernel_rfl
theorem cellsQueue : Tryz.prog.cellsOf 55 = 4 := by kernel_rfl
theorem cellsTask : Tryz.prog.cellsOf 57 = 10 := by kernel_rfl
theorem list4 {α : Type} (l : List α) (h : l.length = 4) : ∃ a b c d, l = [a, b, c, d] := by
  match l, h with
  | [a, b, c, d], _ => exact ⟨a, b, c, d, rfl⟩
theorem list5 {α : Type} (l : List α) (h : l.length = 5) : ∃ a b c d e, l = [a, b, c, d, e] := by
  match l, h with
  | [a, b, c, d, e], _ => exact ⟨a, b, c, d, e, rfl⟩
theorem list3' {α : Type} (l : List α) (h : l.length = 3) : ∃ a b c, l = [a, b, c] := by
  match l, h with
  | [a, b, c], _ => exact ⟨a, b, c, rfl⟩
theorem list8 {α : Type} (l : List α) (h : l.length = 8) : ∃ a b c d e f g i, l = [a, b, c, d, e, f, g, i] := by
  match l, h with
  | [a, b, c, d, e, f, g, i], _ => exact ⟨a, b, c, d, e, f, g, i, rfl⟩
theorem list10 {α : Type} (l : List α) (h : l.length = 10) : ∃ a b c d e f g i j k, l = [a, b, c, d, e, f, g, i, j, k] := by
  match l, h with
  | [a, b, c, d, e, f, g, i, j, k], _ => exact ⟨a, b, c, d, e, f, g, i, j, k, rfl⟩

section
variable {H : Type} {enc : TypeId × Value → H} {W : World} {base : Nat} {sp : Nat → Bool} {held : Bool}
/-- What is known of labels in a field. -/
structure LabsIn (W : World) (d : DataW H) (A : Option Addr) (n c : Nat) (l : List Lb) : Prop where
  len : n = l.length
  rd : RdL W A l
  cap : n ≤ c
  cap2 : c ≤ 9223372036854775807
  dat : ∀ x ∈ l, ∃ elems spare, d = .slice elems spare ∧ datL x ∈ elems

theorem open_field_labs {fuel : Nat} {c : Value} {y : DataW H × List MemPlace} (h : DataW.trod enc Tryz.prog W base sp held fuel 51 [c] = some y) :
    ∃ A n cp l, c = .slice A n cp ∧ LabsIn W y.1 A n cp l := by
  have key : ∀ A n cp, c = .slice A n cp → ∃ A n cp l, c = .slice A n cp ∧ LabsIn W y.1 A n cp l := fun A n cp hc => by
    subst hc
    obtain ⟨l, h1, h2, h3, h4, h5⟩ := open_labs (enc := enc) (base := base) (sp := sp) (held := held) (p := y.2) (d := y.1) ⟨fuel, by simpa [Value.cells] using h⟩
    exact ⟨A, n, cp, l, rfl, h1, h2, h3, h4, h5⟩
  rcases open_slice Tryz.underlying51 h with ⟨hcs, _⟩ | ⟨a, len, cap, _, _, _, _, hcs, _⟩
  · simp at hcs; exact key _ _ _ hcs
  · simp at hcs; exact key _ _ _ hcs

theorem open_field_res {fuel : Nat} {c0 c1 c2 : Value} {y : DataW H × List MemPlace} (h : DataW.trod enc Tryz.prog W base sp held fuel 50 [c0, c1, c2] = some y) :
    ∃ a b c : Int, c0 = .int .i64 a ∧ c1 = .int .i64 b ∧ c2 = .int .i64 c := by
  obtain ⟨y0, y1, y2, m, _, hy0, hy1, hy2⟩ := trod_array3 Tryz.underlying50 cellsInt h
  obtain ⟨x0, e0, _, _⟩ := DataW.trod_int Tryz.underlying3 hy0
  obtain ⟨x1, e1, _, _⟩ := DataW.trod_int Tryz.underlying3 hy1
  obtain ⟨x2, e2, _, _⟩ := DataW.trod_int Tryz.underlying3 hy2
  simp at e0 e1 e2
  exact ⟨x0, x1, x2, e0, e1, e2⟩
theorem open_field_string {fuel : Nat} {c : Value} {y : DataW H × List MemPlace} (h : DataW.trod enc Tryz.prog W base sp held fuel 9 [c] = some y) :
    ∃ s : ByteArray, c = .string s ∧ y.1 = .lit (.string s.data.toList) := by
  obtain ⟨s, e, r, _⟩ := DataW.trod_string Tryz.underlying9 h
  simp at e
  exact ⟨s, e, by rw [r]⟩
theorem open_field_int {fuel : Nat} {c : Value} {y : DataW H × List MemPlace} (h : DataW.trod enc Tryz.prog W base sp held fuel 3 [c] = some y) : ∃ a : Int, c = .int .i64 a := by
  obtain ⟨x, e, _, _⟩ := DataW.trod_int Tryz.underlying3 h
  simp at e
  exact ⟨x, e⟩

set_option maxRecDepth 100000 in
theorem open_node {r : Reach} {b0 : Nat} {v : Value} {d : DataW H} {p : List MemPlace} (hval : Value.okWide Tryz.prog W r b0 53 v) (h : DataW.Trod enc Tryz.prog W base sp held 53 v d p) :
    ∃ nm a b c A n cp l da dl, v = .agg #[.string nm, .int .i64 a, .int .i64 b, .int .i64 c, .slice A n cp] ∧ d = .agg [.lit (.string nm.data.toList), da, dl] ∧ LabsIn W dl A n cp l := by
  obtain ⟨cs, rfl, hsz⟩ := okWide_struct Tryz.underlying53 hval
  obtain ⟨cs⟩ := cs
  rw [cellsNode] at hsz
  obtain ⟨c0, c1, c2, c3, c4, rfl⟩ := list5 cs hsz
  obtain ⟨fuel, hf⟩ := h
  obtain ⟨ys, n, _, hx, _, hyl, hg⟩ := DataW.trod_struct Tryz.underlying53 hf
  obtain ⟨y0, y1, y2, rfl⟩ := list3' ys (by simpa using hyl)
  have h0 : DataW.trod enc Tryz.prog W base sp held n 9 (List.take (Tryz.prog.cellsOf 9) [c0, c1, c2, c3, c4]) = some y0 := hg 0 _ rfl
  have h1 : DataW.trod enc Tryz.prog W base sp held n 50 (List.take (Tryz.prog.cellsOf 50) [c1, c2, c3, c4]) = some y1 := hg 1 _ rfl
  have h2 : DataW.trod enc Tryz.prog W base sp held n 51 (List.take (Tryz.prog.cellsOf 51) [c4]) = some y2 := hg 2 _ rfl
  rw [cells9] at h0
  rw [cellsRes] at h1
  rw [cellsLabs] at h2
  obtain ⟨s, rfl, e0⟩ := open_field_string h0
  obtain ⟨a, b, c, rfl, rfl, rfl⟩ := open_field_res h1
  obtain ⟨A, m, cp, l, rfl, hl⟩ := open_field_labs h2
  exact ⟨s, a, b, c, A, m, cp, l, y1.1, y2.1, rfl, by have := congrArg Prod.fst hx; simpa [e0] using this, hl⟩

set_option maxRecDepth 100000 in
theorem open_queue {r : Reach} {b0 : Nat} {v : Value} {d : DataW H} {p : List MemPlace} (hval : Value.okWide Tryz.prog W r b0 55 v) (h : DataW.Trod enc Tryz.prog W base sp held 55 v d p) :
    ∃ nm a b c da, v = .agg #[.string nm, .int .i64 a, .int .i64 b, .int .i64 c] ∧ d = .agg [.lit (.string nm.data.toList), da] := by
  obtain ⟨cs, rfl, hsz⟩ := okWide_struct Tryz.underlying55 hval
  obtain ⟨cs⟩ := cs
  rw [cellsQueue] at hsz
  obtain ⟨c0, c1, c2, c3, rfl⟩ := list4 cs hsz
  obtain ⟨fuel, hf⟩ := h
  obtain ⟨ys, n, _, hx, _, hyl, hg⟩ := DataW.trod_struct Tryz.underlying55 hf
  obtain ⟨y0, y1, rfl⟩ := list2 ys (by simpa using hyl)
  have h0 : DataW.trod enc Tryz.prog W base sp held n 9 (List.take (Tryz.prog.cellsOf 9) [c0, c1, c2, c3]) = some y0 := hg 0 _ rfl
  have h1 : DataW.trod enc Tryz.prog W base sp held n 50 (List.take (Tryz.prog.cellsOf 50) [c1, c2, c3]) = some y1 := hg 1 _ rfl
  rw [cells9] at h0
  rw [cellsRes] at h1
  obtain ⟨s, rfl, e0⟩ := open_field_string h0
  obtain ⟨a, b, c, rfl, rfl, rfl⟩ := open_field_res h1
  exact ⟨s, a, b, c, y1.1, rfl, by have := congrArg Prod.fst hx; simpa [e0] using this⟩

set_option maxRecDepth 100000 in
theorem open_task {r : Reach} {b0 : Nat} {v : Value} {d : DataW H} {p : List MemPlace} (hval : Value.okWide Tryz.prog W r b0 57 v) (h : DataW.Trod enc Tryz.prog W base sp held 57 v d p) :
    ∃ nm qu pr a b c A n cp l ap ga sz d2 d3 d4 d7, v = .agg #[.string nm, .string qu, .int .i64 pr, .int .i64 a, .int .i64 b, .int .i64 c, .slice A n cp, .string ap, .string ga, .int .i64 sz] ∧
      d = .agg [.lit (.string nm.data.toList), .lit (.string qu.data.toList), d2, d3, d4, .lit (.string ap.data.toList), .lit (.string ga.data.toList), d7] ∧ LabsIn W d4 A n cp l := by
  obtain ⟨cs, rfl, hsz⟩ := okWide_struct Tryz.underlying57 hval
  obtain ⟨cs⟩ := cs
  rw [cellsTask] at hsz
  obtain ⟨c0, c1, c2, c3, c4, c5, c6, c7, c8, c9, rfl⟩ := list10 cs hsz
  obtain ⟨fuel, hf⟩ := h
  obtain ⟨ys, n, _, hx, _, hyl, hg⟩ := DataW.trod_struct Tryz.underlying57 hf
  obtain ⟨y0, y1, y2, y3, y4, y5, y6, y7, rfl⟩ := list8 ys (by simpa using hyl)
  have h0 : DataW.trod enc Tryz.prog W base sp held n 9 (List.take (Tryz.prog.cellsOf 9) [c0, c1, c2, c3, c4, c5, c6, c7, c8, c9]) = some y0 := hg 0 _ rfl
  have h1 : DataW.trod enc Tryz.prog W base sp held n 9 (List.take (Tryz.prog.cellsOf 9) [c1, c2, c3, c4, c5, c6, c7, c8, c9]) = some y1 := hg 1 _ rfl
  have h2 : DataW.trod enc Tryz.prog W base sp held n 3 (List.take (Tryz.prog.cellsOf 3) [c2, c3, c4, c5, c6, c7, c8, c9]) = some y2 := hg 2 _ rfl
  have h3 : DataW.trod enc Tryz.prog W base sp held n 50 (List.take (Tryz.prog.cellsOf 50) [c3, c4, c5, c6, c7, c8, c9]) = some y3 := hg 3 _ rfl
  have h4 : DataW.trod enc Tryz.prog W base sp held n 51 (List.take (Tryz.prog.cellsOf 51) [c6, c7, c8, c9]) = some y4 := hg 4 _ rfl
  have h5 : DataW.trod enc Tryz.prog W base sp held n 9 (List.take (Tryz.prog.cellsOf 9) [c7, c8, c9]) = some y5 := hg 5 _ rfl
  have h6 : DataW.trod enc Tryz.prog W base sp held n 9 (List.take (Tryz.prog.cellsOf 9) [c8, c9]) = some y6 := hg 6 _ rfl
  have h7 : DataW.trod enc Tryz.prog W base sp held n 3 (List.take (Tryz.prog.cellsOf 3) [c9]) = some y7 := hg 7 _ rfl
  rw [cells9] at h0 h1 h5 h6
  rw [cellsInt] at h2 h7
  rw [cellsRes] at h3
  rw [cellsLabs] at h4
  obtain ⟨nm, rfl, e0⟩ := open_field_string h0
  obtain ⟨qu, rfl, e1⟩ := open_field_string h1
  obtain ⟨pr, rfl⟩ := open_field_int h2
  obtain ⟨a, b, c, rfl, rfl, rfl⟩ := open_field_res h3
  obtain ⟨A, m, cp, l, rfl, hl⟩ := open_field_labs h4
  obtain ⟨ap, rfl, e5⟩ := open_field_string h5
  obtain ⟨ga, rfl, e6⟩ := open_field_string h6
  obtain ⟨sz, rfl⟩ := open_field_int h7
  exact ⟨nm, qu, pr, a, b, c, A, m, cp, l, ap, ga, sz, y2.1, y3.1, y4.1, y7.1, rfl, by have := congrArg Prod.fst hx; simpa [e0, e1, e5, e6] using this, hl⟩

/-! ### Sizes by the form's reach -/
theorem sized_inner {ts : List TypeId} {ds : List (DataW H)} (h : (DataW.weightsEach Tryz.prog ts ds).all (· ≤ reachBytes) = true) {j : Nat} {t : TypeId} {fs : Array Field} {parts : List (DataW H)} (hu : Tryz.prog.underlying t = some (.struct fs))
    (ht : ts[j]? = some t) (hd : ds[j]? = some (.agg parts)) : (DataW.weightsEach Tryz.prog (fs.toList.map (·.type)) parts).all (· ≤ reachBytes) = true := by
  rw [List.all_eq_true]
  intro n hn
  refine List.all_eq_true.1 h n (DataW.weights_mem_each ht hd n ?_)
  simp only [DataW.weights, hu]
  exact hn
theorem sized_str {ts : List TypeId} {ds : List (DataW H)} (h : (DataW.weightsEach Tryz.prog ts ds).all (· ≤ reachBytes) = true) {j : Nat} {t : TypeId} {s : ByteArray} (ht : ts[j]? = some t) (hd : ds[j]? = some (.lit (.string s.data.toList))) : s.size ≤ 140737488351232 := by
  have := sized_string h ht hd
  have e : s.data.toList.length = s.size := by simp
  simp only [reachBytes] at this
  omega
theorem sized_node {ts : List TypeId} {ds : List (DataW H)} (h : (DataW.weightsEach Tryz.prog ts ds).all (· ≤ reachBytes) = true) {j : Nat} {nm : ByteArray} {da dl : DataW H} (ht : ts[j]? = some 53) (hd : ds[j]? = some (.agg [.lit (.string nm.data.toList), da, dl])) {W : World} {A : Option Addr} {n c : Nat} {l : List Lb} (hl : LabsIn W dl A n c l) :
    nm.size ≤ 140737488351232 ∧ Sz l := by
  have hi := sized_inner h Tryz.underlying53 ht hd
  refine ⟨sized_str hi (j := 0) rfl rfl, fun x hx => ?_⟩
  obtain ⟨el, sp, rfl, hm⟩ := hl.dat x hx
  exact sized_labs hi (j := 2) rfl rfl hm
theorem sized_queue {ts : List TypeId} {ds : List (DataW H)} (h : (DataW.weightsEach Tryz.prog ts ds).all (· ≤ reachBytes) = true) {j : Nat} {nm : ByteArray} {da : DataW H} (ht : ts[j]? = some 55) (hd : ds[j]? = some (.agg [.lit (.string nm.data.toList), da])) :
    nm.size ≤ 140737488351232 := sized_str (sized_inner h Tryz.underlying55 ht hd) (j := 0) rfl rfl
theorem sized_task {ts : List TypeId} {ds : List (DataW H)} (h : (DataW.weightsEach Tryz.prog ts ds).all (· ≤ reachBytes) = true) {j : Nat} {nm qu ap ga : ByteArray} {d2 d3 d4 d7 : DataW H} (ht : ts[j]? = some 57)
    (hd : ds[j]? = some (.agg [.lit (.string nm.data.toList), .lit (.string qu.data.toList), d2, d3, d4, .lit (.string ap.data.toList), .lit (.string ga.data.toList), d7])) {W : World} {A : Option Addr} {n c : Nat} {l : List Lb} (hl : LabsIn W d4 A n c l) :
    nm.size ≤ 140737488351232 ∧ qu.size ≤ 140737488351232 ∧ ap.size ≤ 140737488351232 ∧ ga.size ≤ 140737488351232 ∧ Sz l := by
  have hi := sized_inner h Tryz.underlying57 ht hd
  refine ⟨sized_str hi (j := 0) rfl rfl, sized_str hi (j := 1) rfl rfl, sized_str hi (j := 5) rfl rfl, sized_str hi (j := 6) rfl rfl, fun x hx => ?_⟩
  obtain ⟨el, sp, rfl, hm⟩ := hl.dat x hx
  exact sized_labs hi (j := 4) rfl rfl hm

/-! ### Sizes by the second form's bulk -/
theorem bulk_mem {d : DataW H} : ∀ {l : List (DataW H)}, d ∈ l → Rows.uptoBulk d ≤ Rows.uptoBulkAll l
  | e :: r, h => by
    simp only [Rows.uptoBulkAll]
    rcases List.mem_cons.1 h with rfl | h
    · omega
    · have := bulk_mem h; omega
theorem bulk_str {s : ByteArray} {l : List (DataW H)} (h : DataW.lit (Lit.string s.data.toList) ∈ l) : s.size ≤ Rows.uptoBulkAll l := by
  have := bulk_mem h
  have e : s.data.toList.length = s.size := by simp
  simp only [Rows.uptoBulk] at this
  omega
theorem bulk_agg (parts : List (DataW H)) : Rows.uptoBulkAll parts ≤ Rows.uptoBulk (DataW.agg parts) := by simp only [Rows.uptoBulk]; omega
theorem bulk_labs {W : World} {d : DataW H} {A : Option Addr} {n c : Nat} {l : List Lb} (hl : LabsIn W d A n c l) {K : Nat} (hK : Rows.uptoBulk d ≤ K) (hk : K ≤ 140737488351232) : Sz l := fun x hx => by
  obtain ⟨el, sp, rfl, hm⟩ := hl.dat x hx
  have h1 := bulk_mem hm
  simp only [Rows.uptoBulk] at hK
  have h2 : Rows.uptoBulkAll [(.lit (.string x.1.data.toList) : DataW H), .lit (.string x.2.data.toList)] ≤ Rows.uptoBulk (datL (H := H) x) := bulk_agg _
  have h3 := bulk_str (H := H) (s := x.1) (l := [(.lit (.string x.1.data.toList) : DataW H), .lit (.string x.2.data.toList)]) (by simp)
  have h4 := bulk_str (H := H) (s := x.2) (l := [(.lit (.string x.1.data.toList) : DataW H), .lit (.string x.2.data.toList)]) (by simp)
  omega
theorem bulk_node {nm : ByteArray} {da dl : DataW H} {K : Nat} (hK : Rows.uptoBulk (DataW.agg [.lit (.string nm.data.toList), da, dl]) ≤ K) (hk : K ≤ 140737488351232) {W : World} {A : Option Addr} {n c : Nat} {l : List Lb} (hl : LabsIn W dl A n c l) :
    nm.size ≤ 140737488351232 ∧ Sz l := by
  have h0 := bulk_agg [.lit (.string nm.data.toList), da, dl]
  refine ⟨?_, bulk_labs hl (Nat.le_trans (bulk_mem (l := [.lit (.string nm.data.toList), da, dl]) (by simp)) (Nat.le_trans h0 hK)) hk⟩
  have := bulk_str (s := nm) (l := [.lit (.string nm.data.toList), da, dl]) (by simp)
  omega
theorem bulk_queue {nm : ByteArray} {da : DataW H} {K : Nat} (hK : Rows.uptoBulk (DataW.agg [.lit (.string nm.data.toList), da]) ≤ K) (hk : K ≤ 140737488351232) : nm.size ≤ 140737488351232 := by
  have h0 := bulk_agg [.lit (.string nm.data.toList), da]
  have := bulk_str (s := nm) (l := [.lit (.string nm.data.toList), da]) (by simp)
  omega
theorem bulk_task {nm qu ap ga : ByteArray} {d2 d3 d4 d7 : DataW H} {K : Nat} (hK : Rows.uptoBulk (DataW.agg [.lit (.string nm.data.toList), .lit (.string qu.data.toList), d2, d3, d4, .lit (.string ap.data.toList), .lit (.string ga.data.toList), d7]) ≤ K) (hk : K ≤ 140737488351232)
    {W : World} {A : Option Addr} {n c : Nat} {l : List Lb} (hl : LabsIn W d4 A n c l) : nm.size ≤ 140737488351232 ∧ qu.size ≤ 140737488351232 ∧ ap.size ≤ 140737488351232 ∧ ga.size ≤ 140737488351232 ∧ Sz l := by
  have h0 := bulk_agg [.lit (.string nm.data.toList), .lit (.string qu.data.toList), d2, d3, d4, .lit (.string ap.data.toList), .lit (.string ga.data.toList), d7]
  have s0 := bulk_str (s := nm) (l := [.lit (.string nm.data.toList), .lit (.string qu.data.toList), d2, d3, d4, .lit (.string ap.data.toList), .lit (.string ga.data.toList), d7]) (by simp)
  have s1 := bulk_str (s := qu) (l := [.lit (.string nm.data.toList), .lit (.string qu.data.toList), d2, d3, d4, .lit (.string ap.data.toList), .lit (.string ga.data.toList), d7]) (by simp)
  have s5 := bulk_str (s := ap) (l := [.lit (.string nm.data.toList), .lit (.string qu.data.toList), d2, d3, d4, .lit (.string ap.data.toList), .lit (.string ga.data.toList), d7]) (by simp)
  have s6 := bulk_str (s := ga) (l := [.lit (.string nm.data.toList), .lit (.string qu.data.toList), d2, d3, d4, .lit (.string ap.data.toList), .lit (.string ga.data.toList), d7]) (by simp)
  refine ⟨by omega, by omega, by omega, by omega, bulk_labs hl (Nat.le_trans (bulk_mem (l := [.lit (.string nm.data.toList), .lit (.string qu.data.toList), d2, d3, d4, .lit (.string ap.data.toList), .lit (.string ga.data.toList), d7]) (by simp)) (Nat.le_trans h0 hK)) hk⟩
end
end Go.Proofs.YtjgojgmgicpgaaaGreat
