/- A state as an argument, opened: what it holds, and that its texts are not longer than Go can have. No condition beyond the form's own. -/
import Derived.Test.YtlomeicilgfhnaaGreatGs0
import Derived.Test.YtlomeicilgfhnaaGreatOpa
namespace Go.Proofs.YtlomeicilgfhnaaGreat
open Go.ChangeShapes Go.WideShapes Go.RowKit Go.Deep
set_option linter.unusedSimpArgs false
set_option linter.unusedVariables false

theorem pick_labs {P : Jb → List Lb → Prop} : ∀ (l : List Jb), (∀ j ∈ l, ∃ L, P j L) → ∃ J : List Jl, jbs J = l ∧ ∀ x ∈ J, P x.1 x.2
  | [], _ => ⟨[], rfl, fun x hx => by cases hx⟩
  | j :: l, h => by
    obtain ⟨L, hL⟩ := h j (by simp)
    obtain ⟨J, hJ, hP⟩ := pick_labs l fun k hk => h k (by simp [hk])
    refine ⟨(j, L) :: J, by simp [hJ], fun x hx => ?_⟩
    rcases List.mem_cons.1 hx with rfl | hx
    · exact hL
    · exact hP x hx
theorem cellsQ45 : Tryz.prog.cellsOf 45 = 4 := by kernel_rfl
theorem cellsST : Tryz.prog.cellsOf 31 = 5 := by kernel_rfl
theorem cellsLM1 : Tryz.prog.cellsOf 27 = 1 := by kernel_rfl
theorem cellsLQ1 : Tryz.prog.cellsOf 28 = 1 := by kernel_rfl
theorem cellsLJ1 : Tryz.prog.cellsOf 29 = 1 := by kernel_rfl
theorem list5' {α : Type} (l : List α) (h : l.length = 5) : ∃ a b c d e, l = [a, b, c, d, e] := by
  match l, h with
  | [a, b, c, d, e], _ => exact ⟨a, b, c, d, e, rfl⟩
theorem list2' {α : Type} (l : List α) (h : l.length = 2) : ∃ a b, l = [a, b] := by
  match l, h with
  | [a, b], _ => exact ⟨a, b, rfl⟩
section
variable {H : Type} {enc : TypeId × Value → H} {W : World} {base : Nat} {sp : Nat → Bool} {held : Bool}
/-- What is known of a queue's datum. -/
structure QueIn (d : DataW H) (x : Qx) : Prop where
  shape : ∃ da, d = .agg [.lit (.string x.1.data.toList), da]
theorem trod_que {fuel : Nat} {cs : List Value} {y : DataW H × List MemPlace} (h : DataW.trod enc Tryz.prog W base sp held fuel 45 cs = some y) : ∃ x : Qx, cs = x.cells ∧ QueIn y.1 x := by
  obtain ⟨ys, n, _, hx, hlen, hyl, hg⟩ := DataW.trod_struct Tryz.underlying45 h
  rw [cellsQ45] at hlen
  obtain ⟨c0, c1, c2, c3, rfl⟩ := list4 cs hlen
  obtain ⟨y0, y1, rfl⟩ := list2' ys (by simpa using hyl)
  have h0 : DataW.trod enc Tryz.prog W base sp held n 9 (List.take (Tryz.prog.cellsOf 9) [c0, c1, c2, c3]) = some y0 := hg 0 _ rfl
  have h1 : DataW.trod enc Tryz.prog W base sp held n 40 (List.take (Tryz.prog.cellsOf 40) [c1, c2, c3]) = some y1 := hg 1 _ rfl
  rw [cells9] at h0
  rw [cellsRes] at h1
  obtain ⟨s, rfl, e0⟩ := open_field_string h0
  obtain ⟨a, b, c, rfl, rfl, rfl⟩ := open_field_res h1
  exact ⟨(s, a, b, c), rfl, ⟨y1.1, by have := congrArg Prod.fst hx; simpa [e0] using this⟩⟩
theorem open_queues {a : Option Addr} {len cap : Nat} {d : DataW H} {p : List MemPlace} (h : DataW.Trod enc Tryz.prog W base sp held 28 (.slice a len cap) d p) :
    ∃ l : List Qx, len = l.length ∧ RdQ W a l ∧ len ≤ cap ∧ cap ≤ 9223372036854775807 ∧ ∀ j ∈ l, ∃ elems spare x, d = .slice elems spare ∧ x ∈ elems ∧ QueIn x j := by
  obtain ⟨fuel, hf⟩ := h
  rcases open_slice Tryz.underlying28 hf with ⟨hcs, _⟩ | ⟨x, n', c, m, n, D, Pl, hcs, _, hl, hm, hmm, hx, hi⟩
  · simp [Value.cells] at hcs
    obtain ⟨rfl, rfl, rfl⟩ := hcs
    exact ⟨[], rfl, RdQ.nil _ _, Nat.le_refl _, by omega, fun x hx => by simp at hx⟩
  · simp [Value.cells] at hcs
    obtain ⟨rfl, rfl, rfl⟩ := hcs
    rw [cellsQ45] at hi
    have hlm : len ≤ m := by rw [hmm]; split <;> omega
    have hm' : cap ≤ 9223372036854775807 := by unfold maxLen at hm; omega
    have hdat : d = .slice ((List.range len).map D) ((List.range (m - len)).map fun j => D (len + j)) := congrArg Prod.fst hx
    have hspot : 0 < len → x.spot = none := fun h => by
      obtain ⟨cs', hc, ht⟩ := hi 0 (by omega)
      obtain ⟨_, hcl, hat⟩ := World.cells?_some hc
      have h0 := hat 0 (by omega)
      rw [List.getElem?_eq_getElem (by omega)] at h0
      simpa [Addr.add] using World.cell?_spot h0
    have key : ∀ i, i < len → ∃ j : Qx, ∃ g o, x = ⟨g, o, none⟩ ∧ W.rangeAt g (o + i * 4) j.cells ∧ QueIn (D i) j := by
      intro i hlt
      obtain ⟨cs', hc, ht⟩ := hi i (by omega)
      obtain ⟨_, hcl, hat⟩ := World.cells?_some hc
      obtain ⟨j, rfl, hj⟩ := trod_que ht
      obtain ⟨g, o, spot⟩ := x
      have hs : spot = none := hspot (by omega)
      subst hs
      refine ⟨j, g, o, rfl, fun m' v hv => ?_, hj⟩
      have hm4 : m' < 4 := (List.getElem?_eq_some_iff.1 hv).1
      have := hat m' hm4
      rw [Addr.add_lit, Addr.add_lit, hv] at this
      exact this
    have pick : ∀ n, n ≤ len → ∃ l : List Qx, l.length = n ∧ RdQ W (some x) l ∧ ∀ i k, l[i]? = some k → QueIn (D i) k := by
      intro n
      induction n with
      | zero => exact fun _ => ⟨[], rfl, RdQ.nil _ _, fun i k hk => by simp at hk⟩
      | succ n ih =>
        intro hn
        obtain ⟨l, hll, hr, hD⟩ := ih (by omega)
        obtain ⟨k, g, o, hxx, hrg, hk⟩ := key n (by omega)
        refine ⟨l ++ [k], by simp [hll], fun i y hy => ?_, fun i y hy => ?_⟩
        · rw [cellsQ_append] at hy
          by_cases hi' : i < l.length
          · rw [List.getElem?_append_left (by rw [cellsQ_length]; exact hi')] at hy; exact hr i y hy
          · rw [List.getElem?_append_right (by rw [cellsQ_length]; omega)] at hy
            have e : i = n := by
              have := (List.getElem?_eq_some_iff.1 hy).1
              simp [cellsQ] at this; omega
            subst e
            rw [cellsQ_length, show i - l.length = 0 by omega] at hy
            simp [cellsQ] at hy; subst hy
            exact ⟨g, o, by rw [hxx], hrg⟩
        · by_cases hi' : i < l.length
          · rw [List.getElem?_append_left hi'] at hy; exact hD i y hy
          · rw [List.getElem?_append_right (by omega)] at hy
            have e : i = n := by
              have := (List.getElem?_eq_some_iff.1 hy).1
              simp at this; omega
            subst e
            rw [show i - l.length = 0 by omega] at hy
            simp at hy; subst hy
            exact hk
    obtain ⟨l, hll, hr, hD⟩ := pick len (Nat.le_refl _)
    refine ⟨l, hll.symm, hr, hl, hm', fun y hy => ?_⟩
    obtain ⟨i, hi', e⟩ := List.getElem_of_mem hy
    exact ⟨_, _, D i, hdat, List.mem_map.2 ⟨i, List.mem_range.2 (by omega), rfl⟩, hD i y (by rw [List.getElem?_eq_getElem hi', e])⟩
/-- What an element of a slice's datum weighs, the slice weighs. -/
theorem weigh_elem {ts : List TypeId} {ds : List (DataW H)} (h : (DataW.weightsEach Tryz.prog ts ds).all (· ≤ reachBytes) = true) {j : Nat} {t e : TypeId} (hu : Tryz.prog.underlying t = some (.slice e)) {el spa : List (DataW H)} {E : DataW H} (ht : ts[j]? = some t) (hd : ds[j]? = some (.slice el spa)) (he : E ∈ el) :
    (DataW.weightsEach Tryz.prog [e] [E]).all (· ≤ reachBytes) = true := by
  rw [List.all_eq_true] at h ⊢
  intro n hn
  refine h n (DataW.weights_mem_each ht hd n ?_)
  simp only [DataW.weights, hu, List.mem_cons, List.mem_append]
  refine .inr (.inl (weightsAll_mem' he n ?_))
  simpa [DataW.weightsEach] using hn
theorem okQueues {ts : List TypeId} {ds : List (DataW H)} (h : (DataW.weightsEach Tryz.prog ts ds).all (· ≤ reachBytes) = true) {j : Nat} {d : DataW H} (ht : ts[j]? = some 28) (hd : ds[j]? = some d) {L : List Qx}
    (hL : ∀ x ∈ L, ∃ elems spare e, d = .slice elems spare ∧ e ∈ elems ∧ QueIn e x) : QsOk L := fun x hx => by
  obtain ⟨el, spa, e, rfl, he, da, rfl⟩ := hL x hx
  exact sized_queue (weigh_elem h Tryz.underlying28 ht hd he) (j := 0) rfl rfl
/-- What is known of a job's datum, with its labels. -/
def JobL (W : World) (d : DataW H) (j : Jb) (L : List Lb) : Prop := ∃ elems spare x, d = .slice elems spare ∧ x ∈ elems ∧ ∃ d2 d3 d4 d7 e1 e3, x = .agg [.agg [.lit (.string j.nm.data.toList), .lit (.string j.qu.data.toList), d2, d3, d4, .lit (.string j.ap.data.toList), .lit (.string j.ga.data.toList), d7], e1, .lit (.string j.nd.data.toList), e3] ∧ LabsIn W d4 j.A j.n j.cp L
theorem okJobs {ts : List TypeId} {ds : List (DataW H)} (h : (DataW.weightsEach Tryz.prog ts ds).all (· ≤ reachBytes) = true) {j : Nat} {d : DataW H} (ht : ts[j]? = some 29) (hd : ds[j]? = some d) {W : World} {J : List Jl}
    (hJ : ∀ x ∈ J, JobL W d x.1 x.2) : JsOk W J ∧ ∀ x ∈ J, x.1.nd.size ≤ 140737488351232 := by
  have key : ∀ x ∈ J, KtOk W x.1.tk x.2 ∧ x.1.nd.size ≤ 140737488351232 := fun x hx => by
    obtain ⟨el, spa, e, rfl, he, d2, d3, d4, d7, e1, e3, rfl, hl⟩ := hJ x hx
    have hi := sized_inner (weigh_elem h Tryz.underlying29 ht hd he) Tryz.underlying66 (j := 0) rfl rfl
    obtain ⟨t1, t2, t3, t4, t5⟩ := sized_task hi (j := 0) rfl rfl hl
    exact ⟨⟨t1, t2, t3, t4, ⟨hl.len, hl.rd, hl.cap, hl.cap2, t5⟩⟩, sized_str hi (j := 2) rfl rfl⟩
  exact ⟨fun x hx => (key x hx).1, fun x hx => (key x hx).2⟩
/-- What is known of a state's datum. -/
structure StIn (W : World) (d : DataW H) (v : Sv) (S : Sg) : Prop where
  ck : v.ck = S.ck
  nx : v.nx = S.nx
  N : v.N = S.M.length
  M : RdM W v.A (mcs S.M)
  cA : v.N ≤ v.cA
  cA2 : v.cA ≤ 9223372036854775807
  K : v.K = S.Q.length
  Q : RdQ W v.B S.Q
  cB : v.K ≤ v.cB
  cB2 : v.cB ≤ 9223372036854775807
  n : v.n = S.J.length
  J : RdJ W v.C (jbs S.J)
  cC : v.n ≤ v.cC
  cC2 : v.cC ≤ 9223372036854775807
  dat : ∃ d0 d1 dm dq dj, d = .agg [d0, d1, dm, dq, dj] ∧ (∀ x ∈ S.M, ∃ elems spare e, dm = .slice elems spare ∧ e ∈ elems ∧ MachIn W e x) ∧ (∀ x ∈ S.Q, ∃ elems spare e, dq = .slice elems spare ∧ e ∈ elems ∧ QueIn e x) ∧ ∀ x ∈ S.J, JobL W dj x.1 x.2
theorem slice_field {t e : TypeId} (hu : Tryz.prog.underlying t = some (.slice e)) {fuel : Nat} {c : Value} {y : DataW H × List MemPlace} (h : DataW.trod enc Tryz.prog W base sp held fuel t [c] = some y) : ∃ A n cp, c = .slice A n cp ∧ DataW.Trod enc Tryz.prog W base sp held t (.slice A n cp) y.1 y.2 := by
  rcases open_slice hu h with ⟨hcs, _⟩ | ⟨a, len, cap, _, _, _, _, hcs, _⟩
  · simp at hcs; subst hcs; exact ⟨none, 0, 0, rfl, fuel, by simpa [Value.cells] using h⟩
  · simp at hcs; subst hcs; exact ⟨some a, len, cap, rfl, fuel, by simpa [Value.cells] using h⟩
set_option maxRecDepth 100000 in
theorem open_state {r : Reach} {b0 : Nat} {val : Value} {d : DataW H} {p : List MemPlace} (hval : Value.okWide Tryz.prog W r b0 31 val) (h : DataW.Trod enc Tryz.prog W base sp held 31 val d p) : ∃ (v : Sv) (S : Sg), val = .agg v.arr ∧ StIn W d v S := by
  obtain ⟨cs, rfl, hsz⟩ := okWide_struct Tryz.underlying31 hval
  obtain ⟨cs⟩ := cs
  rw [cellsST] at hsz
  obtain ⟨c0, c1, c2, c3, c4, rfl⟩ := list5' cs hsz
  obtain ⟨fuel, hf⟩ := h
  obtain ⟨ys, n', _, hx, _, hyl, hg⟩ := DataW.trod_struct Tryz.underlying31 hf
  obtain ⟨y0, y1, y2, y3, y4, rfl⟩ := list5' ys (by simpa using hyl)
  have h0 : DataW.trod enc Tryz.prog W base sp held n' 3 (List.take (Tryz.prog.cellsOf 3) [c0, c1, c2, c3, c4]) = some y0 := hg 0 _ rfl
  have h1 : DataW.trod enc Tryz.prog W base sp held n' 3 (List.take (Tryz.prog.cellsOf 3) [c1, c2, c3, c4]) = some y1 := hg 1 _ rfl
  have h2 : DataW.trod enc Tryz.prog W base sp held n' 27 (List.take (Tryz.prog.cellsOf 27) [c2, c3, c4]) = some y2 := hg 2 _ rfl
  have h3 : DataW.trod enc Tryz.prog W base sp held n' 28 (List.take (Tryz.prog.cellsOf 28) [c3, c4]) = some y3 := hg 3 _ rfl
  have h4 : DataW.trod enc Tryz.prog W base sp held n' 29 (List.take (Tryz.prog.cellsOf 29) [c4]) = some y4 := hg 4 _ rfl
  rw [cellsInt] at h0 h1
  rw [cellsLM1] at h2
  rw [cellsLQ1] at h3
  rw [cellsLJ1] at h4
  obtain ⟨ck, rfl⟩ := open_field_int h0
  obtain ⟨nx, rfl⟩ := open_field_int h1
  obtain ⟨A, N, cA, rfl, t2⟩ := slice_field Tryz.underlying27 h2
  obtain ⟨B, K, cB, rfl, t3⟩ := slice_field Tryz.underlying28 h3
  obtain ⟨C, n, cC, rfl, t4⟩ := slice_field Tryz.underlying29 h4
  obtain ⟨L, a1, a2, a3, a4, a5⟩ := open_machines t2
  obtain ⟨Q, b1, b2, b3, b4, b5⟩ := open_queues t3
  obtain ⟨l, k1, k2, k3, k4, k5⟩ := open_jobs t4
  obtain ⟨J, hJ, hP⟩ := pick_labs (P := fun j L => JobL W y4.1 j L) l fun j hj => by
    obtain ⟨el, spa, x, e1, e2, d2, d3, d4, d7, e3, e4, L, e5, e6⟩ := k5 j hj
    exact ⟨L, el, spa, x, e1, e2, d2, d3, d4, d7, e3, e4, e5, e6⟩
  refine ⟨⟨ck, nx, A, N, cA, B, K, cB, C, n, cC⟩, ⟨ck, nx, L, Q, J⟩, rfl, ⟨rfl, rfl, a1, a2, a3, a4, b1, b2, b3, b4, ?_, ?_, k3, k4, y0.1, y1.1, y2.1, y3.1, y4.1, ?_, a5, b5, hP⟩⟩
  · show n = J.length
    rw [k1, ← hJ, List.length_map]
  · show RdJ W C (jbs J)
    rw [hJ]; exact k2
  · have := congrArg Prod.fst hx; simpa using this
/-- A state argument reads as a state that Go can have. -/
theorem okState {ts : List TypeId} {ds : List (DataW H)} (h : (DataW.weightsEach Tryz.prog ts ds).all (· ≤ reachBytes) = true) {j : Nat} {d : DataW H} (ht : ts[j]? = some 31) (hd : ds[j]? = some d) {W : World} {v : Sv} {S : Sg} (hs : StIn W d v S) : RdS W v S := by
  obtain ⟨d0, d1, dm, dq, dj, rfl, h1, h2, h3⟩ := hs.dat
  have hi := sized_inner h Tryz.underlying31 ht hd
  obtain ⟨q1, q2⟩ := okJobs hi (j := 4) rfl rfl h3
  exact ⟨hs.ck, hs.nx, hs.N, hs.M, okMachines hi (j := 2) rfl rfl h1, hs.cA, hs.cA2, hs.K, hs.Q, okQueues hi (j := 3) rfl rfl h2, hs.cB, hs.cB2, hs.n, hs.J, q1, q2, hs.cC, hs.cC2⟩
end
end Go.Proofs.YtlomeicilgfhnaaGreat
