/- The contract of ident.Sorted: for each key the last label with it, the keys ascending, in memory of its own. Condition: at most 1000 labels. -/
import Derived.Test.YtnidpipbdgolfaaOwn
import Derived.BigQuiet
import Derived.Deep.QuietTactic
import Derived.Laws.Cover1
namespace Go.Proofs.Ytnidpipbdgolfaa
open Go.Shelf Go.RowKit Go.Lib Go.Sort Go.Proofs
set_option linter.unusedSimpArgs false
set_option linter.unusedVariables false

/-- What Sorted leaves. -/
def SortedPost (l : List Lb) (w : World) (e : Ending) (w' : World) : Prop :=
  ∃ v s, e = .returned v ∧ IsSorted l s ∧ s.length ≤ l.length ∧ OwnL w' w.heap.size v s ∧ Below w.heap.size w w'
theorem isSorted_nil : IsSorted [] [] := ⟨List.Pairwise.nil, fun x => ⟨fun h => by simp at h, fun h => absurd h (lastIn_nil x)⟩⟩

set_option maxHeartbeats 4000000 in
set_option maxRecDepth 1000000 in
theorem sorted_empty (A : Option Addr) (c : Nat) (w : World) : Calls Try.prog 20 #[.slice A 0 c] w (SortedPost [] w) := by
  have hclone := Lib.hid (fun W => clone_any A 0 c [] W (Lib.hid rfl) (Lib.hid (RdL.nil W A)) (by omega))
  go_enter Try.func20, Try.ntmps20
  go_wp2_with fail
  refine (hclone.out _).mono ?_
  rintro e w1 ⟨v0, rfl, hO, hb1⟩
  obtain ⟨A1, c1, S1⟩ := hO.sl
  have hv := S1.val
  simp only [List.length_nil] at hv
  subst hv
  clear hO S1
  go_wp2_with (go_at_call 25; refine (sortStable_none _ _ _).mono ?_; rintro e w' ⟨rfl, rfl⟩)
  refine wp_loop_rounds 1 ?_
  rw [rounds_succ]
  go_wp2
  go_ret
  exact ⟨_, [], rfl, isSorted_nil, Nat.le_refl _, OwnL.nil _ _, hb1⟩

set_option maxHeartbeats 8000000 in
set_option maxRecDepth 1000000 in
theorem sorted_some (A : Option Addr) (c : Nat) (l : List Lb) (w : World) (hr : Hid (RdL w A l)) (h0 : 0 < l.length) (hbig : l.length ≤ 1000) :
    Calls Try.prog 20 #[.slice A l.length c] w (SortedPost l w) := by
  have hclone := Lib.hid (clone_any A l.length c l w (Lib.hid rfl) hr hbig)
  obtain ⟨n, hn⟩ : ∃ n, n = l.length := ⟨_, rfl⟩
  rw [← hn] at hclone h0 hbig ⊢
  have HN := Lib.hid hn
  clear hn
  go_enter Try.func20, Try.ntmps20
  go_wp2_with fail
  refine hclone.out.mono ?_
  rintro e w1 ⟨v0, rfl, hO, hb1⟩
  obtain ⟨g, cap, hv, hbg, hO1⟩ : ∃ g cap, v0 = .slice (some ⟨g, 0, none⟩) n cap ∧ w.heap.size ≤ g ∧ OwnL w1 w.heap.size (.slice (some ⟨g, 0, none⟩) l.length cap) l := by
    rcases hO.2 with ⟨_, h1⟩ | ⟨g, cap, cur, hv, hb, h1, h2, h3, h4, h5⟩
    · have := HN.out; omega
    · exact ⟨g, cap, by rw [HN.out]; exact hv, hb, by rw [← hv]; exact hO⟩
  subst hv
  have hcap : cap ≤ 9223372036854775807 ∧ n ≤ cap := by
    obtain ⟨A1, c1, S1⟩ := hO1.sl
    have e := S1.val
    injection e with _ _ e3
    have u1 := S1.cap
    have u2 := S1.cap2
    have u3 := HN.out
    simp only [maxLen] at u2
    omega
  obtain ⟨hcap1, hcap2⟩ := hcap
  have hsort := sortStable_any ltT swoLt g 0 cap n (tagged l) w1 (rowT hO1) (by rw [tagged_size]; exact HN.out) (by omega) (fun i j h1 h2 => (cfT_lt _ _).trans (tagged_lt h1 (by rw [← HN.out]; exact h2)))
  have HSort := Lib.hid hsort
  have hgl := (World.ownsRow.lt hO1 g rfl).2
  have HR := Lib.hid (rowT hO1)
  clear hsort hclone hO
  go_wp2_with (go_at_call 25; refine HSort.out.mono ?_; rintro e w2 ⟨rfl, D, hp, hs, hS⟩)
  have HH := Lib.hid (SWK.holds hS HR.out.hblk HR.out.hH hp.1)
  have HB2 := Lib.hid (swk_below hS hbg hb1.size)
  have HG := Lib.hid (lasts_sorted (l := l) (by rw [← HN.out]; exact hp) (by rw [← HN.out]; exact hs))
  have hsD : D.size = n := by rw [hp.1, tagged_size]; exact HN.out.symm
  have HSD := Lib.hid hsD
  have hle := hS.le
  clear hp hs hS hsD HSort
  have hgl2 : g < w2.heap.size := by omega
  have hw2 : w.heap.size ≤ w2.heap.size := by omega
  go_loopw [4, 5, 6, 13] (fun s4 _ _ i wr => ∃ (k : Nat) (v : Value), k ≤ n ∧ i = .int .i64 k ∧ s4 = v ∧ Hid (OwnL wr w2.heap.size v (lastsK D k)) ∧ Below w2.heap.size w2 wr) (fun _ _ _ i wr => n - (intOf i).toNat)
  case atStart => exact ⟨0, _, Nat.zero_le _, rfl, rfl, Lib.hid (OwnL.nil _ _), Below.refl _ _⟩
  case round =>
    obtain ⟨k, v, hk, rfl, rfl, HO, hb⟩ := hrel
    have hsz := hb.size
    by_cases hlt : k < n
    · have hkD : k < D.size := by rw [HSD.out]; exact hlt
      obtain ⟨x, hx⟩ : ∃ x, x = D[k]! := ⟨_, rfl⟩
      have h1 : wr.cell? ⟨g, k * 2, none⟩ = some (.string x.1.1) := by
        have := (HH.out.cell (i := k) (c := 0) hkD (by omega)).1
        rw [← hx] at this
        have h := (hb.cell (p := ⟨g, 0 + k * 2 + 0, none⟩) hgl2).trans this
        rw [Nat.zero_add, Nat.add_zero] at h
        exact h
      have h2 : wr.cell? ⟨g, k * 2 + 1, none⟩ = some (.string x.1.2) := by
        have := (HH.out.cell (i := k) (c := 1) hkD (by omega)).1
        rw [← hx] at this
        have h := (hb.cell (p := ⟨g, 0 + k * 2 + 1, none⟩) hgl2).trans this
        rw [Nat.zero_add] at h
        exact h
      have hgw : g < wr.heap.size := by omega
      have HX := Lib.hid hx
      clear hx
      by_cases hlast : k + 1 = n
      · have hkp : keepAt D k = true := by unfold keepAt; rw [HSD.out, decide_eq_true hlast]; rfl
        have heq : ((k : Int) + 1 == (n : Int)) = true := by simp; omega
        have HL := Lib.hid (lastsK_yes hkp)
        have hlen := lastsK_len D k
        have HLen := Lib.hid hlen
        clear hkp hlen
        obtain ⟨i0, hi, hz0, hz1, hz2⟩ := info_partsL info33
        go_wp2_with fail
        go_quiet (fail)
        go_wp2_with (at_builtin; refine wpList_append_own _ rfl _ _ 22 rfl w2.heap.size 33 i0 _ 2 32 Try.underlying22 hi hz0 hz1 hz2 rfl (by decide) _ _ _ rfl (OwnL.below HO.out (by (repeat' (first | (with_reducible exact Below.refl _ _) | (with_reducible refine bdrewN ?_ _) | (with_reducible refine Below.drew ?_) | (with_reducible refine Below.setCell ?_ ?_ _) | (with_reducible refine Below.alloc ?_ ?_ _) | (with_reducible exact Nat.le_refl _) | (with_reducible assumption) | omega | (simp only [World.size_alloc, World.size_setCell, World.size_drew, sz_drewN]; omega))))) _ 1 1 (cellsL [x.1]) rfl ?qc1 ?qc2 ?qc3 ?qc4 ?qc5 ?qc6 ?_)
        case qc1 => rw [cellsL_length]; rfl
        case qc2 =>
          intro j u hj
          have h := news_at ((wr.alloc (.cells #[.string x.1.1, .string x.1.2] 33)).drewN nq) x.1 33 j u hj
          rw [sz_drewN, World.size_alloc] at h
          exact h
        case qc3 => exact cellsL_one _
        case qc4 => have := HLen.out; simp only [maxLen]; omega
        case qc5 => have := HLen.out; omega
        case qc6 => simp only [World.size_alloc, World.size_setCell, World.size_drew, sz_drewN]; omega
        intro v' w3 hown hgrow hnil
        have hb3 : Below w2.heap.size w2 w3 := Below.grown (by (repeat' (first | (with_reducible exact Below.refl _ _) | (with_reducible refine bdrewN ?_ _) | (with_reducible refine Below.drew ?_) | (with_reducible refine Below.setCell ?_ ?_ _) | (with_reducible refine Below.alloc ?_ ?_ _) | (with_reducible refine Below.trans ?_ (Below.mono hb ?_)) | (with_reducible exact Nat.le_refl _) | (with_reducible assumption) | omega | (simp only [World.size_alloc, World.size_setCell, World.size_drew, sz_drewN]; omega)))) hgrow (by simp only [World.size_alloc, World.size_setCell, World.size_drew, sz_drewN]; omega) (by
          intro q hq
          exact (World.ownsRow.lt HO.out q hq).1)
        have HO3 : Hid (OwnL w3 w2.heap.size v' (lastsK D (k + 1))) := by
          show OwnL _ _ _ _
          unfold OwnL
          rw [HL.out, HX.out.symm, cellsL_append, List.length_append]
          exact hown
        clear hown hgrow hnil
        go_wp2
        go_round
        case rel => exact ⟨k + 1, v', by omega, by go_num, rfl, HO3, hb3⟩
        case measure => simp [intOf]; omega
      · have hnx : k + 1 < n := by omega
        have hkD1 : k + 1 < D.size := by rw [HSD.out]; exact hnx
        have heq : ((k : Int) + 1 == (n : Int)) = false := by simp; omega
        obtain ⟨y, hy⟩ : ∃ y, y = D[k + 1]! := ⟨_, rfl⟩
        have h3 : wr.cell? ⟨g, (k + 1) * 2, none⟩ = some (.string y.1.1) := by
          have := (HH.out.cell (i := k + 1) (c := 0) hkD1 (by omega)).1
          rw [← hy] at this
          have h := (hb.cell (p := ⟨g, 0 + (k + 1) * 2 + 0, none⟩) hgl2).trans this
          rw [Nat.zero_add, Nat.add_zero] at h
          exact h
        have hkz : (k : Int) + 1 < (n : Int) := by omega
        have hkt : ((k : Int) + 1).toNat = k + 1 := by omega
        have hk0 : (0 : Int) ≤ (k : Int) + 1 := by omega
        have hkw : IntKind.i64.wrap ((k : Int) + 1) = (k : Int) + 1 := by rw [IntKind.wrap_i64]; omega
        by_cases hE : sE y.1.1 x.1.1 = true
        · have hkp : keepAt D k = false := by
            unfold keepAt; rw [HSD.out, decide_eq_false hlast, ← hy, ← HX.out, hE]; rfl
          have HL := Lib.hid (lastsK_no hkp)
          have e1 : (y.1.1.toList == x.1.1.toList) = true := hE
          have HY := Lib.hid hy
          clear hkp hy hE
          go_wp2_with fail
          go_quiet (fail)
          go_wp2
          go_round
          case rel => exact ⟨k + 1, _, by omega, by go_num, rfl, Lib.hid (by rw [HL.out]; exact OwnL.below HO.out (by (repeat' (first | (with_reducible exact Below.refl _ _) | (with_reducible refine bdrewN ?_ _) | (with_reducible refine Below.drew ?_) | (with_reducible refine Below.setCell ?_ ?_ _) | (with_reducible refine Below.alloc ?_ ?_ _) | (with_reducible exact Nat.le_refl _) | (with_reducible assumption) | omega | (simp only [World.size_alloc, World.size_setCell, World.size_drew, sz_drewN]; omega))))), (by (repeat' (first | (with_reducible exact Below.refl _ _) | (with_reducible refine bdrewN ?_ _) | (with_reducible refine Below.drew ?_) | (with_reducible refine Below.setCell ?_ ?_ _) | (with_reducible refine Below.alloc ?_ ?_ _) | (with_reducible refine Below.trans ?_ (Below.mono hb ?_)) | (with_reducible exact Nat.le_refl _) | (with_reducible assumption) | omega | (simp only [World.size_alloc, World.size_setCell, World.size_drew, sz_drewN]; omega))))⟩
          case measure => simp [intOf]; omega
        · have hE' : sE y.1.1 x.1.1 = false := by simpa using hE
          have hkp : keepAt D k = true := by
            unfold keepAt; rw [HSD.out, decide_eq_false hlast, ← hy, ← HX.out, hE']; rfl
          have e1 : (y.1.1.toList == x.1.1.toList) = false := hE'
          have HY := Lib.hid hy
          clear hy hE hE'
          have HL := Lib.hid (lastsK_yes hkp)
          have hlen := lastsK_len D k
          have HLen := Lib.hid hlen
          clear hkp hlen
          obtain ⟨i0, hi, hz0, hz1, hz2⟩ := info_partsL info33
          go_wp2_with fail
          go_quiet (fail)
          go_wp2_with (at_builtin; refine wpList_append_own _ rfl _ _ 22 rfl w2.heap.size 33 i0 _ 2 32 Try.underlying22 hi hz0 hz1 hz2 rfl (by decide) _ _ _ rfl (OwnL.below HO.out (by (repeat' (first | (with_reducible exact Below.refl _ _) | (with_reducible refine bdrewN ?_ _) | (with_reducible refine Below.drew ?_) | (with_reducible refine Below.setCell ?_ ?_ _) | (with_reducible refine Below.alloc ?_ ?_ _) | (with_reducible exact Nat.le_refl _) | (with_reducible assumption) | omega | (simp only [World.size_alloc, World.size_setCell, World.size_drew, sz_drewN]; omega))))) _ 1 1 (cellsL [x.1]) rfl ?qc1 ?qc2 ?qc3 ?qc4 ?qc5 ?qc6 ?_)
          case qc1 => rw [cellsL_length]; rfl
          case qc2 =>
            intro j u hj
            have h := news_at ((wr.alloc (.cells #[.string x.1.1, .string x.1.2] 33)).drewN nq) x.1 33 j u hj
            rw [sz_drewN, World.size_alloc] at h
            exact h
          case qc3 => exact cellsL_one _
          case qc4 => have := HLen.out; simp only [maxLen]; omega
          case qc5 => have := HLen.out; omega
          case qc6 => simp only [World.size_alloc, World.size_setCell, World.size_drew, sz_drewN]; omega
          intro v' w3 hown hgrow hnil
          have hb3 : Below w2.heap.size w2 w3 := Below.grown (by (repeat' (first | (with_reducible exact Below.refl _ _) | (with_reducible refine bdrewN ?_ _) | (with_reducible refine Below.drew ?_) | (with_reducible refine Below.setCell ?_ ?_ _) | (with_reducible refine Below.alloc ?_ ?_ _) | (with_reducible refine Below.trans ?_ (Below.mono hb ?_)) | (with_reducible exact Nat.le_refl _) | (with_reducible assumption) | omega | (simp only [World.size_alloc, World.size_setCell, World.size_drew, sz_drewN]; omega)))) hgrow (by simp only [World.size_alloc, World.size_setCell, World.size_drew, sz_drewN]; omega) (by
            intro q hq
            exact (World.ownsRow.lt HO.out q hq).1)
          have HO3 : Hid (OwnL w3 w2.heap.size v' (lastsK D (k + 1))) := by
            show OwnL _ _ _ _
            unfold OwnL
            rw [HL.out, HX.out.symm, cellsL_append, List.length_append]
            exact hown
          clear hown hgrow hnil
          go_wp2
          go_round
          case rel => exact ⟨k + 1, v', by omega, by go_num, rfl, HO3, hb3⟩
          case measure => simp [intOf]; omega
    · have hkn : k = n := by omega
      subst hkn
      go_wp2
      go_ret
      have hl := lastsK_len D k
      exact ⟨_, lastsK D k, rfl, by rw [HN.out]; exact HG.out, by rw [← HN.out]; exact hl, OwnL.base HO.out hw2, hb1.trans (HB2.out.trans (hb.mono hw2))⟩

theorem sorted_any (A : Option Addr) (n c : Nat) (l : List Lb) (w : World) (hn : Hid (n = l.length)) (hr : Hid (RdL w A l)) (hbig : n ≤ 1000) : Calls Try.prog 20 #[.slice A n c] w (SortedPost l w) := by
  have hn' := hn.out
  subst hn'
  rcases Nat.eq_zero_or_pos l.length with h | h
  · have hl : l = [] := List.length_eq_zero_iff.1 h
    subst hl
    exact sorted_empty A c w
  · exact sorted_some A c l w hr h hbig
end Go.Proofs.Ytnidpipbdgolfaa
