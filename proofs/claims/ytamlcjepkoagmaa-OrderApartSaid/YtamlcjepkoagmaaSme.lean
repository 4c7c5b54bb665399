/- The contract of the document's own Same (layer 14): are units alike. Condition: the slices are ones that Go can have. -/
import Derived.Test.YtamlcjepkoagmaaUni
import Derived.Test.YtamlcjepkoagmaaRtx
namespace Go.Proofs.Ytamlcjepkoagmaa
open Go.RowKit
set_option linter.unusedSimpArgs false
set_option linter.unusedVariables false

/-- These slices read as these lists of integers. -/
structure UI (w : World) (vs : List Value) (U : List (List Int)) : Prop where
  len : vs.length = U.length
  el : ∀ (i : Nat) (u : List Int), U[i]? = some u → ∃ A c, vs[i]? = some (.slice A u.length c) ∧ RdI w A u ∧ u.length ≤ c ∧ c ≤ 9223372036854775807
theorem UI.later {w w' : World} {vs : List Value} {U : List (List Int)} (h : UI w vs U) (hb : Below w.heap.size w w') : UI w' vs U := ⟨h.len, fun i u hu => by
  obtain ⟨A, c, h1, h2, h3⟩ := h.el i u hu
  exact ⟨A, c, h1, RdI.later h2 hb, h3⟩⟩
theorem UOk.ui {w : World} {b : Nat} {vs : List Value} {U : List (List Nat)} (h : UOk w b vs U) : UI w vs (U.map ints) := ⟨by simp [h.len], fun i u hu => by
  rw [List.getElem?_map, Option.map_eq_some_iff] at hu
  obtain ⟨x, hx, rfl⟩ := hu
  obtain ⟨v, h1, h2⟩ := h.el i x hx
  obtain ⟨A, c, hv, hr, hc, hc2⟩ := h2.rdi
  subst hv
  exact ⟨A, c, h1, hr, hc, hc2⟩⟩
/-- The cell of a slice among such. -/
theorem cellW {w : World} {A : Option Addr} {vs : List Value} (h : RdK w 1 A (cellsW vs)) {i : Nat} {v : Value} (hv : vs[i]? = some v) : ∃ g o, A = some ⟨g, o, none⟩ ∧ g < w.heap.size ∧ w.cell? ⟨g, o + i, none⟩ = some v := by
  obtain ⟨g, o, ha, hr⟩ := h i [v] (by simp [cellsW, hv])
  have hc := hr 0 v rfl
  rw [Nat.mul_one, Nat.add_zero] at hc
  exact ⟨g, o, ha, World.block_lt_of_cell? w _ hc, hc⟩

set_option maxHeartbeats 6400000 in
set_option maxRecDepth 100000 in
theorem rsame14_any (A : Option Addr) (n c : Nat) (vs : List Value) (U : List (List Int)) (B : Option Addr) (m d : Nat) (xs : List Value) (V : List (List Int)) (w : World)
    (hn : Hid (n = U.length)) (hm : Hid (m = V.length)) (hl : n ≤ 9223372036854775807) (hl2 : m ≤ 9223372036854775807) (hA : Hid (RdK w 1 A (cellsW vs))) (hU : Hid (UI w vs U)) (hB : Hid (RdK w 1 B (cellsW xs))) (hV : Hid (UI w xs V)) (R : Bool) (hR : Hid (decide (U = V) = R)) :
    Calls Try.prog 10 #[.slice A n c, .slice B m d] w fun e w' => e = .returned (.bool R) ∧ Below w.heap.size w w' := by
  by_cases h1 : n = m
  case neg =>
    have hq : R = false := by rw [← hR.out]; exact decide_eq_false fun hc => h1 (by rw [hn.out, hm.out, hc])
    subst hq
    have d1 : (((n : Int)) == (m : Int)) = false := by simp; omega
    go_enter Try.func10, Try.ntmps10
    go_wp2_with fail
    go_ret
    exact ⟨rfl, (by (repeat' (first | (with_reducible exact Below.refl _ _) | (with_reducible refine bdrewN ?_ _) | (with_reducible refine Below.drew ?_) | (with_reducible refine Below.setCell ?_ ?_ _) | (with_reducible refine Below.alloc ?_ ?_ _) | (with_reducible exact Nat.le_refl _) | (with_reducible assumption) | omega | (simp only [World.size_alloc, World.size_setCell, World.size_drew, sz_drewN]; omega))))⟩
  subst h1
  go_enter Try.func10, Try.ntmps10
  go_wp2_with fail
  go_loopw [14] (fun i wr => ∃ k : Nat, k ≤ n ∧ i = .int .i64 k ∧ Hid (U.take k = V.take k) ∧ Below w.heap.size w wr) (fun i wr => n - (intOf i).toNat)
  case atStart => exact ⟨0, Nat.zero_le _, rfl, (show _ = _ by simp), (by (repeat' (first | (with_reducible exact Below.refl _ _) | (with_reducible refine bdrewN ?_ _) | (with_reducible refine Below.drew ?_) | (with_reducible refine Below.setCell ?_ ?_ _) | (with_reducible refine Below.alloc ?_ ?_ _) | (with_reducible exact Nat.le_refl _) | (with_reducible assumption) | omega | (simp only [World.size_alloc, World.size_setCell, World.size_drew, sz_drewN]; omega))))⟩
  case round =>
    obtain ⟨k, hk, rfl, HF, hb⟩ := hrel
    by_cases hlt : k < n
    · have hkU : k < U.length := by have := hn.out; omega
      have hkV : k < V.length := by have := hm.out; omega
      obtain ⟨a, ha⟩ : ∃ a, U[k]? = some a := ⟨_, List.getElem?_eq_getElem hkU⟩
      obtain ⟨b, hbb⟩ : ∃ b, V[k]? = some b := ⟨_, List.getElem?_eq_getElem hkV⟩
      obtain ⟨Aa, ca, hva, hra, hca, hca2⟩ := (hU.out.later hb).el k a ha
      obtain ⟨Ab, cb, hvb, hrb, hcb, hcb2⟩ := (hV.out.later hb).el k b hbb
      obtain ⟨g, o, hAg, hg, c1⟩ := cellW (RdK.later hA.out hb) hva
      obtain ⟨g2, o2, hBg, hg2, c2⟩ := cellW (RdK.later hB.out hb) hvb
      subst hAg hBg
      obtain ⟨q, hq⟩ : ∃ q, q = a.length := ⟨_, rfl⟩
      obtain ⟨q2, hq2⟩ : ∃ q2, q2 = b.length := ⟨_, rfl⟩
      rw [← hq] at c1 hca
      rw [← hq2] at c2 hcb
      have hUk : U[k] = a := by rw [List.getElem?_eq_getElem hkU] at ha; exact Option.some.inj ha
      have hVk : V[k] = b := by rw [List.getElem?_eq_getElem hkV] at hbb; exact Option.some.inj hbb
      have hne : a ≠ b → R = false := fun hab => by
        rw [← hR.out]
        refine decide_eq_false fun hc => ?_
        subst hc
        exact hab (by rw [← hUk, ← hVk])
      have hst : a = b → U.take (k + 1) = V.take (k + 1) := fun hab => take_eq hkU hkV HF.out (by rw [hUk, hVk, hab])
      have HNe := Lib.hid hne; have HSt := Lib.hid hst; have HQ := Lib.hid hq; have HQ2 := Lib.hid hq2; have HRa := Lib.hid hra; have HRb := Lib.hid hrb
      have HV1 := Lib.hid (And.intro hva hvb)
      clear hne hst hq hq2 hra hrb ha hbb hUk hVk hva hvb
      by_cases h2 : q = q2
      case neg =>
        have hq : R = false := HNe.out (fun hc => h2 (by rw [HQ.out, HQ2.out, hc]))
        subst hq
        have d2 : (((q : Int)) == (q2 : Int)) = false := by simp; omega
        go_wp2_with fail
        refine wp_region_later (by kernel_rfl) (by kernel_rfl) ?_; have hL : ∀ (w : World) (x : Later w) (b o : Nat), b < w.heap.size → x.to.cell? ⟨b, o, none⟩ = w.cell? ⟨b, o, none⟩ := fun w x b o hb => x.cell hb; have hN := Later.some; (repeat (go_big_quiet_step ((fail)))); refine wpQuiet_nil ?_; intro w2 hw2; have hb2 := Later.out hw2; clear hw2 hL hN
        go_wp2_with fail
        go_ret
        exact ⟨rfl, hb.trans (hb2.mono hb.size)⟩
      subst h2
      go_wp2_with fail
      refine wp_region_later (by kernel_rfl) (by kernel_rfl) ?_; have hL : ∀ (w : World) (x : Later w) (b o : Nat), b < w.heap.size → x.to.cell? ⟨b, o, none⟩ = w.cell? ⟨b, o, none⟩ := fun w x b o hb => x.cell hb; have hN := Later.some; (repeat (go_big_quiet_step ((fail)))); refine wpQuiet_nil ?_; intro w2 hw2; have hb2 := Later.out hw2; clear hw2 hL hN
      have hB2 : Below w.heap.size w w2 := hb.trans (hb2.mono hb.size)
      have c1' : w2.cell? ⟨g, o + k, none⟩ = some (.slice Aa q ca) := (hb2.cell (p := ⟨g, o + k, none⟩) hg).trans c1
      have hg' : g < w2.heap.size := Nat.lt_of_lt_of_le hg hb2.size
      have c2' : w2.cell? ⟨g2, o2 + k, none⟩ = some (.slice Ab q cb) := (hb2.cell (p := ⟨g2, o2 + k, none⟩) hg2).trans c2
      have hg2' : g2 < w2.heap.size := Nat.lt_of_lt_of_le hg2 hb2.size
      clear c1 c2 hg hg2
      go_wp2_with fail
      go_loopw [33] (fun i wi => ∃ x : Nat, x ≤ q ∧ i = .int .i64 x ∧ Hid (a.take x = b.take x) ∧ Below w2.heap.size w2 wi) (fun i wi => q - (intOf i).toNat)
      case atStart => exact ⟨0, Nat.zero_le _, rfl, (show _ = _ by simp), Below.refl _ _⟩
      case round =>
        obtain ⟨x, hx, rfl, HG, hbi⟩ := hrel
        have hBi : Below w.heap.size w wr := hB2.trans (hbi.mono hB2.size)
        by_cases hxq : x < q
        · have hxa : x < a.length := by have := HQ.out; omega
          have hxb : x < b.length := by have := HQ2.out; omega
          have c1i : wr.cell? ⟨g, o + k, none⟩ = some (.slice Aa q ca) := (hbi.cell (p := ⟨g, o + k, none⟩) hg').trans c1'
          have c2i : wr.cell? ⟨g2, o2 + k, none⟩ = some (.slice Ab q cb) := (hbi.cell (p := ⟨g2, o2 + k, none⟩) hg2').trans c2'
          have zgi : g < wr.heap.size := Nat.lt_of_lt_of_le hg' hbi.size
          have zg2i : g2 < wr.heap.size := Nat.lt_of_lt_of_le hg2' hbi.size
          obtain ⟨g5, o5, hA5, hg5, c5⟩ := (RdI.later (RdI.later HRa.out hb2) hbi).at hxa
          obtain ⟨g6, o6, hA6, hg6, c6⟩ := (RdI.later (RdI.later HRb.out hb2) hbi).at hxb
          subst hA5 hA6
          obtain ⟨y, hy⟩ : ∃ y, y = a[x] := ⟨_, rfl⟩
          obtain ⟨z, hz⟩ : ∃ z, z = b[x] := ⟨_, rfl⟩
          rw [← hy] at c5
          rw [← hz] at c6
          by_cases hyz : y = z
          · have HG2 : Hid (a.take (x + 1) = b.take (x + 1)) := by show _ = _; exact take_eq hxa hxb HG.out (by rw [← hy, ← hz, hyz])
            subst hyz
            clear hy hz
            go_wp2_with fail
            refine wp_region_later (by kernel_rfl) (by kernel_rfl) ?_; have hL : ∀ (w : World) (x : Later w) (b o : Nat), b < w.heap.size → x.to.cell? ⟨b, o, none⟩ = w.cell? ⟨b, o, none⟩ := fun w x b o hb => x.cell hb; have hN := Later.some; (repeat (go_big_quiet_step (((fail))))); refine wpQuiet_nil ?_; intro w3 hw3; have hb3 := Later.out hw3; clear hw3 hL hN
            go_wp2_with fail
            go_round
            case rel => exact ⟨x + 1, by omega, by go_num, HG2, hbi.trans (hb3.mono hbi.size)⟩
            case measure => simp [intOf]; omega
          · have hq : R = false := HNe.out (fun hc => hyz (by rw [hy, hz]; subst hc; rfl))
            subst hq
            have d5 : (y == z) = false := by simpa using hyz
            clear hy hz
            go_wp2_with fail
            refine wp_region_later (by kernel_rfl) (by kernel_rfl) ?_; have hL : ∀ (w : World) (x : Later w) (b o : Nat), b < w.heap.size → x.to.cell? ⟨b, o, none⟩ = w.cell? ⟨b, o, none⟩ := fun w x b o hb => x.cell hb; have hN := Later.some; (repeat (go_big_quiet_step (((fail))))); refine wpQuiet_nil ?_; intro w3 hw3; have hb3 := Later.out hw3; clear hw3 hL hN
            go_wp2_with fail
            go_ret
            exact ⟨rfl, hBi.trans (hb3.mono hBi.size)⟩
        · have hxq' : x = q := by omega
          subst hxq'
          have hab : a = b := by
            have h := HG.out
            rwa [show a.take x = a by rw [HQ.out]; exact List.take_length, show b.take x = b by rw [HQ2.out]; exact List.take_length] at h
          have HF2 := Lib.hid (HSt.out hab)
          clear hab
          go_wp2_with fail
          go_round
          case rel => exact ⟨k + 1, by omega, by go_num, HF2, hBi⟩
          case measure => simp [intOf]; omega
    · have hk' : k = n := by omega
      subst hk'
      have hq : R = true := by
        rw [← hR.out]
        refine decide_eq_true ?_
        have h := HF.out
        rwa [show U.take k = U by rw [hn.out]; exact List.take_length, show V.take k = V by rw [hm.out]; exact List.take_length] at h
      subst hq
      go_wp2_with fail
      go_ret
      exact ⟨rfl, hb⟩
end Go.Proofs.Ytamlcjepkoagmaa
