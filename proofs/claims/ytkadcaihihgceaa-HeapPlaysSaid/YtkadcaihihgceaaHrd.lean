/- The document's heap: Remove. Condition: at most 1000 pairs. -/
import Derived.Test.YtkadcaihihgceaaHrc
namespace Go.Proofs.Ytkadcaihihgceaa
open Go.RowKit
set_option linter.unusedSimpArgs false
set_option linter.unusedVariables false
/-- What stays when the odd (the even) ones go. -/
abbrev keepR (od : Bool) (L : List Px) : List Px := L.filter fun x => odB x != od
set_option maxHeartbeats 12800000 in
set_option maxRecDepth 100000 in
theorem rrem_any (b r n c : Nat) (A : Option Addr) (od : Bool) (L : List Px) (w : World) (hbig : n ≤ 900) (hR : Hid (Rf w b r A n c L)) :
    Calls Try.prog 19 #[.pointer (some ⟨r, 0, none⟩), .bool od] w fun e w' => e = .returned (.int .i64 ((L.length : Int) - ((keepR od L).length : Int))) ∧ (∃ A' n' c', Rf w' b r A' n' c' (keepR od L) ∧ ∀ k, RfB r A' k → RfB r A k ∨ w.heap.size ≤ k) ∧ GrP (fun k => k = r) w w' := by
  have HN : Hid (n = L.length) := hR.out.rd.1
  have c0 : w.cell? ⟨r, 0, none⟩ = some (.slice A n c) := hR.out.bk.cellAt 0
  go_enter Try.func19, Try.ntmps19
  go_wp2_with fail
  go_loopw [13, 5] (fun s13 s5 wr => ∃ (k : Nat) (v : Value), k ≤ n ∧ s13 = .int .i64 k ∧ s5 = v ∧ Hid (OwnK wr w.heap.size 27 2 v ((keepR od (L.take k)).map eX)) ∧ Hid (keepR od (L.take k) = [] → v = .slice none 0 0) ∧ Hid (Below w.heap.size w wr)) (fun s13 s5 wr => n - (intOf s13).toNat)
  case atStart => exact ⟨0, _, Nat.zero_le _, rfl, rfl, OwnK.nil _ _ _ _, fun _ => rfl, Below.refl _ _⟩
  case round =>
    clear c0
    obtain ⟨k, v, hk, rfl, rfl, HO, HV, HB⟩ := hrel
    have c0 : wr.cell? ⟨r, 0, none⟩ = some (.slice A n c) := (hR.out.bk.later HB.out).cellAt 0
    by_cases hkn : k < n
    · have hkl : Hid (k < L.length) := by show k < L.length; rw [← HN.out]; exact hkn
      obtain ⟨g, o, hA, hg, hx⟩ := (hR.out.rd.later HB.out).at hkl.out
      subst hA
      obtain ⟨⟨x1, x2⟩, ex⟩ : ∃ x, x = L[k]'hkl.out := ⟨_, rfl⟩
      rw [← ex] at hx
      have EX := Lib.hid ex
      have d1 : wr.cell? ⟨g, o + k * 2, none⟩ = some (.int .i64 x1) := by simpa using hx 0 _ rfl
      have d2 : wr.cell? ⟨g, o + k * 2 + 1, none⟩ = some (.int .i64 x2) := hx 1 _ rfl
      have hw : wrap64 ((k : Int) + 1) = ((k + 1 : Nat) : Int) := by unfold wrap64; omega
      have hm := tmod2 x2
      obtain ⟨q, hq⟩ : ∃ q, q = odB (x1, x2) := ⟨_, rfl⟩
      have hq2 : (!(Int.tmod x2 2 == 0)) = q := hq.symm
      have HQ := Lib.hid hq
      have HKT : Hid (keepR od (L.take (k + 1)) = keepR od (L.take k) ++ (if q != od then [(x1, x2)] else [])) := by
        show _ = _
        unfold keepR
        rw [List.take_succ_eq_append_getElem hkl.out, List.filter_append, ← EX.out, HQ.out]
        cases h : odB (x1, x2) <;> cases od <;> simp [h]
      have HLE : Hid ((keepR od (L.take k)).length ≤ 900) := by
        show _ ≤ _
        refine Nat.le_trans (List.length_filter_le _ _) ?_
        rw [List.length_take]; omega
      clear ex hx hq
      obtain ⟨av, cv, hv, _⟩ := HO.out.sl
      generalize hm0 : ((keepR od (L.take k)).map eX).length = m0 at hv
      have HM0 : Hid (m0 = (keepR od (L.take k)).length) := by show _ = _; rw [← hm0, List.length_map]
      subst hv
      clear hm0
      by_cases hqo : q = od
      · have HK2 : Hid (keepR od (L.take (k + 1)) = keepR od (L.take k)) := by show _ = _; rw [HKT.out, hqo]; simp
        subst hqo
        have hb2 : ((Int.tmod x2 2 != 0) == q) = true := by rw [show (Int.tmod x2 2 != 0) = q from hq2]; simp
        clear hq2
        go_wp2_with fail
        go_round
        case rel => exact ⟨k + 1, _, by omega, by go_num, rfl, by rw [HK2.out]; exact HO, by rw [HK2.out]; exact HV, HB⟩
        case measure => simp [intOf]; omega
      · have HK2 : Hid (keepR od (L.take (k + 1)) = keepR od (L.take k) ++ [(x1, x2)]) := by show _ = _; rw [HKT.out, if_pos (by simpa using hqo)]
        have hb2 : ((Int.tmod x2 2 != 0) == od) = false := by rw [show (Int.tmod x2 2 != 0) = q from hq2]; simpa using hqo
        have HA : Hid (OwnK (wr.alloc (.cells #[.int .i64 x1, .int .i64 x2] 27)) w.heap.size 27 2 (.slice av m0 cv) ((keepR od (L.take k)).map eX)) := HO.out.alloc _
        have HFR : Hid (Bk (wr.alloc (.cells #[.int .i64 x1, .int .i64 x2] 27)) wr.heap.size 27 #[.int .i64 x1, .int .i64 x2]) := Bk.fresh _ _ _
        have HB8 : Hid (((keepR od (L.take k)).map eX).length + [[Value.int .i64 x1, .int .i64 x2]].length ≤ maxLen) := by show _ ≤ _; rw [List.length_map]; have := HLE.out; show _ + 1 ≤ _; unfold maxLen; omega
        have HB9 : Hid ((((keepR od (L.take k)).map eX).length + [[Value.int .i64 x1, .int .i64 x2]].length) * 16 ≤ 140737488355328) := by show _ ≤ _; rw [List.length_map]; have := HLE.out; show (_ + 1) * 16 ≤ _; omega
        have HBA : Hid (∀ y ∈ [[Value.int .i64 x1, .int .i64 x2]], y.length = 2) := by intro y hy; simp only [List.mem_cons, List.not_mem_nil, or_false] at hy; subst hy; rfl
        have HSZ : Hid (w.heap.size ≤ (wr.alloc (.cells #[.int .i64 x1, .int .i64 x2] 27)).heap.size) := by show _ ≤ _; rw [World.size_alloc]; exact Nat.le_succ_of_le HB.out.size
        clear hq2 hqo
        go_wp2_with ((with_reducible refine append_ka _ rfl (.tmp 28) (.tmp 36) 30 rfl w.heap.size 27 _ 2 16 Try.underlying30 infoXP rfl (by omega) (.slice av m0 cv) _ rfl HA.out ⟨wr.heap.size, 0, none⟩ 1 1 [[.int .i64 x1, .int .i64 x2]] rfl (RdK.of_bk HFR.out) HBA.out oneXP rfl HB8.out HB9.out HSZ.out ?_); intro v6 w6 hO6 hg6 hat6; have HO6 := Lib.hid hO6; have HG6 := Lib.hid ((HB.out.alloc HB.out.size _).grown hg6 HSZ.out (fun i hi => HO.out.block i hi)); clear hO6 hg6 hat6)
        go_round
        case rel => exact ⟨k + 1, _, by omega, by go_num, rfl, by show OwnK _ _ _ _ _ _; rw [HK2.out, List.map_append]; exact HO6.out, fun e => absurd (HK2.out.symm.trans e) (by simp), HG6⟩
        case measure => simp [intOf]; omega
    · have hkE : k = n := by omega
      subst hkE
      have HTK : Hid (L.take k = L) := List.take_of_length_le (by rw [← HN.out]; exact Nat.le_refl _)
      rw [HTK.out] at HO HV
      obtain ⟨av, cv, hv, _⟩ := HO.out.sl
      rw [List.length_map] at hv
      obtain ⟨m0, hm0⟩ : ∃ m0, m0 = (keepR od L).length := ⟨_, rfl⟩
      rw [← hm0] at hv
      subst hv
      have HM0 := Lib.hid hm0
      have hmk : m0 ≤ k := by rw [hm0, HN.out]; exact List.length_filter_le _ _
      have hw : wrap64 ((k : Int) - (m0 : Int)) = (k : Int) - (m0 : Int) := by unfold wrap64; omega
      have f0 : wr.frozen? ⟨r, 0, none⟩ = false := (hR.out.bk.later HB.out).free 0
      clear hm0 hk hkn
      go_wp2_with fail
      have hfin := hR.out.laid (L' := keepR od L) HB.out HO.out HV.out
      obtain ⟨A', n', c', hv', hf1, hf2⟩ := hfin
      go_ret
      exact ⟨by rw [← HM0.out, ← HN.out]; rfl, ⟨A', n', c', hf1⟩, hf2⟩
end Go.Proofs.Ytkadcaihihgceaa
