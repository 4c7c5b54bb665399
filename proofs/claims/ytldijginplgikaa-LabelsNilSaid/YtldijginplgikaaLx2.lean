/- The document's index of labels: With. Condition: at most 1000 names. -/
import Derived.Test.YtldijginplgikaaLx1
import Derived.Test.YtldijginplgikaaLbs
namespace Go.Proofs.Ytldijginplgikaa
open Go.RowKit
set_option linter.unusedSimpArgs false
set_option linter.unusedVariables false

/-- The names that have these labels. -/
def withN (D : List NH) (ws : List Lb) : List ByteArray := (D.filter fun p => hasB p.2.l ws).map Prod.fst
theorem withN_take {D : List NH} {k : Nat} (hk : k < D.length) (ws : List Lb) {x : ByteArray} {t : Hd} (hx : (x, t) = D[k]) : withN (D.take (k + 1)) ws = if hasB t.l ws then withN (D.take k) ws ++ [x] else withN (D.take k) ws := by
  unfold withN
  rw [List.take_succ_eq_append_getElem hk, List.filter_append, List.map_append, ← hx, List.filter_cons]
  split
  · rfl
  · simp
theorem withN_len (D : List NH) (ws : List Lb) : (withN D ws).length ≤ D.length := by unfold withN; rw [List.length_map]; exact List.length_filter_le _ _
/-- Names that are told. -/
structure Nl (w0 wr : World) (ns : List ByteArray) (v : Value) : Prop where
  be : Below w0.heap.size w0 wr
  nm : OwnK wr w0.heap.size 9 1 v (cellsS ns)
theorem Nl.below {w0 wr w' : World} {ns : List ByteArray} {v : Value} (H : Nl w0 wr ns v) (hb : Below wr.heap.size wr w') : Nl w0 w' ns v := ⟨H.be.trans (hb.mono H.be.size), H.nm.below hb⟩
set_option maxHeartbeats 6400000 in
set_option maxRecDepth 100000 in
/-- The names with these labels. -/
theorem rwith_any (b r : Nat) (vN vA : Value) (D : List NH) (A0 : Option Addr) (n0 c0 : Nat) (l0 : List Lb) (w : World) (hbig : D.length ≤ 1000) (hu : Hid ((⟨A0, n0, c0, l0⟩ : Hd).Ok w)) (hD : Hid (∀ p ∈ D, p.2.Ok w)) (hR : Hid (Lx w b r vN vA D)) :
    Calls Try.prog 16 #[.pointer (some ⟨r, 0, none⟩), .slice A0 n0 c0] w fun e w' => (∃ A c, e = .returned (.slice A (withN D l0).length c) ∧ OwnK w' w.heap.size 9 1 (.slice A (withN D l0).length c) (cellsS (withN D l0))) ∧ Below w.heap.size w w' := by
  obtain ⟨N, hN⟩ : ∃ N, N = D.length := ⟨_, rfl⟩
  obtain ⟨A, c, hv, HRN, -, -⟩ := hR.out.nm.rds
  rw [List.length_map, ← hN] at hv
  subst hv
  obtain ⟨B, d, hv, HRV, -, -, -⟩ := hR.out.am.sl
  rw [cellsH_length, List.length_map, ← hN] at hv
  subst hv
  have HR1 := Lib.hid HRN
  have HR2 := Lib.hid HRV
  have HN := Lib.hid hN
  rw [← hN] at hbig
  have HBG := Lib.hid hbig
  clear hN HRN HRV hbig
  have KI : Hid (∀ (A : Option Addr) (n c : Nat) (l : List Lb) (W : World), Below w.heap.size w W → (⟨A, n, c, l⟩ : Hd).Ok w → Calls Try.prog 27 #[.slice A n c, .slice A0 n0 c0] W fun e w' => e = .returned (.bool (hasB l l0)) ∧ Below W.heap.size W w') := fun A n c l W hb h => by
    have h1 := h.later hb
    have h2 := hu.out.later hb
    exact rhas_any A A0 n c n0 c0 l l0 W (Lib.hid h1.ln) (Lib.hid h2.ln) (Lib.hid h1.rd) (Lib.hid h2.rd) h1.lc h1.cm h2.lc h2.cm
  have cr0 : w.cell? ⟨r, 0, none⟩ = some (.slice A N c) := hR.out.bk.cellAt 0
  have HS0 : Hid (Nl w w (withN (D.take 0) l0) (.slice none 0 0)) := ⟨Below.refl _ _, OwnK.nil _ _ _ _⟩
  go_enter Try.func16, Try.ntmps16
  go_wp2_with fail
  clear cr0
  go_loopw [12, 5] (fun s12 s5 wr => ∃ (k : Nat) (v : Value), k ≤ N ∧ s12 = .int .i64 k ∧ s5 = v ∧ Hid (Nl w wr (withN (D.take k) l0) v)) (fun s12 s5 wr => N - (intOf s12).toNat)
  case atStart => exact ⟨0, _, Nat.zero_le _, rfl, rfl, HS0⟩
  case round =>
    clear HS0
    obtain ⟨k, v, hk, rfl, h5, H⟩ := hrel
    obtain ⟨A1, c1, hv1, -, -, -⟩ := H.out.nm.rds
    obtain ⟨q, hq⟩ : ∃ q, q = (withN (D.take k) l0).length := ⟨_, rfl⟩
    rw [← hq] at hv1
    subst hv1
    subst h5
    have hqk : q ≤ k := by rw [hq]; exact Nat.le_trans (withN_len _ _) (by rw [List.length_take]; omega)
    have HQ := Lib.hid hq
    have cr : wr.cell? ⟨r, 0, none⟩ = some (.slice A N c) := (hR.out.bk.later H.out.be).cellAt 0
    have cr1 : wr.cell? ⟨r, 1, none⟩ = some (.slice B N d) := (hR.out.bk.later H.out.be).cellAt 1
    clear hq
    by_cases hlt : k < N
    · skip
      have hkl : Hid (k < D.length) := by show k < D.length; rw [← HN.out]; exact hlt
      obtain ⟨⟨x, ⟨t1, t2, t3, t4⟩⟩, ex⟩ : ∃ x, x = D[k]'hkl.out := ⟨_, rfl⟩
      obtain ⟨g, o, hA, hg, hxw⟩ := HR1.out.at (i := k) (by rw [List.length_map]; exact hkl.out)
      obtain ⟨g2, o2, hB, hg2, hx2⟩ := RdK.hd HR2.out (i := k) (by rw [List.length_map]; exact hkl.out)
      rw [List.getElem_map, ← ex] at hxw hx2
      subst hA hB
      have HX := Lib.hid ex
      have HXC : Hid (∀ W, Below w.heap.size w W → W.cell? ⟨g, o + k, none⟩ = some (.string x)) := fun W hb => (hb.cell (p := ⟨g, o + k, none⟩) hg).trans hxw
      have hwk : wrap64 ((k : Int) + 1) = ((k + 1 : Nat) : Int) := by have := HBG.out; unfold wrap64; omega
      have cx2 : wr.cell? ⟨g2, o2 + k, none⟩ = some (.slice t1 t2 t3) := (H.out.be.cell (p := ⟨g2, o2 + k, none⟩) hg2).trans hx2
      have HOK : Hid ((⟨t1, t2, t3, t4⟩ : Hd).Ok w) := by have := hD.out _ (List.getElem_mem hkl.out); rw [← ex] at this; exact this
      clear ex hx2 hxw hg hg2
      have HTK : Hid (withN (D.take (k + 1)) l0 = if hasB t4 l0 then withN (D.take k) l0 ++ [x] else withN (D.take k) l0) := withN_take hkl.out l0 HX.out
      have hki : (k : Int) < (N : Int) := by omega
      go_wp2_with fail
      refine (KI.out t1 t2 t3 t4 wr H.out.be HOK.out).mono ?_
      rintro e w2 ⟨rfl, hb2⟩
      have H2 := Lib.hid (H.out.below hb2)
      have cr2 : w2.cell? ⟨r, 0, none⟩ = some (.slice (some ⟨g, o, none⟩) N c) := (hR.out.bk.later H2.out.be).cellAt 0
      have hx : w2.cell? ⟨g, o + k, none⟩ = some (.string x) := HXC.out w2 H2.out.be
      clear H cx2 hb2 cr cr1 HXC HOK
      cases hf : hasB t4 l0 with
      | false =>
        have H3 : Hid (Nl w w2 (withN (D.take (k + 1)) l0) (.slice A1 q c1)) := by rw [HTK.out, hf]; exact H2.out
        clear H2 cr2 hx hqk hf
        go_wp2_with fail
        go_round
        case rel => exact ⟨k + 1, .slice A1 q c1, by omega, by go_num, rfl, H3⟩
        case measure =>
          rw [hwk]
          show N - ((k + 1 : Nat) : Int).toNat < N - ((k : Nat) : Int).toNat
          rw [Int.toNat_natCast, Int.toNat_natCast]; omega
      | true =>
        have HF := Lib.hid hf
        have HSZ : Hid (w.heap.size ≤ (w2.alloc (.cells #[.string x] 9)).heap.size) := by show _ ≤ _; have := H2.out.be.size; simp; omega
        have HOa := Lib.hid (H2.out.below ((Below.refl _ _).alloc (Nat.le_refl _) (.cells #[.string x] 9)))
        have hlen : (withN (D.take k) l0).length ≤ 1000 := by have := HBG.out; rw [← HQ.out]; omega
        have HX1 : Hid ((cellsS (withN (D.take k) l0)).length + (cellsS [x]).length ≤ maxLen) := by show _ ≤ _; rw [cellsS_length, cellsS_length]; simp only [List.length_cons, List.length_nil, maxLen]; omega
        have HX2 : Hid (((cellsS (withN (D.take k) l0)).length + (cellsS [x]).length) * 16 ≤ 140737488355328) := by show _ ≤ _; rw [cellsS_length, cellsS_length]; simp only [List.length_cons, List.length_nil]; omega
        clear hf hlen hqk
        go_wp2_with (first | ((with_reducible refine append_k _ rfl (.tmp 24) (.tmp 32) 28 rfl w.heap.size 9 _ 1 16 Try.underlying28 infoS rfl (by omega) (.slice A1 q c1) (cellsS (withN (D.take k) l0)) rfl HOa.out.nm ⟨w2.heap.size, 0, none⟩ 1 1 (cellsS [x]) rfl (RdK.of_bk (Bk.fresh _ _ _)) (cellsS_k _) (cellsS_one _) rfl HX1.out HX2.out HSZ.out ?_); intro v7 w7 hO7 hg7; rw [← cellsS_append] at hO7; have HO7 := Lib.hid hO7; have HG7 := Lib.hid hg7; clear hO7 hg7) | (with_reducible refine haltAt 33 rfl ?_))
        have H7 : Hid (Nl w w7 (withN (D.take (k + 1)) l0) v7) := by rw [HTK.out, HF.out]; exact ⟨HOa.out.be.grown HG7.out HOa.out.be.size fun k2 hk2 => HOa.out.nm.block k2 hk2, HO7.out⟩
        clear H2 cr2 hx HO7 HG7 HOa HSZ HX1 HX2
        go_round
        case rel => exact ⟨k + 1, v7, by omega, by go_num, rfl, H7⟩
        case measure =>
          rw [hwk]
          show N - ((k + 1 : Nat) : Int).toNat < N - ((k : Nat) : Int).toNat
          rw [Int.toNat_natCast, Int.toNat_natCast]; omega
    · have hkN : k = N := by omega
      subst hkN
      have hE : D.take k = D := by rw [HN.out, List.take_length]
      rw [hE] at H HQ
      clear hE hqk cr cr1
      go_wp2_with fail
      go_ret
      refine ⟨⟨A1, c1, by rw [← HQ.out]; rfl, ?_⟩, H.out.be⟩
      rw [← HQ.out]
      exact H.out.nm
end Go.Proofs.Ytldijginplgikaa
