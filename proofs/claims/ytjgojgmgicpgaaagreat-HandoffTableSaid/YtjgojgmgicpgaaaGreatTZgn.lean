/- A generation over a blank scheduler, either one; what transferring makes of it. No condition. -/
import Derived.Test.YtjgojgmgicpgaaaGreatTQ08
import Derived.Test.YtjgojgmgicpgaaaGreatTZg4
import Derived.Test.YtjgojgmgicpgaaaGreatTZha
namespace Go.Proofs.YtjgojgmgicpgaaaGreat
open Go.RowKit
set_option linter.unusedSimpArgs false
set_option linter.unusedVariables false

/-- Generation i over a blank scheduler, none of whose blocks is c. -/
def Gn (w : World) (c : Nat) (i : Int) (v : Value) : Prop :=
  (i = 1 ∧ ∃ b g vM vQ vJ, v = v1 g ∧ Gs w b g 0 vM vQ vJ Sg.new ∧ ∀ k, blkG g vM vQ vJ Sg.new k → k ≠ c) ∨ (i = 2 ∧ ∃ b g, v = v2 g ∧ Z2 w b g ∧ c < b)
theorem Gn.later {w w' : World} {c : Nat} {i : Int} {v : Value} (h : Gn w c i v) (hb : Below w.heap.size w w') : Gn w' c i v := by
  rcases h with ⟨hi, b, g, vM, vQ, vJ, hv, hG, hn⟩ | ⟨hi, b, g, hv, hZ, hn⟩
  · exact .inl ⟨hi, b, g, vM, vQ, vJ, hv, hG.below hb, hn⟩
  · exact .inr ⟨hi, b, g, hv, hZ.later hb, hn⟩
theorem Gn.grown {w w' : World} {c : Nat} {i : Int} {v : Value} (h : Gn w c i v) (hg : w.grownBy w' (some c)) : Gn w' c i v := by
  rcases h with ⟨hi, b, g, vM, vQ, vJ, hv, hG, hn⟩ | ⟨hi, b, g, hv, hZ, hn⟩
  · exact .inl ⟨hi, b, g, vM, vQ, vJ, hv, hG.grp (GrP.of hg) (fun k hk e => by injection e with e; exact hn k hk e.symm), hn⟩
  · exact .inr ⟨hi, b, g, hv, hZ.grown hg hn, hn⟩
theorem Gn.iface {w : World} {c : Nat} {i : Int} {v : Value} (h : Gn w c i v) : ∃ T u, v = .iface T u := by
  rcases h with ⟨hi, b, g, vM, vQ, vJ, hv, hG, hn⟩ | ⟨hi, b, g, hv, hZ, hn⟩
  · exact ⟨_, _, hv⟩
  · exact ⟨_, _, hv⟩
set_option maxHeartbeats 12800000 in
set_option maxRecDepth 100000 in
theorem enc1_n (b g : Nat) (vM vQ vJ : Value) (w : World) (h : Gs w b g 0 vM vQ vJ Sg.new) : Calls Tryz.prog 521 #[.agg #[.pointer (some ⟨g, 0, none⟩)]] w fun e w' => (∃ A N c, e = .returned (.tuple #[.slice A N c, .int .i64 0]) ∧ N = e1B.length ∧ Rd w' A e1B ∧ N ≤ c ∧ c ≤ 9223372036854775807) ∧ Below w.heap.size w w' := by
  have hL : Below w.heap.size w (w.alloc (.cells #[.pointer (some ⟨g, 0, none⟩)] 148)) := (Below.refl _ _).alloc (Nat.le_refl _) _
  have HZ0 := Lib.hid (Gs.below h hL)
  have Hb0 := Lib.hid hL
  clear h hL
  go_enter Tryz.func521, Tryz.ntmps521
  go_wp2_with fail
  refine (gz_state b g vM vQ vJ _ HZ0.out).mono ?_
  rintro e w1 ⟨⟨v', rfl, hv⟩, hb1⟩
  have HV := Lib.hid hv
  have Hb1 := Lib.hid (bclose Hb0.out hb1)
  clear hv hb1 HZ0 Hb0
  go_wp2_with fail
  refine (encode1_z HV.out _).mono ?_
  rintro e w2 ⟨⟨A, N, c, rfl, h1⟩, hb2⟩
  have HE := Lib.hid h1
  have Hb2 := Lib.hid (bclose Hb1.out hb2)
  clear h1 hb2
  go_wp2_with fail
  first | go_ret | go_ret2 | go_returns
  exact ⟨⟨_, _, _, rfl, HE.out⟩, Hb2.out⟩
set_option maxHeartbeats 12800000 in
set_option maxRecDepth 100000 in
theorem enc2_n (b g : Nat) (w : World) (h : Z2 w b g) : Calls Tryz.prog 523 #[.agg #[.pointer (some ⟨g, 0, none⟩)]] w fun e w' => (∃ A N c, e = .returned (.tuple #[.slice A N c, .int .i64 0]) ∧ N = e2B.length ∧ Rd w' A e2B ∧ N ≤ c ∧ c ≤ 9223372036854775807) ∧ Below w.heap.size w w' := by
  have hL : Below w.heap.size w (w.alloc (.cells #[.pointer (some ⟨g, 0, none⟩)] 331)) := (Below.refl _ _).alloc (Nat.le_refl _) _
  have HZ0 := Lib.hid (h.later hL)
  have Hb0 := Lib.hid hL
  clear h hL
  go_enter Tryz.func523, Tryz.ntmps523
  go_wp2_with fail
  refine (g2state_z b g _ HZ0.out).mono ?_
  rintro e w1 ⟨⟨v', rfl, hv⟩, hb1⟩
  have HV := Lib.hid hv
  have Hb1 := Lib.hid (bclose Hb0.out hb1)
  clear hv hb1 HZ0 Hb0
  go_wp2_with fail
  refine (encode2_z HV.out _).mono ?_
  rintro e w2 ⟨⟨A, N, c, rfl, h1⟩, hb2⟩
  have HE := Lib.hid h1
  have Hb2 := Lib.hid (bclose Hb1.out hb2)
  clear h1 hb2
  go_wp2_with fail
  first | go_ret | go_ret2 | go_returns
  exact ⟨⟨_, _, _, rfl, HE.out⟩, Hb2.out⟩
set_option maxHeartbeats 12800000 in
set_option maxRecDepth 100000 in
theorem load1_n (w : World) : Calls Tryz.prog 199 #[.agg #[.int .i64 0, .int .i64 1, .slice none 0 0, .slice none 0 0, .slice none 0 0]] w fun e w' => (∃ g vM vQ vJ, e = .returned (.tuple #[v1 g, .int .i64 0]) ∧ Gs w' w.heap.size g 0 vM vQ vJ Sg.new) ∧ Below w.heap.size w w' := by
  have HX0 : Hid (Bk (w.alloc (.cells #[.int .i64 0, .int .i64 1, .slice none 0 0, .slice none 0 0, .slice none 0 0] 26)) w.heap.size 26 #[.int .i64 0, .int .i64 1, .slice none 0 0, .slice none 0 0, .slice none 0 0]) := Bk.fresh _ _ _
  have Hb0 : Hid (Below w.heap.size w (w.alloc (.cells #[.int .i64 0, .int .i64 1, .slice none 0 0, .slice none 0 0, .slice none 0 0] 26))) := (Below.refl _ _).alloc (Nat.le_refl _) _
  go_enter Tryz.func199, Tryz.ntmps199
  go_wp2_with (with_reducible refine load_bk rfl 26 _ rfl w.heap.size 0 rfl 26 #[.int .i64 0, .int .i64 1, .slice none 0 0, .slice none 0 0, .slice none 0 0] #[.int .i64 0, .int .i64 1, .slice none 0 0, .slice none 0 0, .slice none 0 0] _ HX0.out (Part.whole _) Tryz.underlying26 rfl (by kernel_rfl) ?_)
  refine (g1load_z ZSt.nil _).mono ?_
  rintro e w1 ⟨⟨g, vM, vQ, vJ, rfl, hZ⟩, hb1⟩
  have HZ := Lib.hid (hZ.base Hb0.out.size)
  have Hb1 := Lib.hid (bclose Hb0.out hb1)
  clear hZ hb1
  go_wp2_with fail
  first | go_ret | go_ret2 | go_returns
  exact ⟨⟨g, vM, vQ, vJ, rfl, HZ.out⟩, Hb1.out⟩
set_option maxHeartbeats 12800000 in
set_option maxRecDepth 100000 in
theorem load2_n (w : World) : Calls Tryz.prog 200 #[.agg #[.int .i64 0, .int .i64 1, .slice none 0 0, .slice none 0 0, .slice none 0 0]] w fun e w' => (∃ g, e = .returned (.tuple #[v2 g, .int .i64 0]) ∧ Z2 w' w.heap.size g) ∧ Below w.heap.size w w' := by
  have HX0 : Hid (Bk (w.alloc (.cells #[.int .i64 0, .int .i64 1, .slice none 0 0, .slice none 0 0, .slice none 0 0] 26)) w.heap.size 26 #[.int .i64 0, .int .i64 1, .slice none 0 0, .slice none 0 0, .slice none 0 0]) := Bk.fresh _ _ _
  have Hb0 : Hid (Below w.heap.size w (w.alloc (.cells #[.int .i64 0, .int .i64 1, .slice none 0 0, .slice none 0 0, .slice none 0 0] 26))) := (Below.refl _ _).alloc (Nat.le_refl _) _
  go_enter Tryz.func200, Tryz.ntmps200
  go_wp2_with (with_reducible refine load_bk rfl 26 _ rfl w.heap.size 0 rfl 26 #[.int .i64 0, .int .i64 1, .slice none 0 0, .slice none 0 0, .slice none 0 0] #[.int .i64 0, .int .i64 1, .slice none 0 0, .slice none 0 0, .slice none 0 0] _ HX0.out (Part.whole _) Tryz.underlying26 rfl (by kernel_rfl) ?_)
  refine (g2load_zz ZSt.nil _).mono ?_
  rintro e w1 ⟨⟨g, rfl, hZ⟩, hb1⟩
  have HZ := Lib.hid (hZ.base Hb0.out.size)
  have Hb1 := Lib.hid (bclose Hb0.out hb1)
  clear hZ hb1
  go_wp2_with fail
  first | go_ret | go_ret2 | go_returns
  exact ⟨⟨g, rfl, HZ.out⟩, Hb1.out⟩
set_option maxHeartbeats 12800000 in
set_option maxRecDepth 100000 in
theorem dec1_n (A : Option Addr) (n c : Nat) (w : World) (hn : Hid (n = e1B.length)) (hr : Hid (Rd w A e1B)) (hc : n ≤ c) (hc2 : c ≤ 9223372036854775807) : Calls Tryz.prog 90 #[.slice A n c] w fun e w' => (∃ g vM vQ vJ, e = .returned (.tuple #[v1 g, .int .i64 0]) ∧ Gs w' w.heap.size g 0 vM vQ vJ Sg.new) ∧ Below w.heap.size w w' := by
  have K := Lib.hid (decode1_z A n c w hn hr hc hc2)
  clear hn hr hc hc2
  go_enter Tryz.func90, Tryz.ntmps90
  go_wp2_with fail
  refine K.out.mono ?_
  rintro e w1 ⟨rfl, hb1⟩
  have Hb1 := Lib.hid hb1
  clear hb1 K
  go_wp2_with (first | ((with_reducible refine store_bk rfl 26 (.tmp 4) (.tmp 10) rfl w1.heap.size 0 #[.int .i64 0, .int .i64 1, .slice none 0 0, .slice none 0 0, .slice none 0 0] rfl rfl 26 _ #[.int .i64 0, .int .i64 1, .slice none 0 0, .slice none 0 0, .slice none 0 0] (Bk.fresh _ _ _) (by kernel_rfl) (by simp) (by kernel_rfl) rfl ?_); intro w2 hB hG hs; obtain ⟨p4, hp4⟩ : ∃ r, r = w1.heap.size := ⟨_, rfl⟩; have HL2 : Hid (Below w1.heap.size w1 w2) := ((Below.refl _ _).alloc (Nat.le_refl _) _).grown hG (by simp) (by intro k e; injection e with e; omega); rw [← hp4] at hB ⊢; have HS2 := Lib.hid hB; have HB2 := Lib.hid (bclose Hb1.out HL2.out); clear hB hG hs hp4) | (with_reducible refine load_bk rfl 26 _ rfl p4 0 rfl 26 #[.int .i64 0, .int .i64 1, .slice none 0 0, .slice none 0 0, .slice none 0 0] #[.int .i64 0, .int .i64 1, .slice none 0 0, .slice none 0 0, .slice none 0 0] _ HS2.out (Part.whole _) Tryz.underlying26 rfl (by kernel_rfl) ?_))
  refine (load1_n _).mono ?_
  rintro e w3 ⟨⟨g, vM, vQ, vJ, rfl, hZ⟩, hb3⟩
  have HZ := Lib.hid (hZ.base HB2.out.size)
  have HB3 := Lib.hid (bclose HB2.out hb3)
  clear hZ hb3
  go_wp2_with fail
  first | go_ret | go_ret2 | go_returns
  exact ⟨⟨g, vM, vQ, vJ, rfl, HZ.out⟩, HB3.out⟩
set_option maxHeartbeats 12800000 in
set_option maxRecDepth 100000 in
theorem dec2_n (A : Option Addr) (n c : Nat) (w : World) (hn : Hid (n = e2B.length)) (hr : Hid (Rd w A e2B)) (hc : n ≤ c) (hc2 : c ≤ 9223372036854775807) : Calls Tryz.prog 90 #[.slice A n c] w fun e w' => (∃ g, e = .returned (.tuple #[v2 g, .int .i64 0]) ∧ Z2 w' w.heap.size g) ∧ Below w.heap.size w w' := by
  have K := Lib.hid (decode2_z A n c w hn hr hc hc2)
  clear hn hr hc hc2
  go_enter Tryz.func90, Tryz.ntmps90
  go_wp2_with fail
  refine K.out.mono ?_
  rintro e w1 ⟨rfl, hb1⟩
  have Hb1 := Lib.hid hb1
  clear hb1 K
  go_wp2_with (first | ((with_reducible refine store_bk rfl 26 (.tmp 4) (.tmp 10) rfl w1.heap.size 0 #[.int .i64 0, .int .i64 1, .slice none 0 0, .slice none 0 0, .slice none 0 0] rfl rfl 26 _ #[.int .i64 0, .int .i64 1, .slice none 0 0, .slice none 0 0, .slice none 0 0] (Bk.fresh _ _ _) (by kernel_rfl) (by simp) (by kernel_rfl) rfl ?_); intro w2 hB hG hs; obtain ⟨p4, hp4⟩ : ∃ r, r = w1.heap.size := ⟨_, rfl⟩; have HL2 : Hid (Below w1.heap.size w1 w2) := ((Below.refl _ _).alloc (Nat.le_refl _) _).grown hG (by simp) (by intro k e; injection e with e; omega); rw [← hp4] at hB ⊢; have HS2 := Lib.hid hB; have HB2 := Lib.hid (bclose Hb1.out HL2.out); clear hB hG hs hp4) | (with_reducible refine load_bk rfl 26 _ rfl p4 0 rfl 26 #[.int .i64 0, .int .i64 1, .slice none 0 0, .slice none 0 0, .slice none 0 0] #[.int .i64 0, .int .i64 1, .slice none 0 0, .slice none 0 0, .slice none 0 0] _ HS2.out (Part.whole _) Tryz.underlying26 rfl (by kernel_rfl) ?_))
  refine (load2_n _).mono ?_
  rintro e w3 ⟨⟨g, rfl, hZ⟩, hb3⟩
  have HZ := Lib.hid (hZ.base HB2.out.size)
  have HB3 := Lib.hid (bclose HB2.out hb3)
  clear hZ hb3
  go_wp2_with fail
  first | go_ret | go_ret2 | go_returns
  exact ⟨⟨g, rfl, HZ.out⟩, HB3.out⟩
set_option maxHeartbeats 12800000 in
set_option maxRecDepth 100000 in
theorem tr1_n (b g : Nat) (vM vQ vJ : Value) (w : World) (h : Gs w b g 0 vM vQ vJ Sg.new) : Calls Tryz.prog 91 #[v1 g] w fun e w' => (∃ g', e = .returned (.tuple #[v2 g', .int .i64 0]) ∧ Z2 w' w.heap.size g') ∧ Below w.heap.size w w' := by
  have K := Lib.hid (enc1_n b g vM vQ vJ w h)
  clear h
  go_enter Tryz.func91, Tryz.ntmps91
  go_wp2_with fail
  refine K.out.mono ?_
  rintro e w1 ⟨⟨A, N, c, rfl, h1, h2, h3, h4⟩, hb1⟩
  have Hb1 := Lib.hid hb1
  have K2 := Lib.hid (trans1_z A N c w1 (Lib.hid h1) (Lib.hid h2) h3 h4)
  clear hb1 K h1 h2 h3 h4
  go_wp2_with fail
  refine K2.out.mono ?_
  rintro e w2 ⟨⟨A2, N2, c2, rfl, h1, h2, h3, h4⟩, hb2⟩
  have Hb2 := Lib.hid (bclose Hb1.out hb2)
  have K3 := Lib.hid (dec2_n A2 N2 c2 w2 (Lib.hid h1) (Lib.hid h2) h3 h4)
  clear hb2 K2 h1 h2 h3 h4
  go_wp2_with fail
  refine K3.out.mono ?_
  rintro e w3 ⟨⟨g', rfl, hZ⟩, hb3⟩
  have HZ := Lib.hid (hZ.base Hb2.out.size)
  have Hb3 := Lib.hid (bclose Hb2.out hb3)
  clear hZ hb3 K3
  go_wp2_with fail
  first | go_ret | go_ret2 | go_returns
  exact ⟨⟨g', rfl, HZ.out⟩, Hb3.out⟩
set_option maxHeartbeats 12800000 in
set_option maxRecDepth 100000 in
theorem tr2_n (b g : Nat) (w : World) (h : Z2 w b g) : Calls Tryz.prog 91 #[v2 g] w fun e w' => (∃ g' vM vQ vJ, e = .returned (.tuple #[v1 g', .int .i64 0]) ∧ Gs w' w.heap.size g' 0 vM vQ vJ Sg.new) ∧ Below w.heap.size w w' := by
  have K := Lib.hid (enc2_n b g w h)
  clear h
  go_enter Tryz.func91, Tryz.ntmps91
  go_wp2_with fail
  refine K.out.mono ?_
  rintro e w1 ⟨⟨A, N, c, rfl, h1, h2, h3, h4⟩, hb1⟩
  have Hb1 := Lib.hid hb1
  have K2 := Lib.hid (trans2_z A N c w1 (Lib.hid h1) (Lib.hid h2) h3 h4)
  clear hb1 K h1 h2 h3 h4
  go_wp2_with fail
  refine K2.out.mono ?_
  rintro e w2 ⟨⟨A2, N2, c2, rfl, h1, h2, h3, h4⟩, hb2⟩
  have Hb2 := Lib.hid (bclose Hb1.out hb2)
  have K3 := Lib.hid (dec1_n A2 N2 c2 w2 (Lib.hid h1) (Lib.hid h2) h3 h4)
  clear hb2 K2 h1 h2 h3 h4
  go_wp2_with fail
  refine K3.out.mono ?_
  rintro e w3 ⟨⟨g', vM, vQ, vJ, rfl, hZ⟩, hb3⟩
  have HZ := Lib.hid (hZ.base Hb2.out.size)
  have Hb3 := Lib.hid (bclose Hb2.out hb3)
  clear hZ hb3 K3
  go_wp2_with fail
  first | go_ret | go_ret2 | go_returns
  exact ⟨⟨g', vM, vQ, vJ, rfl, HZ.out⟩, Hb3.out⟩
theorem tr_n (c : Nat) (i : Int) (v : Value) (w : World) (h : Gn w c i v) (hc : c < w.heap.size) : Calls Tryz.prog 91 #[v] w fun e w' => (∃ v', e = .returned (.tuple #[v', .int .i64 0]) ∧ Gn w' c (3 - i) v') ∧ Below w.heap.size w w' := by
  rcases h with ⟨rfl, b, g, vM, vQ, vJ, rfl, hG, hn⟩ | ⟨rfl, b, g, rfl, hZ, hn⟩
  · refine (tr1_n b g vM vQ vJ w hG).mono ?_
    rintro e w' ⟨⟨g', rfl, hZ⟩, hb⟩
    exact ⟨⟨_, rfl, .inr ⟨rfl, _, g', rfl, hZ, hc⟩⟩, hb⟩
  · refine (tr2_n b g w hZ).mono ?_
    rintro e w' ⟨⟨g', vM, vQ, vJ, rfl, hG⟩, hb⟩
    exact ⟨⟨_, rfl, .inl ⟨rfl, _, g', vM, vQ, vJ, rfl, hG, fun k hk => by have := (hG.blk hk).1; omega⟩⟩, hb⟩
end Go.Proofs.YtjgojgmgicpgaaaGreat
