/- awake; Push, Remove, Sorted of a nil heap; Sorted, whatever the order. No condition. -/
import Derived.Test.YtkadcaihihgceaaHpa
namespace Go.Proofs.Ytkadcaihihgceaa
open Go.RowKit
set_option linter.unusedSimpArgs false
set_option linter.unusedVariables false
set_option maxHeartbeats 1600000 in
set_option maxRecDepth 100000 in
theorem pushP_nil (x : Px) (w : World) : Calls Try.prog 11 #[.pointer none, vP x] w fun e w' => e = .returned (.tuple #[]) ∧ Below w.heap.size w w' := by
  go_enter Try.func11, Try.ntmps11
  go_wp2_with fail
  first | go_end0 | refine bodyPost_ret (results_none rfl _ _ _) rfl ?_
  exact ⟨rfl, (Below.refl _ _).alloc (Nat.le_refl _) _⟩
set_option maxHeartbeats 1600000 in
set_option maxRecDepth 100000 in
theorem remP_nil (G : FuncId) (w : World) : Calls Try.prog 16 #[.pointer none, .func (.func G) #[] #[]] w fun e w' => e = .returned (.int .i64 0) ∧ Below w.heap.size w w' := by
  go_enter Try.func16, Try.ntmps16
  go_wp2_with fail
  refine (lenP_nil _).mono ?_; rintro e w1 ⟨rfl, hw1⟩; rw [hw1]; clear hw1 w1
  go_wp2_with fail
  go_ret
  exact ⟨rfl, (Below.refl _ _).alloc (Nat.le_refl _) _⟩
set_option maxHeartbeats 1600000 in
set_option maxRecDepth 100000 in
theorem sortedP_nil (w : World) : Calls Try.prog 21 #[.pointer none] w fun e w' => e = .returned (.slice none 0 0) ∧ Below w.heap.size w w' := by
  go_enter Try.func21, Try.ntmps21
  go_wp2_with fail
  refine (lenP_nil _).mono ?_; rintro e w1 ⟨rfl, hw1⟩; rw [hw1]; clear hw1 w1
  go_wp2_with fail
  go_ret
  exact ⟨rfl, Below.refl _ _⟩
abbrev fLess : Value := .func (.func 10) #[] #[]
theorem isLess_P : IsOP fLess ltP := ⟨rfl, rfl⟩
set_option maxHeartbeats 6400000 in
set_option maxRecDepth 100000 in
theorem awake16_any (w : World) : Calls Try.prog 8 #[] w fun e w' => e = .returned (.bool true) ∧ Below w.heap.size w w' := by
  have K1 := Lib.hid (fun (W : World) => newP_any fLess ltP W isLess_P)
  have K2 := Lib.hid (fun (W : World) (b h : Nat) (v : Value) (m : Int) (l B : List (Px × Int)) (x : Px) (hl : l.length ≤ 900) (hm0 : 0 ≤ m) (hm1 : m ≤ 1000000) (H : HpP W b h fLess v m l) (A : Hol ltP m l B) => pushP_any b h fLess v m l B ltP x W hl hm0 hm1 isLess_P ltP_ok (Lib.hid H) (Lib.hid A))
  have K3 := Lib.hid (fun (W : World) (b h : Nat) (v : Value) (m M : Int) (l B : List (Px × Int)) (x : Px × Int) (hl : l.length ≤ 1000) (H : HpP W b h fLess v m l) (A : Hol ltP M l (x :: B)) => popP_some b h fLess v m M l B ltP x W hl isLess_P ltP_ok (Lib.hid H) (Lib.hid A))
  have K4 := Lib.hid (fun (W : World) (b h : Nat) (v : Value) (m : Int) (l : List (Px × Int)) (H : HpP W b h fLess v m l) => lenP_any b h fLess v m l W (Lib.hid H))
  go_enter Try.func8, Try.ntmps8
  go_wp2_with fail
  refine (K1.out _).mono ?_; rintro e w1 ⟨rfl, hp1, hb1⟩
  obtain ⟨h, hh⟩ : ∃ h, h = w.heap.size := ⟨_, rfl⟩
  rw [← hh] at hp1 ⊢
  have H1 := Lib.hid hp1; have HB1 := Lib.hid hb1
  clear hp1 hb1
  have HH := Lib.hid hh
  clear hh
  go_wp2_with fail
  refine (K2.out w1 h h _ 0 [] [] (3, 0) (by simp) (by omega) (by omega) H1.out (Hol.nil _ _)).mono ?_
  rintro e w2 ⟨rfl, l2, ⟨⟨v2, hp2, hn2⟩, hg2⟩, ho2⟩
  have H2 := Lib.hid hp2; have HO2 := Lib.hid ho2; have HG2 := Lib.hid hg2
  clear hp2 hn2 hg2 ho2
  go_wp2_with fail
  refine (K2.out w2 h h v2 1 l2 [((3, 0), 0)] (1, 0) (by rw [HO2.out.len]; simp [insL]) (by omega) (by omega) H2.out HO2.out).mono ?_
  rintro e w3 ⟨rfl, l3, ⟨⟨v3, hp3, hn3⟩, hg3⟩, ho3⟩
  have H3 := Lib.hid hp3; have HG3 := Lib.hid hg3
  have HO3 : Hid (Hol ltP 2 l3 [((1, 0), 1), ((3, 0), 0)]) := ho3
  clear hp3 hn3 hg3 ho3
  go_wp2_with fail
  refine (K3.out w3 h h v3 2 2 l3 [((3, 0), 0)] ((1, 0), 1) (by rw [HO3.out.len]; simp) H3.out HO3.out).mono ?_
  rintro e w4 ⟨rfl, l4, ⟨⟨v4, hp4, hn4⟩, hg4⟩, ho4⟩
  have HB4 : Hid (Below w.heap.size w w4) := by
    have b1 := HB1.out
    have b2 := HG2.out.below (B := w.heap.size) b1.size (fun k hk => by rw [← HH.out]; exact (H1.out.blk hk).1)
    have b3 := HG3.out.below (B := w.heap.size) (b1.trans b2).size (fun k hk => by rw [← HH.out]; exact (H2.out.blk hk).1)
    have b4 := hg4.below (B := w.heap.size) ((b1.trans b2).trans b3).size (fun k hk => by rw [← HH.out]; exact (H3.out.blk hk).1)
    exact ((b1.trans b2).trans b3).trans b4
  have H4 : Hid (HpP (w4.alloc (.cells #[.int .i64 1, .int .i64 0] 27)) h h fLess v4 2 l4) := hp4.below ((Below.refl _ _).alloc (Nat.le_refl _) _)
  have HL4 : Hid (l4.length = 1) := by show _ = _; rw [ho4.len]; rfl
  clear hp4 hn4 hg4 ho4 H1 H2 H3 HG2 HG3 HO2 HO3
  go_wp2_with fail
  refine (K4.out _ h h v4 2 l4 H4.out).mono ?_
  rintro e w5 ⟨rfl, hw5⟩; rw [hw5, HL4.out]; clear hw5 w5
  go_wp2_with fail
  go_ret
  exact ⟨rfl, HB4.out.alloc HB4.out.size _⟩
end Go.Proofs.Ytkadcaihihgceaa
