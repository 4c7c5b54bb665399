/- The size tests of layer 18's laws: what is known when they are passed. No condition. -/
import Derived.Test.YtldijginplgikaaLop
import Derived.BigQuiet
import Derived.Deep.QuietTactic
import Derived.Handy
namespace Go.Proofs.Ytldijginplgikaa
open Go.RowKit
set_option linter.unusedSimpArgs false
set_option linter.unusedVariables false

/-- A test has returned; if it is passed, so it is. -/
def RetIf (e : Ending) (p : Prop) : Prop := ∃ b : Bool, e = .returned (.bool b) ∧ (b = true → p)
set_option maxHeartbeats 3200000 in
set_option maxRecDepth 100000 in
theorem small18_any (A : Option Addr) (n c : Nat) (l : List Lb) (w : World) (hn : Hid (n = l.length)) (hr : Hid (RdL w A l)) : Calls Try.prog 18 #[.slice A n c] w fun e w' => RetIf e (n ≤ 30) ∧ Below w.heap.size w w' := by
  by_cases h1 : n ≤ 30
  case neg =>
    have hni : (30 : Int) < (n : Int) := by omega
    go_enter Try.func18, Try.ntmps18
    go_wp2_with fail
    go_ret
    exact ⟨⟨false, rfl, fun h => by cases h⟩, Below.refl _ _⟩
  have hni : ¬ (30 : Int) < (n : Int) := by omega
  have H1 := Lib.hid h1
  clear h1
  go_enter Try.func18, Try.ntmps18
  go_wp2_with fail
  clear hni
  go_loopw [9] (fun s9 wr => ∃ k : Nat, k ≤ n ∧ s9 = .int .i64 k ∧ Hid (Below w.heap.size w wr)) (fun s9 wr => n - (intOf s9).toNat)
  case atStart => exact ⟨0, Nat.zero_le _, rfl, Below.refl _ _⟩
  case round =>
    obtain ⟨k, hk, rfl, HB⟩ := hrel
    by_cases hlt : k < n
    · have hl : Hid (k < l.length) := by show _ < _; rw [← hn.out]; exact hlt
      obtain ⟨g, o, rfl, hg, c1, c2⟩ := (hr.out.later HB.out).at hl.out
      obtain ⟨⟨x1, x2⟩, ex⟩ : ∃ x, x = l[k]'hl.out := ⟨_, rfl⟩
      rw [← ex] at c1 c2
      have hwk : wrap64 ((k : Int) + 1) = ((k + 1 : Nat) : Int) := by have := H1.out; unfold wrap64; omega
      clear ex
      obtain ⟨d, hd⟩ : ∃ d, d = decide ((1000 : Int) < wrap64 ((x1.size : Int) + (x2.size : Int))) := ⟨_, rfl⟩
      have HD := Lib.hid hd
      clear hd
      go_wp2_with fail
      go_quiet (fail)
      rw [← HD.out]
      obtain ⟨w6, hW⟩ : ∃ W, W = wr.drewN nq := ⟨_, rfl⟩
      have hb6 : Hid (Below w.heap.size w w6) := by rw [hW]; exact bdrewN HB.out _
      rw [← hW]
      clear hW c1 c2 HB HD
      cases d with
      | true =>
        go_wp2_with fail
        go_ret
        exact ⟨⟨false, rfl, fun h => by cases h⟩, hb6.out⟩
      | false =>
        go_wp2_with fail
        go_round
        case rel => exact ⟨k + 1, by omega, by go_num, hb6⟩
        case measure =>
          rw [hwk]
          show n - ((k + 1 : Nat) : Int).toNat < n - ((k : Nat) : Int).toNat
          rw [Int.toNat_natCast, Int.toNat_natCast]; omega
    · clear hk
      go_wp2_with fail
      go_ret
      exact ⟨⟨true, rfl, fun _ => H1.out⟩, HB.out⟩
set_option maxHeartbeats 3200000 in
set_option maxRecDepth 100000 in
theorem few18_any (A : Option Addr) (n c : Nat) (l : List Oh) (w : World) (hn : Hid (n = l.length)) (hr : Hid (RdK w 3 A (l.map eO))) (ho : Hid (∀ x ∈ l, x.h.Ok w)) : Calls Try.prog 8 #[.slice A n c] w fun e w' => RetIf e (n ≤ 200 ∧ ∀ x ∈ l, x.h.n ≤ 30) ∧ Below w.heap.size w w' := by
  by_cases h1 : n ≤ 200
  case neg =>
    have hni : (200 : Int) < (n : Int) := by omega
    go_enter Try.func8, Try.ntmps8
    go_wp2_with fail
    go_ret
    exact ⟨⟨false, rfl, fun h => by cases h⟩, Below.refl _ _⟩
  have hni : ¬ (200 : Int) < (n : Int) := by omega
  have H1 := Lib.hid h1
  have KS := Lib.hid (fun (W : World) (A : Option Addr) (n c : Nat) (l : List Lb) (h1 : n = l.length) (h2 : RdL W A l) => small18_any A n c l W (Lib.hid h1) (Lib.hid h2))
  clear h1
  go_enter Try.func8, Try.ntmps8
  go_wp2_with fail
  clear hni
  go_loopw [9] (fun s9 wr => ∃ k : Nat, k ≤ n ∧ s9 = .int .i64 k ∧ Hid (Below w.heap.size w wr) ∧ Hid (∀ x ∈ l.take k, x.h.n ≤ 30)) (fun s9 wr => n - (intOf s9).toNat)
  case atStart => exact ⟨0, Nat.zero_le _, rfl, Below.refl _ _, fun x hx => by simp at hx⟩
  case round =>
    obtain ⟨k, hk, rfl, HB, HS⟩ := hrel
    by_cases hlt : k < n
    · have hl : Hid (k < l.length) := by show _ < _; rw [← hn.out]; exact hlt
      obtain ⟨⟨kd, s, ⟨a0, n0, c0, l0⟩⟩, ex⟩ : ∃ x, x = l[k]'hl.out := ⟨_, rfl⟩
      obtain ⟨g, o, rfl, hr2⟩ := (hr.out.later HB.out) k (eO (l[k]'hl.out)) (by rw [List.getElem?_map, List.getElem?_eq_getElem hl.out]; rfl)
      have HOK : Hid ((⟨a0, n0, c0, l0⟩ : Hd).Ok wr) := by have := ho.out _ (List.getElem_mem hl.out); rw [← ex] at this; exact this.later HB.out
      rw [← ex] at hr2
      have HX := Lib.hid ex
      have c1 : wr.cell? ⟨g, o + k * 3 + 1, none⟩ = some (.string s) := by simpa using hr2 1 _ rfl
      have c2 : wr.cell? ⟨g, o + k * 3 + 2, none⟩ = some (.slice a0 n0 c0) := by simpa using hr2 2 _ rfl
      have hwk : wrap64 ((k : Int) + 1) = ((k + 1 : Nat) : Int) := by have := H1.out; unfold wrap64; omega
      clear ex hr2
      by_cases hs : (1000 : Int) < (s.size : Int)
      · go_wp2_with fail
        go_ret
        exact ⟨⟨false, rfl, fun h => by cases h⟩, HB.out⟩
      · go_wp2_with fail
        refine (KS.out wr a0 n0 c0 l0 HOK.out.ln HOK.out.rd).mono ?_
        rintro e w6 ⟨⟨b, rfl, hb⟩, hb6⟩
        have HB6 : Hid (Below w.heap.size w w6) := HB.out.trans (hb6.mono HB.out.size)
        have HI := Lib.hid hb
        clear hb hb6 HB c1 c2 hs HOK
        cases b with
        | true =>
          have HS2 : Hid (∀ x ∈ l.take (k + 1), x.h.n ≤ 30) := fun x hx => by
            rw [List.take_succ_eq_append_getElem hl.out] at hx
            rcases List.mem_append.1 hx with hx | hx
            · exact HS.out x hx
            · rw [List.mem_singleton.1 hx, ← HX.out]; exact HI.out rfl
          clear HS HI
          go_wp2_with fail
          go_round
          case rel => exact ⟨k + 1, by omega, by go_num, HB6, HS2⟩
          case measure =>
            rw [hwk]
            show n - ((k + 1 : Nat) : Int).toNat < n - ((k : Nat) : Int).toNat
            rw [Int.toNat_natCast, Int.toNat_natCast]; omega
        | false =>
          go_wp2_with fail
          go_ret
          exact ⟨⟨false, rfl, fun h => by cases h⟩, HB6.out⟩
    · have hE : l.take k = l := List.take_of_length_le (by rw [← hn.out]; omega)
      have HS2 : Hid (∀ x ∈ l, x.h.n ≤ 30) := by have := HS.out; rw [hE] at this; exact this
      clear hk hE HS
      go_wp2_with fail
      go_ret
      exact ⟨⟨true, rfl, fun _ => ⟨H1.out, HS2.out⟩⟩, HB.out⟩
end Go.Proofs.Ytldijginplgikaa
