/- The contract of the document's own many (layer 14). Condition: the slice reads as a list of jobs, of at most 1000000. -/
import Derived.Test.YtamlcjepkoagmaaUs
import Derived.Test.YtamlcjepkoagmaaFew
namespace Go.Proofs.Ytamlcjepkoagmaa
open Go.RowKit
set_option linter.unusedSimpArgs false
set_option linter.unusedVariables false

set_option maxHeartbeats 3200000 in
theorem rmany_any (A : Option Addr) (n cap : Nat) (l : List Jb) (s : ByteArray) (w : World) (hn : Hid (n = l.length)) (hl : n ≤ 1000000) (hA : Hid (RdJ w A l)) (r : Nat) (hr : Hid (manyK l s n = r)) :
    Calls Try.prog 18 #[.slice A n cap, .string s] w fun e w' => e = .returned (.int .i64 r) ∧ Below w.heap.size w w' := by
  go_enter Try.func18, Try.ntmps18
  go_wp2_with fail
  go_loopw [5, 9] (fun c i wr => ∃ k : Nat, k ≤ n ∧ i = .int .i64 k ∧ (∃ x : Nat, c = .int .i64 x ∧ Hid (manyK l s k = x)) ∧ Below w.heap.size w wr) (fun _ i wr => n - (intOf i).toNat)
  case atStart => exact ⟨0, Nat.zero_le _, rfl, ⟨0, rfl, (show _ = _ by simp [manyK])⟩, Below.refl _ _⟩
  case round =>
    obtain ⟨k, hk, rfl, ⟨x, rfl, HX⟩, hb⟩ := hrel
    by_cases hlt : k < n
    · have hlk : k < l.length := by have := hn.out; omega
      have hxk : x ≤ k := by rw [← HX.out]; exact manyK_le _ _ _
      obtain ⟨g, o, rfl, hg, hj⟩ := (hA.out.later hb).at hlk
      obtain ⟨j, hjk⟩ : ∃ j, j = l[k] := ⟨_, rfl⟩
      rw [← hjk] at hj
      have c8 := hj.ga
      have hs := manyK_succ (s := s) hlk
      rw [← hjk, HX.out] at hs
      cases he : sE j.ga s
      · rw [he] at hs
        have HS := Lib.hid (show manyK l s (k + 1) = x from hs)
        have he' : (j.ga.toList == s.toList) = false := he
        clear hs hj hjk he
        go_wp2_with fail
        go_round
        case rel => exact ⟨k + 1, by omega, by go_num, ⟨x, rfl, HS⟩, hb⟩
        case measure => simp [intOf]; omega
      · rw [he] at hs
        have HS := Lib.hid (show manyK l s (k + 1) = x + 1 from hs)
        have he' : (j.ga.toList == s.toList) = true := he
        clear hs hj hjk he
        go_wp2_with fail
        go_round
        case rel => exact ⟨k + 1, by omega, by go_num, ⟨x + 1, by go_num, HS⟩, hb⟩
        case measure => simp [intOf]; omega
    · have hk' : k = n := by omega
      subst hk'
      have hq : x = r := by rw [← HX.out]; exact hr.out
      subst hq
      go_wp2_with fail
      go_ret
      exact ⟨rfl, hb⟩
end Go.Proofs.Ytamlcjepkoagmaa
