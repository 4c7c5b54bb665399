/- The law's few: it returns one of the two, and turns nothing. Condition: the slice is one that Go can have. -/
import Derived.Test.YtnikhlajlhgikaaOpw
namespace Go.Proofs.Ytnikhlajlhgikaa
open Go.RowKit
set_option linter.unusedSimpArgs false
set_option linter.unusedVariables false

/-- A call has returned a Bool, whichever. -/
def SomeB (e : Ending) : Prop := ∃ b : Bool, e = .returned (.bool b)
set_option maxHeartbeats 1600000 in
theorem few_any (A : Option Addr) (n c : Nat) (l : List Ox) (w : World) (hn : Hid (n = l.length)) (hr : Hid (RdO w A l)) (hc : n ≤ c) (hc2 : c ≤ 9223372036854775807) (hz : Hid (∀ x ∈ l, x.2.2.2.size ≤ 140737488351232)) :
    Calls Try.prog 9 #[.slice A n c] w fun e w' => SomeB e ∧ w = w' := by
  by_cases h2 : 200 < n
  · go_enter Try.func9, Try.ntmps9
    go_wp2
    go_ret
    exact ⟨⟨_, rfl⟩, rfl⟩
  · go_enter Try.func9, Try.ntmps9
    go_wp2
    go_loopw [9] (fun i wr => ∃ k : Nat, k ≤ n ∧ i = .int .i64 k ∧ w = wr) (fun i _ => n - (intOf i).toNat)
    case atStart => exact ⟨0, Nat.zero_le _, rfl, rfl⟩
    case round =>
      obtain ⟨k, hk, rfl, rfl⟩ := hrel
      by_cases hlt : k < n
      · have hl : k < l.length := by have := hn.out; omega
        obtain ⟨g, o, rfl, hg, k1, k2, k3, k4⟩ := hr.out.at hl
        have hs := hz.out _ (List.getElem_mem hl)
        by_cases hok : l[k].2.2.2.size ≤ 1000
        · go_wp2
          go_roundw
          case rel => exact ⟨k + 1, by omega, by go_num, trivial⟩
          case measure => simp [intOf]; omega
        · go_wp2
          go_ret
          exact ⟨⟨_, rfl⟩, rfl⟩
      · go_wp2
        go_ret
        exact ⟨⟨_, rfl⟩, rfl⟩
end Go.Proofs.Ytnikhlajlhgikaa
