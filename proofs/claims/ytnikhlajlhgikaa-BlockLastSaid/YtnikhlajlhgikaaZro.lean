/- The zero value of a store of 1024 blocks of 64 bytes: 65536 zero bytes and five cells behind them. No condition. -/
import Derived.Test.YtnikhlajlhgikaaChecked
import Derived.KernelRfl
namespace Go.Proofs.Ytnikhlajlhgikaa
/-- The cells behind the bytes. -/
def zEnd : List Value := [.bool false, .int .i64 0, .bool false, .int .i64 0, .int .i64 0]
/-- One zero byte off the head of a list. -/
def bite : List Value → Option (List Value)
  | .int .u8 (.ofNat 0) :: t => some t
  | _ => none
/-- 2 ^ k zero bytes off the head of a list: halves of halves, so that no walk is deep. -/
noncomputable def eat (k : Nat) : List Value → Option (List Value) := Nat.rec (motive := fun _ => List Value → Option (List Value)) bite (fun _ ih l => (ih l).bind ih) k
theorem bite_spec {l t : List Value} (h : bite l = some t) : l = .int .u8 0 :: t := by
  unfold bite at h
  split at h
  · injection h with h; subst h; rfl
  · cases h
theorem eat_spec : ∀ (k : Nat) {l t : List Value}, eat k l = some t → l = List.replicate (2 ^ k) (.int .u8 0) ++ t
  | 0, l, t, h => by rw [bite_spec (l := l) (t := t) h]; rfl
  | k + 1, l, t, h => by
    have h' : (eat k l).bind (eat k) = some t := h
    cases e : eat k l with
    | none => rw [e] at h'; cases h'
    | some m =>
      rw [e] at h'
      have h2 : eat k m = some t := h'
      rw [eat_spec k e, eat_spec k h2, ← List.append_assoc, List.replicate_append_replicate]
      congr 2
      omega
noncomputable def zl (o : Option Value) : List Value := match o with | some (.agg ⟨l⟩) => l | _ => []
theorem z32 : eat 16 (zl Try.t32.zero) = some zEnd := by kernel_rfl
theorem zero32' : Try.t32.zero = some (.agg ⟨zl Try.t32.zero⟩) := by kernel_rfl
theorem zero32 : Try.t32.zero = some (.agg (List.replicate 65536 (Value.int .u8 0) ++ zEnd).toArray) := by
  rw [zero32', eat_spec 16 z32]
end Go.Proofs.Ytnikhlajlhgikaa
