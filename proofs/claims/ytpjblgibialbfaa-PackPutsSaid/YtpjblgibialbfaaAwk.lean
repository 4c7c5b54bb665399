/- The contract of 'awake': the program encodes 300 as the document says, so awake returns true. No condition. -/
import Derived.Test.YtpjblgibialbfaaRtk
namespace Go.Proofs.Ytpjblgibialbfaa
open Go.RowKit

theorem enc_300 : enc 300 = [2, 1, 44] := by
  unfold enc
  have h1 : digs 300 = [1, 44] := by
    rw [digs_pos (by decide), show 300 / 256 = 1 from rfl, digs_pos (n := 1) (by decide), show 1 / 256 = 0 from rfl, digs_zero]
    rfl
  rw [h1]
  rfl

set_option maxHeartbeats 400000 in
theorem awake_any (w : World) : Calls Try.prog 9 #[] w fun e w' => e = .returned (.bool true) ∧ Below w.heap.size w w' := by
  have hp := put_any none 0 0 300 3 [] w (by decide) rfl (by unfold Hid; rw [enc_300]; rfl) (Rd.nil _ _) (by decide)
  rw [enc_300, List.nil_append] at hp
  have HP := Lib.hid hp; clear hp
  go_enter Try.func9, Try.ntmps9
  go_wp2_with (go_at_call 10; refine (HP.out).mono ?_; rintro e w1 ⟨g, cap, rfl, ho, hb1⟩; have r0 : w1.cell? ⟨g, 0, none⟩ = some (.int .u8 2) := ho.get (i := 0) (b := 2) rfl; have r1 : w1.cell? ⟨g, 1, none⟩ = some (.int .u8 1) := ho.get (i := 1) (b := 1) rfl; have r2 : w1.cell? ⟨g, 2, none⟩ = some (.int .u8 44) := ho.get (i := 2) (b := 44) rfl)
  go_ret
  exact ⟨rfl, hb1⟩
end Go.Proofs.Ytpjblgibialbfaa
