/- The walk of PackTakes: the program's Take and TakeText answer what the document's do. Conditions: a string within the form's reach, two ints. -/
import Derived.Test.YtpjblgibialbfaaAwk
namespace Go.Proofs.Ytpjblgibialbfaa.packTakes
open Go.RowKit

theorem i64_bd {a : Int} (h : (Lit.int .i64 a).wf = true) : -9223372036854775808 ≤ a ∧ a ≤ 9223372036854775807 := by simpa [Lit.wf, IntKind.min, IntKind.max, IntKind.signed, IntKind.bits] using h

set_option maxHeartbeats 1000000 in
theorem walk (a0 : ByteArray) (a1 : Int) (a2 : Int) (w : World) (b0 : a0.size ≤ 140737488351232) (w1 : (Lit.int .i64 a1).wf = true) (w2 : (Lit.int .i64 a2).wf = true) :
    Calls Try.prog 4 #[.string a0, .int .i64 a1, .int .i64 a2] w fun e w' => e = .returned (.bool true) ∧ Below w.heap.size w w' := by
  have d1 := i64_bd w1
  have d2 := i64_bd w2
  have hl : a0.size = a0.data.toList.length := (str_len a0).symm
  have t1 := fun A c W (hr : Rd W A a0.data.toList) (hc : a0.size ≤ c) (hm : c ≤ 9223372036854775807) => take_any A c a0.size a1 a0.data.toList W hl hr hc hm
  have t2 := fun W => refTake_any a0 a1 W (by omega)
  have t3 := fun A c W (hr : Rd W A a0.data.toList) (hc : a0.size ≤ c) (hm : c ≤ 9223372036854775807) => takeText_any A c a0.size a1 a2 a0.data.toList W hl hr hc hm d2.2
  have t4 := fun W => refTakeText_any a0 a1 a2 W (by omega) d2.2
  unfold ret3 at t1 t2
  unfold retT at t3 t4
  generalize takeP a0.data.toList a1 = r at t1 t2
  generalize textP a0.data.toList a1 a2 = q at t3 t4
  obtain ⟨x1, x2, x3⟩ := r
  obtain ⟨y1, y2, y3⟩ := q
  simp only [] at t1 t2 t3 t4
  generalize (⟨y1.toArray⟩ : ByteArray) = Y at t3 t4
  have T1 := Lib.hid t1; clear t1
  have T2 := Lib.hid t2; clear t2
  have T3 := Lib.hid t3; clear t3
  have T4 := Lib.hid t4; clear t4
  clear hl w1 w2
  go_enter Try.func4, Try.ntmps4
  go_wp2_with (first
    | (go_at_call 9; refine (awake_any _).mono ?_; rintro e w1 ⟨rfl, hb1⟩)
    | (with_reducible refine wpList_bytes _ rfl (.tmp 22) 9 24 rfl 5 a0 Try.underlying9 Try.underlying24 Try.underlying5 (by unfold maxLen; omega) rfl ?_; intro c2 w2 hr2 hb2 hs2 hc2 hm2; unfold maxLen at hm2)
    | (go_at_call 14; refine (T1.out _ _ _ hr2 hc2 hm2).mono ?_; rintro e w3 ⟨rfl, hb3⟩)
    | (go_at_call 15; refine (T2.out _).mono ?_; rintro e w4 ⟨rfl, rfl⟩)
    | (with_reducible refine wpList_bytes _ rfl (.tmp 37) 9 24 rfl 5 a0 Try.underlying9 Try.underlying24 Try.underlying5 (by unfold maxLen; omega) rfl ?_; intro c5 w5 hr5 hb5 hs5 hc5 hm5; unfold maxLen at hm5)
    | (go_at_call 16; refine (T3.out _ _ _ hr5 hc5 hm5).mono ?_; rintro e w6 ⟨rfl, hb6⟩)
    | (go_at_call 17; refine (T4.out _).mono ?_; rintro e w7 ⟨rfl, rfl⟩))
  go_ret
  refine ⟨by simp, ?_⟩
  have k1 := hb1.size
  have k2 := hb2.size
  have k3 := hb3.size
  have k5 := hb5.size
  exact (((hb1.trans (hb2.mono (by omega))).trans (hb3.mono (by omega))).trans (hb5.mono (by omega))).trans (hb6.mono (by omega))
end Go.Proofs.Ytpjblgibialbfaa.packTakes
