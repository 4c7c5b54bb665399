/- The contracts of pack.Put and pack.PutText: what they return is the given bytes followed by the encoding, in memory of its own. Conditions: a uint64; lengths within 2^48 together. -/
import Derived.Test.YtehkdaknhgmdkaaApp
namespace Go.Proofs.Ytehkdaknhgmdkaa
open Go.RowKit

/-- A call has returned a slice of N bytes that reads as l, in memory of its own; what there was has not changed. -/
def Made (w : World) (N : Nat) (l : List UInt8) (e : Ending) (w' : World) : Prop :=
  ∃ g cap, e = .returned (.slice (some ⟨g, 0, none⟩) N cap) ∧ Own w' w.heap.size 5 g cap l ∧ Below w.heap.size w w'

set_option maxHeartbeats 400000 in
theorem put_any (A : Option Addr) (c n k N : Nat) (l : List UInt8) (w : World) (hk : k < 18446744073709551616) (hn : Hid (n = l.length)) (hN : Hid (N = (l ++ enc k).length)) (hr : Hid (Rd w A l)) (hb : n ≤ 140737488355328) :
    Calls Try.prog 21 #[.slice A n c, .int .u64 (k : Int)] w (Made w N (l ++ enc k)) := by
  obtain ⟨L, hL⟩ : ∃ L, L = (digs k).length := ⟨_, rfl⟩
  have hL8 : L ≤ 8 := by have := digs_len8 hk; omega
  have hw : ∀ w, Calls Try.prog 52 #[.int .u64 (k : Int)] w fun e w' => e = .returned (.int .i64 (L : Nat)) ∧ w = w' := fun w => by
    rw [hL]; exact width_any k hk w
  have HW := Lib.hid hw; clear hw
  have HL := Lib.hid hL; clear hL
  have hNe : N = n + 1 + L := by have h1 := hN.out; have h2 := hn.out; have h3 := HL.out; rw [List.length_append, enc_length] at h1; omega
  have HN := Lib.hid hNe; clear hNe
  go_enter Try.func21, Try.ntmps21
  go_wp2_with (first
    | (go_at_call 52; refine (HW.out _).mono ?_; rintro e w' ⟨rfl, rfl⟩)
    | (go_at_call 51; refine (copy_any A c n (1 + L) _ l _ (by unfold Hid; omega) hn hr (by omega)).mono ?_; rintro e w1 ⟨rfl, hown1, hb1⟩)
    | (go_at_call 50; refine (number_any w.heap.size w.heap.size (n + (1 + L)) n k L l _ hk HL hn hown1 (by omega) (by omega) hb1.size).mono ?_; rintro e w2 ⟨rfl, hown2, hg2⟩))
  go_ret
  refine ⟨w.heap.size, n + (1 + L), ?_, hown2, hb1.trans (grownBy_below hg2 hb1.size (by intro k hk; cases hk; exact Nat.le_refl _))⟩
  rw [HN.out]
  rfl

/-- The encoding of a string. -/
def encT (s : ByteArray) : List UInt8 := enc s.size ++ s.data.toList
theorem str_len (s : ByteArray) : s.data.toList.length = s.size := by simp

set_option maxHeartbeats 400000 in
theorem putText_any (A : Option Addr) (c n N : Nat) (s : ByteArray) (l : List UInt8) (w : World) (hn : Hid (n = l.length)) (hN : Hid (N = (l ++ encT s).length)) (hr : Hid (Rd w A l)) (hb : n + s.size + 9 ≤ 281474976710656) :
    Calls Try.prog 25 #[.slice A n c, .string s] w (Made w N (l ++ encT s)) := by
  obtain ⟨L, hL⟩ : ∃ L, L = (digs s.size).length := ⟨_, rfl⟩
  have hL8 : L ≤ 8 := by have := digs_len8 (n := s.size) (by omega); omega
  have hw : ∀ w, Calls Try.prog 52 #[.int .u64 (s.size : Int)] w fun e w' => e = .returned (.int .i64 (L : Nat)) ∧ w = w' := fun w => by
    rw [hL]; exact width_any s.size (by omega) w
  have HW := Lib.hid hw; clear hw
  have HL := Lib.hid hL; clear hL
  have hNe : N = n + 1 + L + s.size := by have h1 := hN.out; have h2 := hn.out; have h3 := HL.out; rw [encT, List.length_append, List.length_append, enc_length, str_len] at h1; omega
  have HN := Lib.hid hNe; clear hNe
  obtain ⟨i0, hi, hz0, hz1, hz2⟩ := info_parts info5
  go_enter Try.func25, Try.ntmps25
  go_wp2_with (first
    | (go_at_call 52; refine (HW.out _).mono ?_; rintro e w' ⟨rfl, rfl⟩)
    | (go_at_call 51; refine (copy_any A c n (1 + L + s.size) _ l _ (by unfold Hid; omega) hn hr (by omega)).mono ?_; rintro e w1 ⟨rfl, hown1, hb1⟩)
    | (go_at_call 50; refine (number_any w.heap.size w.heap.size (n + (1 + L + s.size)) n s.size L l _ (by omega) HL hn hown1 (by omega) (by omega) hb1.size).mono ?_; rintro e w2 ⟨rfl, hown2, hg2⟩)
    | (at_builtin; refine wpList_append_str _ rfl _ _ 35 9 rfl w.heap.size 5 i0 Try.underlying35 Try.underlying9 hi hz1 w.heap.size _ (n + 1 + L) (l ++ enc s.size) rfl hown2 s rfl ?_ ?_ ?_))
  · have h2 := hn.out; have h3 := HL.out; rw [List.length_append, enc_length]; omega
  · omega
  · intro w3 hown3 hg3
    go_wp2
    go_ret
    have hb3 := hb1.trans ((grownBy_below hg2 hb1.size (by intro k hk; cases hk; exact Nat.le_refl _)).trans (grownBy_below hg3 (Nat.le_trans hb1.size hg2.size) (by intro k hk; cases hk; exact Nat.le_refl _)))
    refine ⟨w.heap.size, n + (1 + L + s.size), ?_, ?_, hb3⟩
    · rw [HN.out]; rfl
    · unfold encT; exact hown3
end Go.Proofs.Ytehkdaknhgmdkaa
