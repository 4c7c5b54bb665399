/- The contracts of New, of the document's New, and of the law's full. No condition. -/
import Derived.Test.YtnikhlajlhgikaaRdn
namespace Go.Proofs.Ytnikhlajlhgikaa
open Go.RowKit
set_option linter.unusedSimpArgs false
set_option linter.unusedVariables false

/-- The store that New makes. -/
def dv0 : Dv := ⟨List.replicate 65536 0, false, 0, false, 0, 0⟩
theorem cells_zeros (n : Nat) : cells (List.replicate n (0 : UInt8)) = List.replicate n (.int .u8 0) := by
  unfold cells; rw [List.map_replicate]; rfl
theorem dv0_cs : dv0.cs = (List.replicate 65536 (Value.int .u8 0) ++ zEnd).toArray := by
  unfold Dv.cs dv0 Dv.tail
  rw [cells_zeros]
  rfl
theorem dv0_len : dv0.B.length = 65536 := by unfold dv0; exact List.length_replicate
theorem st_new (w : World) : St (w.alloc (.cells dv0.cs 32)) w.heap.size dv0 := ⟨dv0_len, Int.le_refl 0, by show (0 : Int) ≤ 64; omega, Bk.fresh _ _ _⟩

theorem zero_dv (W : World) : (zeroValue 32).run Try.prog W = .ok (.agg dv0.cs) W := by rw [dv0_cs]; exact zeroValue32 W
theorem new_any (w : World) : Calls Try.prog 10 #[] w fun e w' => e = .returned (.pointer (some ⟨w.heap.size, 0, none⟩)) ∧ St w' w.heap.size dv0 ∧ Below w.heap.size w w' := by
  have hb := zero_dv
  have hst := st_new w
  generalize dv0.cs = Z at hb hst
  have HS := Lib.hid hst
  clear hst
  go_enter Try.func10, Try.ntmps10
  go_wp2
  go_ret
  exact ⟨rfl, HS.out, (Below.refl _ _).alloc (Nat.le_refl _) _⟩

/-! ### The document's store -/
/-- The document's store, plainly. -/
structure Rv where
  B : List UInt8
  armed : Bool
  left : Int
  part : Int
  down : Bool
  wr : Int
def Rv.cs (r : Rv) (gb : Nat) : Array Value := #[.slice (some ⟨gb, 0, none⟩) 65536 65536, .bool r.armed, .int .i64 r.left, .int .i64 r.part, .bool r.down, .int .i64 r.wr]
/-- The document's store lies in block g, its bytes in block gb. -/
structure Rs (w : World) (g gb : Nat) (r : Rv) : Prop where
  len : r.B.length = 65536
  ne : g ≠ gb
  bk : Bk w g 45 (r.cs gb)
  row : Bk w gb 5 (cells r.B).toArray
def rv0 : Rv := ⟨List.replicate 65536 0, false, 0, 0, false, 0⟩
theorem Rs.gr {w w' : World} {g gb : Nat} {r : Rv} {ks : List Nat} (h : Rs w g gb r) (hb : Gr ks w w') (h1 : g ∉ ks) (h2 : gb ∉ ks) : Rs w' g gb r := ⟨h.len, h.ne, h.bk.gr hb h1, h.row.gr hb h2⟩
theorem Rs.later {w w' : World} {g gb : Nat} {r : Rv} (h : Rs w g gb r) (hb : Below w.heap.size w w') : Rs w' g gb r := ⟨h.len, h.ne, h.bk.later hb, h.row.later hb⟩

theorem made_zeros (n : Nat) : madeCells #[Value.int .u8 0] n = (List.replicate n (Value.int .u8 0)).toArray := by
  apply Array.ext
  · simp [madeCells]
  · intro i h1 h2
    simp [madeCells, Nat.mod_one]
/-- A new slice of bytes 0. -/
theorem make_bytes (n : Nat) (hn : n ≤ 65536) : ∀ W : World, (Instr.makeSlice 37 (.int .i64 (n : Int)) (.int .i64 (n : Int))).run Try.prog W = .ok (.slice (some ⟨W.heap.size, 0, none⟩) n n) (W.alloc (.cells (cells (List.replicate n 0)).toArray 5)) := fun W => by
  obtain ⟨i0, hi, hz0, hz1, hz2⟩ := info_of info5
  have h := run_make (P := Try.prog) W 37 5 i0 (.int .u8 0) Try.underlying37 hi hz0 .i64 .i64 (n : Int) (n : Int) (by omega) (Int.le_refl _) (by rw [hz2]; omega) (by omega)
  rw [hz1, Nat.mul_one] at h
  rw [h, cells_zeros]
  rw [show (Value.int IntKind.u8 0).cells = #[.int .u8 0] from rfl, made_zeros]
  rfl
theorem rnew_any (w : World) : Calls Try.prog 11 #[] w fun e w' => ∃ g gb, e = .returned (.pointer (some ⟨g, 0, none⟩)) ∧ Rs w' g gb rv0 ∧ w.heap.size ≤ g ∧ w.heap.size ≤ gb ∧ Below w.heap.size w w' := by
  have hm : ∀ W : World, (Instr.makeSlice 37 (.int .i64 65536) (.int .i64 65536)).run Try.prog W = .ok (.slice (some ⟨W.heap.size, 0, none⟩) 65536 65536) (W.alloc (.cells (cells (List.replicate 65536 0)).toArray 5)) := fun W => make_bytes 65536 (Nat.le_refl _) W
  have hl : rv0.B.length = 65536 := dv0_len
  have hc : (cells rv0.B).toArray = (cells (List.replicate 65536 0)).toArray := rfl
  rw [← hc] at hm
  obtain ⟨Z, hZ⟩ : ∃ Z, Z = (cells rv0.B).toArray := ⟨_, rfl⟩
  rw [← hZ] at hm
  have HZ := Lib.hid hZ
  clear hc hZ
  go_enter Try.func11, Try.ntmps11
  go_wp2
  go_ret
  refine ⟨w.heap.size + 1, w.heap.size, rfl, ⟨hl, by omega, Bk.freshAt _ _ _ (by simp), ?_⟩, by omega, Nat.le_refl _, ((Below.refl _ _).alloc (Nat.le_refl _) _).alloc (by simp) _⟩
  rw [← HZ.out]
  exact (Bk.fresh w 5 Z).later ((Below.refl _ _).alloc (Nat.le_refl _) _)
/-- A block of one byte. -/
theorem full_any (c : UInt8) (w : World) : Calls Try.prog 23 #[.int .u8 (c.toNat : Int)] w fun e w' => e = .returned (.slice (some ⟨w.heap.size, 0, none⟩) 64 64) ∧ Bk w' w.heap.size 5 (cells (List.replicate 64 c)).toArray ∧ Below w.heap.size w w' := by
  have hm : ∀ W : World, (Instr.makeSlice 37 (.int .i64 64) (.int .i64 64)).run Try.prog W = .ok (.slice (some ⟨W.heap.size, 0, none⟩) 64 64) (W.alloc (.cells (cells (List.replicate 64 0)).toArray 5)) := fun W => make_bytes 64 (by omega) W
  obtain ⟨Z, hZ⟩ : ∃ Z, Z = (cells (List.replicate 64 0)).toArray := ⟨_, rfl⟩
  rw [← hZ] at hm
  have HZ := Lib.hid hZ
  clear hZ
  go_enter Try.func23, Try.ntmps23
  go_wp2
  go_loopw [8] (fun i wr => ∃ j : Nat, j ≤ 64 ∧ i = .int .i64 j ∧ Hid (∃ l : List UInt8, l.length = 64 ∧ (∀ k, k < j → l[k]? = some c) ∧ Bk wr w.heap.size 5 (cells l).toArray) ∧ Hid (Below w.heap.size w wr)) (fun i _ => 64 - (intOf i).toNat)
  case atStart =>
    refine ⟨0, by omega, rfl, ⟨List.replicate 64 0, List.length_replicate, fun k hk => by omega, ?_⟩, (Below.refl _ _).alloc (Nat.le_refl _) _⟩
    rw [← HZ.out]
    exact Bk.fresh _ _ _
  case round =>
    obtain ⟨j, hj, rfl, ho, hb⟩ := hrel
    by_cases h1 : j < 64
    · have hj0 : (0 : Int) ≤ (j : Int) := by omega
      have hj2 : (j : Int) < 64 := by omega
      obtain ⟨l, hl, hc, hB⟩ := ho.out
      obtain ⟨v, kc⟩ : ∃ v, wr.cell? ⟨w.heap.size, j, none⟩ = some (.int .u8 v) := by
        rw [hB.cellAt, List.getElem?_toArray]; exact ⟨_, cells_at (List.getElem?_eq_getElem (by omega))⟩
      have fc := hB.free j
      have hz := hB.here
      have HL := Lib.hid hl
      have HC := Lib.hid hc
      have HB := Lib.hid hB
      clear hl hc hB ho
      go_wp2
      go_roundw
      case rel =>
        refine ⟨j + 1, by omega, by go_num, ⟨l.set j c, by rw [List.length_set]; exact HL.out, ?_, ?_⟩, hb.out.setCell (p := ⟨w.heap.size, j, none⟩) (Nat.le_refl _) _⟩
        · intro k hk
          by_cases e : k = j
          · subst e; rw [List.getElem?_set_self (by rw [HL.out]; omega)]
          · rw [List.getElem?_set_ne (by omega)]; exact HC.out k (by omega)
        · have := HB.out.put j (.int .u8 (c.toNat : Int))
          rw [List.setIfInBounds_toArray] at this
          unfold cells at this ⊢
          rw [List.map_set]
          exact this
      case measure => simp [intOf]; omega
    · obtain rfl : j = 64 := by omega
      go_wp2
      go_ret
      obtain ⟨l, hl, hc, hB⟩ := ho.out
      have e : l = List.replicate 64 c := by
        apply List.ext_getElem?
        intro k
        by_cases hk : k < 64
        · rw [hc k hk, List.getElem?_replicate_of_lt hk]
        · rw [List.getElem?_eq_none (by omega), List.getElem?_eq_none (by rw [List.length_replicate]; omega)]
      rw [e] at hB
      exact ⟨rfl, hB, hb.out⟩
end Go.Proofs.Ytnikhlajlhgikaa
