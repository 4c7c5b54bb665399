/- The contracts of strings.Compare and of ident.compareKeys: the order of keys, byte by byte; and the insertion sort of the standard library, laid at this program. No condition. -/
import Derived.Test.YtnidpipbdgolfaaSw
import Derived.Test.YtnidpipbdgolfaaLab
import Derived.Lib.Bytealg
namespace Go.Proofs.Ytnidpipbdgolfaa
open Go.Shelf Go.RowKit Go.Lib Go.Sort Go.Proofs
set_option linter.unusedSimpArgs false
set_option linter.unusedVariables false

set_option maxHeartbeats 1000000 in
set_option maxRecDepth 100000 in
theorem compareString_any (a b : ByteArray) (w : World) :
    Calls Try.prog 31 #[.string a, .string b] w fun e w' => e = .returned (.int .i64 (Lib.compareBytes a.data.toList b.data.toList)) ∧ w = w' := by
  have mixed : Try.prog.follows .mixedOrders = true := by kernel_rfl
  go_enter Try.func31, Try.ntmps31
  go_wp2
  rw [run_callFunc_extern Try.func33 (by kernel_rfl) (by kernel_rfl) (by kernel_rfl) (e := Extern.BytealgCompare.compare) (by kernel_rfl), Lib.run_compareString]
  simp only [Result.andThen]
  rw [Oper.upon_value]
  go_wp2
  go_ret
  exact ⟨rfl, rfl⟩

set_option maxHeartbeats 1000000 in
theorem compare_any (a b : ByteArray) (w : World) :
    Calls Try.prog 28 #[.string a, .string b] w fun e w' => e = .returned (.int .i64 (Lib.compareBytes a.data.toList b.data.toList)) ∧ w = w' := by
  have hcon := fun W => compareString_any a b W
  generalize Lib.compareBytes a.data.toList b.data.toList = r at hcon ⊢
  go_enter Try.func28, Try.ntmps28
  go_wp2_with (go_at_call 31; refine (hcon _).mono ?_; rintro e w' ⟨rfl, rfl⟩)
  go_ret
  exact ⟨rfl, rfl⟩

set_option maxHeartbeats 1000000 in
theorem compareKeys_any (a b c d : ByteArray) (W : World) :
    Calls Try.prog 26 #[.agg #[.string a, .string b], .agg #[.string c, .string d]] W fun e w' => e = .returned (.int .i64 (Lib.compareBytes a.data.toList c.data.toList)) ∧ ∃ q os', w' = grow (W.drewN q) os' := by
  have hcon := fun W => compare_any a c W
  generalize Lib.compareBytes a.data.toList c.data.toList = r at hcon ⊢
  go_enter Try.func26, Try.ntmps26
  go_wp2_with (go_at_call 28; refine (hcon _).mono ?_; rintro e w' ⟨rfl, rfl⟩)
  go_ret
  exact ⟨rfl, 0, _, by rw [alloc_eq_grow, alloc_eq_grow, grow_grow]; rfl⟩

/-- A label with the place where it stood: its cells. -/
def encT (x : Lb × Nat) : List Value := [.string x.1.1, .string x.1.2]
/-- The comparison of labels that bear their places. -/
def cfT (x y : Lb × Nat) : Int := Lib.compareBytes x.1.1.data.toList y.1.1.data.toList
theorem encT_len (x : Lb × Nat) : (encT x).length = 2 := rfl
theorem encT_one (x : Lb × Nat) : ∀ v ∈ encT x, v.oneCell' = true := by
  intro v hv; simp [encT] at hv; rcases hv with rfl | rfl <;> rfl
theorem cmpLays (blk off size : Nat) (w : World) : CmpLays Try.prog 26 #[] encT 2 cfT blk off size w :=
  fun _ _ _ _ x y => compareKeys_any _ _ _ _ _
theorem enter26 : ∀ args w, (callFunc 26 args).run Try.prog w = .ok (.enter 26 args) w := enters_of Try.func26 (by kernel_rfl) rfl

theorem compareBytes_neg : ∀ (a b : List UInt8), (Lib.compareBytes a b < 0) ↔ a < b
  | [], [] => by simp [Lib.compareBytes]
  | [], _ :: _ => by simp [Lib.compareBytes]
  | _ :: _, [] => by simp [Lib.compareBytes]
  | x :: a, y :: b => by
    unfold Lib.compareBytes
    rw [List.cons_lt_cons_iff]
    by_cases h1 : x < y
    · simp [h1]
    · by_cases h2 : y < x
      · have : x ≠ y := by rintro rfl; exact h1 h2
        simp [h1, h2, this]
      · have : x = y := UInt8.le_antisymm (UInt8.not_lt.1 h2) (UInt8.not_lt.1 h1)
        subst this
        simp [h1, compareBytes_neg a b]
theorem cfT_lt (x y : Lb × Nat) : decide (cfT x y < 0) = sL x.1.1 y.1.1 := by
  rw [Bool.eq_iff_iff, decide_eq_true_eq, sL_iff]
  exact compareBytes_neg _ _
theorem ltOf_cfT (x y : Lb × Nat) : ltOf cfT x y = sL x.1.1 y.1.1 := cfT_lt x y

/-- The numbers of the standard library's insertion sort in this program. -/
def renI : Ren := ⟨fun x => if x = 20 then 29 else x, fun x => if x = 24 then 33 else if x = 25 then 40 else x, fun x => x⟩
theorem layIns : SlLaysF0.n20 Try.prog renI where
  mixed := by kernel_rfl
  f20 := ⟨Try.f29.name, by kernel_rfl, by kernel_rfl⟩
  t0 := Try.underlying0
  a0 := Try.isAgg0
  z0 := Try.sizeOf0
  v0 := Try.zeroValue0
  t3 := Try.underlying3
  a3 := Try.isAgg3
  z3 := Try.sizeOf3
  v3 := Try.zeroValue3
  t4 := Try.underlying4
  a4 := Try.isAgg4
  z4 := Try.sizeOf4
  v4 := Try.zeroValue4
  t22 := Try.underlying22
  a22 := Try.isAgg22
  z22 := Try.sizeOf22
  v22 := Try.zeroValue22
  t25 := Try.underlying40
  a25 := Try.isAgg40
  z25 := Try.sizeOf40
  v25 := Try.zeroValue40

theorem ins_any (blk off cap a b : Nat) (d0 d : Array (Lb × Nat)) (w0 w : World) (R : RowK encT 2 w0 blk off d0) (hs : d.size = d0.size) (S : SWK encT 2 w0 blk off d w) (hab : a ≤ b) (hb : b ≤ d.size) (hsz : d.size < 4611686018427387904) :
    Calls Try.prog 29 #[.slice (some ⟨blk, off, none⟩) d.size cap, .int .i64 a, .int .i64 b, .func (.func 26) #[] #[]] w fun e w' => e = .returned (.tuple #[]) ∧ SWK encT 2 w0 blk off (Sort.insertionSort (ltOf cfT) d a b) w' := by
  have h := AnyQ.insertionSortCmpFunc layIns 2 Try.isAgg33 Try.sizeOf33 encT encT_len encT_one cfT 26 #[] blk off cap a b d w enter26 (cmpLays _ _ _ _) (S.holds R.hblk R.hH hs) (S.lt R.hblk) hab hb hsz
  refine Calls.mono h ?_
  rintro e w' ⟨he, n, os, rfl⟩
  refine ⟨he, S.on R.hblk n _ os ?_⟩
  have : ∀ x, (Sort.insertionSort (ltOf cfT) d a b).size = x ↔ d.size = x := fun x => by
    rw [(insertionSort_holds (lt := ltOf cfT) ⟨fun x => by rw [ltOf_cfT]; exact sL_irrefl _, fun x y z => by rw [ltOf_cfT, ltOf_cfT, ltOf_cfT]; exact sL_trans, fun x y z => by
      rw [ltOf_cfT, ltOf_cfT, ltOf_cfT]; intro h1 h2
      rcases sL_total h1 with h | h
      · rcases sL_total h2 with h' | h'
        · exact sL_asymm (sL_trans h' h)
        · rw [← h']; exact h1
      · rw [h]; exact h2⟩ d a b hab hb).1.1]
  exact (this _).2 rfl
end Go.Proofs.Ytnidpipbdgolfaa
