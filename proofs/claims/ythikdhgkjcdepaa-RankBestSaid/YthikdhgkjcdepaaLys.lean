/- The sort of the standard library (slices.SortFunc at rank.candidate), laid at this program. No condition. -/
import Derived.Test.YthikdhgkjcdepaaChecked
import Derived.Shelf.SlLaysF0
namespace Go.Proofs.Ythikdhgkjcdepaa
open Go.Shelf
set_option linter.unusedSimpArgs false
set_option linter.unusedVariables false

/-- The numbers of the standard library's sort in this program. -/
def renC : Ren := ⟨fun x => match x with | 6 => 25 | 14 => 45 | 15 => 46 | 20 => 59 | 21 => 60 | 22 => 61 | 23 => 62 | 24 => 63 | 25 => 64 | 26 => 65 | 27 => 66 | 28 => 67 | 29 => 68 | 46 => 71 | 47 => 72 | 48 => 73 | 49 => 74 | 50 => 75 | 57 => 76 | n => n,
  fun x => match x with | 22 => 54 | 24 => 58 | 25 => 62 | 3 => 3 | 39 => 43 | 0 => 0 | 53 => 95 | 55 => 97 | 4 => 4 | 46 => 89 | 45 => 88 | 50 => 31 | 5 => 5 | 9 => 9 | 66 => 99 | 70 => 103 | 76 => 105 | 77 => 106 | n => n, fun x => x⟩
set_option maxRecDepth 100000 in
theorem layC : SlLaysF0.n6 Try.prog renC where
  mixed := by kernel_rfl
  f6 := ⟨Try.f25.name, by kernel_rfl, by kernel_rfl⟩
  f14 := ⟨Try.f45.name, by kernel_rfl, by kernel_rfl⟩
  f15 := Try.func46.trans (congrArg some (by kernel_rfl))
  f20 := ⟨Try.f59.name, by kernel_rfl, by kernel_rfl⟩
  f21 := ⟨Try.f60.name, by kernel_rfl, by kernel_rfl⟩
  f22 := ⟨Try.f61.name, by kernel_rfl, by kernel_rfl⟩
  f23 := ⟨Try.f62.name, by kernel_rfl, by kernel_rfl⟩
  f24 := ⟨Try.f63.name, by kernel_rfl, by kernel_rfl⟩
  f25 := ⟨Try.f64.name, by kernel_rfl, by kernel_rfl⟩
  f26 := ⟨Try.f65.name, by kernel_rfl, by kernel_rfl⟩
  f27 := ⟨Try.f66.name, by kernel_rfl, by kernel_rfl⟩
  f28 := Try.func67.trans (congrArg some (by kernel_rfl))
  f29 := Try.func68.trans (congrArg some (by kernel_rfl))
  f46 := ⟨Try.f71.name, by kernel_rfl, by kernel_rfl⟩
  f47 := Try.func72.trans (congrArg some (by kernel_rfl))
  f48 := Try.func73.trans (congrArg some (by kernel_rfl))
  f49 := ⟨Try.f74.name, by kernel_rfl, by kernel_rfl⟩
  f50 := ⟨Try.f75.name, by kernel_rfl, by kernel_rfl⟩
  f57 := ⟨Try.f76.name, by kernel_rfl, by kernel_rfl⟩
  t0 := Try.underlying0
  a0 := Try.isAgg0
  z0 := Try.sizeOf0
  v0 := Try.zeroValue0
  t3 := Try.underlying3
  a3 := Try.isAgg3
  z3 := Try.sizeOf3
  v3 := Try.zeroValue3
  t4 := Try.underlying4
  a4 := Try.isAgg4
  z4 := Try.sizeOf4
  v4 := Try.zeroValue4
  t5 := Try.underlying5
  a5 := Try.isAgg5
  z5 := Try.sizeOf5
  v5 := Try.zeroValue5
  t9 := Try.underlying9
  a9 := Try.isAgg9
  z9 := Try.sizeOf9
  v9 := Try.zeroValue9
  t22 := Try.underlying54
  a22 := Try.isAgg54
  z22 := Try.sizeOf54
  v22 := Try.zeroValue54
  t25 := Try.underlying62
  a25 := Try.isAgg62
  z25 := Try.sizeOf62
  v25 := Try.zeroValue62
  t39 := Try.underlying43
  a39 := Try.isAgg43
  z39 := Try.sizeOf43
  v39 := Try.zeroValue43
  t45 := Try.underlying88
  a45 := Try.isAgg88
  z45 := Try.sizeOf88
  v45 := Try.zeroValue88
  t46 := Try.underlying89
  a46 := Try.isAgg89
  z46 := Try.sizeOf89
  v46 := Try.zeroValue89
  t50 := Try.underlying31
  a50 := Try.isAgg31
  z50 := Try.sizeOf31
  v50 := Try.zeroValue31
  t53 := Try.underlying95
  a53 := Try.isAgg95
  z53 := Try.sizeOf95
  v53 := Try.zeroValue95
  t55 := Try.underlying97
  a55 := Try.isAgg97
  z55 := Try.sizeOf97
  v55 := Try.zeroValue97
  t66 := Try.underlying99
  a66 := Try.isAgg99
  z66 := Try.sizeOf99
  v66 := Try.zeroValue99
  t70 := Try.underlying103
  a70 := Try.isAgg103
  z70 := Try.sizeOf103
  v70 := Try.zeroValue103
  t76 := Try.underlying105
  a76 := Try.isAgg105
  z76 := Try.sizeOf105
  v76 := Try.zeroValue105
  t77 := Try.underlying106
  a77 := Try.isAgg106
  z77 := Try.sizeOf106
  v77 := Try.zeroValue106
end Go.Proofs.Ythikdhgkjcdepaa
