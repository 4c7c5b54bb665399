/- The standard library's stable sort at elements of k cells, its exchange of two ranges: what it leaves in memory. Proved over whatever program bears these functions; conditions as each contract bears them. -/
import Derived.Test.YtamlcjepkoagmaaChecked
import Derived.Test.YtamlcjepkoagmaaStb
import Derived.Shelf.SlSortCmp.Insertion1
import Derived.Sort.WalkB2
import Derived.Sort.WalkB12
import Derived.Deep.LoopGhost
import Derived.Lib.Hide
namespace Go.Proofs.Ytamlcjepkoagmaa.StI
open Go.Shelf Go.RowKit Go.Lib Go.Sort Go.Proofs
set_option linter.unusedSimpArgs false
set_option linter.unusedVariables false

/-- What a program must bear for the stable sort's functions: the bodies, and what the walk asks of their types; k: the cells of an element. -/
structure LayS (P : Program) : Prop where
  mixed : P.follows .mixedOrders = true
  f34 : P.funcs[30]? = some Try.f30
  f32 : P.funcs[29]? = some Try.f29
  f30 : P.funcs[28]? = some Try.f28
  t0 : P.underlying 0 = some (TypeDesc.tuple #[])
  a0 : ∀ w, (isAgg 0).run P w = .ok false w
  z0 : ∀ w, (Go.sizeOf 0).run P w = .ok 1 w
  v0 : ∀ w, (zeroValue 0).run P w = .ok (Value.tuple #[]) w
  t3 : P.underlying 3 = some (TypeDesc.int IntKind.i64)
  a3 : ∀ w, (isAgg 3).run P w = .ok false w
  z3 : ∀ w, (Go.sizeOf 3).run P w = .ok 1 w
  v3 : ∀ w, (zeroValue 3).run P w = .ok (Value.int IntKind.i64 0) w
  t4 : P.underlying 4 = some (TypeDesc.bool)
  a4 : ∀ w, (isAgg 4).run P w = .ok false w
  z4 : ∀ w, (Go.sizeOf 4).run P w = .ok 1 w
  v4 : ∀ w, (zeroValue 4).run P w = .ok (Value.bool false) w
  t22 : P.underlying 37 = some (TypeDesc.slice 3)
  a22 : ∀ w, (isAgg 37).run P w = .ok false w
  z22 : ∀ w, (Go.sizeOf 37).run P w = .ok 1 w
  v22 : ∀ w, (zeroValue 37).run P w = .ok (Value.slice none 0 0) w
  t40 : P.underlying 50 = some (TypeDesc.func #[3, 3] #[3] false)
  a40 : ∀ w, (isAgg 50).run P w = .ok false w
  z40 : ∀ w, (Go.sizeOf 50).run P w = .ok 1 w
  v40 : ∀ w, (zeroValue 50).run P w = .ok (Value.nilFunc) w
  t45 : P.underlying 39 = some (TypeDesc.int IntKind.u64)
  a45 : ∀ w, (isAgg 39).run P w = .ok false w
  z45 : ∀ w, (Go.sizeOf 39).run P w = .ok 1 w
  v45 : ∀ w, (zeroValue 39).run P w = .ok (Value.int IntKind.u64 0) w
  aE : ∀ w, (isAgg 3).run P w = .ok false w
  zE : ∀ w, (Go.sizeOf 3).run P w = .ok 1 w

theorem layTry : LayS Try.prog := ⟨by kernel_rfl, Try.func30, Try.func29, Try.func28, Try.underlying0, Try.isAgg0, Try.sizeOf0, Try.zeroValue0, Try.underlying3, Try.isAgg3, Try.sizeOf3, Try.zeroValue3,
  Try.underlying4, Try.isAgg4, Try.sizeOf4, Try.zeroValue4, Try.underlying37, Try.isAgg37, Try.sizeOf37, Try.zeroValue37, Try.underlying50, Try.isAgg50, Try.sizeOf50, Try.zeroValue50, Try.underlying39, Try.isAgg39, Try.sizeOf39, Try.zeroValue39, Try.isAgg3, Try.sizeOf3⟩

variable {P : Program} {α : Type} [Inhabited α]

set_option maxHeartbeats 4000000 in
set_option maxRecDepth 1000000 in
theorem swapRange_any (L : LayS P) (enc : α → Value) (g : Nat) (cb : Array Value) (blk off cap a b n : Nat) (d0 d : Array α) (w0 w : World)
    (R : Row1 enc w0 blk off d0) (hs : d0.size = d.size) (S : SW enc w0 blk off d w) (hab : a + n ≤ d.size) (hb : b + n ≤ d.size) (hsz : d.size < 4611686018427387904) :
    Calls P 30 #[.slice (some ⟨blk, off, none⟩) d.size cap, .int .i64 a, .int .i64 b, .int .i64 n, .func (.func g) #[] cb] w fun e w' => e = .returned (.tuple #[]) ∧ SW enc w0 blk off (swapN d a b n) w' := by
  have mixed := L.mixed; have t0 := L.t0; have a0 := L.a0; have z0 := L.z0; have v0 := L.v0; have t3 := L.t3; have a3 := L.a3; have z3 := L.z3; have v3 := L.v3; have t4 := L.t4; have a4 := L.a4; have z4 := L.z4; have v4 := L.v4; have t22 := L.t22; have a22 := L.a22; have z22 := L.z22; have v22 := L.v22; have t40 := L.t40; have a40 := L.a40; have z40 := L.z40; have v40 := L.v40
  have aE := L.aE; have zE := L.zE
  have hcl0 := R.hO.cells
  simp only [Value.cells] at hcl0
  have hst := R.hO.store P
  have FG := L.f34
  have S0 : Aside (SW enc w0 blk off (swapN d a b 0) w) := S
  clear S
  go_enter FG, Try.ntmps30
  go_wp2
  go_loopg [10] n (fun kx s10 wr => ∃ i : Nat, s10 = .int .i64 i ∧ i ≤ n ∧ n - i ≤ kx ∧ Aside (SW enc w0 blk off (swapN d a b i) wr))
  case atStart => exact ⟨0, rfl, Nat.zero_le _, by omega, S0⟩
  case round =>
    clear S0
    obtain ⟨i, rfl, hin, hkx, S1⟩ := hrel
    by_cases hlt : i < n
    · have hds : (swapN d a b i).size = d.size := size_swapN d a b i
      obtain ⟨dk, hdk⟩ : ∃ dk, dk = swapN d a b i := ⟨_, rfl⟩
      have hnx : swapN d a b (i + 1) = swp (swapN d a b i) (a + i) (b + i) := rfl
      rw [← hdk] at S1 hds hnx
      have HN : Hid _ := hnx
      clear hnx hdk
      have hltz : (i : Int) < (n : Int) := by omega
      go_wp2_with fail
      have ea : ((a : Int) + (i : Int)).toNat = a + i := by omega
      have pa : (0 : Int) ≤ (a : Int) + (i : Int) := by omega
      have ba : (a : Int) + (i : Int) < (d.size : Int) := by omega
      have ra : IntKind.i64.wrap ((a : Int) + (i : Int)) = (a : Int) + (i : Int) := by rw [IntKind.wrap_i64]; omega
      have ec : ((b : Int) + (i : Int)).toNat = b + i := by omega
      have pc : (0 : Int) ≤ (b : Int) + (i : Int) := by omega
      have bc : (b : Int) + (i : Int) < (d.size : Int) := by omega
      have rc : IntKind.i64.wrap ((b : Int) + (i : Int)) = (b : Int) + (i : Int) := by rw [IntKind.wrap_i64]; omega
      have S2 : Aside (SW enc w0 blk off (swp dk (a + i) (b + i)) (((wr.setCell ⟨blk, off + (a + i), none⟩ (enc dk[b + i]!)).setCell ⟨blk, off + (b + i), none⟩ (enc dk[a + i]!)).drew)) := S1.out.swapped R (a + i) (b + i) (by omega) (by omega)
      have q1 := S1.out.c1 R (by omega) (a + i) (by omega)
      have q2 := S1.out.c1 R (by omega) (b + i) (by omega)
      have q3 := S1.out.f1 R (by omega) (a + i) (by omega)
      have q4 := S1.out.f1 R (by omega) (b + i) (by omega)
      obtain ⟨u9, q5⟩ := S1.out.c2 R (by omega) (a + i) (b + i) (by omega) (by omega) (enc dk[b + i]!)
      generalize dk[a + i]! = x9 at S2 q1
      generalize dk[b + i]! = y9 at S2 q2 q5
      clear S1
      go_big_region_o
      clear q1 q2 q3 q4 q5
      generalize ((wr.setCell ⟨blk, off + (a + i), none⟩ (enc y9)).setCell ⟨blk, off + (b + i), none⟩ (enc x9)).drew = w2 at S2 ⊢
      go_wp2
      go_roundg (n - (i + 1))
      case measure => omega
      case rel => exact ⟨i + 1, by go_num, by omega, Nat.le_refl _, (show Aside _ from by rw [HN.out]; exact S2)⟩
    · have hkn : i = n := by omega
      have hltz : ¬ (i : Int) < (n : Int) := by omega
      go_wp2
      go_end0
      exact ⟨rfl, by rw [← hkn]; exact S1.out⟩

set_option maxHeartbeats 4000000 in
set_option maxRecDepth 1000000 in
theorem rotate_any (L : LayS P) (enc : α → Value) (g : Nat) (cb : Array Value) (blk off cap a m b : Nat) (d0 d : Array α) (w0 w : World)
    (R : Row1 enc w0 blk off d0) (hs : d0.size = d.size) (S : SW enc w0 blk off d w) (ham : a < m) (hmb : m < b) (hb : b ≤ d.size) (hsz : d.size < 4611686018427387904) :
    Calls P 29 #[.slice (some ⟨blk, off, none⟩) d.size cap, .int .i64 a, .int .i64 m, .int .i64 b, .func (.func g) #[] cb] w fun e w' => e = .returned (.tuple #[]) ∧ ∃ d', Rot d d' a m b ∧ SW enc w0 blk off d' w' := by
  have mixed := L.mixed; have t0 := L.t0; have a0 := L.a0; have z0 := L.z0; have v0 := L.v0; have t3 := L.t3; have a3 := L.a3; have z3 := L.z3; have v3 := L.v3; have t4 := L.t4; have a4 := L.a4; have z4 := L.z4; have v4 := L.v4; have t22 := L.t22; have a22 := L.a22; have z22 := L.z22; have v22 := L.v22; have t40 := L.t40; have a40 := L.a40; have z40 := L.z40; have v40 := L.v40
  have e34 : ∀ args w, (callFunc 30 args).run P w = .ok (.enter 30 args) w := enters_of L.f34 (by kernel_rfl) rfl
  have FG := L.f32
  have S0 : Aside (SW enc w0 blk off d w) := S
  clear S
  go_enter FG, Try.ntmps29
  go_wp2
  go_loopg [10, 11] (b - a) (fun kx s10 s11 wr => ∃ (i j : Nat) (dk : Array α), s10 = .int .i64 i ∧ s11 = .int .i64 j ∧ 0 < i ∧ 0 < j ∧ i ≤ m - a ∧ m + j ≤ b ∧ i + j ≤ kx ∧ Hid (RotInv d dk (rotF d a m b) a m b i j) ∧ Aside (SW enc w0 blk off dk wr))
  case atStart => exact ⟨m - a, b - m, d, congrArg (Value.int .i64) (by omega), congrArg (Value.int .i64) (by omega), by omega, by omega, by omega, by omega, by omega, RotInv.start d a m b (by omega) (by omega), S0⟩
  case round =>
    clear S0
    obtain ⟨i, j, dk, rfl, rfl, hi0, hj0, hi, hj, hkx, HI, S1⟩ := hrel
    have hds : dk.size = d.size := HI.out.size
    have HD : Hid (dk.size = d.size) := hds
    have rm : IntKind.i64.wrap ((m : Int) - (i : Int)) = (m : Int) - (i : Int) := by rw [IntKind.wrap_i64]; omega
    have rs : IntKind.i64.wrap ((m : Int) + (j : Int)) = (m : Int) + (j : Int) := by rw [IntKind.wrap_i64]; omega
    have rt : IntKind.i64.wrap ((m : Int) + (j : Int) - (i : Int)) = (m : Int) + (j : Int) - (i : Int) := by rw [IntKind.wrap_i64]; omega
    have c1 : ((m - i : Nat) : Int) = (m : Int) - (i : Int) := by omega
    by_cases heq : i = j
    · subst heq
      have hcon := swapRange_any L enc g cb blk off cap (m - i) m i d0 dk w0 wr R (by omega) S1.out (by omega) (by omega) (by omega)
      rw [hds, c1] at hcon
      have hsw : Rot d (swapN dk (m - i) m i) a m b := HI.out.done hi (by omega) hj hb hi0
      have HS : Hid _ := hsw
      clear hsw hds c1 S1
      go_wp2_with (go_at_fn 30; refine hcon.mono ?_; rintro e w' ⟨rfl, S2⟩)
      go_end0
      exact ⟨rfl, _, HS.out, S2⟩
    · by_cases hij : j < i
      · have hcon := swapRange_any L enc g cb blk off cap (m - i) m j d0 dk w0 wr R (by omega) S1.out (by omega) (by omega) (by omega)
        rw [hds, c1] at hcon
        have HN : Hid (RotInv d (swapN dk (m - i) m j) (rotF d a m b) a m b (i - j) j) := HI.out.more hi (by omega) hj hb hij hj0
        have hne : ¬ (i : Int) = (j : Int) := by omega
        have hijz : (j : Int) < (i : Int) := by omega
        clear hds c1 S1 HI
        go_wp2_with (go_at_fn 30; refine hcon.mono ?_; rintro e w' ⟨rfl, S2⟩)
        go_roundg (i - j + j)
        case measure => omega
        case rel => exact ⟨i - j, j, _, congrArg (Value.int .i64) (by omega), rfl, by omega, hj0, by omega, hj, Nat.le_refl _, HN, S2⟩
      · have hcon := swapRange_any L enc g cb blk off cap (m - i) (m + j - i) i d0 dk w0 wr R (by omega) S1.out (by omega) (by omega) (by omega)
        have c2 : ((m + j - i : Nat) : Int) = (m : Int) + (j : Int) - (i : Int) := by omega
        rw [hds, c1, c2] at hcon
        have HN : Hid (RotInv d (swapN dk (m - i) (m + j - i) i) (rotF d a m b) a m b i (j - i)) := HI.out.less hi (by omega) hj hb (by omega) hi0
        have hne : ¬ (i : Int) = (j : Int) := by omega
        have hijz : ¬ (j : Int) < (i : Int) := by omega
        clear hds c1 c2 S1 HI
        go_wp2_with (go_at_fn 30; refine hcon.mono ?_; rintro e w' ⟨rfl, S2⟩)
        go_roundg (i + (j - i))
        case measure => omega
        case rel => exact ⟨i, j - i, _, rfl, congrArg (Value.int .i64) (by omega), hi0, by omega, hi, by omega, Nat.le_refl _, HN, S2⟩
end Go.Proofs.Ytamlcjepkoagmaa.StI
