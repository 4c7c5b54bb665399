/- The contracts of the standard library's stable sort, stableCmpFunc and slices.SortStableFunc, at labels that bear their places: sorted by an order that agrees with the comparison on earlier and later ones. Condition: fewer than 2^60 elements. -/
import Derived.Test.YtnidpipbdgolfaaCmp
import Derived.Test.YtnidpipbdgolfaaSz
import Derived.Test.YtnidpipbdgolfaaStd
namespace Go.Proofs.Ytnidpipbdgolfaa
open Go.Shelf Go.RowKit Go.Lib Go.Sort Go.Proofs
set_option linter.unusedSimpArgs false
set_option linter.unusedVariables false

theorem swoT : SWO (ltOf cfT) := ⟨fun x => by rw [ltOf_cfT]; exact sL_irrefl _, fun x y z => by rw [ltOf_cfT, ltOf_cfT, ltOf_cfT]; exact sL_trans, fun x y z => by
      rw [ltOf_cfT, ltOf_cfT, ltOf_cfT]; intro h1 h2
      rcases sL_total h1 with h | h
      · rcases sL_total h2 with h' | h'
        · exact sL_asymm (sL_trans h' h)
        · rw [← h']; exact h1
      · rw [h]; exact h2⟩

/-- The comparison and the order say the same. -/
def QT (lt' : Lb × Nat → Lb × Nat → Bool) (y x : Lb × Nat) : Prop := decide (cfT y x < 0) = lt' y x

theorem ins_step (lt' : Lb × Nat → Lb × Nat → Bool) (hO : SWO lt') {d dk : Array (Lb × Nat)} {n p b : Nat} (h : InsInv (QT lt') lt' d dk n 20 (p * 20)) (hn : n ≤ d.size) (hpn : p * 20 ≤ n) (hb : b = min (p * 20 + 20) n)
    (hQ : ∀ i j, i < j → j < n → QT lt' d[j]! d[i]!) : InsInv (QT lt') lt' d (Sort.insertionSort (ltOf cfT) dk (p * 20) b) n 20 b := by
  have e : Sort.insertionSort (ltOf cfT) dk (p * 20) b = Sort.insertionSort lt' dk (p * 20) b :=
    insertion_congr swoT dk (p * 20) b (by rw [h.size]; omega) fun q t h1 h2 h3 => by
      rw [h.rest q (by omega), h.rest t h1]; exact hQ t q h2 (by omega)
  rw [e]
  have hh := insertionSort_holds hO dk (p * 20) b (by omega) (by rw [h.size]; omega)
  exact h.step hn hpn hb hh.1 hh.2

set_option maxHeartbeats 8000000 in
set_option maxRecDepth 1000000 in
theorem stable_any (lt' : Lb × Nat → Lb × Nat → Bool) (hO : SWO lt') (blk off cap n : Nat) (d : Array (Lb × Nat)) (w0 : World) (R : RowK encT 2 w0 blk off d) (hn : n = d.size) (hsz : n < 1152921504606846976)
    (hQ : ∀ i j, i < j → j < n → QT lt' d[j]! d[i]!) :
    Calls Try.prog 27 #[.slice (some ⟨blk, off, none⟩) n cap, .int .i64 n, .func (.func 26) #[] #[]] w0 fun e w' => e = .returned (.tuple #[]) ∧ ∃ d', PermIn 0 n d d' ∧ SortedIn lt' 0 n d' ∧ SWK encT 2 w0 blk off d' w' := by
  have S0 : Aside (SWK encT 2 w0 blk off d w0) := SWK.start R.hH
  have HQ : Hid (∀ i j, i < j → j < n → QT lt' d[j]! d[i]!) := Lib.hid hQ
  have HN : Hid (n = d.size) := Lib.hid hn
  have HI0 : Hid (InsInv (QT lt') lt' d d n 20 0) := Lib.hid (InsInv.start hQ)
  have hsym := fun N => sym_any layTry encT cfT lt' hO 26 #[] blk off cap n d w0 enter26 (cmpLays _ _ _ _) R hn.symm (by omega) N
  have HSym := Lib.hid hsym
  clear hQ hn hsym
  go_enter Try.func27, Try.ntmps27
  go_wp2
  go_loopg [7, 8] n (fun kx s7 s8 wr => ∃ (a : Nat) (dk : Array (Lb × Nat)), s7 = .int .i64 a ∧ s8 = .int .i64 ((a : Int) + 20) ∧ a ≤ n ∧ n - a ≤ kx ∧ Hid (∃ p, a = p * 20) ∧ Hid (InsInv (QT lt') lt' d dk n 20 a) ∧ Aside (SWK encT 2 w0 blk off dk wr))
  case atStart => exact ⟨0, d, rfl, rfl, Nat.zero_le _, by omega, ⟨0, rfl⟩, HI0, S0⟩
  case round =>
    clear S0 HI0
    obtain ⟨a, dk, rfl, rfl, han, hkx, HP, HI, S1⟩ := hrel
    have hds : dk.size = n := by rw [HN.out]; exact HI.out.size
    by_cases hlt : a + 20 ≤ n
    · have hins := ins_any blk off cap a (a + 20) d dk w0 wr R (by rw [hds]; exact HN.out) S1.out (by omega) (by omega) (by omega)
      rw [hds, show ((a + 20 : Nat) : Int) = (a : Int) + 20 by omega] at hins
      have HIns := Lib.hid hins
      have HI2 : Hid (InsInv (QT lt') lt' d (Sort.insertionSort (ltOf cfT) dk a (a + 20)) n 20 (a + 20)) := by
        obtain ⟨p, hp⟩ := HP.out
        have H := HI.out
        subst hp
        exact Lib.hid (ins_step lt' hO H (Nat.le_of_eq HN.out) han (by omega) HQ.out)
      have hltz : (a : Int) + 20 ≤ (n : Int) := by omega
      clear hins hds S1 HI
      go_wp2_with (go_at_call 29; refine HIns.out.mono ?_; rintro e w' ⟨rfl, S2⟩)
      go_roundg (n - (a + 20))
      case measure => omega
      case rel => exact ⟨a + 20, _, by go_num, by first | rfl | go_num | (congr 1; omega), hlt, Nat.le_refl _, Lib.hid (by obtain ⟨p, hp⟩ := HP.out; exact ⟨p + 1, by omega⟩), HI2, S2⟩
    · have hins := ins_any blk off cap a n d dk w0 wr R (by rw [hds]; exact HN.out) S1.out (by omega) (by omega) (by omega)
      rw [hds] at hins
      have HIns := Lib.hid hins
      have HI2 : Hid (PassInv (QT lt') lt' d (Sort.insertionSort (ltOf cfT) dk a n) n 20 0) := by
        obtain ⟨p, hp⟩ := HP.out
        have H := HI.out
        subst hp
        exact Lib.hid ((ins_step lt' hO H (Nat.le_of_eq HN.out) han (by omega) HQ.out).pass (Nat.le_refl _))
      have hltz : ¬ (a : Int) + 20 ≤ (n : Int) := by omega
      clear hins hds S1 HI HP hkx
      go_wp2_with (go_at_call 29; refine HIns.out.mono ?_; rintro e w1 ⟨rfl, S2⟩)
      have SA : Aside _ := S2
      clear S2
      generalize Sort.insertionSort (ltOf cfT) dk a n = d1 at HI2 SA
      clear HIns hlt hltz han
      go_loopg [6, 7, 8, 9] n (fun kx s6 _ _ _ wr => ∃ (L : Nat) (dk : Array (Lb × Nat)), s6 = .int .i64 L ∧ 20 ≤ L ∧ L ≤ 2 * n + 20 ∧ n - L ≤ kx ∧ Hid (PassInv (QT lt') lt' d dk n L 0) ∧ Aside (SWK encT 2 w0 blk off dk wr))
      case atStart => exact ⟨20, d1, rfl, Nat.le_refl _, by omega, by omega, HI2, SA⟩
      case round =>
        clear SA HI2
        obtain ⟨L, d2, rfl, hL, hL2, hkx, HP, S1⟩ := hrel
        by_cases hLn : L < n
        · have hLnz : (L : Int) < (n : Int) := by omega
          obtain ⟨wo, hwo⟩ : ∃ wo, wo = wr := ⟨_, rfl⟩
          subst hwo
          go_wp2
          go_loopg [7, 8] n (fun kx s7 s8 wr => ∃ (a : Nat) (dk : Array (Lb × Nat)), s7 = .int .i64 a ∧ s8 = .int .i64 ((a : Int) + 2 * (L : Int)) ∧ a ≤ n ∧ n - a ≤ kx ∧ Hid (∃ p, a = p * (2 * L)) ∧ Hid (PassInv (QT lt') lt' d dk n L a) ∧ Aside (SWK encT 2 w0 blk off dk wr))
          case atStart => exact ⟨0, d2, rfl, by first | rfl | go_num | (congr 1; omega), Nat.zero_le _, by omega, ⟨0, by omega⟩, HP, S1⟩
          case round =>
            clear S1 HP
            obtain ⟨a, dk, rfl, rfl, han, hkx2, HPa, HPi, S1⟩ := hrel
            have hds : dk.size = n := by rw [HN.out]; exact HPi.out.size
            by_cases hlt : a + 2 * L ≤ n
            · have hr : SortedIn lt' a (a + L) dk ∧ SortedIn lt' (a + L) (a + 2 * L) dk ∧ CrossQ (QT lt') dk a (a + L) (a + 2 * L) := by
                obtain ⟨p, hp⟩ := HPa.out
                have H := HPi.out
                subst hp
                exact H.ready (by omega) (by omega) (by omega)
              have hcon := HSym.out (2 * L + 1) a (a + L) (a + 2 * L) dk wr (by omega) hds S1.out (by omega) (by omega) hlt hr.1 hr.2.1 hr.2.2
              rw [show ((a + L : Nat) : Int) = (a : Int) + (L : Int) by omega, show ((a + 2 * L : Nat) : Int) = (a : Int) + 2 * (L : Int) by omega] at hcon
              have HCon := Lib.hid hcon
              have hltz : (a : Int) + 2 * (L : Int) ≤ (n : Int) := by omega
              clear hcon hr hds S1
              go_wp2_with (go_at_call 30; refine HCon.out.mono ?_; rintro e w' ⟨rfl, d3, P3, O3, S3⟩)
              have HPn : Hid (PassInv (QT lt') lt' d d3 n L (a + 2 * L)) := by
                obtain ⟨p, hp⟩ := HPa.out
                have H := HPi.out
                subst hp
                exact Lib.hid (H.step (by omega) (Nat.le_of_eq HN.out) (by omega) P3 O3)
              clear P3 O3
              go_roundg (n - (a + 2 * L))
              case measure => omega
              case rel => exact ⟨a + 2 * L, d3, by first | rfl | go_num | (congr 1; omega), by first | rfl | go_num | (congr 1; omega), hlt, Nat.le_refl _, Lib.hid (by obtain ⟨p, hp⟩ := HPa.out; exact ⟨p + 1, by rw [hp, Nat.add_mul, Nat.one_mul]⟩), HPn, S3⟩
            · have hltz : ¬ (a : Int) + 2 * (L : Int) ≤ (n : Int) := by omega
              by_cases ht : a + L < n
              · have htz : (a : Int) + (L : Int) < (n : Int) := by omega
                have hr : SortedIn lt' a (a + L) dk ∧ SortedIn lt' (a + L) n dk ∧ CrossQ (QT lt') dk a (a + L) n := by
                  obtain ⟨p, hp⟩ := HPa.out
                  have H := HPi.out
                  subst hp
                  exact H.ready (by omega) (by omega) (by omega)
                have hcon := HSym.out (n + 1) a (a + L) n dk wr (by omega) hds S1.out (by omega) (by omega) (Nat.le_refl _) hr.1 hr.2.1 hr.2.2
                rw [show ((a + L : Nat) : Int) = (a : Int) + (L : Int) by omega] at hcon
                have HCon := Lib.hid hcon
                clear hcon hr hds S1
                go_wp2_with (go_at_call 30; refine HCon.out.mono ?_; rintro e w' ⟨rfl, d3, P3, O3, S3⟩)
                have HPn : Hid (PassInv (QT lt') lt' d d3 n (2 * L) 0) := by
                  obtain ⟨p, hp⟩ := HPa.out
                  have H := HPi.out
                  subst hp
                  exact Lib.hid ((H.step (e := n) (by omega) (Nat.le_of_eq HN.out) (by omega) P3 O3).next (Nat.le_refl _))
                clear P3 O3
                go_roundg (n - 2 * L)
                case measure => omega
                case rel => exact ⟨2 * L, d3, by first | rfl | go_num | (congr 1; omega), by omega, by omega, Nat.le_refl _, HPn, S3⟩
              · have htz : ¬ (a : Int) + (L : Int) < (n : Int) := by omega
                have HPn : Hid (PassInv (QT lt') lt' d dk n (2 * L) 0) := by
                  obtain ⟨p, hp⟩ := HPa.out
                  have H := HPi.out
                  subst hp
                  exact Lib.hid ((H.tail (by omega) (by omega)).next (Nat.le_refl _))
                go_wp2
                go_roundg (n - 2 * L)
                case measure => omega
                case rel => exact ⟨2 * L, dk, by first | rfl | go_num | (congr 1; omega), by omega, by omega, Nat.le_refl _, HPn, S1⟩
        · have hLnz : ¬ (L : Int) < (n : Int) := by omega
          go_wp2
          go_end0
          have hw := HP.out.whole (by omega)
          exact ⟨rfl, d2, hw.1, hw.2, S1.out⟩

set_option maxHeartbeats 2000000 in
theorem sortStable_any (lt' : Lb × Nat → Lb × Nat → Bool) (hO : SWO lt') (blk off cap n : Nat) (d : Array (Lb × Nat)) (w0 : World) (R : RowK encT 2 w0 blk off d) (hn : n = d.size) (hsz : n < 1152921504606846976)
    (hQ : ∀ i j, i < j → j < n → QT lt' d[j]! d[i]!) :
    Calls Try.prog 25 #[.slice (some ⟨blk, off, none⟩) n cap, .func (.func 26) #[] #[]] w0 fun e w' => e = .returned (.tuple #[]) ∧ ∃ d', PermIn 0 n d d' ∧ SortedIn lt' 0 n d' ∧ SWK encT 2 w0 blk off d' w' := by
  have hcon := Lib.hid (stable_any lt' hO blk off cap n d w0 R hn hsz hQ)
  clear R hQ hn
  go_enter Try.func25, Try.ntmps25
  go_wp2_with (go_at_call 27; refine hcon.out.mono ?_; rintro e w' ⟨rfl, h⟩)
  go_end0
  exact ⟨rfl, h⟩
end Go.Proofs.Ytnidpipbdgolfaa
