/- The contracts of the standard library's stable sort at api.Job: slices.SortStableFunc, at elements that bear their places: sorted by an order that agrees with the comparison on earlier and later ones. Condition: fewer than 2^60 elements. -/
import Derived.Test.YtamlcjepkoagmaaSzI
import Derived.Test.YtamlcjepkoagmaaStd
namespace Go.Proofs.Ytamlcjepkoagmaa.StI
open Go.Shelf Go.RowKit Go.Lib Go.Sort Go.Proofs
set_option linter.unusedSimpArgs false
set_option linter.unusedVariables false

/-- The numbers of the standard library's insertion sort in this program. -/
def renI : Ren := ⟨fun x => if x = 20 then 27 else x, fun x => if x = 24 then 3 else if x = 25 then 50 else if x = 22 then 37 else x, fun x => x⟩
theorem layIns : SlLaysF.n20 Try.prog renI where
  mixed := by kernel_rfl
  f20 := ⟨Try.f27.name, by kernel_rfl, by kernel_rfl⟩
  t0 := Try.underlying0
  a0 := Try.isAgg0
  z0 := Try.sizeOf0
  v0 := Try.zeroValue0
  t3 := Try.underlying3
  a3 := Try.isAgg3
  z3 := Try.sizeOf3
  v3 := Try.zeroValue3
  t4 := Try.underlying4
  a4 := Try.isAgg4
  z4 := Try.sizeOf4
  v4 := Try.zeroValue4
  t22 := Try.underlying37
  a22 := Try.isAgg37
  z22 := Try.sizeOf37
  v22 := Try.zeroValue37
  t25 := Try.underlying50
  a25 := Try.isAgg50
  z25 := Try.sizeOf50
  v25 := Try.zeroValue50
  a24 := Try.isAgg3
  z24 := Try.sizeOf3

section
variable {α : Type} [Inhabited α] {enc : α → Value} {cf : α → α → Int} {g : Nat} {cb : Array Value}
/-- What a comparison (function g, bound to cb) must be, in the worlds of a sort that begins at w0. -/
structure CmpOk (enc : α → Value) (cf : α → α → Int) (g : Nat) (cb : Array Value) (blk off size : Nat) (w0 : World) : Prop where
  swo : SWO (ltOf cf)
  ent : ∀ args w, (callFunc g args).run Try.prog w = .ok (.enter g args) w
  lays : CmpLays1 Try.prog g cb enc cf blk off size w0

theorem ins_any (blk off cap a b : Nat) (d0 d : Array α) (w0 w : World) (C : CmpOk enc cf g cb blk off d0.size w0) (R : Row1 enc w0 blk off d0) (hs : d.size = d0.size) (S : SW enc w0 blk off d w) (hab : a ≤ b) (hb : b ≤ d.size) (hsz : d.size < 4611686018427387904) :
    Calls Try.prog 27 #[.slice (some ⟨blk, off, none⟩) d.size cap, .int .i64 a, .int .i64 b, .func (.func g) #[] cb] w fun e w' => e = .returned (.tuple #[]) ∧ SW enc w0 blk off (Sort.insertionSort (ltOf cf) d a b) w' :=
  Any.insertionSortCmpFunc_s layIns enc cf g cb blk off cap a b d0 d w0 w C.ent C.lays R hs.symm S hab hb hsz

/-- The comparison and the order say the same. -/
def QT (cf : α → α → Int) (lt' : α → α → Bool) (y x : α) : Prop := decide (cf y x < 0) = lt' y x

theorem ins_step (hC : SWO (ltOf cf)) (lt' : α → α → Bool) (hO : SWO lt') {d dk : Array α} {n p b : Nat} (h : InsInv (QT cf lt') lt' d dk n 20 (p * 20)) (hn : n ≤ d.size) (hpn : p * 20 ≤ n) (hb : b = min (p * 20 + 20) n)
    (hQ : ∀ i j, i < j → j < n → QT cf lt' d[j]! d[i]!) : InsInv (QT cf lt') lt' d (Sort.insertionSort (ltOf cf) dk (p * 20) b) n 20 b := by
  have e : Sort.insertionSort (ltOf cf) dk (p * 20) b = Sort.insertionSort lt' dk (p * 20) b :=
    insertion_congr hC dk (p * 20) b (by rw [h.size]; omega) fun q t h1 h2 h3 => by
      rw [h.rest q (by omega), h.rest t h1]; exact hQ t q h2 (by omega)
  rw [e]
  have hh := insertionSort_holds hO dk (p * 20) b (by omega) (by rw [h.size]; omega)
  exact h.step hn hpn hb hh.1 hh.2

set_option maxHeartbeats 8000000 in
set_option maxRecDepth 1000000 in
theorem stable_any (lt' : α → α → Bool) (hO : SWO lt') (blk off cap n : Nat) (d : Array α) (w0 : World) (C : CmpOk enc cf g cb blk off d.size w0) (R : Row1 enc w0 blk off d) (hn : n = d.size) (hsz : n < 1152921504606846976)
    (hQ : ∀ i j, i < j → j < n → QT cf lt' d[j]! d[i]!) :
    Calls Try.prog 25 #[.slice (some ⟨blk, off, none⟩) n cap, .int .i64 n, .func (.func g) #[] cb] w0 fun e w' => e = .returned (.tuple #[]) ∧ ∃ d', PermIn 0 n d d' ∧ SortedIn lt' 0 n d' ∧ SW enc w0 blk off d' w' := by
  have S0 : Aside (SW enc w0 blk off d w0) := SW.start R.hH
  have HQ : Hid (∀ i j, i < j → j < n → QT cf lt' d[j]! d[i]!) := Lib.hid hQ
  have HN : Hid (n = d.size) := Lib.hid hn
  have HI0 : Hid (InsInv (QT cf lt') lt' d d n 20 0) := Lib.hid (InsInv.start hQ)
  have hsym := fun N => sym_any layTry enc cf lt' hO g cb blk off cap n d w0 C.ent (by rw [hn]; exact C.lays) R hn.symm (by omega) N
  have HSym := Lib.hid hsym
  clear hQ hn hsym
  go_enter Try.func25, Try.ntmps25
  go_wp2
  go_loopg [7, 8] n (fun kx s7 s8 wr => ∃ (a : Nat) (dk : Array α), s7 = .int .i64 a ∧ s8 = .int .i64 ((a : Int) + 20) ∧ a ≤ n ∧ n - a ≤ kx ∧ Hid (∃ p, a = p * 20) ∧ Hid (InsInv (QT cf lt') lt' d dk n 20 a) ∧ Aside (SW enc w0 blk off dk wr))
  case atStart => exact ⟨0, d, rfl, rfl, Nat.zero_le _, by omega, ⟨0, rfl⟩, HI0, S0⟩
  case round =>
    clear S0 HI0
    obtain ⟨a, dk, rfl, rfl, han, hkx, HP, HI, S1⟩ := hrel
    have hds : dk.size = n := by rw [HN.out]; exact HI.out.size
    by_cases hlt : a + 20 ≤ n
    · have hins := ins_any blk off cap a (a + 20) d dk w0 wr C R (by rw [hds]; exact HN.out) S1.out (by omega) (by omega) (by omega)
      rw [hds, show ((a + 20 : Nat) : Int) = (a : Int) + 20 by omega] at hins
      have HIns := Lib.hid hins
      have HI2 : Hid (InsInv (QT cf lt') lt' d (Sort.insertionSort (ltOf cf) dk a (a + 20)) n 20 (a + 20)) := by
        obtain ⟨p, hp⟩ := HP.out
        have H := HI.out
        subst hp
        exact Lib.hid (ins_step C.swo lt' hO H (Nat.le_of_eq HN.out) han (by omega) HQ.out)
      have hltz : (a : Int) + 20 ≤ (n : Int) := by omega
      clear hins hds S1 HI
      go_wp2_with (go_at_call 27; refine HIns.out.mono ?_; rintro e w' ⟨rfl, S2⟩)
      go_roundg (n - (a + 20))
      case measure => omega
      case rel => exact ⟨a + 20, _, by go_num, by first | rfl | go_num | (congr 1; omega), hlt, Nat.le_refl _, Lib.hid (by obtain ⟨p, hp⟩ := HP.out; exact ⟨p + 1, by omega⟩), HI2, S2⟩
    · have hins := ins_any blk off cap a n d dk w0 wr C R (by rw [hds]; exact HN.out) S1.out (by omega) (by omega) (by omega)
      rw [hds] at hins
      have HIns := Lib.hid hins
      have HI2 : Hid (PassInv (QT cf lt') lt' d (Sort.insertionSort (ltOf cf) dk a n) n 20 0) := by
        obtain ⟨p, hp⟩ := HP.out
        have H := HI.out
        subst hp
        exact Lib.hid ((ins_step C.swo lt' hO H (Nat.le_of_eq HN.out) han (by omega) HQ.out).pass (Nat.le_refl _))
      have hltz : ¬ (a : Int) + 20 ≤ (n : Int) := by omega
      clear hins hds S1 HI HP hkx
      go_wp2_with (go_at_call 27; refine HIns.out.mono ?_; rintro e w1 ⟨rfl, S2⟩)
      have SA : Aside _ := S2
      clear S2
      generalize Sort.insertionSort (ltOf cf) dk a n = d1 at HI2 SA
      clear HIns hlt hltz han
      go_loopg [6, 7, 8, 9] n (fun kx s6 _ _ _ wr => ∃ (L : Nat) (dk : Array α), s6 = .int .i64 L ∧ 20 ≤ L ∧ L ≤ 2 * n + 20 ∧ n - L ≤ kx ∧ Hid (PassInv (QT cf lt') lt' d dk n L 0) ∧ Aside (SW enc w0 blk off dk wr))
      case atStart => exact ⟨20, d1, rfl, Nat.le_refl _, by omega, by omega, HI2, SA⟩
      case round =>
        clear SA HI2
        obtain ⟨L, d2, rfl, hL, hL2, hkx, HP, S1⟩ := hrel
        by_cases hLn : L < n
        · have hLnz : (L : Int) < (n : Int) := by omega
          obtain ⟨wo, hwo⟩ : ∃ wo, wo = wr := ⟨_, rfl⟩
          subst hwo
          go_wp2
          go_loopg [7, 8] n (fun kx s7 s8 wr => ∃ (a : Nat) (dk : Array α), s7 = .int .i64 a ∧ s8 = .int .i64 ((a : Int) + 2 * (L : Int)) ∧ a ≤ n ∧ n - a ≤ kx ∧ Hid (∃ p, a = p * (2 * L)) ∧ Hid (PassInv (QT cf lt') lt' d dk n L a) ∧ Aside (SW enc w0 blk off dk wr))
          case atStart => exact ⟨0, d2, rfl, by first | rfl | go_num | (congr 1; omega), Nat.zero_le _, by omega, ⟨0, by omega⟩, HP, S1⟩
          case round =>
            clear S1 HP
            obtain ⟨a, dk, rfl, rfl, han, hkx2, HPa, HPi, S1⟩ := hrel
            have hds : dk.size = n := by rw [HN.out]; exact HPi.out.size
            by_cases hlt : a + 2 * L ≤ n
            · have hr : SortedIn lt' a (a + L) dk ∧ SortedIn lt' (a + L) (a + 2 * L) dk ∧ CrossQ (QT cf lt') dk a (a + L) (a + 2 * L) := by
                obtain ⟨p, hp⟩ := HPa.out
                have H := HPi.out
                subst hp
                exact H.ready (by omega) (by omega) (by omega)
              have hcon := HSym.out (2 * L + 1) a (a + L) (a + 2 * L) dk wr (by omega) hds S1.out (by omega) (by omega) hlt hr.1 hr.2.1 hr.2.2
              rw [show ((a + L : Nat) : Int) = (a : Int) + (L : Int) by omega, show ((a + 2 * L : Nat) : Int) = (a : Int) + 2 * (L : Int) by omega] at hcon
              have HCon := Lib.hid hcon
              have hltz : (a : Int) + 2 * (L : Int) ≤ (n : Int) := by omega
              clear hcon hr hds S1
              go_wp2_with (go_at_call 28; refine HCon.out.mono ?_; rintro e w' ⟨rfl, d3, P3, O3, S3⟩)
              have HPn : Hid (PassInv (QT cf lt') lt' d d3 n L (a + 2 * L)) := by
                obtain ⟨p, hp⟩ := HPa.out
                have H := HPi.out
                subst hp
                exact Lib.hid (H.step (by omega) (Nat.le_of_eq HN.out) (by omega) P3 O3)
              clear P3 O3
              go_roundg (n - (a + 2 * L))
              case measure => omega
              case rel => exact ⟨a + 2 * L, d3, by first | rfl | go_num | (congr 1; omega), by first | rfl | go_num | (congr 1; omega), hlt, Nat.le_refl _, Lib.hid (by obtain ⟨p, hp⟩ := HPa.out; exact ⟨p + 1, by rw [hp, Nat.add_mul, Nat.one_mul]⟩), HPn, S3⟩
            · have hltz : ¬ (a : Int) + 2 * (L : Int) ≤ (n : Int) := by omega
              by_cases ht : a + L < n
              · have htz : (a : Int) + (L : Int) < (n : Int) := by omega
                have hr : SortedIn lt' a (a + L) dk ∧ SortedIn lt' (a + L) n dk ∧ CrossQ (QT cf lt') dk a (a + L) n := by
                  obtain ⟨p, hp⟩ := HPa.out
                  have H := HPi.out
                  subst hp
                  exact H.ready (by omega) (by omega) (by omega)
                have hcon := HSym.out (n + 1) a (a + L) n dk wr (by omega) hds S1.out (by omega) (by omega) (Nat.le_refl _) hr.1 hr.2.1 hr.2.2
                rw [show ((a + L : Nat) : Int) = (a : Int) + (L : Int) by omega] at hcon
                have HCon := Lib.hid hcon
                clear hcon hr hds S1
                go_wp2_with (go_at_call 28; refine HCon.out.mono ?_; rintro e w' ⟨rfl, d3, P3, O3, S3⟩)
                have HPn : Hid (PassInv (QT cf lt') lt' d d3 n (2 * L) 0) := by
                  obtain ⟨p, hp⟩ := HPa.out
                  have H := HPi.out
                  subst hp
                  exact Lib.hid ((H.step (e := n) (by omega) (Nat.le_of_eq HN.out) (by omega) P3 O3).next (Nat.le_refl _))
                clear P3 O3
                go_roundg (n - 2 * L)
                case measure => omega
                case rel => exact ⟨2 * L, d3, by first | rfl | go_num | (congr 1; omega), by omega, by omega, Nat.le_refl _, HPn, S3⟩
              · have htz : ¬ (a : Int) + (L : Int) < (n : Int) := by omega
                have HPn : Hid (PassInv (QT cf lt') lt' d dk n (2 * L) 0) := by
                  obtain ⟨p, hp⟩ := HPa.out
                  have H := HPi.out
                  subst hp
                  exact Lib.hid ((H.tail (by omega) (by omega)).next (Nat.le_refl _))
                go_wp2
                go_roundg (n - 2 * L)
                case measure => omega
                case rel => exact ⟨2 * L, dk, by first | rfl | go_num | (congr 1; omega), by omega, by omega, Nat.le_refl _, HPn, S1⟩
        · have hLnz : ¬ (L : Int) < (n : Int) := by omega
          go_wp2
          go_end0
          have hw := HP.out.whole (by omega)
          exact ⟨rfl, d2, hw.1, hw.2, S1.out⟩

set_option maxHeartbeats 2000000 in
theorem sortStable_any (lt' : α → α → Bool) (hO : SWO lt') (blk off cap n : Nat) (d : Array α) (w0 : World) (C : CmpOk enc cf g cb blk off d.size w0) (R : Row1 enc w0 blk off d) (hn : n = d.size) (hsz : n < 1152921504606846976)
    (hQ : ∀ i j, i < j → j < n → QT cf lt' d[j]! d[i]!) :
    Calls Try.prog 21 #[.slice (some ⟨blk, off, none⟩) n cap, .func (.func g) #[] cb] w0 fun e w' => e = .returned (.tuple #[]) ∧ ∃ d', PermIn 0 n d d' ∧ SortedIn lt' 0 n d' ∧ SW enc w0 blk off d' w' := by
  have hcon := Lib.hid (stable_any lt' hO blk off cap n d w0 C R hn hsz hQ)
  clear R hQ hn
  go_enter Try.func21, Try.ntmps21
  go_wp2_with (go_at_call 25; refine hcon.out.mono ?_; rintro e w' ⟨rfl, h⟩)
  go_end0
  exact ⟨rfl, h⟩

set_option maxHeartbeats 1000000 in
theorem ins_none (A : Option Addr) (c : Nat) (w : World) : Calls Try.prog 27 #[.slice A 0 c, .int .i64 0, .int .i64 0, .func (.func g) #[] cb] w fun e w' => e = .returned (.tuple #[]) ∧ w = w' := by
  go_enter Try.func27, Try.ntmps27
  go_wp2
  refine wp_loop_rounds 1 ?_
  rw [rounds_succ]
  go_wp2
  go_end0
  exact ⟨rfl, rfl⟩
set_option maxHeartbeats 1000000 in
theorem stable_none (A : Option Addr) (c : Nat) (w : World) : Calls Try.prog 25 #[.slice A 0 c, .int .i64 0, .func (.func g) #[] cb] w fun e w' => e = .returned (.tuple #[]) ∧ w = w' := by
  go_enter Try.func25, Try.ntmps25
  go_wp2
  refine wp_loop_rounds 1 ?_
  rw [rounds_succ]
  go_wp2_with (go_at_call 27; refine (ins_none _ _ _).mono ?_; rintro e w' ⟨rfl, rfl⟩)
  refine wp_loop_rounds 1 ?_
  rw [rounds_succ]
  go_wp2
  go_end0
  exact ⟨rfl, rfl⟩
set_option maxHeartbeats 1000000 in
theorem sortStable_none (A : Option Addr) (c : Nat) (w : World) : Calls Try.prog 21 #[.slice A 0 c, .func (.func g) #[] cb] w fun e w' => e = .returned (.tuple #[]) ∧ w = w' := by
  go_enter Try.func21, Try.ntmps21
  go_wp2_with (go_at_call 25; refine (stable_none _ _ _).mono ?_; rintro e w' ⟨rfl, rfl⟩)
  go_end0
  exact ⟨rfl, rfl⟩
end
end Go.Proofs.Ytamlcjepkoagmaa.StI
