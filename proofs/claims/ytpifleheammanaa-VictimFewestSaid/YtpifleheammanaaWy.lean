/- The contract of feas.Why. Condition: the slice reads as a list of jobs, of at most 1000000; the machine and the task are ones that Go can have. -/
import Derived.Test.YtpifleheammanaaRp
import Derived.Test.YtpifleheammanaaVal
namespace Go.Proofs.Ytpifleheammanaa
open Go.RowKit
set_option linter.unusedSimpArgs false
set_option linter.unusedVariables false

/-- The reason, of what each test says. -/
def whyT (e : Int) (N K U H R F : Bool) : Int :=
  if e = 0 then (if N && K then (if U then (if H then (if R then 3 else if F then 0 else 4) else 2) else 1) else 5) else 5
/-- What is free on a machine. -/
def freM (m : Mc) (l : List Jb) : Int × Int × Int × Int :=
  fre m.a m.b m.c (sm 0 0 0 (onM m.nm l)).1 (sm 0 0 0 (onM m.nm l)).2.1 (sm 0 0 0 (onM m.nm l)).2.2.1 (sm 0 0 0 (onM m.nm l)).2.2.2
/-- Is this machine's node valid? -/
abbrev Mc.ok (m : Mc) (ml : List Lb) : Bool := nodeB m.nm m.a m.b m.c ml
/-- Is this task valid? -/
abbrev Kt.ok (t : Kt) (tl : List Lb) : Bool := taskB t.nm t.qu t.pr t.a t.b t.c tl t.ap t.ga t.sz
/-- Why a machine can't run a task. -/
def why (m : Mc) (ml : List Lb) (t : Kt) (tl : List Lb) (l : List Jb) : Int :=
  whyT (freM m l).2.2.2 (m.ok ml) (t.ok tl) m.up (hasB ml tl) (rep m.nm t.ap t.nm l) (fB t.a t.b t.c (freM m l).1 (freM m l).2.1 (freM m l).2.2.1)
theorem freeM_any (m : Mc) (A : Option Addr) (n cap : Nat) (l : List Jb) (w : World) (hn : Hid (n = l.length)) (hl : n ≤ 1000000) (hA : Hid (RdJ w A l)) (p q r e : Int) (hr : Hid (freM m l = (p, q, r, e))) :
    Calls Try.prog 23 #[.agg m.arr, .slice A n cap] w fun t w' => t = .returned (.tuple #[.agg #[.int .i64 p, .int .i64 q, .int .i64 r], .int .i64 e]) ∧ Below w.heap.size w w' :=
  free_any m A n cap l w hn hl hA _ _ _ _ rfl p q r e hr

set_option maxHeartbeats 3200000 in
theorem why_any (m : Mc) (ml : List Lb) (A : Option Addr) (n cap : Nat) (l : List Jb) (t : Kt) (tl : List Lb) (w : World) (hn : Hid (n = l.length)) (hl : n ≤ 1000000) (hA : Hid (RdJ w A l)) (hM : Hid (McOk w m ml)) (hT : Hid (KtOk w t tl)) (r : Int) (hr : Hid (why m ml t tl l = r)) :
    Calls Try.prog 16 #[.agg m.arr, .slice A n cap, .agg t.arr] w fun e w' => e = .returned (.int .i64 r) ∧ Below w.heap.size w w' := by
  obtain ⟨f, hf⟩ : ∃ f, freM m l = f := ⟨_, rfl⟩
  obtain ⟨p, q, s, e⟩ := f
  obtain ⟨N, hN⟩ : ∃ N, m.ok ml = N := ⟨_, rfl⟩
  obtain ⟨K, hK⟩ : ∃ K, t.ok tl = K := ⟨_, rfl⟩
  obtain ⟨U, hU⟩ : ∃ U, m.up = U := ⟨_, rfl⟩
  obtain ⟨H, hH⟩ : ∃ H, hasB ml tl = H := ⟨_, rfl⟩
  obtain ⟨R, hR⟩ : ∃ R, rep m.nm t.ap t.nm l = R := ⟨_, rfl⟩
  obtain ⟨F, hF⟩ : ∃ F, fB t.a t.b t.c p q s = F := ⟨_, rfl⟩
  have hres : whyT e N K U H R F = r := by have h := hr.out; unfold why at h; rw [hf, hN, hK, hU, hH, hR, hF] at h; exact h
  have k1 := fun (W : World) (h : Hid (RdJ W A l)) => freeM_any m A n cap l W hn hl h p q s e hf
  have k2 := fun (W : World) (h : McOk W m ml) => node_any m.nm m.a m.b m.c m.A m.n m.cp ml W (by have := h.nm; omega) h.lb.len h.lb.rd h.lb.sz h.lb.cap h.lb.cap2
  have k3 := fun (W : World) (h : KtOk W t tl) => task_any t.nm t.qu t.pr t.a t.b t.c t.A t.n t.cp tl t.ap t.ga t.sz W (by have := h.nm; omega) (by have := h.qu; omega) h.lb.len h.lb.rd h.lb.sz h.lb.cap h.lb.cap2 (by have := h.ap; omega) (by have := h.ga; omega)
  have k4 := fun (W : World) (h : McOk W m ml) (h' : KtOk W t tl) => has_any m.A t.A m.n m.cp t.n t.cp ml tl W h.lb.len h'.lb.len h.lb.rd h'.lb.rd h.lb.cap h.lb.cap2 h'.lb.cap h'.lb.cap2
  have k5 := fun (W : World) (h : Hid (RdJ W A l)) => repels_any m A n cap l t W hn hl h
  have k6 := fun (W : World) => fits_any t.a t.b t.c p q s W
  have e2 : nodeB m.nm m.a m.b m.c ml = N := hN
  have e3 : taskB t.nm t.qu t.pr t.a t.b t.c tl t.ap t.ga t.sz = K := hK
  rw [e2] at k2
  rw [e3] at k3
  rw [hH] at k4
  rw [hR] at k5
  rw [hF] at k6
  have K1 := Lib.hid k1; have K2 := Lib.hid k2; have K3 := Lib.hid k3; have K4 := Lib.hid k4; have K5 := Lib.hid k5; have K6 := Lib.hid k6
  have HRes := Lib.hid hres
  have HU := Lib.hid hU
  clear k1 k2 k3 k4 k5 k6 hN hK hU hH hR hF e2 e3 hf hres hr
  go_enter Try.func16, Try.ntmps16
  have hM0 : Bk ((w.alloc (.cells m.arr 37)).alloc (.cells t.arr 28)) w.heap.size 37 m.arr := (Bk.fresh w _ _).later ((Below.refl _ _).alloc (Nat.le_refl _) _)
  have hT0 : Bk ((w.alloc (.cells m.arr 37)).alloc (.cells t.arr 28)) (w.heap.size + 1) 28 t.arr := Bk.freshAt _ _ _ (by simp)
  have hB0 : Below w.heap.size w ((w.alloc (.cells m.arr 37)).alloc (.cells t.arr 28)) := ((Below.refl _ _).alloc (Nat.le_refl _) _).alloc (by simp) _
  have HM0 := Lib.hid hM0; clear hM0
  have HT0 := Lib.hid hT0; clear hT0
  have HA0 := Lib.hid (hA.out.later hB0)
  go_wp2_with (with_reducible refine load_bk rfl 37 _ rfl w.heap.size 0 rfl 37 m.arr m.arr _ HM0.out (Part.whole _) Try.underlying37 rfl (by kernel_rfl) ?_)
  refine (K1.out _ HA0).mono ?_; rintro v w1 ⟨rfl, hb1⟩
  have hB1 : Below w.heap.size w w1 := hB0.trans (hb1.mono hB0.size)
  have HM1 := Lib.hid (HM0.out.later hb1)
  have HT1 := Lib.hid (HT0.out.later hb1)
  clear HM0 HT0 HA0 hB0
  by_cases he : e = 0
  case neg =>
    have hq : r = 5 := by have h := HRes.out; unfold whyT at h; rw [if_neg he] at h; exact h.symm
    subst hq
    have hd : decide (e = 0) = false := decide_eq_false he
    go_wp2_with (((with_reducible refine store_bk rfl 25 (.tmp 7) (.tmp 13) rfl w1.heap.size 0 #[.int .i64 p, .int .i64 q, .int .i64 s] rfl rfl 25 _ #[.int .i64 p, .int .i64 q, .int .i64 s] (Bk.fresh _ _ _) (by kernel_rfl) (by simp) (by kernel_rfl) rfl ?_); intro w2 hX2 hg2 hs2; have hB2 : Below w.heap.size w w2 := grown_below (hB1.alloc hB1.size _) hg2 hB1.size))
    go_ret
    exact ⟨rfl, hB2⟩
  case pos =>
    subst he
    have lt1 : w.heap.size + 1 < w1.heap.size := HT1.out.here
    go_wp2_with (first | ((with_reducible refine store_bk rfl 25 (.tmp 7) (.tmp 13) rfl w1.heap.size 0 #[.int .i64 p, .int .i64 q, .int .i64 s] rfl rfl 25 _ #[.int .i64 p, .int .i64 q, .int .i64 s] (Bk.fresh _ _ _) (by kernel_rfl) (by simp) (by kernel_rfl) rfl ?_); intro w2 hX2 hg2 hs2; have HX2 := Lib.hid hX2; clear hX2; have hB2 : Below w.heap.size w w2 := grown_below (hB1.alloc hB1.size _) hg2 hB1.size; have HM2 := Lib.hid ((HM1.out.later ((Below.refl _ _).alloc (Nat.le_refl _) _)).stays hg2 (by simp; omega)); have HT2 := Lib.hid ((HT1.out.later ((Below.refl _ _).alloc (Nat.le_refl _) _)).stays hg2 (by simp; omega))) | (with_reducible refine load_bk rfl 35 _ rfl w.heap.size 0 rfl 37 m.arr m.node _ HM2.out (Part.of rfl) Try.underlying35 rfl (by kernel_rfl) ?_))
    have HOm := Lib.hid (hM.out.later hB2); have HOt := Lib.hid (hT.out.later hB2)
    refine (K2.out _ HOm.out).mono ?_; rintro v w3 ⟨rfl, hb3⟩
    have hB3 : Below w.heap.size w w3 := hB2.trans (hb3.mono hB2.size)
    cases N
    case false =>
      have hq : r = 5 := by have h := HRes.out; unfold whyT at h; exact h.symm
      subst hq
      go_wp2_with fail
      go_ret
      exact ⟨rfl, hB3⟩
    case true =>
      have HX3 := Lib.hid (HX2.out.later hb3); have HM3 := Lib.hid (HM2.out.later hb3); have HT3 := Lib.hid (HT2.out.later hb3); have HOt3 := Lib.hid (HOt.out.later hb3); have HOm3 := Lib.hid (HOm.out.later hb3)
      clear HX2 HM2 HT2 HOt HOm HM1 HT1 hg2 hs2 lt1
      go_wp2_with (with_reducible refine load_bk rfl 28 _ rfl (w.heap.size + 1) 0 rfl 28 t.arr t.arr _ HT3.out (Part.whole _) Try.underlying28 rfl (by kernel_rfl) ?_)
      refine (K3.out _ HOt3.out).mono ?_; rintro v w4 ⟨rfl, hb4⟩
      have hB4 : Below w.heap.size w w4 := hB3.trans (hb4.mono hB3.size)
      cases K
      case false =>
        have hq : r = 5 := by have h := HRes.out; unfold whyT at h; exact h.symm
        subst hq
        go_wp2_with fail
        go_ret
        exact ⟨rfl, hB4⟩
      case true =>
        have HX4 := Lib.hid (HX3.out.later hb4); have HM4 := Lib.hid (HM3.out.later hb4); have HT4 := Lib.hid (HT3.out.later hb4); have HOt4 := Lib.hid (HOt3.out.later hb4); have HOm4 := Lib.hid (HOm3.out.later hb4)
        clear HX3 HM3 HT3 HOt3 HOm3
        have cu : w4.cell? ⟨w.heap.size, 5, none⟩ = some (.bool U) := by rw [← HU.out]; exact HM4.out.cellAt 5
        have cl : w4.cell? ⟨w.heap.size, 4, none⟩ = some (.slice m.A m.n m.cp) := HM4.out.cellAt 4
        have ct : w4.cell? ⟨w.heap.size + 1, 6, none⟩ = some (.slice t.A t.n t.cp) := HT4.out.cellAt 6
        have z0 : w.heap.size < w4.heap.size := HM4.out.here
        have z1 : w.heap.size + 1 < w4.heap.size := HT4.out.here
        cases U
        case false =>
          have hq : r = 1 := by have h := HRes.out; unfold whyT at h; exact h.symm
          subst hq
          go_wp2_with fail
          go_ret
          exact ⟨rfl, hB4⟩
        case true =>
          go_wp2_with fail
          refine (K4.out _ HOm4.out HOt4.out).mono ?_; rintro v w5 ⟨rfl, hb5⟩
          have hB5 : Below w.heap.size w w5 := hB4.trans (hb5.mono hB4.size)
          clear cu cl ct z0 z1
          cases H
          case false =>
            have hq : r = 2 := by have h := HRes.out; unfold whyT at h; exact h.symm
            subst hq
            go_wp2_with fail
            go_ret
            exact ⟨rfl, hB5⟩
          case true =>
            have HX5 := Lib.hid (HX4.out.later hb5); have HM5 := Lib.hid (HM4.out.later hb5); have HT5 := Lib.hid (HT4.out.later hb5)
            have HA5 := Lib.hid (hA.out.later hB5)
            clear HX4 HM4 HT4
            go_wp2_with (first | (with_reducible refine load_bk rfl 37 _ rfl w.heap.size 0 rfl 37 m.arr m.arr _ HM5.out (Part.whole _) Try.underlying37 rfl (by kernel_rfl) ?_) | (with_reducible refine load_bk rfl 28 _ rfl (w.heap.size + 1) 0 rfl 28 t.arr t.arr _ HT5.out (Part.whole _) Try.underlying28 rfl (by kernel_rfl) ?_))
            refine (K5.out _ HA5).mono ?_; rintro v w6 ⟨rfl, hb6⟩
            have hB6 : Below w.heap.size w w6 := hB5.trans (hb6.mono hB5.size)
            cases R
            case true =>
              have hq : r = 3 := by have h := HRes.out; unfold whyT at h; exact h.symm
              subst hq
              go_wp2_with fail
              go_ret
              exact ⟨rfl, hB6⟩
            case false =>
              have HX6 := Lib.hid (HX5.out.later hb6); have HT6 := Lib.hid (HT5.out.later hb6)
              clear HX5 HT5
              go_wp2_with (first | (with_reducible refine load_bk rfl 25 _ rfl (w.heap.size + 1) 3 rfl 28 t.arr #[.int .i64 t.a, .int .i64 t.b, .int .i64 t.c] _ HT6.out (Part.of rfl) Try.underlying25 rfl (by kernel_rfl) ?_) | (with_reducible refine load_bk rfl 25 _ rfl w1.heap.size 0 rfl 25 #[.int .i64 p, .int .i64 q, .int .i64 s] #[.int .i64 p, .int .i64 q, .int .i64 s] _ HX6.out (Part.whole _) Try.underlying25 rfl (by kernel_rfl) ?_))
              refine (K6.out _).mono ?_; rintro v w7 ⟨rfl, hb7⟩
              have hB7 : Below w.heap.size w w7 := hB6.trans (hb7.mono hB6.size)
              cases F
              case false =>
                have hq : r = 4 := by have h := HRes.out; unfold whyT at h; exact h.symm
                subst hq
                go_wp2_with fail
                go_ret
                exact ⟨rfl, hB7⟩
              case true =>
                have hq : r = 0 := by have h := HRes.out; unfold whyT at h; exact h.symm
                subst hq
                go_wp2_with fail
                go_ret
                exact ⟨rfl, hB7⟩
end Go.Proofs.Ytpifleheammanaa
