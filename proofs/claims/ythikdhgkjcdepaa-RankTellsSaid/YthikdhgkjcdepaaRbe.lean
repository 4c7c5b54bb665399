/- The contract of the document's own Best (layer 12). Condition: as of Sorted. -/
import Derived.Test.YthikdhgkjcdepaaRso
import Derived.Test.YthikdhgkjcdepaaVal
namespace Go.Proofs.Ythikdhgkjcdepaa
open Go.RowKit
set_option linter.unusedSimpArgs false
set_option linter.unusedVariables false

/-- The first one's name, and whether there is one. -/
def bestP (E : List En) : ByteArray × Bool := match E with | [] => (⟨#[]⟩, false) | x :: _ => (x.1, true)

set_option maxHeartbeats 3200000 in
theorem rbest_any (A0 : Option Addr) (N c0 : Nat) (L : List Ml) (A : Option Addr) (n cap : Nat) (l : List Jb) (t : Kt) (tl : List Lb) (w : World) (hN : Hid (N = L.length)) (hNl : N ≤ 1000000) (hL : Hid (RdM w A0 (mcs L))) (hLo : Hid (MsOk w L)) (hn : Hid (n = l.length)) (hl : n ≤ 1000000) (hA : Hid (RdJ w A l)) (hT : Hid (KtOk w t tl)) :
    Calls Try.prog 12 #[.slice A0 N c0, .slice A n cap, .agg t.arr] w fun e w' => e = retV (bestP (srt t tl l L)) ∧ Below w.heap.size w w' := by
  have k1 := fun (W : World) (h1 : Hid (RdM W A0 (mcs L))) (h2 : Hid (MsOk W L)) (h3 : Hid (RdJ W A l)) (h4 : Hid (KtOk W t tl)) => rsorted_any A0 N c0 L A n cap l t tl W hN hNl h1 h2 hn hl h3 h4
  obtain ⟨E, hE⟩ : ∃ E, srt t tl l L = E := ⟨_, rfl⟩
  rw [hE] at k1
  rw [hE]
  have K1 := Lib.hid k1; clear k1 hE
  go_enter Try.func12, Try.ntmps12
  have HT0 := Lib.hid (show Bk (w.alloc (.cells t.arr 28)) w.heap.size 28 t.arr from Bk.fresh _ _ _)
  have hB0 : Below w.heap.size w (w.alloc (.cells t.arr 28)) := (Below.refl _ _).alloc (Nat.le_refl _) _
  go_wp2_with (with_reducible refine load_bk rfl 28 _ rfl w.heap.size 0 rfl 28 t.arr t.arr _ HT0.out (Part.whole _) Try.underlying28 rfl (by kernel_rfl) ?_)
  refine (K1.out _ (hL.out.later hB0) (hLo.out.later hB0) (hA.out.later hB0) (hT.out.later hB0)).mono ?_; rintro v w1 ⟨⟨u, rfl, hO⟩, hb1⟩
  have hB1 : Below w.heap.size w w1 := hB0.trans (hb1.mono hB0.size)
  obtain ⟨B, c, hv, hr, hc, hc'⟩ := hO.rds
  subst hv
  clear hO
  cases E with
  | nil =>
    go_wp2_with fail
    go_ret2
    exact ⟨rfl, hB1⟩
  | cons x E =>
    obtain ⟨g, o, rfl, hg, c0⟩ := hr.at (i := 0) (by simp [nms])
    rw [show (nms (x :: E))[0]'(by simp [nms]) = x.1 by simp [nms], Nat.add_zero] at c0
    obtain ⟨q, hq⟩ : ∃ q, q = (nms (x :: E)).length := ⟨_, rfl⟩
    have hq0 : 0 < q := by rw [hq]; simp [nms]
    rw [← hq] at hc
    rw [← hq]
    clear hr hq
    have hq1 : ((q : Int) == 0) = false := by simp; omega
    go_wp2_with fail
    go_ret2
    exact ⟨rfl, hB1⟩
end Go.Proofs.Ythikdhgkjcdepaa
