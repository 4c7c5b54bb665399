/- What the walks of layer 19's laws share: a wheel and the document's, that hold the same names. No condition. -/
import Derived.Test.YtbegbecmnhldkaaTw6
import Derived.Test.YtbegbecmnhldkaaTw8
import Derived.Test.YtbegbecmnhldkaaTwa
import Derived.Test.YtbegbecmnhldkaaRtx
namespace Go.Proofs.Ytbegbecmnhldkaa
open Go.RowKit
set_option linter.unusedSimpArgs false
set_option linter.unusedVariables false
/-- A wheel and the document's. -/
structure Wt (w wr : World) (g : Nat) (M : Nat → Value) (r : Nat) (vN vA : Value) (E : List NT) : Prop where
  ix : Wxe w wr g M E
  rx : Ry wr w.heap.size r vN vA E
  asc : AscT E
section
variable {w wr w' : World} {g r : Nat} {M : Nat → Value} {vN vA : Value} {D E : List NT}
theorem Wt.below (H : Wt w wr g M r vN vA E) (hb : Below wr.heap.size wr w') : Wt w w' g M r vN vA E := ⟨H.ix.below hb, H.rx.later hb, H.asc⟩
theorem Wt.left (H : Wt w wr g M r vN vA E) (hg : GrP (WxB g M) wr w') : Ry w' w.heap.size r vN vA E := H.rx.grp hg fun k hk hk2 => H.ix.ix.parted H.rx k hk2 hk
theorem Wxe.rxk (H : Wxe w wr g M D) (R : Ry wr w.heap.size r vN vA E) (hg : GrP (fun k => k = r) wr w') : Wxe w w' g M D :=
  ⟨H.ix.grp hg fun k hk e => by subst e; exact H.ix.parted R k hk (.inl rfl), H.be.trans (hg.below H.be.size fun k hk => by rw [hk]; exact R.le)⟩
end
end Go.Proofs.Ytbegbecmnhldkaa
