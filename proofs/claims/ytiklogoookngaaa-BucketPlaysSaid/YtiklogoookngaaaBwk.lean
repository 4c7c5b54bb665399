/- What the walks of layer 17's laws share: an index and the document's, that hold the same names. No condition. -/
import Derived.Test.YtiklogoookngaaaBx6
import Derived.Test.YtiklogoookngaaaBx8
import Derived.Test.YtiklogoookngaaaBxa
import Derived.Test.YtiklogoookngaaaRtx
namespace Go.Proofs.Ytiklogoookngaaa
open Go.RowKit
set_option linter.unusedSimpArgs false
set_option linter.unusedVariables false
/-- An index and the document's. -/
structure Bt (w wr : World) (g : Nat) (M : Nat → Value) (r : Nat) (vN vA : Value) (E : List NV) : Prop where
  ix : Xe w wr g M E
  rx : Rx wr w.heap.size r vN vA E
  asc : Asc E
section
variable {w wr w' : World} {g r : Nat} {M : Nat → Value} {vN vA : Value} {D E : List NV}
theorem Bt.below (H : Bt w wr g M r vN vA E) (hb : Below wr.heap.size wr w') : Bt w w' g M r vN vA E := ⟨H.ix.below hb, H.rx.later hb, H.asc⟩
theorem Bt.left (H : Bt w wr g M r vN vA E) (hg : GrP (IxB g M) wr w') : Rx w' w.heap.size r vN vA E := H.rx.grp hg fun k hk hk2 => H.ix.ix.parted H.rx k hk2 hk
theorem Xe.rxk (H : Xe w wr g M D) (R : Rx wr w.heap.size r vN vA E) (hg : GrP (fun k => k = r) wr w') : Xe w w' g M D :=
  ⟨H.ix.grp hg fun k hk e => by subst e; exact H.ix.parted R k hk (.inl rfl), H.be.trans (hg.below H.be.size fun k hk => by rw [hk]; exact R.le)⟩
end
end Go.Proofs.Ytiklogoookngaaa
