/- The standard library's merge of two sorted neighbours (symMerge), at whatever length: what it leaves in memory. Conditions: the parts are sorted by an order that agrees with the comparison on elements of unlike parts. -/
import Derived.Test.YtamlcjepkoagmaaSzaI
import Derived.Test.YtamlcjepkoagmaaSzbI
namespace Go.Proofs.Ytamlcjepkoagmaa.StI
open Go.Shelf Go.RowKit Go.Lib Go.Sort Go.Proofs
set_option linter.unusedSimpArgs false
set_option linter.unusedVariables false
variable {P : Program} {α : Type} [Inhabited α]

theorem sym_any (L : LayS P) (enc : α → Value) (cf : α → α → Int) (lt' : α → α → Bool) (hO : SWO lt') (g : Nat) (cb : Array Value) (blk off cap size : Nat) (d0 : Array α) (w0 : World)
    (eg : ∀ args w, (callFunc g args).run P w = .ok (.enter g args) w) (hcmp : CmpLays1 P g cb enc cf blk off size w0)
    (R : Row1 enc w0 blk off d0) (hs : d0.size = size) (hsz : size < 4611686018427387904) : ∀ N, SymRec P enc cf lt' g cb blk off cap size w0 N := by
  intro N
  induction N with
  | zero => intro a m b d w h; omega
  | succ N ih =>
    intro a m b d w hN hd S ham hmb hb h1 h2 hX
    by_cases hA : m = a + 1
    · subst hd; exact symA L enc cf lt' hO g cb blk off cap a m b d0 d w0 w eg hcmp R hs S hA hmb hb hsz h2 hX
    · by_cases hB : b = m + 1
      · subst hd; exact symB L enc cf lt' hO g cb blk off cap a m b d0 d w0 w eg hcmp R hs S ham hA hB hb hsz h1 hX
      · subst hd
        by_cases hC : (a + b) / 2 < m
        · exact symC1 L enc cf lt' hO g cb blk off cap a m b d0 d w0 w eg hcmp R hs S ham hA hmb hB hb hsz h1 h2 hX hC (fun a' m' b' d' w' hl => ih a' m' b' d' w' (by omega))
        · exact symC2 L enc cf lt' hO g cb blk off cap a m b d0 d w0 w eg hcmp R hs S ham hA hmb hB hb hsz h1 h2 hX hC (fun a' m' b' d' w' hl => ih a' m' b' d' w' (by omega))
end Go.Proofs.Ytamlcjepkoagmaa.StI
