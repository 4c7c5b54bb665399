/- Layer 18: awake. No condition. -/
import Derived.Test.YtldijginplgikaaLxa
namespace Go.Proofs.Ytldijginplgikaa
open Go.RowKit
set_option linter.unusedSimpArgs false
set_option linter.unusedVariables false
theorem append_kn {P : Program} {ops : Array Oper} {rest : List Oper} (w : World) {o : Oper} {a : Act} {Q : Exit → Act → World → Prop} (hw : Region.wanted o (yielded ops a.tmps) = true)
    (s x : Operand) (t : TypeId) (hop : o.op = Op.call { callee := Callee.builtin Builtin.append, args := #[s, x], argTypes := #[t, t] })
    (base : Nat) (e : TypeId) (z : Value) (k b : Nat) (h1 : P.underlying t = some (.slice e)) (h2 : (P.info? e).map (fun i => (i.zero, i.size, i.bytes)) = some (some z, k, b)) (hz : z.cells.size = k) (hk : 0 < k)
    (v : Value) (l : List (List Value)) (hs : a.eval s = v) (hown : OwnK w base e k v l) (A : Option Addr) (c m : Nat) (news : List (List Value))
    (hx : a.eval x = .slice A m c) (hr : RdK w k A news) (hn : ∀ y ∈ news, y.length = k) (hone : ∀ y ∈ news, ∀ u ∈ y, u.oneCell' = true) (hm : m = news.length)
    (b0 : l.length + news.length ≤ maxLen) (b1 : (l.length + news.length) * b ≤ 140737488355328) (hbase : base ≤ w.heap.size)
    (hK : ∀ v' w', OwnK w' base e k v' (l ++ news) → w.grownBy w' v.ownBlock → wpList P ops Q rest (a.put o.dst v') w') : wpList P ops Q (o :: rest) a w :=
  BigFrame.wpList_want hw fun K hKK => append_kn_op w s x t hop base e z k b h1 h2 hz hk v l hs hown A c m news hx hr hn hone hm b0 b1 hbase (fun v' w' h1 h2 => hKK _ _ (hK v' w' h1 h2))
def lbG : Lb := (⟨#[103, 112, 117]⟩, ⟨#[49]⟩)
/-- A slice of one new label. -/
theorem hd_one {w w' : World} {k : Nat} {x : Lb} (h : Bk w k 48 #[.string x.1, .string x.2]) : (⟨some ⟨k, 0, none⟩, 1, 1, [x]⟩ : Hd).Ok w :=
  ⟨rfl, fun i y hy => by
    match i with
    | 0 => simp at hy; subst hy; exact ⟨k, 0, rfl, h.cellAt 0, h.cellAt 1⟩
    | i + 1 => simp at hy, Nat.le_refl _, by show 1 ≤ _; omega⟩
set_option maxHeartbeats 6400000 in
set_option maxRecDepth 100000 in
theorem awake18_any (w : World) : Calls Try.prog 7 #[] w fun e w' => e = .returned (.bool true) ∧ Below w.heap.size w w' := by
  have K1 := Lib.hid (fun (W : World) (h : Below w.heap.size w W) => x_new (w := w) W h)
  have K2 := Lib.hid (fun (W : World) (g : Nat) (F : Nat → Prop) (k : Nat) (hk : Bk W k 48 #[.string lbG.1, .string lbG.2]) (hF : ¬ F k) (H : Xl w W g F []) => x_putA (w := w) (wr := W) (g := g) (F := F) (E := []) ⟨#[97]⟩ (some ⟨k, 0, none⟩) 1 1 [lbG] (hd_one (w' := W) hk) (fun W2 hg => hd_one (w' := W) (hk.grp hg hF)) (by omega) (by simp) H)
  have K3 := Lib.hid (fun (W : World) (g : Nat) (F : Nat → Prop) (k : Nat) (E : List NL) (hk : Bk W k 48 #[.string lbG.1, .string lbG.2]) (hE : E.length ≤ 1000) (H : Xl w W g F E) => x_with (w := w) (wr := W) (g := g) (F := F) (E := E) (some ⟨k, 0, none⟩) 1 1 [lbG] (hd_one (w' := W) hk) (by omega) hE H)
  have K4 := Lib.hid (fun (W : World) (g : Nat) (F : Nat → Prop) (E : List NL) (hE : E.length ≤ 1000) (H : Xl w W g F E) => x_len (w := w) (wr := W) (g := g) (F := F) (E := E) hE H)
  go_enter Try.func7, Try.ntmps7
  go_wp2_with fail
  refine (K1.out _ (Below.refl _ _)).mono ?_
  rintro e w1 ⟨⟨g, F, rfl, H1, hF1⟩, -⟩
  have HH := Lib.hid H1
  clear hF1 H1
  go_wp2_with fail
  have hal1 : Below w1.heap.size w1 (w1.alloc (.cells #[.string lbG.1, .string lbG.2] 48)) := (Below.refl _ _).alloc (Nat.le_refl _) _
  refine (K2.out _ g F w1.heap.size (Bk.fresh w1 48 #[.string lbG.1, .string lbG.2]) (fun h => by have := (HH.out.blk h).2; omega) (HH.out.below hal1)).mono ?_
  rintro e w2 ⟨rfl, ⟨F2, H2, -⟩, -⟩
  have H2 : Hid (Xl w w2 g F2 [(⟨#[97]⟩, [lbG])]) := H2
  clear HH hal1
  go_wp2_with fail
  have hal2 : Below w2.heap.size w2 (w2.alloc (.cells #[.string lbG.1, .string lbG.2] 48)) := (Below.refl _ _).alloc (Nat.le_refl _) _
  refine (K3.out _ g F2 w2.heap.size _ (Bk.fresh w2 48 #[.string lbG.1, .string lbG.2]) (by simp) (H2.out.below hal2)).mono ?_
  rintro e w3 ⟨⟨m, n, A, c, rfl, hn, -, ho, ht⟩, hb3⟩
  have hl : m = [⟨#[97]⟩] := by
    have h1 := ht.1
    rw [show (([((⟨#[97]⟩ : ByteArray), [lbG])] : List NL).filter fun p => hasB p.2 [lbG]).map Prod.fst = [⟨#[97]⟩] by rw [List.filter_eq_self.2 (fun p hp => by rw [List.mem_singleton.1 hp]; exact hasB_iff.2 fun lb h => h)]; rfl] at h1
    exact List.perm_singleton.1 h1
  subst hl
  have hn1 : n = 1 := hn
  subst hn1
  obtain ⟨A', c', hv, hr, -, -⟩ := ho.rds
  injection hv with e1 e2 e3
  subst e1
  obtain ⟨g3, o3, hA, hg3, hx⟩ := hr.at (i := 0) (by simp)
  subst hA
  have hx : w3.cell? ⟨g3, o3, none⟩ = some (.string ⟨#[97]⟩) := hx
  have H3 := Lib.hid ((H2.out.below hal2).below hb3)
  clear hn ho ht hr e2 e3 hb3 H2 hal2
  go_wp2_with fail
  refine (K4.out w3 g F2 _ (by simp) H3.out).mono ?_
  rintro e w4 ⟨rfl, hb4⟩
  have HB4 := Lib.hid ((H3.out.below hb4).be)
  clear hb4 H3
  go_wp2_with fail
  go_ret
  exact ⟨rfl, HB4.out⟩
end Go.Proofs.Ytldijginplgikaa
