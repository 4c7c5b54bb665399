/- Layer 18: slices.Sorted of a map's keys, With, Len. Condition: at most 100000 names, at most 1000 labels. -/
import Derived.Test.YtldijginplgikaaLis
namespace Go.Proofs.Ytldijginplgikaa
open Go.RowKit
set_option linter.unusedSimpArgs false
set_option linter.unusedVariables false

set_option maxHeartbeats 3200000 in
set_option maxRecDepth 100000 in
theorem sorted_any (Bm : Nat) (o : Option Nat) (L : EntG ByteArray) (hL : L.length ≤ 1000000) (w : World) (hm : Hid (w.cell? ⟨Bm, 0, none⟩ = some (.map o))) (hown : Hid (MapH Value.string w (.map o) L)) :
    Calls Try.prog 20 #[.func (.func 29) #[] #[.pointer (some ⟨Bm, 0, none⟩)]] w fun e w' => (∃ l A c, e = .returned (.slice A (List.length l) c) ∧ OwnK w' w.heap.size 9 1 (.slice A (List.length l) c) (cellsS l) ∧ l.Perm (L.map Prod.fst) ∧ l.Pairwise (fun x y => sL y x = false)) ∧ Below w.heap.size w w' := by
  have KC := Lib.hid (collectS_any 29 #[.pointer (some ⟨Bm, 0, none⟩)] (enters_of Try.func29 (by kernel_rfl) rfl) (fun xs => ∃ ps : EntG ByteArray, ps.Perm L ∧ xs = ps.map Prod.fst) (fun _ => True) L.length hL w
      (fun n w' h1 hb => keys_stops Fence.wide n trivial rfl h1 Bm o L trivial w' ((hb.cell (World.block_lt_of_cell? w _ hm.out)).trans hm.out) (hown.out.later hb)))
  have KS : Hid (∀ (w : World) (b n c : Nat) (A : Option Addr) (l : List ByteArray), n ≤ 1000000 → Hid (OwnK w b 9 1 (.slice A n c) (cellsS l)) → Calls Try.prog 26 #[.slice A n c] w fun e w' => e = .returned (.tuple #[]) ∧ (∃ l', l'.Perm l ∧ l'.Pairwise (fun x y => sL y x = false) ∧ OwnK w' b 9 1 (.slice A n c) (cellsS l')) ∧ Below b w w') := fun w b n c A l h1 h2 => sortS_any w b n c A l h1 h2
  have HLN := Lib.hid hL
  clear hL
  go_enter Try.func20, Try.ntmps20
  go_wp2_with fail
  refine KC.out.mono ?_
  rintro e w1 ⟨v, xs, rfl, ⟨ps, hps, hxs⟩, ho, hb⟩
  obtain ⟨A, c, hv, _, _, _⟩ := ho.rds
  obtain ⟨q, hq⟩ : ∃ q, q = xs.length := ⟨_, rfl⟩
  rw [← hq] at hv
  subst hv
  have hq1 : q ≤ 1000000 := by
    rw [hq, hxs, List.length_map, hps.length_eq]; exact HLN.out
  have HO := Lib.hid ho
  have HB := Lib.hid hb
  have HQ := Lib.hid hq
  have HP : Hid (xs.Perm (L.map Prod.fst)) := by show xs.Perm _; rw [hxs]; exact hps.map _
  have K2 := Lib.hid (KS.out w1 w.heap.size q c A xs hq1 HO)
  clear ho hb hq hq1 hxs hps KC KS
  go_wp2_with fail
  refine K2.out.mono ?_
  rintro e w2 ⟨rfl, ⟨l, hl1, hl2, hl3⟩, hb2⟩
  have HR : Hid (OwnK w2 w.heap.size 9 1 (.slice A q c) (cellsS l)) := hl3
  have HLQ : Hid (q = l.length) := by show q = _; rw [HQ.out, hl1.length_eq]
  have HL1 := Lib.hid hl1
  have HL2 := Lib.hid hl2
  have HB2 := Lib.hid hb2
  clear hl1 hl2 hl3 hb2 K2
  go_wp2_with fail
  go_ret
  refine ⟨⟨l, A, c, by rw [← HLQ.out]; rfl, by rw [← HLQ.out]; exact HR.out, HL1.out.trans HP.out, HL2.out⟩, HB.out.trans HB2.out⟩
/-- Names that are collected out of a set: those of dn were looked at, pd is, those of tn will be. -/
structure Wn (w0 wr : World) (mv : Value) (r : Nat) (L : EntG ByteArray) (f : ByteArray → Bool) (dn pd tn : EntG ByteArray) (ns : List ByteArray) (v : Value) : Prop where
  be : Below w0.heap.size w0 wr
  ow : OwnK wr w0.heap.size 9 1 v (cellsS ns)
  pm : ns.Perm ((dn.map Prod.fst).filter f)
  al : (dn ++ (pd ++ tn)).Perm L
  rg : RngG Value.string wr mv r L tn
  low : w0.heap.size ≤ r
section
variable {w0 wr w' : World} {mv v v' u : Value} {r : Nat} {L dn pd tn tn' : EntG ByteArray} {f : ByteArray → Bool} {ns : List ByteArray} {s : ByteArray}
theorem Wn.below (H : Wn w0 wr mv r L f dn pd tn ns v) (hb : Below wr.heap.size wr w') : Wn w0 w' mv r L f dn pd tn ns v :=
  ⟨H.be.trans (hb.mono H.be.size), H.ow.below hb, H.pm, H.al, H.rg.later hb, H.low⟩
theorem Wn.next (H : Wn w0 wr mv r L f dn [] tn ns v) (hp : tn.Perm ((s, u) :: tn')) (hr : RngG Value.string w' mv r L tn') (hg : wr.grownBy w' (some r)) : Wn w0 w' mv r L f dn [(s, u)] tn' ns v :=
  ⟨H.be.grown hg H.be.size fun k hk => by injection hk with hk; rw [← hk]; exact H.low, H.ow.grp (GrP.of hg) fun k hk e => H.ow.notIterG H.rg (by rw [hk, e]), H.pm, (List.Perm.append_left dn hp.symm).trans H.al, hr, H.low⟩
theorem Wn.skip (H : Wn w0 wr mv r L f dn [(s, u)] tn ns v) (hf : f s = false) : Wn w0 wr mv r L f (dn ++ [(s, u)]) [] tn ns v := by
  refine ⟨H.be, H.ow, ?_, ?_, H.rg, H.low⟩
  · rw [List.map_append, List.filter_append]
    have : (([(s, u)] : EntG ByteArray).map Prod.fst).filter f = [] := by simp [hf]
    rw [this, List.append_nil]; exact H.pm
  · rw [List.append_assoc]; exact H.al
theorem Wn.put (H : Wn w0 wr mv r L f dn [(s, u)] tn ns v) (hO : OwnK w' w0.heap.size 9 1 v' (cellsS (ns ++ [s]))) (hg : wr.grownBy w' v.ownBlock) (hf : f s = true) : Wn w0 w' mv r L f (dn ++ [(s, u)]) [] tn (ns ++ [s]) v' := by
  refine ⟨H.be.grown hg H.be.size fun k hk => H.ow.block k hk, hO, ?_, by rw [List.append_assoc]; exact H.al, H.rg.kept hg (H.ow.notMapG H.rg) (H.ow.notIterG H.rg), H.low⟩
  rw [List.map_append, List.filter_append]
  have : (([(s, u)] : EntG ByteArray).map Prod.fst).filter f = [s] := by simp [hf]
  rw [this]; exact H.pm.append_right _
theorem Wn.len (H : Wn w0 wr mv r L f dn pd tn ns v) : ns.length ≤ L.length := by
  have h1 := H.pm.length_eq
  have h2 := H.al.length_eq
  rw [List.length_append] at h2
  have := List.length_filter_le f (dn.map Prod.fst)
  rw [List.length_map] at this
  omega
end
/-- The names of a set, wherever it lies. -/
def namesO (T : Nat → List ByteArray) : Option Nat → List ByteArray
  | none => []
  | some k => T k
theorem namesO_fS (S : List SB) (T : Nat → List ByteArray) (lb : Lb) : namesO T (fS S lb) = nmS S T lb := by
  unfold namesO nmS
  cases fS S lb <;> rfl
set_option maxHeartbeats 6400000 in
set_option maxRecDepth 100000 in
/-- With of nothing: all names. -/
theorem with0_any (b g : Nat) (o1 o2 : Option Nat) (D : List NH) (S : List SB) (T : Nat → List ByteArray) (A : Option Addr) (c : Nat) (w : World) (hX : Hid (Xm w b g o1 o2 D S T)) (hbig : D.length ≤ 1000000) :
    Calls Try.prog 15 #[.pointer (some ⟨g, 0, none⟩), .slice A 0 c] w fun e w' => (∃ l A c, e = .returned (.slice A (List.length l) c) ∧ OwnK w' w.heap.size 9 1 (.slice A (List.length l) c) (cellsS l) ∧ l.Perm (D.map Prod.fst) ∧ l.Pairwise (fun x y => sL y x = false)) ∧ Below w.heap.size w w' := by
  have KK := Lib.hid (fun (o : Option Nat) (W : World) => keys_any o W)
  have KS := Lib.hid (fun (W : World) (Bm : Nat) (hm : W.cell? ⟨Bm, 0, none⟩ = some (.map o1)) (hb : Below w.heap.size w W) => sorted_any Bm o1 (D.map eNH) (by rw [List.length_map]; exact hbig) W (Lib.hid hm) (Lib.hid (hX.out.mp1.later hb)))
  have c0 : w.cell? ⟨g, 0, none⟩ = some (.map o1) := hX.out.bk.cellAt 0
  clear hbig
  go_enter Try.func15, Try.ntmps15
  go_wp2_with fail
  refine (KK.out _ _).mono ?_
  rintro e w1 ⟨rfl, hw1⟩
  have hb1 : Below w.heap.size w w1 := by rw [hw1]; exact (Below.refl _ _).alloc (Nat.le_refl _) _
  have hc1 : w1.cell? ⟨w.heap.size, 0, none⟩ = some (.map o1) := by rw [hw1]; exact (Bk.fresh w 32 #[.map o1]).cellAt 0
  have HB1 := Lib.hid hb1
  have HC1 := Lib.hid hc1
  clear hb1 hc1 hw1 c0 KK
  go_wp2_with fail
  refine (KS.out w1 w.heap.size HC1.out HB1.out).mono ?_
  rintro e w2 ⟨⟨l, A2, c2, rfl, ho, hp, hs⟩, hb2⟩
  have HO := Lib.hid ho
  have HP := Lib.hid hp
  have HS := Lib.hid hs
  have HB2 := Lib.hid hb2
  clear ho hp hs hb2 KS
  go_wp2_with fail
  go_ret
  refine ⟨⟨l, A2, c2, rfl, HO.out.base HB1.out.size, ?_, HS.out⟩, HB1.out.trans (HB2.out.mono HB1.out.size)⟩
  have := HP.out
  rwa [fst_eNH] at this
set_option maxHeartbeats 1000000 in
theorem len_any (b g : Nat) (o1 o2 : Option Nat) (D : List NH) (S : List SB) (T : Nat → List ByteArray) (w : World) (hX : Hid (Xm w b g o1 o2 D S T)) :
    Calls Try.prog 17 #[.pointer (some ⟨g, 0, none⟩)] w fun e w' => e = .returned (.int .i64 D.length) ∧ w' = w := by
  have c0 : w.cell? ⟨g, 0, none⟩ = some (.map o1) := hX.out.bk.cellAt 0
  have HM := Lib.hid hX.out.mp1
  obtain ⟨n, hn⟩ : ∃ n, n = (D.map eNH).length := ⟨_, rfl⟩
  have HN := Lib.hid hn
  go_enter Try.func17, Try.ntmps17
  go_wp2_with ((with_reducible refine len_g rfl _ 32 rfl _ _ Try.underlying32 (.map o1) rfl HM.out ?_); rw [← hn]; clear hn)
  go_ret
  exact ⟨by rw [HN.out, List.length_map]; rfl, rfl⟩
end Go.Proofs.Ytldijginplgikaa
