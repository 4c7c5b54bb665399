/- The walk of IdentKeeps: what goes into Sorted stays as it is, and what comes out is a list of its own. Conditions: the arguments are ones that Go can have. -/
import Derived.Test.YtnidpipbdgolfaaWIdentLabels
namespace Go.Proofs.Ytnidpipbdgolfaa.identKeeps
open Go.RowKit
open Go.Proofs.Ytnidpipbdgolfaa.identLabels (few_len same_refl)
set_option linter.unusedSimpArgs false
set_option linter.unusedVariables false

section
variable {P : Program} (w : World)
/-- Appending nothing, whatever the capacity of the nothing. -/
theorem run_append_void (base : Nat) (t ty e : TypeId) (i : TypeInfo) (size : Nat) (ht : P.underlying t = some (.slice e)) (hi : P.info? e = some i)
    (v : Value) (n : Nat) (xs : List Value) (hown : w.ownsRow base e size v n xs) (c : Nat) : (Builtin.append_ #[t, t] ty #[v, .slice none 0 c]).run P w = .ok v w := by
  rcases hown.2 with ⟨rfl, rfl⟩ | ⟨g, cap, cur, rfl, _, _, hnc, _⟩
  · simp [Builtin.append_, run_underlying ht, sizeOf, typeInfo, hi, Builtin.lenOf, Builtin.firstCells]
  · simp [Builtin.append_, run_underlying ht, sizeOf, typeInfo, hi, Builtin.lenOf, Builtin.firstCells, hnc, storeCells]
theorem wpList_append_void {ops : Array Oper} {rest : List Oper} {o : Oper} {a : Act} {Q : Exit → Act → World → Prop}
    (hg : o.guard = none) (s x : Operand) (t : TypeId) (hop : o.op = Op.call { callee := Callee.builtin Builtin.append, args := #[s, x], argTypes := #[t, t] })
    (base e : Nat) (i : TypeInfo) (size : Nat) (h1 : P.underlying t = some (.slice e)) (h2 : P.info? e = some i)
    (v : Value) (n : Nat) (xs : List Value) (hs : a.eval s = v) (hown : w.ownsRow base e size v n xs) (c : Nat) (hx : a.eval x = .slice none 0 c)
    (hK : wpList P ops Q rest (a.put o.dst v) w) : wpList P ops Q (o :: rest) a w := by
  refine wpList_plain hg fun K hK' => ?_
  have hrun := run_append_void (P := P) w base t o.type e i size h1 h2 v n xs hown c
  unfold Oper.wp
  simp [execOp, hop, resolve, invoke, builtin, hs, hx, hrun, Result.andThen]
  exact hK' _ _ hK
end

/-- Labels that read anywhere, put behind a row that the call owns. -/
theorem wpList_append_rdl {ops : Array Oper} {rest : List Oper} {o : Oper} {a : Act} {Q : Exit → Act → World → Prop} {W : World}
    (hg : o.guard = none) (s x : Operand) (hop : o.op = Op.call { callee := Callee.builtin Builtin.append, args := #[s, x], argTypes := #[22, 22] })
    (base : Nat) (v : Value) (p l : List Lb) (hs : a.eval s = v) (hown : OwnL W base v p) (A : Option Addr) (n c : Nat) (hx : a.eval x = .slice A n c) (hr : RdL W A l) (hn : n = l.length)
    (hbig : p.length + l.length ≤ 10000) (hbase : base ≤ W.heap.size)
    (hK : ∀ v' w', OwnL w' base v' (p ++ l) → W.grownBy w' v.ownBlock → wpList Try.prog ops Q rest (a.put o.dst v') w') : wpList Try.prog ops Q (o :: rest) a W := by
  obtain ⟨i0, hi, hz0, hz1, hz2⟩ := info_partsL info33
  cases A with
  | none =>
    have hl : l = [] := by
      cases l with
      | nil => rfl
      | cons y r => obtain ⟨_, _, ha, _⟩ := hr 0 y rfl; cases ha
    subst hl
    subst hn
    exact wpList_append_void W hg s x 22 hop base 33 i0 2 Try.underlying22 hi v p.length (cellsL p) hs hown c hx (hK v W (by rw [List.append_nil]; exact hown) (World.grownBy.refl _ _))
  | some ad =>
    refine wpList_append_own W hg s x 22 hop base 33 i0 _ 2 32 Try.underlying22 hi hz0 hz1 hz2 rfl (by decide) v p.length (cellsL p) hs hown ad n c (cellsL l) hx (by rw [cellsL_length, hn]) hr.cells (cellsL_one l) (by simp only [maxLen]; omega) (by omega) hbase ?_
    intro v' w' h2 h3 _
    refine hK v' w' ?_ h3
    unfold OwnL
    rw [List.length_append, cellsL_append, ← hn]
    exact h2

theorem rd_kept {W W' : World} {A : Option Addr} {l : List Lb} {B : Nat} (h : RdL W A l) (hb : Below B W W') (hA : ∀ g o p, A = some ⟨g, o, p⟩ → l ≠ [] → g < B) : RdL W' A l := by
  by_cases hl : l = []
  · subst hl; exact RdL.nil _ _
  · exact h.below hb fun g o e => hA g o none e hl
theorem rd_block {W : World} {A : Option Addr} {l : List Lb} (h : RdL W A l) : ∀ g o p, A = some ⟨g, o, p⟩ → l ≠ [] → g < W.heap.size := by
  intro g o p e hl
  cases l with
  | nil => exact absurd rfl hl
  | cons x r =>
    obtain ⟨g', o', ha, hg, _⟩ := h.at (i := 0) (by simp)
    rw [e] at ha; injection ha with ha; injection ha with h1 _; omega

set_option maxHeartbeats 8000000 in
set_option maxRecDepth 100000 in
/-- What is left once 'own' is there: v0 reads as l, in a block that the call made. -/
theorem walk (A : Option Addr) (n c : Nat) (l : List Lb) (w : World)
    (hn : n = l.length) (hr : RdL w A l) (hcn : n ≤ c) (hcm : c ≤ 9223372036854775807) (hz : Sz l) :
    Calls Try.prog 8 #[.slice A n c] w fun e w' => e = .returned (.bool true) ∧ Below w.heap.size w w' := by
  have HN := Lib.hid hn
  have HR := Lib.hid hr
  have HZ := Lib.hid hz
  clear hn hr hz
  have hfa := fun W h => few_any A n c l W HN (Lib.hid h) HZ hcn hcm
  by_cases fa : fewB l = true
  case neg =>
    have fa' : fewB l = false := by simpa using fa
    rw [fa'] at hfa
    have HFA := Lib.hid hfa
    clear fa fa' hfa
    go_enter Try.func8, Try.ntmps8
    go_wp2_with fail
    refine (awake_any _).mono ?_
    rintro e w1 ⟨rfl, hb1⟩
    have hc1 : Below w.heap.size w w1 := hb1.mono (by first | exact Nat.le_refl _ | (simp only [World.size_alloc, World.size_setCell, World.size_drew, sz_drewN]; omega)) |> fun h => (by first | exact h | exact Below.trans (by (repeat' (first | (with_reducible exact Below.refl _ _) | (with_reducible refine Below.setCell ?_ ?_ _) | (with_reducible refine Below.alloc ?_ ?_ _) | exact Nat.le_refl _))) h)
    go_wp2_with fail
    refine (HFA.out _ (HR.out.later hc1)).mono ?_
    rintro e w2 ⟨rfl, hb2⟩
    have hc2 : Below w.heap.size w w2 := hc1.trans (hb2.mono hc1.size)
    go_wp2_with fail
    refine (awake_any _).mono ?_
    rintro e w3 ⟨rfl, hb3⟩
    have hc3 : Below w.heap.size w w3 := hc2.trans (hb3.mono hc2.size)
    go_wp2
    go_ret
    exact ⟨rfl, hc3⟩
  rw [fa] at hfa
  have HFA := Lib.hid hfa
  have hn300 : n ≤ 300 := by have := few_len fa; have := HN.out; omega
  clear fa hfa
  have hrso := fun W h => rsorted_any A n c l W HN (Lib.hid h) hcn hcm (by omega)
  have HRSO := Lib.hid hrso
  clear hrso
  go_enter Try.func8, Try.ntmps8
  go_wp2_with fail
  refine (awake_any _).mono ?_
  rintro e w1 ⟨rfl, hb1⟩
  have hc1 : Below w.heap.size w w1 := hb1.mono (by first | exact Nat.le_refl _ | (simp only [World.size_alloc, World.size_setCell, World.size_drew, sz_drewN]; omega)) |> fun h => (by first | exact h | exact Below.trans (by (repeat' (first | (with_reducible exact Below.refl _ _) | (with_reducible refine Below.setCell ?_ ?_ _) | (with_reducible refine Below.alloc ?_ ?_ _) | exact Nat.le_refl _))) h)
  go_wp2_with fail
  refine (HFA.out _ (HR.out.later hc1)).mono ?_
  rintro e w2 ⟨rfl, hb2⟩
  have hc2 : Below w.heap.size w w2 := hc1.trans (hb2.mono hc1.size)
  have hz2w := hc2.size
  go_wp2_with (at_builtin; refine wpList_append_rdl rfl _ _ rfl w2.heap.size _ [] l rfl ?q1 A n c rfl ?q2 HN.out ?q3 ?q4 ?_)
  case q1 => exact World.ownsRow_made w2 #[] 0 (Nat.le_refl _) (Nat.zero_le _) (by simp)
  case q2 => exact (HR.out.later hc2).later ((Below.refl _ _).alloc (Nat.le_refl _) _)
  case q3 => have := HN.out; simp only [List.length_nil]; omega
  case q4 => simp
  intro v0 w3 hO0 hg0
  (try rw [List.nil_append] at hO0)
  have hb3 : Below w2.heap.size w2 w3 := ((Below.refl _ w2).alloc (Nat.le_refl _) _).grown hg0 (by simp) (by intro k hk; simp [Value.ownBlock] at hk; omega)
  have hc3 : Below w.heap.size w w3 := hc2.trans (hb3.mono hc2.size)
  obtain ⟨A0, c0, S0⟩ := hO0.sl
  have hv0 := S0.val
  subst hv0
  have hcap0 := S0.cap
  have hcap0' := S0.cap2
  have HS0 := Lib.hid S0.rd
  simp only [maxLen] at hcap0'
  obtain ⟨m0, hm0⟩ : ∃ m0, m0 = l.length := ⟨_, rfl⟩
  rw [← hm0] at hcap0 ⊢
  have HM0 := Lib.hid hm0
  have hm0n : m0 ≤ 300 := by have := HN.out; omega
  have hso0 := fun W h => sorted_any A0 m0 c0 l W HM0 (Lib.hid h) (by omega)
  have HSO0 := Lib.hid hso0
  clear S0 hO0 hm0 hg0 hso0
  go_wp2_with fail
  refine (HSO0.out _ HS0.out).mono ?_
  rintro e w4 ⟨v1, s1, rfl, hs1, hl1, hO1, hb4⟩
  have hc4 : Below w.heap.size w w4 := hc3.trans (hb4.mono hc3.size)
  obtain ⟨A1, c1, S1⟩ := hO1.sl
  have hv1 := S1.val
  have hcap1 := S1.cap
  have hcap1' := S1.cap2
  simp only [maxLen] at hcap1'
  obtain ⟨m1, hm1⟩ : ∃ m1, m1 = s1.length := ⟨_, rfl⟩
  rw [← hm1] at hcap1 hv1
  have hown1 : w4.ownsRow w3.heap.size 33 2 (.slice A1 m1 c1) m1 (cellsL s1) := by rw [← hv1, hm1]; exact hO1
  have HO1 := Lib.hid hown1
  have hm1n : m1 ≤ 300 := by have := HM0.out; omega
  subst hv1
  have hz3 := hb4.size
  have hz3' := hb3.size
  clear S1 hO1 hs1 hl1 hm1 hown1
  go_wp2
  go_loopw [5, 21] (fun _ i wr => ∃ (k : Nat) (xs : List Value), k ≤ m1 ∧ i = .int .i64 k ∧ Hid (wr.ownsRow w3.heap.size 33 2 (.slice A1 m1 c1) m1 xs) ∧ Below w3.heap.size w4 wr) (fun _ i wr => m1 - (intOf i).toNat)
  case atStart => exact ⟨0, _, Nat.zero_le _, rfl, HO1, Below.refl _ _⟩
  case round =>
    obtain ⟨k, xs, hk, rfl, HO, hb⟩ := hrel
    by_cases hlt : k < m1
    · obtain ⟨g, hA1, hgb⟩ : ∃ g, A1 = some ⟨g, 0, none⟩ ∧ w3.heap.size ≤ g := by
        rcases HO.out.2 with ⟨_, h0⟩ | ⟨g, cap, cur, hv, hbg, _⟩
        · omega
        · injection hv with h1 _ _; exact ⟨g, h1, hbg⟩
      subst hA1
      have hgl := (World.ownsRow.lt HO.out g rfl).2
      have hlen := HO.out.1
      obtain ⟨u, hu⟩ : ∃ u, xs[k * 2]? = some u := ⟨xs[k * 2]'(by omega), List.getElem?_eq_getElem (by omega)⟩
      have k1 : wr.cell? ⟨g, k * 2, none⟩ = some u := (World.ownsRow.cellAt HO.out (k * 2) (by omega)).trans hu
      have k2 : wr.frozen? ⟨g, k * 2, none⟩ = false := World.ownsRow.frozenAt HO.out _
      have hst := (World.ownsRow.stored HO.out (k * 2) (.string ⟨#[111, 116, 104, 101, 114]⟩)).1
      have HST := Lib.hid hst
      clear hst hu hlen
      go_wp2
      go_round
      case rel => exact ⟨k + 1, _, by omega, by go_num, HST, hb.setCell hgb _⟩
      case measure => simp [intOf]; omega
    · have hkm : k = m1 := by omega
      subst hkm
      -- behind the loop: 'own' and l read as they did
      have hown : RdL wr A0 l := rd_kept (rd_kept HS0.out hb4 (rd_block HS0.out)) hb (rd_block HS0.out)
      have harg : RdL wr A l := by
        have h3 : RdL w3 A l := HR.out.later hc3
        exact rd_kept (rd_kept h3 hb4 (rd_block h3)) hb (rd_block h3)
      have hc5 : Below w.heap.size w wr := hc4.trans (hb.mono hc3.size)
      have hsame := same_any A0 A m0 c0 n c l l wr HM0 HN (Lib.hid hown) (Lib.hid harg) hcap0 (by omega) hcn hcm
      rw [same_refl] at hsame
      have HSame := Lib.hid hsame
      have hso2 := fun W h => sorted_any A0 m0 c0 l W HM0 (Lib.hid h) (by omega)
      have HSO2 := Lib.hid hso2
      have HOwn := Lib.hid hown
      have HArg := Lib.hid harg
      have hz5 := hc5.size
      clear hsame hso2 hown harg HO
      go_wp2_with fail
      refine HSame.out.mono ?_
      rintro e w6 ⟨rfl, hb6⟩
      have hc6 : Below w.heap.size w w6 := hc5.trans (hb6.mono hc5.size)
      go_wp2_with fail
      refine (HSO2.out _ (HOwn.out.later hb6)).mono ?_
      rintro e w7 ⟨v3, s3, rfl, hs3, hl3, hO3, hb7⟩
      have hc7 : Below w.heap.size w w7 := hc6.trans (hb7.mono hc6.size)
      obtain ⟨A3, c3, S3⟩ := hO3.sl
      have hv3 := S3.val
      subst hv3
      have hcap3 := S3.cap
      have hcap3' := S3.cap2
      have HS3 := Lib.hid S3.rd
      have HEQ := Lib.hid hs3
      simp only [maxLen] at hcap3'
      obtain ⟨m3, hm3⟩ : ∃ m3, m3 = s3.length := ⟨_, rfl⟩
      rw [← hm3] at hcap3 ⊢
      have HM3 := Lib.hid hm3
      clear S3 hO3 hs3 hl3 hm3
      go_wp2_with fail
      refine (HRSO.out _ ((HArg.out.later hb6).later hb7)).mono ?_
      rintro e w8 ⟨v4, rfl, hO4, hb8⟩
      have hc8 : Below w.heap.size w w8 := hc7.trans (hb8.mono hc7.size)
      obtain ⟨A4, c4, S4⟩ := hO4.sl
      have hv4 := S4.val
      subst hv4
      have hcap4 := S4.cap
      have hcap4' := S4.cap2
      have HS4 := Lib.hid S4.rd
      simp only [maxLen] at hcap4'
      obtain ⟨m4, hm4⟩ : ∃ m4, m4 = (rSorted l).length := ⟨_, rfl⟩
      rw [← hm4] at hcap4 ⊢
      have HM4 := Lib.hid hm4
      have hsame2 := same_any A3 A4 m3 c3 m4 c4 s3 (rSorted l) w8 HM3 HM4 (Lib.hid (HS3.out.later hb8)) HS4 hcap3 (by omega) hcap4 (by omega)
      rw [sorted_unique HEQ.out (rSorted_sorted _ l rfl), same_refl] at hsame2
      have HSame2 := Lib.hid hsame2
      clear S4 hO4 hm4 hsame2
      go_wp2_with fail
      refine HSame2.out.mono ?_
      rintro e w9 ⟨rfl, hb9⟩
      have hc9 : Below w.heap.size w w9 := hc8.trans (hb9.mono hc8.size)
      go_wp2
      go_ret
      exact ⟨rfl, hc9⟩
end Go.Proofs.Ytnidpipbdgolfaa.identKeeps
