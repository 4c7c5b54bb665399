/- What all operations of the scheduler share: an operation as an argument, Do over what perform answers; perform and Do at AddQueue. Condition: the operation is one that Go can have. -/
import Derived.Test.YtjgojgmgicpgaaaGreatTQ06
import Derived.Test.YtjgojgmgicpgaaaGreatTOvb
import Derived.Test.YtjgojgmgicpgaaaGreatTOrt
namespace Go.Proofs.YtjgojgmgicpgaaaGreat
open Go.RowKit
set_option linter.unusedSimpArgs false
set_option linter.unusedVariables false

/-- An operation, with the places of its labels. -/
structure Oz where
  v : Ov
  A1 : Option Addr
  m1 : Nat
  p1 : Nat
  A3 : Option Addr
  m3 : Nat
  p3 : Nat
abbrev Oz.arr (x : Oz) : Array Value := #[.int .i64 x.v.k, .string x.v.nn, .int .i64 x.v.a1, .int .i64 x.v.b1, .int .i64 x.v.c1, .slice x.A1 x.m1 x.p1, .string x.v.qn, .int .i64 x.v.a2, .int .i64 x.v.b2, .int .i64 x.v.c2, .string x.v.tn, .string x.v.tq, .int .i64 x.v.tp, .int .i64 x.v.a3, .int .i64 x.v.b3, .int .i64 x.v.c3, .slice x.A3 x.m3 x.p3, .string x.v.ta, .string x.v.tg, .int .i64 x.v.ts, .string x.v.s]
def Oz.que (x : Oz) : Qx := (x.v.qn, x.v.a2, x.v.b2, x.v.c2)
/-- An operation is one that Go can have. -/
structure OzOk (w : World) (x : Oz) : Prop where
  l1 : LbOk w x.A1 x.m1 x.p1 x.v.l1
  l3 : LbOk w x.A3 x.m3 x.p3 x.v.l3
  nn : x.v.nn.size ≤ 140737488351232
  qn : x.v.qn.size ≤ 140737488351232
  tn : x.v.tn.size ≤ 140737488351232
  tq : x.v.tq.size ≤ 140737488351232
  ta : x.v.ta.size ≤ 140737488351232
  tg : x.v.tg.size ≤ 140737488351232
  s : x.v.s.size ≤ 140737488351232
theorem OzOk.later {w w' : World} {x : Oz} (h : OzOk w x) (hb : Below w.heap.size w w') : OzOk w' x := ⟨h.l1.later hb, h.l3.later hb, h.nn, h.qn, h.tn, h.tq, h.ta, h.tg, h.s⟩
theorem ozRight_any (x : Oz) (w : World) (h : OzOk w x) : Calls Tryz.prog 62 #[.agg x.arr] w fun e w' => e = .returned (.bool (opB x.v)) ∧ Below w.heap.size w w' :=
  opRight_any x.v.k x.v.nn x.v.a1 x.v.b1 x.v.c1 x.A1 x.m1 x.p1 x.v.l1 x.v.qn x.v.a2 x.v.b2 x.v.c2 x.v.tn x.v.tq x.v.tp x.v.a3 x.v.b3 x.v.c3 x.A3 x.m3 x.p3 x.v.l3 x.v.ta x.v.tg x.v.ts x.v.s w h.l1.len h.l1.cap h.l1.cap2 h.l3.len h.l3.cap h.l3.cap2 h.l1.rd h.l3.rd h.l1.sz h.l3.sz h.nn h.qn h.tn h.tq h.ta h.tg h.s
/-- An answer's list of acts. -/
def RetL (b : Nat) (w : World) (A : Option Addr) (n c : Nat) (acts : List Ac) : Prop := n = acts.length ∧ RdA w A acts ∧ n ≤ c ∧ c ≤ 9223372036854775807 ∧ ∀ a, A = some a → b ≤ a.block
theorem RetL.nil (b : Nat) (w : World) : RetL b w none 0 0 [] := ⟨rfl, fun i x h => (by simp at h), Nat.le_refl _, by omega, fun a h => (by cases h)⟩
/-- What perform answers. -/
def Performs (b g : Nat) (vM vQ vJ : Value) (S : Sg) (x : Oz) (R : Sg × An) : Prop := ∀ w, (∃ lst, Gs w b g lst vM vQ vJ S) → OzOk w x →
  Calls Tryz.prog 63 #[.pointer (some ⟨g, 0, none⟩), .agg x.arr] w fun e w' => (∃ A n c, e = .returned (.tuple #[.slice A n c, .int .i64 R.2.1]) ∧ RetL w.heap.size w' A n c R.2.2) ∧ Went w w' b g vM vQ vJ S R.1
theorem Went.wrap {w w1 w2 w3 : World} {b g a : Nat} {lst : Int} {vM vQ vJ : Value} {S T : Sg} (hG : Gs w b g lst vM vQ vJ S) (hb : Below w.heap.size w w1) (h : Went w1 w2 b g vM vQ vJ S T) (hg : w2.grownBy w3 (some a)) (ha : w.heap.size ≤ a) (ha2 : a < w1.heap.size) : Went w w3 b g vM vQ vJ S T := by
  obtain ⟨lst', vM', vQ', vJ', S', h1, h2, h3, h4⟩ := h
  have ho : ∀ k, blkG g vM' vQ' vJ' S' k → k ≠ a := fun k hk e => by
    rcases h4 k hk with h | h
    · have := (hG.blk h).2; omega
    · omega
  refine ⟨lst', vM', vQ', vJ', S', h1.grp (GrP.of hg) (fun k hk e => by injection e with e; exact ho k hk e.symm), h2, ?_, fun k hk => (h4 k hk).imp id (fun h => Nat.le_trans hb.size h)⟩
  have h5 : GrP (fun k => blkG g vM vQ vJ S k ∨ k = a) w w3 := ((GrP.ofBelow hb).trans (h3.wide fun k _ e => .inl e)).trans ((GrP.of hg).wide fun k _ e => .inr (by injection e with e; exact e.symm))
  exact h5.wide fun k hk e => e.resolve_right (by omega)
theorem Went.before {w w1 w2 : World} {b g : Nat} {vM vQ vJ : Value} {S T : Sg} (hb : Below w.heap.size w w1) (h : Went w1 w2 b g vM vQ vJ S T) : Went w w2 b g vM vQ vJ S T := by
  obtain ⟨lst', vM', vQ', vJ', S', h1, h2, h3, h4⟩ := h
  exact ⟨lst', vM', vQ', vJ', S', h1, h2, (GrP.ofBelow hb).trans h3, fun k hk => (h4 k hk).imp id (fun h => Nat.le_trans hb.size h)⟩
theorem RetL.past {w w' : World} {b b' a : Nat} {A : Option Addr} {n c : Nat} {acts : List Ac} (h : RetL b w A n c acts) (hb : b' ≤ b) (hg : w.grownBy w' (some a)) (ha : a < b) : RetL b' w' A n c acts := by
  obtain ⟨h1, h2, h3, h4, h5⟩ := h
  refine ⟨h1, fun i x hx => ?_, h3, h4, fun p hp => Nat.le_trans hb (h5 p hp)⟩
  obtain ⟨g, o, hA, c1, c2, c3⟩ := h2 i x hx
  have hga : g ≠ a := by have := h5 _ hA; simp only at this; omega
  have hc : ∀ (o : Nat) (u : Value), w.cell? ⟨g, o, none⟩ = some u → w'.cell? ⟨g, o, none⟩ = some u := fun o u hu => by
    rw [World.cell?_of_block (hg.block g (World.block_lt_of_cell? w _ hu) (by simp; exact hga))]; exact hu
  exact ⟨g, o, hA, hc _ _ c1, hc _ _ c2, hc _ _ c3⟩
set_option maxHeartbeats 6400000 in
set_option maxRecDepth 100000 in
theorem do_any (b g : Nat) (vM vQ vJ : Value) (S : Sg) (x : Oz) (R : Sg × An) (w : World) (hG : Hid (∃ lst, Gs w b g lst vM vQ vJ S)) (hx : Hid (OzOk w x)) (hP : opB x.v = true → Performs b g vM vQ vJ S x R) :
    Calls Tryz.prog 24 #[.pointer (some ⟨g, 0, none⟩), .agg x.arr] w fun e w' =>
      (∃ A n c, e = .returned (.agg #[.int .i64 (if opB x.v then R.2.1 else 1), .slice A n c]) ∧ RetL w.heap.size w' A n c (if opB x.v then R.2.2 else [])) ∧ Went w w' b g vM vQ vJ S (if opB x.v then R.1 else S) := by
  have k1 := fun W h => ozRight_any x W h
  obtain ⟨o, ho⟩ : ∃ o, opB x.v = o := ⟨_, rfl⟩
  rw [ho] at k1 hP ⊢
  have K1 := Lib.hid k1; have HP := Lib.hid hP
  clear k1 hP ho
  have hxl := fun W (h : Below w.heap.size w W) => hx.out.later h
  have HX := Lib.hid hxl; clear hxl
  obtain ⟨⟨k, nn, a1, b1, c1, l1, qn, a2, b2, c2, tn, tq, tp, a3, b3, c3, l3, ta, tg, ts, s⟩, A1, m1, p1, A3, m3, p3⟩ := x
  obtain ⟨e0, e1⟩ : ∃ e0 e1, R = (e0, e1) := ⟨_, _, rfl⟩
  obtain ⟨W0, hW0⟩ : ∃ W0, W0 = (w.alloc (.cells #[.int .i64 k, .string nn, .int .i64 a1, .int .i64 b1, .int .i64 c1, .slice A1 m1 p1, .string qn, .int .i64 a2, .int .i64 b2, .int .i64 c2, .string tn, .string tq, .int .i64 tp, .int .i64 a3, .int .i64 b3, .int .i64 c3, .slice A3 m3 p3, .string ta, .string tg, .int .i64 ts, .string s] 59)).alloc (.cells #[.int .i64 0, .slice none 0 0] 47) := ⟨_, rfl⟩
  have HO0 : Hid (Bk W0 w.heap.size 59 #[.int .i64 k, .string nn, .int .i64 a1, .int .i64 b1, .int .i64 c1, .slice A1 m1 p1, .string qn, .int .i64 a2, .int .i64 b2, .int .i64 c2, .string tn, .string tq, .int .i64 tp, .int .i64 a3, .int .i64 b3, .int .i64 c3, .slice A3 m3 p3, .string ta, .string tg, .int .i64 ts, .string s]) := by rw [hW0]; exact (Bk.fresh w _ _).later ((Below.refl _ _).alloc (Nat.le_refl _) _)
  have HA0 : Hid (Bk W0 (w.heap.size + 1) 47 #[.int .i64 0, .slice none 0 0]) := by rw [hW0]; exact Bk.freshAt _ _ _ (by simp)
  have hB0 : Below w.heap.size w W0 := by rw [hW0]; exact ((Below.refl _ _).alloc (Nat.le_refl _) _).alloc (by simp) _
  subst hW0
  go_enter Tryz.func24, Tryz.ntmps24
  go_wp2_with ((with_reducible refine load_bk rfl 59 _ rfl w.heap.size 0 rfl 59 #[.int .i64 k, .string nn, .int .i64 a1, .int .i64 b1, .int .i64 c1, .slice A1 m1 p1, .string qn, .int .i64 a2, .int .i64 b2, .int .i64 c2, .string tn, .string tq, .int .i64 tp, .int .i64 a3, .int .i64 b3, .int .i64 c3, .slice A3 m3 p3, .string ta, .string tg, .int .i64 ts, .string s] #[.int .i64 k, .string nn, .int .i64 a1, .int .i64 b1, .int .i64 c1, .slice A1 m1 p1, .string qn, .int .i64 a2, .int .i64 b2, .int .i64 c2, .string tn, .string tq, .int .i64 tp, .int .i64 a3, .int .i64 b3, .int .i64 c3, .slice A3 m3 p3, .string ta, .string tg, .int .i64 ts, .string s] _ HO0.out (Part.whole _) Tryz.underlying59 rfl (by kernel_rfl) ?_))
  refine (K1.out _ (HX.out _ hB0)).mono ?_; rintro e w1 ⟨rfl, hb1⟩
  have HO1 := Lib.hid (HO0.out.later hb1); have HA1 := Lib.hid (HA0.out.later hb1)
  have hB1 : Below w.heap.size w w1 := hB0.trans (hb1.mono hB0.size)
  have lt1 : w.heap.size + 1 < w1.heap.size := HA1.out.here
  clear HO0 HA0 hB0 hb1 K1
  cases o
  case false =>
    go_wp2_with ((with_reducible refine store_bk rfl 47 (.tmp 4) (.tmp 14) rfl (w.heap.size + 1) 0 #[.int .i64 1, .slice none 0 0] rfl rfl 47 _ #[.int .i64 1, .slice none 0 0] HA1.out (by kernel_rfl) (by simp) (by kernel_rfl) rfl ?_); intro w2 hB2 hg2 hs2)
    obtain ⟨lst, hG'⟩ := hG.out
    exact bodyPost_ret (v := .agg #[.int .i64 1, .slice none 0 0]) (results_bk1 Tryz.results24 _ _ (w.heap.size + 1) 47 _ _ rfl hB2 Tryz.underlying47 rfl (by kernel_rfl)) rfl ⟨⟨none, 0, 0, rfl, RetL.nil _ _⟩, Went.wrap hG' hB1 (Went.same (hG'.below hB1) (Below.refl _ _)) hg2 (by omega) lt1⟩
  case true =>
    have hP1 := HP.out rfl w1 (by obtain ⟨lst, hG'⟩ := hG.out; exact ⟨lst, hG'.below hB1⟩) (HX.out _ hB1)
    have HP1 := Lib.hid hP1; clear hP1
    go_wp2_with ((with_reducible refine load_bk rfl 59 _ rfl w.heap.size 0 rfl 59 #[.int .i64 k, .string nn, .int .i64 a1, .int .i64 b1, .int .i64 c1, .slice A1 m1 p1, .string qn, .int .i64 a2, .int .i64 b2, .int .i64 c2, .string tn, .string tq, .int .i64 tp, .int .i64 a3, .int .i64 b3, .int .i64 c3, .slice A3 m3 p3, .string ta, .string tg, .int .i64 ts, .string s] #[.int .i64 k, .string nn, .int .i64 a1, .int .i64 b1, .int .i64 c1, .slice A1 m1 p1, .string qn, .int .i64 a2, .int .i64 b2, .int .i64 c2, .string tn, .string tq, .int .i64 tp, .int .i64 a3, .int .i64 b3, .int .i64 c3, .slice A3 m3 p3, .string ta, .string tg, .int .i64 ts, .string s] _ HO1.out (Part.whole _) Tryz.underlying59 rfl (by kernel_rfl) ?_))
    refine HP1.out.mono ?_; rintro e w2 ⟨⟨A, n, c, rfl, hR⟩, hW⟩
    have HW := Lib.hid hW; have HR := Lib.hid hR; clear hW hR
    have HA2 : Hid (Bk w2 (w.heap.size + 1) 47 #[.int .i64 0, .slice none 0 0]) := by
      obtain ⟨lst, hG'⟩ := hG.out
      obtain ⟨_, _, _, _, _, _, _, h3, _⟩ := HW.out
      exact HA1.out.grp h3 fun e => by have := (hG'.blk e).2; omega
    obtain ⟨R1, err, acts⟩ := R
    simp only at HW HR
    go_wp2_with ((with_reducible refine store_bk rfl 47 (.tmp 4) (.tmp 23) rfl (w.heap.size + 1) 0 #[.int .i64 err, .slice A n c] rfl rfl 47 _ #[.int .i64 err, .slice A n c] HA2.out (by kernel_rfl) (by simp) (by kernel_rfl) rfl ?_); intro w3 hB3 hg3 hs3)
    obtain ⟨lst, hG'⟩ := hG.out
    exact bodyPost_ret (v := .agg #[.int .i64 err, .slice A n c]) (results_bk1 Tryz.results24 _ _ (w.heap.size + 1) 47 _ _ rfl hB3 Tryz.underlying47 rfl (by kernel_rfl)) rfl ⟨⟨A, n, c, rfl, HR.out.past hB1.size hg3 lt1⟩, Went.wrap hG' hB1 HW.out hg3 (by omega) lt1⟩

set_option maxHeartbeats 6400000 in
set_option maxRecDepth 100000 in
theorem perform_3 (b g : Nat) (vM vQ vJ : Value) (S : Sg) (x : Oz) (hk : x.v.k = 3) (hM : Sm S) (hA : AscK (S.Q.map fun q => q.1)) (hI : hasK x.que.1 (S.Q.map fun q => q.1) = false → InsQ b vQ S.Q x.que) : Performs b g vM vQ vJ S x (addQ S x.que) := by
  intro w hG hx
  have k1 := fun (W : World) (h : ∃ lst, Gs W b g lst vM vQ vJ S) => h.elim fun lst h => addQueue_any b g lst vM vQ vJ S x.que W h hM hA hx.qn hI
  have K1 := Lib.hid k1; have HG := Lib.hid hG
  clear k1 hG hx hA hI
  obtain ⟨R, hR⟩ : ∃ R, R = addQ S x.que := ⟨_, rfl⟩
  rw [← hR] at K1 ⊢
  have hR3 : R.2.2 = [] := by rw [hR]; unfold addQ; split; rfl; split <;> rfl
  clear hR
  obtain ⟨⟨k, nn, a1, b1, c1, l1, qn, a2, b2, c2, tn, tq, tp, a3, b3, c3, l3, ta, tg, ts, s⟩, A1, m1, p1, A3, m3, p3⟩ := x
  simp only at hk
  subst hk
  obtain ⟨R1, err, acts⟩ := R
  simp only at hR3
  subst hR3
  have HO0 : Hid (Bk (w.alloc (.cells #[.int .i64 3, .string nn, .int .i64 a1, .int .i64 b1, .int .i64 c1, .slice A1 m1 p1, .string qn, .int .i64 a2, .int .i64 b2, .int .i64 c2, .string tn, .string tq, .int .i64 tp, .int .i64 a3, .int .i64 b3, .int .i64 c3, .slice A3 m3 p3, .string ta, .string tg, .int .i64 ts, .string s] 59)) w.heap.size 59 #[.int .i64 3, .string nn, .int .i64 a1, .int .i64 b1, .int .i64 c1, .slice A1 m1 p1, .string qn, .int .i64 a2, .int .i64 b2, .int .i64 c2, .string tn, .string tq, .int .i64 tp, .int .i64 a3, .int .i64 b3, .int .i64 c3, .slice A3 m3 p3, .string ta, .string tg, .int .i64 ts, .string s]) := Bk.fresh w _ _
  have hB0 : Below w.heap.size w (w.alloc (.cells #[.int .i64 3, .string nn, .int .i64 a1, .int .i64 b1, .int .i64 c1, .slice A1 m1 p1, .string qn, .int .i64 a2, .int .i64 b2, .int .i64 c2, .string tn, .string tq, .int .i64 tp, .int .i64 a3, .int .i64 b3, .int .i64 c3, .slice A3 m3 p3, .string ta, .string tg, .int .i64 ts, .string s] 59)) := (Below.refl _ _).alloc (Nat.le_refl _) _
  go_enter Tryz.func63, Tryz.ntmps63
  go_wp2_with ((with_reducible refine load_bk rfl 55 _ rfl w.heap.size 6 rfl 59 #[.int .i64 3, .string nn, .int .i64 a1, .int .i64 b1, .int .i64 c1, .slice A1 m1 p1, .string qn, .int .i64 a2, .int .i64 b2, .int .i64 c2, .string tn, .string tq, .int .i64 tp, .int .i64 a3, .int .i64 b3, .int .i64 c3, .slice A3 m3 p3, .string ta, .string tg, .int .i64 ts, .string s] #[.string qn, .int .i64 a2, .int .i64 b2, .int .i64 c2] _ HO0.out (Part.of rfl) Tryz.underlying55 rfl (by kernel_rfl) ?_))
  refine (K1.out _ (HG.out.elim fun lst h => ⟨lst, h.below hB0⟩)).mono ?_; rintro e w2 ⟨rfl, hW⟩
  have HW := Lib.hid hW; clear hW
  go_wp2_with fail
  exact bodyPost_ret (v := .tuple #[.slice none 0 0, .int .i64 err]) (by simp [results, Tryz.results63, go_sem]) rfl ⟨⟨none, 0, 0, rfl, RetL.nil _ _⟩, Went.before hB0 HW.out⟩
end Go.Proofs.YtjgojgmgicpgaaaGreat
