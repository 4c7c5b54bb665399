/- A state without machines, queues and jobs, its lists being nil or not: what Copy and State make of it. No condition. · Regions that draw their order, whose operations only read what was there and whose callees change nothing that was there (they may make memory): one walk of the text's order serves every order. No condition. · A world behind some draws, with blocks laid behind it. No condition; it serves any seat. · The contracts of strings.Compare, of cmp.Compare at integers, of cmp.Or at two integers. No condition. · The contract of the comparison that rank.Sorted hands to the sort: by score, then by name. No condition. -/
import Derived.Test.YtjgojgmgicpgaaaGreatTQ04
import Derived.Test.YtjgojgmgicpgaaaGreatTGsa
import Derived.Test.YtjgojgmgicpgaaaGreatChecked
import Derived.WalkKit
import Derived.WalkSpells
import Derived.Handy
import Derived.Below
import Derived.BigQuiet
import Derived.Deep.QuietTactic
import Derived.Shelf.SlSortCmp.QuietGrown
import Derived.Test.YtjgojgmgicpgaaaGreatTQ01
import Derived.Lib.Bytealg
import Derived.Lib.Hide
import Derived.Test.YtjgojgmgicpgaaaGreatTQ00
import Derived.Deep.RegionHeld3
namespace Go.Proofs.YtjgojgmgicpgaaaGreat
open Go.RowKit
set_option linter.unusedSimpArgs false
set_option linter.unusedVariables false

abbrev zV (A : Option Addr) (a : Nat) (B : Option Addr) (b : Nat) (C : Option Addr) (c : Nat) : Array Value := #[.int .i64 0, .int .i64 1, .slice A 0 a, .slice B 0 b, .slice C 0 c]
/-- A blank state. -/
def ZSt (v : Value) : Prop := ∃ A a B b C c, v = .agg (zV A a B b C c) ∧ a ≤ 9223372036854775807 ∧ b ≤ 9223372036854775807 ∧ c ≤ 9223372036854775807
theorem ZSt.nil : ZSt (.agg (zV none 0 none 0 none 0)) := ⟨none, 0, none, 0, none, 0, rfl, by decide, by decide, by decide⟩
theorem zRd (w : World) {A : Option Addr} {a : Nat} {B : Option Addr} {b : Nat} {C : Option Addr} {c : Nat} (ha : a ≤ 9223372036854775807) (hb : b ≤ 9223372036854775807) (hc : c ≤ 9223372036854775807) : RdSt w ⟨0, 1, A, 0, a, B, 0, b, C, 0, c⟩ Sg.new :=
  ⟨rfl, rfl, rfl, RdM.nil _ _, fun x hx => (by cases hx), Nat.zero_le _, ha, rfl, RdQ.nil _ _, fun x hx => (by cases hx), Nat.zero_le _, hb, rfl, RdJ.nil _ _, fun x hx => (by cases hx), fun x hx => (by cases hx), Nat.zero_le _, hc⟩
theorem ownS_z {w : World} {k : Nat} {vM vQ vJ : Value} {T : Sg} (h : OwnS w k vM vQ vJ T) (e : T.bare = Sg.new.bare) : ZSt (.agg #[.int .i64 0, .int .i64 1, vM, vQ, vJ]) := by
  have hM : T.M = [] := by
    have h1 : bM T.M = [] := congrArg Sg.M e
    simpa using h1
  have hQ : T.Q = [] := congrArg Sg.Q e
  have hJ : T.J = [] := by
    have h1 : bL T.J = [] := congrArg Sg.J e
    simpa using h1
  obtain ⟨A, a, hv1, -, -, h2, -⟩ := h.M.sl
  obtain ⟨B, b, hv2, -, -, h3, -⟩ := h.Q.sl
  obtain ⟨C, c, hv3, -, -, h4, -⟩ := h.J.sl
  rw [hM] at hv1; rw [hQ] at hv2; rw [hJ] at hv3
  subst hv1 hv2 hv3
  unfold maxLen at h2 h3 h4
  exact ⟨A, a, B, b, C, c, rfl, h2, h3, h4⟩
theorem copy_z {v : Value} (hv : ZSt v) (w : World) : Calls Tryz.prog 64 #[v] w fun e w' => (∃ v', e = .returned v' ∧ ZSt v') ∧ Below w.heap.size w w' := by
  obtain ⟨A, a, B, b, C, c, rfl, ha, hb, hc⟩ := hv
  refine (copy_any ⟨0, 1, A, 0, a, B, 0, b, C, 0, c⟩ Sg.new w (Lib.hid (zRd w ha hb hc)) (Nat.zero_le _) (Nat.zero_le _) (Nat.zero_le _) (Lib.hid fun x hx => (by cases hx)) (Lib.hid fun x hx => (by cases hx))).mono ?_
  rintro e w' ⟨⟨vM, vQ, vJ, T, rfl, hO, hb⟩, hB⟩
  exact ⟨⟨_, rfl, ownS_z hO hb⟩, hB⟩
/-- A new scheduler of the first generation. -/
def Z1 (w : World) (g : Nat) : Prop := Gs w g g 0 (.slice none 0 0) (.slice none 0 0) (.slice none 0 0) Sg.new
theorem Z1.below {w w' : World} {g : Nat} (h : Z1 w g) (hb : Below w.heap.size w w') : Z1 w' g := Gs.below h hb
theorem Z1.grown {w w' : World} {g q : Nat} (h : Z1 w g) (hg : w.grownBy w' (some q)) (hq : q ≠ g) : Z1 w' g := Gs.grp h (GrP.of hg) fun k hk e => by
  injection e with e
  rcases hk with rfl | hk
  · exact hq e
  · exact blkS_new hk
theorem Z1.lt {w : World} {g : Nat} (h : Z1 w g) : g < w.heap.size := h.bk.here
theorem new_z (w : World) : Calls Tryz.prog 23 #[] w fun e w' => e = .returned (.pointer (some ⟨w.heap.size, 0, none⟩)) ∧ Z1 w' w.heap.size ∧ Below w.heap.size w w' := new_any w
theorem state_z (g : Nat) (w : World) (h : Z1 w g) : Calls Tryz.prog 25 #[.pointer (some ⟨g, 0, none⟩)] w fun e w' => (∃ v', e = .returned v' ∧ ZSt v') ∧ Below w.heap.size w w' := by
  refine (state_any g g 0 _ _ _ Sg.new w (Lib.hid h) (Lib.hid sm_new)).mono ?_
  rintro e w' ⟨⟨vM, vQ, vJ, T, rfl, hO, hb⟩, hB⟩
  exact ⟨⟨_, rfl, ownS_z hO hb⟩, hB⟩
end Go.Proofs.YtjgojgmgicpgaaaGreat

namespace Go.Proofs.YtjgojgmgicpgaaaGreat
open Go.RowKit

/-- A world that is a later one of 'w': what was there in 'w' is there, unchanged. -/
structure Later (w : World) where
  to : World
  below : Below w.heap.size w to

theorem Later.some (w : World) : Nonempty (Later w) := ⟨⟨w, Below.refl _ _⟩⟩
theorem Later.cell {w : World} (x : Later w) {b o : Nat} (h : b < w.heap.size) : x.to.cell? ⟨b, o, none⟩ = w.cell? ⟨b, o, none⟩ := x.below.cell (p := ⟨b, o, none⟩) h

theorem Later.out {w w' : World} (h : ∃ x : Later w, w' = x.to) : Below w.heap.size w w' := by
  obtain ⟨x, rfl⟩ := h
  exact x.below

theorem wp_region_later {P : Program} {id : Nat} {Q : Exit → Act → World → Prop} {a : Act} {w : World} {l : List Oper} (hm : P.follows .mixedOrders = true) (hB : Region.lexB .any l.toArray = true)
    (h : wpQuiet P l.toArray (fun w' => ∃ x : Later w, w' = x.to) (fun a' => ∀ w', (∃ x : Later w, w' = x.to) → Q .normal a' w') l a) : (Code.region id l.toArray true).wp P Q a w :=
  wp_region_quiet (C := fun w' => ∃ x : Later w, w' = x.to) hm hB ⟨⟨w.drew, (Below.refl _ _).drew⟩, rfl⟩ (by simpa using h)

theorem Later.call {P : Program} {f : FuncId} {args : Array Value} {w : World} {x : Later w} {v : Value}
    (h : Calls P f args x.to fun e w' => e = .returned v ∧ Below x.to.heap.size x.to w') : Calls P f args x.to fun e w'' => e = .returned v ∧ ∃ y : Later w, w'' = y.to :=
  h.mono fun _ w'' ⟨he, hb⟩ => ⟨he, ⟨w'', x.below.trans (hb.mono x.below.size)⟩, rfl⟩
end Go.Proofs.YtjgojgmgicpgaaaGreat

namespace Go.Proofs.YtjgojgmgicpgaaaGreat
open Go.RowKit Go.Sort
set_option linter.unusedSimpArgs false
set_option linter.unusedVariables false

/-- A world behind some draws, with blocks laid behind it. -/
def Gw (w W : World) : Prop := ∃ q os, W = grow (w.drewN q) os
section
variable {w w1 w2 : World}
theorem Gw.refl (w : World) : Gw w w := ⟨0, #[], by rw [grow_empty]; rfl⟩
theorem Gw.drew (h : Gw w w1) : Gw w w1.drew := by
  obtain ⟨q, os, rfl⟩ := h
  exact ⟨q + 1, os, rfl⟩
theorem Gw.alloc (h : Gw w w1) (o : Obj) : Gw w (w1.alloc o) := by
  obtain ⟨q, os, rfl⟩ := h
  exact ⟨q, os ++ #[o], by rw [alloc_eq_grow, grow_grow]⟩
theorem Gw.trans (h : Gw w w1) (k : Gw w1 w2) : Gw w w2 := by
  obtain ⟨q, os, rfl⟩ := h
  obtain ⟨q', os', rfl⟩ := k
  exact ⟨q + q', os ++ os', by show grow (grow ((w.drewN q).drewN q') os) os' = _; rw [grow_grow, World.drewN_drewN]⟩
theorem Gw.cell (h : Gw w w1) {b o : Nat} (hb : b < w.heap.size) : w1.cell? ⟨b, o, none⟩ = w.cell? ⟨b, o, none⟩ := by
  obtain ⟨q, os, rfl⟩ := h
  rw [cell?_grow _ _ _ (by exact hb)]; rfl
end
end Go.Proofs.YtjgojgmgicpgaaaGreat

namespace Go.Proofs.YtjgojgmgicpgaaaGreat
open Go.RowKit
set_option linter.unusedSimpArgs false
set_option linter.unusedVariables false

set_option maxHeartbeats 1000000 in
set_option maxRecDepth 100000 in
theorem compareString_any (a b : ByteArray) (w : World) :
    Calls Tryz.prog 290 #[.string a, .string b] w fun e w' => e = .returned (.int .i64 (Lib.compareBytes a.data.toList b.data.toList)) ∧ w = w' := by
  have mixed : Tryz.prog.follows .mixedOrders = true := by kernel_rfl
  go_enter Tryz.func290, Tryz.ntmps290
  go_wp2
  rw [run_callFunc_extern Tryz.func351 (by kernel_rfl) (by kernel_rfl) (by kernel_rfl) (e := Extern.BytealgCompare.compare) (by kernel_rfl), Lib.run_compareString]
  simp only [Result.andThen]
  rw [Oper.upon_value]
  go_wp2
  go_ret
  exact ⟨rfl, rfl⟩

set_option maxHeartbeats 1000000 in
theorem compare_any (a b : ByteArray) (w : World) :
    Calls Tryz.prog 220 #[.string a, .string b] w fun e w' => e = .returned (.int .i64 (Lib.compareBytes a.data.toList b.data.toList)) ∧ w = w' := by
  have hcon := fun W => compareString_any a b W
  generalize Lib.compareBytes a.data.toList b.data.toList = r at hcon ⊢
  go_enter Tryz.func220, Tryz.ntmps220
  go_wp2_with (go_at_call 290; refine (hcon _).mono ?_; rintro e w' ⟨rfl, rfl⟩)
  go_ret
  exact ⟨rfl, rfl⟩

theorem compareBytes_neg : ∀ (a b : List UInt8), (Lib.compareBytes a b < 0) ↔ a < b
  | [], [] => by simp [Lib.compareBytes]
  | [], _ :: _ => by simp [Lib.compareBytes]
  | _ :: _, [] => by simp [Lib.compareBytes]
  | x :: a, y :: b => by
    unfold Lib.compareBytes
    rw [List.cons_lt_cons_iff]
    by_cases h1 : x < y
    · simp [h1]
    · by_cases h2 : y < x
      · have : x ≠ y := by rintro rfl; exact h1 h2
        simp [h1, h2, this]
      · have : x = y := UInt8.le_antisymm (UInt8.not_lt.1 h2) (UInt8.not_lt.1 h1)
        subst this
        simp [h1, compareBytes_neg a b]

/-- Integers compared. -/
def cI (x y : Int) : Int := if x < y then -1 else if y < x then 1 else 0
theorem cI_neg {x y : Int} : cI x y < 0 ↔ x < y := by
  unfold cI; split
  · simp [*]
  · split <;> simp [*]
theorem cI_zero {x y : Int} : cI x y = 0 ↔ x = y := by
  unfold cI; split
  · simp; omega
  · split
    · simp; omega
    · simp; omega
set_option maxHeartbeats 1000000 in
theorem compareI_any (x y : Int) (w : World) :
    Calls Tryz.prog 182 #[.int .i64 x, .int .i64 y] w fun e w' => e = .returned (.int .i64 (cI x y)) ∧ w = w' := by
  obtain ⟨r, hr⟩ : ∃ r, r = cI x y := ⟨_, rfl⟩
  rw [← hr]
  have HR := Lib.hid hr; clear hr
  by_cases h1 : x < y
  · have hq : r = -1 := by rw [HR.out]; unfold cI; rw [if_pos h1]
    subst hq
    go_enter Tryz.func182, Tryz.ntmps182
    go_wp2
    go_ret
    exact ⟨rfl, rfl⟩
  · by_cases h2 : y < x
    · have hq : r = 1 := by rw [HR.out]; unfold cI; rw [if_neg h1, if_pos h2]
      subst hq
      go_enter Tryz.func182, Tryz.ntmps182
      go_wp2
      go_ret
      exact ⟨rfl, rfl⟩
    · have hq : r = 0 := by rw [HR.out]; unfold cI; rw [if_neg h1, if_neg h2]
      subst hq
      go_enter Tryz.func182, Tryz.ntmps182
      go_wp2
      go_ret
      exact ⟨rfl, rfl⟩

/-- The first of two integers that is not 0. -/
def or2 (x y : Int) : Int := if x = 0 then y else x
set_option maxHeartbeats 1000000 in
theorem or2_any (x y : Int) (g : Nat) (w : World) (hg : g < w.heap.size) (c0 : w.cell? ⟨g, 0, none⟩ = some (.int .i64 x)) (c1 : w.cell? ⟨g, 1, none⟩ = some (.int .i64 y)) :
    Calls Tryz.prog 375 #[.slice (some ⟨g, 0, none⟩) 2 2] w fun e w' => e = .returned (.int .i64 (or2 x y)) ∧ w = w' := by
  obtain ⟨r, hr⟩ : ∃ r, r = or2 x y := ⟨_, rfl⟩
  rw [← hr]
  have HR := Lib.hid hr; clear hr
  by_cases h1 : x = 0
  · have hq : r = y := by rw [HR.out]; unfold or2; rw [if_pos h1]
    subst h1 hq
    clear HR
    by_cases h2 : r = 0
    · subst h2
      go_enter Tryz.func375, Tryz.ntmps375
      go_wp2_with fail
      refine wp_loop_rounds 3 ?_
      rw [rounds_succ]
      go_wp2_with fail
      rw [rounds_succ]
      go_wp2_with fail
      rw [rounds_succ]
      go_wp2_with fail
      go_ret
      exact ⟨rfl, rfl⟩
    · have h3 : (r != 0) = true := by simpa using h2
      have h4 : (r == 0) = false := by simpa using h2
      clear h2
      go_enter Tryz.func375, Tryz.ntmps375
      go_wp2_with fail
      refine wp_loop_rounds 3 ?_
      rw [rounds_succ]
      go_wp2_with fail
      rw [rounds_succ]
      go_wp2_with fail
      go_ret
      exact ⟨rfl, rfl⟩
  · have hq : r = x := by rw [HR.out]; unfold or2; rw [if_neg h1]
    subst hq
    have h3 : (r != 0) = true := by simpa using h1
    have h4 : (r == 0) = false := by simpa using h1
    clear h1 HR
    go_enter Tryz.func375, Tryz.ntmps375
    go_wp2_with fail
    refine wp_loop_rounds 3 ?_
    rw [rounds_succ]
    go_wp2_with fail
    go_ret
    exact ⟨rfl, rfl⟩
end Go.Proofs.YtjgojgmgicpgaaaGreat

namespace Go.Proofs.YtjgojgmgicpgaaaGreat
open Go.RowKit Go.Sort
set_option linter.unusedSimpArgs false
set_option linter.unusedVariables false

/-- The comparison of two names with their scores. -/
def cfE (x y : ByteArray × Int) : Int := or2 (cI x.2 y.2) (Lib.compareBytes x.1.data.toList y.1.data.toList)
section
variable {ops : Array Oper} {o : Oper} {a : Act} {w : World} {K : Act → World → Prop} {Q : Exit → Act → World → Prop}
/-- A slice of two integers. -/
theorem itwo_op (t u : Tmp) (x y : Int) (ho : o.op = .buildSlice 152 2 #[(0, .tmp t), (1, .tmp u)]) (hx : a.tmps[t]?.getD undef = .int .i64 x) (hy : a.tmps[u]?.getD undef = .int .i64 y) (h : ∀ g w', g = w.heap.size → w' = w.alloc (.cells #[.int .i64 x, .int .i64 y] 3) → K (a.put o.dst (.slice (some ⟨g, 0, none⟩) 2 2)) w') : o.wp Tryz.prog a w K Q := by
  unfold Oper.wp execOp
  simp only [ho]
  go_simp
  exact h _ _ rfl rfl
end

set_option maxHeartbeats 3200000 in
set_option maxRecDepth 100000 in
theorem cmpE_any (a : ByteArray) (b : Int) (c : ByteArray) (d : Int) (w : World) :
    Calls Tryz.prog 441 #[.agg #[.string a, .int .i64 b], .agg #[.string c, .int .i64 d]] w fun e w' => e = .returned (.int .i64 (cfE (a, b) (c, d))) ∧ Gw w w' := by
  have k1 := fun W => compareI_any b d W
  have k2 := fun W => compare_any a c W
  have k3 := fun (x y : Int) (g : Nat) W => or2_any x y g W
  obtain ⟨r, hr⟩ : ∃ r, r = cfE (a, b) (c, d) := ⟨_, rfl⟩
  rw [← hr]
  unfold cfE at hr
  simp only at hr
  generalize cI b d = p at k1 hr
  generalize Lib.compareBytes a.data.toList c.data.toList = q at k2 hr
  have K1 := Lib.hid k1; have K2 := Lib.hid k2; have K3 := Lib.hid k3; have HR := Lib.hid hr; clear k1 k2 k3 hr
  go_enter Tryz.func441, Tryz.ntmps441
  go_wp2_with fail
  have hg0 : Gw w ((w.alloc (.cells #[.string a, .int .i64 b] 480)).alloc (.cells #[.string c, .int .i64 d] 480)) := ((Gw.refl w).alloc _).alloc _
  have hA0 := (Bk.fresh w 480 #[.string a, .int .i64 b]).later (w' := (w.alloc (.cells #[.string a, .int .i64 b] 480)).alloc (.cells #[.string c, .int .i64 d] 480)) ((Below.refl _ _).alloc (Nat.le_refl _) _)
  have hC0 : Bk ((w.alloc (.cells #[.string a, .int .i64 b] 480)).alloc (.cells #[.string c, .int .i64 d] 480)) (w.heap.size + 1) 480 #[.string c, .int .i64 d] := Bk.freshAt _ _ _ (by simp)
  generalize hw1 : (w.alloc (.cells #[.string a, .int .i64 b] 480)).alloc (.cells #[.string c, .int .i64 d] 480) = w1 at hg0 hA0 hC0 ⊢
  clear hw1
  have la : w.heap.size < w1.heap.size := hA0.here
  have lc : w.heap.size + 1 < w1.heap.size := hC0.here
  have a0 : w1.cell? ⟨w.heap.size, 0, none⟩ = some (.string a) := hA0.cellAt 0
  have a1 : w1.cell? ⟨w.heap.size, 1, none⟩ = some (.int .i64 b) := hA0.cellAt 1
  have c0 : w1.cell? ⟨w.heap.size + 1, 0, none⟩ = some (.string c) := hC0.cellAt 0
  have c1 : w1.cell? ⟨w.heap.size + 1, 1, none⟩ = some (.int .i64 d) := hC0.cellAt 1
  have A0 := Lib.hid a0; have A1 := Lib.hid a1; have C0 := Lib.hid c0; have C1 := Lib.hid c1; have LA := Lib.hid la; have LC := Lib.hid lc; have HG0 := Lib.hid hg0
  clear hA0 hC0 a0 a1 c0 c1 la lc hg0
  refine wp_region_held_drew (S := fun W => Gw w1 W) (by kernel_rfl) ((Gw.refl _).drew) (fun hS0 => ?_)
  refine wpAnyH_take (i := 0) (v := ?_) rfl (by kernel_rfl) (by kernel_rfl) (by kernel_rfl) (fun _ _ _ h => h) (Or.inl ⟨by rfl, ?_⟩) hS0 ?_
  rotate_left
  · intro W _; go_simp; try with_reducible rfl
  try simp only [Act.put, List.getElem_toArray, List.getElem_cons_zero, List.getElem_cons_succ, List.setIfInBounds_toArray, List.set_cons_zero, List.set_cons_succ]
  refine wpAnyH_take (i := 1) (v := ?_) rfl (by kernel_rfl) (by kernel_rfl) (by kernel_rfl) (fun _ _ _ h => h) (Or.inl ⟨by rfl, ?_⟩) hS0 ?_
  rotate_left
  · intro W hSW; have hx := (hSW.cell LA.out).trans A1.out; go_simp; try with_reducible rfl
  try simp only [Act.put, List.getElem_toArray, List.getElem_cons_zero, List.getElem_cons_succ, List.setIfInBounds_toArray, List.set_cons_zero, List.set_cons_succ]
  refine wpAnyH_take (i := 2) (v := ?_) rfl (by kernel_rfl) (by kernel_rfl) (by kernel_rfl) (fun _ _ _ h => h) (Or.inl ⟨by rfl, ?_⟩) hS0 ?_
  rotate_left
  · intro W _; go_simp; try with_reducible rfl
  try simp only [Act.put, List.getElem_toArray, List.getElem_cons_zero, List.getElem_cons_succ, List.setIfInBounds_toArray, List.set_cons_zero, List.set_cons_succ]
  refine wpAnyH_take (i := 3) (v := ?_) rfl (by kernel_rfl) (by kernel_rfl) (by kernel_rfl) (fun _ _ _ h => h) (Or.inl ⟨by rfl, ?_⟩) hS0 ?_
  rotate_left
  · intro W hSW; have hx := (hSW.cell LC.out).trans C1.out; go_simp; try with_reducible rfl
  try simp only [Act.put, List.getElem_toArray, List.getElem_cons_zero, List.getElem_cons_succ, List.setIfInBounds_toArray, List.set_cons_zero, List.set_cons_succ]
  refine wpAnyH_take (i := 5) (v := ?_) rfl (by kernel_rfl) (by kernel_rfl) (by kernel_rfl) (fun _ _ _ h => h) (Or.inl ⟨by rfl, ?_⟩) hS0 ?_
  rotate_left
  · intro W _; go_simp; try with_reducible rfl
  try simp only [Act.put, List.getElem_toArray, List.getElem_cons_zero, List.getElem_cons_succ, List.setIfInBounds_toArray, List.set_cons_zero, List.set_cons_succ]
  refine wpAnyH_take (i := 6) (v := ?_) rfl (by kernel_rfl) (by kernel_rfl) (by kernel_rfl) (fun _ _ _ h => h) (Or.inl ⟨by rfl, ?_⟩) hS0 ?_
  rotate_left
  · intro W hSW; have hx := (hSW.cell LA.out).trans A0.out; go_simp; try with_reducible rfl
  try simp only [Act.put, List.getElem_toArray, List.getElem_cons_zero, List.getElem_cons_succ, List.setIfInBounds_toArray, List.set_cons_zero, List.set_cons_succ]
  refine wpAnyH_take (i := 7) (v := ?_) rfl (by kernel_rfl) (by kernel_rfl) (by kernel_rfl) (fun _ _ _ h => h) (Or.inl ⟨by rfl, ?_⟩) hS0 ?_
  rotate_left
  · intro W _; go_simp; try with_reducible rfl
  try simp only [Act.put, List.getElem_toArray, List.getElem_cons_zero, List.getElem_cons_succ, List.setIfInBounds_toArray, List.set_cons_zero, List.set_cons_succ]
  refine wpAnyH_take (i := 8) (v := ?_) rfl (by kernel_rfl) (by kernel_rfl) (by kernel_rfl) (fun _ _ _ h => h) (Or.inl ⟨by rfl, ?_⟩) hS0 ?_
  rotate_left
  · intro W hSW; have hx := (hSW.cell LC.out).trans C0.out; go_simp; try with_reducible rfl
  try simp only [Act.put, List.getElem_toArray, List.getElem_cons_zero, List.getElem_cons_succ, List.setIfInBounds_toArray, List.set_cons_zero, List.set_cons_succ]
  refine wpAnyH_ready (rs := [4]) (by kernel_rfl) (by simp) ?_
  refine AllReadyH.cons rfl (fun K hK => ?_) AllReadyH.nil
  go_simp
  refine (K1.out _).mono ?_
  rintro v v1 ⟨rfl, rfl⟩
  go_simp
  refine hK.out _ _ hS0 (fun hS1 => ?_)
  clear hK K
  try simp only [Act.put, List.getElem_toArray, List.getElem_cons_zero, List.getElem_cons_succ, List.setIfInBounds_toArray, List.set_cons_zero, List.set_cons_succ]
  refine wpAnyH_ready (rs := [9]) (by kernel_rfl) (by simp) ?_
  refine AllReadyH.cons rfl (fun K hK => ?_) AllReadyH.nil
  go_simp
  refine (K2.out _).mono ?_
  rintro v v2 ⟨rfl, rfl⟩
  go_simp
  refine hK.out _ _ hS1 (fun hS2 => ?_)
  clear hK K
  try simp only [Act.put, List.getElem_toArray, List.getElem_cons_zero, List.getElem_cons_succ, List.setIfInBounds_toArray, List.set_cons_zero, List.set_cons_succ]
  refine wpAnyH_ready (rs := [10]) (by kernel_rfl) (by simp) ?_
  refine AllReadyH.cons rfl (fun K hK => ?_) AllReadyH.nil
  simp only [if_pos, Region.wanted]
  refine itwo_op 9 14 p q rfl rfl rfl ?_
  intro g v3 hg hv3
  subst hg hv3
  refine hK.out _ _ (hS2.alloc _) (fun hS3 => ?_)
  clear hK K
  try simp only [Act.put, List.getElem_toArray, List.getElem_cons_zero, List.getElem_cons_succ, List.setIfInBounds_toArray, List.set_cons_zero, List.set_cons_succ]
  refine wpAnyH_ready (rs := [11]) (by kernel_rfl) (by simp) ?_
  refine AllReadyH.cons rfl (fun K hK => ?_) AllReadyH.nil
  go_simp
  refine (K3.out p q _ _ (by simp) (by simp) (by simp)).mono ?_
  rintro v v4 ⟨rfl, rfl⟩
  go_simp
  refine hK.out _ _ hS3 (fun hS4 => ?_)
  clear hK K
  try simp only [Act.put, List.getElem_toArray, List.getElem_cons_zero, List.getElem_cons_succ, List.setIfInBounds_toArray, List.set_cons_zero, List.set_cons_succ]
  refine wpAnyH_take (i := 12) (v := ?_) rfl (by kernel_rfl) (by kernel_rfl) (by kernel_rfl) (fun _ _ _ h => h) (Or.inl ⟨by rfl, ?_⟩) hS4 ?_
  rotate_left
  · intro W _; go_simp; try with_reducible rfl
  try simp only [Act.put, List.getElem_toArray, List.getElem_cons_zero, List.getElem_cons_succ, List.setIfInBounds_toArray, List.set_cons_zero, List.set_cons_succ]
  refine wpAnyH_done (by kernel_rfl) ?_ _
  go_wp2_with fail
  go_ret
  exact ⟨HR.out.symm ▸ rfl, HG0.out.trans hS4⟩
end Go.Proofs.YtjgojgmgicpgaaaGreat
