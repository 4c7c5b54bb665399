/- A state without machines, queues and jobs, its lists being nil or not: what Copy and State make of it. No condition. · Regions that draw their order, whose operations only read what was there and whose callees change nothing that was there (they may make memory): one walk of the text's order serves every order. No condition. · A world behind some draws, with blocks laid behind it. No condition; it serves any seat. -/
import Derived.Test.YtjgojgmgicpgaaaGreatHGrz
import Derived.Test.YtjgojgmgicpgaaaGreatHGsa
import Derived.Test.YtjgojgmgicpgaaaGreatChecked
import Derived.WalkKit
import Derived.WalkSpells
import Derived.Handy
import Derived.Below
import Derived.BigQuiet
import Derived.Deep.QuietTactic
import Derived.Shelf.SlSortCmp.QuietGrown
namespace Go.Proofs.YtjgojgmgicpgaaaGreat
open Go.RowKit
set_option linter.unusedSimpArgs false
set_option linter.unusedVariables false

abbrev zV (A : Option Addr) (a : Nat) (B : Option Addr) (b : Nat) (C : Option Addr) (c : Nat) : Array Value := #[.int .i64 0, .int .i64 1, .slice A 0 a, .slice B 0 b, .slice C 0 c]
/-- A blank state. -/
def ZSt (v : Value) : Prop := ∃ A a B b C c, v = .agg (zV A a B b C c) ∧ a ≤ 9223372036854775807 ∧ b ≤ 9223372036854775807 ∧ c ≤ 9223372036854775807
theorem ZSt.nil : ZSt (.agg (zV none 0 none 0 none 0)) := ⟨none, 0, none, 0, none, 0, rfl, by decide, by decide, by decide⟩
theorem zRd (w : World) {A : Option Addr} {a : Nat} {B : Option Addr} {b : Nat} {C : Option Addr} {c : Nat} (ha : a ≤ 9223372036854775807) (hb : b ≤ 9223372036854775807) (hc : c ≤ 9223372036854775807) : RdSt w ⟨0, 1, A, 0, a, B, 0, b, C, 0, c⟩ Sg.new :=
  ⟨rfl, rfl, rfl, RdM.nil _ _, fun x hx => (by cases hx), Nat.zero_le _, ha, rfl, RdQ.nil _ _, fun x hx => (by cases hx), Nat.zero_le _, hb, rfl, RdJ.nil _ _, fun x hx => (by cases hx), fun x hx => (by cases hx), Nat.zero_le _, hc⟩
theorem ownS_z {w : World} {k : Nat} {vM vQ vJ : Value} {T : Sg} (h : OwnS w k vM vQ vJ T) (e : T.bare = Sg.new.bare) : ZSt (.agg #[.int .i64 0, .int .i64 1, vM, vQ, vJ]) := by
  have hM : T.M = [] := by
    have h1 : bM T.M = [] := congrArg Sg.M e
    simpa using h1
  have hQ : T.Q = [] := congrArg Sg.Q e
  have hJ : T.J = [] := by
    have h1 : bL T.J = [] := congrArg Sg.J e
    simpa using h1
  obtain ⟨A, a, hv1, -, -, h2, -⟩ := h.M.sl
  obtain ⟨B, b, hv2, -, -, h3, -⟩ := h.Q.sl
  obtain ⟨C, c, hv3, -, -, h4, -⟩ := h.J.sl
  rw [hM] at hv1; rw [hQ] at hv2; rw [hJ] at hv3
  subst hv1 hv2 hv3
  unfold maxLen at h2 h3 h4
  exact ⟨A, a, B, b, C, c, rfl, h2, h3, h4⟩
theorem copy_z {v : Value} (hv : ZSt v) (w : World) : Calls Tryz.prog 64 #[v] w fun e w' => (∃ v', e = .returned v' ∧ ZSt v') ∧ Below w.heap.size w w' := by
  obtain ⟨A, a, B, b, C, c, rfl, ha, hb, hc⟩ := hv
  refine (copy_any ⟨0, 1, A, 0, a, B, 0, b, C, 0, c⟩ Sg.new w (Lib.hid (zRd w ha hb hc)) (Nat.zero_le _) (Nat.zero_le _) (Nat.zero_le _) (Lib.hid fun x hx => (by cases hx)) (Lib.hid fun x hx => (by cases hx))).mono ?_
  rintro e w' ⟨⟨vM, vQ, vJ, T, rfl, hO, hb⟩, hB⟩
  exact ⟨⟨_, rfl, ownS_z hO hb⟩, hB⟩
/-- A new scheduler of the first generation. -/
def Z1 (w : World) (g : Nat) : Prop := Gs w g g 0 (.slice none 0 0) (.slice none 0 0) (.slice none 0 0) Sg.new
theorem Z1.below {w w' : World} {g : Nat} (h : Z1 w g) (hb : Below w.heap.size w w') : Z1 w' g := Gs.below h hb
theorem Z1.grown {w w' : World} {g q : Nat} (h : Z1 w g) (hg : w.grownBy w' (some q)) (hq : q ≠ g) : Z1 w' g := Gs.grp h (GrP.of hg) fun k hk e => by
  injection e with e
  rcases hk with rfl | hk
  · exact hq e
  · exact blkS_new hk
theorem Z1.lt {w : World} {g : Nat} (h : Z1 w g) : g < w.heap.size := h.bk.here
theorem new_z (w : World) : Calls Tryz.prog 23 #[] w fun e w' => e = .returned (.pointer (some ⟨w.heap.size, 0, none⟩)) ∧ Z1 w' w.heap.size ∧ Below w.heap.size w w' := new_any w
theorem state_z (g : Nat) (w : World) (h : Z1 w g) : Calls Tryz.prog 25 #[.pointer (some ⟨g, 0, none⟩)] w fun e w' => (∃ v', e = .returned v' ∧ ZSt v') ∧ Below w.heap.size w w' := by
  refine (state_any g g 0 _ _ _ Sg.new w (Lib.hid h) (Lib.hid sm_new)).mono ?_
  rintro e w' ⟨⟨vM, vQ, vJ, T, rfl, hO, hb⟩, hB⟩
  exact ⟨⟨_, rfl, ownS_z hO hb⟩, hB⟩
end Go.Proofs.YtjgojgmgicpgaaaGreat

namespace Go.Proofs.YtjgojgmgicpgaaaGreat
open Go.RowKit

/-- A world that is a later one of 'w': what was there in 'w' is there, unchanged. -/
structure Later (w : World) where
  to : World
  below : Below w.heap.size w to

theorem Later.some (w : World) : Nonempty (Later w) := ⟨⟨w, Below.refl _ _⟩⟩
theorem Later.cell {w : World} (x : Later w) {b o : Nat} (h : b < w.heap.size) : x.to.cell? ⟨b, o, none⟩ = w.cell? ⟨b, o, none⟩ := x.below.cell (p := ⟨b, o, none⟩) h

theorem Later.out {w w' : World} (h : ∃ x : Later w, w' = x.to) : Below w.heap.size w w' := by
  obtain ⟨x, rfl⟩ := h
  exact x.below

theorem wp_region_later {P : Program} {id : Nat} {Q : Exit → Act → World → Prop} {a : Act} {w : World} {l : List Oper} (hm : P.follows .mixedOrders = true) (hB : Region.lexB .any l.toArray = true)
    (h : wpQuiet P l.toArray (fun w' => ∃ x : Later w, w' = x.to) (fun a' => ∀ w', (∃ x : Later w, w' = x.to) → Q .normal a' w') l a) : (Code.region id l.toArray true).wp P Q a w :=
  wp_region_quiet (C := fun w' => ∃ x : Later w, w' = x.to) hm hB ⟨⟨w.drew, (Below.refl _ _).drew⟩, rfl⟩ (by simpa using h)

theorem Later.call {P : Program} {f : FuncId} {args : Array Value} {w : World} {x : Later w} {v : Value}
    (h : Calls P f args x.to fun e w' => e = .returned v ∧ Below x.to.heap.size x.to w') : Calls P f args x.to fun e w'' => e = .returned v ∧ ∃ y : Later w, w'' = y.to :=
  h.mono fun _ w'' ⟨he, hb⟩ => ⟨he, ⟨w'', x.below.trans (hb.mono x.below.size)⟩, rfl⟩
end Go.Proofs.YtjgojgmgicpgaaaGreat

namespace Go.Proofs.YtjgojgmgicpgaaaGreat
open Go.RowKit Go.Sort
set_option linter.unusedSimpArgs false
set_option linter.unusedVariables false

/-- A world behind some draws, with blocks laid behind it. -/
def Gw (w W : World) : Prop := ∃ q os, W = grow (w.drewN q) os
section
variable {w w1 w2 : World}
theorem Gw.refl (w : World) : Gw w w := ⟨0, #[], by rw [grow_empty]; rfl⟩
theorem Gw.drew (h : Gw w w1) : Gw w w1.drew := by
  obtain ⟨q, os, rfl⟩ := h
  exact ⟨q + 1, os, rfl⟩
theorem Gw.alloc (h : Gw w w1) (o : Obj) : Gw w (w1.alloc o) := by
  obtain ⟨q, os, rfl⟩ := h
  exact ⟨q, os ++ #[o], by rw [alloc_eq_grow, grow_grow]⟩
theorem Gw.trans (h : Gw w w1) (k : Gw w1 w2) : Gw w w2 := by
  obtain ⟨q, os, rfl⟩ := h
  obtain ⟨q', os', rfl⟩ := k
  exact ⟨q + q', os ++ os', by show grow (grow ((w.drewN q).drewN q') os) os' = _; rw [grow_grow, World.drewN_drewN]⟩
theorem Gw.cell (h : Gw w w1) {b o : Nat} (hb : b < w.heap.size) : w1.cell? ⟨b, o, none⟩ = w.cell? ⟨b, o, none⟩ := by
  obtain ⟨q, os, rfl⟩ := h
  rw [cell?_grow _ _ _ (by exact hb)]; rfl
end
end Go.Proofs.YtjgojgmgicpgaaaGreat
