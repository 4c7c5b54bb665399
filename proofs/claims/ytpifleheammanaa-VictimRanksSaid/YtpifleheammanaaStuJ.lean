/- The stable sort of the standard library at api.Job over a row that the call owns: behind it the row holds the same elements, in the comparison's order, those that are alike as they stood. Condition: fewer than 2^60 elements. -/
import Derived.Test.YtpifleheammanaaStgJ
import Derived.Test.YtpifleheammanaaTag
namespace Go.Proofs.Ytpifleheammanaa.StJ
open Go.Shelf Go.RowKit Go.Lib Go.Sort Go.Proofs
set_option linter.unusedSimpArgs false
set_option linter.unusedVariables false

section
variable {β : Type} [Inhabited β] {enc : β → List Value} {cf : β → β → Int} {g : Nat} {cb : Array Value}
/-- What a comparison (function g, bound to cb) must be. -/
structure CmpAny (enc : β → List Value) (cf : β → β → Int) (g : Nat) (cb : Array Value) : Prop where
  len : ∀ x, (enc x).length = 13
  one : ∀ x, ∀ v ∈ enc x, v.oneCell' = true
  swo : SWO (ltOf cf)
  ent : ∀ args w, (callFunc g args).run Try.prog w = .ok (.enter g args) w
  call : ∀ x y W, Calls Try.prog g (#[.agg (enc x).toArray, .agg (enc y).toArray] ++ cb) W fun e w' => e = .returned (.int .i64 (cf x y)) ∧ Gw W w'
theorem CmpAny.tag (C : CmpAny enc cf g cb) : CmpOk (fun x : β × Nat => enc x.1) (cfTag cf) g cb :=
  ⟨fun x => C.len x.1, fun x => C.one x.1, swoCf C.swo, C.ent, fun _ _ _ _ _ _ _ _ x y => C.call x.1 y.1 _⟩

theorem stable_own (C : CmpAny enc cf g cb) {l : List β} {w : World} {base : Nat} {v : Value} {A : Option Addr} {n cap : Nat} (hv : v = .slice A n cap) (hn : n = l.length) (h : OwnK w base 45 13 v (l.map enc)) (hb : base ≤ w.heap.size) (hl : n < 1152921504606846976) :
    Calls Try.prog 61 #[.slice A n cap, .func (.func g) #[] cb] w fun e w' => e = .returned (.tuple #[]) ∧ ∃ W : List Nat, W.Perm (List.range l.length) ∧ W.Pairwise (Fore fun i y => ltOf cf (l.getD i default) (l.getD y default)) ∧ OwnK w' base 45 13 v ((W.map fun i => l.getD i default).map enc) ∧ Below base w w' := by
  subst hv
  rcases h.2.2 with ⟨h1, h0⟩ | ⟨g1, cap1, cur, h1, hbg, hg, hn1, hm1, _, _⟩
  · rw [List.length_map] at h0
    have hl0 : l = [] := List.length_eq_zero_iff.1 h0
    subst hl0
    injection h1 with e1 e2 e3
    subst e1 e2 e3
    refine (sortStable_none none 0 w).mono ?_
    rintro e w' ⟨he, rfl⟩
    exact ⟨he, [], by simp, List.Pairwise.nil, OwnK.nil _ _ _ _, Below.refl _ _⟩
  · rw [List.length_map] at h1 hn1
    injection h1 with e1 e2 e3
    subst e1 e3
    have hmap : (tagd l).toList.map (fun x => enc x.1) = l.map enc := tagd_map l enc
    have hlen : (tagd l).toList.length = n := by rw [hn, Array.length_toList, tagd_size]
    have h' : OwnK w base 45 13 (.slice (some ⟨g1, 0, none⟩) (tagd l).toList.length cap) ((tagd l).toList.map fun x => enc x.1) := by rw [hmap, hlen]; exact h
    have R := own_row (enc := fun x : β × Nat => enc x.1) (k := 13) C.tag.len (by omega) C.tag.one h'
    rw [Array.toArray_toList] at R
    have hc := sortStable_any C.tag (ltTag (ltOf cf)) (swoTag C.swo) g1 0 cap n (tagd l) w R (by rw [tagd_size]; exact hn) hl (fun i j hij hj => tagd_say hij (by omega))
    refine Calls.mono hc ?_
    rintro e w' ⟨he, D, hp, hs, hS⟩
    rw [hn] at hp hs
    obtain ⟨W, w1, w2, w3⟩ := stable_places hp hs
    have hD : D.size = (tagd l).toList.length := by rw [hlen, hn, ← tagd_size l]; exact hp.1
    have ho := own_sorted (enc := fun x : β × Nat => enc x.1) (k := 13) C.tag.len (by omega) h' hS hD
    refine ⟨he, W, w1, w2, ?_, sw_below hS hbg hb⟩
    rw [hlen] at ho
    rw [← w3, List.map_map]
    exact ho
end
end Go.Proofs.Ytpifleheammanaa.StJ
