/- The document's wheel: Set, plainly. No condition. -/
import Derived.Test.YtbegbecmnhldkaaTw5
import Derived.Test.YtbegbecmnhldkaaLat
import Derived.Test.YtbegbecmnhldkaaRge
namespace Go.Proofs.Ytbegbecmnhldkaa
open Go.RowKit
set_option linter.unusedSimpArgs false
set_option linter.unusedVariables false

/-- Put in its place: rising names. -/
def putT (D : List NT) (s : ByteArray) (t : Int) : List NT := (delT D s).takeWhile (fun p => sL p.1 s) ++ (s, t) :: (delT D s).dropWhile (fun p => sL p.1 s)
theorem putT_perm (D : List NT) (s : ByteArray) (t : Int) : (delT D s ++ [(s, t)]).Perm (putT D s t) := by
  unfold putT
  refine (List.perm_append_comm).trans ?_
  conv => lhs; rw [← List.takeWhile_append_dropWhile (p := fun p : NT => sL p.1 s) (l := delT D s)]
  rw [List.singleton_append]
  exact List.perm_middle.symm
theorem putT_at {E : List NT} {s : ByteArray} {k : Nat} (hk : k ≤ E.length) (h1 : ∀ p ∈ E.take k, sL p.1 s = true) (h2 : ∀ h : k < E.length, sL E[k].1 s = false) : E.takeWhile (fun p => sL p.1 s) = E.take k ∧ E.dropWhile (fun p => sL p.1 s) = E.drop k := by
  induction E generalizing k with
  | nil => simp at hk; subst hk; exact ⟨rfl, rfl⟩
  | cons p E ih =>
    cases k with
    | zero =>
      have := h2 (by simp)
      simp at this
      simp [List.takeWhile_cons, List.dropWhile_cons, this]
    | succ k =>
      have hp := h1 p (by simp)
      have r := ih (k := k) (by simpa using hk) (fun q hq => h1 q (by simp [hq])) (fun h => h2 (Nat.succ_lt_succ h))
      simp only [List.takeWhile_cons, List.dropWhile_cons, hp, if_true, List.take_succ_cons, List.drop_succ_cons]
      exact ⟨by rw [r.1], r.2⟩
/-- Rising names. -/
def AscT (D : List NT) : Prop := D.Pairwise fun p q => sL p.1 q.1 = true
theorem AscT.del {D : List NT} (h : AscT D) (s : ByteArray) : AscT (delT D s) := List.Pairwise.filter _ h
theorem sL_irrT (s : ByteArray) : ¬ sL s s = true := by rw [sL_irrefl]; simp
theorem AscT.nodup {D : List NT} (h : AscT D) : (D.map Prod.fst).Nodup := by
  rw [List.Nodup, List.pairwise_map]
  exact h.imp fun {p q} hp e => by rw [e] at hp; exact sL_irrT _ hp
theorem twT_all (f : NT → Bool) : ∀ E : List NT, ∀ p ∈ E.takeWhile f, f p = true
  | [], p, hp => by cases hp
  | q :: E, p, hp => by
    rw [List.takeWhile_cons] at hp
    split at hp
    · rename_i h
      rcases List.mem_cons.1 hp with rfl | hp
      · exact h
      · exact twT_all f E p hp
    · cases hp
theorem AscT.put {D : List NT} (h : AscT D) (s : ByteArray) (t : Int) : AscT (putT D s t) := by
  have hE := h.del s
  have hne : ∀ p ∈ delT D s, p.1 ≠ s := fun p hp => (delT_mem.1 hp).2
  unfold putT
  generalize delT D s = E at hE hne
  have h1 : ∀ p ∈ E.takeWhile (fun p => sL p.1 s), sL p.1 s = true := twT_all _ _
  have h2 : ∀ p ∈ E.dropWhile (fun p => sL p.1 s), sL s p.1 = true := by
    clear h1
    induction E with
    | nil => intro p hp; cases hp
    | cons q E ih =>
      intro p hp
      rw [List.dropWhile_cons] at hp
      rw [AscT, List.pairwise_cons] at hE
      by_cases hq : sL q.1 s = true
      · rw [if_pos hq] at hp
        exact ih hE.2 (fun z hz => hne z (by simp [hz])) p hp
      · rw [if_neg hq] at hp
        have hq' : sL s q.1 = true := (sL_total (by simpa using hq)).resolve_right fun e => hne q (by simp) e
        rcases List.mem_cons.1 hp with rfl | hp
        · exact hq'
        · exact sL_trans hq' (hE.1 p hp)
  have h3 : AscT (E.takeWhile (fun p => sL p.1 s)) := List.Pairwise.sublist (List.takeWhile_sublist _) hE
  have h4 : AscT (E.dropWhile (fun p => sL p.1 s)) := List.Pairwise.sublist (List.dropWhile_sublist _) hE
  refine List.pairwise_append.2 ⟨h3, List.pairwise_cons.2 ⟨h2, h4⟩, fun p hp q hq => ?_⟩
  rcases List.mem_cons.1 hq with rfl | hq
  · exact h1 p hp
  · exact sL_trans (h1 p hp) (h2 q hq)
section
variable {A : Option Addr} {n c k : Nat}
theorem slice_loTS (hk : k ≤ n) (hn : n ≤ c) : ∀ w, (Instr.slice 28 (.slice A n c) none (some (.int .i64 k)) none).run Try.prog w = .ok (.slice A k c) w := fun w => by
  have u1 := @Try.underlying28
  have z1 := @Try.sizeOf9
  have h1 : (k : Int) ≤ (c : Int) := by omega
  simp [Instr.slice, run_underlying u1, Instr.sliceBounds, Instr.sliceBound, asIntOf, h1, z1]
  rw [if_pos (by omega)]
  cases A <;> simp [Addr.add]
theorem slice_loTV (hk : k ≤ n) (hn : n ≤ c) : ∀ w, (Instr.slice 29 (.slice A n c) none (some (.int .i64 k)) none).run Try.prog w = .ok (.slice A k c) w := fun w => by
  have u1 := @Try.underlying29
  have z1 := @Try.sizeOf3
  have h1 : (k : Int) ≤ (c : Int) := by omega
  simp [Instr.slice, run_underlying u1, Instr.sliceBounds, Instr.sliceBound, asIntOf, h1, z1]
  rw [if_pos (by omega)]
  cases A <;> simp [Addr.add]
/-- Where a slice's rest begins. -/
def tailT (A : Option Addr) (c k m : Nat) : Option Addr := if c = k then A else A.map (·.add (k * m))
theorem slice_hiTS (hk : k ≤ n) (hn : n ≤ c) : ∀ w, (Instr.slice 28 (.slice A n c) (some (.int .i64 k)) none none).run Try.prog w = .ok (.slice (tailT A c k 1) (n - k) (c - k)) w := fun w => by
  have u1 := @Try.underlying28
  have z1 := @Try.sizeOf9
  have h1 : (k : Int) ≤ (n : Int) := by omega
  simp [Instr.slice, run_underlying u1, Instr.sliceBounds, Instr.sliceBound, asIntOf, h1, z1, tailT]
  intro h; omega
theorem slice_hiTV (hk : k ≤ n) (hn : n ≤ c) : ∀ w, (Instr.slice 29 (.slice A n c) (some (.int .i64 k)) none none).run Try.prog w = .ok (.slice (tailT A c k 1) (n - k) (c - k)) w := fun w => by
  have u1 := @Try.underlying29
  have z1 := @Try.sizeOf3
  have h1 : (k : Int) ≤ (n : Int) := by omega
  simp [Instr.slice, run_underlying u1, Instr.sliceBounds, Instr.sliceBound, asIntOf, h1, z1, tailT]
  intro h; omega
end
end Go.Proofs.Ytbegbecmnhldkaa
