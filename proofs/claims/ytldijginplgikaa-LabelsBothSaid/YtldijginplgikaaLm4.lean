/- Layer 18: slices.Clone of labels; how a new row of labels stands beside an index; Put's plain side. Condition: at most 1000 labels. -/
import Derived.Test.YtldijginplgikaaLm3
namespace Go.Proofs.Ytldijginplgikaa
open Go.RowKit
set_option linter.unusedSimpArgs false
set_option linter.unusedVariables false

def cellsLb (l : List Lb) : List (List Value) := l.map fun x => [.string x.1, .string x.2]
theorem cellsLb_length (l : List Lb) : (cellsLb l).length = l.length := by simp [cellsLb]
theorem cellsLb_k (l : List Lb) : ∀ x ∈ cellsLb l, x.length = 2 := by
  intro x hx
  simp only [cellsLb, List.mem_map] at hx
  obtain ⟨y, _, rfl⟩ := hx; rfl
theorem cellsLb_one (l : List Lb) : ∀ y ∈ cellsLb l, ∀ u ∈ y, u.oneCell' = true := by
  intro y hy u hu
  simp only [cellsLb, List.mem_map] at hy
  obtain ⟨x, _, rfl⟩ := hy
  simp only [List.mem_cons, List.not_mem_nil, or_false] at hu
  rcases hu with rfl | rfl <;> rfl
theorem RdL.rdk {w : World} {A : Option Addr} {l : List Lb} (h : RdL w A l) : RdK w 2 A (cellsLb l) := fun i x hx => by
  simp only [cellsLb, List.getElem?_map, Option.map_eq_some_iff] at hx
  obtain ⟨y, hy, rfl⟩ := hx
  obtain ⟨g, o, ha, h1, h2⟩ := h i y hy
  refine ⟨g, o, ha, fun j v hj => ?_⟩
  match j with
  | 0 => simp at hj; subst hj; simpa using h1
  | 1 => simp at hj; subst hj; exact h2
  | j + 2 => simp at hj
theorem RdK.labs {w : World} {A : Option Addr} {l : List Lb} (h : RdK w 2 A (cellsLb l)) : RdL w A l := fun i x hx => by
  obtain ⟨g, o, ha, hr⟩ := h i [.string x.1, .string x.2] (by simp [cellsLb, hx])
  exact ⟨g, o, ha, by simpa using hr 0 _ rfl, hr 1 _ rfl⟩
theorem infoLb : (Try.prog.info? 48).map (fun i => (i.zero, i.size, i.bytes)) = some (some (.agg #[.string ⟨#[]⟩, .string ⟨#[]⟩]), 2, 32) := by kernel_rfl
set_option maxHeartbeats 2000000 in
set_option maxRecDepth 100000 in
theorem cloneL_any (A : Option Addr) (n c : Nat) (l : List Lb) (w : World) (hn : Hid (n = l.length)) (hr : Hid (RdK w 2 A (cellsLb l))) (hbig : n ≤ 1000) :
    Calls Try.prog 19 #[.slice A n c] w fun e w' => ∃ v, e = .returned v ∧ OwnK w' w.heap.size 48 2 v (cellsLb l) ∧ Below w.heap.size w w' := by
  have q22 : ∀ (w : World) (a : Option Addr) (n c n' c' : Nat), (binOp .eql 36 (.slice a n c) (.slice none n' c')).run Try.prog w = .ok (.bool a.isNone) w := fun w a n c n' c' => Lib.run_eql_slice_nil w _ _ a n c n' c' Try.underlying36
  cases A with
  | none =>
    have hl : l = [] := by
      cases l with
      | nil => rfl
      | cons x r => obtain ⟨_, _, ha, _⟩ := hr.out 0 _ (by simp [cellsLb]; rfl); cases ha
    have HL := Lib.hid hl
    clear hl
    go_enter Try.func19, Try.ntmps19
    go_wp2
    go_ret
    exact ⟨_, rfl, by rw [HL.out]; exact OwnK.nil _ _ _ _, Below.refl _ _⟩
  | some a =>
    have hr2 := Lib.hid (hr.out.later ((Below.refl w.heap.size w).alloc (Nat.le_refl _) (.cells #[] 48)))
    have hlen : (cellsLb l).length = n := by rw [cellsLb_length, hn.out]
    have HLen := Lib.hid hlen
    clear hlen
    go_enter Try.func19, Try.ntmps19
    go_wp2_with ((with_reducible refine append_k _ rfl (.tmp 5) (.tmp 6) 36 rfl w.heap.size 48 _ 2 32 Try.underlying36 infoLb rfl (by omega) (.slice (some ⟨w.heap.size, 0, none⟩) 0 0) [] rfl (OwnK.empty w w.heap.size 48 2 (Nat.le_refl _) rfl) a c n (cellsLb l) rfl hr2.out (cellsLb_k l) (cellsLb_one l) HLen.out.symm (by have := HLen.out; simp only [List.length_nil, maxLen]; omega) (by have := HLen.out; simp only [List.length_nil]; omega) (by simp) ?_); intro v' w1 hown hgrow)
    go_ret
    refine ⟨v', rfl, by simpa using hown, ?_⟩
    exact ((Below.refl _ w).alloc (Nat.le_refl _) _).grown hgrow (by simp) (by intro k hk; simp [Value.ownBlock] at hk; omega)
theorem clone_hd (h : Hd) (w : World) (ho : h.Ok w) (hbig : h.n ≤ 1000) : Calls Try.prog 19 #[.slice h.a h.n h.c] w fun e w' => (∃ (A : Option Addr) (n c : Nat), e = .returned (.slice A n c) ∧ (⟨A, n, c, h.l⟩ : Hd).Ok w' ∧ ∀ k, hdB ⟨A, n, c, h.l⟩ = some k → w.heap.size ≤ k ∧ k < w'.heap.size) ∧ Below w.heap.size w w' := by
  refine (cloneL_any h.a h.n h.c h.l w (Lib.hid ho.ln) (Lib.hid ho.rd.rdk) hbig).mono ?_
  rintro e w' ⟨v, rfl, hO, hb⟩
  obtain ⟨A, c, hs⟩ := hO.sl
  refine ⟨⟨A, (cellsLb h.l).length, c, by rw [hs.val], ⟨by rw [cellsLb_length], hs.rd.labs, hs.cap, by have := hs.cap2; unfold maxLen at this; omega⟩, fun k hk => ?_⟩, hb⟩
  have h1 := hO.block k (by rw [hs.val]; cases A <;> simp_all [hdB, Value.ownBlock])
  exact ⟨h1, hO.lt (by rw [hs.val]; cases A <;> simp_all [hdB, Value.ownBlock])⟩
theorem GrP.grow {p : Nat → Prop} {w wr w' : World} {row : Option Nat} (H : GrP p w wr) (hg : wr.grownBy w' row) (hk : ∀ k, row = some k → k < w.heap.size → p k) : GrP p w w' :=
  ⟨hg.os.trans H.os, hg.tape.trans H.tape, hg.output.trans H.output, Nat.le_trans H.size hg.size, fun k hlt hn => (hg.block k (Nat.lt_of_lt_of_le hlt H.size) fun e => hn (hk k e.symm hlt)).trans (H.block k hlt hn)⟩
/-- Where Put stands behind k labels. -/
structure Pk (w wr : World) (b g : Nat) (p : Nat → Prop) (k1 k2 : Nat) (D : List NH) (S1 S : List SB) (T1 T : Nat → List ByteArray) (s : ByteArray) (l : List Lb) : Prop where
  xm : Xm wr b g (some k1) (some k2) D S T
  new : ∀ k, XB g (some k1) (some k2) D S k → p k ∨ w.heap.size ≤ k
  rel : ∀ lb t, InS S T lb t ↔ InS S1 T1 lb t ∨ (t = s ∧ lb ∈ l)
  gr : GrP p w wr
section
variable {w wr w' : World} {b g k1 k2 : Nat} {p : Nat → Prop} {D : List NH} {S1 S : List SB} {T1 T : Nat → List ByteArray} {s : ByteArray} {l : List Lb} {lb : Lb}
theorem Pk.later (H : Pk w wr b g p k1 k2 D S1 S T1 T s l) (hb : Below wr.heap.size wr w') : Pk w w' b g p k1 k2 D S1 S T1 T s l := ⟨H.xm.later hb, H.new, H.rel, H.gr.trans (GrP.ofBelow hb)⟩
theorem fS_app {S : List SB} {lb : Lb} {k : Nat} (h : fS S lb = none) : fS (S ++ [(lb, k)]) lb = some k := by
  unfold fS at h ⊢
  rw [Option.map_eq_none_iff] at h
  rw [List.find?_append, h]
  simp
theorem Pk.more (H : Pk w wr b g p k1 k2 D S1 S T1 T s l) {k : Nat} {w1 : World} (hbw : b ≤ w.heap.size) (hb : Below wr.heap.size wr w1) (hk : wr.heap.size ≤ k) (hk1 : MapG Value.string w1 k []) (hg : w1.grownBy w' (some k2)) (hm : MapG encLb w' k2 ((S ++ [(lb, k)]).map eSB)) :
    Pk w w' b g p k1 k2 D S1 (S ++ [(lb, k)]) T1 (setT T (some k) []) s l := by
  have hwk : w.heap.size ≤ k := Nat.le_trans H.gr.size hk
  have hT : ∀ q ∈ S, setT T (some k) [] q.2 = T q.2 := fun q hq => by
    unfold setT
    rw [if_neg]
    intro e
    injection e with e
    have := H.xm.lt q.2 (.inr (.inr (.inr (.inl ⟨q, hq, rfl⟩)))); omega
  refine ⟨H.xm.more2 rfl hb hk hk1 (Nat.le_trans hbw hwk) hg hm, fun j hj => ?_, fun lb' t => ?_, ?_⟩
  · rcases hj with h | h | h | ⟨q, hq, h⟩ | h
    · exact H.new j (.inl h)
    · exact H.new j (.inr (.inl h))
    · exact H.new j (.inr (.inr (.inl h)))
    · rcases List.mem_append.1 hq with hq | hq
      · exact H.new j (.inr (.inr (.inr (.inl ⟨q, hq, h⟩))))
      · rw [List.mem_singleton.1 hq] at h
        right; rw [← h]; exact hwk
    · exact H.new j (.inr (.inr (.inr (.inr h))))
  · rw [← H.rel]
    constructor
    · rintro ⟨q, hq, h1, h2⟩
      rcases List.mem_append.1 hq with hq | hq
      · exact ⟨q, hq, h1, by rw [← hT q hq]; exact h2⟩
      · rw [List.mem_singleton.1 hq] at h2
        unfold setT at h2
        rw [if_pos rfl] at h2; cases h2
    · rintro ⟨q, hq, h1, h2⟩
      exact ⟨q, List.mem_append_left _ hq, h1, by rw [hT q hq]; exact h2⟩
  · refine (H.gr.trans (GrP.ofBelow hb)).grow hg fun j e hlt => ?_
    injection e with e
    rcases H.new k2 (.inr (.inr (.inl rfl))) with h | h
    · rw [← e]; exact h
    · omega
theorem Pk.add (H : Pk w wr b g p k1 k2 D S1 S T1 T s l) {k : Nat} (hf : fS S lb = some k) (hg : wr.grownBy w' (some k)) (hm : MapG Value.string w' k ((addT (T k) s).map eNm)) :
    Pk w w' b g p k1 k2 D S1 S T1 (setT T (fS S lb) (addT (T k) s)) s (l ++ [lb]) := by
  refine ⟨H.xm.turnSet (by rw [hf]; exact hg) (by rw [hf]; exact .inr ⟨k, rfl, hm⟩), H.new, fun lb' t => ?_, H.gr.grow hg fun j e hlt => ?_⟩
  · have hr := H.rel lb' t
    rw [inS_nm H.xm.keys] at hr ⊢
    rw [nmS_set H.xm.nd]
    by_cases h : (fS S lb).isSome = true ∧ lb' = lb
    · rw [if_pos h, addT_mem]
      have : nmS S T lb' = T k := by unfold nmS; rw [h.2, hf]
      rw [this] at hr
      rw [hr, List.mem_append, List.mem_singleton]
      constructor
      · rintro ((h1 | h1) | h1)
        · exact .inl h1
        · exact .inr ⟨h1.1, .inl h1.2⟩
        · exact .inr ⟨h1, .inr h.2⟩
      · rintro (h1 | ⟨h1, _⟩)
        · exact .inl (.inl h1)
        · exact .inr h1
    · rw [if_neg h, hr, List.mem_append, List.mem_singleton]
      have hne : lb' ≠ lb := fun e => h ⟨by rw [hf]; rfl, e⟩
      constructor
      · rintro (h1 | ⟨h1, h2⟩)
        · exact .inl h1
        · exact .inr ⟨h1, .inl h2⟩
      · rintro (h1 | ⟨h1, h2 | h2⟩)
        · exact .inl h1
        · exact .inr ⟨h1, h2⟩
        · exact absurd h2 hne
  · injection e with e
    rcases H.new k (.inr (.inr (.inr (.inl ⟨_, fS_mem hf, rfl⟩)))) with h | h
    · rw [← e]; exact h
    · omega
end
end Go.Proofs.Ytldijginplgikaa
