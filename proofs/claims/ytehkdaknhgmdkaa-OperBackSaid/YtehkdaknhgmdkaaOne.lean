/- The plain mathematics of what was read: it is just its own encoding. No condition. -/
import Derived.Test.YtehkdaknhgmdkaaTks
namespace Go.Proofs.Ytehkdaknhgmdkaa
open Go.RowKit
set_option linter.unusedSimpArgs false
set_option linter.unusedVariables false

/-- What was taken as a number is that number's encoding. -/
theorem takeP_enc {l : List UInt8} {p : Nat} (h : (takeP l (p : Int)).2.2 = 0) : enc (takeP l (p : Int)).1 = (l.drop p).take ((takeP l (p : Int)).2.1.toNat - p) := by
  have hok := takeP_ok h
  have hp : p < l.length := by omega
  rw [takeP_in hp] at h ⊢
  by_cases c1 : 8 < l[p].toNat
  · rw [if_pos c1] at h; cases h
  · rw [if_neg c1] at h ⊢
    by_cases c2 : l.length - (p + 1) < l[p].toNat
    · rw [if_pos c2] at h; cases h
    · rw [if_neg c2] at h ⊢
      by_cases c3 : 0 < l[p].toNat ∧ l[p + 1]? = some 0
      · rw [if_pos c3] at h; cases h
      · rw [if_neg c3]
        simp only []
        have hd : digs (val ((l.drop (p + 1)).take l[p].toNat)) = (l.drop (p + 1)).take l[p].toNat := by
          refine digs_val _ fun hl => ?_
          intro h0
          have hk : 0 < l[p].toNat := by simp at hl; omega
          refine c3 ⟨hk, ?_⟩
          have h1 : ((l.drop (p + 1)).take l[p].toNat)[0]? = some 0 := by rw [List.getElem?_eq_getElem hl, h0]
          rw [List.getElem?_take, if_pos hk, List.getElem?_drop] at h1
          simpa using h1
        unfold enc
        rw [hd, List.length_take, List.length_drop, show min l[p].toNat (l.length - (p + 1)) = l[p].toNat by omega,
          show ((p : Int) + 1 + (l[p].toNat : Int)).toNat - p = l[p].toNat + 1 by omega, List.drop_eq_getElem_cons hp, List.take_succ_cons]
        congr 1
        simp

theorem textP_no {l : List UInt8} {at_ most : Int} (h : (textP l at_ most).2.2 ≠ 0) : (textP l at_ most).1 = [] ∧ (textP l at_ most).2.1 = 0 := by
  unfold textP at h ⊢
  by_cases c0 : most < 0
  · rw [if_pos c0]; exact ⟨rfl, rfl⟩
  · rw [if_neg c0] at h ⊢
    by_cases c1 : (takeP l at_).2.2 ≠ 0
    · rw [if_pos c1]; exact ⟨rfl, rfl⟩
    · rw [if_neg c1] at h ⊢
      by_cases c2 : most < (takeP l at_).1
      · rw [if_pos c2]; exact ⟨rfl, rfl⟩
      · rw [if_neg c2] at h ⊢
        by_cases c3 : (l.length : Int) - (takeP l at_).2.1 < (takeP l at_).1
        · rw [if_pos c3]; exact ⟨rfl, rfl⟩
        · rw [if_neg c3] at h; exact absurd rfl h

theorem textP_ok {l : List UInt8} {p : Nat} {most : Int} (h : (textP l (p : Int) most).2.2 = 0) :
    (takeP l (p : Int)).2.2 = 0 ∧ (p : Int) < (textP l (p : Int) most).2.1 ∧ (textP l (p : Int) most).2.1 ≤ (l.length : Int) ∧ ((textP l (p : Int) most).1.length : Int) ≤ most ∧
      enc (textP l (p : Int) most).1.length ++ (textP l (p : Int) most).1 = (l.drop p).take ((textP l (p : Int) most).2.1.toNat - p) := by
  unfold textP at h ⊢
  by_cases c0 : most < 0
  · rw [if_pos c0] at h; cases h
  · rw [if_neg c0] at h ⊢
    by_cases c1 : (takeP l (p : Int)).2.2 ≠ 0
    · rw [if_pos c1] at h; exact absurd h c1
    · rw [if_neg c1] at h ⊢
      have c1' : (takeP l (p : Int)).2.2 = 0 := Decidable.not_not.1 c1
      by_cases c2 : most < (takeP l (p : Int)).1
      · rw [if_pos c2] at h; cases h
      · rw [if_neg c2] at h ⊢
        by_cases c3 : (l.length : Int) - (takeP l (p : Int)).2.1 < (takeP l (p : Int)).1
        · rw [if_pos c3] at h; cases h
        · rw [if_neg c3]
          have hok := takeP_ok c1'
          have he := takeP_enc c1'
          refine ⟨c1', ?_⟩
          generalize takeP l (p : Int) = r at *
          obtain ⟨a, b, f⟩ := r
          simp only [] at *
          obtain ⟨b', rfl⟩ : ∃ b' : Nat, b = b' := ⟨b.toNat, by omega⟩
          rw [Int.toNat_natCast] at *
          have hl : ((l.drop b').take a).length = a := by simp; omega
          rw [hl]
          refine ⟨by omega, by omega, by omega, ?_⟩
          rw [he, show ((b' : Int) + (a : Int)).toNat - p = (b' - p) + a by omega, List.take_add, List.drop_drop, show p + (b' - p) = b' by omega]


/-- From the offset a on these bytes were read, without an error. -/
def Ate (l : List UInt8) (a : Int) (q : Int × Int) (bs : List UInt8) : Prop := q.2 = 0 → 0 ≤ a ∧ a ≤ q.1 ∧ q.1 ≤ (l.length : Int) ∧ bs = (l.drop a.toNat).take (q.1.toNat - a.toNat)

theorem take_join {l : List UInt8} {a b c : Nat} (h1 : a ≤ b) (h2 : b ≤ c) : (l.drop a).take (b - a) ++ (l.drop b).take (c - b) = (l.drop a).take (c - a) := by
  rw [show c - a = (b - a) + (c - b) by omega, List.take_add, List.drop_drop, show a + (b - a) = b by omega]

theorem text_ate {l : List UInt8} {p : Int} (h : (textP l p 16).2.2 = 0) : 0 ≤ p ∧ p ≤ (textP l p 16).2.1 ∧ (textP l p 16).2.1 ≤ (l.length : Int) ∧ encT ⟨(textP l p 16).1.toArray⟩ = (l.drop p.toNat).take ((textP l p 16).2.1.toNat - p.toNat) := by
  have h0 : 0 ≤ p := by
    have h1 : (takeP l p).2.2 = 0 := by
      unfold textP at h
      rw [if_neg (by omega)] at h
      by_cases c1 : (takeP l p).2.2 ≠ 0
      · rw [if_pos c1] at h; exact absurd h c1
      · exact Decidable.not_not.1 c1
    exact (takeP_ok h1).1
  obtain ⟨n, rfl⟩ : ∃ n : Nat, p = n := ⟨p.toNat, by omega⟩
  obtain ⟨_, h2, h3, _, h4⟩ := textP_ok h
  refine ⟨h0, by omega, h3, ?_⟩
  rw [Int.toNat_natCast, ← h4]
  unfold encT
  rw [show (⟨(textP l (n : Int) 16).1.toArray⟩ : ByteArray).size = (textP l (n : Int) 16).1.length by show (textP l (n : Int) 16).1.toArray.size = _; simp]
theorem num_ate {l : List UInt8} {p : Int} (h : (takeP l p).2.2 = 0) : 0 ≤ p ∧ p ≤ (takeP l p).2.1 ∧ (takeP l p).2.1 ≤ (l.length : Int) ∧ enc (takeP l p).1 = (l.drop p.toNat).take ((takeP l p).2.1.toNat - p.toNat) := by
  have hk := takeP_ok h
  obtain ⟨n, rfl⟩ : ∃ n : Nat, p = n := ⟨p.toNat, by omega⟩
  have := takeP_enc h
  exact ⟨by omega, by omega, by omega, by rw [Int.toNat_natCast]; exact this⟩

theorem Ate.start (l : List UInt8) (a : Int) : Ate l a (rTx l (a, 0)).2 (encT (rTx l (a, 0)).1) := by
  intro h
  rw [rTx_yes rfl] at h ⊢
  exact text_ate h
theorem Ate.more {l : List UInt8} {a : Int} {q r : Int × Int} {bs cs : List UInt8} (h : Ate l a q bs) (hq : r.2 = 0 → q.2 = 0) (hs : r.2 = 0 → 0 ≤ q.1 ∧ q.1 ≤ r.1 ∧ r.1 ≤ (l.length : Int) ∧ cs = (l.drop q.1.toNat).take (r.1.toNat - q.1.toNat)) : Ate l a r (bs ++ cs) := by
  intro hr
  obtain ⟨h1, h2, h3, h4⟩ := h (hq hr)
  obtain ⟨s1, s2, s3, s4⟩ := hs hr
  refine ⟨h1, by omega, s3, ?_⟩
  rw [h4, s4]
  exact take_join (by omega) (by omega)
theorem Ate.tx {l : List UInt8} {a : Int} {q : Int × Int} {bs : List UInt8} (h : Ate l a q bs) : Ate l a (rTx l q).2 (bs ++ encT (rTx l q).1) := by
  by_cases h0 : q.2 = 0
  · rw [rTx_yes h0]
    exact h.more (fun _ => h0) text_ate
  · rw [rTx_no h0]
    intro hr; exact absurd hr h0
theorem Ate.nu {l : List UInt8} {a : Int} {q : Int × Int} {bs : List UInt8} {m : Nat} {e : Int} (he : ¬ e = 0) (h : Ate l a q bs) : Ate l a (rNu l m e q).2 (bs ++ enc (rNu l m e q).1) := by
  by_cases h0 : q.2 = 0
  · rw [rNu_yes h0]
    split
    · rename_i h1
      split
      · intro hr; exact absurd hr he
      · exact h.more (fun _ => h0) (fun _ => num_ate h1)
    · rename_i h1
      intro hr; exact absurd hr h1
  · rw [rNu_no h0]
    intro hr; exact absurd hr h0
theorem Ate.ve {l : List UInt8} {a : Int} {q : Int × Int} {bs : List UInt8} (h : Ate l a q bs) : Ate l a (rVe l q).2 (bs ++ vecEnc (rVe l q).1.1 (rVe l q).1.2.1 (rVe l q).1.2.2) := by
  have := ((h.nu (m := 1048576) (e := 3) (by decide)).nu (m := 1048576) (e := 3) (by decide)).nu (m := 1048576) (e := 3) (by decide)
  simpa only [rVe, vecEnc, List.append_assoc] using this
theorem Ate.lk {l : List UInt8} {a : Int} {q : Int × Int} {bs : List UInt8} (h : Ate l a q bs) : ∀ k, Ate l a (rLk l k q).2 (bs ++ (rLk l k q).1.flatMap lbEnc)
  | 0 => by simpa [rLk] using h
  | k + 1 => by
    have := ((Ate.lk h k).tx).tx
    rw [rLk_succ]
    simp only [List.flatMap_append, List.flatMap_cons, List.flatMap_nil, List.append_nil, lbEnc]
    simpa only [List.append_assoc] using this
theorem Ate.la {l : List UInt8} {a : Int} {q : Int × Int} {bs : List UInt8} (h : Ate l a q bs) : Ate l a (rLa l q).2 (bs ++ labEnc (rLa l q).1) := by
  have := (h.nu (m := 4) (e := 4) (by decide)).lk (rNu l 4 4 q).1
  unfold rLa labEnc
  rw [rLk_len]
  simpa only [List.append_assoc] using this

theorem rEnd_ok {ok : Bool} {q : Int × Int} (h : (rEnd ok q).2 = 0) : q.2 = 0 ∧ ok = true ∧ (rEnd ok q).1 = q.1 := by
  unfold rEnd at h ⊢
  by_cases h0 : q.2 = 0
  · rw [if_pos h0] at h ⊢
    by_cases h1 : ok = true
    · rw [if_pos h1]; exact ⟨h0, h1, rfl⟩
    · rw [if_neg h1] at h; exact absurd h (by decide)
  · rw [if_neg h0] at h; exact absurd h h0

/-- What was taken can be, and its encoding is just what was read. -/
theorem one_node {l : List UInt8} {a : Int} (h : (tNode l a).2.2 = 0) : (tNode l a).1.ok = true ∧ 0 ≤ a ∧ a ≤ (tNode l a).2.1 ∧ (tNode l a).2.1 ≤ (l.length : Int) ∧
    nodeEnc (tNode l a).1.nm (tNode l a).1.a (tNode l a).1.b (tNode l a).1.c (tNode l a).1.l = (l.drop a.toNat).take ((tNode l a).2.1.toNat - a.toNat) := by
  have ha := ((Ate.start l a).ve).la
  unfold tNode at h ⊢
  simp only [] at h ⊢
  obtain ⟨h1, h2, h3⟩ := rEnd_ok h
  rw [if_pos h, h3]
  obtain ⟨g1, g2, g3, g4⟩ := ha h1
  refine ⟨h2, g1, g2, g3, ?_⟩
  refine Eq.trans ?_ g4
  simp only [nodeEnc, rNode, Int.toNat_natCast, List.append_assoc]
theorem one_queue {l : List UInt8} {a : Int} (h : (tQueue l a).2.2 = 0) : (tQueue l a).1.ok = true ∧ 0 ≤ a ∧ a ≤ (tQueue l a).2.1 ∧ (tQueue l a).2.1 ≤ (l.length : Int) ∧
    queueEnc (tQueue l a).1.nm (tQueue l a).1.a (tQueue l a).1.b (tQueue l a).1.c = (l.drop a.toNat).take ((tQueue l a).2.1.toNat - a.toNat) := by
  have ha := (Ate.start l a).ve
  unfold tQueue at h ⊢
  simp only [] at h ⊢
  obtain ⟨h1, h2, h3⟩ := rEnd_ok h
  rw [if_pos h, h3]
  obtain ⟨g1, g2, g3, g4⟩ := ha h1
  refine ⟨h2, g1, g2, g3, ?_⟩
  refine Eq.trans ?_ g4
  simp only [queueEnc, rQueue, Int.toNat_natCast, List.append_assoc]
theorem one_task {l : List UInt8} {a : Int} (h : (tTask l a).2.2 = 0) : (tTask l a).1.ok = true ∧ 0 ≤ a ∧ a ≤ (tTask l a).2.1 ∧ (tTask l a).2.1 ≤ (l.length : Int) ∧
    taskEnc (tTask l a).1.nm (tTask l a).1.qu (tTask l a).1.pr (tTask l a).1.a (tTask l a).1.b (tTask l a).1.c (tTask l a).1.l (tTask l a).1.ap (tTask l a).1.ga (tTask l a).1.sz = (l.drop a.toNat).take ((tTask l a).2.1.toNat - a.toNat) := by
  have ha := (((((((Ate.start l a).tx).nu (m := 1048576) (e := 3) (by decide)).ve).la).tx).tx).nu (m := 1048576) (e := 3) (by decide)
  unfold tTask at h ⊢
  simp only [] at h ⊢
  obtain ⟨h1, h2, h3⟩ := rEnd_ok h
  rw [if_pos h, h3]
  obtain ⟨g1, g2, g3, g4⟩ := ha h1
  refine ⟨h2, g1, g2, g3, ?_⟩
  refine Eq.trans ?_ g4
  simp only [taskEnc, rTask, Int.toNat_natCast, List.append_assoc]
end Go.Proofs.Ytehkdaknhgmdkaa
