/- The contracts of the document's own ahead (layer 13) and Ahead (layer 14): which of two jobs stands ahead. No condition. · Places put into an order one by one, each behind all that it doesn't go ahead of: plainly. And append where what is put may be nothing. No condition. · The contract of the document's own weaker (layer 13). Condition: the slice reads as a list of jobs, of at most 1000000. · The contract of the document's own without (layer 13): jobs but those at some places. Condition: the slices read as lists of jobs and of places, of at most 1000000 each. · The contract of the document's own Places (layer 13): which jobs would have to go, and whether there is a plan. Condition: the slice reads as a list of jobs, of at most 1000000; the machine and the task are ones that Go can have. · The contracts of the document's own names and Plan (layer 13). Condition: the slices read as lists of jobs and of places, of at most 1000000 each; the machine and the task are ones that Go can have. · The contract of the document's own Choose (layer 13). Condition: the slices read as lists of machines and of jobs, of at most 1000000 each; the machines and the task are ones that Go can have. · The jobs that would have to go, plainly: with them gone there is room, with the last one kept there is not, each is bound there and weaker; without a plan nothing. No condition. · The order in which jobs go: what is put into place one by one is the sorted list of those that are weaker; there is one such list only. No condition. · For a task of Prio 0 nobody goes; for one of the highest Prio there is a plan wherever there was one. No condition. · The chosen machine: none has fewer to go, nor as few with a weaker last one, nor then a name that stands ahead; there is one just if some machine has a plan. No condition. · The order of jobs of unlike numbers plays no part in plans, nor does that of machines of unlike names in the choice. No condition. -/
import Derived.Test.YtpifleheammanaaJbo
import Derived.Test.YtpifleheammanaaSt
import Derived.Test.YtpifleheammanaaMc
import Derived.Test.YtpifleheammanaaLat
import Derived.Deep.CutBlock
import Derived.Deep.DeepCutAuto
import Derived.Deep.RegionHeld3
import Derived.Test.YtpifleheammanaaRwy
import Derived.Test.YtpifleheammanaaMs
import Derived.Test.YtpifleheammanaaWp
import Derived.Test.YtpifleheammanaaFo
namespace Go.Proofs.Ytpifleheammanaa
open Go.RowKit
set_option linter.unusedSimpArgs false
set_option linter.unusedVariables false

/-- Does a job go ahead of another one? -/
def goB (a b : Jb) : Bool := decide (a.pr < b.pr) || (decide (a.pr = b.pr) && decide (b.sq < a.sq))
/-- Is a job tried ahead of another one? -/
def tryB (a b : Jb) : Bool := decide (b.pr < a.pr) || (decide (a.pr = b.pr) && decide (a.sq < b.sq))

set_option maxHeartbeats 1600000 in
theorem rahead13_any (a b : Jb) (w : World) : Calls Try.prog 53 #[.agg a.arr, .agg b.arr] w fun e w' => e = .returned (.bool (goB a b)) ∧ Below w.heap.size w w' := by
  obtain ⟨R, hR⟩ : ∃ R, goB a b = R := ⟨_, rfl⟩
  rw [hR]
  have HR := Lib.hid hR; clear hR
  obtain ⟨nm, qu, pr, a1, b1, c1, A, n, cp, ap, ga, sz, sq, nd, bo⟩ := a
  obtain ⟨nm2, qu2, pr2, a2, b2, c2, A2, n2, cp2, ap2, ga2, sz2, sq2, nd2, bo2⟩ := b
  by_cases h1 : pr < pr2
  · have hq : R = true := by rw [← HR.out]; show (decide (pr < pr2) || _) = true; rw [decide_eq_true h1]; rfl
    subst hq
    go_enter Try.func53, Try.ntmps53
    go_wp2
    go_ret
    exact ⟨rfl, (by (repeat' (first | (with_reducible exact Below.refl _ _) | (with_reducible refine bdrewN ?_ _) | (with_reducible refine Below.drew ?_) | (with_reducible refine Below.setCell ?_ ?_ _) | (with_reducible refine Below.alloc ?_ ?_ _) | (with_reducible exact Nat.le_refl _) | (with_reducible assumption) | omega | (simp only [World.size_alloc, World.size_setCell, World.size_drew, sz_drewN]; omega))))⟩
  · by_cases h2 : pr = pr2
    · by_cases h3 : sq2 < sq
      · have hq : R = true := by rw [← HR.out]; show (decide (pr < pr2) || (decide (pr = pr2) && decide (sq2 < sq))) = true; rw [decide_eq_true h2, decide_eq_true h3]; simp
        subst hq
        subst h2
        go_enter Try.func53, Try.ntmps53
        go_wp2
        go_ret
        exact ⟨rfl, (by (repeat' (first | (with_reducible exact Below.refl _ _) | (with_reducible refine bdrewN ?_ _) | (with_reducible refine Below.drew ?_) | (with_reducible refine Below.setCell ?_ ?_ _) | (with_reducible refine Below.alloc ?_ ?_ _) | (with_reducible exact Nat.le_refl _) | (with_reducible assumption) | omega | (simp only [World.size_alloc, World.size_setCell, World.size_drew, sz_drewN]; omega))))⟩
      · have hq : R = false := by rw [← HR.out]; show (decide (pr < pr2) || (decide (pr = pr2) && decide (sq2 < sq))) = false; rw [decide_eq_false h1, decide_eq_false h3]; simp
        subst hq
        subst h2
        have d3 : decide (sq2 < sq) = false := decide_eq_false h3
        go_enter Try.func53, Try.ntmps53
        go_wp2
        go_ret
        exact ⟨rfl, (by (repeat' (first | (with_reducible exact Below.refl _ _) | (with_reducible refine bdrewN ?_ _) | (with_reducible refine Below.drew ?_) | (with_reducible refine Below.setCell ?_ ?_ _) | (with_reducible refine Below.alloc ?_ ?_ _) | (with_reducible exact Nat.le_refl _) | (with_reducible assumption) | omega | (simp only [World.size_alloc, World.size_setCell, World.size_drew, sz_drewN]; omega))))⟩
    · have hq : R = false := by rw [← HR.out]; show (decide (pr < pr2) || (decide (pr = pr2) && decide (sq2 < sq))) = false; rw [decide_eq_false h1, decide_eq_false h2]; rfl
      subst hq
      have d1 : decide (pr < pr2) = false := decide_eq_false h1
      have d2 : (pr == pr2) = false := by simpa using h2
      go_enter Try.func53, Try.ntmps53
      go_wp2
      go_ret
      exact ⟨rfl, (by (repeat' (first | (with_reducible exact Below.refl _ _) | (with_reducible refine bdrewN ?_ _) | (with_reducible refine Below.drew ?_) | (with_reducible refine Below.setCell ?_ ?_ _) | (with_reducible refine Below.alloc ?_ ?_ _) | (with_reducible exact Nat.le_refl _) | (with_reducible assumption) | omega | (simp only [World.size_alloc, World.size_setCell, World.size_drew, sz_drewN]; omega))))⟩


end Go.Proofs.Ytpifleheammanaa

namespace Go.Proofs.Ytpifleheammanaa
open Go.RowKit
set_option linter.unusedSimpArgs false
set_option linter.unusedVariables false

section
variable {P : Program}
theorem append_kn {ops : Array Oper} {rest : List Oper} (w : World) {o : Oper} {a : Act} {Q : Exit → Act → World → Prop} (hw : Region.wanted o (yielded ops a.tmps) = true)
    (s x : Operand) (t : TypeId) (hop : o.op = Op.call { callee := Callee.builtin Builtin.append, args := #[s, x], argTypes := #[t, t] })
    (base : Nat) (e : TypeId) (z : Value) (k b : Nat) (h1 : P.underlying t = some (.slice e)) (h2 : (P.info? e).map (fun i => (i.zero, i.size, i.bytes)) = some (some z, k, b)) (hz : z.cells.size = k) (hk : 0 < k)
    (v : Value) (l : List (List Value)) (hs : a.eval s = v) (hown : OwnK w base e k v l) (A : Option Addr) (c m : Nat) (news : List (List Value))
    (hx : a.eval x = .slice A m c) (hr : RdK w k A news) (hn : ∀ y ∈ news, y.length = k) (hone : ∀ y ∈ news, ∀ u ∈ y, u.oneCell' = true) (hm : m = news.length)
    (b0 : l.length + news.length ≤ maxLen) (b1 : (l.length + news.length) * b ≤ 140737488355328) (hbase : base ≤ w.heap.size)
    (hK : ∀ v' w', OwnK w' base e k v' (l ++ news) → w.grownBy w' v.ownBlock → wpList P ops Q rest (a.put o.dst v') w') : wpList P ops Q (o :: rest) a w :=
  BigFrame.wpList_want hw fun K hKK => append_kn_op w s x t hop base e z k b h1 h2 hz hk v l hs hown A c m news hx hr hn hone hm b0 b1 hbase (fun v' w' h1 h2 => hKK _ _ (hK v' w' h1 h2))
end

/-- Put ahead of all at the end that it goes ahead of (p). -/
def insB (p : Nat → Bool) (x : Nat) (l : List Nat) : List Nat := (l.reverse.dropWhile p).reverse ++ x :: (l.reverse.takeWhile p).reverse
theorem insB_len (p : Nat → Bool) (x : Nat) (l : List Nat) : (insB p x l).length = l.length + 1 := by
  have h : (l.reverse.takeWhile p).length + (l.reverse.dropWhile p).length = l.length := by rw [← List.length_append, List.takeWhile_append_dropWhile, List.length_reverse]
  unfold insB
  rw [List.length_append, List.length_cons, List.length_reverse, List.length_reverse]; omega
theorem insB_mem {p : Nat → Bool} {x y : Nat} {l : List Nat} (h : y ∈ insB p x l) : y = x ∨ y ∈ l := by
  unfold insB at h
  rw [List.mem_append, List.mem_cons, List.mem_reverse, List.mem_reverse] at h
  rcases h with h | h | h
  · exact .inr (List.mem_reverse.1 ((List.dropWhile_sublist _).subset h))
  · exact .inl h
  · exact .inr (List.mem_reverse.1 ((List.takeWhile_sublist _).subset h))
/-- Where its place is found: it goes ahead of all behind, and not of the one ahead (or there is none). -/
theorem place_back {p : Nat → Bool} {x : Nat} {l : List Nat} {a : Nat} (h1 : (l.drop a).all p = true) (h2 : a = 0 ∨ ∃ h : a - 1 < l.length, p l[a - 1] = false) (ha : a ≤ l.length) : insB p x l = l.take a ++ x :: l.drop a := by
  have hr : l.reverse = (l.drop a).reverse ++ (l.take a).reverse := by rw [← List.reverse_append, List.take_append_drop]
  have h1' : ∀ y ∈ (l.drop a).reverse, p y = true := fun y hy => List.all_eq_true.1 h1 y (List.mem_reverse.1 hy)
  have hd : ∀ m : List Nat, m.takeWhile p = [] ∧ m.dropWhile p = m → ∀ n : List Nat, (∀ y ∈ n, p y = true) → (n ++ m).takeWhile p = n ∧ (n ++ m).dropWhile p = m := by
    intro m hm n
    induction n with
    | nil => intro _; exact hm
    | cons y n ih =>
      intro hn
      obtain ⟨i1, i2⟩ := ih fun z hz => hn z (by simp [hz])
      rw [List.cons_append, List.takeWhile_cons, List.dropWhile_cons, hn y (by simp)]
      exact ⟨by simp [i1], by simp [i2]⟩
  have ht : (l.take a).reverse.takeWhile p = [] ∧ (l.take a).reverse.dropWhile p = (l.take a).reverse := by
    rcases h2 with rfl | ⟨hl, hp⟩
    · simp
    · cases a with
      | zero => simp
      | succ b =>
        have hl' : b < l.length := hl
        have hp' : p l[b] = false := hp
        rw [List.take_succ_eq_append_getElem hl', List.reverse_append, List.reverse_singleton, List.singleton_append, List.takeWhile_cons, List.dropWhile_cons, hp']
        exact ⟨rfl, rfl⟩
  obtain ⟨i1, i2⟩ := hd _ ht _ h1'
  unfold insB
  rw [hr, i1, i2, List.reverse_reverse, List.reverse_reverse]
/-- The places below k that are wanted, in their order. -/
def wk (c : Nat → Bool) (ah : Nat → Nat → Bool) (k : Nat) : List Nat := (List.range k).foldl (fun out i => if c i then insB (ah i) i out else out) []
section
variable {c : Nat → Bool} {ah : Nat → Nat → Bool} {k : Nat}
theorem wk_zero : wk c ah 0 = [] := rfl
theorem wk_succ : wk c ah (k + 1) = if c k then insB (ah k) k (wk c ah k) else wk c ah k := by
  unfold wk; rw [List.range_succ, List.foldl_append]; rfl
theorem wk_no (h : c k = false) : wk c ah (k + 1) = wk c ah k := by rw [wk_succ, h]; rfl
theorem wk_yes (h : c k = true) : wk c ah (k + 1) = insB (ah k) k (wk c ah k) := by rw [wk_succ, h]; rfl
theorem wk_len : ∀ k, (wk c ah k).length ≤ k
  | 0 => by simp [wk_zero]
  | k + 1 => by
    have := wk_len k
    rw [wk_succ]
    split
    · rw [insB_len]; omega
    · omega
theorem wk_lt : ∀ k, ∀ y ∈ wk c ah k, y < k
  | 0 => by simp [wk_zero]
  | k + 1 => fun y hy => by
    rw [wk_succ] at hy
    split at hy
    · rcases insB_mem hy with rfl | h
      · omega
      · have := wk_lt k y h; omega
    · have := wk_lt k y hy; omega
theorem wk_ok : ∀ k, ∀ y ∈ wk c ah k, c y = true
  | 0 => by simp [wk_zero]
  | k + 1 => fun y hy => by
    rw [wk_succ] at hy
    split at hy
    · rename_i h
      rcases insB_mem hy with rfl | h'
      · exact h
      · exact wk_ok k y h'
    · exact wk_ok k y hy
end
instance : Inhabited Jb := ⟨⟨⟨#[]⟩, ⟨#[]⟩, 0, 0, 0, 0, none, 0, 0, ⟨#[]⟩, ⟨#[]⟩, 0, 0, ⟨#[]⟩, 0⟩⟩
/-- The job at this place. -/
abbrev jat (l : List Jb) (i : Nat) : Jb := l.getD i default
theorem jat_at {l : List Jb} {i : Nat} (h : i < l.length) : jat l i = l[i] := by simp [jat, List.getD, List.getElem?_eq_getElem h]
/-- Places as integers. -/
abbrev ints (l : List Nat) : List Int := l.map fun (n : Nat) => (n : Int)
end Go.Proofs.Ytpifleheammanaa

namespace Go.Proofs.Ytpifleheammanaa
open Go.RowKit
set_option linter.unusedSimpArgs false
set_option linter.unusedVariables false

/-- Is the job at this place weaker than the task, and bound to the machine? -/
def wkC (m : Mc) (t : Kt) (l : List Jb) (i : Nat) : Bool := sE (jat l i).nd m.nm && decide ((jat l i).pr < t.pr)
/-- The places of a machine's weaker jobs, in their order. -/
def weak (m : Mc) (t : Kt) (l : List Jb) (k : Nat) : List Nat := wk (wkC m t l) (fun i y => goB (jat l i) (jat l y)) k

/-- A call has returned these integers, in memory of its own. -/
def RetI (b : Nat) (w : World) (e : Ending) (l : List Int) : Prop := ∃ v, e = .returned v ∧ OwnK w b 3 1 v (cellsI l)

set_option maxHeartbeats 12800000 in
set_option maxRecDepth 100000 in
theorem rweaker_any (m : Mc) (A : Option Addr) (n cap : Nat) (l : List Jb) (t : Kt) (w : World) (hn : Hid (n = l.length)) (hl : n ≤ 1000000) (hA : Hid (RdJ w A l)) :
    Calls Try.prog 31 #[.agg m.arr, .slice A n cap, .agg t.arr] w fun e w' => RetI w.heap.size w' e (ints (weak m t l n)) ∧ Below w.heap.size w w' := by
  go_enter Try.func31, Try.ntmps31
  have HM0 := Lib.hid (show Bk ((w.alloc (.cells m.arr 37)).alloc (.cells t.arr 28)) w.heap.size 37 m.arr from (Bk.fresh w _ _).later ((Below.refl _ _).alloc (Nat.le_refl _) _))
  have HT0 := Lib.hid (show Bk ((w.alloc (.cells m.arr 37)).alloc (.cells t.arr 28)) (w.heap.size + 1) 28 t.arr from Bk.freshAt _ _ _ (by simp))
  have hB0 : Below w.heap.size w ((w.alloc (.cells m.arr 37)).alloc (.cells t.arr 28)) := ((Below.refl _ _).alloc (Nat.le_refl _) _).alloc (by simp) _
  go_wp2_with fail
  go_loopw [7, 13] (fun vo i wr => ∃ k : Nat, k ≤ n ∧ i = .int .i64 k ∧ Hid (OwnK wr (w.heap.size + 2) 3 1 vo (cellsI (ints (weak m t l k)))) ∧ Hid (Bk wr w.heap.size 37 m.arr) ∧ Hid (Bk wr (w.heap.size + 1) 28 t.arr) ∧ Below w.heap.size w wr) (fun _ i wr => n - (intOf i).toNat)
  case atStart => exact ⟨0, Nat.zero_le _, rfl, (show OwnK _ _ _ _ _ (cellsI (ints (weak m t l 0))) from OwnK.nil _ _ _ _), HM0, HT0, hB0⟩
  case round =>
    clear HM0 HT0 hB0
    obtain ⟨k, hk, rfl, HO, HMb, HTb, hb⟩ := hrel
    have lt1 : w.heap.size + 1 < wr.heap.size := HTb.out.here
    have lt0 : w.heap.size < wr.heap.size := by omega
    by_cases hlt : k < n
    · have hlk : k < l.length := by have := hn.out; omega
      obtain ⟨E, hE⟩ : ∃ E, E = weak m t l k := ⟨_, rfl⟩
      have h7 := HO.out
      rw [← hE] at h7
      have hEl : E.length ≤ k := by rw [hE]; exact wk_len k
      have hElt : ∀ y ∈ E, y < l.length := fun y hy => by rw [hE] at hy; have := wk_lt k y hy; omega
      obtain ⟨Ao, co, hv, hro, hco, hco'⟩ := h7.rdi
      rw [show (ints E).length = E.length by simp [ints]] at hv hco
      obtain ⟨q, hq⟩ : ∃ q, q = E.length := ⟨_, rfl⟩
      rw [← hq] at hv hco
      subst hv
      have HO7 := Lib.hid h7; have HR := Lib.hid hro; have HE := Lib.hid hE; have HElt := Lib.hid hElt
      have hqk : q ≤ k := by omega
      have HQ := Lib.hid hq
      clear HO h7 hro hE hElt hq
      have hJ := hA.out.later hb
      obtain ⟨g, o, hAg, hg, hj⟩ := hJ.at hlk
      subst hAg
      obtain ⟨j, hjk⟩ : ∃ j, j = l[k] := ⟨_, rfl⟩
      rw [← hjk] at hj
      have HJ := Lib.hid hj; clear hj hJ
      have hjj : jat l k = j := by rw [hjk]; exact jat_at hlk
      have HJJ := Lib.hid hjj
      have c11 : wr.cell? ⟨g, o + k * 13 + 11, none⟩ = some (.string j.nd) := HJ.out.nd
      have c2 : wr.cell? ⟨g, o + k * 13 + 2, none⟩ = some (.int .i64 j.pr) := HJ.out.pr
      have cm : wr.cell? ⟨w.heap.size, 0, none⟩ = some (.string m.nm) := HMb.out.cellAt 0
      have cp : wr.cell? ⟨w.heap.size + 1, 2, none⟩ = some (.int .i64 t.pr) := HTb.out.cellAt 2
      cases he : sE j.nd m.nm
      · have he' : (j.nd.toList == m.nm.toList) = false := he
        have HE2 : Hid (weak m t l (k + 1) = E) := by
          show _ = _
          rw [HE.out]
          exact wk_no (by unfold wkC; rw [HJJ.out, he]; rfl)
        have HJK := Lib.hid hjk; clear hjk he hjj
        go_wp2_with fail
        refine wp_region_later (by kernel_rfl) (by kernel_rfl) ?_; have hL : ∀ (w : World) (x : Later w) (b o : Nat), b < w.heap.size → x.to.cell? ⟨b, o, none⟩ = w.cell? ⟨b, o, none⟩ := fun w x b o hb => x.cell hb; have hN := Later.some; (repeat (go_big_quiet_step (((fail))))); refine wpQuiet_nil ?_; intro w2 hw2; have hb2 := Later.out hw2; clear hw2 hL hN
        go_wp2_with fail
        go_round
        case rel => exact ⟨k + 1, by omega, by go_num, (by show OwnK _ _ _ _ _ _; rw [HE2.out]; exact HO7.out.below hb2), HMb.out.later hb2, HTb.out.later hb2, hb.trans (hb2.mono hb.size)⟩
        case measure => simp [intOf]; omega
      · have he' : (j.nd.toList == m.nm.toList) = true := he
        by_cases hp : j.pr < t.pr
        · have HCk : Hid (wkC m t l k = true) := by show _ = _; unfold wkC; rw [HJJ.out, he, decide_eq_true hp]; rfl
          have hp' : decide (t.pr ≤ j.pr) = false := by rw [decide_eq_false_iff_not]; omega
          have hp2 : ¬ t.pr ≤ j.pr := by omega
          have HJK := Lib.hid hjk; clear hjk he hjj
          go_wp2_with fail
          refine wp_region_later (by kernel_rfl) (by kernel_rfl) ?_; have hL : ∀ (w : World) (x : Later w) (b o : Nat), b < w.heap.size → x.to.cell? ⟨b, o, none⟩ = w.cell? ⟨b, o, none⟩ := fun w x b o hb => x.cell hb; have hN := Later.some; (repeat (go_big_quiet_step (((fail))))); refine wpQuiet_nil ?_; intro w2 hw2; have hb2 := Later.out hw2; clear hw2 hL hN
          clear c2 cm cp c11
          have HMv := Lib.hid (HMb.out.later hb2); have HTv := Lib.hid (HTb.out.later hb2)
          have hbV : Below w.heap.size w w2 := hb.trans (hb2.mono hb.size)
          have HRv := Lib.hid (show RdI w2 Ao (ints E) from HR.out.later hb2)
          have HJv := Lib.hid (show JAt w2 g (o + k * 13) j from HJ.out.later hb2)
          have HA2 := Lib.hid (hA.out.later hbV)
          go_upto_block 2 with fail
          go_cut [9] (fun sv wx => ∃ a : Nat, sv = .int .i64 a ∧ a ≤ q ∧ Hid (insB ((fun i y => goB (jat l i) (jat l y)) k) k E = E.take a ++ k :: E.drop a) ∧ Below w2.heap.size w2 wx)
          case first =>
            go_wp2_with fail
            go_loopw [9] (fun i wi => ∃ a : Nat, a ≤ q ∧ i = .int .i64 a ∧ Hid ((E.drop a).all ((fun i y => goB (jat l i) (jat l y)) k) = true) ∧ Below w2.heap.size w2 wi) (fun i wi => (intOf i).toNat)
            case atStart => exact ⟨q, Nat.le_refl _, rfl, (show _ = _ by rw [HQ.out, List.drop_length]; rfl), Below.refl _ _⟩
            case round =>
              obtain ⟨a, ha, rfl, HB, hbi⟩ := hrel
              by_cases ha0 : a = 0
              · subst ha0
                go_wp2_with fail
                refine wp_region_later (by kernel_rfl) (by kernel_rfl) ?_; have hL : ∀ (w : World) (x : Later w) (b o : Nat), b < w.heap.size → x.to.cell? ⟨b, o, none⟩ = w.cell? ⟨b, o, none⟩ := fun w x b o hb => x.cell hb; have hN := Later.some; (repeat (go_big_quiet_step (((fail))))); refine wpQuiet_nil ?_; intro w3 hw3; have hb3 := Later.out hw3; clear hw3 hL hN
                go_wp2_with fail
                go_meet
                exact ⟨0, rfl, Nat.zero_le _, place_back HB.out (.inl rfl) (Nat.zero_le _), hbi.trans (hb3.mono hbi.size)⟩
              · obtain ⟨d, hd⟩ : ∃ d, a = d + 1 := ⟨a - 1, by omega⟩
                subst hd
                have hdE : d < E.length := by have := HQ.out; omega
                obtain ⟨g7, o7, hA7, hg7, c7⟩ := ((HRv.out.later hbi).at (i := d) (by simpa [ints] using hdE))
                obtain ⟨y, hy⟩ : ∃ y, y = E[d] := ⟨_, rfl⟩
                rw [show (ints E)[d]'(by simpa [ints] using hdE) = (y : Int) by rw [hy]; simp [ints]] at c7
                have hyl : y < l.length := by rw [hy]; exact HElt.out _ (List.getElem_mem hdE)
                have hyn : y < n := by have := hn.out; omega
                subst hA7
                obtain ⟨g2, o2, hA2, hg2, hj2⟩ := (HA2.out.later hbi).at hyl
                injection hA2 with hA2; injection hA2 with e1 e2; subst e1 e2
                obtain ⟨j2, hj2k⟩ : ∃ j2, j2 = l[y] := ⟨_, rfl⟩
                rw [← hj2k] at hj2
                have HJ2 := Lib.hid hj2; clear hj2
                have HJ1 := Lib.hid (HJv.out.later hbi)
                obtain ⟨R, hR⟩ : ∃ R, goB j j2 = R := ⟨_, rfl⟩
                have hRd : goB (jat l k) (jat l E[d]) = R := by rw [HJJ.out, ← hy, jat_at hyl, ← hj2k]; exact hR
                have ks := fun W => rahead13_any j j2 W
                rw [hR] at ks
                have KS := Lib.hid ks; have HRd := Lib.hid hRd
                have zg7 : g7 < wr.heap.size := hg7
                have wrap1 : wrap64 (((d + 1 : Nat) : Int) - 1) = (d : Int) := by unfold wrap64; omega
                have wrapI : IntKind.i64.wrap (((d + 1 : Nat) : Int) - 1) = (d : Int) := by rw [IntKind.wrap_i64]; omega
                have wrapJ : IntKind.i64.wrap (((d : Int) + 1) - 1) = (d : Int) := by rw [IntKind.wrap_i64]; omega
                have wrapK : IntKind.i64.wrap (d : Int) = (d : Int) := by rw [IntKind.wrap_i64]; omega
                have hdq : d < q := by omega
                have hda : 0 < d + 1 := by omega
                clear ks hRd hR hy hj2k
                go_wp2_with fail
                refine wp_region_held_drew (S := fun W => Below wr.heap.size wr W) (by kernel_rfl) (Below.drew (Below.refl _ _)) (fun hS0 => ?_)
                refine wpAnyH_take (i := 0) (v := ?_) rfl (by kernel_rfl) (by kernel_rfl) (by kernel_rfl) (fun _ _ _ h => h) (Or.inl ⟨by rfl, ?_⟩) hS0 ?_
                rotate_left
                · intro W _; go_simp; try with_reducible rfl
                try simp only [Act.put, List.getElem_toArray, List.getElem_cons_zero, List.setIfInBounds_toArray, List.set_cons_zero, List.set_cons_succ]
                refine wpAnyH_take (i := 1) (v := ?_) rfl (by kernel_rfl) (by kernel_rfl) (by kernel_rfl) (fun _ _ _ h => h) (Or.inl ⟨by rfl, ?_⟩) hS0 ?_
                rotate_left
                · intro W _; go_simp; try with_reducible rfl
                try simp only [Act.put, List.getElem_toArray, List.getElem_cons_zero, List.getElem_cons_succ, List.setIfInBounds_toArray, List.set_cons_zero, List.set_cons_succ]
                refine wpAnyH_take (i := 2) (v := ?_) rfl (by kernel_rfl) (by kernel_rfl) (by kernel_rfl) (fun _ _ _ h => h) (Or.inl ⟨by rfl, ?_⟩) hS0 ?_
                rotate_left
                · intro W _; go_simp; try with_reducible rfl
                try simp only [Act.put, List.getElem_toArray, List.getElem_cons_zero, List.getElem_cons_succ, List.setIfInBounds_toArray, List.set_cons_zero, List.set_cons_succ]
                refine wpAnyH_take (i := 3) (v := ?_) rfl (by kernel_rfl) (by kernel_rfl) (by kernel_rfl) (fun _ _ _ h => h) (Or.inl ⟨by rfl, ?_⟩) hS0 ?_
                rotate_left
                · intro W _; go_simp; try with_reducible rfl
                try simp only [Act.put, List.getElem_toArray, List.getElem_cons_zero, List.getElem_cons_succ, List.setIfInBounds_toArray, List.set_cons_zero, List.set_cons_succ]
                refine wpAnyH_take (i := 4) (v := ?_) rfl (by kernel_rfl) (by kernel_rfl) (by kernel_rfl) (fun _ _ _ h => h) (Or.inl ⟨by rfl, ?_⟩) hS0 ?_
                rotate_left
                · intro W _; go_simp; try with_reducible rfl
                try simp only [Act.put, List.getElem_toArray, List.getElem_cons_zero, List.getElem_cons_succ, List.setIfInBounds_toArray, List.set_cons_zero, List.set_cons_succ]
                refine wpAnyH_take (i := 5) (v := ?_) rfl (by kernel_rfl) (by kernel_rfl) (by kernel_rfl) (fun _ _ _ h => h) (Or.inl ⟨by rfl, ?_⟩) hS0 ?_
                rotate_left
                · intro W _; go_simp; try with_reducible rfl
                try simp only [Act.put, List.getElem_toArray, List.getElem_cons_zero, List.getElem_cons_succ, List.setIfInBounds_toArray, List.set_cons_zero, List.set_cons_succ]
                refine wpAnyH_take (i := 6) (v := .agg j.arr) rfl (by kernel_rfl) (by kernel_rfl) (by kernel_rfl) (fun _ _ _ h => h) (yields_rg rfl 45 _ rfl g (o + k * 13) rfl j.arr _ (fun W hW => (HJ1.out.later hW).rg) Try.underlying45 rfl (by kernel_rfl)) hS0 ?_
                try simp only [Act.put, List.getElem_toArray, List.getElem_cons_zero, List.getElem_cons_succ, List.setIfInBounds_toArray, List.set_cons_zero, List.set_cons_succ]
                refine wpAnyH_take (i := 7) (v := ?_) rfl (by kernel_rfl) (by kernel_rfl) (by kernel_rfl) (fun _ _ _ h => h) (Or.inl ⟨by rfl, ?_⟩) hS0 ?_
                rotate_left
                · intro W _; go_simp; try with_reducible rfl
                try simp only [Act.put, List.getElem_toArray, List.getElem_cons_zero, List.getElem_cons_succ, List.setIfInBounds_toArray, List.set_cons_zero, List.set_cons_succ]
                refine wpAnyH_take (i := 8) (v := ?_) rfl (by kernel_rfl) (by kernel_rfl) (by kernel_rfl) (fun _ _ _ h => h) (Or.inl ⟨by rfl, ?_⟩) hS0 ?_
                rotate_left
                · intro W _; go_simp; try with_reducible rfl
                try simp only [Act.put, List.getElem_toArray, List.getElem_cons_zero, List.getElem_cons_succ, List.setIfInBounds_toArray, List.set_cons_zero, List.set_cons_succ]
                refine wpAnyH_take (i := 9) (v := ?_) rfl (by kernel_rfl) (by kernel_rfl) (by kernel_rfl) (fun _ _ _ h => h) (Or.inl ⟨by rfl, ?_⟩) hS0 ?_
                rotate_left
                · intro W _; go_simp; try with_reducible rfl
                try simp only [Act.put, List.getElem_toArray, List.getElem_cons_zero, List.getElem_cons_succ, List.setIfInBounds_toArray, List.set_cons_zero, List.set_cons_succ]
                refine wpAnyH_take (i := 10) (v := ?_) rfl (by kernel_rfl) (by kernel_rfl) (by kernel_rfl) (fun _ _ _ h => h) (Or.inl ⟨by rfl, ?_⟩) hS0 ?_
                rotate_left
                · intro W _; go_simp; try with_reducible rfl
                try simp only [Act.put, List.getElem_toArray, List.getElem_cons_zero, List.getElem_cons_succ, List.setIfInBounds_toArray, List.set_cons_zero, List.set_cons_succ]
                try simp only [wrapI, wrapJ, wrapK]
                refine wpAnyH_take (i := 11) (v := ?_) rfl (by kernel_rfl) (by kernel_rfl) (by kernel_rfl) (fun _ _ _ h => h) (Or.inl ⟨by rfl, ?_⟩) hS0 ?_
                rotate_left
                · intro W _; go_simp; try with_reducible rfl
                try simp only [Act.put, List.getElem_toArray, List.getElem_cons_zero, List.getElem_cons_succ, List.setIfInBounds_toArray, List.set_cons_zero, List.set_cons_succ]
                refine wpAnyH_take (i := 12) (v := ?_) rfl (by kernel_rfl) (by kernel_rfl) (by kernel_rfl) (fun _ _ _ h => h) (Or.inl ⟨by rfl, ?_⟩) hS0 ?_
                rotate_left
                · intro W hSW; have hx : ∀ b o, b < wr.heap.size → W.cell? ⟨b, o, none⟩ = wr.cell? ⟨b, o, none⟩ := fun b o h => hSW.cell (p := ⟨b, o, none⟩) h; go_simp; try with_reducible rfl
                try simp only [Act.put, List.getElem_toArray, List.getElem_cons_zero, List.getElem_cons_succ, List.setIfInBounds_toArray, List.set_cons_zero, List.set_cons_succ]
                refine wpAnyH_take (i := 13) (v := ?_) rfl (by kernel_rfl) (by kernel_rfl) (by kernel_rfl) (fun _ _ _ h => h) (Or.inl ⟨by rfl, ?_⟩) hS0 ?_
                rotate_left
                · intro W _; go_simp; try with_reducible rfl
                try simp only [Act.put, List.getElem_toArray, List.getElem_cons_zero, List.getElem_cons_succ, List.setIfInBounds_toArray, List.set_cons_zero, List.set_cons_succ]
                refine wpAnyH_take (i := 14) (v := .agg j2.arr) rfl (by kernel_rfl) (by kernel_rfl) (by kernel_rfl) (fun _ _ _ h => h) (yields_rg rfl 45 _ rfl g (o + y * 13) rfl j2.arr _ (fun W hW => (HJ2.out.later hW).rg) Try.underlying45 rfl (by kernel_rfl)) hS0 ?_
                try simp only [Act.put, List.getElem_toArray, List.getElem_cons_zero, List.getElem_cons_succ, List.setIfInBounds_toArray, List.set_cons_zero, List.set_cons_succ]
                refine wpAnyH_ready (rs := [15]) (by kernel_rfl) (by simp) ?_
                refine AllReadyH.cons rfl (fun K hK => ?_) AllReadyH.nil
                go_simp
                refine (KS.out _).mono ?_
                rintro v w4 ⟨rfl, hbl⟩
                go_simp
                refine hK.out _ _ (hS0.trans (hbl.mono hS0.size)) (fun hS1 => ?_)
                clear hK K
                try simp only [Act.put, List.getElem_toArray, List.getElem_cons_zero, List.getElem_cons_succ, List.setIfInBounds_toArray, List.set_cons_zero, List.set_cons_succ]
                refine wpAnyH_take (i := 16) (v := ?_) rfl (by kernel_rfl) (by kernel_rfl) (by kernel_rfl) (fun _ _ _ h => h) (Or.inl ⟨by rfl, ?_⟩) hS1 ?_
                rotate_left
                · intro W _; go_simp; try with_reducible rfl
                try simp only [Act.put, List.getElem_toArray, List.getElem_cons_zero, List.getElem_cons_succ, List.setIfInBounds_toArray, List.set_cons_zero, List.set_cons_succ]
                refine wpAnyH_done (by kernel_rfl) ?_ _
                have hbi2 : Below w2.heap.size w2 w4 := hbi.trans (hS1.mono hbi.size)
                cases R
                · go_wp2_with fail
                  go_meet
                  exact ⟨d + 1, rfl, ha, place_back HB.out (.inr ⟨by rw [Nat.add_sub_cancel]; exact hdE, HRd.out⟩) (by rw [← HQ.out]; exact ha), hbi2⟩
                · have HB2 : Hid ((E.drop d).all ((fun i y => goB (jat l i) (jat l y)) k) = true) := by
                    show _ = _
                    rw [List.drop_eq_getElem_cons hdE, List.all_cons, HB.out, Bool.and_true]
                    exact HRd.out
                  go_wp2_with fail
                  go_round
                  case rel => exact ⟨d, by omega, by go_num, HB2, hbi2⟩
                  case measure => simp [intOf]
          case rest =>
            obtain ⟨a, rfl, ha, HI, hbc⟩ := hcut
            have HE2 : Hid (weak m t l (k + 1) = E.take a ++ k :: E.drop a) := by
              show _ = _
              rw [← HI.out, HE.out]
              exact wk_yes HCk.out
            clear HI
            have hBc : Below w.heap.size w wc := hbV.trans (hbc.mono hbV.size)
            have HMc := Lib.hid (HMv.out.later hbc); have HTc := Lib.hid (HTv.out.later hbc)
            have hrd := HRv.out.later hbc
            have hac : a ≤ co := by omega
            have hEq : E.length = q := HQ.out.symm
            have HRt := Lib.hid (show RdK wc 1 Ao (cellsI ((ints E).take a)) from hrd.take a)
            have HRd2 := Lib.hid (show RdK wc 1 (if co = a then Ao else Option.map (fun x => x.add a) Ao) (cellsI ((ints E).drop a)) from hrd.drop (j := a) (cap := co) (by simp [ints]; omega))
            have HMa : Hid (a = (cellsI ((ints E).take a)).length) := by show _ = _; rw [cellsI_length, List.length_take]; simp [ints]; omega
            have HMd : Hid (q - a = (cellsI ((ints E).drop a)).length) := by show _ = _; rw [cellsI_length, List.length_drop]; simp [ints]; omega
            have zc : w.heap.size ≤ wc.heap.size := hBc.size
            clear hrd
            go_wp2_with (first | ((with_reducible refine append_kn _ rfl (.tmp 57) (.tmp 60) 50 rfl wc.heap.size 3 _ 1 8 Try.underlying50 infoI rfl (by omega) (.slice none 0 0) [] rfl (OwnK.nil _ _ _ _) _ _ _ (cellsI ((ints E).take a)) rfl HRt.out (cellsI_k _) (cellsI_one _) HMa.out (by simp [cellsI, ints, maxLen]; omega) (by simp [cellsI, ints, maxLen]; omega) (Nat.le_refl _) ?_); intro u1 x1 hV1 hg1; have HV1 := Lib.hid (show OwnK _ _ _ _ _ (cellsI ((ints E).take a)) from hV1); clear hV1; have bl1 : Below wc.heap.size wc x1 := grown_base hg1 (Nat.le_refl _) (by intro kk ee; cases ee); clear hg1) | ((with_reducible refine append_k _ rfl (.tmp 62) (.tmp 64) 50 rfl wc.heap.size 3 _ 1 8 Try.underlying50 infoI rfl (by omega) u1 (cellsI ((ints E).take a)) rfl (HV1.out.alloc _) ⟨x1.heap.size, 0, none⟩ 1 1 (cellsI [(k : Int)]) rfl (fresh_k x1 1 _ _ rfl) (cellsI_k _) (cellsI_one _) rfl (by simp [cellsI, ints, maxLen]; omega) (by simp [cellsI, ints, maxLen]; omega) (by have := bl1.size; simp; omega) ?_); intro u2 x2 hV2 hg2; rw [← cellsI_append] at hV2; have HV2 := Lib.hid hV2; clear hV2; have bl2 : Below wc.heap.size wc x2 := (bl1.alloc bl1.size _).grown hg2 (by have := bl1.size; simp; omega) (fun g e => HV1.out.block g e); clear hg2) | ((with_reducible refine append_kn _ rfl (.tmp 66) (.tmp 69) 50 rfl wc.heap.size 3 _ 1 8 Try.underlying50 infoI rfl (by omega) u2 (cellsI ((ints E).take a ++ [(k : Int)])) rfl HV2.out _ _ _ (cellsI ((ints E).drop a)) rfl (RdK.later HRd2.out bl2) (cellsI_k _) (cellsI_one _) HMd.out (by simp [cellsI, ints, maxLen]; omega) (by simp [cellsI, ints, maxLen]; omega) bl2.size ?_); intro u3 x3 hV3 hg3; rw [← cellsI_append] at hV3; have HV3 := Lib.hid hV3; clear hV3; have bl3 : Below wc.heap.size wc x3 := bl2.trans (grown_base hg3 bl2.size HV2.out.block); clear hg3))
            have hzb : (w.heap.size + 2) ≤ wc.heap.size := HTc.out.here
            go_round
            case rel => exact ⟨k + 1, by omega, by go_num, (by show OwnK _ _ _ _ _ _; rw [HE2.out]; have h := HV3.out.base hzb; simpa [ints] using h), HMc.out.later bl3, HTc.out.later bl3, hBc.trans (bl3.mono hBc.size)⟩
            case measure => simp [intOf]; omega
        · have hp' : decide (t.pr ≤ j.pr) = true := by rw [decide_eq_true_eq]; omega
          have hp2 : t.pr ≤ j.pr := by omega
          have HE2 : Hid (weak m t l (k + 1) = E) := by
            show _ = _
            rw [HE.out]
            exact wk_no (by unfold wkC; rw [HJJ.out, decide_eq_false hp, Bool.and_false])
          have HJK := Lib.hid hjk; clear hjk he hjj
          go_wp2_with fail
          refine wp_region_later (by kernel_rfl) (by kernel_rfl) ?_; have hL : ∀ (w : World) (x : Later w) (b o : Nat), b < w.heap.size → x.to.cell? ⟨b, o, none⟩ = w.cell? ⟨b, o, none⟩ := fun w x b o hb => x.cell hb; have hN := Later.some; (repeat (go_big_quiet_step (((fail))))); refine wpQuiet_nil ?_; intro w2 hw2; have hb2 := Later.out hw2; clear hw2 hL hN
          go_wp2_with fail
          go_round
          case rel => exact ⟨k + 1, by omega, by go_num, (by show OwnK _ _ _ _ _ _; rw [HE2.out]; exact HO7.out.below hb2), HMb.out.later hb2, HTb.out.later hb2, hb.trans (hb2.mono hb.size)⟩
          case measure => simp [intOf]; omega
    · have hk' : k = n := by omega
      subst hk'
      have H7 := Lib.hid (HO.out.base (b' := w.heap.size) (by omega))
      go_wp2_with fail
      go_ret
      exact ⟨⟨_, rfl, H7.out⟩, hb⟩
end Go.Proofs.Ytpifleheammanaa

namespace Go.Proofs.Ytpifleheammanaa
open Go.RowKit
set_option linter.unusedSimpArgs false
set_option linter.unusedVariables false

/-- The first k jobs but those at these places. -/
def outJ (g : List Nat) (l : List Jb) (k : Nat) : List Jb := ((List.range k).filter fun i => !(g.contains i)).map (jat l)
theorem outJ_succ (g : List Nat) (l : List Jb) (k : Nat) : outJ g l (k + 1) = outJ g l k ++ if g.contains k then [] else [jat l k] := by
  unfold outJ
  rw [List.range_succ, List.filter_append, List.map_append]
  cases h : g.contains k
  · rw [List.filter_cons_of_pos (by rw [h]; rfl)]; rfl
  · rw [List.filter_cons_of_neg (by rw [h]; simp)]; rfl
theorem outJ_len (g : List Nat) (l : List Jb) (k : Nat) : (outJ g l k).length ≤ k := by
  unfold outJ
  rw [List.length_map]
  exact Nat.le_trans (List.length_filter_le _ _) (by simp)
/-- A call has returned these jobs, in memory of its own. -/
def RetJ (b : Nat) (w : World) (e : Ending) (l : List Jb) : Prop := ∃ v, e = .returned v ∧ OwnK w b 45 13 v (cellsJ l)
theorem contains_takeN {g : List Nat} {a i : Nat} (h : a < g.length) : (g.take (a + 1)).contains i = ((g.take a).contains i || decide (g[a] = i)) := by
  rw [List.take_succ_eq_append_getElem h]
  simp only [List.contains_eq_mem, List.mem_append, List.mem_singleton, Bool.decide_or]
  by_cases h2 : g[a] = i
  · simp [h2]
  · rw [decide_eq_false h2, decide_eq_false (show ¬ i = g[a] from fun e => h2 e.symm)]

set_option maxHeartbeats 6400000 in
set_option maxRecDepth 100000 in
theorem rwithout_any (A : Option Addr) (n cap : Nat) (l : List Jb) (B : Option Addr) (q cq : Nat) (G : List Nat) (w : World) (hn : Hid (n = l.length)) (hl : n ≤ 1000000) (hA : Hid (RdJ w A l)) (hq : Hid (q = G.length)) (hql : q ≤ 1000000) (hB : Hid (RdI w B (ints G))) :
    Calls Try.prog 33 #[.slice A n cap, .slice B q cq] w fun e w' => RetJ w.heap.size w' e (outJ G l n) ∧ Below w.heap.size w w' := by
  go_enter Try.func33, Try.ntmps33
  go_wp2_with fail
  go_loopw [5, 11] (fun vo i wr => ∃ k : Nat, k ≤ n ∧ i = .int .i64 k ∧ Hid (OwnK wr w.heap.size 45 13 vo (cellsJ (outJ G l k))) ∧ Below w.heap.size w wr) (fun _ i wr => n - (intOf i).toNat)
  case atStart => exact ⟨0, Nat.zero_le _, rfl, (show OwnK _ _ _ _ _ (cellsJ (outJ G l 0)) from OwnK.nil _ _ _ _), Below.refl _ _⟩
  case round =>
    obtain ⟨k, hk, rfl, HO, hb⟩ := hrel
    by_cases hlt : k < n
    · have hlk : k < l.length := by have := hn.out; omega
      obtain ⟨wo, hwo⟩ : ∃ wo, wo = wr := ⟨_, rfl⟩
      subst hwo
      go_wp2_with fail
      go_loopw [7, 16] (fun th i wi => ∃ a : Nat, a ≤ q ∧ i = .int .i64 a ∧ th = .bool ((G.take a).contains k) ∧ wo = wi) (fun _ i wi => q - (intOf i).toNat)
      case atStart => exact ⟨0, Nat.zero_le _, rfl, (by simp), rfl⟩
      case round =>
        obtain ⟨a, ha, rfl, rfl, hww⟩ := hrel
        subst hww
        by_cases haq : a < q
        · have haG : a < G.length := by have := hq.out; omega
          obtain ⟨g7, o7, rfl, hg7, c7⟩ := (hB.out.later hb).at (i := a) (by simpa [ints] using haG)
          obtain ⟨y, hy⟩ : ∃ y, y = G[a] := ⟨_, rfl⟩
          rw [show (ints G)[a]'(by simpa [ints] using haG) = (y : Int) by rw [hy]; simp [ints]] at c7
          have hct := contains_takeN (i := k) haG
          rw [← hy] at hct
          obtain ⟨T, hT⟩ : ∃ T, (G.take a).contains k = T := ⟨_, rfl⟩
          rw [hT] at hct ⊢
          have HCT := Lib.hid hct
          clear hy hct hT
          cases T
          · by_cases hyk : y = k
            · subst hyk
              go_wp2_with fail
              go_round
              case rel => exact ⟨a + 1, by omega, by go_num, by rw [HCT.out]; simp, trivial⟩
              case measure => simp [intOf]; omega
            · have hyk' : ((y : Int) == (k : Int)) = false := by simp; omega
              have HYK := Lib.hid hyk
              go_wp2_with fail
              go_round
              case rel => exact ⟨a + 1, by omega, by go_num, by rw [HCT.out, decide_eq_false HYK.out]; rfl, trivial⟩
              case measure => simp [intOf]; omega
          · go_wp2_with fail
            go_round
            case rel => exact ⟨a + 1, by omega, by go_num, by rw [HCT.out]; rfl, trivial⟩
            case measure => simp [intOf]; omega
        · have haq' : a = q := by omega
          subst haq'
          obtain ⟨wr2, hwr2⟩ : ∃ wr2, wr2 = wo := ⟨_, rfl⟩
          subst hwr2
          have hG : G.take a = G := by rw [hq.out]; exact List.take_length
          rw [hG]
          obtain ⟨T, hT⟩ : ∃ T, G.contains k = T := ⟨_, rfl⟩
          rw [hT]
          have hs := outJ_succ G l k
          rw [hT] at hs
          obtain ⟨g, o, rfl, hg, hj⟩ := (hA.out.later hb).at hlk
          obtain ⟨j, hjk⟩ : ∃ j, j = l[k] := ⟨_, rfl⟩
          rw [← hjk] at hj
          rw [jat_at hlk, ← hjk] at hs
          have HJ := Lib.hid hj
          have hlen : (cellsJ (outJ G l k)).length ≤ k := by rw [cellsJ_length]; exact outJ_len _ _ _
          cases T
          · have HS := Lib.hid (show outJ G l (k + 1) = outJ G l k ++ [j] from hs)
            clear hG hT hs hj hjk
            go_wp2_with (first | (with_reducible refine load_rg rfl 45 _ rfl g (o + k * 13) rfl j.arr _ HJ.out.rg Try.underlying45 rfl (by kernel_rfl) ?_) | ((with_reducible refine append_k _ rfl (.tmp 31) (.tmp 36) 23 rfl w.heap.size 45 _ 13 160 Try.underlying23 infoJ rfl (by omega) _ (cellsJ (outJ G l k)) rfl (HO.out.alloc _) ⟨wr2.heap.size, 0, none⟩ 1 1 (cellsJ [j]) rfl (fresh_k wr2 13 _ _ rfl) (cellsJ_k _) (cellsJ_one _) rfl (by simp [cellsJ, maxLen] at hlen ⊢; omega) (by simp [cellsJ] at hlen ⊢; omega) (by have := hb.size; simp; omega) ?_); intro u6' w3 hO3 hg3))
            go_round
            case rel => exact ⟨k + 1, by omega, by go_num, (by show OwnK _ _ _ _ _ _; rw [HS.out, cellsJ_append]; exact hO3), (hb.alloc hb.size _).grown hg3 (by have := hb.size; simp; omega) (fun g e => HO.out.block g e)⟩
            case measure => simp [intOf]; omega
          · have HS := Lib.hid (show outJ G l (k + 1) = outJ G l k by rw [hs]; simp)
            clear hG hT hs hj hjk
            go_wp2_with fail
            go_round
            case rel => exact ⟨k + 1, by omega, by go_num, (by show OwnK _ _ _ _ _ _; rw [HS.out]; exact HO.out), hb⟩
            case measure => simp [intOf]; omega
    · have hk' : k = n := by omega
      subst hk'
      go_wp2_with fail
      go_ret
      exact ⟨⟨_, rfl, HO.out⟩, hb⟩
end Go.Proofs.Ytpifleheammanaa

namespace Go.Proofs.Ytpifleheammanaa
open Go.RowKit
set_option linter.unusedSimpArgs false
set_option linter.unusedVariables false

/-- With the first k of these places' jobs gone: does the need fit what is free? -/
def okK (m : Mc) (t : Kt) (l : List Jb) (W : List Nat) (k : Nat) : Bool :=
  decide ((freM m (outJ (W.take k) l l.length)).2.2.2 = 0) && fB t.a t.b t.c (freM m (outJ (W.take k) l l.length)).1 (freM m (outJ (W.take k) l l.length)).2.1 (freM m (outJ (W.take k) l l.length)).2.2.1
/-- The fewest that are enough, from k on. -/
def fewest (p : Nat → Bool) : Nat → Nat → Option Nat
  | 0, _ => none
  | f + 1, k => if p k then some k else fewest p f (k + 1)
/-- The places of the jobs that would have to go. -/
def places (m : Mc) (ml : List Lb) (t : Kt) (tl : List Lb) (l : List Jb) : Option (List Nat) :=
  if why m ml t tl l = 0 then some [] else if why m ml t tl l = 4 then (fewest (okK m t l (weak m t l l.length)) (weak m t l l.length).length 1).map fun k => (weak m t l l.length).take k else none
theorem fewest_yes {p : Nat → Bool} {f k : Nat} (h : p k = true) : fewest p (f + 1) k = some k := if_pos h
theorem fewest_no {p : Nat → Bool} {f k : Nat} (h : p k = false) : fewest p (f + 1) k = fewest p f (k + 1) := by rw [fewest, if_neg (by simp [h])]
/-- A call has returned these places, and whether there are any. -/
def RetP (w : World) (e : Ending) (r : Option (List Nat)) : Prop := ∃ A c, e = .returned (.tuple #[.slice A (r.getD []).length c, .bool r.isSome]) ∧ RdI w A (ints (r.getD [])) ∧ (r.getD []).length ≤ c ∧ c ≤ 9223372036854775807

set_option maxHeartbeats 12800000 in
set_option maxRecDepth 100000 in
theorem rplaces_any (m : Mc) (ml : List Lb) (A : Option Addr) (n cap : Nat) (l : List Jb) (t : Kt) (tl : List Lb) (w : World) (hn : Hid (n = l.length)) (hl : n ≤ 1000000) (hA : Hid (RdJ w A l)) (hM : Hid (McOk w m ml)) (hT : Hid (KtOk w t tl)) (r : Option (List Nat)) (hr : Hid (places m ml t tl l = r)) :
    Calls Try.prog 20 #[.agg m.arr, .slice A n cap, .agg t.arr] w fun e w' => RetP w' e r ∧ Below w.heap.size w w' := by
  obtain ⟨x, hx⟩ : ∃ x, why m ml t tl l = x := ⟨_, rfl⟩
  have k1 := fun (W : World) (h : Hid (RdJ W A l)) (h2 : McOk W m ml) (h3 : KtOk W t tl) => rwhy_any m ml A n cap l t tl W hn hl h h2 h3 x hx
  have k2 := fun (W : World) (h : Hid (RdJ W A l)) => rweaker_any m A n cap l t W hn hl h
  have k3 := fun (W : World) (B : Option Addr) (q cq : Nat) (G : List Nat) (hq : Hid (q = G.length)) (hql : q ≤ 1000000) (h : Hid (RdJ W A l)) (hB : Hid (RdI W B (ints G))) => rwithout_any A n cap l B q cq G W hn hl h hq hql hB
  have hres : (if x = 0 then some [] else if x = 4 then (fewest (okK m t l (weak m t l n)) (weak m t l n).length 1).map fun k => (weak m t l n).take k else none) = r := by have h := hr.out; unfold places at h; rw [hx] at h; rw [hn.out]; exact h
  have K1 := Lib.hid k1; have K2 := Lib.hid k2; have K3 := Lib.hid k3; have HRes := Lib.hid hres
  clear k1 k2 k3 hres hx hr
  go_enter Try.func20, Try.ntmps20
  have HM0 := Lib.hid (show Bk ((w.alloc (.cells m.arr 37)).alloc (.cells t.arr 28)) w.heap.size 37 m.arr from (Bk.fresh w _ _).later ((Below.refl _ _).alloc (Nat.le_refl _) _))
  have HT0 := Lib.hid (show Bk ((w.alloc (.cells m.arr 37)).alloc (.cells t.arr 28)) (w.heap.size + 1) 28 t.arr from Bk.freshAt _ _ _ (by simp))
  have hB0 : Below w.heap.size w ((w.alloc (.cells m.arr 37)).alloc (.cells t.arr 28)) := ((Below.refl _ _).alloc (Nat.le_refl _) _).alloc (by simp) _
  have HA0 := Lib.hid (hA.out.later hB0)
  go_wp2_with (first | (with_reducible refine load_bk rfl 37 _ rfl w.heap.size 0 rfl 37 m.arr m.arr _ HM0.out (Part.whole _) Try.underlying37 rfl (by kernel_rfl) ?_) | (with_reducible refine load_bk rfl 28 _ rfl (w.heap.size + 1) 0 rfl 28 t.arr t.arr _ HT0.out (Part.whole _) Try.underlying28 rfl (by kernel_rfl) ?_))
  refine (K1.out _ HA0 (hM.out.later hB0) (hT.out.later hB0)).mono ?_; rintro v w1 ⟨rfl, hb1⟩
  have hB1 : Below w.heap.size w w1 := hB0.trans (hb1.mono hB0.size)
  have HM1 := Lib.hid (HM0.out.later hb1); have HT1 := Lib.hid (HT0.out.later hb1); clear HM0 HT0 HA0 hB0 hb1
  by_cases h0 : x = 0
  · subst h0
    have hq : r = some [] := by rw [← HRes.out]; rfl
    subst hq
    go_wp2_with fail
    go_ret2
    exact ⟨⟨none, 0, rfl, RdK.nil _ _ _, Nat.le_refl _, by omega⟩, hB1⟩
  have d0 : (x == 0) = false := by simpa using h0
  by_cases h4 : x = 4
  case neg =>
    have hq : r = none := by rw [← HRes.out, if_neg h0, if_neg h4]
    subst hq
    have d4 : (x != 4) = true := by simpa using h4
    go_wp2_with fail
    go_ret2
    exact ⟨⟨none, 0, rfl, RdK.nil _ _ _, Nat.le_refl _, by omega⟩, hB1⟩
  subst h4
  obtain ⟨E, hE⟩ : ∃ E, weak m t l n = E := ⟨_, rfl⟩
  have hEl : E.length ≤ n := by rw [← hE]; exact wk_len n
  have hres : (fewest (okK m t l E) E.length 1).map (fun k => E.take k) = r := by have h := HRes.out; rw [hE] at h; exact h
  have HA1 := Lib.hid (hA.out.later hB1)
  have k2' := fun (W : World) (h : Hid (RdJ W A l)) => K2.out W h
  rw [hE] at k2'
  have K2' := Lib.hid k2'; have HE := Lib.hid hE; have HR1 := Lib.hid hres
  clear k2' K2 hE hres HRes d0 h0
  go_wp2_with (first | (with_reducible refine load_bk rfl 37 _ rfl w.heap.size 0 rfl 37 m.arr m.arr _ HM1.out (Part.whole _) Try.underlying37 rfl (by kernel_rfl) ?_) | (with_reducible refine load_bk rfl 28 _ rfl (w.heap.size + 1) 0 rfl 28 t.arr t.arr _ HT1.out (Part.whole _) Try.underlying28 rfl (by kernel_rfl) ?_))
  refine (K2'.out _ HA1).mono ?_; rintro v w2 ⟨⟨u, rfl, hO⟩, hb2⟩
  have hB2 : Below w.heap.size w w2 := hB1.trans (hb2.mono hB1.size)
  have HM2 := Lib.hid (HM1.out.later hb2); have HT2 := Lib.hid (HT1.out.later hb2); clear HM1 HT1 HA1 hB1 hb2 K2'
  obtain ⟨B, c, hv, hr, hc, hc'⟩ := hO.rdi
  rw [show (ints E).length = E.length by simp [ints]] at hv hc
  obtain ⟨q, hq⟩ : ∃ q, q = E.length := ⟨_, rfl⟩
  rw [← hq] at hv hc
  subst hv
  have hqn : q ≤ n := by omega
  have HRd2 := Lib.hid hr; have HQ := Lib.hid hq
  clear hO hr hq
  go_wp2_with fail
  go_loopw [10] (fun i wr => ∃ k : Nat, k ≤ q ∧ i = .int .i64 ((k : Int) + 1) ∧ Hid ((fewest (okK m t l E) (E.length - k) (k + 1)).map (fun k => E.take k) = r) ∧ Hid (Bk wr w.heap.size 37 m.arr) ∧ Hid (Bk wr (w.heap.size + 1) 28 t.arr) ∧ Hid (RdI wr B (ints E)) ∧ Below w.heap.size w wr) (fun i wr => q + 1 - (intOf i).toNat)
  case atStart => exact ⟨0, Nat.zero_le _, rfl, HR1, HM2, HT2, HRd2, hB2⟩
  case round =>
    clear HM2 HT2 HRd2 hB2 HR1
    obtain ⟨k, hk, rfl, HR1, HMb, HTb, HRb, hb⟩ := hrel
    have lt1 : w.heap.size + 1 < wr.heap.size := HTb.out.here
    by_cases hlt : k < q
    · have hlk : k < E.length := by have := HQ.out; omega
      have hle : (k : Int) + 1 ≤ (q : Int) := by omega
      have hstep : fewest (okK m t l E) (E.length - k) (k + 1) = if okK m t l E (k + 1) then some (k + 1) else fewest (okK m t l E) (E.length - (k + 1)) (k + 2) := by
        rw [show E.length - k = (E.length - (k + 1)) + 1 by omega, fewest]
      obtain ⟨k', hk'⟩ : ∃ k', k' = k + 1 := ⟨_, rfl⟩
      have hkc : k' ≤ c := by omega
      obtain ⟨F, hF⟩ : ∃ F, freM m (outJ (E.take k') l n) = F := ⟨_, rfl⟩
      obtain ⟨p, qq, s, e⟩ := F
      obtain ⟨Fb, hFb⟩ : ∃ Fb, fB t.a t.b t.c p qq s = Fb := ⟨_, rfl⟩
      have hok : okK m t l E (k + 1) = (decide (e = 0) && Fb) := by unfold okK; rw [← hk', ← hn.out, hF]; simp only; rw [hFb]
      obtain ⟨nj, hnj⟩ : ∃ nj, nj = (outJ (E.take k') l n).length := ⟨_, rfl⟩
      have hnjl : nj ≤ 1000000 := by rw [hnj]; exact Nat.le_trans (outJ_len _ _ _) hl
      have k4 := fun (W : World) (A2 : Option Addr) (c2 : Nat) (h : Hid (RdJ W A2 (outJ (E.take k') l n))) => rfreeM_any m A2 nj c2 (outJ (E.take k') l n) W hnj hnjl h p qq s e hF
      have k5 := fun W => rfits_any t.a t.b t.c p qq s W
      rw [hFb] at k5
      have HKq : Hid (k' = (E.take k').length) := by show _ = _; rw [List.length_take]; omega
      have K4 := Lib.hid k4; have K5 := Lib.hid k5; have HNJ := Lib.hid hnj; have HK := Lib.hid hk'
      have HRt := Lib.hid (show RdI wr B (ints (E.take k')) from by have h := HRb.out.take k'; unfold ints at h ⊢; rw [List.map_take]; exact h)
      have hHR := HR1.out
      rw [hstep, hok] at hHR
      have HR2 := Lib.hid hHR
      have hkk : (k : Int) + 1 = (k' : Int) := by omega
      have hle' : (k' : Int) ≤ (q : Int) := by omega
      have hk'1 : k' ≤ 1000000 := by omega
      have lt0 : w.heap.size < wr.heap.size := by omega
      have HAw := Lib.hid (hA.out.later hb)
      clear k4 k5 hF hFb hok hnj hstep HR1 hHR hk'
      rw [hkk]
      clear hkk hle
      go_upto_region 10 with fail
      go_cut [11, 12] (fun s11 s12 wx => ∃ g11 : Nat, s11 = .pointer (some ⟨g11, 0, none⟩) ∧ s12 = .int .i64 e ∧ Below wr.heap.size wr wx ∧ Bk wx g11 25 #[.int .i64 p, .int .i64 qq, .int .i64 s])
      case first =>
        refine wp_region_held_drew (S := fun W => Below wr.heap.size wr W) (by kernel_rfl) (Below.drew (Below.refl _ _)) (fun hS0 => ?_)
        refine wpAnyH_take (i := 0) (v := .agg m.arr) rfl (by kernel_rfl) (by kernel_rfl) (by kernel_rfl) (fun _ _ _ h => h) (yields_bk rfl 37 _ rfl w.heap.size 0 rfl 37 m.arr m.arr _ (fun W hW => HMb.out.later hW) (Part.whole _) Try.underlying37 rfl (by kernel_rfl)) hS0 ?_
        try simp only [Act.put, List.getElem_toArray, List.getElem_cons_zero, List.getElem_cons_succ, List.setIfInBounds_toArray, List.set_cons_zero, List.set_cons_succ]
        refine wpAnyH_take (i := 1) (v := ?_) rfl (by kernel_rfl) (by kernel_rfl) (by kernel_rfl) (fun _ _ _ h => h) (Or.inl ⟨by rfl, ?_⟩) hS0 ?_
        rotate_left
        · intro W _; go_simp; try with_reducible rfl
        try simp only [Act.put, List.getElem_toArray, List.getElem_cons_zero, List.getElem_cons_succ, List.setIfInBounds_toArray, List.set_cons_zero, List.set_cons_succ]
        refine wpAnyH_take (i := 2) (v := ?_) rfl (by kernel_rfl) (by kernel_rfl) (by kernel_rfl) (fun _ _ _ h => h) (Or.inl ⟨by rfl, ?_⟩) hS0 ?_
        rotate_left
        · intro W _; go_simp; try with_reducible rfl
        try simp only [Act.put, List.getElem_toArray, List.getElem_cons_zero, List.getElem_cons_succ, List.setIfInBounds_toArray, List.set_cons_zero, List.set_cons_succ]
        refine wpAnyH_take (i := 3) (v := ?_) rfl (by kernel_rfl) (by kernel_rfl) (by kernel_rfl) (fun _ _ _ h => h) (Or.inl ⟨by rfl, ?_⟩) hS0 ?_
        rotate_left
        · intro W _; go_simp; try with_reducible rfl
        try simp only [Act.put, List.getElem_toArray, List.getElem_cons_zero, List.getElem_cons_succ, List.setIfInBounds_toArray, List.set_cons_zero, List.set_cons_succ]
        refine wpAnyH_take (i := 4) (v := ?_) rfl (by kernel_rfl) (by kernel_rfl) (by kernel_rfl) (fun _ _ _ h => h) (Or.inl ⟨by rfl, ?_⟩) hS0 ?_
        rotate_left
        · intro W _; go_simp; try with_reducible rfl
        try simp only [Act.put, List.getElem_toArray, List.getElem_cons_zero, List.getElem_cons_succ, List.setIfInBounds_toArray, List.set_cons_zero, List.set_cons_succ]
        refine wpAnyH_ready (rs := [5, 10]) (by kernel_rfl) (by simp) ?_
        refine (AllReadyH.cons rfl (fun K hK => ?_) (AllReadyH.cons rfl (fun K hK => ?_) AllReadyH.nil))
        · go_simp
          refine (K3.out _ B k' c (E.take k') HKq hk'1 (Lib.hid (HAw.out.later hS0)) (Lib.hid (RdI.later HRt.out hS0))).mono ?_
          rintro v v1 ⟨⟨u, rfl, hOJ⟩, hbl⟩
          go_simp
          obtain ⟨A2, c2, hv2, hr2, hc3, hc4⟩ := hOJ.rdj
          rw [← HNJ.out] at hv2 hc3
          subst hv2
          have HJo := Lib.hid hr2; clear hr2 hOJ
          refine hK.out _ _ (hS0.trans (hbl.mono hS0.size)) (fun hS1 => ?_)
          clear hK K
          try simp only [Act.put, List.getElem_toArray, List.getElem_cons_zero, List.getElem_cons_succ, List.setIfInBounds_toArray, List.set_cons_zero, List.set_cons_succ]
          refine wpAnyH_ready (rs := [6, 10]) (by kernel_rfl) (by simp) ?_
          refine (AllReadyH.cons rfl (fun K hK => ?_) (AllReadyH.cons rfl (fun K hK => ?_) AllReadyH.nil))
          · go_simp
            refine (K4.out _ A2 c2 HJo).mono ?_
            rintro v v2 ⟨rfl, hbl⟩
            go_simp
            clear HJo
            refine hK.out _ _ (hS1.trans (hbl.mono hS1.size)) (fun hS2 => ?_)
            clear hK K
            try simp only [Act.put, List.getElem_toArray, List.getElem_cons_zero, List.getElem_cons_succ, List.setIfInBounds_toArray, List.set_cons_zero, List.set_cons_succ]
            refine wpAnyH_take (i := 7) (v := ?_) rfl (by kernel_rfl) (by kernel_rfl) (by kernel_rfl) (fun _ _ _ h => h) (Or.inl ⟨by rfl, ?_⟩) hS2 ?_
            rotate_left
            · intro W _; go_simp; try with_reducible rfl
            try simp only [Act.put, List.getElem_toArray, List.getElem_cons_zero, List.getElem_cons_succ, List.setIfInBounds_toArray, List.set_cons_zero, List.set_cons_succ]
            refine wpAnyH_take (i := 8) (v := ?_) rfl (by kernel_rfl) (by kernel_rfl) (by kernel_rfl) (fun _ _ _ h => h) (Or.inl ⟨by rfl, ?_⟩) hS2 ?_
            rotate_left
            · intro W _; go_simp; try with_reducible rfl
            try simp only [Act.put, List.getElem_toArray, List.getElem_cons_zero, List.getElem_cons_succ, List.setIfInBounds_toArray, List.set_cons_zero, List.set_cons_succ]
            refine wpAnyH_take (i := 9) (v := ?_) rfl (by kernel_rfl) (by kernel_rfl) (by kernel_rfl) (fun _ _ _ h => h) (Or.inl ⟨by rfl, ?_⟩) hS2 ?_
            rotate_left
            · intro W _; go_simp; try with_reducible rfl
            try simp only [Act.put, List.getElem_toArray, List.getElem_cons_zero, List.getElem_cons_succ, List.setIfInBounds_toArray, List.set_cons_zero, List.set_cons_succ]
            refine wpAnyH_ready (rs := [10]) (by kernel_rfl) (by simp) ?_
            refine (AllReadyH.cons rfl (fun K hK => ?_) AllReadyH.nil)
            refine cell_op rfl ?_
            intro g11 v3 hg11 hZ hbl
            have hg11' : wr.heap.size ≤ g11 := by have := hS2.size; omega
            have HZ := Lib.hid hZ; clear hZ hg11
            refine hK.out _ _ (hS2.trans (hbl.mono hS2.size)) (fun hS3 => ?_)
            clear hK K
            try simp only [Act.put, List.getElem_toArray, List.getElem_cons_zero, List.getElem_cons_succ, List.setIfInBounds_toArray, List.set_cons_zero, List.set_cons_succ]
            refine wpAnyH_ready (rs := [11]) (by kernel_rfl) (by simp) ?_
            refine (AllReadyH.cons rfl (fun K hK => ?_) AllReadyH.nil)
            refine store_bk_op 25 (.tmp 11) (.tmp 39) rfl g11 0 #[.int .i64 p, .int .i64 qq, .int .i64 s] rfl rfl 25 #[.int .i64 0, .int .i64 0, .int .i64 0] #[.int .i64 p, .int .i64 qq, .int .i64 s] HZ.out (by kernel_rfl) (by simp) (by kernel_rfl) rfl ?_
            intro v4 hX hgr hs
            have HX := Lib.hid hX; clear hX hs
            have hbl : Below wr.heap.size _ v4 := grown_base hgr hS3.size (by intro kk ee; cases ee; exact hg11')
            clear HZ hgr
            refine hK.out _ _ (hS3.trans hbl) (fun hS4 => ?_)
            clear hK K
            try simp only [Act.put, List.getElem_toArray, List.getElem_cons_zero, List.getElem_cons_succ, List.setIfInBounds_toArray, List.set_cons_zero, List.set_cons_succ]
            refine wpAnyH_take (i := 12) (v := ?_) rfl (by kernel_rfl) (by kernel_rfl) (by kernel_rfl) (fun _ _ _ h => h) (Or.inl ⟨by rfl, ?_⟩) hS4 ?_
            rotate_left
            · intro W _; go_simp; try with_reducible rfl
            try simp only [Act.put, List.getElem_toArray, List.getElem_cons_zero, List.getElem_cons_succ, List.setIfInBounds_toArray, List.set_cons_zero, List.set_cons_succ]
            refine wpAnyH_done (by kernel_rfl) ?_ _
            go_wp2_with fail
            go_meet
            exact ⟨g11, rfl, rfl, hS4, HX.out⟩
          · refine cell_op rfl ?_
            intro g11 v2 hg11 hZ hbl
            have hg11' : wr.heap.size ≤ g11 := by have := hS1.size; omega
            have HZ := Lib.hid hZ; clear hZ hg11
            have HJob := Lib.hid (HJo.out.later hbl); clear HJo; have HJo := Lib.hid HJob.out; clear HJob
            refine hK.out _ _ (hS1.trans (hbl.mono hS1.size)) (fun hS2 => ?_)
            clear hK K
            try simp only [Act.put, List.getElem_toArray, List.getElem_cons_zero, List.getElem_cons_succ, List.setIfInBounds_toArray, List.set_cons_zero, List.set_cons_succ]
            refine wpAnyH_ready (rs := [6]) (by kernel_rfl) (by simp) ?_
            refine (AllReadyH.cons rfl (fun K hK => ?_) AllReadyH.nil)
            go_simp
            refine (K4.out _ A2 c2 HJo).mono ?_
            rintro v v3 ⟨rfl, hbl⟩
            go_simp
            have HZb := Lib.hid (HZ.out.later hbl); clear HZ; have HZ := Lib.hid HZb.out; clear HZb
            clear HJo
            refine hK.out _ _ (hS2.trans (hbl.mono hS2.size)) (fun hS3 => ?_)
            clear hK K
            try simp only [Act.put, List.getElem_toArray, List.getElem_cons_zero, List.getElem_cons_succ, List.setIfInBounds_toArray, List.set_cons_zero, List.set_cons_succ]
            refine wpAnyH_take (i := 7) (v := ?_) rfl (by kernel_rfl) (by kernel_rfl) (by kernel_rfl) (fun _ _ _ h => h) (Or.inl ⟨by rfl, ?_⟩) hS3 ?_
            rotate_left
            · intro W _; go_simp; try with_reducible rfl
            try simp only [Act.put, List.getElem_toArray, List.getElem_cons_zero, List.getElem_cons_succ, List.setIfInBounds_toArray, List.set_cons_zero, List.set_cons_succ]
            refine wpAnyH_take (i := 8) (v := ?_) rfl (by kernel_rfl) (by kernel_rfl) (by kernel_rfl) (fun _ _ _ h => h) (Or.inl ⟨by rfl, ?_⟩) hS3 ?_
            rotate_left
            · intro W _; go_simp; try with_reducible rfl
            try simp only [Act.put, List.getElem_toArray, List.getElem_cons_zero, List.getElem_cons_succ, List.setIfInBounds_toArray, List.set_cons_zero, List.set_cons_succ]
            refine wpAnyH_take (i := 9) (v := ?_) rfl (by kernel_rfl) (by kernel_rfl) (by kernel_rfl) (fun _ _ _ h => h) (Or.inl ⟨by rfl, ?_⟩) hS3 ?_
            rotate_left
            · intro W _; go_simp; try with_reducible rfl
            try simp only [Act.put, List.getElem_toArray, List.getElem_cons_zero, List.getElem_cons_succ, List.setIfInBounds_toArray, List.set_cons_zero, List.set_cons_succ]
            refine wpAnyH_ready (rs := [11]) (by kernel_rfl) (by simp) ?_
            refine (AllReadyH.cons rfl (fun K hK => ?_) AllReadyH.nil)
            refine store_bk_op 25 (.tmp 11) (.tmp 39) rfl g11 0 #[.int .i64 p, .int .i64 qq, .int .i64 s] rfl rfl 25 #[.int .i64 0, .int .i64 0, .int .i64 0] #[.int .i64 p, .int .i64 qq, .int .i64 s] HZ.out (by kernel_rfl) (by simp) (by kernel_rfl) rfl ?_
            intro v4 hX hgr hs
            have HX := Lib.hid hX; clear hX hs
            have hbl : Below wr.heap.size _ v4 := grown_base hgr hS3.size (by intro kk ee; cases ee; exact hg11')
            clear HZ hgr
            refine hK.out _ _ (hS3.trans hbl) (fun hS4 => ?_)
            clear hK K
            try simp only [Act.put, List.getElem_toArray, List.getElem_cons_zero, List.getElem_cons_succ, List.setIfInBounds_toArray, List.set_cons_zero, List.set_cons_succ]
            refine wpAnyH_take (i := 12) (v := ?_) rfl (by kernel_rfl) (by kernel_rfl) (by kernel_rfl) (fun _ _ _ h => h) (Or.inl ⟨by rfl, ?_⟩) hS4 ?_
            rotate_left
            · intro W _; go_simp; try with_reducible rfl
            try simp only [Act.put, List.getElem_toArray, List.getElem_cons_zero, List.getElem_cons_succ, List.setIfInBounds_toArray, List.set_cons_zero, List.set_cons_succ]
            refine wpAnyH_done (by kernel_rfl) ?_ _
            go_wp2_with fail
            go_meet
            exact ⟨g11, rfl, rfl, hS4, HX.out⟩
        · refine cell_op rfl ?_
          intro g11 v1 hg11 hZ hbl
          have hg11' : wr.heap.size ≤ g11 := by have := hS0.size; omega
          have HZ := Lib.hid hZ; clear hZ hg11
          refine hK.out _ _ (hS0.trans (hbl.mono hS0.size)) (fun hS1 => ?_)
          clear hK K
          try simp only [Act.put, List.getElem_toArray, List.getElem_cons_zero, List.getElem_cons_succ, List.setIfInBounds_toArray, List.set_cons_zero, List.set_cons_succ]
          refine wpAnyH_ready (rs := [5]) (by kernel_rfl) (by simp) ?_
          refine (AllReadyH.cons rfl (fun K hK => ?_) AllReadyH.nil)
          go_simp
          refine (K3.out _ B k' c (E.take k') HKq hk'1 (Lib.hid (HAw.out.later hS1)) (Lib.hid (RdI.later HRt.out hS1))).mono ?_
          rintro v v2 ⟨⟨u, rfl, hOJ⟩, hbl⟩
          go_simp
          obtain ⟨A2, c2, hv2, hr2, hc3, hc4⟩ := hOJ.rdj
          rw [← HNJ.out] at hv2 hc3
          subst hv2
          have HJo := Lib.hid hr2; clear hr2 hOJ
          have HZb := Lib.hid (HZ.out.later hbl); clear HZ; have HZ := Lib.hid HZb.out; clear HZb
          refine hK.out _ _ (hS1.trans (hbl.mono hS1.size)) (fun hS2 => ?_)
          clear hK K
          try simp only [Act.put, List.getElem_toArray, List.getElem_cons_zero, List.getElem_cons_succ, List.setIfInBounds_toArray, List.set_cons_zero, List.set_cons_succ]
          refine wpAnyH_ready (rs := [6]) (by kernel_rfl) (by simp) ?_
          refine (AllReadyH.cons rfl (fun K hK => ?_) AllReadyH.nil)
          go_simp
          refine (K4.out _ A2 c2 HJo).mono ?_
          rintro v v3 ⟨rfl, hbl⟩
          go_simp
          have HZb := Lib.hid (HZ.out.later hbl); clear HZ; have HZ := Lib.hid HZb.out; clear HZb
          clear HJo
          refine hK.out _ _ (hS2.trans (hbl.mono hS2.size)) (fun hS3 => ?_)
          clear hK K
          try simp only [Act.put, List.getElem_toArray, List.getElem_cons_zero, List.getElem_cons_succ, List.setIfInBounds_toArray, List.set_cons_zero, List.set_cons_succ]
          refine wpAnyH_take (i := 7) (v := ?_) rfl (by kernel_rfl) (by kernel_rfl) (by kernel_rfl) (fun _ _ _ h => h) (Or.inl ⟨by rfl, ?_⟩) hS3 ?_
          rotate_left
          · intro W _; go_simp; try with_reducible rfl
          try simp only [Act.put, List.getElem_toArray, List.getElem_cons_zero, List.getElem_cons_succ, List.setIfInBounds_toArray, List.set_cons_zero, List.set_cons_succ]
          refine wpAnyH_take (i := 8) (v := ?_) rfl (by kernel_rfl) (by kernel_rfl) (by kernel_rfl) (fun _ _ _ h => h) (Or.inl ⟨by rfl, ?_⟩) hS3 ?_
          rotate_left
          · intro W _; go_simp; try with_reducible rfl
          try simp only [Act.put, List.getElem_toArray, List.getElem_cons_zero, List.getElem_cons_succ, List.setIfInBounds_toArray, List.set_cons_zero, List.set_cons_succ]
          refine wpAnyH_take (i := 9) (v := ?_) rfl (by kernel_rfl) (by kernel_rfl) (by kernel_rfl) (fun _ _ _ h => h) (Or.inl ⟨by rfl, ?_⟩) hS3 ?_
          rotate_left
          · intro W _; go_simp; try with_reducible rfl
          try simp only [Act.put, List.getElem_toArray, List.getElem_cons_zero, List.getElem_cons_succ, List.setIfInBounds_toArray, List.set_cons_zero, List.set_cons_succ]
          refine wpAnyH_ready (rs := [11]) (by kernel_rfl) (by simp) ?_
          refine (AllReadyH.cons rfl (fun K hK => ?_) AllReadyH.nil)
          refine store_bk_op 25 (.tmp 11) (.tmp 39) rfl g11 0 #[.int .i64 p, .int .i64 qq, .int .i64 s] rfl rfl 25 #[.int .i64 0, .int .i64 0, .int .i64 0] #[.int .i64 p, .int .i64 qq, .int .i64 s] HZ.out (by kernel_rfl) (by simp) (by kernel_rfl) rfl ?_
          intro v4 hX hgr hs
          have HX := Lib.hid hX; clear hX hs
          have hbl : Below wr.heap.size _ v4 := grown_base hgr hS3.size (by intro kk ee; cases ee; exact hg11')
          clear HZ hgr
          refine hK.out _ _ (hS3.trans hbl) (fun hS4 => ?_)
          clear hK K
          try simp only [Act.put, List.getElem_toArray, List.getElem_cons_zero, List.getElem_cons_succ, List.setIfInBounds_toArray, List.set_cons_zero, List.set_cons_succ]
          refine wpAnyH_take (i := 12) (v := ?_) rfl (by kernel_rfl) (by kernel_rfl) (by kernel_rfl) (fun _ _ _ h => h) (Or.inl ⟨by rfl, ?_⟩) hS4 ?_
          rotate_left
          · intro W _; go_simp; try with_reducible rfl
          try simp only [Act.put, List.getElem_toArray, List.getElem_cons_zero, List.getElem_cons_succ, List.setIfInBounds_toArray, List.set_cons_zero, List.set_cons_succ]
          refine wpAnyH_done (by kernel_rfl) ?_ _
          go_wp2_with fail
          go_meet
          exact ⟨g11, rfl, rfl, hS4, HX.out⟩
      case rest =>
        obtain ⟨g11, rfl, rfl, hbc, hX⟩ := hcut
        have HX := Lib.hid hX; clear hX
        have hBc : Below w.heap.size w wc := hb.trans (hbc.mono hb.size)
        have HMc := Lib.hid (HMb.out.later hbc); have HTc := Lib.hid (HTb.out.later hbc); have HRc := Lib.hid (show RdI wc B (ints E) from RdI.later HRb.out hbc)
        clear HMb HTb HRb HRt HAw K3 K4 lt0 lt1
        by_cases he : e = 0
        · subst he
          go_wp2_with (first | (with_reducible refine load_bk rfl 25 _ rfl (w.heap.size + 1) 3 rfl 28 t.arr #[.int .i64 t.a, .int .i64 t.b, .int .i64 t.c] _ HTc.out (Part.of rfl) Try.underlying25 rfl (by kernel_rfl) ?_) | (with_reducible refine load_bk rfl 25 _ rfl g11 0 rfl 25 #[.int .i64 p, .int .i64 qq, .int .i64 s] #[.int .i64 p, .int .i64 qq, .int .i64 s] _ HX.out (Part.whole _) Try.underlying25 rfl (by kernel_rfl) ?_))
          refine (K5.out _).mono ?_; rintro v w5 ⟨rfl, hb5⟩
          have hB5 : Below w.heap.size w w5 := hBc.trans (hb5.mono hBc.size)
          cases Fb
          · have HR3 : Hid ((fewest (okK m t l E) (E.length - (k + 1)) (k + 1 + 1)).map (fun k => E.take k) = r) := by show _ = _; have h := HR2.out; simpa using h
            go_wp2_with fail
            go_round
            case rel => exact ⟨k + 1, by omega, by have := HK.out; go_num, HR3, HMc.out.later hb5, HTc.out.later hb5, RdI.later HRc.out hb5, hB5⟩
            case measure => simp [intOf]; omega
          · have hq : r = some (E.take k') := by have h := HR2.out; rw [HK.out, ← h]; rfl
            subst hq
            go_wp2_with fail
            go_ret2
            exact ⟨⟨B, c, by rw [show ((some (E.take k')).getD []).length = k' from HKq.out.symm]; rfl, (by have h := (RdI.later HRc.out hb5).take k'; unfold ints at h ⊢; rw [Option.getD_some, List.map_take]; exact h), by rw [show ((some (E.take k')).getD []).length = k' from HKq.out.symm]; exact hkc, hc'⟩, hB5⟩
        · have d0 : (e == 0) = false := by simpa using he
          have HR3 : Hid ((fewest (okK m t l E) (E.length - (k + 1)) (k + 1 + 1)).map (fun k => E.take k) = r) := by show _ = _; have h := HR2.out; rw [decide_eq_false he] at h; simpa using h
          go_wp2_with fail
          go_round
          case rel => exact ⟨k + 1, by omega, by have := HK.out; go_num, HR3, HMc, HTc, HRc, hBc⟩
          case measure => simp [intOf]; omega
    · have hk' : k = q := by omega
      subst hk'
      have hle : ¬ (k : Int) + 1 ≤ (k : Int) := by omega
      have hq : r = none := by have h := HR1.out; rw [show E.length - k = 0 by have := HQ.out; omega, fewest] at h; rw [← h]; rfl
      subst hq
      go_wp2_with fail
      go_ret2
      exact ⟨⟨none, 0, rfl, RdK.nil _ _ _, Nat.le_refl _, by omega⟩, hb⟩
end Go.Proofs.Ytpifleheammanaa

namespace Go.Proofs.Ytpifleheammanaa
open Go.RowKit
set_option linter.unusedSimpArgs false
set_option linter.unusedVariables false

/-- The names of the jobs at these places. -/
def namesAt (l : List Jb) (G : List Nat) : List ByteArray := G.map fun i => (jat l i).nm
theorem namesAt_take {l : List Jb} {G : List Nat} {a : Nat} (h : a < G.length) : namesAt l (G.take (a + 1)) = namesAt l (G.take a) ++ [(jat l G[a]).nm] := by
  unfold namesAt; rw [List.take_succ_eq_append_getElem h, List.map_append]; rfl
theorem namesAt_len (l : List Jb) (G : List Nat) : (namesAt l G).length = G.length := by simp [namesAt]
theorem fewest_le {p : Nat → Bool} : ∀ {f k r : Nat}, fewest p f k = some r → k ≤ r ∧ r < k + f ∧ p r = true
  | 0, k, r, h => by simp [fewest] at h
  | f + 1, k, r, h => by
    rw [fewest] at h
    split at h
    · rename_i hp; injection h with h; subst h; exact ⟨Nat.le_refl _, by omega, hp⟩
    · obtain ⟨h1, h2, h3⟩ := fewest_le h; exact ⟨by omega, by omega, h3⟩
theorem places_lt {m : Mc} {ml : List Lb} {t : Kt} {tl : List Lb} {l : List Jb} {G : List Nat} (h : places m ml t tl l = some G) : ∀ i ∈ G, i < l.length := by
  unfold places at h
  intro i hi
  split at h
  · injection h with h; subst h; simp at hi
  · split at h
    · rw [Option.map_eq_some_iff] at h
      obtain ⟨k, _, rfl⟩ := h
      exact wk_lt _ i (List.mem_of_mem_take hi)
    · cases h
theorem places_len {m : Mc} {ml : List Lb} {t : Kt} {tl : List Lb} {l : List Jb} {G : List Nat} (h : places m ml t tl l = some G) : G.length ≤ l.length := by
  unfold places at h
  split at h
  · injection h with h; subst h; simp
  · split at h
    · rw [Option.map_eq_some_iff] at h
      obtain ⟨k, _, rfl⟩ := h
      rw [List.length_take]
      have : (weak m t l l.length).length ≤ l.length := wk_len _
      omega
    · cases h

set_option maxHeartbeats 3200000 in
theorem rnames_any (A : Option Addr) (n cap : Nat) (l : List Jb) (B : Option Addr) (q cq : Nat) (G : List Nat) (w : World) (hn : Hid (n = l.length)) (hl : n ≤ 1000000) (hA : Hid (RdJ w A l)) (hq : Hid (q = G.length)) (hql : q ≤ 1000000) (hB : Hid (RdI w B (ints G))) (hG : Hid (∀ i ∈ G, i < l.length)) :
    Calls Try.prog 21 #[.slice A n cap, .slice B q cq] w fun e w' => RetS w.heap.size w' e (namesAt l G) ∧ Below w.heap.size w w' := by
  go_enter Try.func21, Try.ntmps21
  go_wp2_with fail
  go_loopw [5, 9] (fun vo i wr => ∃ a : Nat, a ≤ q ∧ i = .int .i64 a ∧ Hid (OwnK wr w.heap.size 9 1 vo (cellsS (namesAt l (G.take a)))) ∧ Below w.heap.size w wr) (fun _ i wr => q - (intOf i).toNat)
  case atStart => exact ⟨0, Nat.zero_le _, rfl, (show OwnK _ _ _ _ _ (cellsS (namesAt l (G.take 0))) from OwnK.nil _ _ _ _), Below.refl _ _⟩
  case round =>
    obtain ⟨a, ha, rfl, HO, hb⟩ := hrel
    by_cases haq : a < q
    · have haG : a < G.length := by have := hq.out; omega
      obtain ⟨g7, o7, rfl, hg7, c7⟩ := (hB.out.later hb).at (i := a) (by simpa [ints] using haG)
      obtain ⟨y, hy⟩ : ∃ y, y = G[a] := ⟨_, rfl⟩
      rw [show (ints G)[a]'(by simpa [ints] using haG) = (y : Int) by rw [hy]; simp [ints]] at c7
      have hyl : y < l.length := by rw [hy]; exact hG.out _ (List.getElem_mem haG)
      have hyn : y < n := by have := hn.out; omega
      obtain ⟨g, o, rfl, hg, hj⟩ := (hA.out.later hb).at hyl
      obtain ⟨j, hjk⟩ : ∃ j, j = l[y] := ⟨_, rfl⟩
      rw [← hjk] at hj
      have c0 := hj.nm
      have hs := namesAt_take (l := l) haG
      rw [← hy, jat_at hyl, ← hjk] at hs
      have HS := Lib.hid hs
      have hlen : (cellsS (namesAt l (G.take a))).length ≤ a := by rw [cellsS_length, namesAt_len, List.length_take]; omega
      clear hs hj hjk hy
      go_wp2_with (first | ((with_reducible refine append_k _ rfl (.tmp 12) (.tmp 22) 31 rfl w.heap.size 9 _ 1 16 Try.underlying31 infoS rfl (by omega) _ (cellsS (namesAt l (G.take a))) rfl (HO.out.alloc _) ⟨wr.heap.size, 0, none⟩ 1 1 (cellsS [j.nm]) rfl (fresh_k wr 1 _ _ rfl) (cellsS_k _) (cellsS_one _) rfl (by simp [cellsS, maxLen] at hlen ⊢; omega) (by simp [cellsS] at hlen ⊢; omega) (by have := hb.size; simp; omega) ?_); intro u6' w3 hO3 hg3))
      go_round
      case rel => exact ⟨a + 1, by omega, by go_num, (by show OwnK _ _ _ _ _ _; rw [HS.out, cellsS_append]; exact hO3), (hb.alloc hb.size _).grown hg3 (by have := hb.size; simp; omega) (fun g e => HO.out.block g e)⟩
      case measure => simp [intOf]; omega
    · have haq' : a = q := by omega
      subst haq'
      have h := HO.out
      rw [show G.take a = G by rw [hq.out]; exact List.take_length] at h
      have H := Lib.hid h; clear h
      go_wp2_with fail
      go_ret
      exact ⟨⟨_, rfl, H.out⟩, hb⟩

/-- A call has returned these texts, in memory of its own, and this bool. -/
def RetSB (b : Nat) (w : World) (e : Ending) (l : List ByteArray) (x : Bool) : Prop := ∃ v, e = .returned (.tuple #[v, .bool x]) ∧ OwnK w b 9 1 v (cellsS l)

set_option maxHeartbeats 3200000 in
theorem rplan_any (m : Mc) (ml : List Lb) (A : Option Addr) (n cap : Nat) (l : List Jb) (t : Kt) (tl : List Lb) (w : World) (hn : Hid (n = l.length)) (hl : n ≤ 1000000) (hA : Hid (RdJ w A l)) (hM : Hid (McOk w m ml)) (hT : Hid (KtOk w t tl)) (r : Option (List Nat)) (hr : Hid (places m ml t tl l = r)) :
    Calls Try.prog 11 #[.agg m.arr, .slice A n cap, .agg t.arr] w fun e w' => RetSB w.heap.size w' e (namesAt l (r.getD [])) r.isSome ∧ Below w.heap.size w w' := by
  have k1 := fun (W : World) (h : Hid (RdJ W A l)) (h2 : Hid (McOk W m ml)) (h3 : Hid (KtOk W t tl)) => rplaces_any m ml A n cap l t tl W hn hl h h2 h3 r hr
  have K1 := Lib.hid k1; clear k1
  have hlt : ∀ i ∈ r.getD [], i < l.length := by
    cases r with
    | none => intro i hi; simp at hi
    | some G => exact places_lt hr.out
  have hlen : (r.getD []).length ≤ 1000000 := by
    cases r with
    | none => simp
    | some G => have := places_len hr.out; have := hn.out; simp; omega
  obtain ⟨G, hGd⟩ : ∃ G, G = r.getD [] := ⟨_, rfl⟩
  rw [← hGd] at hlt hlen
  obtain ⟨b, hb⟩ : ∃ b, b = r.isSome := ⟨_, rfl⟩
  have HLt := Lib.hid hlt; have HG := Lib.hid hGd; have HBb := Lib.hid hb
  rw [← hGd, ← hb]
  clear hlt hGd hb
  go_enter Try.func11, Try.ntmps11
  have HM0 := Lib.hid (show Bk ((w.alloc (.cells m.arr 37)).alloc (.cells t.arr 28)) w.heap.size 37 m.arr from (Bk.fresh w _ _).later ((Below.refl _ _).alloc (Nat.le_refl _) _))
  have HT0 := Lib.hid (show Bk ((w.alloc (.cells m.arr 37)).alloc (.cells t.arr 28)) (w.heap.size + 1) 28 t.arr from Bk.freshAt _ _ _ (by simp))
  have hB0 : Below w.heap.size w ((w.alloc (.cells m.arr 37)).alloc (.cells t.arr 28)) := ((Below.refl _ _).alloc (Nat.le_refl _) _).alloc (by simp) _
  go_wp2_with (first | (with_reducible refine load_bk rfl 37 _ rfl w.heap.size 0 rfl 37 m.arr m.arr _ HM0.out (Part.whole _) Try.underlying37 rfl (by kernel_rfl) ?_) | (with_reducible refine load_bk rfl 28 _ rfl (w.heap.size + 1) 0 rfl 28 t.arr t.arr _ HT0.out (Part.whole _) Try.underlying28 rfl (by kernel_rfl) ?_))
  refine (K1.out _ (hA.out.later hB0) (hM.out.later hB0) (hT.out.later hB0)).mono ?_; rintro v w1 ⟨⟨B, c, rfl, hr1, hc, hc'⟩, hb1⟩
  have hB1 : Below w.heap.size w w1 := hB0.trans (hb1.mono hB0.size)
  rw [← HG.out] at hr1 hc ⊢
  rw [← HBb.out]
  obtain ⟨q, hq⟩ : ∃ q, q = G.length := ⟨_, rfl⟩
  rw [← hq] at hc hlen ⊢
  have HR1 := Lib.hid hr1; have HQ := Lib.hid hq
  clear hr1 hq
  go_wp2_with fail
  refine (rnames_any A n cap l B q c G _ hn hl (Lib.hid (hA.out.later hB1)) HQ hlen HR1 HLt).mono ?_; rintro v w2 ⟨⟨u, rfl, hO⟩, hb2⟩
  have hB2 : Below w.heap.size w w2 := hB1.trans (hb2.mono hB1.size)
  go_wp2_with fail
  go_ret2
  exact ⟨⟨_, rfl, hO.base hB1.size⟩, hB2⟩
end Go.Proofs.Ytpifleheammanaa

namespace Go.Proofs.Ytpifleheammanaa
open Go.RowKit
set_option linter.unusedSimpArgs false
set_option linter.unusedVariables false

/-- What has been chosen: its place, how many go, the Prio of the last one (-1 if nobody goes). -/
abbrev Ch := Nat × Nat × Int
def chB (o : Option Ch) : Int := match o with | none => -1 | some x => x.1
def chM (o : Option Ch) : Int := match o with | none => 0 | some x => x.2.1
def chT (o : Option Ch) : Int := match o with | none => 0 | some x => x.2.2
/-- The Prio of the last one that goes. -/
def lastP (l : List Jb) (G : List Nat) : Int := match G.getLast? with | none => -1 | some i => (jat l i).pr
instance : Inhabited Mc := ⟨⟨⟨#[]⟩, 0, 0, 0, none, 0, 0, false, 0⟩⟩
/-- The name of the machine at this place. -/
def nmAt (L : List Ml) (i : Nat) : ByteArray := (L.getD i default).1.nm
theorem nmAt_at {L : List Ml} {i : Nat} (h : i < L.length) : nmAt L i = L[i].1.nm := by simp [nmAt, List.getD, List.getElem?_eq_getElem h]
/-- Is the one at place k, of so many jobs and such a last one, chosen instead? -/
def betr (L : List Ml) (k g : Nat) (la : Int) (o : Option Ch) : Bool := match o with
  | none => true
  | some x => decide (g < x.2.1) || (decide (g = x.2.1) && (decide (la < x.2.2) || (decide (la = x.2.2) && sL (nmAt L k) (nmAt L x.1))))
theorem betr_some (L : List Ml) (k g : Nat) (la : Int) (b m : Nat) (tp : Int) : betr L k g la (some (b, m, tp)) = (decide (g < m) || (decide (g = m) && (decide (la < tp) || (decide (la = tp) && sL (nmAt L k) (nmAt L b))))) := rfl
/-- What is chosen of the first k machines, of each one's plan. -/
def cho (pl : Nat → Option (List Nat)) (l : List Jb) (L : List Ml) : Nat → Option Ch
  | 0 => none
  | k + 1 => match pl k with
    | none => cho pl l L k
    | some G => if betr L k G.length (lastP l G) (cho pl l L k) then some (k, G.length, lastP l G) else cho pl l L k
theorem cho_lt {pl : Nat → Option (List Nat)} {l : List Jb} {L : List Ml} : ∀ {k : Nat} {x : Ch}, cho pl l L k = some x → x.1 < k
  | 0, x, h => by simp [cho] at h
  | k + 1, x, h => by
    rw [cho] at h
    split at h
    · have := cho_lt h; omega
    · split at h
      · injection h with h; subst h; simp
      · have := cho_lt h; omega
theorem cho_no {pl : Nat → Option (List Nat)} {l : List Jb} {L : List Ml} {k : Nat} (h : pl k = none) : cho pl l L (k + 1) = cho pl l L k := by rw [cho, h]
theorem cho_yes {pl : Nat → Option (List Nat)} {l : List Jb} {L : List Ml} {k : Nat} {G : List Nat} (h : pl k = some G) : cho pl l L (k + 1) = if betr L k G.length (lastP l G) (cho pl l L k) then some (k, G.length, lastP l G) else cho pl l L k := by rw [cho, h]
/-- Each machine's plan. -/
def plansOf (L : List Ml) (t : Kt) (tl : List Lb) (l : List Jb) (i : Nat) : Option (List Nat) := places (L.getD i default).1 (L.getD i default).2 t tl l
theorem plansOf_at {L : List Ml} {t : Kt} {tl : List Lb} {l : List Jb} {i : Nat} (h : i < L.length) : plansOf L t tl l i = places L[i].1 L[i].2 t tl l := by simp [plansOf, List.getD, List.getElem?_eq_getElem h]
/-- A call has returned this text, these texts in memory of its own, and this bool. -/
def RetC (b : Nat) (w : World) (e : Ending) (s : ByteArray) (l : List ByteArray) (x : Bool) : Prop := ∃ v, e = .returned (.tuple #[.string s, v, .bool x]) ∧ OwnK w b 9 1 v (cellsS l)
/-- What Choose answers. -/
def chN (L : List Ml) (o : Option Ch) : ByteArray := match o with | none => ⟨#[]⟩ | some x => nmAt L x.1
def chG (L : List Ml) (t : Kt) (tl : List Lb) (l : List Jb) (o : Option Ch) : List ByteArray := match o with | none => [] | some x => namesAt l ((plansOf L t tl l x.1).getD [])

set_option maxHeartbeats 25600000 in
set_option maxRecDepth 100000 in
theorem rchoose_any (A0 : Option Addr) (N c0 : Nat) (L : List Ml) (A : Option Addr) (n cap : Nat) (l : List Jb) (t : Kt) (tl : List Lb) (w : World) (hN : Hid (N = L.length)) (hNl : N ≤ 1000000) (hL : Hid (RdM w A0 (mcs L))) (hLo : Hid (MsOk w L)) (hn : Hid (n = l.length)) (hl : n ≤ 1000000) (hA : Hid (RdJ w A l)) (hT : Hid (KtOk w t tl)) (r : Option Ch) (hr : Hid (cho (plansOf L t tl l) l L N = r)) :
    Calls Try.prog 14 #[.slice A0 N c0, .slice A n cap, .agg t.arr] w fun e w' => RetC w.heap.size w' e (chN L r) (chG L t tl l r) r.isSome ∧ Below w.heap.size w w' := by
  go_enter Try.func14, Try.ntmps14
  have HT0 := Lib.hid (show Bk (w.alloc (.cells t.arr 28)) w.heap.size 28 t.arr from Bk.fresh _ _ _)
  have hB0 : Below w.heap.size w (w.alloc (.cells t.arr 28)) := (Below.refl _ _).alloc (Nat.le_refl _) _
  go_wp2_with fail
  go_loopw [9, 10, 11, 20] (fun v9 v10 v11 i wr => ∃ k : Nat, k ≤ N ∧ i = .int .i64 k ∧ (∃ oc : Option Ch, v9 = .int .i64 (chB oc) ∧ v10 = .int .i64 (chM oc) ∧ v11 = .int .i64 (chT oc) ∧ Hid (cho (plansOf L t tl l) l L k = oc)) ∧ Hid (Bk wr w.heap.size 28 t.arr) ∧ Below w.heap.size w wr) (fun _ _ _ i wr => N - (intOf i).toNat)
  case atStart => exact ⟨0, Nat.zero_le _, rfl, ⟨none, rfl, rfl, rfl, rfl⟩, HT0, hB0⟩
  case round =>
    clear HT0 hB0
    obtain ⟨k, hk, rfl, ⟨oc, rfl, rfl, rfl, HC⟩, HTb, hb⟩ := hrel
    have lt0 : w.heap.size < wr.heap.size := HTb.out.here
    by_cases hlt : k < N
    · have hlk : k < L.length := by have := hN.out; omega
      obtain ⟨g, o, hAg, hg, hm⟩ := (hL.out.later hb).at (i := k) (by simpa [mcs] using hlk)
      subst hAg
      rw [mcs_at hlk] at hm
      obtain ⟨x, hx⟩ : ∃ x, x = L[k] := ⟨_, rfl⟩
      rw [← hx] at hm
      have HMt := Lib.hid hm; clear hm
      have hxo : McOk w x.1 x.2 := by rw [hx]; exact hLo.out.at hlk
      obtain ⟨r', hr'⟩ : ∃ r, places x.1 x.2 t tl l = r := ⟨_, rfl⟩
      have hpl : plansOf L t tl l k = r' := by rw [plansOf_at hlk, ← hx]; exact hr'
      have hnk : nmAt L k = x.1.nm := by rw [nmAt_at hlk, ← hx]
      have ks := fun (W : World) (h1 : RdJ W A l) (h2 : McOk W x.1 x.2) (h3 : KtOk W t tl) => rplaces_any x.1 x.2 A n cap l t tl W hn hl h1 h2 h3 r' hr'
      have hGl : ∀ i ∈ r'.getD [], i < l.length := by
        cases r' with
        | none => intro i hi; simp at hi
        | some G => exact places_lt hr'
      have hGn : (r'.getD []).length ≤ n := by
        cases r' with
        | none => simp
        | some G => have := places_len hr'; have := hn.out; simp; omega
      have KS := Lib.hid ks; have HPl := Lib.hid hpl; have HNk := Lib.hid hnk; have HXo := Lib.hid hxo; have HGl := Lib.hid hGl
      have HX := Lib.hid hx
      clear ks hpl hnk hxo hGl hx hr'
      go_wp2_with fail
      refine wp_region_held_drew (S := fun W => Below wr.heap.size wr W) (by kernel_rfl) (Below.drew (Below.refl _ _)) (fun hS0 => ?_)
      refine wpAnyH_take (i := 0) (v := ?_) rfl (by kernel_rfl) (by kernel_rfl) (by kernel_rfl) (fun _ _ _ h => h) (Or.inl ⟨by rfl, ?_⟩) hS0 ?_
      rotate_left
      · intro W _; go_simp; try with_reducible rfl
      try simp only [Act.put, List.getElem_toArray, List.getElem_cons_zero, List.setIfInBounds_toArray, List.set_cons_zero, List.set_cons_succ]
      refine wpAnyH_take (i := 1) (v := ?_) rfl (by kernel_rfl) (by kernel_rfl) (by kernel_rfl) (fun _ _ _ h => h) (Or.inl ⟨by rfl, ?_⟩) hS0 ?_
      rotate_left
      · intro W _; go_simp; try with_reducible rfl
      try simp only [Act.put, List.getElem_toArray, List.getElem_cons_zero, List.getElem_cons_succ, List.setIfInBounds_toArray, List.set_cons_zero, List.set_cons_succ]
      refine wpAnyH_take (i := 2) (v := ?_) rfl (by kernel_rfl) (by kernel_rfl) (by kernel_rfl) (fun _ _ _ h => h) (Or.inl ⟨by rfl, ?_⟩) hS0 ?_
      rotate_left
      · intro W _; go_simp; try with_reducible rfl
      try simp only [Act.put, List.getElem_toArray, List.getElem_cons_zero, List.getElem_cons_succ, List.setIfInBounds_toArray, List.set_cons_zero, List.set_cons_succ]
      refine wpAnyH_take (i := 3) (v := .agg x.1.arr) rfl (by kernel_rfl) (by kernel_rfl) (by kernel_rfl) (fun _ _ _ h => h) (yields_rg rfl 37 _ rfl g (o + k * 7) rfl x.1.arr _ (fun W hW => (HMt.out.later hW).rg) Try.underlying37 rfl (by kernel_rfl)) hS0 ?_
      try simp only [Act.put, List.getElem_toArray, List.getElem_cons_zero, List.getElem_cons_succ, List.setIfInBounds_toArray, List.set_cons_zero, List.set_cons_succ]
      refine wpAnyH_take (i := 4) (v := ?_) rfl (by kernel_rfl) (by kernel_rfl) (by kernel_rfl) (fun _ _ _ h => h) (Or.inl ⟨by rfl, ?_⟩) hS0 ?_
      rotate_left
      · intro W _; go_simp; try with_reducible rfl
      try simp only [Act.put, List.getElem_toArray, List.getElem_cons_zero, List.getElem_cons_succ, List.setIfInBounds_toArray, List.set_cons_zero, List.set_cons_succ]
      refine wpAnyH_take (i := 5) (v := .agg t.arr) rfl (by kernel_rfl) (by kernel_rfl) (by kernel_rfl) (fun _ _ _ h => h) (yields_bk rfl 28 _ rfl w.heap.size 0 rfl 28 t.arr t.arr _ (fun W hW => HTb.out.later hW) (Part.whole _) Try.underlying28 rfl (by kernel_rfl)) hS0 ?_
      try simp only [Act.put, List.getElem_toArray, List.getElem_cons_zero, List.getElem_cons_succ, List.setIfInBounds_toArray, List.set_cons_zero, List.set_cons_succ]
      refine wpAnyH_ready (rs := [6]) (by kernel_rfl) (by simp) ?_
      refine AllReadyH.cons rfl (fun K hK => ?_) AllReadyH.nil
      go_simp
      have hBS : Below w.heap.size w _ := hb.trans (hS0.mono hb.size)
      refine (KS.out _ (hA.out.later hBS) (HXo.out.later hBS) (hT.out.later hBS)).mono ?_
      rintro v v1 ⟨⟨B, c, rfl, hrd, hc, hc'⟩, hbl⟩
      go_simp
      refine hK.out _ _ (hS0.trans (hbl.mono hS0.size)) (fun hS1 => ?_)
      clear hK K hBS
      try simp only [Act.put, List.getElem_toArray, List.getElem_cons_zero, List.getElem_cons_succ, List.setIfInBounds_toArray, List.set_cons_zero, List.set_cons_succ]
      refine wpAnyH_take (i := 7) (v := ?_) rfl (by kernel_rfl) (by kernel_rfl) (by kernel_rfl) (fun _ _ _ h => h) (Or.inl ⟨by rfl, ?_⟩) hS1 ?_
      rotate_left
      · intro W _; go_simp; try with_reducible rfl
      try simp only [Act.put, List.getElem_toArray, List.getElem_cons_zero, List.getElem_cons_succ, List.setIfInBounds_toArray, List.set_cons_zero, List.set_cons_succ]
      refine wpAnyH_take (i := 8) (v := ?_) rfl (by kernel_rfl) (by kernel_rfl) (by kernel_rfl) (fun _ _ _ h => h) (Or.inl ⟨by rfl, ?_⟩) hS1 ?_
      rotate_left
      · intro W _; go_simp; try with_reducible rfl
      try simp only [Act.put, List.getElem_toArray, List.getElem_cons_zero, List.getElem_cons_succ, List.setIfInBounds_toArray, List.set_cons_zero, List.set_cons_succ]
      refine wpAnyH_take (i := 9) (v := ?_) rfl (by kernel_rfl) (by kernel_rfl) (by kernel_rfl) (fun _ _ _ h => h) (Or.inl ⟨by rfl, ?_⟩) hS1 ?_
      rotate_left
      · intro W _; go_simp; try with_reducible rfl
      try simp only [Act.put, List.getElem_toArray, List.getElem_cons_zero, List.getElem_cons_succ, List.setIfInBounds_toArray, List.set_cons_zero, List.set_cons_succ]
      refine wpAnyH_take (i := 10) (v := ?_) rfl (by kernel_rfl) (by kernel_rfl) (by kernel_rfl) (fun _ _ _ h => h) (Or.inl ⟨by rfl, ?_⟩) hS1 ?_
      rotate_left
      · intro W _; go_simp; try with_reducible rfl
      try simp only [Act.put, List.getElem_toArray, List.getElem_cons_zero, List.getElem_cons_succ, List.setIfInBounds_toArray, List.set_cons_zero, List.set_cons_succ]
      refine wpAnyH_take (i := 11) (v := ?_) rfl (by kernel_rfl) (by kernel_rfl) (by kernel_rfl) (fun _ _ _ h => h) (Or.inl ⟨by rfl, ?_⟩) hS1 ?_
      rotate_left
      · intro W _; go_simp; try with_reducible rfl
      try simp only [Act.put, List.getElem_toArray, List.getElem_cons_zero, List.getElem_cons_succ, List.setIfInBounds_toArray, List.set_cons_zero, List.set_cons_succ]
      refine wpAnyH_done (by kernel_rfl) ?_ _
      have hB1 : Below w.heap.size w v1 := hb.trans (hS1.mono hb.size)
      have HTv := Lib.hid (HTb.out.later hS1)
      cases r' with
      | none =>
        have HC2 : Hid (cho (plansOf L t tl l) l L (k + 1) = oc) := by show _ = _; rw [cho_no HPl.out]; exact HC.out
        go_wp2_with fail
        go_round
        case rel => exact ⟨k + 1, by omega, by go_num, ⟨oc, rfl, rfl, rfl, HC2⟩, HTv, hB1⟩
        case measure => simp [intOf]; omega
      | some G =>
        simp only [Option.getD_some, Option.isSome_some] at hrd hc hGn ⊢
        obtain ⟨la, hla⟩ : ∃ la, lastP l G = la := ⟨_, rfl⟩
        have hcy := cho_yes (l := l) (L := L) HPl.out
        rw [hla, HC.out] at hcy
        obtain ⟨q, hq⟩ : ∃ q, q = G.length := ⟨_, rfl⟩
        rw [← hq] at hcy hc hGn ⊢
        have HCy := Lib.hid hcy; have HQ := Lib.hid hq; have HRd := Lib.hid hrd; have HLa := Lib.hid hla
        have HGL := Lib.hid (show ∀ i ∈ G, i < l.length from HGl.out)
        clear hcy hq hrd hla HGl
        have HMv := Lib.hid (HMt.out.later hS1)
        have HLv := Lib.hid (hL.out.later hB1)
        have HAv := Lib.hid (hA.out.later hB1)
        by_cases hq0 : 0 < q
        · obtain ⟨d, hd⟩ : ∃ d, q = d + 1 := ⟨q - 1, by omega⟩
          have hdG : d < G.length := by have := HQ.out; omega
          obtain ⟨g7, o7, hB7, hg7, c7⟩ := HRd.out.at (i := d) (by simpa [ints] using hdG)
          subst hB7
          obtain ⟨yy, hyy⟩ : ∃ yy, yy = G[d] := ⟨_, rfl⟩
          rw [show (ints G)[d]'(by simpa [ints] using hdG) = (yy : Int) by rw [hyy]; simp [ints]] at c7
          have hyl : yy < l.length := by rw [hyy]; exact HGL.out _ (List.getElem_mem hdG)
          have hyn : yy < n := by have := hn.out; omega
          obtain ⟨g2, o2, hA2, hg2, hj2⟩ := HAv.out.at hyl
          subst hA2
          obtain ⟨j2, hj2k⟩ : ∃ j2, j2 = l[yy] := ⟨_, rfl⟩
          rw [← hj2k] at hj2
          have c2 : v1.cell? ⟨g2, o2 + yy * 13 + 2, none⟩ = some (.int .i64 j2.pr) := hj2.pr
          have hlaj : la = j2.pr := by
            rw [← HLa.out]
            unfold lastP
            rw [List.getLast?_eq_getElem?, show G.length - 1 = d by have := HQ.out; omega, List.getElem?_eq_getElem hdG]
            simp only
            rw [← hyy, jat_at hyl, ← hj2k]
          rw [← hlaj] at c2
          have HJK := Lib.hid hj2k; have HYY := Lib.hid hyy; have HLJ := Lib.hid hlaj
          have wq : IntKind.i64.wrap ((q : Int) - 1) = (d : Int) := by rw [IntKind.wrap_i64]; omega
          have wq2 : wrap64 ((q : Int) - 1) = (d : Int) := by unfold wrap64; omega
          have hdq : d < q := by omega
          have HDq := Lib.hid hd
          clear hj2 hj2k hyy hlaj hd
          go_upto_region 10 with fail
          clear c7 c2 wq wq2
          have hk1 : k ≤ N := hk
          cases oc with
          | none =>
            have HC2 : Hid (cho (plansOf L t tl l) l L (k + 1) = some (k, q, la)) := by show _ = _; rw [HCy.out]; rfl
            simp only [chB, chM, chT]
            have hbn : decide ((-1 : Int) < 0) = true := rfl
            refine wp_region_later (by kernel_rfl) (by kernel_rfl) ?_; have hL : ∀ (w : World) (x : Later w) (b o : Nat), b < w.heap.size → x.to.cell? ⟨b, o, none⟩ = w.cell? ⟨b, o, none⟩ := fun w x b o hb => x.cell hb; have hN := Later.some; (repeat (go_big_quiet_step (((fail))))); refine wpQuiet_nil ?_; intro w3 hw3; have hb3 := Later.out hw3; clear hw3 hL hN
            have hB3 : Below w.heap.size w w3 := hB1.trans (hb3.mono hB1.size)
            go_wp2_with fail
            go_round
            case rel => exact ⟨k + 1, by omega, by go_num, ⟨some (k, q, la), rfl, rfl, rfl, HC2⟩, HTv.out.later hb3, hB3⟩
            case measure => simp [intOf]; omega
          | some oc =>
            obtain ⟨b, mm, tp⟩ := oc
            have hbk : b < k := cho_lt HC.out
            simp only [chB, chM, chT]
            have hb0 : decide ((b : Int) < 0) = false := by rw [decide_eq_false_iff_not]; omega
            have hbl : b < L.length := by omega
            obtain ⟨g9, o9, hA9, hg9, hm9⟩ := HLv.out.at (i := b) (by simpa [mcs] using hbl)
            injection hA9 with hA9; injection hA9 with e1 e2; subst e1 e2
            rw [mcs_at hbl] at hm9
            obtain ⟨y, hy⟩ : ∃ y, y = L[b] := ⟨_, rfl⟩
            rw [← hy] at hm9
            have hnb : nmAt L b = y.1.nm := by rw [nmAt_at hbl, ← hy]
            have HNb := Lib.hid hnb; have HY := Lib.hid hy
            have cB : v1.cell? ⟨g, o + b * 7, none⟩ = some (.string y.1.nm) := hm9.nm
            have cK : v1.cell? ⟨g, o + k * 7, none⟩ = some (.string x.1.nm) := HMv.out.nm
            have zg : g < v1.heap.size := HMv.out.lt
            have hbN : b < N := by omega
            clear hm9 hnb hy
            by_cases h1 : q < mm
            · have HC2 : Hid (cho (plansOf L t tl l) l L (k + 1) = some (k, q, la)) := by show _ = _; rw [HCy.out, if_pos (by rw [betr_some, decide_eq_true h1]; rfl)]
              have d1 : decide ((q : Int) < (mm : Int)) = true := by rw [decide_eq_true_eq]; omega
              have d1' : (q : Int) < (mm : Int) := by omega
              have HOC := Lib.hid HC.out
              refine wp_region_later (by kernel_rfl) (by kernel_rfl) ?_; have hL : ∀ (w : World) (x : Later w) (b o : Nat), b < w.heap.size → x.to.cell? ⟨b, o, none⟩ = w.cell? ⟨b, o, none⟩ := fun w x b o hb => x.cell hb; have hN := Later.some; (repeat (go_big_quiet_step (((fail))))); refine wpQuiet_nil ?_; intro w3 hw3; have hb3 := Later.out hw3; clear hw3 hL hN
              have hB3 : Below w.heap.size w w3 := hB1.trans (hb3.mono hB1.size)
              go_wp2_with fail
              go_round
              case rel => exact ⟨k + 1, by omega, by go_num, ⟨some (k, q, la), rfl, rfl, rfl, HC2⟩, HTv.out.later hb3, hB3⟩
              case measure => simp [intOf]; omega
            have d1 : decide ((q : Int) < (mm : Int)) = false := by rw [decide_eq_false_iff_not]; omega
            have d1' : ¬ (q : Int) < (mm : Int) := by omega
            by_cases h2 : q = mm
            case neg =>
              have HC2 : Hid (cho (plansOf L t tl l) l L (k + 1) = some (b, mm, tp)) := by show _ = _; rw [HCy.out, if_neg (by rw [betr_some, decide_eq_false h1, decide_eq_false h2]; simp)]
              have d2 : ((q : Int) == (mm : Int)) = false := by simp; omega
              refine wp_region_later (by kernel_rfl) (by kernel_rfl) ?_; have hL : ∀ (w : World) (x : Later w) (b o : Nat), b < w.heap.size → x.to.cell? ⟨b, o, none⟩ = w.cell? ⟨b, o, none⟩ := fun w x b o hb => x.cell hb; have hN := Later.some; (repeat (go_big_quiet_step (((fail))))); refine wpQuiet_nil ?_; intro w3 hw3; have hb3 := Later.out hw3; clear hw3 hL hN
              have hB3 : Below w.heap.size w w3 := hB1.trans (hb3.mono hB1.size)
              go_wp2_with fail
              go_round
              case rel => exact ⟨k + 1, by omega, by go_num, ⟨some (b, mm, tp), rfl, rfl, rfl, HC2⟩, HTv.out.later hb3, hB3⟩
              case measure => simp [intOf]; omega
            subst h2
            by_cases h3 : la < tp
            · have HC2 : Hid (cho (plansOf L t tl l) l L (k + 1) = some (k, q, la)) := by show _ = _; rw [HCy.out, if_pos (by rw [betr_some, decide_eq_true h3]; simp)]
              have d3 : decide (la < tp) = true := decide_eq_true h3
              refine wp_region_later (by kernel_rfl) (by kernel_rfl) ?_; have hL : ∀ (w : World) (x : Later w) (b o : Nat), b < w.heap.size → x.to.cell? ⟨b, o, none⟩ = w.cell? ⟨b, o, none⟩ := fun w x b o hb => x.cell hb; have hN := Later.some; (repeat (go_big_quiet_step (((fail))))); refine wpQuiet_nil ?_; intro w3 hw3; have hb3 := Later.out hw3; clear hw3 hL hN
              have hB3 : Below w.heap.size w w3 := hB1.trans (hb3.mono hB1.size)
              go_wp2_with fail
              go_round
              case rel => exact ⟨k + 1, by omega, by go_num, ⟨some (k, q, la), rfl, rfl, rfl, HC2⟩, HTv.out.later hb3, hB3⟩
              case measure => simp [intOf]; omega
            have d3 : decide (la < tp) = false := decide_eq_false h3
            by_cases h4 : la = tp
            case neg =>
              have HC2 : Hid (cho (plansOf L t tl l) l L (k + 1) = some (b, q, tp)) := by show _ = _; rw [HCy.out, if_neg (by rw [betr_some, decide_eq_false h1, decide_eq_false h3, decide_eq_false h4]; simp)]
              have d4 : (la == tp) = false := by simpa using h4
              refine wp_region_later (by kernel_rfl) (by kernel_rfl) ?_; have hL : ∀ (w : World) (x : Later w) (b o : Nat), b < w.heap.size → x.to.cell? ⟨b, o, none⟩ = w.cell? ⟨b, o, none⟩ := fun w x b o hb => x.cell hb; have hN := Later.some; (repeat (go_big_quiet_step (((fail))))); refine wpQuiet_nil ?_; intro w3 hw3; have hb3 := Later.out hw3; clear hw3 hL hN
              have hB3 : Below w.heap.size w w3 := hB1.trans (hb3.mono hB1.size)
              go_wp2_with fail
              go_round
              case rel => exact ⟨k + 1, by omega, by go_num, ⟨some (b, q, tp), rfl, rfl, rfl, HC2⟩, HTv.out.later hb3, hB3⟩
              case measure => simp [intOf]; omega
            subst h4
            cases h5 : sL x.1.nm y.1.nm
            · have HC2 : Hid (cho (plansOf L t tl l) l L (k + 1) = some (b, q, la)) := by show _ = _; rw [HCy.out, if_neg (by rw [betr_some, decide_eq_false h1, decide_eq_false h3, HNk.out, HNb.out, h5]; simp)]
              have d5 : Op.bytesLess x.1.nm.toList y.1.nm.toList = false := h5
              clear h5
              refine wp_region_later (by kernel_rfl) (by kernel_rfl) ?_; have hL : ∀ (w : World) (x : Later w) (b o : Nat), b < w.heap.size → x.to.cell? ⟨b, o, none⟩ = w.cell? ⟨b, o, none⟩ := fun w x b o hb => x.cell hb; have hN := Later.some; (repeat (go_big_quiet_step (((fail))))); refine wpQuiet_nil ?_; intro w3 hw3; have hb3 := Later.out hw3; clear hw3 hL hN
              have hB3 : Below w.heap.size w w3 := hB1.trans (hb3.mono hB1.size)
              go_wp2_with fail
              go_round
              case rel => exact ⟨k + 1, by omega, by go_num, ⟨some (b, q, la), rfl, rfl, rfl, HC2⟩, HTv.out.later hb3, hB3⟩
              case measure => simp [intOf]; omega
            · have HC2 : Hid (cho (plansOf L t tl l) l L (k + 1) = some (k, q, la)) := by show _ = _; rw [HCy.out, if_pos (by rw [betr_some, HNk.out, HNb.out, h5]; simp)]
              have d5 : Op.bytesLess x.1.nm.toList y.1.nm.toList = true := h5
              clear h5
              refine wp_region_later (by kernel_rfl) (by kernel_rfl) ?_; have hL : ∀ (w : World) (x : Later w) (b o : Nat), b < w.heap.size → x.to.cell? ⟨b, o, none⟩ = w.cell? ⟨b, o, none⟩ := fun w x b o hb => x.cell hb; have hN := Later.some; (repeat (go_big_quiet_step (((fail))))); refine wpQuiet_nil ?_; intro w3 hw3; have hb3 := Later.out hw3; clear hw3 hL hN
              have hB3 : Below w.heap.size w w3 := hB1.trans (hb3.mono hB1.size)
              go_wp2_with fail
              go_round
              case rel => exact ⟨k + 1, by omega, by go_num, ⟨some (k, q, la), rfl, rfl, rfl, HC2⟩, HTv.out.later hb3, hB3⟩
              case measure => simp [intOf]; omega
        · have hq0' : q = 0 := by omega
          have hGe : G = [] := List.length_eq_zero_iff.1 (by have := HQ.out; omega)
          have hlm : la = -1 := by rw [← HLa.out, hGe]; rfl
          subst hq0'
          subst hlm
          go_upto_region 10 with fail
          have hk1 : k ≤ N := hk
          cases oc with
          | none =>
            have HC2 : Hid (cho (plansOf L t tl l) l L (k + 1) = some (k, 0, -1)) := by show _ = _; rw [HCy.out]; rfl
            simp only [chB, chM, chT]
            have hbn : decide ((-1 : Int) < 0) = true := rfl
            refine wp_region_later (by kernel_rfl) (by kernel_rfl) ?_; have hL : ∀ (w : World) (x : Later w) (b o : Nat), b < w.heap.size → x.to.cell? ⟨b, o, none⟩ = w.cell? ⟨b, o, none⟩ := fun w x b o hb => x.cell hb; have hN := Later.some; (repeat (go_big_quiet_step (((fail))))); refine wpQuiet_nil ?_; intro w3 hw3; have hb3 := Later.out hw3; clear hw3 hL hN
            have hB3 : Below w.heap.size w w3 := hB1.trans (hb3.mono hB1.size)
            go_wp2_with fail
            go_round
            case rel => exact ⟨k + 1, by omega, by go_num, ⟨some (k, 0, -1), rfl, rfl, rfl, HC2⟩, HTv.out.later hb3, hB3⟩
            case measure => simp [intOf]; omega
          | some oc =>
            obtain ⟨b, mm, tp⟩ := oc
            have hbk : b < k := cho_lt HC.out
            simp only [chB, chM, chT]
            have hb0 : decide ((b : Int) < 0) = false := by rw [decide_eq_false_iff_not]; omega
            have hbl : b < L.length := by omega
            obtain ⟨g9, o9, hA9, hg9, hm9⟩ := HLv.out.at (i := b) (by simpa [mcs] using hbl)
            injection hA9 with hA9; injection hA9 with e1 e2; subst e1 e2
            rw [mcs_at hbl] at hm9
            obtain ⟨y, hy⟩ : ∃ y, y = L[b] := ⟨_, rfl⟩
            rw [← hy] at hm9
            have hnb : nmAt L b = y.1.nm := by rw [nmAt_at hbl, ← hy]
            have HNb := Lib.hid hnb; have HY := Lib.hid hy
            have cB : v1.cell? ⟨g, o + b * 7, none⟩ = some (.string y.1.nm) := hm9.nm
            have cK : v1.cell? ⟨g, o + k * 7, none⟩ = some (.string x.1.nm) := HMv.out.nm
            have zg : g < v1.heap.size := HMv.out.lt
            have hbN : b < N := by omega
            clear hm9 hnb hy
            by_cases h1 : 0 < mm
            · have HC2 : Hid (cho (plansOf L t tl l) l L (k + 1) = some (k, 0, -1)) := by show _ = _; rw [HCy.out, if_pos (by rw [betr_some, decide_eq_true h1]; rfl)]
              have d1 : decide ((0 : Int) < (mm : Int)) = true := by rw [decide_eq_true_eq]; omega
              have d1' : (0 : Int) < (mm : Int) := by omega
              have HOC := Lib.hid HC.out
              refine wp_region_later (by kernel_rfl) (by kernel_rfl) ?_; have hL : ∀ (w : World) (x : Later w) (b o : Nat), b < w.heap.size → x.to.cell? ⟨b, o, none⟩ = w.cell? ⟨b, o, none⟩ := fun w x b o hb => x.cell hb; have hN := Later.some; (repeat (go_big_quiet_step (((fail))))); refine wpQuiet_nil ?_; intro w3 hw3; have hb3 := Later.out hw3; clear hw3 hL hN
              have hB3 : Below w.heap.size w w3 := hB1.trans (hb3.mono hB1.size)
              go_wp2_with fail
              go_round
              case rel => exact ⟨k + 1, by omega, by go_num, ⟨some (k, 0, -1), rfl, rfl, rfl, HC2⟩, HTv.out.later hb3, hB3⟩
              case measure => simp [intOf]; omega
            have d1 : decide ((0 : Int) < (mm : Int)) = false := by rw [decide_eq_false_iff_not]; omega
            have d1' : ¬ (0 : Int) < (mm : Int) := by omega
            by_cases h2 : 0 = mm
            case neg =>
              have HC2 : Hid (cho (plansOf L t tl l) l L (k + 1) = some (b, mm, tp)) := by show _ = _; rw [HCy.out, if_neg (by rw [betr_some, decide_eq_false h1, decide_eq_false h2]; simp)]
              have d2 : ((0 : Int) == (mm : Int)) = false := by simp; omega
              refine wp_region_later (by kernel_rfl) (by kernel_rfl) ?_; have hL : ∀ (w : World) (x : Later w) (b o : Nat), b < w.heap.size → x.to.cell? ⟨b, o, none⟩ = w.cell? ⟨b, o, none⟩ := fun w x b o hb => x.cell hb; have hN := Later.some; (repeat (go_big_quiet_step (((fail))))); refine wpQuiet_nil ?_; intro w3 hw3; have hb3 := Later.out hw3; clear hw3 hL hN
              have hB3 : Below w.heap.size w w3 := hB1.trans (hb3.mono hB1.size)
              go_wp2_with fail
              go_round
              case rel => exact ⟨k + 1, by omega, by go_num, ⟨some (b, mm, tp), rfl, rfl, rfl, HC2⟩, HTv.out.later hb3, hB3⟩
              case measure => simp [intOf]; omega
            subst h2
            by_cases h3 : -1 < tp
            · have HC2 : Hid (cho (plansOf L t tl l) l L (k + 1) = some (k, 0, -1)) := by show _ = _; rw [HCy.out, if_pos (by rw [betr_some, decide_eq_true h3]; simp)]
              have d3 : decide (-1 < tp) = true := decide_eq_true h3
              refine wp_region_later (by kernel_rfl) (by kernel_rfl) ?_; have hL : ∀ (w : World) (x : Later w) (b o : Nat), b < w.heap.size → x.to.cell? ⟨b, o, none⟩ = w.cell? ⟨b, o, none⟩ := fun w x b o hb => x.cell hb; have hN := Later.some; (repeat (go_big_quiet_step (((fail))))); refine wpQuiet_nil ?_; intro w3 hw3; have hb3 := Later.out hw3; clear hw3 hL hN
              have hB3 : Below w.heap.size w w3 := hB1.trans (hb3.mono hB1.size)
              go_wp2_with fail
              go_round
              case rel => exact ⟨k + 1, by omega, by go_num, ⟨some (k, 0, -1), rfl, rfl, rfl, HC2⟩, HTv.out.later hb3, hB3⟩
              case measure => simp [intOf]; omega
            have d3 : decide (-1 < tp) = false := decide_eq_false h3
            by_cases h4 : -1 = tp
            case neg =>
              have HC2 : Hid (cho (plansOf L t tl l) l L (k + 1) = some (b, 0, tp)) := by show _ = _; rw [HCy.out, if_neg (by rw [betr_some, decide_eq_false h1, decide_eq_false h3, decide_eq_false h4]; simp)]
              have d4 : ((-1 : Int) == tp) = false := by simpa using h4
              refine wp_region_later (by kernel_rfl) (by kernel_rfl) ?_; have hL : ∀ (w : World) (x : Later w) (b o : Nat), b < w.heap.size → x.to.cell? ⟨b, o, none⟩ = w.cell? ⟨b, o, none⟩ := fun w x b o hb => x.cell hb; have hN := Later.some; (repeat (go_big_quiet_step (((fail))))); refine wpQuiet_nil ?_; intro w3 hw3; have hb3 := Later.out hw3; clear hw3 hL hN
              have hB3 : Below w.heap.size w w3 := hB1.trans (hb3.mono hB1.size)
              go_wp2_with fail
              go_round
              case rel => exact ⟨k + 1, by omega, by go_num, ⟨some (b, 0, tp), rfl, rfl, rfl, HC2⟩, HTv.out.later hb3, hB3⟩
              case measure => simp [intOf]; omega
            subst h4
            cases h5 : sL x.1.nm y.1.nm
            · have HC2 : Hid (cho (plansOf L t tl l) l L (k + 1) = some (b, 0, -1)) := by show _ = _; rw [HCy.out, if_neg (by rw [betr_some, decide_eq_false h1, decide_eq_false h3, HNk.out, HNb.out, h5]; simp)]
              have d5 : Op.bytesLess x.1.nm.toList y.1.nm.toList = false := h5
              clear h5
              refine wp_region_later (by kernel_rfl) (by kernel_rfl) ?_; have hL : ∀ (w : World) (x : Later w) (b o : Nat), b < w.heap.size → x.to.cell? ⟨b, o, none⟩ = w.cell? ⟨b, o, none⟩ := fun w x b o hb => x.cell hb; have hN := Later.some; (repeat (go_big_quiet_step (((fail))))); refine wpQuiet_nil ?_; intro w3 hw3; have hb3 := Later.out hw3; clear hw3 hL hN
              have hB3 : Below w.heap.size w w3 := hB1.trans (hb3.mono hB1.size)
              go_wp2_with fail
              go_round
              case rel => exact ⟨k + 1, by omega, by go_num, ⟨some (b, 0, -1), rfl, rfl, rfl, HC2⟩, HTv.out.later hb3, hB3⟩
              case measure => simp [intOf]; omega
            · have HC2 : Hid (cho (plansOf L t tl l) l L (k + 1) = some (k, 0, -1)) := by show _ = _; rw [HCy.out, if_pos (by rw [betr_some, HNk.out, HNb.out, h5]; simp)]
              have d5 : Op.bytesLess x.1.nm.toList y.1.nm.toList = true := h5
              clear h5
              refine wp_region_later (by kernel_rfl) (by kernel_rfl) ?_; have hL : ∀ (w : World) (x : Later w) (b o : Nat), b < w.heap.size → x.to.cell? ⟨b, o, none⟩ = w.cell? ⟨b, o, none⟩ := fun w x b o hb => x.cell hb; have hN := Later.some; (repeat (go_big_quiet_step (((fail))))); refine wpQuiet_nil ?_; intro w3 hw3; have hb3 := Later.out hw3; clear hw3 hL hN
              have hB3 : Below w.heap.size w w3 := hB1.trans (hb3.mono hB1.size)
              go_wp2_with fail
              go_round
              case rel => exact ⟨k + 1, by omega, by go_num, ⟨some (k, 0, -1), rfl, rfl, rfl, HC2⟩, HTv.out.later hb3, hB3⟩
              case measure => simp [intOf]; omega
    · have hk' : k = N := by omega
      subst hk'
      have hoc : oc = r := by rw [← HC.out]; exact hr.out
      subst hoc
      cases oc with
      | none =>
        simp only [chB, chM, chT]
        have hbn : decide ((-1 : Int) < 0) = true := rfl
        go_wp2_with fail
        exact bodyPost_ret (v := .tuple #[.string ⟨#[]⟩, .slice none 0 0, .bool false]) (by simp [results, Try.results14, go_sem]) rfl ⟨⟨_, rfl, OwnK.nil _ _ _ _⟩, hb⟩
      | some oc =>
        obtain ⟨b, mm, tp⟩ := oc
        have hbk : b < k := cho_lt HC.out
        simp only [chB, chM, chT]
        have hb0 : decide ((b : Int) < 0) = false := by rw [decide_eq_false_iff_not]; omega
        have hbl : b < L.length := by have := hN.out; omega
        obtain ⟨g, o, hA9, hg9, hm9⟩ := (hL.out.later hb).at (i := b) (by simpa [mcs] using hbl)
        subst hA9
        rw [mcs_at hbl] at hm9
        obtain ⟨y, hy⟩ : ∃ y, y = L[b] := ⟨_, rfl⟩
        rw [← hy] at hm9
        have HMt := Lib.hid hm9
        have hyo : McOk w y.1 y.2 := by rw [hy]; exact hLo.out.at hbl
        obtain ⟨r', hr'⟩ : ∃ r, places y.1 y.2 t tl l = r := ⟨_, rfl⟩
        have hpl : plansOf L t tl l b = r' := by rw [plansOf_at hbl, ← hy]; exact hr'
        have hnb : nmAt L b = y.1.nm := by rw [nmAt_at hbl, ← hy]
        have ks := fun (W : World) (h1 : Hid (RdJ W A l)) (h2 : Hid (McOk W y.1 y.2)) (h3 : Hid (KtOk W t tl)) => rplan_any y.1 y.2 A n cap l t tl W hn hl h1 h2 h3 r' hr'
        have KS := Lib.hid ks; have HXo := Lib.hid hyo
        have hfin : chN L (some (b, mm, tp)) = y.1.nm ∧ chG L t tl l (some (b, mm, tp)) = namesAt l (r'.getD []) := ⟨hnb, by show namesAt l ((plansOf L t tl l b).getD []) = _; rw [hpl]⟩
        have HFin := Lib.hid hfin
        clear ks hpl hnb hyo hr' hm9 hy hfin
        go_wp2_with fail
        refine wp_region_held_drew (S := fun W => Below wr.heap.size wr W) (by kernel_rfl) (Below.drew (Below.refl _ _)) (fun hS0 => ?_)
        refine wpAnyH_take (i := 0) (v := ?_) rfl (by kernel_rfl) (by kernel_rfl) (by kernel_rfl) (fun _ _ _ h => h) (Or.inl ⟨by rfl, ?_⟩) hS0 ?_
        rotate_left
        · intro W _; go_simp; try with_reducible rfl
        try simp only [Act.put, List.getElem_toArray, List.getElem_cons_zero, List.setIfInBounds_toArray, List.set_cons_zero, List.set_cons_succ]
        refine wpAnyH_take (i := 1) (v := ?_) rfl (by kernel_rfl) (by kernel_rfl) (by kernel_rfl) (fun _ _ _ h => h) (Or.inl ⟨by rfl, ?_⟩) hS0 ?_
        rotate_left
        · intro W _; go_simp; try with_reducible rfl
        try simp only [Act.put, List.getElem_toArray, List.getElem_cons_zero, List.getElem_cons_succ, List.setIfInBounds_toArray, List.set_cons_zero, List.set_cons_succ]
        refine wpAnyH_take (i := 2) (v := ?_) rfl (by kernel_rfl) (by kernel_rfl) (by kernel_rfl) (fun _ _ _ h => h) (Or.inl ⟨by rfl, ?_⟩) hS0 ?_
        rotate_left
        · intro W _; go_simp; try with_reducible rfl
        try simp only [Act.put, List.getElem_toArray, List.getElem_cons_zero, List.getElem_cons_succ, List.setIfInBounds_toArray, List.set_cons_zero, List.set_cons_succ]
        refine wpAnyH_take (i := 3) (v := .agg y.1.arr) rfl (by kernel_rfl) (by kernel_rfl) (by kernel_rfl) (fun _ _ _ h => h) (yields_rg rfl 37 _ rfl g (o + b * 7) rfl y.1.arr _ (fun W hW => (HMt.out.later hW).rg) Try.underlying37 rfl (by kernel_rfl)) hS0 ?_
        try simp only [Act.put, List.getElem_toArray, List.getElem_cons_zero, List.getElem_cons_succ, List.setIfInBounds_toArray, List.set_cons_zero, List.set_cons_succ]
        refine wpAnyH_take (i := 4) (v := ?_) rfl (by kernel_rfl) (by kernel_rfl) (by kernel_rfl) (fun _ _ _ h => h) (Or.inl ⟨by rfl, ?_⟩) hS0 ?_
        rotate_left
        · intro W _; go_simp; try with_reducible rfl
        try simp only [Act.put, List.getElem_toArray, List.getElem_cons_zero, List.getElem_cons_succ, List.setIfInBounds_toArray, List.set_cons_zero, List.set_cons_succ]
        refine wpAnyH_take (i := 5) (v := .agg t.arr) rfl (by kernel_rfl) (by kernel_rfl) (by kernel_rfl) (fun _ _ _ h => h) (yields_bk rfl 28 _ rfl w.heap.size 0 rfl 28 t.arr t.arr _ (fun W hW => HTb.out.later hW) (Part.whole _) Try.underlying28 rfl (by kernel_rfl)) hS0 ?_
        try simp only [Act.put, List.getElem_toArray, List.getElem_cons_zero, List.getElem_cons_succ, List.setIfInBounds_toArray, List.set_cons_zero, List.set_cons_succ]
        refine wpAnyH_ready (rs := [6]) (by kernel_rfl) (by simp) ?_
        refine AllReadyH.cons rfl (fun K hK => ?_) AllReadyH.nil
        go_simp
        have hBS : Below w.heap.size w _ := hb.trans (hS0.mono hb.size)
        refine (KS.out _ (Lib.hid (hA.out.later hBS)) (Lib.hid (HXo.out.later hBS)) (Lib.hid (hT.out.later hBS))).mono ?_
        rintro v v1 ⟨⟨u, rfl, hO⟩, hbl⟩
        have HO := Lib.hid hO; clear hO
        have hzS := hBS.size
        go_simp
        refine hK.out _ _ (hS0.trans (hbl.mono hS0.size)) (fun hS1 => ?_)
        clear hK K hBS
        try simp only [Act.put, List.getElem_toArray, List.getElem_cons_zero, List.getElem_cons_succ, List.setIfInBounds_toArray, List.set_cons_zero, List.set_cons_succ]
        refine wpAnyH_take (i := 7) (v := ?_) rfl (by kernel_rfl) (by kernel_rfl) (by kernel_rfl) (fun _ _ _ h => h) (Or.inl ⟨by rfl, ?_⟩) hS1 ?_
        rotate_left
        · intro W _; go_simp; try with_reducible rfl
        try simp only [Act.put, List.getElem_toArray, List.getElem_cons_zero, List.getElem_cons_succ, List.setIfInBounds_toArray, List.set_cons_zero, List.set_cons_succ]
        refine wpAnyH_take (i := 8) (v := ?_) rfl (by kernel_rfl) (by kernel_rfl) (by kernel_rfl) (fun _ _ _ h => h) (Or.inl ⟨by rfl, ?_⟩) hS1 ?_
        rotate_left
        · intro W _; go_simp; try with_reducible rfl
        try simp only [Act.put, List.getElem_toArray, List.getElem_cons_zero, List.getElem_cons_succ, List.setIfInBounds_toArray, List.set_cons_zero, List.set_cons_succ]
        refine wpAnyH_take (i := 9) (v := ?_) rfl (by kernel_rfl) (by kernel_rfl) (by kernel_rfl) (fun _ _ _ h => h) (Or.inl ⟨by rfl, ?_⟩) hS1 ?_
        rotate_left
        · intro W _; go_simp; try with_reducible rfl
        try simp only [Act.put, List.getElem_toArray, List.getElem_cons_zero, List.getElem_cons_succ, List.setIfInBounds_toArray, List.set_cons_zero, List.set_cons_succ]
        refine wpAnyH_take (i := 10) (v := ?_) rfl (by kernel_rfl) (by kernel_rfl) (by kernel_rfl) (fun _ _ _ h => h) (Or.inl ⟨by rfl, ?_⟩) hS1 ?_
        rotate_left
        · intro W _; go_simp; try with_reducible rfl
        try simp only [Act.put, List.getElem_toArray, List.getElem_cons_zero, List.getElem_cons_succ, List.setIfInBounds_toArray, List.set_cons_zero, List.set_cons_succ]
        refine wpAnyH_take (i := 11) (v := ?_) rfl (by kernel_rfl) (by kernel_rfl) (by kernel_rfl) (fun _ _ _ h => h) (Or.inl ⟨by rfl, ?_⟩) hS1 ?_
        rotate_left
        · intro W _; go_simp; try with_reducible rfl
        try simp only [Act.put, List.getElem_toArray, List.getElem_cons_zero, List.getElem_cons_succ, List.setIfInBounds_toArray, List.set_cons_zero, List.set_cons_succ]
        refine wpAnyH_done (by kernel_rfl) ?_ _
        have hB1 : Below w.heap.size w v1 := hb.trans (hS1.mono hb.size)
        have cB : v1.cell? ⟨g, o + b * 7, none⟩ = some (.string y.1.nm) := (HMt.out.later hS1).nm
        have zg : g < v1.heap.size := (HMt.out.later hS1).lt
        go_wp2_with fail
        exact bodyPost_ret (v := .tuple #[.string y.1.nm, u, .bool true]) (by simp [results, Try.results14, go_sem]) rfl ⟨by rw [HFin.out.1, HFin.out.2]; exact ⟨_, rfl, HO.out.base hzS⟩, hB1⟩
end Go.Proofs.Ytpifleheammanaa

namespace Go.Proofs.Ytpifleheammanaa
open Go.RowKit
set_option linter.unusedSimpArgs false
set_option linter.unusedVariables false

section
variable {m : Mc} {ml : List Lb} {t : Kt} {tl : List Lb} {l l' : List Jb} {p q s : Int} {G : List Nat} {k : Nat}
/-- What a machine without room says. -/
theorem why_4 (h : why m ml t tl l = 4) : ∃ p q s, freM m l = (p, q, s, 0) ∧ m.ok ml = true ∧ t.ok tl = true ∧ m.up = true ∧ hasB ml tl = true ∧ rep m.nm t.ap t.nm l = false ∧ fB t.a t.b t.c p q s = false := by
  obtain ⟨f, hf⟩ : ∃ f, freM m l = f := ⟨_, rfl⟩
  obtain ⟨p, q, s, e⟩ := f
  unfold why whyT at h
  rw [hf] at h
  by_cases he : e = 0
  case neg => rw [if_neg he] at h; cases h
  subst he
  rw [if_pos rfl] at h
  refine ⟨p, q, s, hf, ?_⟩
  cases c1 : m.ok ml
  · rw [c1] at h; simp at h
  cases c2 : t.ok tl
  · rw [c1, c2] at h; simp at h
  cases c3 : m.up
  · rw [c1, c2, c3] at h; simp at h
  cases c4 : hasB ml tl
  · rw [c1, c2, c3, c4] at h; simp at h
  cases c5 : rep m.nm t.ap t.nm l
  case true => rw [c1, c2, c3, c4, c5] at h; simp at h
  cases c6 : fB t.a t.b t.c p q s
  · exact ⟨rfl, rfl, rfl, rfl, rfl, rfl⟩
  · rw [c1, c2, c3, c4, c5] at h; simp [c6] at h
theorem why_4mk (h1 : freM m l = (p, q, s, 0)) (h2 : m.ok ml = true) (h3 : t.ok tl = true) (h4 : m.up = true) (h5 : hasB ml tl = true) (h6 : rep m.nm t.ap t.nm l = false) (h7 : fB t.a t.b t.c p q s = false) : why m ml t tl l = 4 := by
  unfold why whyT
  rw [h1, h2, h3, h4, h5, h6, if_pos rfl]
  simp [h7]
theorem rep_less (h : rep m.nm t.ap t.nm l = false) (hs : l'.Sublist l) : rep m.nm t.ap t.nm l' = false := by
  cases hr : rep m.nm t.ap t.nm l'
  · rfl
  · unfold rep at hr h
    rw [Bool.and_eq_true, List.any_eq_true] at hr
    obtain ⟨hr1, j, hj, hb⟩ := hr
    rw [hr1, Bool.true_and, List.any_eq_false] at h
    exact absurd hb (h j (hs.subset hj))

/-! ### Jobs but those at some places -/
theorem jat_map (l : List Jb) : (List.range l.length).map (jat l) = l := by
  apply List.ext_getElem (by simp)
  intro i h1 h2
  simp only [List.getElem_map, List.getElem_range]
  exact jat_at h2
theorem outJ_nil (l : List Jb) : outJ [] l l.length = l := by
  unfold outJ
  rw [List.filter_eq_self.2 (by simp)]
  exact jat_map l
theorem outJ_mono {G G' : List Nat} (h : ∀ i ∈ G, i ∈ G') (l : List Jb) (k : Nat) : (outJ G' l k).Sublist (outJ G l k) := by
  unfold outJ
  refine List.Sublist.map _ ?_
  have e : (List.range k).filter (fun i => !(G'.contains i)) = ((List.range k).filter (fun i => !(G.contains i))).filter (fun i => !(G'.contains i)) := by
    rw [List.filter_filter]
    refine List.filter_congr fun i _ => ?_
    cases h1 : G'.contains i
    · cases h2 : G.contains i
      · rfl
      · rw [List.contains_iff_mem] at h2
        have := h i h2
        rw [← List.contains_iff_mem, h1] at this; cases this
    · rfl
  rw [e]
  exact List.filter_sublist
theorem outJ_sub (G : List Nat) (l : List Jb) : (outJ G l l.length).Sublist l := by
  have h := outJ_mono (G := []) (G' := G) (fun i hi => by cases hi) l l.length
  rwa [outJ_nil] at h

/-! ### Plans -/
theorem okK_0 (h : why m ml t tl l = 4) {W : List Nat} (ho : okK m t l W k = true) : why m ml t tl (outJ (W.take k) l l.length) = 0 := by
  obtain ⟨p, q, s, hf, h1, h2, h3, h4, h5, h6⟩ := why_4 h
  obtain ⟨p', q', s', hf', g1, g2, g3⟩ := freM_less hf (outJ_sub (W.take k) l)
  unfold okK at ho
  rw [hf'] at ho
  rw [Bool.and_eq_true] at ho
  exact why_mk hf' h1 h2 h3 h4 (rep_less h5 (outJ_sub _ _)) ho.2
theorem okK_4 (h : why m ml t tl l = 4) {W : List Nat} (ho : okK m t l W k = false) : why m ml t tl (outJ (W.take k) l l.length) = 4 := by
  obtain ⟨p, q, s, hf, h1, h2, h3, h4, h5, h6⟩ := why_4 h
  obtain ⟨p', q', s', hf', g1, g2, g3⟩ := freM_less hf (outJ_sub (W.take k) l)
  unfold okK at ho
  rw [hf'] at ho
  simp only [decide_true, Bool.true_and] at ho
  exact why_4mk hf' h1 h2 h3 h4 (rep_less h5 (outJ_sub _ _)) ho
theorem fewest_min {p : Nat → Bool} : ∀ {f k r : Nat}, fewest p f k = some r → ∀ i, k ≤ i → i < r → p i = false
  | 0, k, r, h => by simp [fewest] at h
  | f + 1, k, r, h => by
    rw [fewest] at h
    split at h
    · injection h with h; subst h; intro i h1 h2; omega
    · rename_i hp
      intro i h1 h2
      by_cases e : i = k
      · subst e; simpa using hp
      · exact fewest_min h i (by omega) h2
theorem fewest_some {p : Nat → Bool} : ∀ {f k r : Nat}, k ≤ r → r < k + f → p r = true → ∃ x, fewest p f k = some x
  | 0, k, r, h1, h2, _ => by omega
  | f + 1, k, r, h1, h2, hp => by
    rw [fewest]
    split
    · exact ⟨_, rfl⟩
    · rename_i hk
      refine fewest_some (r := r) ?_ (by omega) hp
      by_cases e : k = r
      · subst e; exact absurd hp hk
      · omega
/-- What a plan is. -/
theorem places_is (h : places m ml t tl l = some G) : (why m ml t tl l = 0 ∧ G = []) ∨ ∃ k, why m ml t tl l = 4 ∧ 1 ≤ k ∧ k ≤ (weak m t l l.length).length ∧ G = (weak m t l l.length).take k ∧ okK m t l (weak m t l l.length) k = true ∧ ∀ i, 1 ≤ i → i < k → okK m t l (weak m t l l.length) i = false := by
  unfold places at h
  split at h
  · rename_i h0
    injection h with h
    exact .inl ⟨h0, h.symm⟩
  · split at h
    · rename_i h4
      rw [Option.map_eq_some_iff] at h
      obtain ⟨k, hk, rfl⟩ := h
      obtain ⟨h1, h2, h3⟩ := fewest_le hk
      exact .inr ⟨k, h4, h1, by omega, rfl, h3, fewest_min hk⟩
    · cases h
theorem places_none (h : places m ml t tl l = none) : why m ml t tl l ≠ 0 := by
  intro h0
  unfold places at h
  rw [if_pos h0] at h
  cases h
theorem plan_room (h : places m ml t tl l = some G) : why m ml t tl (outJ G l l.length) = 0 := by
  rcases places_is h with ⟨h0, rfl⟩ | ⟨k, h4, _, _, rfl, hk, _⟩
  · rwa [outJ_nil]
  · exact okK_0 h4 hk
theorem plan_last (h : places m ml t tl l = some G) (hG : G ≠ []) : why m ml t tl (outJ G.dropLast l l.length) = 4 := by
  rcases places_is h with ⟨h0, rfl⟩ | ⟨k, h4, h1, h2, rfl, _, hm⟩
  · exact absurd rfl hG
  · have e : ((weak m t l l.length).take k).dropLast = (weak m t l l.length).take (k - 1) := by
      rw [List.dropLast_eq_take, List.length_take, List.take_take]
      congr 1
      omega
    rw [e]
    by_cases hk : k = 1
    · subst hk
      rw [List.take_zero, outJ_nil]; exact h4
    · exact okK_4 h4 (hm (k - 1) (by omega) (by omega))
theorem plan_each (h : places m ml t tl l = some G) : ∀ i ∈ G, i < l.length ∧ (jat l i).nd = m.nm ∧ (jat l i).pr < t.pr := by
  intro i hi
  refine ⟨places_lt h i hi, ?_⟩
  rcases places_is h with ⟨h0, rfl⟩ | ⟨k, h4, h1, h2, rfl, _, hm⟩
  · cases hi
  · have := wk_ok _ i (List.mem_of_mem_take hi)
    unfold wkC at this
    rw [Bool.and_eq_true, sE_iff, decide_eq_true_eq] at this
    exact this
end

/-! ### By names -/
/-- Jobs but those of these names. -/
def outN (ns : List ByteArray) (l : List Jb) : List Jb := l.filter fun j => !(ns.any fun s => sE s j.nm)
/-- No two have one name. -/
def Unlike (l : List Jb) : Prop := ∀ i k, i < l.length → k < i → (jat l i).nm ≠ (jat l k).nm
theorem Unlike.inj {l : List Jb} (h : Unlike l) {i k : Nat} (hi : i < l.length) (hk : k < l.length) (e : (jat l i).nm = (jat l k).nm) : i = k := by
  rcases Nat.lt_trichotomy i k with c | c | c
  · exact absurd e.symm (h k i hk c)
  · exact c
  · exact absurd e (h i k hi c)
theorem outN_names {l : List Jb} (h : Unlike l) {G : List Nat} (hG : ∀ i ∈ G, i < l.length) : outN (namesAt l G) l = outJ G l l.length := by
  unfold outJ
  have e : outN (namesAt l G) l = outN (namesAt l G) ((List.range l.length).map (jat l)) := by rw [jat_map]
  rw [e]
  unfold outN
  rw [List.filter_map]
  congr 1
  refine List.filter_congr fun i hi => ?_
  have hi' : i < l.length := List.mem_range.1 hi
  simp only [Function.comp]
  congr 1
  rw [Bool.eq_iff_iff, List.any_eq_true, List.contains_iff_mem]
  constructor
  · rintro ⟨s, hs, he⟩
    unfold namesAt at hs
    rw [List.mem_map] at hs
    obtain ⟨k, hk, rfl⟩ := hs
    have := h.inj (hG k hk) hi' (sE_iff.1 he)
    rwa [← this]
  · intro hi2
    exact ⟨(jat l i).nm, List.mem_map.2 ⟨i, hi2, rfl⟩, sE_refl _⟩
end Go.Proofs.Ytpifleheammanaa

namespace Go.Proofs.Ytpifleheammanaa
open Go.RowKit
set_option linter.unusedSimpArgs false
set_option linter.unusedVariables false

section
variable {a b c : Jb}
theorem goB_iff : goB a b = true ↔ a.pr < b.pr ∨ (a.pr = b.pr ∧ b.sq < a.sq) := by unfold goB; simp
theorem goB_no : goB a b = false ↔ ¬ (a.pr < b.pr) ∧ (a.pr = b.pr → ¬ b.sq < a.sq) := by unfold goB; simp
theorem goB_irrefl (a : Jb) : goB a a = false := by rw [goB_no]; omega
theorem goB_asymm (h : goB a b = true) : goB b a = false := by rw [goB_iff] at h; rw [goB_no]; omega
theorem goB_trans (h : goB a b = true) (k : goB b c = true) : goB a c = true := by rw [goB_iff] at *; omega
theorem goB_ntrans (h : goB a b = false) (k : goB b c = false) : goB a c = false := by rw [goB_no] at *; omega
theorem goB_total (h : a.sq ≠ b.sq) : goB a b = true ∨ goB b a = true := by rw [goB_iff, goB_iff]; omega
end

/-! ### Put into place one by one -/
section
variable {c : Nat → Bool} {ah : Nat → Nat → Bool}
theorem insB_perm (p : Nat → Bool) (x : Nat) (l : List Nat) : (insB p x l).Perm (x :: l) := by
  unfold insB
  refine List.perm_middle.trans (List.Perm.cons x ?_)
  rw [← List.reverse_append, List.takeWhile_append_dropWhile, List.reverse_reverse]
theorem wk_perm : ∀ k, (wk c ah k).Perm ((List.range k).filter c)
  | 0 => by simp [wk_zero]
  | k + 1 => by
    rw [List.range_succ, List.filter_append, wk_succ]
    have ih := wk_perm k
    cases hc : c k
    · simp [hc]; exact ih
    · simp only [hc, if_true, List.filter_cons_of_pos, List.filter_nil]
      refine (insB_perm _ _ _).trans ((List.Perm.cons k ih).trans ?_)
      exact (List.perm_append_singleton k _).symm
theorem insB_fore (has : ∀ u v, ah u v = true → ah v u = false) (hnt : ∀ u v w, ah u v = false → ah v w = false → ah u w = false) {x : Nat} {l : List Nat} (h : l.Pairwise (Fore ah)) (hx : ∀ y ∈ l, y < x) : (insB (ah x) x l).Pairwise (Fore ah) := by
  unfold insB
  have hl : l = (l.reverse.dropWhile (ah x)).reverse ++ (l.reverse.takeWhile (ah x)).reverse := by
    rw [← List.reverse_append, List.takeWhile_append_dropWhile, List.reverse_reverse]
  have h' := h
  rw [hl, List.pairwise_append] at h'
  obtain ⟨h1, h2, h3⟩ := h'
  have hr : ∀ v ∈ (l.reverse.takeWhile (ah x)).reverse, ah x v = true := by
    intro v hv
    rw [List.mem_reverse] at hv
    have := List.all_takeWhile (p := ah x) (l := l.reverse)
    rw [List.all_eq_true] at this
    exact this v hv
  have hlft : ∀ u ∈ (l.reverse.dropWhile (ah x)).reverse, ah x u = false := by
    cases hq : l.reverse.dropWhile (ah x) with
    | nil => intro u hu; simp at hu
    | cons z r =>
      have hz : ah x z = false := by
        have := List.head_dropWhile_not (ah x) (l := l.reverse) (by rw [hq]; simp)
        simpa [hq] using this
      rw [hq, List.reverse_cons, List.pairwise_append] at h1
      intro u hu
      rw [List.reverse_cons] at hu
      rcases List.mem_append.1 hu with hu | hu
      · have := h1.2.2 u hu z (by simp)
        rcases this with h | ⟨h, _⟩
        · exact hnt x z u hz (has u z h)
        · exact hnt x z u hz h
      · simp at hu; subst hu; exact hz
  have hxl : ∀ u ∈ (l.reverse.dropWhile (ah x)).reverse, u < x := fun u hu => hx u (by rw [hl]; exact List.mem_append.2 (.inl hu))
  rw [List.pairwise_append]
  refine ⟨h1, List.pairwise_cons.2 ⟨fun v hv => .inl (hr v hv), h2⟩, ?_⟩
  intro u hu v hv
  rcases List.mem_cons.1 hv with rfl | hv
  · exact .inr ⟨hlft u hu, hxl u hu⟩
  · exact h3 u hu v hv
theorem wk_fore (has : ∀ u v, ah u v = true → ah v u = false) (hnt : ∀ u v w, ah u v = false → ah v w = false → ah u w = false) : ∀ k, (wk c ah k).Pairwise (Fore ah)
  | 0 => by simp [wk_zero]
  | k + 1 => by
    rw [wk_succ]
    split
    · exact insB_fore has hnt (wk_fore has hnt k) (wk_lt k)
    · exact wk_fore has hnt k
theorem wk_nodup (k : Nat) : (wk c ah k).Nodup := (wk_perm k).nodup_iff.2 (List.Nodup.sublist List.filter_sublist List.nodup_range)
end

/-! ### The weaker jobs -/
section
variable {m : Mc} {t : Kt} {l : List Jb}
/-- Does this job have to go for the task, if one has to? -/
def wkJ (m : Mc) (t : Kt) (j : Jb) : Bool := sE j.nd m.nm && decide (j.pr < t.pr)
theorem wkC_is (i : Nat) : wkC m t l i = wkJ m t (jat l i) := rfl
theorem weak_perm (m : Mc) (t : Kt) (l : List Jb) (k : Nat) : (weak m t l k).Perm ((List.range k).filter (wkC m t l)) := wk_perm k
theorem weak_fore (m : Mc) (t : Kt) (l : List Jb) (k : Nat) : (weak m t l k).Pairwise (Fore fun i y => goB (jat l i) (jat l y)) := wk_fore (ah := fun i y => goB (jat l i) (jat l y)) (fun u v h => goB_asymm h) (fun u v w h k => goB_ntrans h k) k
theorem weak_one {k : Nat} {W : List Nat} (h1 : W.Pairwise (Fore fun i y => goB (jat l i) (jat l y))) (h2 : W.Perm ((List.range k).filter (wkC m t l))) : W = weak m t l k :=
  fore_one (ah := fun i y => goB (jat l i) (jat l y)) (fun u v h => goB_asymm h) h1 (weak_fore m t l k) (h2.trans (weak_perm m t l k).symm)
theorem weak_nodup (k : Nat) : (weak m t l k).Nodup := wk_nodup k
/-- The jobs themselves. -/
def weakJ (m : Mc) (t : Kt) (l : List Jb) : List Jb := (weak m t l l.length).map (jat l)
theorem filter_jat (p : Jb → Bool) (l : List Jb) : ((List.range l.length).filter fun i => p (jat l i)).map (jat l) = l.filter p := by
  have e : l.filter p = ((List.range l.length).map (jat l)).filter p := by rw [jat_map]
  rw [e, List.filter_map]; rfl
theorem weakJ_perm (m : Mc) (t : Kt) (l : List Jb) : (weakJ m t l).Perm (l.filter (wkJ m t)) := by
  unfold weakJ
  rw [← filter_jat]
  exact (weak_perm m t l l.length).map _
theorem weakJ_len : (weakJ m t l).length = (weak m t l l.length).length := by simp [weakJ]
/-- No two have one number. -/
def Uneq (l : List Jb) : Prop := l.Pairwise fun a b => a.sq ≠ b.sq
theorem weakJ_go (h : Uneq l) : (weakJ m t l).Pairwise fun a b => goB a b = true := by
  unfold weakJ
  rw [List.pairwise_map]
  have hn := weak_nodup (m := m) (t := t) (l := l) l.length
  have hf := weak_fore m t l l.length
  have hlt : ∀ i ∈ weak m t l l.length, i < l.length := wk_lt _
  refine List.Pairwise.imp_of_mem ?_ (hf.and hn)
  rintro u v hu hv ⟨h1 | ⟨h1, h2⟩, h3⟩
  · exact h1
  · have hu' := hlt u hu
    have hv' := hlt v hv
    have := List.pairwise_iff_getElem.1 h u v hu' hv' h2
    rw [← jat_at hu', ← jat_at hv'] at this
    rcases goB_total this with k | k
    · exact k
    · simp only [k] at h1; cases h1
theorem go_one : ∀ {E F : List Jb}, (E.Pairwise fun a b => goB a b = true) → (F.Pairwise fun a b => goB a b = true) → E.Perm F → E = F
  | [], F, _, _, h => h.nil_eq
  | x :: E, [], _, _, h => by have := h.length_eq; simp at this
  | x :: E, y :: F, h1, h2, h => by
    rw [List.pairwise_cons] at h1 h2
    have hx : x ∈ y :: F := h.subset (by simp)
    have hy : y ∈ x :: E := h.symm.subset (by simp)
    have e : x = y := by
      rcases List.mem_cons.1 hx with hx | hx
      · exact hx
      · rcases List.mem_cons.1 hy with hy | hy
        · exact hy.symm
        · have := goB_asymm (h1.1 y hy)
          rw [h2.1 x hx] at this; cases this
    subst e
    rw [go_one h1.2 h2.2 ((List.perm_cons x).1 h)]
theorem Uneq.reverse (h : Uneq l) : Uneq l.reverse := by
  unfold Uneq
  rw [List.pairwise_reverse]
  exact h.imp fun hab => Ne.symm hab
/-- In the other order the same jobs go, in the same order. -/
theorem weakJ_rev (h : Uneq l) : weakJ m t l.reverse = weakJ m t l := by
  refine go_one (weakJ_go h.reverse) (weakJ_go h) ((weakJ_perm m t _).trans (List.Perm.trans ?_ (weakJ_perm m t l).symm))
  exact (List.reverse_perm l).filter _
/-- What stays, with what goes, is all. -/
theorem outJ_perm {G : List Nat} (hn : G.Nodup) (hG : ∀ i ∈ G, i < l.length) : (outJ G l l.length ++ G.map (jat l)).Perm l := by
  have h1 : ((List.range l.length).filter (fun i => !(G.contains i)) ++ G).Perm (List.range l.length) := by
    have h2 : G.Perm ((List.range l.length).filter fun i => G.contains i) := by
      refine (List.perm_ext_iff_of_nodup hn (List.Nodup.sublist List.filter_sublist List.nodup_range)).2 fun i => ?_
      rw [List.mem_filter, List.mem_range, List.contains_iff_mem]
      exact ⟨fun h => ⟨hG i h, h⟩, fun h => h.2⟩
    refine (List.Perm.append_left _ h2).trans ?_
    refine List.perm_append_comm.trans ?_
    exact List.filter_append_perm _ _
  have h3 := h1.map (jat l)
  rw [List.map_append, jat_map] at h3
  exact h3
end
end Go.Proofs.Ytpifleheammanaa

namespace Go.Proofs.Ytpifleheammanaa
open Go.RowKit
set_option linter.unusedSimpArgs false
set_option linter.unusedVariables false

/-- This task, of this Prio. -/
abbrev Kt.of (t : Kt) (p : Int) : Kt := ⟨t.nm, t.qu, p, t.a, t.b, t.c, t.A, t.n, t.cp, t.ap, t.ga, t.sz⟩
theorem okOf {w : World} {t : Kt} {tl : List Lb} (h : KtOk w t tl) (p : Int) : KtOk w (t.of p) tl := ⟨h.nm, h.qu, h.ap, h.ga, h.lb⟩
section
variable {m : Mc} {ml : List Lb} {t : Kt} {tl : List Lb} {l : List Jb} {p : Int}
theorem of_ok (h : t.ok tl = true) (h0 : 0 ≤ p) (h9 : p ≤ 9) : (t.of p).ok tl = true := by
  unfold Kt.ok taskB at h ⊢
  simp only [Bool.and_eq_true, decide_eq_true_eq] at h ⊢
  exact ⟨⟨⟨⟨⟨⟨⟨h.1.1.1.1.1.1.1, h.1.1.1.1.1.1.2⟩, h0⟩, h9⟩, h.1.1.1.2⟩, h.1.1.2⟩, h.1.2⟩, h.2⟩
theorem ok_pr (h : t.ok tl = true) : t.pr ≤ 9 := by
  unfold Kt.ok taskB at h
  simp only [Bool.and_eq_true, decide_eq_true_eq] at h
  exact h.1.1.1.1.2
theorem why_of0 (h : why m ml t tl l = 0) (h0 : 0 ≤ p) (h9 : p ≤ 9) : why m ml (t.of p) tl l = 0 := by
  obtain ⟨a, b, c, hf, h1, h2, h3, h4, h5, h6⟩ := why_0 h
  exact why_mk hf h1 (of_ok h2 h0 h9) h3 h4 h5 h6
theorem why_of4 (h : why m ml t tl l = 4) (h0 : 0 ≤ p) (h9 : p ≤ 9) : why m ml (t.of p) tl l = 4 := by
  obtain ⟨a, b, c, hf, h1, h2, h3, h4, h5, h6⟩ := why_4 h
  exact why_4mk hf h1 (of_ok h2 h0 h9) h3 h4 h5 h6
/-- For a task of Prio 0. -/
theorem low_plan (hl : ∀ j ∈ l, 0 ≤ j.pr) : places m ml (t.of 0) tl l = if why m ml (t.of 0) tl l = 0 then some [] else none := by
  have hw : weak m (t.of 0) l l.length = [] := by
    refine List.Perm.eq_nil ((weak_perm m (t.of 0) l l.length).trans ?_)
    rw [List.filter_eq_nil_iff.2]
    intro i hi
    have hi' : i < l.length := List.mem_range.1 hi
    have h1 := hl (jat l i) (by rw [jat_at hi']; exact List.getElem_mem hi')
    have h2 : decide ((jat l i).pr < 0) = false := by rw [decide_eq_false_iff_not]; omega
    unfold wkC
    rw [show (t.of 0).pr = 0 from rfl, h2, Bool.and_false]; simp
  unfold places
  rw [hw]
  by_cases h0 : why m ml (t.of 0) tl l = 0
  · rw [if_pos h0, if_pos h0]
  · rw [if_neg h0, if_neg h0]
    split <;> rfl
/-- For one of the highest Prio. -/
theorem high_plan (h : (places m ml t tl l).isSome = true) : (places m ml (t.of 9) tl l).isSome = true := by
  obtain ⟨G, hG⟩ := Option.isSome_iff_exists.1 h
  rcases places_is hG with ⟨h0, _⟩ | ⟨k, h4, h1, h2, _, hk, _⟩
  · unfold places
    rw [if_pos (why_of0 h0 (by omega) (by omega))]; rfl
  · have h4' := why_of4 (p := 9) h4 (by omega) (by omega)
    obtain ⟨a, b, c, hf, g1, g2, g3, g4, g5, g6⟩ := why_4 h4
    have hsub : ∀ i ∈ (weak m t l l.length).take k, i ∈ weak m (t.of 9) l l.length := by
      intro i hi
      have hi2 := List.mem_of_mem_take hi
      have hm := (weak_perm m t l l.length).subset hi2
      refine (weak_perm m (t.of 9) l l.length).symm.subset ?_
      rw [List.mem_filter] at hm ⊢
      refine ⟨hm.1, ?_⟩
      have h3 := hm.2
      unfold wkC at h3 ⊢
      simp only [Bool.and_eq_true, decide_eq_true_eq] at h3 ⊢
      have := ok_pr g2
      exact ⟨h3.1, by omega⟩
    obtain ⟨W, hW⟩ : ∃ W, weak m (t.of 9) l l.length = W := ⟨_, rfl⟩
    have hlen : k ≤ W.length := by
      have h5 : ((weak m t l l.length).take k).length ≤ W.length := by
        rw [hW] at hsub
        exact ((weak_nodup (m := m) (t := t) (l := l) l.length).sublist (List.take_sublist _ _)).length_le_of_subset hsub
      rw [List.length_take] at h5; omega
    have hok : okK m (t.of 9) l W W.length = true := by
      have h6 := hk
      unfold okK at h6 ⊢
      rw [Bool.and_eq_true, decide_eq_true_eq] at h6
      obtain ⟨e0, e1⟩ := h6
      obtain ⟨f, hf1⟩ : ∃ f, freM m (outJ ((weak m t l l.length).take k) l l.length) = f := ⟨_, rfl⟩
      obtain ⟨p1, q1, s1, v1⟩ := f
      rw [hf1] at e0 e1
      simp only at e0 e1
      subst e0
      obtain ⟨p2, q2, s2, hf2, k1, k2, k3⟩ := freM_less hf1 (outJ_mono (G := (weak m t l l.length).take k) (G' := W.take W.length) (by rw [List.take_length, ← hW]; exact hsub) l l.length)
      rw [hf2]
      have := fB_bd e1
      simp only [decide_true, Bool.true_and]
      exact fB_mk (by omega)
    unfold places
    rw [if_neg (by rw [h4']; omega), if_pos h4', hW]
    obtain ⟨x, hx⟩ := fewest_some (p := okK m (t.of 9) l W) (f := W.length) (k := 1) (r := W.length) (by omega) (by omega) hok
    rw [hx]; rfl
end
end Go.Proofs.Ytpifleheammanaa

namespace Go.Proofs.Ytpifleheammanaa
open Go.RowKit
set_option linter.unusedSimpArgs false
set_option linter.unusedVariables false

section
variable {pl : Nat → Option (List Nat)} {l : List Jb} {L : List Ml} {k i : Nat} {g g' g'' : Nat} {a a' a'' : Int}
theorem betr_iff {b m : Nat} {tp : Int} : betr L k g a (some (b, m, tp)) = true ↔ g < m ∨ (g = m ∧ (a < tp ∨ (a = tp ∧ sL (nmAt L k) (nmAt L b) = true))) := by rw [betr_some]; simp
theorem betr_not {b m : Nat} {tp : Int} : betr L k g a (some (b, m, tp)) = false ↔ ¬ g < m ∧ (g = m → ¬ a < tp ∧ (a = tp → sL (nmAt L k) (nmAt L b) = false)) := by
  rw [betr_some]; simp
theorem betr_self (L : List Ml) (k g : Nat) (a : Int) : betr L k g a (some (k, g, a)) = false := by
  rw [betr_not]; exact ⟨by omega, fun _ => ⟨by omega, fun _ => sL_irrefl _⟩⟩
theorem sL_not {x y z : ByteArray} (h1 : sL x y = false) (h2 : sL z y = true) : sL x z = false := by
  cases h : sL x z
  · rfl
  · rw [sL_trans h h2] at h1; cases h1
/-- One that is no better than the elder choice is no better than the new one. -/
theorem betr_keep {j b m : Nat} {tp : Int} (h1 : betr L j g' a' (some (b, m, tp)) = false) (h2 : betr L k g a (some (b, m, tp)) = true) : betr L j g' a' (some (k, g, a)) = false := by
  rw [betr_not] at h1 ⊢
  rw [betr_iff] at h2
  obtain ⟨n1, n2⟩ := h1
  rcases h2 with h2 | ⟨e1, h2⟩
  · exact ⟨by omega, fun e => by omega⟩
  · subst e1
    refine ⟨n1, fun e => ?_⟩
    obtain ⟨n3, n4⟩ := n2 e
    rcases h2 with h2 | ⟨e2, h2⟩
    · exact ⟨by omega, fun e3 => by omega⟩
    · subst e2
      exact ⟨n3, fun e3 => sL_not (n4 e3) h2⟩
theorem cho_none : ∀ {k : Nat}, cho pl l L k = none → ∀ i, i < k → pl i = none
  | 0, h, i, hi => by omega
  | k + 1, h, i, hi => by
    cases hp : pl k with
    | none =>
      rw [cho_no hp] at h
      by_cases e : i = k
      · subst e; exact hp
      · exact cho_none h i (by omega)
    | some G =>
      rw [cho_yes hp] at h
      split at h
      · cases h
      · rename_i hb
        rw [h] at hb
        exact absurd rfl hb
/-- What the chosen one is. -/
theorem cho_is : ∀ {k : Nat} {x : Ch}, cho pl l L k = some x → (∃ G, pl x.1 = some G ∧ x.2.1 = G.length ∧ x.2.2 = lastP l G ∧ x.1 < k) ∧ ∀ i, i < k → ∀ G', pl i = some G' → betr L i G'.length (lastP l G') (some x) = false
  | 0, x, h => by simp [cho] at h
  | k + 1, x, h => by
    cases hp : pl k with
    | none =>
      rw [cho_no hp] at h
      obtain ⟨⟨G, h1, h2, h3, h4⟩, h5⟩ := cho_is h
      refine ⟨⟨G, h1, h2, h3, by omega⟩, fun i hi G' hG' => ?_⟩
      by_cases e : i = k
      · subst e; rw [hp] at hG'; cases hG'
      · exact h5 i (by omega) G' hG'
    | some G =>
      rw [cho_yes hp] at h
      split at h
      · rename_i hb
        injection h with h; subst h
        refine ⟨⟨G, hp, rfl, rfl, by simp⟩, fun i hi G' hG' => ?_⟩
        by_cases e : i = k
        · subst e; rw [hp] at hG'; injection hG' with hG'; subst hG'; exact betr_self _ _ _ _
        · cases ho : cho pl l L k with
          | none => exact absurd hG' (by rw [cho_none ho i (by omega)]; simp)
          | some y =>
            rw [ho] at hb
            exact betr_keep ((cho_is ho).2 i (by omega) G' hG') hb
      · rename_i hb
        obtain ⟨⟨G0, h1, h2, h3, h4⟩, h5⟩ := cho_is h
        refine ⟨⟨G0, h1, h2, h3, by omega⟩, fun i hi G' hG' => ?_⟩
        by_cases e : i = k
        · subst e; rw [hp] at hG'; injection hG' with hG'; subst hG'
          rw [h] at hb
          simpa using hb
        · exact h5 i (by omega) G' hG'
end
end Go.Proofs.Ytpifleheammanaa

namespace Go.Proofs.Ytpifleheammanaa
open Go.RowKit
set_option linter.unusedSimpArgs false
set_option linter.unusedVariables false

/-! ### Sums in another order -/
theorem s_perm {l m : List V3} (h : l.Perm m) : s1 l = s1 m ∧ s2 l = s2 m ∧ s3 l = s3 m := by
  induction h with
  | nil => exact ⟨rfl, rfl, rfl⟩
  | cons x _ ih => rw [s1_cons, s2_cons, s3_cons, s1_cons, s2_cons, s3_cons, ih.1, ih.2.1, ih.2.2]; exact ⟨rfl, rfl, rfl⟩
  | swap x y l => simp only [s1_cons, s2_cons, s3_cons]; refine ⟨?_, ?_, ?_⟩ <;> omega
  | trans _ _ i1 i2 => exact ⟨i1.1.trans i2.1, i1.2.1.trans i2.2.1, i1.2.2.trans i2.2.2⟩
theorem sm_val : ∀ {l : List V3} {p q r : Int}, rB p q r = true → allR l → sm p q r l = if rB (p + s1 l) (q + s2 l) (r + s3 l) then (p + s1 l, q + s2 l, r + s3 l, 0) else (0, 0, 0, 6)
  | [], p, q, r, h, _ => by simp [sm, s1, s2, s3, h]
  | u :: l, p, q, r, h, ha => by
    have hu := ha u (by simp)
    have hl : allR l := fun x hx => ha x (by simp [hx])
    have ge := allR_ge hl
    cases hs : adB p q r u.1 u.2.1 u.2.2
    · rw [sm_no hs, adE_over h hu hs]
      have hn : rB (p + u.1) (q + u.2.1) (r + u.2.2) = false := by
        unfold adB at hs
        rw [h, hu] at hs; simpa using hs
      have hn2 : rB (p + s1 (u :: l)) (q + s2 (u :: l)) (r + s3 (u :: l)) = false := by
        cases hc : rB (p + s1 (u :: l)) (q + s2 (u :: l)) (r + s3 (u :: l))
        · rfl
        · have b1 := rB_bd hc
          have b2 := rB_bd h
          have b3 := rB_bd hu
          rw [s1_cons, s2_cons, s3_cons] at b1
          rw [rB_mk (by omega)] at hn; cases hn
      rw [hn2]; rfl
    · rw [sm_ok hs]
      have hn : rB (p + u.1) (q + u.2.1) (r + u.2.2) = true := by
        unfold adB at hs
        rw [h, hu] at hs; simpa using hs
      rw [sm_val hn hl, s1_cons, s2_cons, s3_cons, Int.add_assoc, Int.add_assoc, Int.add_assoc]
section
variable {m : Mc} {ml : List Lb} {t : Kt} {tl : List Lb} {l l1 l2 : List Jb}
/-- All of these need what can be. -/
def okNeeds (l : List Jb) : Prop := ∀ j ∈ l, rB j.a j.b j.c = true
theorem freM_perm (h : l1.Perm l2) (hk : okNeeds l1) : freM m l1 = freM m l2 := by
  have hp : (onM m.nm l1).Perm (onM m.nm l2) := (h.filter _).map _
  have ha1 : allR (onM m.nm l1) := by
    intro u hu
    unfold onM at hu
    rw [List.mem_map] at hu
    obtain ⟨j, hj, rfl⟩ := hu
    exact hk j (List.mem_filter.1 hj).1
  have ha2 : allR (onM m.nm l2) := fun u hu => ha1 u (hp.symm.subset hu)
  have e : sm 0 0 0 (onM m.nm l1) = sm 0 0 0 (onM m.nm l2) := by
    rw [sm_val (by decide) ha1, sm_val (by decide) ha2]
    obtain ⟨e1, e2, e3⟩ := s_perm hp
    rw [e1, e2, e3]
  unfold freM
  rw [e]
theorem rep_perm {s ap nm : ByteArray} (h : l1.Perm l2) : rep s ap nm l1 = rep s ap nm l2 := by
  unfold rep
  congr 1
  rw [Bool.eq_iff_iff, List.any_eq_true, List.any_eq_true]
  exact ⟨fun ⟨j, hj, hb⟩ => ⟨j, h.subset hj, hb⟩, fun ⟨j, hj, hb⟩ => ⟨j, h.symm.subset hj, hb⟩⟩
theorem why_perm (h : l1.Perm l2) (hk : okNeeds l1) : why m ml t tl l1 = why m ml t tl l2 := by
  unfold why
  rw [freM_perm h hk, rep_perm h]

/-! ### Jobs in the other order -/
theorem weak_take (m : Mc) (t : Kt) (l : List Jb) (k : Nat) : ((weak m t l l.length).take k).map (jat l) = (weakJ m t l).take k := by unfold weakJ; rw [List.map_take]
theorem stay_perm (m : Mc) (t : Kt) (l : List Jb) (k : Nat) : (outJ ((weak m t l l.length).take k) l l.length ++ (weakJ m t l).take k).Perm l := by
  rw [← weak_take]
  exact outJ_perm ((weak_nodup l.length).sublist (List.take_sublist _ _)) (fun i hi => wk_lt _ i (List.mem_of_mem_take hi))
theorem okK_rev (h : Uneq l) (hk : okNeeds l) (k : Nat) : okK m t l.reverse (weak m t l.reverse l.reverse.length) k = okK m t l (weak m t l l.length) k := by
  have h1 := stay_perm m t l k
  have h2 := stay_perm m t l.reverse k
  rw [weakJ_rev h] at h2
  have h3 : (outJ ((weak m t l.reverse l.reverse.length).take k) l.reverse l.reverse.length).Perm (outJ ((weak m t l l.length).take k) l l.length) :=
    (List.perm_append_right_iff _).1 ((h2.trans (List.reverse_perm l)).trans h1.symm)
  have h4 : okNeeds (outJ ((weak m t l.reverse l.reverse.length).take k) l.reverse l.reverse.length) := fun j hj => hk j (List.mem_reverse.1 ((outJ_sub _ l.reverse).subset hj))
  unfold okK
  rw [freM_perm h3 h4]
/-- A plan's jobs. -/
def planJ (m : Mc) (ml : List Lb) (t : Kt) (tl : List Lb) (l : List Jb) : Option (List Jb) := (places m ml t tl l).map fun G => G.map (jat l)
theorem planJ_rev (h : Uneq l) (hk : okNeeds l) : planJ m ml t tl l.reverse = planJ m ml t tl l := by
  have hkr : okNeeds l.reverse := fun j hj => hk j (List.mem_reverse.1 hj)
  have hw : why m ml t tl l.reverse = why m ml t tl l := why_perm (List.reverse_perm l) hkr
  have hlen : (weak m t l.reverse l.reverse.length).length = (weak m t l l.length).length := by
    have := congrArg List.length (weakJ_rev (m := m) (t := t) h)
    rwa [weakJ_len, weakJ_len] at this
  have hok : okK m t l.reverse (weak m t l.reverse l.reverse.length) = okK m t l (weak m t l l.length) := funext fun k => okK_rev h hk k
  unfold planJ places
  rw [hw, hlen, hok]
  split
  · rfl
  · split
    · rw [Option.map_map, Option.map_map]
      congr 1
      funext k
      simp only [Function.comp]
      rw [weak_take, weak_take, weakJ_rev h]
    · rfl
/-- The Prio of the last of these. -/
def lastJ (J : List Jb) : Int := match J.getLast? with | none => -1 | some j => j.pr
theorem lastP_is (l : List Jb) (G : List Nat) : lastP l G = lastJ (G.map (jat l)) := by
  unfold lastP lastJ
  rw [List.getLast?_map]
  cases G.getLast? <;> rfl
theorem namesAt_is (l : List Jb) (G : List Nat) : namesAt l G = (G.map (jat l)).map Jb.nm := by
  unfold namesAt
  rw [List.map_map]; rfl
end

/-! ### Machines in the other order -/
section
variable {t : Kt} {tl : List Lb} {l : List Jb} {L : List Ml}
theorem rev_at {i : Nat} (hi : i < L.length) : L.reverse.getD i default = L.getD (L.length - 1 - i) default := by
  have h1 : i < L.reverse.length := by rw [List.length_reverse]; exact hi
  rw [List.getD_eq_getElem?_getD, List.getD_eq_getElem?_getD, List.getElem?_eq_getElem h1, List.getElem?_eq_getElem (by omega), Option.getD_some, Option.getD_some, List.getElem_reverse]
theorem nmAt_rev {i : Nat} (hi : i < L.length) : nmAt L.reverse i = nmAt L (L.length - 1 - i) := by unfold nmAt; rw [rev_at hi]
/-- A machine's plan in either order: the same jobs. -/
theorem plans_rev (h : Uneq l) (hk : okNeeds l) {i : Nat} (hi : i < L.length) : (plansOf L.reverse t tl l.reverse i).map (fun G => G.map (jat l.reverse)) = (plansOf L t tl l (L.length - 1 - i)).map fun G => G.map (jat l) := by
  unfold plansOf
  rw [rev_at hi]
  exact planJ_rev h hk
theorem plans_some (h : Uneq l) (hk : okNeeds l) {i : Nat} (hi : i < L.length) {G : List Nat} (hG : plansOf L t tl l (L.length - 1 - i) = some G) : ∃ G', plansOf L.reverse t tl l.reverse i = some G' ∧ G'.length = G.length ∧ lastP l.reverse G' = lastP l G ∧ namesAt l.reverse G' = namesAt l G := by
  have hp := plans_rev (t := t) (tl := tl) h hk hi
  rw [hG, Option.map_some, Option.map_eq_some_iff] at hp
  obtain ⟨G', h1, h2⟩ := hp
  refine ⟨G', h1, ?_, ?_, ?_⟩
  · have := congrArg List.length h2
    simpa using this
  · rw [lastP_is, lastP_is, h2]
  · rw [namesAt_is, namesAt_is, h2]
theorem plans_some' (h : Uneq l) (hk : okNeeds l) {i : Nat} (hi : i < L.length) {G' : List Nat} (hG : plansOf L.reverse t tl l.reverse i = some G') : ∃ G, plansOf L t tl l (L.length - 1 - i) = some G ∧ G'.length = G.length ∧ lastP l.reverse G' = lastP l G ∧ namesAt l.reverse G' = namesAt l G := by
  have hp := plans_rev (t := t) (tl := tl) h hk hi
  rw [hG, Option.map_some] at hp
  obtain ⟨G, h1, h2⟩ := Option.map_eq_some_iff.1 hp.symm
  refine ⟨G, h1, ?_, ?_, ?_⟩
  · have := congrArg List.length h2
    simpa using this.symm
  · rw [lastP_is, lastP_is, h2]
  · rw [namesAt_is, namesAt_is, h2]
/-- The choice in either order. -/
theorem cho_rev (h : Uneq l) (hk : okNeeds l) (hn : ∀ i k, i < L.length → k < i → nmAt L i ≠ nmAt L k) {r r' : Option Ch} (hr : cho (plansOf L t tl l) l L L.length = r) (hr' : cho (plansOf L.reverse t tl l.reverse) l.reverse L.reverse L.reverse.length = r') :
    chN L.reverse r' = chN L r ∧ chG L.reverse t tl l.reverse r' = chG L t tl l r ∧ r'.isSome = r.isSome := by
  rw [List.length_reverse] at hr'
  cases r with
  | none =>
    cases r' with
    | none => exact ⟨rfl, rfl, rfl⟩
    | some x' =>
      exfalso
      obtain ⟨⟨G', h1, _, _, h4⟩, _⟩ := cho_is hr'
      obtain ⟨G, h5, _⟩ := plans_some' (t := t) (tl := tl) (L := L) h hk h4 h1
      rw [cho_none hr _ (by omega)] at h5
      cases h5
  | some x =>
    obtain ⟨b, g, a⟩ := x
    obtain ⟨⟨G, h1, h2, h3, h4⟩, h5⟩ := cho_is hr
    simp only at h1 h2 h3 h4
    have hbN : L.length - 1 - (L.length - 1 - b) = b := by omega
    obtain ⟨G1, f1, f2, f3, f4⟩ := plans_some (t := t) (tl := tl) (L := L) h hk (i := L.length - 1 - b) (G := G) (by omega) (by rw [hbN]; exact h1)
    cases r' with
    | none => rw [cho_none hr' _ (by omega)] at f1; cases f1
    | some x' =>
      obtain ⟨b', g', a'⟩ := x'
      obtain ⟨⟨G', k1, k2, k3, k4⟩, k5⟩ := cho_is hr'
      simp only at k1 k2 k3 k4
      obtain ⟨Gc, c1, c2, c3, c4⟩ := plans_some' (t := t) (tl := tl) (L := L) h hk k4 k1
      have n1 := betr_not.1 (h5 (L.length - 1 - b') (by omega) Gc c1)
      have n2 := betr_not.1 (k5 (L.length - 1 - b) (by omega) G1 f1)
      rw [nmAt_rev (by omega), nmAt_rev k4, hbN] at n2
      have e1 : Gc.length = g := by omega
      have e2 : G1.length = g' := by omega
      obtain ⟨n3, n4⟩ := n1.2 e1
      obtain ⟨n5, n6⟩ := n2.2 e2
      have e3 : lastP l Gc = a := by omega
      have e4 : lastP l.reverse G1 = a' := by omega
      have s1 := n4 e3
      have s2 := n6 e4
      have e5 : nmAt L (L.length - 1 - b') = nmAt L b := by
        rcases sL_total s1 with h6 | h6
        · rw [s2] at h6; cases h6
        · exact h6
      have e6 : L.length - 1 - b' = b := by
        rcases Nat.lt_trichotomy (L.length - 1 - b') b with c | c | c
        · exact absurd e5.symm (hn b _ h4 c)
        · exact c
        · exact absurd e5 (hn _ b (by omega) c)
      rw [e6, h1] at c1
      injection c1 with c1
      subst c1
      refine ⟨?_, ?_, rfl⟩
      · show nmAt L.reverse b' = nmAt L b
        rw [nmAt_rev k4, e6]
      · show namesAt l.reverse ((plansOf L.reverse t tl l.reverse b').getD []) = namesAt l ((plansOf L t tl l b).getD [])
        rw [k1, h1]
        exact c4
end
end Go.Proofs.Ytpifleheammanaa
