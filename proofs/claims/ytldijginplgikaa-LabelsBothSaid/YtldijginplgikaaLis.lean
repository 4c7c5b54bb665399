/- Layer 18: compareSizes, slices.MinFunc, inAll, wanted, slices.Sorted of a map's keys, With, Len. Condition: at most 1000000 names. -/
import Derived.Test.YtldijginplgikaaLit
import Derived.Test.YtldijginplgikaaLm4
import Derived.Laws.Cover1
namespace Go.Proofs.Ytldijginplgikaa
open Go.RowKit
set_option linter.unusedSimpArgs false
set_option linter.unusedVariables false
def intR (e : Ending) : Prop := ∃ r, e = .returned (.int .i64 r)
set_option maxHeartbeats 1000000 in
theorem compareI_any (x y : Int) (w : World) :
    Calls Try.prog 32 #[.int .i64 x, .int .i64 y] w fun e w' => intR e ∧ w' = w := by
  by_cases h1 : x < y
  · go_enter Try.func32, Try.ntmps32
    go_wp2
    go_ret
    exact ⟨⟨_, rfl⟩, rfl⟩
  · by_cases h2 : y < x
    · go_enter Try.func32, Try.ntmps32
      go_wp2
      go_ret
      exact ⟨⟨_, rfl⟩, rfl⟩
    · go_enter Try.func32, Try.ntmps32
      go_wp2
      go_ret
      exact ⟨⟨_, rfl⟩, rfl⟩
/-- These sets are there, with these names. -/
def Sets (w : World) (l : List (Option Nat)) (N : Option Nat → List ByteArray) : Prop := ∀ o ∈ l, MapH Value.string w (.map o) ((N o).map eNm)
theorem Sets.later {w w' : World} {l : List (Option Nat)} {N : Option Nat → List ByteArray} (h : Sets w l N) (hb : Below w.heap.size w w') : Sets w' l N := fun o ho => (h o ho).later hb
set_option maxHeartbeats 2000000 in
set_option maxRecDepth 100000 in
theorem sizes_any (o1 o2 : Option Nat) (T1 T2 : List ByteArray) (w : World) (h1 : Hid (MapH Value.string w (.map o1) (T1.map eNm))) (h2 : Hid (MapH Value.string w (.map o2) (T2.map eNm))) :
    Calls Try.prog 24 #[.map o1, .map o2] w fun e w' => intR e ∧ w' = w := by
  have K := Lib.hid (fun (x y : Int) (W : World) => compareI_any x y W)
  go_enter Try.func24, Try.ntmps24
  go_wp2_with (first | (with_reducible refine len_g rfl (.tmp 5) 53 rfl _ _ Try.underlying53 (.map o1) rfl h1.out ?_) | (with_reducible refine len_g rfl (.tmp 7) 53 rfl _ _ Try.underlying53 (.map o2) rfl h2.out ?_))
  refine (K.out _ _ _).mono ?_
  rintro e w1 ⟨⟨r, rfl⟩, hw⟩
  rw [hw]
  go_wp2_with fail
  go_ret
  exact ⟨⟨_, rfl⟩, rfl⟩
theorem RdK.o {w : World} {A : Option Addr} {l : List (Option Nat)} (h : RdK w 1 A (cellsO l)) {i : Nat} (hi : i < l.length) : ∃ g o, A = some ⟨g, o, none⟩ ∧ g < w.heap.size ∧ w.cell? ⟨g, o + i, none⟩ = some (.map l[i]) := by
  obtain ⟨g, o, ha, hr⟩ := h.at (i := i) (by rw [cellsO_length]; exact hi)
  have hc := hr 0 (.map l[i]) (by simp [cellsO])
  rw [Nat.mul_one, Nat.add_zero] at hc
  exact ⟨g, o, ha, World.block_lt_of_cell? w _ hc, hc⟩
set_option maxHeartbeats 6400000 in
set_option maxRecDepth 100000 in
/-- The least one is one of them. -/
theorem min_any (A : Option Addr) (n c : Nat) (l : List (Option Nat)) (N : Option Nat → List ByteArray) (w : World) (hn : n = l.length) (h0 : 0 < n) (hbig : n ≤ 1000000) (hr : Hid (RdK w 1 A (cellsO l))) (hS : Hid (Sets w l N)) :
    Calls Try.prog 23 #[.slice A n c, .func (.func 24) #[] #[]] w fun e w' => (∃ o, o ∈ l ∧ e = .returned (.map o)) ∧ w' = w := by
  have K := Lib.hid (fun (o1 o2 : Option Nat) (h1 : o1 ∈ l) (h2 : o2 ∈ l) => sizes_any o1 o2 (N o1) (N o2) w (Lib.hid (hS.out o1 h1)) (Lib.hid (hS.out o2 h2)))
  have HN := Lib.hid hn
  have hl0 : 0 < l.length := by omega
  obtain ⟨g, o, rfl, hg, c0⟩ := RdK.o hr.out hl0
  obtain ⟨x0, hx0⟩ : ∃ x, x = l[0]'hl0 := ⟨_, rfl⟩
  rw [← hx0] at c0
  have c0 : w.cell? ⟨g, o, none⟩ = some (.map x0) := c0
  have H0 : Hid (x0 ∈ l) := by rw [hx0]; exact List.getElem_mem hl0
  have hn1 : ¬ (n : Int) < 1 := by omega
  have HBG := Lib.hid hbig
  have HN0 := Lib.hid h0
  clear hn hx0 hl0 hbig
  go_enter Try.func23, Try.ntmps23
  go_wp2_with fail
  clear hn1 c0 h0
  go_loopw [6, 5] (fun s6 s5 wr => ∃ (k : Nat) (x : Option Nat), 1 ≤ k ∧ k ≤ n ∧ s6 = .int .i64 k ∧ s5 = .map x ∧ wr = w ∧ Hid (x ∈ l)) (fun s6 s5 wr => n - (intOf s6).toNat)
  case atStart => exact ⟨1, x0, Nat.le_refl _, by have := HN0.out; omega, rfl, rfl, rfl, H0⟩
  case round =>
    clear H0
    obtain ⟨k, x, hk1, hk, rfl, h5, hwr, HX⟩ := hrel
    rw [hwr]
    clear hwr wr
    subst h5
    by_cases hlt : k < n
    · have hkl : Hid (k < l.length) := by show _ < _; rw [← HN.out]; exact hlt
      obtain ⟨g', o', hA, hg', c1⟩ := RdK.o hr.out hkl.out
      injection hA with hA
      injection hA with e1 e2
      subst e1 e2
      obtain ⟨y, hy⟩ : ∃ y, y = l[k]'hkl.out := ⟨_, rfl⟩
      have HY : Hid (y ∈ l) := by rw [hy]; exact List.getElem_mem hkl.out
      rw [← hy] at c1
      have hwk : wrap64 ((k : Int) + 1) = ((k + 1 : Nat) : Int) := by have := HBG.out; unfold wrap64; omega
      clear hy hg' hg
      go_wp2_with fail
      refine (K.out y x HY.out HX.out).mono ?_
      rintro e w1 ⟨⟨r, rfl⟩, hw⟩
      rw [hw]
      clear hw w1
      by_cases hr0 : r < 0
      · clear HX
        go_wp2_with fail
        go_round
        case rel => exact ⟨k + 1, y, by omega, by omega, by go_num, rfl, trivial, HY⟩
        case measure =>
          rw [hwk]
          show n - ((k + 1 : Nat) : Int).toNat < n - ((k : Nat) : Int).toNat
          rw [Int.toNat_natCast, Int.toNat_natCast]; omega
      · clear HY c1
        go_wp2_with fail
        go_round
        case rel => exact ⟨k + 1, x, by omega, by omega, by go_num, rfl, trivial, HX⟩
        case measure =>
          rw [hwk]
          show n - ((k + 1 : Nat) : Int).toNat < n - ((k : Nat) : Int).toNat
          rw [Int.toNat_natCast, Int.toNat_natCast]; omega
    · clear hk
      go_wp2_with fail
      go_ret
      exact ⟨⟨x, HX.out, rfl⟩, rfl⟩

/-- Is the name in each of these? -/
def allN (N : Option Nat → List ByteArray) (l : List (Option Nat)) (s : ByteArray) : Bool := l.all fun o => inT (N o) s
theorem isSome_Nm (T : List ByteArray) (s : ByteArray) : (getG (T.map eNm) s).isSome = inT T s := by
  cases h : getG (T.map eNm) s with
  | none =>
    symm
    rw [Option.isSome_none, Bool.eq_false_iff]
    intro h2
    exact getG_none.1 h (eNm s) (List.mem_map.2 ⟨s, inT_iff.1 h2, rfl⟩) rfl
  | some v =>
    symm
    rw [Option.isSome_some, inT_iff]
    obtain ⟨q, hq, e⟩ := List.mem_map.1 (getG_mem h)
    have : q = s := congrArg Prod.fst e
    rw [← this]; exact hq
theorem getD_Nm (T : List ByteArray) (s : ByteArray) : (getG (T.map eNm) s).getD (.agg #[]) = .agg #[] := by
  cases h : getG (T.map eNm) s with
  | none => rfl
  | some v =>
    obtain ⟨q, hq, e⟩ := List.mem_map.1 (getG_mem h)
    exact (congrArg Prod.snd e).symm
set_option maxHeartbeats 6400000 in
set_option maxRecDepth 100000 in
theorem inAll_any (s : ByteArray) (A : Option Addr) (n c : Nat) (l : List (Option Nat)) (N : Option Nat → List ByteArray) (w : World) (hn : n = l.length) (hbig : n ≤ 1000000) (hr : Hid (RdK w 1 A (cellsO l))) (hS : Hid (Sets w l N)) :
    Calls Try.prog 25 #[.string s, .slice A n c] w fun e w' => e = .returned (.bool (allN N l s)) ∧ Below w.heap.size w w' := by
  obtain ⟨R, hR⟩ : ∃ R, R = allN N l s := ⟨_, rfl⟩
  rw [← hR]
  have HR := Lib.hid hR
  have HN := Lib.hid hn
  have HBG := Lib.hid hbig
  clear hR hn hbig
  go_enter Try.func25, Try.ntmps25
  go_wp2_with fail
  go_loopw [11] (fun s11 wr => ∃ (k : Nat), k ≤ n ∧ s11 = .int .i64 k ∧ Hid (Below w.heap.size w wr) ∧ Hid (∀ o ∈ l.take k, inT (N o) s = true)) (fun s11 wr => n - (intOf s11).toNat)
  case atStart => exact ⟨0, Nat.zero_le _, rfl, Below.refl _ _, fun o ho => by simp at ho⟩
  case round =>
    obtain ⟨k, hk, rfl, HB, HA⟩ := hrel
    by_cases hlt : k < n
    · have hkl : Hid (k < l.length) := by show _ < _; rw [← HN.out]; exact hlt
      obtain ⟨g', o', rfl, hg', c1⟩ := RdK.o (hr.out.later HB.out) hkl.out
      obtain ⟨y, hy⟩ : ∃ y, y = l[k]'hkl.out := ⟨_, rfl⟩
      have HY : Hid (y ∈ l) := by rw [hy]; exact List.getElem_mem hkl.out
      rw [← hy] at c1
      have HYE := Lib.hid hy
      have hwk : wrap64 ((k : Int) + 1) = ((k + 1 : Nat) : Int) := by have := HBG.out; unfold wrap64; omega
      obtain ⟨d, hd⟩ : ∃ d, d = inT (N y) s := ⟨_, rfl⟩
      have h1 : Hid ((getG ((N y).map eNm) s).getD (.agg #[]) = .agg #[]) := getD_Nm _ _
      have h2 : Hid ((getG ((N y).map eNm) s).isSome = d) := by show _ = _; rw [isSome_Nm, hd]
      have HM := Lib.hid ((hS.out.later HB.out) y HY.out)
      have HD := Lib.hid hd
      clear hy hg' hd
      cases d with
      | true =>
        go_wp2_with ((with_reducible refine look_g rfl _ _ 53 rfl 9 _ Try.underlying53 keyS (.agg #[]) (by kernel_rfl) (.map y) rfl HM.out s rfl _ h1.out _ h2.out ?_))
        have HB2 : ∀ t, Hid (Below w.heap.size w (wr.alloc (.cells #[] t))) := fun t => HB.out.alloc HB.out.size _
        have HA2 : Hid (∀ o ∈ l.take (k + 1), inT (N o) s = true) := fun o ho => by
          rw [List.take_succ_eq_append_getElem hkl.out] at ho
          rcases List.mem_append.1 ho with ho | ho
          · exact HA.out o ho
          · rw [List.mem_singleton.1 ho, ← HYE.out, ← HD.out]
        go_round
        case rel => exact ⟨k + 1, by omega, by go_num, HB2 _, HA2⟩
        case measure =>
          rw [hwk]
          show n - ((k + 1 : Nat) : Int).toNat < n - ((k : Nat) : Int).toNat
          rw [Int.toNat_natCast, Int.toNat_natCast]; omega
      | false =>
        have hR : R = false := by
          rw [HR.out, Bool.eq_false_iff]
          intro h
          have := List.all_eq_true.1 h y HY.out
          rw [← HD.out] at this; cases this
        subst hR
        go_wp2_with ((with_reducible refine look_g rfl _ _ 53 rfl 9 _ Try.underlying53 keyS (.agg #[]) (by kernel_rfl) (.map y) rfl HM.out s rfl _ h1.out _ h2.out ?_))
        go_ret
        exact ⟨rfl, HB.out.alloc HB.out.size _⟩
    · have hkn : k = n := Nat.le_antisymm hk (Nat.le_of_not_lt hlt)
      subst hkn
      have hR : R = true := by
        rw [HR.out]
        refine List.all_eq_true.2 fun o ho => HA.out o ?_
        rw [List.take_of_length_le (by rw [← HN.out]; exact Nat.le_refl _)]; exact ho
      subst hR
      clear hk HA
      go_wp2_with fail
      go_ret
      exact ⟨rfl, HB.out⟩

theorem putG_len {κ : Type} [DecidableEq κ] (L : EntG κ) (s : κ) (v : Value) : (putG L s v).length ≤ L.length + 1 := by
  unfold putG
  by_cases h : (getG L s).isSome = true
  · rw [if_pos h, List.length_map]; omega
  · rw [if_neg h]; simp
/-- Where wanted stands behind k labels. -/
structure Wd (w wr : World) (S : List SB) (mB : Nat) (L : EntG Lb) (l : List Lb) : Prop where
  be : Below w.heap.size w wr
  mp : MapG encLb wr mB L
  val : ∀ p ∈ L, p.2 = .map (fS S p.1)
  key : ∀ lb, (∃ p ∈ L, p.1 = lb) ↔ lb ∈ l
  len : L.length ≤ l.length
  low : w.heap.size ≤ mB
theorem Wd.later {w wr w' : World} {S : List SB} {mB : Nat} {L : EntG Lb} {l : List Lb} (H : Wd w wr S mB L l) (hb : Below wr.heap.size wr w') : Wd w w' S mB L l := ⟨H.be.trans (hb.mono H.be.size), H.mp.same (hb.block mB H.mp.lt), H.val, H.key, H.len, H.low⟩
theorem Wd.add {w wr w' : World} {S : List SB} {mB : Nat} {L : EntG Lb} {l : List Lb} {lb : Lb} (H : Wd w wr S mB L l) (hg : wr.grownBy w' (some mB)) (hm : MapG encLb w' mB (putG L lb (.map (fS S lb)))) : Wd w w' S mB (putG L lb (.map (fS S lb))) (l ++ [lb]) := by
  refine ⟨H.be.grown hg H.be.size (fun k e => by injection e with e; rw [← e]; exact H.low), hm, fun p hp => ?_, fun x => ?_, ?_, H.low⟩
  · rcases putG_mem.1 hp with h | rfl
    · exact H.val p h.1
    · rfl
  · rw [List.mem_append, List.mem_singleton, ← H.key]
    constructor
    · rintro ⟨p, hp, rfl⟩
      rcases putG_mem.1 hp with h | rfl
      · exact .inl ⟨p, h.1, rfl⟩
      · exact .inr rfl
    · rintro (⟨p, hp, rfl⟩ | rfl)
      · by_cases e : p.1 = lb
        · exact ⟨_, putG_mem.2 (.inr rfl), e.symm⟩
        · exact ⟨p, putG_mem.2 (.inl ⟨hp, e⟩), rfl⟩
      · exact ⟨_, putG_mem.2 (.inr rfl), rfl⟩
  · have h1 := putG_len L lb (.map (fS S lb))
    have h2 := H.len
    rw [List.length_append]
    simp only [List.length_cons, List.length_nil]
    omega
set_option maxHeartbeats 6400000 in
set_option maxRecDepth 100000 in
/-- The sets that are wanted. -/
theorem wanted_any (b g : Nat) (o1 o2 : Option Nat) (D : List NH) (S : List SB) (T : Nat → List ByteArray) (A : Option Addr) (n c : Nat) (l : List Lb) (w : World) (hX : Hid (Xm w b g o1 o2 D S T)) (hO : Hid ((⟨A, n, c, l⟩ : Hd).Ok w)) (hbig : n ≤ 1000) :
    Calls Try.prog 22 #[.pointer (some ⟨g, 0, none⟩), .slice A n c] w fun e w' => (∃ v xs, e = .returned v ∧ OwnK w' w.heap.size 53 1 v (cellsO xs) ∧ xs.length ≤ n ∧ (∀ o ∈ xs, ∃ lb ∈ l, o = fS S lb) ∧ ∀ lb ∈ l, fS S lb ∈ xs) ∧ Below w.heap.size w w' := by
  have KV := Lib.hid (fun (o : Option Nat) (W : World) => values_any o W)
  have KC := Lib.hid (fun (W : World) (Bm mB : Nat) (L : EntG Lb) (hL : L.length ≤ 1000000) (hv : ∀ p ∈ L, ∃ x, p.2 = .map x) (hm : W.cell? ⟨Bm, 0, none⟩ = some (.map (some mB))) (hown : MapG encLb W mB L) =>
    collectO_any 37 #[.pointer (some ⟨Bm, 0, none⟩)] (enters_of Try.func37 (by kernel_rfl) rfl) (fun xs => ∃ ps : EntG Lb, ps.Perm L ∧ ps.map Prod.snd = xs.map Value.map) (fun _ => True) L.length hL W
      (fun n w' h1 hb => values_stops Fence.wide n trivial rfl h1 Bm (some mB) L hv w' ((hb.cell (World.block_lt_of_cell? W _ hm)).trans hm) (.inr ⟨mB, rfl, hown.same (hb.block mB hown.lt)⟩)))
  have qM := @run_makeMap Try.prog
  obtain ⟨mB, hmB⟩ : ∃ m, m = w.heap.size := ⟨_, rfl⟩
  obtain ⟨W0, hW0⟩ : ∃ W, W = w.alloc (.map #[] 0) := ⟨_, rfl⟩
  have HB0 : Below w.heap.size w W0 := by rw [hW0]; exact (Below.refl _ _).alloc (Nat.le_refl _) _
  have H0 : Hid (Wd w W0 S mB [] []) := ⟨HB0, by rw [hW0, hmB]; exact MapG.made w, (fun p hp => by cases hp), (fun lb => by simp), Nat.le_refl _, by omega⟩
  have HL : Hid (n = l.length) := hO.out.ln
  have HBG := Lib.hid hbig
  clear HB0 hbig
  go_enter Try.func22, Try.ntmps22
  go_wp2_with fail
  rw [← hmB, ← hW0]
  clear hmB hW0
  go_loopw [11] (fun s11 wr => ∃ (k : Nat) (L : EntG Lb), k ≤ n ∧ s11 = .int .i64 k ∧ Hid (Wd w wr S mB L (l.take k))) (fun s11 wr => n - (intOf s11).toNat)
  case atStart => exact ⟨0, [], Nat.zero_le _, rfl, by rw [List.take_zero]; exact H0⟩
  case round =>
    clear H0
    obtain ⟨k, L, hk, rfl, H⟩ := hrel
    by_cases hlt : k < n
    · have hkl : Hid (k < l.length) := by show k < l.length; rw [← HL.out]; exact hlt
      have HX := hX
      obtain ⟨g0, o0, hA, hg0, d1, d2⟩ := (hO.out.later H.out.be).rd.at hkl.out
      have hA : A = some ⟨g0, o0, none⟩ := hA
      subst hA
      obtain ⟨⟨x1, x2⟩, ex⟩ : ∃ x, x = l[k]'hkl.out := ⟨_, rfl⟩
      have HXE := Lib.hid ex
      have c1 : wr.cell? ⟨g0, o0 + k * 2, none⟩ = some (.string x1) := by rw [show x1 = (l[k]'hkl.out).1 by rw [← ex]]; exact d1
      have c2 : wr.cell? ⟨g0, o0 + k * 2 + 1, none⟩ = some (.string x2) := by rw [show x2 = (l[k]'hkl.out).2 by rw [← ex]]; exact d2
      clear d1 d2
      have hwk : wrap64 ((k : Int) + 1) = ((k + 1 : Nat) : Int) := by have := HBG.out; unfold wrap64; omega
      obtain ⟨w4, hw4⟩ : ∃ W, W = wr.alloc (.cells #[.string x1, .string x2] 48) := ⟨_, rfl⟩
      obtain ⟨p, hp⟩ : ∃ p, p = wr.heap.size := ⟨_, rfl⟩
      have hba : Below wr.heap.size wr w4 := by rw [hw4]; exact (Below.refl _ _).alloc (Nat.le_refl _) _
      have HPD : Hid (Bk w4.drew p 48 #[.string x1, .string x2]) := by rw [hw4, hp]; exact Bk.fresh _ _ _
      have HWD := Lib.hid ((H.out.later hba).later (w' := w4.drew) (Below.drew (Below.refl _ _)))
      have HXD := Lib.hid (HX.out.later HWD.out.be)
      have HPM : Hid (p ≠ mB) := fun e => by have := H.out.mp.lt; omega
      clear ex hg0 hba H
      go_wp2_with fail
      rw [← hw4, ← hp]
      clear hw4 hp c1 c2
      refine wp_region_held_drew (S := fun W => W.cell? ⟨g, 1, none⟩ = some (.map o2) ∧ Bk W p 48 #[.string x1, .string x2] ∧ MapH encLb W (.map o2) (S.map eSB)) (by kernel_rfl) (⟨HXD.out.bk.cellAt 1, HPD.out, HXD.out.mp2⟩) (fun hS0 => ?_)
      refine wpAnyH_take (i := 0) (v := ?_) rfl (by kernel_rfl) (by kernel_rfl) (by kernel_rfl) (fun _ _ _ h => h) (Or.inl ⟨by rfl, ?_⟩) hS0 ?_
      rotate_left
      · intro W _; go_simp; try with_reducible rfl
      try simp only [Act.put, List.getElem_toArray, List.getElem_cons_zero, List.setIfInBounds_toArray, List.set_cons_zero, List.set_cons_succ]
      refine wpAnyH_take (i := 1) (v := .agg #[.string x1, .string x2]) rfl (by kernel_rfl) (by kernel_rfl) (by kernel_rfl) (fun _ _ _ h => h) (yields_bk (by rfl) 48 _ rfl p 0 rfl 48 #[.string x1, .string x2] #[.string x1, .string x2] _ (fun W hW => hW.2.1) (Part.whole _) Try.underlying48 rfl (by kernel_rfl)) hS0 ?_
      try simp only [Act.put, List.getElem_toArray, List.getElem_cons_zero, List.getElem_cons_succ, List.setIfInBounds_toArray, List.set_cons_zero, List.set_cons_succ]
      refine wpAnyH_take (i := 2) (v := ?_) rfl (by kernel_rfl) (by kernel_rfl) (by kernel_rfl) (fun _ _ _ h => h) (Or.inl ⟨by rfl, ?_⟩) hS0 ?_
      rotate_left
      · intro W _; go_simp; try with_reducible rfl
      try simp only [Act.put, List.getElem_toArray, List.getElem_cons_zero, List.getElem_cons_succ, List.setIfInBounds_toArray, List.set_cons_zero, List.set_cons_succ]
      refine wpAnyH_take (i := 3) (v := ?_) rfl (by kernel_rfl) (by kernel_rfl) (by kernel_rfl) (fun _ _ _ h => h) (Or.inl ⟨by rfl, ?_⟩) hS0 ?_
      rotate_left
      · intro W _; go_simp; try with_reducible rfl
      try simp only [Act.put, List.getElem_toArray, List.getElem_cons_zero, List.getElem_cons_succ, List.setIfInBounds_toArray, List.set_cons_zero, List.set_cons_succ]
      refine wpAnyH_take (i := 4) (v := ?_) rfl (by kernel_rfl) (by kernel_rfl) (by kernel_rfl) (fun _ _ _ h => h) (Or.inl ⟨by rfl, ?_⟩) hS0 ?_
      rotate_left
      · intro W _; go_simp; try with_reducible rfl
      try simp only [Act.put, List.getElem_toArray, List.getElem_cons_zero, List.getElem_cons_succ, List.setIfInBounds_toArray, List.set_cons_zero, List.set_cons_succ]
      refine wpAnyH_take (i := 5) (v := ?_) rfl (by kernel_rfl) (by kernel_rfl) (by kernel_rfl) (fun _ _ _ h => h) (Or.inl ⟨by rfl, ?_⟩) hS0 ?_
      rotate_left
      · intro W hSW; have hx := hSW.1; go_simp; try with_reducible rfl
      try simp only [Act.put, List.getElem_toArray, List.getElem_cons_zero, List.getElem_cons_succ, List.setIfInBounds_toArray, List.set_cons_zero, List.set_cons_succ]
      refine wpAnyH_take (i := 6) (v := .agg #[.string x1, .string x2]) rfl (by kernel_rfl) (by kernel_rfl) (by kernel_rfl) (fun _ _ _ h => h) (yields_bk (by rfl) 48 _ rfl p 0 rfl 48 #[.string x1, .string x2] #[.string x1, .string x2] _ (fun W hW => hW.2.1) (Part.whole _) Try.underlying48 rfl (by kernel_rfl)) hS0 ?_
      try simp only [Act.put, List.getElem_toArray, List.getElem_cons_zero, List.getElem_cons_succ, List.setIfInBounds_toArray, List.set_cons_zero, List.set_cons_succ]
      refine wpAnyH_take (i := 7) (v := ?_) rfl (by kernel_rfl) (by kernel_rfl) (by kernel_rfl) (fun _ _ _ h => h) (Or.inl ⟨by rfl, ?_⟩) hS0 ?_
      rotate_left
      · intro W hSW; have hx : (Instr.lookup 33 (.map o2) (.agg #[.string x1, .string x2]) false).run Try.prog W = .ok (.map (fS S (x1, x2))) W := look1_run (s := (x1, x2)) Try.underlying33 keyLb (zeroSE _) hSW.2.2 (getG_SB _ _); go_simp; try with_reducible rfl
      try simp only [Act.put, List.getElem_toArray, List.getElem_cons_zero, List.getElem_cons_succ, List.setIfInBounds_toArray, List.set_cons_zero, List.set_cons_succ]
      refine wpAnyH_ready (rs := [8]) (by kernel_rfl) (by simp) ?_
      refine AllReadyH.cons rfl (fun K hK => ?_) AllReadyH.nil
      refine store_g_op _ _ _ 33 rfl 48 53 Try.underlying33 keyLb mB rfl HWD.out.mp (x1, x2) rfl (.map (fS S (x1, x2))) rfl ?_
      intro w5 hm5 hg5 hs5
      have H5 := Lib.hid (HWD.out.add hg5 hm5)
      have HX5 := Lib.hid (HX.out.later H5.out.be)
      have HP5 : Hid (Bk w5 p 48 #[.string x1, .string x2]) := HPD.out.stays hg5 fun e => HPM.out (by injection e)
      clear hm5 hg5 hs5
      refine hK.out _ _ (⟨HX5.out.bk.cellAt 1, HP5.out, HX5.out.mp2⟩) (fun hS1 => ?_)
      clear hK K
      try simp only [Act.put, List.getElem_toArray, List.getElem_cons_zero, List.getElem_cons_succ, List.setIfInBounds_toArray, List.set_cons_zero, List.set_cons_succ]
      refine wpAnyH_done (by kernel_rfl) ?_ _
      clear hS0 hS1
      have HTK : Hid (l.take (k + 1) = l.take k ++ [(x1, x2)]) := by show _ = _; rw [List.take_succ_eq_append_getElem hkl.out, ← HXE.out]
      obtain ⟨L5, hL5⟩ : ∃ L5, L5 = putG L (x1, x2) (.map (fS S (x1, x2))) := ⟨_, rfl⟩
      have HR : Hid (Wd w w5 S mB L5 (l.take (k + 1))) := by show Wd _ _ _ _ _ _; rw [HTK.out, hL5]; exact H5.out
      clear hL5 H5 HX5 HP5 HTK HWD HXD HPD
      go_wp2_with fail
      go_round
      case rel => exact ⟨k + 1, L5, by omega, by go_num, HR⟩
      case measure =>
        rw [hwk]
        show n - ((k + 1 : Nat) : Int).toNat < n - ((k : Nat) : Int).toNat
        rw [Int.toNat_natCast, Int.toNat_natCast]; omega
    · have hkn : k = n := Nat.le_antisymm hk (Nat.le_of_not_lt hlt)
      subst hkn
      have HTK : Hid (l.take k = l) := List.take_of_length_le (by rw [← HL.out]; exact Nat.le_refl _)
      have HD : Hid (Wd w wr S mB L l) := by have := H.out; rw [HTK.out] at this; exact this
      clear H HTK hk
      go_wp2_with fail
      refine (KV.out _ _).mono ?_
      rintro e w6 ⟨rfl, hw6⟩
      have hb6 : Below wr.heap.size wr w6 := by rw [hw6]; exact (Below.refl _ _).alloc (Nat.le_refl _) _
      have hc6 : w6.cell? ⟨wr.heap.size, 0, none⟩ = some (.map (some mB)) := by rw [hw6]; exact (Bk.fresh wr 33 #[.map (some mB)]).cellAt 0
      have HD6 := Lib.hid (HD.out.later hb6)
      have HC6 := Lib.hid hc6
      have HLL : Hid (L.length ≤ l.length) := HD.out.len
      clear hb6 hc6 hw6 KV HD
      go_wp2_with fail
      refine (KC.out w6 wr.heap.size mB L (by have := HLL.out; have := HBG.out; have := HL.out; omega) (fun p hp => ⟨_, HD6.out.val p hp⟩) HC6.out HD6.out.mp).mono ?_
      rintro e w7 ⟨v, xs, rfl, ⟨ps, hps, hxs⟩, ho, hb7⟩
      have HPS := Lib.hid hps
      have HXS := Lib.hid hxs
      have HO7 := Lib.hid ho
      have HB7 := Lib.hid hb7
      clear hps hxs ho hb7 KC
      go_wp2_with fail
      go_ret
      have hall : ∀ o, o ∈ xs ↔ ∃ p ∈ L, p.2 = .map o := fun o => by
        have h1 : o ∈ xs ↔ Value.map o ∈ xs.map Value.map := ⟨fun h => List.mem_map.2 ⟨o, h, rfl⟩, fun h => by obtain ⟨q, hq, e⟩ := List.mem_map.1 h; injection e with e; rw [← e]; exact hq⟩
        rw [h1, ← HXS.out, List.mem_map]
        exact ⟨fun ⟨p, hp, e⟩ => ⟨p, HPS.out.mem_iff.1 hp, e⟩, fun ⟨p, hp, e⟩ => ⟨p, HPS.out.mem_iff.2 hp, e⟩⟩
      refine ⟨⟨v, xs, rfl, HO7.out.base HD6.out.be.size, ?_, fun o ho => ?_, fun lb hlb => ?_⟩, HD6.out.be.trans (HB7.out.mono HD6.out.be.size)⟩
      · have h1 := congrArg List.length HXS.out
        rw [List.length_map, List.length_map, HPS.out.length_eq] at h1
        have := HLL.out; have := HL.out; omega
      · obtain ⟨p, hp, e⟩ := (hall o).1 ho
        refine ⟨p.1, (HD6.out.key p.1).1 ⟨p, hp, rfl⟩, ?_⟩
        have := (HD6.out.val p hp).symm.trans e
        injection this with this
        exact this.symm
      · obtain ⟨p, hp, e⟩ := (HD6.out.key lb).2 hlb
        refine (hall _).2 ⟨p, hp, ?_⟩
        rw [HD6.out.val p hp, e]
end Go.Proofs.Ytldijginplgikaa
