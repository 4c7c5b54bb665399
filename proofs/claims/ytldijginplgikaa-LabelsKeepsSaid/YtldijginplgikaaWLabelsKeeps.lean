/- The walk of LabelsKeeps. Condition: the name is no longer than Go can have. -/
import Derived.Test.YtldijginplgikaaLaw
namespace Go.Proofs.Ytldijginplgikaa
open Go.RowKit
set_option linter.unusedSimpArgs false
set_option linter.unusedVariables false
namespace labelsKeeps
theorem store_elem {P : Program} {w : World} {base k g n c p0 : Nat} {e : TypeId} {l : List (List Value)} {ops : Array Oper} {rest : List Oper} {o : Oper} {a : Act} {Q : Exit → Act → World → Prop} (hw : Region.wanted o (yielded ops a.tmps) = true) (ty : TypeId) (x y : Operand) (ho : o.op = .store ty x y)
    (off : Nat) (v : Array Value) (hx : a.eval x = .pointer (some ⟨g, off, none⟩)) (hy : a.eval y = .agg v) (hown : OwnK w base e k (.slice (some ⟨g, 0, none⟩) n c) l) (p : Nat) (hoff : off = p * k) (hp : p < l.length) (hv : v.size = k)
    (hi : (P.info? ty).map (·.size) = some k) (h1 : v.all (·.oneCell') = true)
    (h : ∀ w', OwnK w' base e k (.slice (some ⟨g, 0, none⟩) n c) (l.set p v.toList) → w.grownBy w' (some g) → w'.heap.size = w.heap.size → wpList P ops Q rest (a.put o.dst undef) w') : wpList P ops Q (o :: rest) a w :=
  BigFrame.wpList_want hw fun K hKK => store_elem_op ty x y ho off v hx hy hown p hoff hp hv hi h1 fun w' h1 h2 h3 => hKK _ _ (h w' h1 h2 h3)
theorem haltNone {P : Program} {ops : Array Oper} {rest : List Oper} {o : Oper} {a : Act} {w : World} {Q : Exit → Act → World → Prop} (_hd : o.dst = none) (h : Hid (wpList P ops Q (o :: rest) a w)) : wpList P ops Q (o :: rest) a w := h.out
def oL : Lb := (⟨#[111, 116, 104, 101, 114]⟩, ⟨#[111, 116, 104, 101, 114]⟩)
/-- Written over up to here. -/
def mixed (z : List Lb) (k : Nat) : List Lb := List.replicate k oL ++ z.drop k
theorem mixed_len {z : List Lb} {k : Nat} (h : k ≤ z.length) : (mixed z k).length = z.length := by unfold mixed; simp; omega
theorem mixed_set {z : List Lb} {k : Nat} (h : k < z.length) : (cellsLb (mixed z k)).set k [.string oL.1, .string oL.2] = cellsLb (mixed z (k + 1)) := by
  have h1 : (mixed z k).set k oL = mixed z (k + 1) := by
    unfold mixed
    rw [List.set_append_right _ _ (by simp), List.length_replicate, Nat.sub_self, List.drop_eq_getElem_cons h, List.set_cons_zero, List.replicate_succ', List.append_assoc]
    rfl
  rw [← h1]
  unfold cellsLb
  rw [List.map_set]
theorem own_some {w : World} {b n c : Nat} {A : Option Addr} {l : List Lb} (h : OwnK w b 48 2 (.slice A n c) (cellsLb l)) (h0 : 0 < l.length) : ∃ g, A = some ⟨g, 0, none⟩ := by
  rcases h.2.2 with ⟨_, h1⟩ | ⟨g, cap, cur, h1, _⟩
  · rw [cellsLb_length] at h1; omega
  · injection h1 with h1; exact ⟨g, h1⟩
theorem own_hd {w : World} {b n c : Nat} {A : Option Addr} {l : List Lb} (h : OwnK w b 48 2 (.slice A n c) (cellsLb l)) : (⟨A, n, c, l⟩ : Hd).Ok w := by
  obtain ⟨A', c', hs⟩ := h.sl
  have hv := hs.val
  rw [cellsLb_length] at hv
  injection hv with e1 e2 e3
  subst e1 e2 e3
  exact ⟨rfl, hs.rd.labs, by have := hs.cap; rwa [cellsLb_length] at this, by have := hs.cap2; unfold maxLen at this; show _ ≤ _; omega⟩
theorem told_self {s : ByteArray} {z l : List Lb} {m : List ByteArray} (h : ToldL [(s, z)] l m) (hz : hasB z l = true) : m = [s] := by
  have h1 := h.1
  rw [List.filter_eq_self.2 (fun p hp => by rw [List.mem_singleton.1 hp]; exact hz)] at h1
  exact List.perm_singleton.1 h1
theorem told_none {l : List Lb} {m : List ByteArray} (h : ToldL [] l m) : m = [] := List.Perm.eq_nil h.1
set_option maxHeartbeats 12800000 in
set_option maxRecDepth 100000 in
theorem walk (s : ByteArray) (A : Option Addr) (n c : Nat) (z : List Lb) (w : World) (hs0 : s.size ≤ 140737488351232) (hn : n = z.length) (hr : RdL w A z) (hc : n ≤ c) (hm : c ≤ 9223372036854775807) (hz : Sz z) :
    Calls Try.prog 5 #[.string s, .slice A n c] w fun r w' => r = .returned (.bool true) ∧ Below w.heap.size w w' := by
  have HOK : Hid ((⟨A, n, c, z⟩ : Hd).Ok w) := ⟨hn, hr, hc, hm⟩
  have HN := Lib.hid hn
  have HS0 := Lib.hid hs0
  have K1 := Lib.hid (fun W => awake18_any W)
  have KS := Lib.hid (fun (W : World) (h : (⟨A, n, c, z⟩ : Hd).Ok W) => small18_any A n c z W (Lib.hid h.ln) (Lib.hid h.rd))
  have KN := Lib.hid (fun (W : World) (h : Below w.heap.size w W) => x_new (w := w) W h)
  have KP := Lib.hid (fun (W : World) (g : Nat) (F : Nat → Prop) (A : Option Addr) (n c : Nat) (ho : (⟨A, n, c, z⟩ : Hd).Ok W) (hst : ∀ W2, GrP F W W2 → (⟨A, n, c, z⟩ : Hd).Ok W2) (hn : n ≤ 30) (H : Xl w W g F []) => x_putA (w := w) (wr := W) (g := g) (F := F) (E := []) s A n c z ho hst hn (by simp) H)
  have KW := Lib.hid (fun (W : World) (g : Nat) (F : Nat → Prop) (E : List NL) (A : Option Addr) (n c : Nat) (l : List Lb) (ho : (⟨A, n, c, l⟩ : Hd).Ok W) (hn : n ≤ 100) (hE : E.length ≤ 1000) (H : Xl w W g F E) => x_with (w := w) (wr := W) (g := g) (F := F) (E := E) A n c l ho hn hE H)
  have KD := Lib.hid (fun (W : World) (g : Nat) (F : Nat → Prop) (E : List NL) (hE : E.length ≤ 1000) (H : Xl w W g F E) => x_del (w := w) (wr := W) (g := g) (F := F) (E := E) s hE H)
  clear hn hr hc hm hz hs0
  go_enter Try.func5, Try.ntmps5
  by_cases hbs : (1000 : Int) < (s.size : Int)
  · have hbd : decide ((1000 : Int) < (s.size : Int)) = true := decide_eq_true hbs
    go_wp2_with fail
    refine (K1.out _).mono ?_; rintro e w1 ⟨rfl, hb1⟩
    have HB1 := Lib.hid hb1
    clear hb1
    go_wp2_with fail
    refine (K1.out _).mono ?_; rintro e w3 ⟨rfl, hb3⟩
    have HB3 := Lib.hid (HB1.out.trans (hb3.mono HB1.out.size))
    clear hb3 HB1
    go_wp2_with fail
    go_ret
    exact ⟨rfl, HB3.out⟩
  have hbd : decide ((1000 : Int) < (s.size : Int)) = false := decide_eq_false hbs
  have hbl : (s.size : Int) ≤ 1000 := by omega
  go_wp2_with fail
  refine (K1.out _).mono ?_; rintro e w1 ⟨rfl, hb1⟩
  have HB1 := Lib.hid hb1
  clear hb1
  go_wp2_with fail
  refine (KS.out _ (HOK.out.later HB1.out)).mono ?_; rintro e w2 ⟨⟨b, rfl, hsm⟩, hb2⟩
  have HB2 := Lib.hid (HB1.out.trans (hb2.mono HB1.out.size))
  have HSM := Lib.hid hsm
  clear hb2 hsm HB1 hbs hbd hbl
  cases b with
  | false =>
    go_wp2_with fail
    refine (K1.out _).mono ?_; rintro e w3 ⟨rfl, hb3⟩
    have HB3 := Lib.hid (HB2.out.trans (hb3.mono HB2.out.size))
    clear hb3 HB2
    go_wp2_with fail
    go_ret
    exact ⟨rfl, HB3.out⟩
  | true =>
    have H30 : Hid (n ≤ 30) := HSM.out rfl
    go_wp2_with fail
    refine (KN.out _ HB2.out).mono ?_; rintro e w3 ⟨⟨g, F0, rfl, hX3, -⟩, -⟩
    have HX3 := Lib.hid hX3
    have HO3 := Lib.hid (HOK.out.later hX3.be)
    clear hX3 HB2 KN KS HSM
    have hr2 : Hid (RdK (w3.alloc (.cells #[] 48)) 2 A (cellsLb z)) := (HO3.out.rd.rdk).later ((Below.refl w3.heap.size w3).alloc (Nat.le_refl _) (.cells #[] 48))
    have hlen : (cellsLb z).length = n := by rw [cellsLb_length, HN.out]
    have HLen := Lib.hid hlen
    have HE0 : Hid (OwnK (w3.alloc (.cells #[] 48)) w3.heap.size 48 2 (.slice (some ⟨w3.heap.size, 0, none⟩) 0 0) []) := OwnK.empty w3 w3.heap.size 48 2 (Nat.le_refl _) rfl
    clear hlen
    go_wp2_with (with_reducible refine haltAt 28 rfl ?_)
    show wpList _ _ _ _ _ _
    refine append_kn _ rfl (.tmp 26) (.tmp 27) 36 rfl w3.heap.size 48 _ 2 32 Try.underlying36 infoLb rfl (by omega) (.slice (some ⟨w3.heap.size, 0, none⟩) 0 0) [] rfl HE0.out A c n (cellsLb z) rfl hr2.out (cellsLb_k z) (cellsLb_one z) HLen.out.symm (by have := HLen.out; have := H30.out; simp only [List.length_nil, maxLen]; omega) (by have := HLen.out; have := H30.out; simp only [List.length_nil]; omega) (by simp) ?_
    intro v4 w4 hown hgrow
    have HOW : Hid (OwnK w4 w3.heap.size 48 2 v4 (cellsLb z)) := by show OwnK _ _ _ _ _ _; rw [List.nil_append] at hown; exact hown
    have HB4 : Hid (Below w3.heap.size w3 w4) := ((Below.refl _ w3).alloc (Nat.le_refl _) _).grown hgrow (by simp) (by intro k hk; simp [Value.ownBlock] at hk; omega)
    clear hown hgrow hr2 HE0 HLen
    obtain ⟨A4, c4, hs4⟩ := HOW.out.sl
    have hv4 := hs4.val
    rw [cellsLb_length, ← HN.out] at hv4
    subst hv4
    clear hs4
    have HX4 := Lib.hid (HX3.out.below HB4.out)
    have HAP4 : Hid (∀ k, (Value.slice A4 n c4).ownBlock = some k → ¬ F0 k) := fun k hk hF => by
      have h1 := HOW.out.block k hk
      have h2 := (HX3.out.blk hF).2
      omega
    have HB3 : Hid (w.heap.size ≤ w3.heap.size) := HX3.out.be.size
    clear HX3 HO3
    go_wp2_with fail
    refine (KP.out w4 g F0 A4 n c4 (own_hd HOW.out) (fun W2 hg => own_hd (HOW.out.grp hg HAP4.out)) H30.out HX4.out).mono ?_
    rintro e w5 ⟨rfl, ⟨F, hX5, hF5⟩, hg5⟩
    have HOW5 : Hid (OwnK w5 w3.heap.size 48 2 (.slice A4 n c4) (cellsLb (mixed z 0))) := by
      show OwnK _ _ _ _ _ _
      have : mixed z 0 = z := by unfold mixed; simp
      rw [this]; exact HOW.out.grp hg5 HAP4.out
    have HX5 : Hid (Xl w w5 g F [(s, z)]) := hX5
    have HAP5 : Hid (∀ k, (Value.slice A4 n c4).ownBlock = some k → ¬ F k) := fun k hk hF => by
      rcases hF5 k hF with h | h
      · exact HAP4.out k hk h
      · have := HOW.out.lt hk; omega
    clear hX5 hF5 hg5 HOW HX4 HAP4 HB4 KP
    go_wp2_with fail
    go_loopw [35] (fun s35 wr => ∃ (k : Nat), k ≤ n ∧ s35 = .int .i64 k ∧ Hid (OwnK wr w3.heap.size 48 2 (.slice A4 n c4) (cellsLb (mixed z k))) ∧ Hid (Xl w wr g F [(s, z)])) (fun s35 wr => n - (intOf s35).toNat)
    case atStart => exact ⟨0, Nat.zero_le _, rfl, HOW5, HX5⟩
    case round =>
      clear HOW5 HX5
      obtain ⟨k, hk, rfl, HOW, HX⟩ := hrel
      have hmz : Hid (k ≤ z.length) := by show k ≤ _; rw [← HN.out]; exact hk
      by_cases hlt : k < n
      · have hkl : Hid (k < z.length) := by show _ < _; rw [← HN.out]; exact hlt
        obtain ⟨g4, hg4⟩ := own_some HOW.out (by rw [mixed_len hmz.out]; have := hkl.out; omega)
        subst hg4
        have hwk : wrap64 ((k : Int) + 1) = ((k + 1 : Nat) : Int) := by have := H30.out; unfold wrap64; omega
        have HKL : Hid (k < (cellsLb (mixed z k)).length) := by show _ < _; rw [cellsLb_length, mixed_len hmz.out]; exact hkl.out
        go_wp2_with (with_reducible refine haltNone rfl ?_)
        show wpList _ _ _ _ _ _
        refine store_elem (p0 := 0) rfl 48 _ _ rfl (k * 2) #[.string ⟨#[111, 116, 104, 101, 114]⟩, .string ⟨#[111, 116, 104, 101, 114]⟩] rfl rfl HOW.out k rfl HKL.out rfl (by kernel_rfl) (by kernel_rfl) ?_
        intro w6 ho6 hg6 hs6
        have HO6 : Hid (OwnK w6 w3.heap.size 48 2 (.slice (some ⟨g4, 0, none⟩) n c4) (cellsLb (mixed z (k + 1)))) := by
          show OwnK _ _ _ _ _ _
          rw [← mixed_set hkl.out]; exact ho6
        have HX6 : Hid (Xl w w6 g F [(s, z)]) := HX.out.grp (GrP.of hg6) (fun j hj e => HAP5.out j e hj) (HX.out.be.grown hg6 HX.out.be.size (fun j e => Nat.le_trans HB3.out (HOW.out.block j e)))
        clear ho6 hg6 hs6
        clear HOW HX HKL
        go_wp2_with fail
        go_round
        case rel => exact ⟨k + 1, by omega, by go_num, HO6, HX6⟩
        case measure =>
          rw [hwk]
          show n - ((k + 1 : Nat) : Int).toNat < n - ((k : Nat) : Int).toNat
          rw [Int.toNat_natCast, Int.toNat_natCast]; omega
      · have hkn : k = n := Nat.le_antisymm hk (Nat.le_of_not_lt hlt)
        subst hkn
        clear hk hlt
        go_wp2_with fail
        refine (KW.out wr g F [(s, z)] A k c z (HOK.out.later HX.out.be) (by have := H30.out; omega) (by simp) HX.out).mono ?_
        rintro e w7 ⟨⟨m, q, A7, c7, rfl, hq, -, ho7, ht7⟩, hb7⟩
        have hm7 := told_self ht7 (hasB_iff.2 fun lb h => h)
        subst hm7
        have hq1 : q = 1 := hq
        subst hq1
        have HX7 := Lib.hid (HX.out.below hb7)
        have HX7w : Hid (w.heap.size ≤ wr.heap.size) := HX.out.be.size
        have HOW7 := Lib.hid (HOW.out.below hb7)
        have HO7 := Lib.hid ho7
        have HAP7 : Hid (∀ k, (Value.slice A7 1 c7).ownBlock = some k → ¬ F k) := fun k hk hF => by
          have h1 := ho7.block k hk
          have h2 := (HX.out.blk hF).2
          omega
        obtain ⟨A', c', hv, hr, -, -⟩ := ho7.rds
        injection hv with e1 e2 e3
        subst e1
        obtain ⟨g7, o7, hA, hg7, hx⟩ := hr.at (i := 0) (by simp)
        have hA : A7 = some ⟨g7, o7, none⟩ := hA
        have ho0 : o7 = 0 := by
          rcases ho7.2.2 with ⟨h1, _⟩ | ⟨g', cap, cur, h1, _⟩
          · rw [hA] at h1; cases h1
          · rw [hA] at h1
            injection h1 with h1
            injection h1 with h1
            injection h1
        subst ho0
        subst hA
        have hx : w7.cell? ⟨g7, 0, none⟩ = some (.string s) := hx
        clear ho7 ht7 hb7 hr e2 e3 hq HX HOW hg7
        have hcat : ¬ 9223372036854775807 < s.size + 1 := by have := HS0.out; omega
        go_wp2_with (with_reducible refine haltNone rfl ?_)
        show wpList _ _ _ _ _ _
        clear hcat
        refine store_own rfl 9 _ _ rfl 0 _ rfl rfl HO7.out 0 0 rfl (by simp [cellsS]) (by omega) (by kernel_rfl) rfl rfl ?_
        intro w8 ho8 hg8 hs8
        have hk7 : (Value.slice (some ⟨g7, 0, none⟩) 1 c7).ownBlock = some g7 := rfl
        have HX8 : Hid (Xl w w8 g F [(s, z)]) := HX7.out.grp (GrP.of hg8) (fun j hj e => by injection e with e; subst e; exact HAP7.out _ hk7 hj) (HX7.out.be.grown hg8 HX7.out.be.size (fun j e => by injection e with e; subst e; exact Nat.le_trans HX7w.out (HO7.out.block _ hk7)))
        have HOW8 : Hid (OwnK w8 w3.heap.size 48 2 (.slice A4 k c4) (cellsLb (mixed z k))) := HOW7.out.grp (GrP.of hg8) fun j hj e => by
          injection e with e
          subst e
          exact HOW7.out.parted HO7.out (by decide) hj hk7
        clear ho8 hg8 hs8 hk7 HX7 HOW7 HO7 HAP7 hx
        go_wp2_with fail
        refine (KW.out w8 g F [(s, z)] A k c z (HOK.out.later HX8.out.be) (by have := H30.out; omega) (by simp) HX8.out).mono ?_
        rintro e w9 ⟨⟨m, q, A9, c9, rfl, hq, -, ho9, ht9⟩, hb9⟩
        have hm9 := told_self ht9 (hasB_iff.2 fun lb h => h)
        subst hm9
        have hq1 : q = 1 := hq
        subst hq1
        have HX9 := Lib.hid (HX8.out.below hb9)
        have HOW9 := Lib.hid (HOW8.out.below hb9)
        obtain ⟨A', c', hv, hr, -, -⟩ := ho9.rds
        injection hv with e1 e2 e3
        subst e1
        obtain ⟨g9, o9, hA, hg9, hx⟩ := hr.at (i := 0) (by simp)
        have hA : A9 = some ⟨g9, o9, none⟩ := hA
        subst hA
        have hx : w9.cell? ⟨g9, o9, none⟩ = some (.string s) := hx
        have hse : (s.toList == s.toList) = true := by simp
        clear ho9 ht9 hb9 hr e2 e3 hq HX8 HOW8 hg9
        go_wp2_with fail
        refine (KD.out w9 g F [(s, z)] (by simp) HX9.out).mono ?_
        rintro e w10 ⟨rfl, ⟨F2, hX10, hF10⟩, hg10⟩
        have hhas : hasN [(s, z)] s = true := by simp [hasN]
        rw [hhas]
        have HX10 : Hid (Xl w w10 g F2 []) := by
          have : dropN [(s, z)] s = ([] : List NL) := by simp [dropN]
          rw [this] at hX10; exact hX10
        have HOW10 := Lib.hid (HOW9.out.grp hg10 fun j hj e => HAP5.out j hj e)
        clear hX10 hF10 hg10 hhas HX9 HOW9 hx
        go_wp2_with fail
        refine (KW.out w10 g F2 [] A k c z (HOK.out.later HX10.out.be) (by have := H30.out; omega) (by simp) HX10.out).mono ?_
        rintro e w11 ⟨⟨m, q, A11, c11, rfl, hq, -, -, ht11⟩, hb11⟩
        have hm11 := told_none ht11
        subst hm11
        have hq0 : q = 0 := hq
        subst hq0
        have HX11 := Lib.hid (HX10.out.below hb11)
        have HOW11 := Lib.hid (HOW10.out.below hb11)
        clear ht11 hb11 hq HX10 HOW10
        go_wp2_with fail
        refine (KW.out w11 g F2 [] A4 k c4 (mixed z k) (own_hd HOW11.out) (by have := H30.out; omega) (by simp) HX11.out).mono ?_
        rintro e w12 ⟨⟨m, q, A12, c12, rfl, hq, -, -, ht12⟩, hb12⟩
        have hm12 := told_none ht12
        subst hm12
        have hq0 : q = 0 := hq
        subst hq0
        have HBE : Hid (Below w.heap.size w w12) := (HX11.out.below hb12).be
        clear ht12 hb12 hq HX11 HOW11
        go_wp2_with fail
        go_ret
        exact ⟨rfl, HBE.out⟩
end labelsKeeps
end Go.Proofs.Ytldijginplgikaa
