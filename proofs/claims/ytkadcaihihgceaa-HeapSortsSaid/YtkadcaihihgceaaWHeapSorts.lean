/- The walk of HeapSorts. No condition beyond the form's own. -/
import Derived.Test.YtkadcaihihgceaaHss
import Derived.BigQuiet
import Derived.WalkSmall
import Derived.Deep.QuietTactic
namespace Go.Proofs.Ytkadcaihihgceaa
open Go.RowKit
set_option linter.unusedSimpArgs false
set_option linter.unusedVariables false
namespace heapSorts
/-- Is it of this key? -/
def isK (K : Int) (x : Px) : Bool := x.1 == K
theorem isK_srt (K : Int) (l : List Px) : (srt l).filter (isK K) = l.filter (isK K) := srt_key K l
set_option maxHeartbeats 51200000 in
set_option maxRecDepth 100000 in
theorem walk (A : Option Addr) (n cap : Nat) (l : List Px) (w : World) (hn0 : n = l.length) (hr0 : RdK w 2 A (l.map eX)) (hc1 : n ≤ cap) (hc2 : cap ≤ 9223372036854775807) :
    Calls Try.prog 4 #[.slice A n cap] w fun r w' => r = .returned (.bool true) ∧ Below w.heap.size w w' := by
  have K1 := Lib.hid (fun W => awake16_any W)
  have HN := Lib.hid hn0
  have HRD : Hid (RdP w A n l) := ⟨hn0, hr0⟩
  clear hn0 hr0
  by_cases hbig : 300 < n
  · have hb : (300 : Int) < (n : Int) := by omega
    go_enter Try.func4, Try.ntmps4
    go_wp2_with fail
    refine (K1.out _).mono ?_; rintro e w1 ⟨rfl, hb1⟩
    go_wp2_with fail
    refine (K1.out _).mono ?_; rintro e w2 ⟨rfl, hb2⟩
    go_wp2_with fail
    go_ret
    exact ⟨rfl, hb1.trans (hb2.mono hb1.size)⟩
  · have hb : ¬ ((300 : Int) < (n : Int)) := by omega
    have hbig' : n ≤ 300 := by omega
    have KN := Lib.hid (fun (W : World) (h : Below w.heap.size w W) => one_new (w := w) W h)
    have KP := Lib.hid (fun (W : World) (h : Nat) (m : Int) (L : List Px) (v : Value) (x : Px) (H : OneE w W h m L v) (hl : L.length ≤ 900) (hm : 0 ≤ m ∧ m ≤ 1000000) => one_push x H hl hm)
    have KQ := Lib.hid (fun (W : World) (h k : Nat) (m : Int) (L : List Px) (v : Value) (hk : k < L.length) (H : OneE w W h m (L.drop k) v) (hl : L.length ≤ 900) => one_popAt hk H hl)
    have KZ := Lib.hid (fun (W : World) (h : Nat) (m : Int) (v : Value) (H : OneE w W h m [] v) => one_pop0 H)
    have KS := Lib.hid (fun (W : World) (h : Nat) (m : Int) (L : List Px) (v : Value) (H : OneE w W h m L v) (hl : L.length ≤ 900) => one_all H hl)
    have KL := Lib.hid (fun (W : World) (h : Nat) (m : Int) (L : List Px) (v : Value) (H : OneE w W h m L v) => one_len H)
    have KE := Lib.hid (fun (W : World) (A B : Option Addr) (n m c e : Nat) (l r : List Px) (h1 : RdP W A n l) (h2 : RdP W B m r) (hn : n ≤ 1000) (hm : m ≤ 1000) => same_any A B n m c e l r W (Lib.hid h1) (Lib.hid h2) hn hm)
    go_enter Try.func4, Try.ntmps4
    go_wp2_with fail
    refine (K1.out _).mono ?_; rintro e w1 ⟨rfl, hb1⟩
    have HB1 := Lib.hid hb1
    clear hb1
    go_wp2_with fail
    refine (KN.out _ HB1.out).mono ?_; rintro e w2 ⟨⟨h, v0, rfl, hO1, _⟩, hb2⟩
    have H1 := Lib.hid hO1
    clear hO1 hb2
    go_wp2_with fail
    go_loopw [27] (fun s27 wr => ∃ (i : Nat) (v : Value), i ≤ n ∧ s27 = .int .i64 i ∧ Hid (OneE w wr h i (srt (l.take i)) v)) (fun s27 wr => n - (intOf s27).toNat)
    case atStart => exact ⟨0, v0, Nat.zero_le _, rfl, H1⟩
    case round =>
      clear H1
      obtain ⟨i, v, hi, rfl, H⟩ := hrel
      by_cases hin : i < n
      · have hil : Hid (i < l.length) := by show i < l.length; rw [← HN.out]; exact hin
        obtain ⟨g, o, hA, hg, hx⟩ := HRD.out.at hil.out
        subst hA
        obtain ⟨⟨x1, x2⟩, ex⟩ : ∃ x, x = l[i]'hil.out := ⟨_, rfl⟩
        rw [← ex] at hx
        have EX := Lib.hid ex
        have HGX := Lib.hid hx
        obtain ⟨c1, c2⟩ : wr.cell? ⟨g, o + i * 2, none⟩ = some (.int .i64 x1) ∧ wr.cell? ⟨g, o + i * 2 + 1, none⟩ = some (.int .i64 x2) := by
          have := range_keep HGX.out H.out.be
          exact ⟨by simpa using this 0 _ rfl, this 1 _ rfl⟩
        have hw1 : wrap64 ((i : Int) + 1) = ((i + 1 : Nat) : Int) := by unfold wrap64; omega
        have HL1 : Hid ((srt (l.take i)).length ≤ 900) := by show _ ≤ _; rw [srt_len, List.length_take]; omega
        clear ex hx hg
        go_wp2_with fail
        refine (KP.out wr h i _ v (x1, x2) H.out HL1.out ⟨by omega, by omega⟩).mono ?_
        rintro e w4 ⟨rfl, ⟨v', hO1, hk1⟩, hg1⟩
        have H' : Hid (OneE w w4 h ((i + 1 : Nat) : Int) (srt (l.take (i + 1))) v') := by show OneE _ _ _ _ _ _; rw [srt_take hil.out, ← EX.out]; exact hO1
        clear hO1 hk1 hg1 c1 c2 H
        go_wp2_with fail
        go_round
        case rel => exact ⟨i + 1, v', by omega, by go_num, H'⟩
        case measure => simp [intOf]; omega
      · have hie : n = i := by omega
        subst hie
        have HTK : Hid (l.take n = l) := List.take_of_length_le (by rw [← HN.out]; exact Nat.le_refl _)
        rw [HTK.out] at H
        obtain ⟨L, hL⟩ : ∃ L, L = srt l := ⟨_, rfl⟩
        rw [← hL] at H
        have HLn : Hid (L.length = n) := by show _ = _; rw [hL, srt_len]; exact HN.out.symm
        have HL9 : Hid (L.length ≤ 900) := by show _ ≤ _; rw [HLn.out]; omega
        have HSO : Hid (L.Pairwise (fun a b => a.1 ≤ b.1)) := by show List.Pairwise _ _; rw [hL]; exact srt_so l
        have HKY : Hid (∀ K, L.filter (isK K) = l.filter (isK K)) := fun K => by rw [hL]; exact isK_srt K l
        clear hL hi hin HTK
        go_wp2_with fail
        refine (KS.out wr h n L v H.out HL9.out).mono ?_
        rintro e w5 ⟨⟨A5, c5, rfl, hO5⟩, hb5⟩
        rw [HLn.out] at hO5 ⊢
        have H5 := Lib.hid (H.out.below hb5)
        have HA5 := Lib.hid (hO5.base H.out.be.size)
        clear hO5 hb5 H
        go_wp2_with fail
        refine (KL.out w5 h n L v H5.out).mono ?_
        rintro e w6 ⟨rfl, hw6⟩
        rw [hw6, HLn.out]
        clear hw6 w6
        have HS : Hid (St w w5 h n L (.slice A5 n c5) 0 0 v (.slice none 0 0)) := St.start H5.out HA5.out
        clear H5 HA5
        go_wp2_with fail
        go_loopw [53, 6] (fun s53 s6 wr => ∃ (k : Nat) (v vo : Value), k ≤ n ∧ s53 = .int .i64 k ∧ s6 = vo ∧ Hid (St w wr h n L (.slice A5 n c5) k k v vo)) (fun s53 s6 wr => n - (intOf s53).toNat)
        case atStart => exact ⟨0, v, _, Nat.zero_le _, rfl, rfl, HS⟩
        case round =>
          clear HS v
          obtain ⟨k, v, vo, hk, rfl, rfl, H⟩ := hrel
          by_cases hkn : k < n
          · have hkL : Hid (k < L.length) := by show _ < _; rw [HLn.out]; exact hkn
            have hw1 : wrap64 ((k : Int) + 1) = ((k + 1 : Nat) : Int) := by unfold wrap64; omega
            obtain ⟨Av, cv, hv⟩ := H.out.shape (Nat.le_of_lt hkL.out)
            subst hv
            obtain ⟨⟨y1, y2⟩, hy⟩ : ∃ y, y = L[k]'hkL.out := ⟨_, rfl⟩
            have HY := Lib.hid hy
            clear hy
            go_wp2_with fail
            refine (KQ.out wr h k n L v hkL.out H.out.one HL9.out).mono ?_
            rintro e w4 ⟨rfl, ⟨v', hO⟩, hg⟩
            rw [← HY.out]
            have H4 : Hid (St w w4 h n L (.slice A5 n c5) k (k + 1) v' (.slice Av k cv)) := H.out.pop hO hg
            clear hO hg H
            have H5 : Hid (St w (w4.alloc (.cells #[.int .i64 y1, .int .i64 y2] 27)) h n L (.slice A5 n c5) k (k + 1) v' (.slice Av k cv)) := H4.out.below ((Below.refl _ _).alloc (Nat.le_refl _) _)
            have HP5 : Hid (Bk (w4.alloc (.cells #[.int .i64 y1, .int .i64 y2] 27)) w4.heap.size 27 #[.int .i64 y1, .int .i64 y2]) := Bk.fresh _ _ _
            clear H4
            go_wp2_with (with_reducible refine haltAt 64 rfl ?_)
            refine Lib.hid ?_
            obtain ⟨w5, hw5⟩ : ∃ W, W = (w4.alloc (.cells #[.int .i64 y1, .int .i64 y2] 27)) := ⟨_, rfl⟩
            rw [← hw5] at H5 HP5 ⊢
            clear hw5
            have HFR : Hid (Bk (w5.alloc (.cells #[.int .i64 y1, .int .i64 y2] 27)) w5.heap.size 27 #[.int .i64 y1, .int .i64 y2]) := Bk.fresh _ _ _
            have HS6 : Hid (St w (w5.alloc (.cells #[.int .i64 y1, .int .i64 y2] 27)) h n L (.slice A5 n c5) k (k + 1) v' (.slice Av k cv)) := H5.out.below ((Below.refl _ _).alloc (Nat.le_refl _) _)
            have HSZ : Hid (w.heap.size ≤ (w5.alloc (.cells #[.int .i64 y1, .int .i64 y2] 27)).heap.size) := HS6.out.one.be.size
            have HBT : Hid ((L.take k).length + 1 ≤ 1000) := by show _ ≤ _; rw [List.length_take]; omega
            have HB8 : Hid (((L.take k).map eX).length + [[Value.int .i64 y1, .int .i64 y2]].length ≤ maxLen) := by show _ ≤ _; rw [List.length_map]; have := HBT.out; show _ + 1 ≤ _; unfold maxLen; omega
            have HB9 : Hid ((((L.take k).map eX).length + [[Value.int .i64 y1, .int .i64 y2]].length) * 16 ≤ 140737488355328) := by show _ ≤ _; rw [List.length_map]; have := HBT.out; show (_ + 1) * 16 ≤ _; omega
            have HBA : Hid (∀ y ∈ [[Value.int .i64 y1, .int .i64 y2]], y.length = 2) := by intro y hy; simp only [List.mem_cons, List.not_mem_nil, or_false] at hy; subst hy; rfl
            clear H5
            go_wp2_with ((with_reducible refine append_ka _ rfl (.tmp 62) (.tmp 64) 30 rfl w.heap.size 27 _ 2 16 Try.underlying30 infoXP rfl (by omega) (.slice Av k cv) _ rfl HS6.out.ow ⟨w5.heap.size, 0, none⟩ 1 1 [[.int .i64 y1, .int .i64 y2]] rfl (RdK.of_bk HFR.out) HBA.out oneXP rfl HB8.out HB9.out HSZ.out ?_); intro v6 w6 hO6 hg6 hat6)
            have H6 : Hid (St w w6 h n L (.slice A5 n c5) (k + 1) (k + 1) v' v6) := HS6.out.app hkL.out (by rw [← HY.out]; exact hO6) hg6 hat6
            clear hO6 hg6 hat6 HS6 HFR HP5 HB8 HB9 HBA HBT HSZ
            go_wp2_with fail
            go_round
            case rel => exact ⟨k + 1, v', v6, by omega, by go_num, rfl, H6⟩
            case measure => simp [intOf]; omega
          · have hie : n = k := by omega
            subst hie
            obtain ⟨Ao, co, hvo⟩ := H.out.shape (Nat.le_of_eq HLn.out.symm)
            subst hvo
            have H0 : Hid (OneE w wr h n [] v) := by have := H.out.one; rw [List.drop_of_length_le (Nat.le_of_eq HLn.out)] at this; exact this
            clear hk hkn
            go_wp2_with fail
            refine (KZ.out wr h n v H0.out).mono ?_
            rintro e w4 ⟨rfl, ⟨v', hO⟩, hg⟩
            have H4 : Hid (St w w4 h n L (.slice A5 n c5) n n v' (.slice Ao n co)) := H.out.pop (by rw [List.drop_of_length_le (Nat.le_of_eq HLn.out)]; exact hO) hg
            clear hO hg H H0
            have H5 : Hid (St w (w4.alloc (.cells #[.int .i64 0, .int .i64 0] 27)) h n L (.slice A5 n c5) n n v' (.slice Ao n co)) := H4.out.below ((Below.refl _ _).alloc (Nat.le_refl _) _)
            clear H4
            go_wp2_with fail
            refine (KE.out _ Ao A5 n n co c5 L L (H5.out.reads HLn.out.symm) (OwnK.reads H5.out.al) (by omega) (by omega)).mono ?_
            rintro e w6 ⟨rfl, hb6⟩
            rw [show decide (L = L) = true from decide_eq_true rfl]
            have HR6 : Hid (RdP w6 Ao n L) := (H5.out.reads HLn.out.symm).later hb6
            have HB6 : Hid (Below w.heap.size w w6) := H5.out.one.be.trans (hb6.mono H5.out.one.be.size)
            clear hb6 H5
            go_wp2_with fail
            go_loopw [81] (fun s81 wr => ∃ i : Nat, i ≤ n ∧ s81 = .int .i64 i ∧ Hid (RdP wr Ao n L) ∧ Hid (Below w.heap.size w wr)) (fun s81 wr => n - (intOf s81).toNat)
            case atStart => exact ⟨0, Nat.zero_le _, rfl, HR6, HB6⟩
            case round =>
              clear HR6 HB6
              obtain ⟨i, hi, rfl, HR, HB⟩ := hrel
              by_cases hin : i < n
              · have hw1 : wrap64 ((i : Int) + 1) = ((i + 1 : Nat) : Int) := by unfold wrap64; omega
                by_cases hz : 0 < i
                · obtain ⟨j, hj⟩ : ∃ j, i = j + 1 := ⟨i - 1, by omega⟩
                  have hw2 : wrap64 ((i : Int) - 1) = (j : Int) := by unfold wrap64; omega
                  have hw3 : IntKind.i64.wrap ((i : Int) - 1) = (j : Int) := by rw [IntKind.wrap_i64]; omega
                  have hjn : j < n := by omega
                  have hiL : Hid (i < L.length) := by show _ < _; rw [HLn.out]; exact hin
                  have hjL : Hid (j < L.length) := by show _ < _; rw [HLn.out]; exact hjn
                  obtain ⟨⟨y1, y2⟩, hy⟩ : ∃ y, y = L[i]'hiL.out := ⟨_, rfl⟩
                  obtain ⟨⟨z1, z2⟩, hz2⟩ : ∃ y, y = L[j]'hjL.out := ⟨_, rfl⟩
                  have hle : ¬ (y1 < z1) := by
                    have h1 := (List.pairwise_iff_getElem.1 HSO.out) j i hjL.out hiL.out (by omega)
                    rw [← hy, ← hz2] at h1
                    exact fun h2 => by have : z1 ≤ y1 := h1; omega
                  obtain ⟨q, r, hA, _, hx⟩ := HR.out.at hiL.out
                  obtain ⟨q2, r2, hA2, _, hx2⟩ := HR.out.at hjL.out
                  rw [hA] at hA2
                  injection hA2 with hA2
                  injection hA2 with hA2 hA3
                  subst hA2 hA3
                  subst hA
                  rw [← hy] at hx
                  rw [← hz2] at hx2
                  have c1 : wr.cell? ⟨q, r + i * 2, none⟩ = some (.int .i64 y1) := by simpa using hx 0 _ rfl
                  have c2 : wr.cell? ⟨q, r + j * 2, none⟩ = some (.int .i64 z1) := by simpa using hx2 0 _ rfl
                  have hz1 : decide ((0 : Int) < (i : Int)) = true := decide_eq_true (by omega)
                  have hz3 : decide (0 < i) = true := decide_eq_true hz
                  have hg0 : decide (y1 < z1) = false := decide_eq_false hle
                  have hbq : q < wr.heap.size := World.block_lt_of_cell? wr _ c1
                  clear hx hx2 hy hz2 hj
                  go_wp2_with fail
                  refine wp_region_later (by kernel_rfl) (by kernel_rfl) ?_; have hL : ∀ (w : World) (x : Later w) (b o : Nat), b < w.heap.size → x.to.cell? ⟨b, o, none⟩ = w.cell? ⟨b, o, none⟩ := fun w x b o hb => x.cell hb; have hN := Later.some; (repeat (go_big_quiet_step ((fail)))); refine wpQuiet_nil ?_; intro w7 hw7; have hb7 := Later.out hw7; clear hw7 hL hN
                  have HR7 := Lib.hid (HR.out.later hb7)
                  have HB7 : Hid (Below w.heap.size w w7) := HB.out.trans (hb7.mono HB.out.size)
                  clear hb7 c1 c2 HR HB hw2 hw3 hbq
                  go_wp2_with fail
                  go_round
                  case rel => exact ⟨i + 1, by omega, by go_num, HR7, HB7⟩
                  case measure =>
                    first
                    | (rw [hw1]; show n - ((i + 1 : Nat) : Int).toNat < n - ((i : Nat) : Int).toNat; rw [Int.toNat_natCast, Int.toNat_natCast]; omega)
                    | (show n - ((i : Int) + 1).toNat < n - ((i : Nat) : Int).toNat; omega)
                · have hz0 : i = 0 := by omega
                  subst hz0
                  clear hz hw1
                  go_wp2_with fail
                  refine wp_region_later (by kernel_rfl) (by kernel_rfl) ?_; have hL : ∀ (w : World) (x : Later w) (b o : Nat), b < w.heap.size → x.to.cell? ⟨b, o, none⟩ = w.cell? ⟨b, o, none⟩ := fun w x b o hb => x.cell hb; have hN := Later.some; (repeat (go_big_quiet_step ((fail)))); refine wpQuiet_nil ?_; intro w7 hw7; have hb7 := Later.out hw7; clear hw7 hL hN
                  have HR7 := Lib.hid (HR.out.later hb7)
                  have HB7 : Hid (Below w.heap.size w w7) := HB.out.trans (hb7.mono HB.out.size)
                  clear hb7 HR HB
                  go_wp2_with fail
                  go_round
                  case rel => exact ⟨1, by omega, by go_num, HR7, HB7⟩
                  case measure => show n - (1 : Int).toNat < n - (0 : Int).toNat; simp; omega
              · have hie : n = i := by omega
                subst hie
                clear hi hin HSO
                go_wp2_with fail
                go_loopw [103] (fun s103 wr => ∃ i : Nat, i ≤ n ∧ s103 = .int .i64 i ∧ Hid (RdP wr Ao n L) ∧ Hid (Below w.heap.size w wr)) (fun s103 wr => n - (intOf s103).toNat)
                case atStart => exact ⟨0, Nat.zero_le _, rfl, HR, HB⟩
                case round =>
                  clear HR HB
                  obtain ⟨i, hi, rfl, HR, HB⟩ := hrel
                  obtain ⟨wo, hwo⟩ : ∃ W, W = wr := ⟨_, rfl⟩
                  subst hwo
                  by_cases hin : i < n
                  · have hw1 : wrap64 ((i : Int) + 1) = ((i + 1 : Nat) : Int) := by unfold wrap64; omega
                    have hil : Hid (i < l.length) := by show i < l.length; rw [← HN.out]; exact hin
                    obtain ⟨g, o, hA, hg, hx⟩ := HRD.out.at hil.out
                    subst hA
                    obtain ⟨⟨K, K2⟩, ex⟩ : ∃ x, x = l[i]'hil.out := ⟨_, rfl⟩
                    rw [← ex] at hx
                    have HCK : Hid (∀ W, Below w.heap.size w W → W.cell? ⟨g, o + i * 2, none⟩ = some (.int .i64 K)) := fun W hb => by
                      simpa using range_keep hx hb 0 _ rfl
                    clear hx ex hg
                    go_wp2_with fail
                    go_loopw [108, 13, 14] (fun s108 s13 s14 wr => ∃ (k : Nat) (va vb : Value), k ≤ n ∧ s108 = .int .i64 k ∧ s13 = va ∧ s14 = vb ∧ Hid (Two wo wr (isK K) l L k k va vb)) (fun s108 s13 s14 wr => n - (intOf s108).toNat)
                    case atStart => exact ⟨0, _, _, Nat.zero_le _, rfl, rfl, rfl, Two.start _ _ _ _⟩
                    case round =>
                      obtain ⟨k, va, vb, hk, rfl, rfl, rfl, H⟩ := hrel
                      obtain ⟨Aa, ma, ca, Ab, mb, cb, hva, hvb⟩ := H.out.shapes
                      subst hva hvb
                      by_cases hkn : k < n
                      · have hw2 : wrap64 ((k : Int) + 1) = ((k + 1 : Nat) : Int) := by unfold wrap64; omega
                        have hkl : Hid (k < l.length) := by show _ < _; rw [← HN.out]; exact hkn
                        have hkL : Hid (k < L.length) := by show _ < _; rw [HLn.out]; exact hkn
                        obtain ⟨g', o', hA', _, hx⟩ := HRD.out.at hkl.out
                        injection hA' with hA'
                        injection hA' with hA' hA3
                        subst hA' hA3
                        obtain ⟨⟨x1, x2⟩, ex⟩ : ∃ x, x = l[k]'hkl.out := ⟨_, rfl⟩
                        rw [← ex] at hx
                        have HX := Lib.hid ex
                        have HXR : Hid (w.rangeAt g (o + k * 2) (#[.int .i64 x1, .int .i64 x2] : Array Value).toList) := hx
                        obtain ⟨q, r, hA2, _, hx2⟩ := HR.out.at hkL.out
                        subst hA2
                        obtain ⟨⟨y1, y2⟩, ey⟩ : ∃ x, x = L[k]'hkL.out := ⟨_, rfl⟩
                        rw [← ey] at hx2
                        have HY := Lib.hid ey
                        have HYR : Hid (wo.rangeAt q (r + k * 2) (#[.int .i64 y1, .int .i64 y2] : Array Value).toList) := hx2
                        have HCY : Hid (∀ W, Below w.heap.size w W → Below wo.heap.size wo W → W.cell? ⟨q, r + k * 2, none⟩ = some (.int .i64 y1) ∧ W.cell? ⟨g, o + i * 2, none⟩ = some (.int .i64 K)) := fun W h1 h2 => ⟨by simpa using range_keep HYR.out h2 0 _ rfl, HCK.out W h1⟩
                        have hbe : Below w.heap.size w wr := HB.out.trans (H.out.be.mono HB.out.size)
                        have c1 : wr.cell? ⟨g, o + k * 2, none⟩ = some (.int .i64 x1) := by simpa using range_keep HXR.out hbe 0 _ rfl
                        have c2 := HCK.out wr hbe
                        clear hbe hx hx2 ex ey
                        go_wp2_with fail
                        go_quiet (fail)
                        obtain ⟨w6, hW⟩ : ∃ W, W = wr.drewN nq := ⟨_, rfl⟩
                        rw [← hW]
                        have hbq : Below wr.heap.size wr w6 := by rw [hW]; exact below_drewN (Below.refl _ _) _
                        clear hW
                        have H6 : Hid (Two wo w6 (isK K) l L k k (.slice Aa ma ca) (.slice Ab mb cb)) := H.out.below hbq
                        clear hbq c1 c2 H
                        cases hx : (x1 == K) with
                        | true =>
                          have HP : Hid (isK K (l[k]'hkl.out) = true) := by rw [← HX.out]; exact hx
                          have HFR : Hid (Bk (w6.alloc (.cells #[.int .i64 x1, .int .i64 x2] 27)) w6.heap.size 27 #[.int .i64 x1, .int .i64 x2]) := Bk.fresh _ _ _
                          have HS7 : Hid (Two wo (w6.alloc (.cells #[.int .i64 x1, .int .i64 x2] 27)) (isK K) l L k k (.slice Aa ma ca) (.slice Ab mb cb)) := H6.out.below ((Below.refl _ _).alloc (Nat.le_refl _) _)
                          have HSZ : Hid (wo.heap.size ≤ (w6.alloc (.cells #[.int .i64 x1, .int .i64 x2] 27)).heap.size) := HS7.out.be.size
                          have HBT : Hid (((l.take k).filter (isK K)).length + 1 ≤ 1000) := by show _ ≤ _; refine Nat.le_trans (Nat.succ_le_succ (List.length_filter_le _ _)) ?_; rw [List.length_take]; omega
                          have HB8 : Hid ((((l.take k).filter (isK K)).map eX).length + [[Value.int .i64 x1, .int .i64 x2]].length ≤ maxLen) := by show _ ≤ _; rw [List.length_map]; have := HBT.out; show _ + 1 ≤ _; unfold maxLen; omega
                          have HB9 : Hid (((((l.take k).filter (isK K)).map eX).length + [[Value.int .i64 x1, .int .i64 x2]].length) * 16 ≤ 140737488355328) := by show _ ≤ _; rw [List.length_map]; have := HBT.out; show (_ + 1) * 16 ≤ _; omega
                          have HBA : Hid (∀ y ∈ [[Value.int .i64 x1, .int .i64 x2]], y.length = 2) := by intro y hy; simp only [List.mem_cons, List.not_mem_nil, or_false] at hy; subst hy; rfl
                          have HRG : Hid (w6.rangeAt g (o + k * 2) (#[.int .i64 x1, .int .i64 x2] : Array Value).toList) := range_keep HXR.out (HB.out.trans (H6.out.be.mono HB.out.size))
                          clear hx H6
                          go_wp2_with (first | (with_reducible refine load_rg rfl 27 _ rfl g (o + k * 2) rfl #[.int .i64 x1, .int .i64 x2] _ HRG.out Try.underlying27 rfl (by kernel_rfl) ?_) | ((with_reducible refine append_ka _ rfl (.tmp 122) (.tmp 127) 30 rfl wo.heap.size 27 _ 2 16 Try.underlying30 infoXP rfl (by omega) (.slice Aa ma ca) _ rfl HS7.out.a ⟨w6.heap.size, 0, none⟩ 1 1 [[.int .i64 x1, .int .i64 x2]] rfl (RdK.of_bk HFR.out) HBA.out oneXP rfl HB8.out HB9.out HSZ.out ?_); intro v7 w7 hO7 hg7 hat7))
                          have H7 : Hid (Two wo w7 (isK K) l L (k + 1) k v7 (.slice Ab mb cb)) := HS7.out.appA hkl.out HP.out (by rw [← HX.out]; exact hO7) hg7 hat7
                          clear hO7 hg7 hat7 HS7 HFR HB8 HB9 HBA HSZ HRG HBT HP
                          go_wp2_with fail
                          obtain ⟨d1, d2⟩ := HCY.out w7 (HB.out.trans (H7.out.be.mono HB.out.size)) H7.out.be
                          go_quiet (fail)
                          obtain ⟨w8, hW⟩ : ∃ W, W = w7.drewN nq := ⟨_, rfl⟩
                          rw [← hW]
                          have hbq : Below w7.heap.size w7 w8 := by rw [hW]; exact below_drewN (Below.refl _ _) _
                          clear hW
                          have H8 : Hid (Two wo w8 (isK K) l L (k + 1) k v7 (.slice Ab mb cb)) := H7.out.below hbq
                          have hs8 : Below w.heap.size w w8 := HB.out.trans (H8.out.be.mono HB.out.size)
                          clear hbq d1 d2 H7
                          cases hy : (y1 == K) with
                          | true =>
                            have HP : Hid (isK K (L[k]'hkL.out) = true) := by rw [← HY.out]; exact hy
                            have HFR : Hid (Bk (w8.alloc (.cells #[.int .i64 y1, .int .i64 y2] 27)) w8.heap.size 27 #[.int .i64 y1, .int .i64 y2]) := Bk.fresh _ _ _
                            have HS9 : Hid (Two wo (w8.alloc (.cells #[.int .i64 y1, .int .i64 y2] 27)) (isK K) l L (k + 1) k v7 (.slice Ab mb cb)) := H8.out.below ((Below.refl _ _).alloc (Nat.le_refl _) _)
                            have HSZ : Hid (wo.heap.size ≤ (w8.alloc (.cells #[.int .i64 y1, .int .i64 y2] 27)).heap.size) := HS9.out.be.size
                            have HBT : Hid (((L.take k).filter (isK K)).length + 1 ≤ 1000) := by show _ ≤ _; refine Nat.le_trans (Nat.succ_le_succ (List.length_filter_le _ _)) ?_; rw [List.length_take]; omega
                            have HB8 : Hid ((((L.take k).filter (isK K)).map eX).length + [[Value.int .i64 y1, .int .i64 y2]].length ≤ maxLen) := by show _ ≤ _; rw [List.length_map]; have := HBT.out; show _ + 1 ≤ _; unfold maxLen; omega
                            have HB9 : Hid (((((L.take k).filter (isK K)).map eX).length + [[Value.int .i64 y1, .int .i64 y2]].length) * 16 ≤ 140737488355328) := by show _ ≤ _; rw [List.length_map]; have := HBT.out; show (_ + 1) * 16 ≤ _; omega
                            have HBA : Hid (∀ y ∈ [[Value.int .i64 y1, .int .i64 y2]], y.length = 2) := by intro y hy; simp only [List.mem_cons, List.not_mem_nil, or_false] at hy; subst hy; rfl
                            have HRG : Hid (w8.rangeAt q (r + k * 2) (#[.int .i64 y1, .int .i64 y2] : Array Value).toList) := range_keep HYR.out H8.out.be
                            clear hs8 hy H8
                            go_wp2_with (first | (with_reducible refine load_rg rfl 27 _ rfl q (r + k * 2) rfl #[.int .i64 y1, .int .i64 y2] _ HRG.out Try.underlying27 rfl (by kernel_rfl) ?_) | ((with_reducible refine append_ka _ rfl (.tmp 140) (.tmp 145) 30 rfl wo.heap.size 27 _ 2 16 Try.underlying30 infoXP rfl (by omega) (.slice Ab mb cb) _ rfl HS9.out.b ⟨w8.heap.size, 0, none⟩ 1 1 [[.int .i64 y1, .int .i64 y2]] rfl (RdK.of_bk HFR.out) HBA.out oneXP rfl HB8.out HB9.out HSZ.out ?_); intro v9 w9 hO9 hg9 hat9))
                            have HZ : Hid (Two wo w9 (isK K) l L (k + 1) (k + 1) v7 v9) := HS9.out.appB hkL.out HP.out (by rw [← HY.out]; exact hO9) hg9 hat9
                            clear hO9 hg9 hat9 HS9 HFR HB8 HB9 HBA HSZ HRG HBT
                            go_wp2_with fail
                            go_round
                            case rel => exact ⟨k + 1, _, _, by omega, by go_num, rfl, rfl, HZ⟩
                            case measure =>
                              first
                              | (rw [hw2]; show n - ((k + 1 : Nat) : Int).toNat < n - ((k : Nat) : Int).toNat; rw [Int.toNat_natCast, Int.toNat_natCast]; omega)
                              | (show n - ((k : Int) + 1).toNat < n - ((k : Nat) : Int).toNat; omega)
                          | false =>
                            have HP : Hid (isK K (L[k]'hkL.out) = false) := by rw [← HY.out]; exact hy
                            have HZ := Lib.hid (H8.out.skipB hkL.out HP.out)
                            clear hs8 H8
                            go_wp2_with fail
                            go_round
                            case rel => exact ⟨k + 1, _, _, by omega, by go_num, rfl, rfl, HZ⟩
                            case measure =>
                              first
                              | (rw [hw2]; show n - ((k + 1 : Nat) : Int).toNat < n - ((k : Nat) : Int).toNat; rw [Int.toNat_natCast, Int.toNat_natCast]; omega)
                              | (show n - ((k : Int) + 1).toNat < n - ((k : Nat) : Int).toNat; omega)
                        | false =>
                          have HP : Hid (isK K (l[k]'hkl.out) = false) := by rw [← HX.out]; exact hx
                          have H7 := Lib.hid (H6.out.skipA hkl.out HP.out)
                          clear H6 HP
                          go_wp2_with fail
                          obtain ⟨d1, d2⟩ := HCY.out w6 (HB.out.trans (H7.out.be.mono HB.out.size)) H7.out.be
                          go_quiet (fail)
                          obtain ⟨w8, hW⟩ : ∃ W, W = w6.drewN nq := ⟨_, rfl⟩
                          rw [← hW]
                          have hbq : Below w6.heap.size w6 w8 := by rw [hW]; exact below_drewN (Below.refl _ _) _
                          clear hW
                          have H8 : Hid (Two wo w8 (isK K) l L (k + 1) k (.slice Aa ma ca) (.slice Ab mb cb)) := H7.out.below hbq
                          have hs8 : Below w.heap.size w w8 := HB.out.trans (H8.out.be.mono HB.out.size)
                          clear hbq d1 d2 H7
                          cases hy : (y1 == K) with
                          | true =>
                            have HP : Hid (isK K (L[k]'hkL.out) = true) := by rw [← HY.out]; exact hy
                            have HFR : Hid (Bk (w8.alloc (.cells #[.int .i64 y1, .int .i64 y2] 27)) w8.heap.size 27 #[.int .i64 y1, .int .i64 y2]) := Bk.fresh _ _ _
                            have HS9 : Hid (Two wo (w8.alloc (.cells #[.int .i64 y1, .int .i64 y2] 27)) (isK K) l L (k + 1) k (.slice Aa ma ca) (.slice Ab mb cb)) := H8.out.below ((Below.refl _ _).alloc (Nat.le_refl _) _)
                            have HSZ : Hid (wo.heap.size ≤ (w8.alloc (.cells #[.int .i64 y1, .int .i64 y2] 27)).heap.size) := HS9.out.be.size
                            have HBT : Hid (((L.take k).filter (isK K)).length + 1 ≤ 1000) := by show _ ≤ _; refine Nat.le_trans (Nat.succ_le_succ (List.length_filter_le _ _)) ?_; rw [List.length_take]; omega
                            have HB8 : Hid ((((L.take k).filter (isK K)).map eX).length + [[Value.int .i64 y1, .int .i64 y2]].length ≤ maxLen) := by show _ ≤ _; rw [List.length_map]; have := HBT.out; show _ + 1 ≤ _; unfold maxLen; omega
                            have HB9 : Hid (((((L.take k).filter (isK K)).map eX).length + [[Value.int .i64 y1, .int .i64 y2]].length) * 16 ≤ 140737488355328) := by show _ ≤ _; rw [List.length_map]; have := HBT.out; show (_ + 1) * 16 ≤ _; omega
                            have HBA : Hid (∀ y ∈ [[Value.int .i64 y1, .int .i64 y2]], y.length = 2) := by intro y hy; simp only [List.mem_cons, List.not_mem_nil, or_false] at hy; subst hy; rfl
                            have HRG : Hid (w8.rangeAt q (r + k * 2) (#[.int .i64 y1, .int .i64 y2] : Array Value).toList) := range_keep HYR.out H8.out.be
                            clear hs8 hy H8
                            go_wp2_with (first | (with_reducible refine load_rg rfl 27 _ rfl q (r + k * 2) rfl #[.int .i64 y1, .int .i64 y2] _ HRG.out Try.underlying27 rfl (by kernel_rfl) ?_) | ((with_reducible refine append_ka _ rfl (.tmp 140) (.tmp 145) 30 rfl wo.heap.size 27 _ 2 16 Try.underlying30 infoXP rfl (by omega) (.slice Ab mb cb) _ rfl HS9.out.b ⟨w8.heap.size, 0, none⟩ 1 1 [[.int .i64 y1, .int .i64 y2]] rfl (RdK.of_bk HFR.out) HBA.out oneXP rfl HB8.out HB9.out HSZ.out ?_); intro v9 w9 hO9 hg9 hat9))
                            have HZ : Hid (Two wo w9 (isK K) l L (k + 1) (k + 1) (.slice Aa ma ca) v9) := HS9.out.appB hkL.out HP.out (by rw [← HY.out]; exact hO9) hg9 hat9
                            clear hO9 hg9 hat9 HS9 HFR HB8 HB9 HBA HSZ HRG HBT
                            go_wp2_with fail
                            go_round
                            case rel => exact ⟨k + 1, _, _, by omega, by go_num, rfl, rfl, HZ⟩
                            case measure =>
                              first
                              | (rw [hw2]; show n - ((k + 1 : Nat) : Int).toNat < n - ((k : Nat) : Int).toNat; rw [Int.toNat_natCast, Int.toNat_natCast]; omega)
                              | (show n - ((k : Int) + 1).toNat < n - ((k : Nat) : Int).toNat; omega)
                          | false =>
                            have HP : Hid (isK K (L[k]'hkL.out) = false) := by rw [← HY.out]; exact hy
                            have HZ := Lib.hid (H8.out.skipB hkL.out HP.out)
                            clear hs8 H8
                            go_wp2_with fail
                            go_round
                            case rel => exact ⟨k + 1, _, _, by omega, by go_num, rfl, rfl, HZ⟩
                            case measure =>
                              first
                              | (rw [hw2]; show n - ((k + 1 : Nat) : Int).toNat < n - ((k : Nat) : Int).toNat; rw [Int.toNat_natCast, Int.toNat_natCast]; omega)
                              | (show n - ((k : Int) + 1).toNat < n - ((k : Nat) : Int).toNat; omega)
                      · have hie : n = k := by omega
                        subst hie
                        obtain ⟨Aa2, ca2, Ab2, cb2, m, hva, hvb, hm, hra, hrb⟩ := H.out.done HN.out HLn.out.symm (HKY.out K)
                        injection hva with hva hvb2 hvc
                        subst hva hvb2 hvc
                        injection hvb with hvb hvb2 hvc
                        subst hvb hvb2 hvc
                        have HRA := Lib.hid hra
                        have HRB := Lib.hid hrb
                        clear hra hrb hk hkn
                        go_wp2_with fail
                        refine (KE.out wr _ _ _ _ _ _ _ _ HRA.out HRB.out (by omega) (by omega)).mono ?_
                        rintro e w9 ⟨rfl, hb9⟩
                        rw [show decide (l.filter (isK K) = l.filter (isK K)) = true from decide_eq_true rfl]
                        have hbb : Below wo.heap.size wo w9 := H.out.be.trans (hb9.mono H.out.be.size)
                        have HR9 := Lib.hid (HR.out.later hbb)
                        have HB9 : Hid (Below w.heap.size w w9) := HB.out.trans (hbb.mono HB.out.size)
                        clear hbb hb9 HRA HRB H HR HB
                        go_wp2_with fail
                        go_round
                        case rel => exact ⟨i + 1, by omega, by go_num, HR9, HB9⟩
                        case measure =>
                      first
                      | (rw [hw1]; show n - ((i + 1 : Nat) : Int).toNat < n - ((i : Nat) : Int).toNat; rw [Int.toNat_natCast, Int.toNat_natCast]; omega)
                      | (show n - ((i : Int) + 1).toNat < n - ((i : Nat) : Int).toNat; omega)
                  · have hie : n = i := by omega
                    subst hie
                    clear hi hin
                    go_wp2_with fail
                    go_ret
                    exact ⟨rfl, HB.out⟩
end heapSorts
end Go.Proofs.Ytkadcaihihgceaa
