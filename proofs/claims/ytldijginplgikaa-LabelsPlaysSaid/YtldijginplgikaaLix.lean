/- Layer 18: With of at least one label. Condition: at most 100000 names, at most 1000 labels. -/
import Derived.Test.YtldijginplgikaaLiw
namespace Go.Proofs.Ytldijginplgikaa
open Go.RowKit
set_option linter.unusedSimpArgs false
set_option linter.unusedVariables false

set_option maxHeartbeats 6400000 in
set_option maxRecDepth 100000 in
theorem withS_any (b g : Nat) (o1 o2 : Option Nat) (D : List NH) (S : List SB) (T : Nat → List ByteArray) (A : Option Addr) (n c : Nat) (l : List Lb) (w : World) (hX : Hid (Xm w b g o1 o2 D S T)) (hO : Hid ((⟨A, n, c, l⟩ : Hd).Ok w)) (h0 : 0 < n) (hbig : n ≤ 1000) (hT : ∀ lb, (nmS S T lb).length ≤ 100000) :
    Calls Try.prog 15 #[.pointer (some ⟨g, 0, none⟩), .slice A n c] w fun e w' => (∃ m A c, e = .returned (.slice A (List.length m) c) ∧ OwnK w' w.heap.size 9 1 (.slice A (List.length m) c) (cellsS m) ∧ (m.Nodup ∧ ∀ s, s ∈ m ↔ ∀ lb ∈ l, InS S T lb s) ∧ m.Pairwise (fun x y => sL y x = false)) ∧ Below w.heap.size w w' := by
  have KW := Lib.hid (wanted_any b g o1 o2 D S T A n c l w hX hO hbig)
  have KM := Lib.hid (fun (W : World) (A : Option Addr) (n c : Nat) (xs : List (Option Nat)) (h1 : n = xs.length) (h2 : 0 < n) (h3 : n ≤ 1000000) (h4 : RdK W 1 A (cellsO xs)) (h5 : Sets W xs (namesO T)) => min_any A n c xs (namesO T) W h1 h2 h3 (Lib.hid h4) (Lib.hid h5))
  have KI := Lib.hid (fun (W : World) (s : ByteArray) (A : Option Addr) (n c : Nat) (xs : List (Option Nat)) (h1 : n = xs.length) (h3 : n ≤ 1000000) (h4 : RdK W 1 A (cellsO xs)) (h5 : Sets W xs (namesO T)) => inAll_any s A n c xs (namesO T) W h1 h3 (Lib.hid h4) (Lib.hid h5))
  have KS : Hid (∀ (w : World) (b n c : Nat) (A : Option Addr) (l : List ByteArray), n ≤ 1000000 → Hid (OwnK w b 9 1 (.slice A n c) (cellsS l)) → Calls Try.prog 26 #[.slice A n c] w fun e w' => e = .returned (.tuple #[]) ∧ (∃ l', l'.Perm l ∧ l'.Pairwise (fun x y => sL y x = false) ∧ OwnK w' b 9 1 (.slice A n c) (cellsS l')) ∧ Below b w w') := fun w b n c A l h1 h2 => sortS_any w b n c A l h1 h2
  have HT := Lib.hid hT
  have H0 := Lib.hid h0
  have HBG := Lib.hid hbig
  have HLN : Hid (n = l.length) := hO.out.ln
  have hn0 : ((n : Int) == 0) = false := by rw [Bool.eq_false_iff]; intro e; have : n = 0 := by simpa using e
                                            omega
  clear hT h0 hbig
  go_enter Try.func15, Try.ntmps15
  go_wp2_with fail
  clear hn0
  refine KW.out.mono ?_
  rintro e w1 ⟨⟨v, xs, rfl, ho, hlen, hx1, hx2⟩, hb1⟩
  obtain ⟨A1, c1, hs⟩ := ho.sl
  obtain ⟨q, hq⟩ : ∃ q, q = xs.length := ⟨_, rfl⟩
  have hv := hs.val
  rw [cellsO_length, ← hq] at hv
  subst hv
  have hq0 : 0 < q := by
    rw [hq]
    have hl : 0 < l.length := by rw [← HLN.out]; exact H0.out
    exact List.length_pos_of_mem (hx2 _ (List.getElem_mem hl))
  have hq1 : q ≤ 1000000 := by have := HBG.out; omega
  have HRD : Hid (RdK w1 1 A1 (cellsO xs)) := hs.rd
  have HB1 := Lib.hid hb1
  have HX1m := Lib.hid (hX.out.later hb1)
  have HSS : Hid (Sets w1 xs (namesO T)) := fun o ho => by
    obtain ⟨lb, _, rfl⟩ := hx1 o ho
    rw [namesO_fS]; exact HX1m.out.set lb
  have HOX1 := Lib.hid hx1
  have HOX2 := Lib.hid hx2
  have HQ := Lib.hid hq
  have HQ1 := Lib.hid hq1
  have K2 := Lib.hid (KM.out w1 A1 q c1 xs hq hq0 hq1 HRD.out HSS.out)
  clear hs hq hq0 hq1 hb1 hx1 hx2 ho hlen KW KM
  go_wp2_with fail
  refine K2.out.mono ?_
  rintro e w' ⟨⟨o, ho, rfl⟩, hw'⟩
  rw [hw']
  clear hw' w' K2
  have HO := Lib.hid ho
  have HMO := Lib.hid (HSS.out o ho)
  obtain ⟨L, hL⟩ : ∃ L, L = (namesO T o).map eNm := ⟨_, rfl⟩
  have HM : Hid (MapH Value.string w1 (.map o) L) := by rw [hL]; exact HMO.out
  have HLE : Hid (L.map Prod.fst = namesO T o) := by show _ = _; rw [hL]; exact fst_eNm _
  have HLL : Hid (L.length ≤ 100000) := by
    show _ ≤ _
    rw [hL, List.length_map]
    obtain ⟨lb, _, e⟩ := HOX1.out o ho
    rw [e, namesO_fS]; exact HT.out lb
  clear ho hL
  go_wp2_with ((with_reducible refine range_g rfl _ 53 rfl 9 _ Try.underlying53 (.map o) rfl HM.out ?_); intro r w2 hr0 hrg hb2 hs2; have HR2 : Hid (Wn w1 w2 (.map o) r L (allN (namesO T) xs) [] [] L [] (.slice none 0 0)) := ⟨hb2, OwnK.nil _ _ _ _, by simp, List.Perm.refl _, hrg, by rw [hr0]; exact Nat.le_refl _⟩; clear hr0 hrg hb2 hs2)
  go_frame
  go_loopw [7] (fun s7 wq => ∃ (dn tn : EntG ByteArray) (ms : List ByteArray) (v : Value), s7 = v ∧ Hid (Wn w1 wq (.map o) r L (allN (namesO T) xs) dn [] tn ms v)) (fun s7 wq => rngLeft wq r)
  case atStart => exact ⟨[], L, [], _, rfl, HR2⟩
  case round =>
    clear HR2
    obtain ⟨dn, tn, ms, v, h7, H⟩ := hrel
    obtain ⟨A', c', hv, _, _, _⟩ := H.out.ow.rds
    obtain ⟨q', hq'⟩ : ∃ q, q = ms.length := ⟨_, rfl⟩
    rw [← hq'] at hv
    subst hv
    subst h7
    have HQ' := Lib.hid hq'
    have HRG := Lib.hid H.out.rg
    clear hq'
    go_wp2_with ((with_reducible refine next_g (fun a b h => by injection h) rfl _ rfl r rfl HRG.out ?_ ?_))
    case refine_1 =>
      intro htn
      subst htn
      have HQM : Hid (q' ≤ 1000000) := by show q' ≤ _; have h1 := H.out.len; have := HLL.out; rw [HQ'.out]; omega
      have HOW := Lib.hid H.out.ow
      have HBE := Lib.hid H.out.be
      have HPM : Hid (ms.Perm ((namesO T o).filter (allN (namesO T) xs))) := by
        have h1 : (dn.map Prod.fst).Perm (namesO T o) := by
          have := H.out.al
          simp only [List.append_nil] at this
          have := this.map Prod.fst
          rwa [HLE.out] at this
        exact H.out.pm.trans (h1.filter _)
      have K3 := Lib.hid (KS.out wr w1.heap.size q' c' A' ms HQM.out HOW)
      clear H HRG KS KI
      go_wp2_with fail
      refine K3.out.mono ?_
      rintro e w7 ⟨rfl, ⟨m, hmp, hms, hmo⟩, hb7⟩
      have HMQ : Hid (q' = m.length) := by show q' = _; rw [HQ'.out, hmp.length_eq]
      have HMP := Lib.hid hmp
      have HMS := Lib.hid hms
      have HMW := Lib.hid hmo
      have HB7 := Lib.hid hb7
      clear hmp hms hmo hb7 K3
      go_wp2_with fail
      go_ret
      have hpm := HMP.out.trans HPM.out
      have hnd : (namesO T o).Nodup := by
        obtain ⟨lb, _, e⟩ := HOX1.out o HO.out
        rw [e, namesO_fS]; exact HX1m.out.names lb
      refine ⟨⟨m, A', c', by rw [← HMQ.out]; rfl, by rw [← HMQ.out]; exact HMW.out.base HB1.out.size, ⟨hpm.nodup_iff.2 (hnd.filter _), fun s => ?_⟩, HMS.out⟩, HB1.out.trans ((HBE.out.trans HB7.out).mono HB1.out.size)⟩
      rw [hpm.mem_iff, List.mem_filter]
      have hin : ∀ lb, InS S T lb s ↔ s ∈ namesO T (fS S lb) := fun lb => by rw [namesO_fS]; exact inS_nm HX1m.out.keys
      constructor
      · rintro ⟨h1, h2⟩ lb hlb
        rw [hin]
        exact inT_iff.1 (List.all_eq_true.1 h2 _ (HOX2.out lb hlb))
      · intro h
        have hall : ∀ o' ∈ xs, s ∈ namesO T o' := fun o' ho' => by
          obtain ⟨lb, hlb, e⟩ := HOX1.out o' ho'
          rw [e, ← hin]; exact h lb hlb
        exact ⟨hall o HO.out, List.all_eq_true.2 fun o' ho' => inT_iff.2 (hall o' ho')⟩
    case refine_2 =>
      intro s v tn' w5 hp hr hg hs5 hen
      have H2 := Lib.hid (H.out.next hp hr hg)
      have HLT : Hid (tn'.length < tn.length) := by show _ < _; rw [hp.length_eq]; simp
      have HTL := Lib.hid H.out.rg.left_eq
      have K4 := Lib.hid (KI.out w5 s A1 q c1 xs HQ.out HQ1.out (HRD.out.later H2.out.be) (HSS.out.later H2.out.be))
      clear hp hr hg hs5 H HRG
      go_wp2_with fail
      refine K4.out.mono ?_
      rintro e w6 ⟨rfl, hb6⟩
      have H6 := Lib.hid (H2.out.below hb6)
      clear hb6 H2 hen K4
      cases hf : allN (namesO T) xs s with
      | false =>
        have H7 := Lib.hid (H6.out.skip hf)
        have HTL7 := Lib.hid H7.out.rg.left_eq
        clear H6 hf
        go_wp2_with fail
        go_round
        case rel => exact ⟨_, _, _, _, rfl, H7⟩
        case measure => rw [HTL7.out, HTL.out]; exact HLT.out
      | true =>
        have HF := Lib.hid hf
        have hmq : ms.length ≤ 100000 := Nat.le_trans H6.out.len HLL.out
        have HMQ := Lib.hid hmq
        have HFR : Hid (Bk (w6.alloc (.cells #[.string s] 9)) w6.heap.size 9 #[.string s]) := Bk.fresh _ _ _
        have H6a := Lib.hid (H6.out.below ((Below.refl _ _).alloc (Nat.le_refl _) (.cells #[.string s] 9)))
        have HSZ : Hid (w1.heap.size ≤ (w6.alloc (.cells #[.string s] 9)).heap.size) := H6a.out.be.size
        have hb1 : (cellsS ms).length + (cellsS [s]).length ≤ maxLen := by rw [cellsS_length, cellsS_length]; simp [maxLen]; omega
        have hb2 : ((cellsS ms).length + (cellsS [s]).length) * 16 ≤ 140737488355328 := by rw [cellsS_length, cellsS_length]; simp; omega
        have HX1 := Lib.hid hb1
        have HX2 := Lib.hid hb2
        clear hmq hf hb1 hb2
        go_wp2_with ((with_reducible refine append_k _ rfl (.tmp 34) (.tmp 36) 28 rfl w1.heap.size 9 _ 1 16 Try.underlying28 infoS rfl (by omega) (.slice A' q' c') (cellsS ms) rfl H6a.out.ow ⟨w6.heap.size, 0, none⟩ 1 1 (cellsS [s]) rfl (RdK.of_bk HFR.out) (cellsS_k _) (cellsS_one _) rfl HX1.out HX2.out HSZ.out ?_); intro v7 w7 hO7 hg7; rw [← cellsS_append] at hO7; have H7 := Lib.hid (H6a.out.put hO7 hg7 HF.out); clear hO7 hg7)
        have HTL7 := Lib.hid H7.out.rg.left_eq
        clear H6 H6a HFR HSZ HX1 HX2 HMQ
        go_round
        case rel => exact ⟨_, _, _, _, rfl, H7⟩
        case measure => rw [HTL7.out, HTL.out]; exact HLT.out
end Go.Proofs.Ytldijginplgikaa
