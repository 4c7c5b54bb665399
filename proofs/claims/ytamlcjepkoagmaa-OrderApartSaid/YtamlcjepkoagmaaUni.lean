/- The contract of the document's own Units (layer 14). Condition: the slice reads as a list of jobs, of at most 1000000. -/
import Derived.Test.YtamlcjepkoagmaaMny
import Derived.Deep.DeepCutAuto
namespace Go.Proofs.Ytamlcjepkoagmaa
open Go.RowKit
set_option linter.unusedSimpArgs false
set_option linter.unusedVariables false

theorem firstK_take {l : List Jb} {s : ByteArray} {S : List Nat} {a : Nat} (h : a < S.length) : firstK l s (S.take (a + 1)) = (firstK l s (S.take a) && !sE (jat l S[a]).ga s) := by
  unfold firstK; rw [List.take_succ_eq_append_getElem h, List.all_append]; simp
theorem gangOf_take {l : List Jb} {s : ByteArray} {S : List Nat} {a : Nat} (h : a < S.length) : gangOf l s (S.take (a + 1)) = gangOf l s (S.take a) ++ if sE (jat l S[a]).ga s then [S[a]] else [] := by
  unfold gangOf; rw [List.take_succ_eq_append_getElem h, List.filter_append]
  cases he : sE (jat l S[a]).ga s
  · rw [List.filter_cons_of_neg (p := fun y => sE (jat l y).ga s) (by show ¬ sE (jat l S[a]).ga s = true; rw [he]; exact Bool.false_ne_true)]; simp
  · rw [List.filter_cons_of_pos (p := fun y => sE (jat l y).ga s) he]; simp
theorem gangOf_len (l : List Jb) (s : ByteArray) (S : List Nat) : (gangOf l s S).length ≤ S.length := List.length_filter_le _ _
theorem rdOf {w : World} {b : Nat} {B : Option Addr} {q c : Nat} {l : List Int} {e : TypeId} (h : OwnK w b e 1 (.slice B q c) (cellsI l)) : RdI w B l := by
  obtain ⟨A, c', hv, hr, _⟩ := h.rdi
  injection hv with h1
  subst h1; exact hr
theorem RdJ.at_later {w : World} (x : Later w) {A : Option Addr} {l : List Jb} (h : RdJ w A l) : RdJ x.to A l := h.later x.below

set_option maxHeartbeats 25600000 in
set_option maxRecDepth 100000 in
theorem runits_any (A : Option Addr) (n cap : Nat) (l : List Jb) (w : World) (hn : Hid (n = l.length)) (hl : n ≤ 1000000) (hA : Hid (RdJ w A l)) :
    Calls Try.prog 12 #[.slice A n cap] w fun e w' => RetU w.heap.size w' e (unitsK l (srt14 l n) (srt14 l n).length) ∧ Below w.heap.size w w' := by
  have k1 := fun (W : World) (h : Hid (RdJ W A l)) => rsorted14_any A n cap l W hn hl h
  obtain ⟨S, hS⟩ : ∃ S, S = srt14 l n := ⟨_, rfl⟩
  rw [← hS] at k1
  rw [← hS]
  have hSl : S.length ≤ n := by rw [hS]; exact wk_len n
  have hSlt : ∀ y ∈ S, y < l.length := fun y hy => by rw [hS] at hy; have := wk_lt n y hy; have := hn.out; omega
  have K1 := Lib.hid k1; have HSlt := Lib.hid hSlt
  obtain ⟨q, hq⟩ : ∃ q, q = S.length := ⟨_, rfl⟩
  rw [← hq]
  have HQ := Lib.hid hq
  clear k1 hS hSlt
  go_enter Try.func12, Try.ntmps12
  go_wp2_with fail
  refine (K1.out _ hA).mono ?_; rintro e w1 ⟨⟨u, rfl, hO⟩, hb1⟩
  obtain ⟨B, c, hv, hr, hc, hc'⟩ := hO.rdi
  rw [show (ints S).length = S.length by simp [ints]] at hv hc
  rw [← hq] at hv hc
  subst hv
  have hql : q ≤ n := by omega
  have HOL0 := Lib.hid hO
  clear hO hr hq
  have HOL1 := Lib.hid (show OwnK w1 w.heap.size 3 1 (.slice B q c) (cellsI (ints S)) from HOL0.out)
  go_wp2_with fail
  go_loopw [3, 15] (fun vo i wr => ∃ k : Nat, k ≤ q ∧ i = .int .i64 k ∧ (∃ vs, Hid (OwnK wr w.heap.size 37 1 vo (cellsW vs)) ∧ Hid (UOk wr w.heap.size vs (unitsK l S k))) ∧ Hid (OwnK wr w.heap.size 3 1 (.slice B q c) (cellsI (ints S))) ∧ Below w.heap.size w wr) (fun _ i wr => q - (intOf i).toNat)
  case atStart => exact ⟨0, Nat.zero_le _, rfl, ⟨[], (show OwnK _ _ _ _ _ (cellsW []) from OwnK.nil _ _ _ _), (show UOk _ _ _ (unitsK l S 0) from UOk.nil _ _)⟩, HOL1, hb1⟩
  case round =>
    clear HOL1 HOL0 hb1
    obtain ⟨k, hk, rfl, ⟨vs, HO, HU⟩, HOL, hb⟩ := hrel
    by_cases hlt : k < q
    · have hkS : k < S.length := by have := HQ.out; omega
      obtain ⟨U, hU⟩ : ∃ U, U = unitsK l S k := ⟨_, rfl⟩
      have hu := HU.out
      rw [← hU] at hu
      have hUl : U.length ≤ k := by rw [hU]; exact unitsK_len l S k
      have hvl : vs.length ≤ k := by rw [hu.len]; exact hUl
      have hsucc := unitsK_succ (l := l) hkS
      rw [← hU] at hsucc
      have HRb := Lib.hid (show RdI wr B (ints S) from rdOf HOL.out)
      obtain ⟨g7, o7, hB7, hg7, c7⟩ := HRb.out.at (i := k) (by simpa [ints] using hkS)
      subst hB7
      obtain ⟨p, hp⟩ : ∃ p, p = S[k] := ⟨_, rfl⟩
      rw [show (ints S)[k]'(by simpa [ints] using hkS) = (p : Int) by rw [hp]; simp [ints]] at c7
      rw [← hp] at hsucc
      have hpl : p < l.length := by rw [hp]; exact HSlt.out _ (List.getElem_mem hkS)
      have hpn : p < n := by have := hn.out; omega
      obtain ⟨g, o, hAg, hg, hj⟩ := (hA.out.later hb).at hpl
      subst hAg
      obtain ⟨j, hjk⟩ : ∃ j, j = l[p] := ⟨_, rfl⟩
      rw [← hjk] at hj
      have hjj : jat l p = j := by rw [jat_at hpl, ← hjk]
      have c8 := hj.ga
      have HU2 := Lib.hid hu; have HJ := Lib.hid hj; have HJJ := Lib.hid hjj; have HP := Lib.hid hp; have HJK := Lib.hid hjk
      have HSc := Lib.hid hsucc
      clear HU hu hj hjj hp hjk hsucc hU
      by_cases h0 : j.ga.size = 0
      · skip
        have hga : j.ga = ⟨#[]⟩ := empty_of h0
        have c8' : wr.cell? ⟨g, o + p * 13 + 8, none⟩ = some (.string ⟨#[]⟩) := hga ▸ c8
        have HS2 : Hid (unitsK l S (k + 1) = U ++ [[p]]) := by show _ = _; rw [HSc.out]; unfold unitAt; rw [HJJ.out, if_pos h0]
        have HGA := Lib.hid hga; clear hga h0 c8
        have hone : OwnK (wr.alloc (.cells #[.int .i64 p] 3)) w.heap.size 3 1 (.slice (some ⟨wr.heap.size, 0, none⟩) 1 1) (cellsI (ints [p])) := OwnK.lit1 wr w.heap.size 3 (.int .i64 p) hb.size
        have hbB : Below (wr.alloc (.cells #[.int .i64 p] 3)).heap.size (wr.alloc (.cells #[.int .i64 p] 3)) ((wr.alloc (.cells #[.int .i64 p] 3)).alloc (.cells #[(.slice (some ⟨wr.heap.size, 0, none⟩) 1 1)] 37)) := (Below.refl _ _).alloc (Nat.le_refl _) _
        have hbA : Below wr.heap.size wr ((wr.alloc (.cells #[.int .i64 p] 3)).alloc (.cells #[(.slice (some ⟨wr.heap.size, 0, none⟩) 1 1)] 37)) := ((Below.refl _ _).alloc (Nat.le_refl _) _).alloc (by simp) _
        have HOne := Lib.hid (hone.below hbB)
        have HOut := Lib.hid (show OwnK ((wr.alloc (.cells #[.int .i64 p] 3)).alloc (.cells #[(.slice (some ⟨wr.heap.size, 0, none⟩) 1 1)] 37)) w.heap.size 37 1 u3 (cellsW vs) from (HO.out.alloc _).alloc _)
        have HUB := Lib.hid (HU2.out.later hbA)
        have HOLB := Lib.hid (HOL.out.below hbA)
        have HFr := Lib.hid (show RdK ((wr.alloc (.cells #[.int .i64 p] 3)).alloc (.cells #[(.slice (some ⟨wr.heap.size, 0, none⟩) 1 1)] 37)) 1 (some ⟨wr.heap.size + 1, 0, none⟩) (cellsW [(.slice (some ⟨wr.heap.size, 0, none⟩) 1 1)]) from fresh_k (wr.alloc (.cells #[.int .i64 p] 3)) 1 [(.slice (some ⟨wr.heap.size, 0, none⟩) 1 1)] 37 (g := wr.heap.size + 1) (by simp))
        have hBB : Below w.heap.size w ((wr.alloc (.cells #[.int .i64 p] 3)).alloc (.cells #[(.slice (some ⟨wr.heap.size, 0, none⟩) 1 1)] 37)) := (hb.alloc hb.size _).alloc (by have := hb.size; simp; omega) _
        clear hone hbB hbA
        go_wp2_with (first | ((with_reducible refine append_k _ rfl (.tmp 29) (.tmp 35) 33 rfl w.heap.size 37 _ 1 24 Try.underlying33 infoU rfl (by omega) u3 (cellsW vs) rfl HOut.out ⟨wr.heap.size + 1, 0, none⟩ 1 1 (cellsW [(.slice (some ⟨wr.heap.size, 0, none⟩) 1 1)]) rfl HFr.out (cellsW_k _) (by simp [cellsW, Value.oneCell']) rfl (by simp [cellsW, maxLen]; omega) (by simp [cellsW, maxLen]; omega) hBB.size ?_); intro u6' w3 hO3 hg3; have HO3 := Lib.hid hO3; clear hO3; have HUC := Lib.hid ((HUB.out.grown HOut.out hg3).snoc (HOne.out.grown hg3 (HOne.out.apart HOut.out (by decide)))); have HOLC := Lib.hid (HOLB.out.grown hg3 (HOLB.out.apart HOut.out (by decide))); have hB3 : Below w.heap.size w w3 := hBB.grown hg3 hBB.size (fun gg e => HOut.out.block gg e); clear hg3))
        go_round
        case rel => exact ⟨k + 1, by omega, by go_num, ⟨vs ++ [(.slice (some ⟨wr.heap.size, 0, none⟩) 1 1)], (by show OwnK _ _ _ _ _ _; rw [cellsW_append]; exact HO3.out), (by show UOk _ _ _ _; rw [HS2.out]; exact HUC.out)⟩, HOLC, hB3⟩
        case measure => simp [intOf]; omega
      · skip
        obtain ⟨hf1, hf2⟩ := full_of h0
        have hun : unitAt l S (S.take k) p = if firstK l j.ga (S.take k) && decide (j.sz ≤ (manyK l j.ga n : Int)) then [gangOf l j.ga S] else [] := by unfold unitAt; rw [HJJ.out, if_neg h0, ← hn.out]
        have HUn := Lib.hid hun; clear hun h0
        obtain ⟨wo, hwo⟩ : ∃ wo, wo = wr := ⟨_, rfl⟩
        subst hwo
        go_wp2_with fail
        go_loopw [7, 8] (fun f i wi => ∃ a : Nat, a ≤ k ∧ i = .int .i64 a ∧ f = .bool (firstK l j.ga (S.take a)) ∧ wo = wi) (fun _ i wi => k - (intOf i).toNat)
        case atStart => exact ⟨0, Nat.zero_le _, rfl, rfl, rfl⟩
        case round =>
          obtain ⟨a, ha, rfl, rfl, hww⟩ := hrel
          subst hww
          by_cases hak : a < k
          · have haS : a < S.length := by omega
            have haq : a < q := by omega
            obtain ⟨g7', o7', hB7, hg7', c7a⟩ := HRb.out.at (i := a) (by simpa [ints] using haS)
            injection hB7 with hB7; injection hB7 with e1 e2; subst e1 e2
            obtain ⟨y, hy⟩ : ∃ y, y = S[a] := ⟨_, rfl⟩
            rw [show (ints S)[a]'(by simpa [ints] using haS) = (y : Int) by rw [hy]; simp [ints]] at c7a
            have hyl : y < l.length := by rw [hy]; exact HSlt.out _ (List.getElem_mem haS)
            have hyn : y < n := by have := hn.out; omega
            obtain ⟨g', o', hAg, hg', hj'⟩ := (hA.out.later hb).at hyl
            injection hAg with hAg; injection hAg with e1 e2; subst e1 e2
            obtain ⟨j2, hj2k⟩ : ∃ j2, j2 = l[y] := ⟨_, rfl⟩
            rw [← hj2k] at hj'
            have c8a := hj'.ga
            have hft := firstK_take (l := l) (s := j.ga) haS
            rw [← hy, jat_at hyl, ← hj2k] at hft
            obtain ⟨T, hT⟩ : ∃ T, firstK l j.ga (S.take a) = T := ⟨_, rfl⟩
            rw [hT] at hft ⊢
            have HFt := Lib.hid hft
            clear hft hT hy hj2k hj'
            cases T
            · go_wp2_with fail
              go_round
              case rel => exact ⟨a + 1, by omega, by go_num, by rw [HFt.out]; rfl, trivial⟩
              case measure => simp [intOf]; omega
            · cases he : sE j2.ga j.ga
              · have he' : (j2.ga.toList == j.ga.toList) = false := he
                have HEe := Lib.hid he; clear he
                go_wp2_with fail
                go_round
                case rel => exact ⟨a + 1, by omega, by go_num, by rw [HFt.out, HEe.out]; rfl, trivial⟩
                case measure => simp [intOf]; omega
              · have he' : (j2.ga.toList == j.ga.toList) = true := he
                have HEe := Lib.hid he; clear he
                go_wp2_with fail
                go_round
                case rel => exact ⟨a + 1, by omega, by go_num, by rw [HFt.out, HEe.out]; rfl, trivial⟩
                case measure => simp [intOf]; omega
          · have hak' : a = k := by omega
            subst hak'
            obtain ⟨wr, hwr⟩ : ∃ wr, wr = wo := ⟨_, rfl⟩
            subst hwr
            obtain ⟨T, hT⟩ : ∃ T, firstK l j.ga (S.take a) = T := ⟨_, rfl⟩
            have hun := HUn.out
            rw [hT] at hun ⊢
            have hSc := HSc.out
            rw [hun] at hSc
            have c9 := HJ.out.sz
            clear hun HUn HSc hT
            cases T
            · have HS2 : Hid (unitsK l S (a + 1) = U) := by show _ = _; rw [hSc]; simp
              clear hSc
              go_wp2_with fail
              refine wp_region_later (by kernel_rfl) (by kernel_rfl) ?_; have hL : ∀ (w : World) (x : Later w) (b o : Nat), b < w.heap.size → x.to.cell? ⟨b, o, none⟩ = w.cell? ⟨b, o, none⟩ := fun w x b o hb => x.cell hb; have hN := Later.some; (repeat (go_big_quiet_step (((fail))))); refine wpQuiet_nil ?_; intro w3 hw3; have hb3 := Later.out hw3; clear hw3 hL hN
              have hB3 : Below w.heap.size w w3 := hb.trans (hb3.mono hb.size)
              go_wp2_with fail
              go_round
              case rel => exact ⟨a + 1, by omega, by go_num, ⟨vs, HO.out.below hb3, (by show UOk _ _ _ _; rw [HS2.out]; exact HU2.out.later hb3)⟩, HOL.out.below hb3, hB3⟩
              case measure => simp [intOf]; omega
            · obtain ⟨r, hr⟩ : ∃ r, manyK l j.ga n = r := ⟨_, rfl⟩
              rw [hr] at hSc
              have km : ∀ y : Later wr, Calls Try.prog 18 #[.slice (some ⟨g, o, none⟩) n cap, .string j.ga] y.to fun e w' => e = .returned (.int .i64 r) ∧ Below y.to.heap.size y.to w' := fun y => rmany_any _ n cap l j.ga y.to hn hl (Lib.hid (RdJ.at_later y (hA.out.later hb))) r hr
              have KM := Lib.hid km; clear km hr
              by_cases hsz : j.sz ≤ (r : Int)
              case neg =>
                have HS2 : Hid (unitsK l S (a + 1) = U) := by show _ = _; rw [hSc, decide_eq_false hsz]; simp
                have dsz : decide ((r : Int) < j.sz) = true := by rw [decide_eq_true_eq]; omega
                clear hSc
                go_wp2_with fail
                refine wp_region_later (by kernel_rfl) (by kernel_rfl) ?_; have hL : ∀ (w : World) (x : Later w) (b o : Nat), b < w.heap.size → x.to.cell? ⟨b, o, none⟩ = w.cell? ⟨b, o, none⟩ := fun w x b o hb => x.cell hb; have hN := Later.some; (repeat (go_big_quiet_step (((go_at_call 18; (with_reducible exact Later.call (KM.out _))))))); refine wpQuiet_nil ?_; intro w3 hw3; have hb3 := Later.out hw3; clear hw3 hL hN
                have hB3 : Below w.heap.size w w3 := hb.trans (hb3.mono hb.size)
                go_wp2_with fail
                go_round
                case rel => exact ⟨a + 1, by omega, by go_num, ⟨vs, HO.out.below hb3, (by show UOk _ _ _ _; rw [HS2.out]; exact HU2.out.later hb3)⟩, HOL.out.below hb3, hB3⟩
                case measure => simp [intOf]; omega
              have HS2 : Hid (unitsK l S (a + 1) = U ++ [gangOf l j.ga S]) := by show _ = _; rw [hSc, decide_eq_true hsz]; rfl
              have dsz : decide ((r : Int) < j.sz) = false := by rw [decide_eq_false_iff_not]; omega
              have dsz' : ¬ (r : Int) < j.sz := by omega
              clear hSc
              go_wp2_with fail
              refine wp_region_later (by kernel_rfl) (by kernel_rfl) ?_; have hL : ∀ (w : World) (x : Later w) (b o : Nat), b < w.heap.size → x.to.cell? ⟨b, o, none⟩ = w.cell? ⟨b, o, none⟩ := fun w x b o hb => x.cell hb; have hN := Later.some; (repeat (go_big_quiet_step (((go_at_call 18; (with_reducible exact Later.call (KM.out _))))))); refine wpQuiet_nil ?_; intro w3 hw3; have hb3 := Later.out hw3; clear hw3 hL hN
              have hB3 : Below w.heap.size w w3 := hb.trans (hb3.mono hb.size)
              have HO4 := Lib.hid (HO.out.below hb3); have HU4 := Lib.hid (HU2.out.later hb3); have HOL4 := Lib.hid (HOL.out.below hb3)
              clear HO HU2 HOL c9 KM HRb c7 c8
              have HR4 := Lib.hid (rdOf HOL4.out)
              go_wp2_with fail
              go_loopw [9, 75] (fun vu i wi => ∃ b : Nat, b ≤ q ∧ i = .int .i64 b ∧ Hid (OwnK wi w3.heap.size 3 1 vu (cellsI (ints (gangOf l j.ga (S.take b))))) ∧ Below w3.heap.size w3 wi) (fun _ i wi => q - (intOf i).toNat)
              case atStart => exact ⟨0, Nat.zero_le _, rfl, (show OwnK _ _ _ _ _ (cellsI (ints (gangOf l j.ga (S.take 0)))) from OwnK.nil _ _ _ _), Below.refl _ _⟩
              case round =>
                obtain ⟨b, hbq, rfl, HG, hbi⟩ := hrel
                have hBi : Below w.heap.size w wr := hB3.trans (hbi.mono hB3.size)
                by_cases hblt : b < q
                · have hbS : b < S.length := by have := HQ.out; omega
                  obtain ⟨g7', o7', hB7, hg7', c7a⟩ := (HR4.out.later hbi).at (i := b) (by simpa [ints] using hbS)
                  injection hB7 with hB7; injection hB7 with e1 e2; subst e1 e2
                  obtain ⟨y, hy⟩ : ∃ y, y = S[b] := ⟨_, rfl⟩
                  rw [show (ints S)[b]'(by simpa [ints] using hbS) = (y : Int) by rw [hy]; simp [ints]] at c7a
                  have hyl : y < l.length := by rw [hy]; exact HSlt.out _ (List.getElem_mem hbS)
                  have hyn : y < n := by have := hn.out; omega
                  obtain ⟨g', o', hAg, hg', hj'⟩ := (hA.out.later hBi).at hyl
                  injection hAg with hAg; injection hAg with e1 e2; subst e1 e2
                  obtain ⟨j2, hj2k⟩ : ∃ j2, j2 = l[y] := ⟨_, rfl⟩
                  rw [← hj2k] at hj'
                  have c8a := hj'.ga
                  have hgt := gangOf_take (l := l) (s := j.ga) hbS
                  rw [← hy, jat_at hyl, ← hj2k] at hgt
                  have hgl : (cellsI (ints (gangOf l j.ga (S.take b)))).length ≤ b := by rw [cellsI_length]; simp only [ints, List.length_map]; exact Nat.le_trans (gangOf_len _ _ _) (by rw [List.length_take]; omega)
                  clear hy hj2k hj'
                  cases he : sE j2.ga j.ga
                  · have he' : (j2.ga.toList == j.ga.toList) = false := he
                    rw [he] at hgt
                    have HGt := Lib.hid (show gangOf l j.ga (S.take (b + 1)) = gangOf l j.ga (S.take b) by rw [hgt]; simp)
                    clear hgt he
                    go_wp2_with fail
                    go_round
                    case rel => exact ⟨b + 1, by omega, by go_num, (by show OwnK _ _ _ _ _ _; rw [HGt.out]; exact HG.out), hbi⟩
                    case measure => simp [intOf]; omega
                  · have he' : (j2.ga.toList == j.ga.toList) = true := he
                    rw [he] at hgt
                    have HGt := Lib.hid (show gangOf l j.ga (S.take (b + 1)) = gangOf l j.ga (S.take b) ++ [y] from hgt)
                    clear hgt he
                    go_wp2_with (first | ((with_reducible refine append_k _ rfl (.tmp 89) (.tmp 94) 37 rfl w3.heap.size 3 _ 1 8 Try.underlying37 infoI rfl (by omega) u9 (cellsI (ints (gangOf l j.ga (S.take b)))) rfl (HG.out.alloc _) ⟨wr.heap.size, 0, none⟩ 1 1 (cellsI [(y : Int)]) rfl (fresh_k wr 1 _ _ rfl) (cellsI_k _) (cellsI_one _) rfl (by simp [cellsI, maxLen] at hgl ⊢; omega) (by simp [cellsI] at hgl ⊢; omega) (by have := hbi.size; simp; omega) ?_); intro u9' w4 hG4 hg4; rw [← cellsI_append] at hG4; have HG4 := Lib.hid hG4; clear hG4; have hbi4 : Below w3.heap.size w3 w4 := (hbi.alloc hbi.size _).grown hg4 (by have := hbi.size; simp; omega) (fun gg e => HG.out.block gg e); clear hg4))
                    go_round
                    case rel => exact ⟨b + 1, by omega, by go_num, (by show OwnK _ _ _ _ _ _; rw [HGt.out]; have h := HG4.out; simpa [ints] using h), hbi4⟩
                    case measure => simp [intOf]; omega
                · have hbq' : b = q := by omega
                  subst hbq'
                  obtain ⟨w5, hw5⟩ : ∃ w5, w5 = wr := ⟨_, rfl⟩
                  subst hw5
                  have hg := HG.out
                  rw [show S.take b = S by rw [HQ.out]; exact List.take_length] at hg
                  obtain ⟨Au, cu, hvu, _, _, _⟩ := hg.rdi
                  obtain ⟨qu, hqu⟩ : ∃ qu, qu = (ints (gangOf l j.ga S)).length := ⟨_, rfl⟩
                  rw [← hqu] at hvu
                  subst hvu
                  clear hqu
                  have hz3 : w.heap.size ≤ w3.heap.size := hB3.size
                  have HG5 := Lib.hid (hg.base hz3)
                  have HO5 := Lib.hid (HO4.out.below hbi); have HU5 := Lib.hid (HU4.out.later hbi); have HOL5 := Lib.hid (HOL4.out.below hbi)
                  have hbA : Below w5.heap.size w5 (w5.alloc (.cells #[.slice Au qu cu] 37)) := (Below.refl _ _).alloc (Nat.le_refl _) _
                  have HOne := Lib.hid (HG5.out.below hbA)
                  have HOut := Lib.hid (show OwnK (w5.alloc (.cells #[.slice Au qu cu] 37)) w.heap.size 37 1 u3 (cellsW vs) from HO5.out.alloc _)
                  have HUB := Lib.hid (HU5.out.later hbA)
                  have HOLB := Lib.hid (HOL5.out.below hbA)
                  have HFr := Lib.hid (show RdK (w5.alloc (.cells #[.slice Au qu cu] 37)) 1 (some ⟨w5.heap.size, 0, none⟩) (cellsW [.slice Au qu cu]) from fresh_k w5 1 [.slice Au qu cu] 37 rfl)
                  have hBB : Below w.heap.size w (w5.alloc (.cells #[.slice Au qu cu] 37)) := hBi.alloc hBi.size _
                  clear hg HG HO4 HU4 HOL4 HR4 hbA HO5 HU5 HOL5 HG5
                  go_wp2_with (first | ((with_reducible refine append_k _ rfl (.tmp 97) (.tmp 99) 33 rfl w.heap.size 37 _ 1 24 Try.underlying33 infoU rfl (by omega) u3 (cellsW vs) rfl HOut.out ⟨w5.heap.size, 0, none⟩ 1 1 (cellsW [.slice Au qu cu]) rfl HFr.out (cellsW_k _) (by simp [cellsW, Value.oneCell']) rfl (by simp [cellsW, maxLen]; omega) (by simp [cellsW, maxLen]; omega) hBB.size ?_); intro u6' w6 hO3 hg3; have HO3 := Lib.hid hO3; clear hO3; have HUC := Lib.hid ((HUB.out.grown HOut.out hg3).snoc (HOne.out.grown hg3 (HOne.out.apart HOut.out (by decide)))); have HOLC := Lib.hid (HOLB.out.grown hg3 (HOLB.out.apart HOut.out (by decide))); have hB6 : Below w.heap.size w w6 := hBB.grown hg3 hBB.size (fun gg e => HOut.out.block gg e); clear hg3))
                  go_round
                  case rel => exact ⟨a + 1, by omega, by go_num, ⟨vs ++ [.slice Au qu cu], (by show OwnK _ _ _ _ _ _; rw [cellsW_append]; exact HO3.out), (by show UOk _ _ _ _; rw [HS2.out]; exact HUC.out)⟩, HOLC, hB6⟩
                  case measure => simp [intOf]; omega
    · have hk' : k = q := by omega
      subst hk'
      go_wp2_with fail
      go_ret
      exact ⟨⟨_, vs, rfl, HO.out, HU.out⟩, hb⟩
end Go.Proofs.Ytamlcjepkoagmaa
