/- The walk of OrderGangs. No condition beyond the form's own. -/
import Derived.Test.YtamlcjepkoagmaaQaw
import Derived.Test.YtamlcjepkoagmaaMod
import Derived.Deep.DeepCutAuto
import Derived.Deep.RegionHeld3
namespace Go.Proofs.Ytamlcjepkoagmaa
open Go.RowKit
set_option linter.unusedSimpArgs false
set_option linter.unusedVariables false
namespace orderGangs

/-- How many of a gang wait among the first k. -/
def gwK (l : List Jb) (s : ByteArray) (k : Nat) : Nat := ((List.range k).filter (gwB l s)).length
theorem gwK_succ (l : List Jb) (s : ByteArray) (k : Nat) : gwK l s (k + 1) = gwK l s k + if gwB l s k then 1 else 0 := by
  unfold gwK
  rw [List.range_succ, List.filter_append, List.length_append]
  congr 1
  cases h : gwB l s k <;> simp [h]
theorem gwK_le (l : List Jb) (s : ByteArray) (k : Nat) : gwK l s k ≤ k := Nat.le_trans (List.length_filter_le _ _) (by simp)
/-- Which one is tried first, with one more. -/
def fnx (l : List Jb) (k : Nat) (o : Option Nat) : Option Nat := match o with | none => some k | some f => if tryB (jat l k) (jat l f) then some k else some f
theorem fstK_succ (l : List Jb) (c : Nat → Bool) (k : Nat) : fstK l c (k + 1) = if c k then fnx l k (fstK l c k) else fstK l c k := by
  show (if c k then _ else _) = _
  cases fstK l c k <;> rfl
/-- The first one's place and size. -/
def fI (o : Option Nat) : Int := match o with | none => -1 | some f => f
def sI (l : List Jb) (o : Option Nat) : Int := match o with | none => 0 | some f => (jat l f).sz
/-- The units of a gang; how many stand in the last one. -/
def ofK (l : List Jb) (s : ByteArray) (U : List (List Nat)) : List (List Nat) := U.filter fun u => sE (jat l (u.getD 0 0)).ga s
def stK (V : List (List Nat)) : Nat := match V.getLast? with | none => 0 | some u => u.length
theorem ofK_take (l : List Jb) (s : ByteArray) {U : List (List Nat)} {k : Nat} (h : k < U.length) : ofK l s (U.take (k + 1)) = ofK l s (U.take k) ++ if sE (jat l (U[k].getD 0 0)).ga s then [U[k]] else [] := by
  unfold ofK
  rw [List.take_succ_eq_append_getElem h, List.filter_append]
  congr 1
  cases hs : sE (jat l (U[k].getD 0 0)).ga s
  · rw [List.filter_cons_of_neg (by rw [hs]; exact Bool.false_ne_true)]; rfl
  · rw [List.filter_cons_of_pos (by exact hs)]; rfl
theorem stK_snoc (V : List (List Nat)) (u : List Nat) : stK (V ++ [u]) = u.length := by unfold stK; simp
/-- What the law's last test sees. -/
theorem gangs_end (l : List Jb) {s : ByteArray} (hs : s.size ≠ 0) :
    (gwK l s l.length = 0 ∧ (ofK l s (unitsU l)).length = 0) ∨ (gwK l s l.length ≠ 0 ∧ (manyK l s l.length : Int) < sI l (fstK l (gwB l s) l.length) ∧ (ofK l s (unitsU l)).length = 0) ∨ (gwK l s l.length ≠ 0 ∧ ¬ (manyK l s l.length : Int) < sI l (fstK l (gwB l s) l.length) ∧ (ofK l s (unitsU l)).length = 1 ∧ stK (ofK l s (unitsU l)) = gwK l s l.length) := by
  have h1 : ofK l s (unitsU l) = _ := units_of (l := l) hs
  have h2 : (gangU l s).length = gwK l s l.length := gangU_len l s
  rw [h1, fst_is, ← h2]
  cases hG : gangU l s with
  | nil => left; simp
  | cons f r =>
    right
    have e0 : (f :: r).getD 0 0 = f := rfl
    have e1 : sI l (List.head? (f :: r)) = (jat l f).sz := rfl
    rw [if_neg (by simp), e0, e1]
    by_cases hz : (jat l f).sz ≤ (manyK l s l.length : Int)
    · right
      rw [if_pos hz]
      refine ⟨by simp, by omega, rfl, ?_⟩
      show stK ([] ++ [f :: r]) = _
      rw [stK_snoc]
    · left
      rw [if_neg hz]
      exact ⟨by simp, by omega, rfl⟩

set_option maxHeartbeats 12800000 in
set_option maxRecDepth 100000 in
theorem walk (A : Option Addr) (n cap : Nat) (l : List Jb) (s : ByteArray) (w : World) (hn : n = l.length) (hA : RdJ w A l) (hc : n ≤ cap) (hc2 : cap ≤ 9223372036854775807) (hsz : s.size ≤ 140737488351232) :
    Calls Try.prog 6 #[.slice A n cap, .string s] w fun r w' => r = .returned (.bool true) ∧ Below w.heap.size w w' := by
  obtain ⟨FW, hFW⟩ : ∃ FW, few14 l = FW := ⟨_, rfl⟩
  have kf := fun (W : World) (h : RdJ W A l) => few14_any A n cap l W hn (by omega) h
  rw [hFW] at kf
  have ku := fun (hl : n ≤ 1000000) (W : World) (h : RdJ W A l) => units_any A n cap l W hn hl h
  have hIn : ∀ u ∈ unitsU l, 0 < u.length ∧ ∀ q ∈ u, q < l.length := fun u hu => by
    obtain ⟨p, r, h1, h2, _⟩ := units_in hu
    exact ⟨by rw [h1]; simp, fun q hq => (h2 q hq).1⟩
  have hUl : n ≤ 100 → (unitsU l).length ≤ 100 := fun h => Nat.le_trans (unitsK_len l _ _) (Nat.le_trans (wk_len _) (by omega))
  have hEnd := fun (hs : s.size ≠ 0) => gangs_end l hs
  generalize unitsU l = U at ku hUl hIn hEnd
  have KF := Lib.hid kf; have KU := Lib.hid ku; have HUl := Lib.hid hUl; have HIn := Lib.hid hIn; have HEnd := Lib.hid hEnd; have HFW := Lib.hid hFW; have HA := Lib.hid hA; have Hn := Lib.hid hn
  clear kf ku hUl hIn hEnd hFW hA hn hc hc2
  go_enter Try.func6, Try.ntmps6
  have hB0 : Below w.heap.size w w := (Below.refl w.heap.size w)
  go_wp2_with fail
  refine (awake14_any _).mono ?_; rintro v w1 ⟨rfl, hb1⟩
  have hB1 : Below w.heap.size w w1 := hB0.trans (hb1.mono hB0.size)
  clear hB0
  go_wp2_with fail
  refine (KF.out _ (HA.out.later hB1)).mono ?_; rintro v w2 ⟨rfl, hb2⟩
  have hB2 : Below w.heap.size w w2 := hB1.trans (hb2.mono hB1.size)
  clear hb1 hb2 hB1
  cases FW
  case false =>
    go_wp2_with fail
    refine (awake14_any _).mono ?_; rintro v wz ⟨rfl, hbz⟩
    go_wp2_with fail
    go_ret
    exact ⟨rfl, hB2.trans (hbz.mono hB2.size)⟩
  case true =>
    have hn1 : n ≤ 100 := by
      have h := HFW.out; unfold few14 at h; simp only [Bool.and_eq_true, decide_eq_true_eq] at h
      have := Hn.out; omega
    have hl : n ≤ 1000000 := by omega
    by_cases hs0 : s.size = 0
    case pos =>
      have hse : s = ⟨#[]⟩ := empty_of hs0
      subst hse
      clear hs0
      go_wp2_with fail
      refine (awake14_any _).mono ?_; rintro v wz ⟨rfl, hbz⟩
      go_wp2_with fail
      go_ret
      exact ⟨rfl, hB2.trans (hbz.mono hB2.size)⟩
    case neg =>
      obtain ⟨hf1, hf2⟩ := full_of hs0
      by_cases hs1 : s.size ≤ 1000
      case neg =>
        have ds : decide (1000 < (s.size : Int)) = true := decide_eq_true (by omega)
        clear hs1
        go_wp2_with fail
        refine (awake14_any _).mono ?_; rintro v wz ⟨rfl, hbz⟩
        go_wp2_with fail
        go_ret
        exact ⟨rfl, hB2.trans (hbz.mono hB2.size)⟩
      case pos =>
        have ds : decide (1000 < (s.size : Int)) = false := by rw [decide_eq_false_iff_not]; omega
        have HS0 := Lib.hid hs0
        clear hs0
        go_wp2_with fail
        clear hf1 hf2 ds
        go_loopw [5, 6, 7, 8, 33] (fun v5 v6 v7 v8 i wr => ∃ (k cw ca : Nat) (o : Option Nat), k ≤ n ∧ cw ≤ k ∧ ca ≤ k ∧ i = .int .i64 k ∧ v5 = .int .i64 cw ∧ v6 = .int .i64 ca ∧ v7 = .int .i64 (sI l o) ∧ v8 = .int .i64 (fI o) ∧ Hid (gwK l s k = cw) ∧ Hid (manyK l s k = ca) ∧ Hid (fstK l (gwB l s) k = o) ∧ Below w.heap.size w wr) (fun _ _ _ _ i wr => n - (intOf i).toNat)
        case atStart => exact ⟨0, 0, 0, none, Nat.zero_le _, Nat.le_refl _, Nat.le_refl _, rfl, rfl, rfl, rfl, rfl, (show _ = _ from rfl), (show _ = _ from rfl), (show _ = _ from rfl), hB2⟩
        case round =>
          clear hB2
          obtain ⟨k, cw, ca, fo, hk, hcw, hca, rfl, rfl, rfl, rfl, rfl, HW, HM, HF, hb⟩ := hrel
          by_cases hlt : k < n
          · have hlk : k < l.length := by have := Hn.out; omega
            obtain ⟨g, o, hAg, hg, hj⟩ := (HA.out.later hb).at hlk
            subst hAg
            obtain ⟨j, hjk⟩ : ∃ j, j = l[k] := ⟨_, rfl⟩
            rw [← hjk] at hj
            have hjj : jat l k = j := by rw [jat_at hlk, ← hjk]
            have c8 := hj.ga
            have c11 := hj.nd
            have hg1 := gwK_succ l s k
            have hg2 := manyK_succ (s := s) hlk
            rw [← hjk, HM.out] at hg2
            rw [HW.out] at hg1
            have hgw : gwB l s k = (sE j.ga s && decide (j.nd.size = 0)) := by unfold gwB waitC; rw [hjj]
            have hf1 : fstK l (gwB l s) (k + 1) = if gwB l s k then fnx l k fo else fo := by rw [fstK_succ, HF.out]
            rw [hgw] at hg1 hf1
            have HJ := Lib.hid hj; have HJJ := Lib.hid hjj
            clear hj hjk hgw hjj
            cases hga : sE j.ga s
            case false =>
              have hga' : (j.ga.toList == s.toList) = false := hga
              rw [hga] at hg1 hg2 hf1
              have H1 : Hid (gwK l s (k + 1) = cw) := hg1
              have H2 : Hid (manyK l s (k + 1) = ca) := hg2
              have H3 : Hid (fstK l (gwB l s) (k + 1) = fo) := hf1
              clear hg1 hg2 hf1 hga
              go_wp2_with fail
              go_round
              case rel => exact ⟨k + 1, cw, ca, fo, by omega, by omega, by omega, by go_num, rfl, rfl, rfl, rfl, H1, H2, H3, hb⟩
              case measure => simp [intOf]; omega
            case true =>
              have hga' : (j.ga.toList == s.toList) = true := hga
              rw [hga] at hg1 hg2 hf1
              have H2 : Hid (manyK l s (k + 1) = ca + 1) := hg2
              by_cases hnd : j.nd.size = 0
              case neg =>
                obtain ⟨hn1', hn2'⟩ := full_of hnd
                rw [decide_eq_false hnd] at hg1 hf1
                have H1 : Hid (gwK l s (k + 1) = cw) := hg1
                have H3 : Hid (fstK l (gwB l s) (k + 1) = fo) := hf1
                clear hg1 hg2 hf1 hga hnd
                go_wp2_with fail
                go_round
                case rel => exact ⟨k + 1, cw, ca + 1, fo, by omega, by omega, by omega, by go_num, rfl, by go_num, rfl, rfl, H1, H2, H3, hb⟩
                case measure => simp [intOf]; omega
              case pos =>
                have hne := empty_of hnd
                rw [hne] at c11
                rw [decide_eq_true hnd] at hg1 hf1
                have H1 : Hid (gwK l s (k + 1) = cw + 1) := hg1
                clear hg1 hg2 hga hnd hne
                have csz := HJ.out.sz
                cases fo with
                | none =>
                  have H3 : Hid (fstK l (gwB l s) (k + 1) = some k) := hf1
                  have e7 : sI l (some k) = j.sz := by show (jat l k).sz = _; rw [HJJ.out]
                  have HE7 := Lib.hid e7
                  have ef : fI none = -1 := rfl
                  clear hf1 e7
                  rw [ef]
                  go_wp2_with fail
                  refine wp_region_later (by kernel_rfl) (by kernel_rfl) ?_; have hL : ∀ (w : World) (x : Later w) (b o : Nat), b < w.heap.size → x.to.cell? ⟨b, o, none⟩ = w.cell? ⟨b, o, none⟩ := fun w x b o hb => x.cell hb; have hN := Later.some; (repeat (go_big_quiet_step (((fail))))); refine wpQuiet_nil ?_; intro w2 hw2; have hb2 := Later.out hw2; clear hw2 hL hN
                  go_wp2_with fail
                  have csz2 := (HJ.out.later hb2).sz; have hgx : g < w2.heap.size := (by have := hb2.size; omega)
                  refine wp_region_later (by kernel_rfl) (by kernel_rfl) ?_; have hL : ∀ (w : World) (x : Later w) (b o : Nat), b < w.heap.size → x.to.cell? ⟨b, o, none⟩ = w.cell? ⟨b, o, none⟩ := fun w x b o hb => x.cell hb; have hN := Later.some; (repeat (go_big_quiet_step (((fail))))); refine wpQuiet_nil ?_; intro w3 hw3; have hb3 := Later.out hw3; clear hw3 hL hN
                  go_wp2_with fail
                  go_round
                  case rel => exact ⟨k + 1, cw + 1, ca + 1, some k, by omega, by omega, by omega, by go_num, by go_num, by go_num, by rw [HE7.out], rfl, H1, H2, H3, hb.trans ((hb2.trans (hb3.mono hb2.size)).mono hb.size)⟩
                  case measure => simp [intOf]; omega
                | some f =>
                  obtain ⟨hfk, _, _⟩ := fstK_some HF.out
                  have hfl : f < l.length := by omega
                  have hfn : f < n := by omega
                  obtain ⟨g2, o2, hAg2, hg2', hjf⟩ := (HA.out.later hb).at hfl
                  injection hAg2 with hAg2; injection hAg2 with e1 e2; subst e1 e2
                  obtain ⟨jf, hjkf⟩ : ∃ j, j = l[f] := ⟨_, rfl⟩
                  rw [← hjkf] at hjf
                  have hjjf : jat l f = jf := by rw [jat_at hfl, ← hjkf]
                  have hf2 : fstK l (gwB l s) (k + 1) = if tryB j jf then some k else some f := by rw [hf1]; show (if tryB (jat l k) (jat l f) then _ else _) = _; rw [HJJ.out, hjjf]
                  obtain ⟨T, hT⟩ : ∃ T, tryB j jf = T := ⟨_, rfl⟩
                  rw [hT] at hf2
                  have k1 := fun (W : World) => ahead_any j jf W
                  rw [hT] at k1
                  have K1 := Lib.hid k1; have HF2 := Lib.hid hf2; have HJf := Lib.hid hjf
                  have ef : fI (some f) = (f : Int) := rfl
                  have df : decide ((f : Int) < 0) = false := by rw [decide_eq_false_iff_not]; omega
                  clear hf1 hf2 k1 hT hjf hjkf hjjf
                  rw [ef]
                  go_wp2_with fail
                  refine wp_region_held_drew (S := fun X => Below wr.heap.size wr X) (by kernel_rfl) (Below.drew (Below.refl _ _)) (fun hS0 => ?_)
                  refine wpAnyH_take (i := 0) (v := ?_) rfl (by kernel_rfl) (by kernel_rfl) (by kernel_rfl) (fun _ _ _ h => h) (Or.inl ⟨by rfl, ?_⟩) hS0 ?_
                  rotate_left
                  · intro W _; go_simp; try with_reducible rfl
                  try simp only [Act.put, List.getElem_toArray, List.getElem_cons_zero, List.getElem_cons_succ, List.setIfInBounds_toArray, List.set_cons_zero, List.set_cons_succ]
                  refine wpAnyH_take (i := 1) (v := ?_) rfl (by kernel_rfl) (by kernel_rfl) (by kernel_rfl) (fun _ _ _ h => h) (Or.inl ⟨by rfl, ?_⟩) hS0 ?_
                  rotate_left
                  · intro W _; go_simp; try with_reducible rfl
                  try simp only [Act.put, List.getElem_toArray, List.getElem_cons_zero, List.getElem_cons_succ, List.setIfInBounds_toArray, List.set_cons_zero, List.set_cons_succ]
                  refine wpAnyH_take (i := 2) (v := ?_) rfl (by kernel_rfl) (by kernel_rfl) (by kernel_rfl) (fun _ _ _ h => h) (Or.inl ⟨by rfl, ?_⟩) hS0 ?_
                  rotate_left
                  · intro W _; go_simp; try with_reducible rfl
                  try simp only [Act.put, List.getElem_toArray, List.getElem_cons_zero, List.getElem_cons_succ, List.setIfInBounds_toArray, List.set_cons_zero, List.set_cons_succ]
                  refine wpAnyH_take (i := 3) (v := ?_) rfl (by kernel_rfl) (by kernel_rfl) (by kernel_rfl) (fun _ _ _ h => h) (Or.inl ⟨by rfl, ?_⟩) hS0 ?_
                  rotate_left
                  · intro W _; go_simp; try with_reducible rfl
                  try simp only [Act.put, List.getElem_toArray, List.getElem_cons_zero, List.getElem_cons_succ, List.setIfInBounds_toArray, List.set_cons_zero, List.set_cons_succ]
                  refine wpAnyH_take (i := 4) (v := ?_) rfl (by kernel_rfl) (by kernel_rfl) (by kernel_rfl) (fun _ _ _ h => h) (Or.inl ⟨by rfl, ?_⟩) hS0 ?_
                  rotate_left
                  · intro W _; go_simp; try with_reducible rfl
                  try simp only [Act.put, List.getElem_toArray, List.getElem_cons_zero, List.getElem_cons_succ, List.setIfInBounds_toArray, List.set_cons_zero, List.set_cons_succ]
                  refine wpAnyH_take (i := 5) (v := ?_) rfl (by kernel_rfl) (by kernel_rfl) (by kernel_rfl) (fun _ _ _ h => h) (Or.inl ⟨by rfl, ?_⟩) hS0 ?_
                  rotate_left
                  · intro W _; go_simp; try with_reducible rfl
                  try simp only [Act.put, List.getElem_toArray, List.getElem_cons_zero, List.getElem_cons_succ, List.setIfInBounds_toArray, List.set_cons_zero, List.set_cons_succ]
                  refine wpAnyH_take (i := 6) (v := .agg j.arr) rfl (by kernel_rfl) (by kernel_rfl) (by kernel_rfl) (fun _ _ _ h => h) (yields_rg rfl 29 _ rfl g (o + k * 13) rfl j.arr _ (fun W hW => (HJ.out.later hW).rg) Try.underlying29 rfl (by kernel_rfl)) hS0 ?_
                  try simp only [Act.put, List.getElem_toArray, List.getElem_cons_zero, List.getElem_cons_succ, List.setIfInBounds_toArray, List.set_cons_zero, List.set_cons_succ]
                  refine wpAnyH_take (i := 7) (v := ?_) rfl (by kernel_rfl) (by kernel_rfl) (by kernel_rfl) (fun _ _ _ h => h) (Or.inl ⟨by rfl, ?_⟩) hS0 ?_
                  rotate_left
                  · intro W _; go_simp; try with_reducible rfl
                  try simp only [Act.put, List.getElem_toArray, List.getElem_cons_zero, List.getElem_cons_succ, List.setIfInBounds_toArray, List.set_cons_zero, List.set_cons_succ]
                  refine wpAnyH_take (i := 8) (v := ?_) rfl (by kernel_rfl) (by kernel_rfl) (by kernel_rfl) (fun _ _ _ h => h) (Or.inl ⟨by rfl, ?_⟩) hS0 ?_
                  rotate_left
                  · intro W _; go_simp; try with_reducible rfl
                  try simp only [Act.put, List.getElem_toArray, List.getElem_cons_zero, List.getElem_cons_succ, List.setIfInBounds_toArray, List.set_cons_zero, List.set_cons_succ]
                  refine wpAnyH_take (i := 9) (v := ?_) rfl (by kernel_rfl) (by kernel_rfl) (by kernel_rfl) (fun _ _ _ h => h) (Or.inl ⟨by rfl, ?_⟩) hS0 ?_
                  rotate_left
                  · intro W _; go_simp; try with_reducible rfl
                  try simp only [Act.put, List.getElem_toArray, List.getElem_cons_zero, List.getElem_cons_succ, List.setIfInBounds_toArray, List.set_cons_zero, List.set_cons_succ]
                  refine wpAnyH_take (i := 10) (v := .agg jf.arr) rfl (by kernel_rfl) (by kernel_rfl) (by kernel_rfl) (fun _ _ _ h => h) (yields_rg rfl 29 _ rfl g (o + f * 13) rfl jf.arr _ (fun W hW => (HJf.out.later hW).rg) Try.underlying29 rfl (by kernel_rfl)) hS0 ?_
                  try simp only [Act.put, List.getElem_toArray, List.getElem_cons_zero, List.getElem_cons_succ, List.setIfInBounds_toArray, List.set_cons_zero, List.set_cons_succ]
                  refine wpAnyH_ready (rs := [11]) (by kernel_rfl) (by simp) ?_
                  refine AllReadyH.cons rfl (fun K hK => ?_) AllReadyH.nil
                  go_simp
                  refine (K1.out _).mono ?_
                  rintro v x1 ⟨rfl, hbl⟩
                  go_simp
                  refine hK.out _ _ (hS0.trans (hbl.mono hS0.size)) (fun hS1 => ?_)
                  clear hK K hbl
                  try simp only [Act.put, List.getElem_toArray, List.getElem_cons_zero, List.getElem_cons_succ, List.setIfInBounds_toArray, List.set_cons_zero, List.set_cons_succ]
                  refine wpAnyH_take (i := 12) (v := ?_) rfl (by kernel_rfl) (by kernel_rfl) (by kernel_rfl) (fun _ _ _ h => h) (Or.inl ⟨by rfl, ?_⟩) hS1 ?_
                  rotate_left
                  · intro W _; go_simp; try with_reducible rfl
                  try simp only [Act.put, List.getElem_toArray, List.getElem_cons_zero, List.getElem_cons_succ, List.setIfInBounds_toArray, List.set_cons_zero, List.set_cons_succ]
                  refine wpAnyH_done (by kernel_rfl) ?_ _
                  have hbx : Below w.heap.size w x1 := hb.trans (hS1.mono hb.size)
                  cases T
                  case true =>
                    have H3 : Hid (fstK l (gwB l s) (k + 1) = some k) := HF2.out
                    have e7 : sI l (some k) = j.sz := by show (jat l k).sz = _; rw [HJJ.out]
                    have HE7 := Lib.hid e7
                    have csz := (HJ.out.later hS1).sz
                    have hgx : g < x1.heap.size := by have := hS1.size; omega
                    clear e7 HF2
                    go_wp2_with fail
                    refine wp_region_later (by kernel_rfl) (by kernel_rfl) ?_; have hL : ∀ (w : World) (x : Later w) (b o : Nat), b < w.heap.size → x.to.cell? ⟨b, o, none⟩ = w.cell? ⟨b, o, none⟩ := fun w x b o hb => x.cell hb; have hN := Later.some; (repeat (go_big_quiet_step (((fail))))); refine wpQuiet_nil ?_; intro w2 hw2; have hb2 := Later.out hw2; clear hw2 hL hN
                    go_wp2_with fail
                    go_round
                    case rel => exact ⟨k + 1, cw + 1, ca + 1, some k, by omega, by omega, by omega, by go_num, by go_num, by go_num, by rw [HE7.out], rfl, H1, H2, H3, hbx.trans (hb2.mono hbx.size)⟩
                    case measure => simp [intOf]; omega
                  case false =>
                    have H3 : Hid (fstK l (gwB l s) (k + 1) = some f) := HF2.out
                    clear HF2
                    go_wp2_with fail
                    go_round
                    case rel => exact ⟨k + 1, cw + 1, ca + 1, some f, by omega, by omega, by omega, by go_num, by go_num, by go_num, rfl, rfl, H1, H2, H3, hbx⟩
                    case measure => simp [intOf]; omega
          · have hk' : k = n := by omega
            subst hk'
            obtain ⟨q, hq⟩ : ∃ q, U.length = q := ⟨_, rfl⟩
            have hql : q ≤ 100 := by rw [← hq]; exact HUl.out hn1
            have HQ := Lib.hid hq; clear hq
            go_wp2_with fail
            refine (KU.out hl _ (HA.out.later hb)).mono ?_; rintro v w3 ⟨hU, hb3⟩
            obtain ⟨BP, cP, rfl, hrP, hcP, hmP⟩ := hU.rd
            rw [HQ.out] at hcP ⊢
            have HRP := Lib.hid hrP; clear hrP hU
            have hB3 : Below w.heap.size w w3 := hb.trans (hb3.mono hb.size)
            clear hb hb3
            go_wp2_with fail
            go_loopw [11, 12, 79] (fun v11 v12 i wr => ∃ (i' a b : Nat), i' ≤ q ∧ a ≤ i' ∧ i = .int .i64 i' ∧ v11 = .int .i64 a ∧ v12 = .int .i64 b ∧ Hid ((ofK l s (U.take i')).length = a) ∧ Hid (stK (ofK l s (U.take i')) = b) ∧ Hid (URd wr BP U) ∧ Below w.heap.size w wr) (fun _ _ i wr => q - (intOf i).toNat)
            case atStart => exact ⟨0, 0, 0, Nat.zero_le _, Nat.le_refl _, rfl, rfl, rfl, (show _ = _ from rfl), (show _ = _ from rfl), HRP, hB3⟩
            case round =>
              clear hB3 HRP
              obtain ⟨i, a, b, hi, hai, rfl, rfl, rfl, HA1, HB1, HR, hb⟩ := hrel
              by_cases hiq : i < q
              · have hRw := HR.out
                obtain ⟨gOx, oOx, Ax, ccx, hBox, hgOx, cOx, hrIx, hcIx, _⟩ := hRw.at (i := i) (by have := HQ.out; omega)
                obtain ⟨ux, hux⟩ : ∃ u, u = U[i]'(by have := HQ.out; omega) := ⟨_, rfl⟩
                rw [← hux] at cOx hrIx hcIx
                have humx : ux ∈ U := by rw [hux]; exact List.getElem_mem _
                obtain ⟨hlx, hltx⟩ := HIn.out _ humx
                obtain ⟨gIx, oIx, hAIx, hgIx, cIx⟩ := RdI.nat hrIx hlx
                rw [Nat.add_zero] at cIx
                obtain ⟨px, hpx⟩ : ∃ p, p = ux[0] := ⟨_, rfl⟩
                rw [← hpx] at cIx
                have hplx : px < l.length := by rw [hpx]; exact hltx _ (List.getElem_mem _)
                have hpnx : px < k := by have := Hn.out; omega
                obtain ⟨gx, ox, hAgx, hgx, hjx⟩ := (HA.out.later hb).at hplx
                obtain ⟨jx, hjkx⟩ : ∃ j, j = l[px] := ⟨_, rfl⟩
                rw [← hjkx] at hjx
                have hjjx : jat l px = jx := by rw [jat_at hplx, ← hjkx]
                have HJx := Lib.hid hjx; clear hjx hjkx
                subst hAIx
                subst hBox
                subst hAgx
                have hst := ofK_take l s (U := U) (k := i) (by have := HQ.out; omega)
                rw [← hux, show ux.getD 0 0 = px by rw [List.getD, List.getElem?_eq_getElem hlx, hpx]; rfl, hjjx] at hst
                have hlx' : (0 : Int) < (ux.length : Int) := by omega
                have c8 := HJx.out.ga
                obtain ⟨T, hT⟩ : ∃ T, sE jx.ga s = T := ⟨_, rfl⟩
                rw [hT] at hst
                have hT' : (jx.ga.toList == s.toList) = T := hT
                have HST := Lib.hid hst
                obtain ⟨mx, hmx⟩ : ∃ m, m = ux.length := ⟨_, rfl⟩
                rw [← hmx] at hlx hlx' hcIx cOx
                have HMX := Lib.hid hmx
                clear hrIx hux humx hltx hpx hjjx hRw hst hT hmx
                cases T
                case false =>
                  have H1 : Hid ((ofK l s (U.take (i + 1))).length = a) := by show _ = _; rw [HST.out]; simpa using HA1.out
                  have H2 : Hid (stK (ofK l s (U.take (i + 1))) = b) := by show _ = _; rw [HST.out]; simpa using HB1.out
                  clear HA1 HB1 HST
                  go_wp2_with fail
                  go_round
                  case rel => exact ⟨i + 1, a, b, by omega, by omega, by go_num, rfl, rfl, H1, H2, HR, hb⟩
                  case measure => simp [intOf]; omega
                case true =>
                  have H1 : Hid ((ofK l s (U.take (i + 1))).length = a + 1) := by
                    show _ = _
                    rw [HST.out, List.length_append, HA1.out]; rfl
                  have H2 : Hid (stK (ofK l s (U.take (i + 1))) = mx) := by
                    show _ = _
                    rw [HST.out]
                    show stK (_ ++ [ux]) = _
                    rw [stK_snoc, HMX.out]
                  clear HA1 HB1 HST
                  go_wp2_with fail
                  go_round
                  case rel => exact ⟨i + 1, a + 1, mx, by omega, by omega, by go_num, by go_num, rfl, H1, H2, HR, hb⟩
                  case measure => simp [intOf]; omega
              · have hi' : i = q := by omega
                subst hi'
                have htk : U.take i = U := by rw [← HQ.out]; exact List.take_length
                have h1 := HA1.out
                have h2 := HB1.out
                rw [htk] at h1 h2
                have he := HEnd.out HS0.out
                rw [h1, h2, ← Hn.out, HW.out, HM.out, HF.out] at he
                have HH := Lib.hid he
                generalize sI l fo = z at HH ⊢
                clear h1 h2 he htk HA1 HB1 HW HM HF HR
                rcases HH.out with ⟨e1, e2⟩ | ⟨e1, e2, e3⟩ | ⟨e1, e2, e3, e4⟩
                · subst e1 e2
                  clear HH
                  go_wp2_with fail
                  go_ret
                  exact ⟨rfl, hb⟩
                · subst e3
                  have d1 : ((cw : Int) == 0) = false := by simp; omega
                  have d1' : (cw == 0) = false := by simpa using e1
                  have d2 : decide ((ca : Int) < z) = true := decide_eq_true (by omega)
                  clear HH e1 e2
                  go_wp2_with fail
                  go_ret
                  exact ⟨rfl, hb⟩
                · subst e3 e4
                  have d1 : ((b : Int) == 0) = false := by simp; omega
                  have d1' : (b == 0) = false := by simpa using e1
                  have d2 : decide ((ca : Int) < z) = false := decide_eq_false (by omega)
                  clear HH e1 e2
                  go_wp2_with fail
                  go_ret
                  exact ⟨rfl, hb⟩
end orderGangs
end Go.Proofs.Ytamlcjepkoagmaa
