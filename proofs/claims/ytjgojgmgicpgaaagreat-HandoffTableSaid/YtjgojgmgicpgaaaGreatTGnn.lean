/- What any operation makes of a new scheduler; a nil scheduler; the statements' own look at an operation's size. Condition: the operation is one that Go can have. -/
import Derived.Test.YtjgojgmgicpgaaaGreatTGno
import Derived.Test.YtjgojgmgicpgaaaGreatTQ12
import Derived.Test.YtjgojgmgicpgaaaGreatTQ08
import Derived.Test.YtjgojgmgicpgaaaGreatTGsm
namespace Go.Proofs.YtjgojgmgicpgaaaGreat
open Go.RowKit
set_option linter.unusedSimpArgs false
set_option linter.unusedVariables false

/-- A state that the call owns reads as its cells say. -/
theorem OwnS.rdOf {w : World} {b : Nat} {S : Sg} {ck nx : Int} {A : Option Addr} {N cA : Nat} {B : Option Addr} {K cB : Nat} {C : Option Addr} {n cC : Nat} (h : OwnS w b (.slice A N cA) (.slice B K cB) (.slice C n cC) S) (h1 : ck = S.ck) (h2 : nx = S.nx) : RdSt w ⟨ck, nx, A, N, cA, B, K, cB, C, n, cC⟩ S := by
  obtain ⟨⟨ck', nx', A', N', cA', B', K', cB', C', n', cC'⟩, hv, hr⟩ := h.rd
  have e1 : Value.slice A' N' cA' = .slice A N cA := congrArg (fun a : Array Value => a.getD 2 undef) hv
  have e2 : Value.slice B' K' cB' = .slice B K cB := congrArg (fun a : Array Value => a.getD 3 undef) hv
  have e3 : Value.slice C' n' cC' = .slice C n cC := congrArg (fun a : Array Value => a.getD 4 undef) hv
  injection e1 with x1 x2 x3
  injection e2 with x4 x5 x6
  injection e3 with x7 x8 x9
  subst x1 x2 x3 x4 x5 x6 x7 x8 x9
  have e4 : ck' = S.ck := hr.ck
  have e5 : nx' = S.nx := hr.nx
  rw [e4, ← h1, e5, ← h2] at hr
  exact hr
theorem ascN (K : List ByteArray) (h : K = []) : AscK K := fun i j hi hj _ => by subst h; simp at hi

set_option maxHeartbeats 6400000 in
set_option maxRecDepth 100000 in
theorem perform_9new (b g : Nat) (x : Oz) (hk : x.v.k = 9) : Performs b g (.slice none 0 0) (.slice none 0 0) (.slice none 0 0) Sg.new x (sgT, 0, []) := by
  intro w hG hx
  have k1 := fun (W : World) (h : ∃ lst, Gs W b g lst (.slice none 0 0) (.slice none 0 0) (.slice none 0 0) Sg.new) => h.elim fun lst h => tick_new b g lst W h
  have K1 := Lib.hid k1; have HG := Lib.hid hG
  clear k1 hG hx
  obtain ⟨⟨k, nn, a1, b1, c1, l1, qn, a2, b2, c2, tn, tq, tp, a3, b3, c3, l3, ta, tg, ts, s⟩, A1, m1, p1, A3, m3, p3⟩ := x
  simp only at hk
  subst hk
  have hB0 : Below w.heap.size w (w.alloc (.cells #[.int .i64 9, .string nn, .int .i64 a1, .int .i64 b1, .int .i64 c1, .slice A1 m1 p1, .string qn, .int .i64 a2, .int .i64 b2, .int .i64 c2, .string tn, .string tq, .int .i64 tp, .int .i64 a3, .int .i64 b3, .int .i64 c3, .slice A3 m3 p3, .string ta, .string tg, .int .i64 ts, .string s] 59)) := (Below.refl _ _).alloc (Nat.le_refl _) _
  go_enter Tryz.func63, Tryz.ntmps63
  go_wp2_with fail
  refine (K1.out _ (HG.out.elim fun lst h => ⟨lst, h.below hB0⟩)).mono ?_; rintro e w2 ⟨rfl, hW⟩
  have HW := Lib.hid hW; clear hW
  go_wp2_with fail
  exact bodyPost_ret (v := .tuple #[.slice none 0 0, .int .i64 0]) (by simp [results, Tryz.results63, go_sem]) rfl ⟨⟨none, 0, 0, rfl, RetL.nil _ _⟩, Went.before hB0 HW.out⟩

/-- What an operation that is valid makes of a new scheduler. -/
def newR (v : Ov) : Sg × An :=
  if v.k = 1 then addN Sg.new v.nn v.a1 v.b1 v.c1 v.l1 else if v.k = 3 then addQ Sg.new (v.qn, v.a2, v.b2, v.c2) else if v.k = 9 then (sgT, 0, []) else (Sg.new, 7, [])
theorem newR_acts (v : Ov) : (newR v).2.2 = [] := by
  unfold newR
  split
  · unfold addN; split; rfl; split <;> rfl
  · split
    · unfold addQ; split; rfl; split <;> rfl
    · split <;> rfl
theorem performs_new (b g : Nat) (x : Oz) (hB : opB x.v = true) (hll : x.v.l1.length ≤ 1000) : Performs b g (.slice none 0 0) (.slice none 0 0) (.slice none 0 0) Sg.new x (newR x.v) := by
  have hk : 1 ≤ x.v.k ∧ x.v.k ≤ 9 := by
    by_cases h : 1 ≤ x.v.k ∧ x.v.k ≤ 9
    · exact h
    · rw [opB_no h] at hB; cases hB
  have hc : x.v.k = 1 ∨ x.v.k = 2 ∨ x.v.k = 3 ∨ x.v.k = 4 ∨ x.v.k = 5 ∨ x.v.k = 6 ∨ x.v.k = 7 ∨ x.v.k = 8 ∨ x.v.k = 9 := by omega
  have haM : AscK (keyM Sg.new.M) := ascN _ rfl
  have haQ : AscK (keyQ Sg.new.Q) := ascN _ rfl
  rcases hc with h | h | h | h | h | h | h | h | h
  · have e : newR x.v = addN Sg.new x.v.nn x.v.a1 x.v.b1 x.v.c1 x.v.l1 := if_pos h
    rw [e]
    exact perform_1 b g (.slice none 0 0) (.slice none 0 0) (.slice none 0 0) Sg.new x h sm_new haM hll (fun _ => InsM.end rfl (by decide))
  · have e : newR x.v = (Sg.new, 7, []) := by unfold newR; rw [if_neg (by omega), if_neg (by omega), if_neg (by omega)]
    rw [e]
    exact perform_no2 b g (.slice none 0 0) (.slice none 0 0) (.slice none 0 0) Sg.new x h sm_new haM rfl
  · have e : newR x.v = addQ Sg.new x.que := by unfold newR; rw [if_neg (by omega), if_pos h]; rfl
    rw [e]
    exact perform_3 b g (.slice none 0 0) (.slice none 0 0) (.slice none 0 0) Sg.new x h sm_new haQ (fun _ => InsQ.end rfl (by decide))
  · have e : newR x.v = (Sg.new, 7, []) := by unfold newR; rw [if_neg (by omega), if_neg (by omega), if_neg (by omega)]
    rw [e]
    exact perform_no4 b g (.slice none 0 0) (.slice none 0 0) (.slice none 0 0) Sg.new x h sm_new haQ rfl
  · have e : newR x.v = (Sg.new, 7, []) := by unfold newR; rw [if_neg (by omega), if_neg (by omega), if_neg (by omega)]
    rw [e]
    exact perform_no5 b g (.slice none 0 0) (.slice none 0 0) (.slice none 0 0) Sg.new x h sm_new haQ rfl rfl
  · have e : newR x.v = (Sg.new, 7, []) := by unfold newR; rw [if_neg (by omega), if_neg (by omega), if_neg (by omega)]
    rw [e]
    exact perform_no6 b g (.slice none 0 0) (.slice none 0 0) (.slice none 0 0) Sg.new x h sm_new rfl
  · have e : newR x.v = (Sg.new, 7, []) := by unfold newR; rw [if_neg (by omega), if_neg (by omega), if_neg (by omega)]
    rw [e]
    exact perform_no7 b g (.slice none 0 0) (.slice none 0 0) (.slice none 0 0) Sg.new x h sm_new rfl
  · have e : newR x.v = (Sg.new, 7, []) := by unfold newR; rw [if_neg (by omega), if_neg (by omega), if_neg (by omega)]
    rw [e]
    exact perform_no8 b g (.slice none 0 0) (.slice none 0 0) (.slice none 0 0) Sg.new x h sm_new haM rfl
  · have e : newR x.v = (sgT, 0, []) := by unfold newR; rw [if_neg (by omega), if_neg (by omega), if_pos h]
    rw [e]
    exact perform_9new b g x h
/-- The error, and the state behind. -/
def nErr (v : Ov) : Int := if opB v then (newR v).2.1 else 1
def nSt (v : Ov) : Sg := if opB v then (newR v).1 else Sg.new
theorem do_new (b g : Nat) (lst : Int) (x : Oz) (w : World) (hG : Gs w b g lst (.slice none 0 0) (.slice none 0 0) (.slice none 0 0) Sg.new) (hx : OzOk w x) (hll : x.v.l1.length ≤ 1000) :
    Calls Tryz.prog 24 #[.pointer (some ⟨g, 0, none⟩), .agg x.arr] w fun e w' => (∃ A c, e = .returned (.agg #[.int .i64 (nErr x.v), .slice A 0 c]) ∧ c ≤ 9223372036854775807) ∧ Went w w' b g (.slice none 0 0) (.slice none 0 0) (.slice none 0 0) Sg.new (nSt x.v) := by
  refine (do_any b g (.slice none 0 0) (.slice none 0 0) (.slice none 0 0) Sg.new x (newR x.v) w ⟨lst, hG⟩ hx (fun hB => performs_new b g x hB hll)).mono ?_
  rintro e w' ⟨⟨A, n, c, rfl, hR⟩, hW⟩
  have h0 : (if opB x.v then (newR x.v).2.2 else []) = [] := by split; exact newR_acts _; rfl
  rw [h0] at hR
  obtain ⟨h1, _, h3, h4, _⟩ := hR
  have hn : n = 0 := h1
  subst hn
  exact ⟨⟨A, c, rfl, h4⟩, hW⟩
theorem sm_of (S : Sg) (hM : S.M.length ≤ 1000) (hQ : S.Q.length ≤ 1000) (hJ : S.J = []) (hl : ∀ x ∈ S.M, x.2.length ≤ 1000) (h1 : 1 ≤ S.nx ∧ S.nx ≤ 4611686018427387904) (h2 : 0 ≤ S.ck ∧ S.ck ≤ 4611686018427387904) : Sm S :=
  ⟨hM, hQ, (by rw [hJ]; simp), hl, (fun x hx => (by rw [hJ] at hx; cases hx)), h1, h2⟩
theorem sm_nSt (v : Ov) (hll : v.l1.length ≤ 1000) : Sm (nSt v) := by
  unfold nSt
  split
  · unfold newR
    split
    · unfold addN
      split
      · exact sm_new
      · split
        · exact sm_new
        · refine sm_of _ (show (1 : Nat) ≤ 1000 by decide) (show (0 : Nat) ≤ 1000 by decide) rfl (fun x hx => ?_) (show (1 : Int) ≤ 1 ∧ (1 : Int) ≤ 4611686018427387904 by decide) (show (0 : Int) ≤ 0 ∧ (0 : Int) ≤ 4611686018427387904 by decide)
          have hx' : x ∈ insM (newM Sg.new.ck v.nn v.a1 v.b1 v.c1 none 0 0 v.l1) [] := hx
          unfold insM at hx'
          simp only [List.take_nil, List.drop_nil, List.nil_append, List.mem_singleton] at hx'
          rw [hx']; exact hll
    · split
      · unfold addQ
        split
        · exact sm_new
        · split
          · exact sm_new
          · exact sm_of _ (show (0 : Nat) ≤ 1000 by decide) (show (1 : Nat) ≤ 1000 by decide) rfl (fun x hx => by cases hx) (show (1 : Int) ≤ 1 ∧ (1 : Int) ≤ 4611686018427387904 by decide) (show (0 : Int) ≤ 0 ∧ (0 : Int) ≤ 4611686018427387904 by decide)
      · split
        · exact sm_of _ (show (0 : Nat) ≤ 1000 by decide) (show (0 : Nat) ≤ 1000 by decide) rfl (fun x hx => by cases hx) (show (1 : Int) ≤ 1 ∧ (1 : Int) ≤ 4611686018427387904 by decide) (show (0 : Int) ≤ 1 ∧ (1 : Int) ≤ 4611686018427387904 by decide)
        · exact sm_new
  · exact sm_new
/-- A state that is alike is of a like size. -/
theorem Sm.bare {S T : Sg} (h : Sm T) (hb : S.bare = T.bare) : Sm S := by
  have hM : S.M.map bX = T.M.map bX := congrArg Sg.M hb
  have hJ : S.J.map bY = T.J.map bY := congrArg Sg.J hb
  have hQ : S.Q = T.Q := (congrArg Sg.Q hb : S.bare.Q = T.bare.Q)
  have hc : S.ck = T.ck := (congrArg Sg.ck hb : S.bare.ck = T.bare.ck)
  have hn : S.nx = T.nx := (congrArg Sg.nx hb : S.bare.nx = T.bare.nx)
  have h1 : S.M.length = T.M.length := by have := congrArg List.length hM; simpa using this
  have h2 : S.J.length = T.J.length := by have := congrArg List.length hJ; simpa using this
  refine ⟨by rw [h1]; exact h.M, by rw [hQ]; exact h.Q, by rw [h2]; exact h.J, fun x hx => ?_, fun x hx => ?_, by rw [hn]; exact h.nx, by rw [hc]; exact h.ck⟩
  · obtain ⟨y, hy, he⟩ := List.mem_map.1 (show bX x ∈ T.M.map bX from hM ▸ List.mem_map_of_mem hx)
    have : x.2 = y.2 := (congrArg Prod.snd he.symm : (bX x).2 = (bX y).2)
    rw [this]; exact h.lM y hy
  · obtain ⟨y, hy, he⟩ := List.mem_map.1 (show bY x ∈ T.J.map bY from hJ ▸ List.mem_map_of_mem hx)
    have : x.2 = y.2 := (congrArg Prod.snd he.symm : (bY x).2 = (bY y).2)
    rw [this]; exact h.lJ y hy

theorem new2_any (w : World) : Calls Tryz.prog 23 #[] w fun e w' => (∃ g, e = .returned (.pointer (some ⟨g, 0, none⟩)) ∧ Gs w' w.heap.size g 0 (.slice none 0 0) (.slice none 0 0) (.slice none 0 0) Sg.new) ∧ Below w.heap.size w w' := (new_any w).mono fun e w' h => ⟨⟨_, h.1, h.2.1⟩, h.2.2⟩

/-! ### A nil scheduler -/
set_option maxHeartbeats 1600000 in
set_option maxRecDepth 100000 in
theorem do_nil (x : Oz) (w : World) : Calls Tryz.prog 24 #[.pointer none, .agg x.arr] w fun e w' => e = .returned (.agg #[.int .i64 1, .slice none 0 0]) ∧ Below w.heap.size w w' := by
  obtain ⟨⟨k, nn, a1, b1, c1, l1, qn, a2, b2, c2, tn, tq, tp, a3, b3, c3, l3, ta, tg, ts, s⟩, A1, m1, p1, A3, m3, p3⟩ := x
  go_enter Tryz.func24, Tryz.ntmps24
  have HA0 := Lib.hid (show Bk ((w.alloc (.cells #[.int .i64 k, .string nn, .int .i64 a1, .int .i64 b1, .int .i64 c1, .slice A1 m1 p1, .string qn, .int .i64 a2, .int .i64 b2, .int .i64 c2, .string tn, .string tq, .int .i64 tp, .int .i64 a3, .int .i64 b3, .int .i64 c3, .slice A3 m3 p3, .string ta, .string tg, .int .i64 ts, .string s] 59)).alloc (.cells #[.int .i64 0, .slice none 0 0] 47)) (w.heap.size + 1) 47 #[.int .i64 0, .slice none 0 0] from Bk.freshAt _ _ _ (by simp))
  have hB0 : Below w.heap.size w ((w.alloc (.cells #[.int .i64 k, .string nn, .int .i64 a1, .int .i64 b1, .int .i64 c1, .slice A1 m1 p1, .string qn, .int .i64 a2, .int .i64 b2, .int .i64 c2, .string tn, .string tq, .int .i64 tp, .int .i64 a3, .int .i64 b3, .int .i64 c3, .slice A3 m3 p3, .string ta, .string tg, .int .i64 ts, .string s] 59)).alloc (.cells #[.int .i64 0, .slice none 0 0] 47)) := ((Below.refl _ _).alloc (Nat.le_refl _) _).alloc (by simp) _
  go_wp2_with ((with_reducible refine store_bk rfl 47 (.tmp 4) (.tmp 14) rfl (w.heap.size + 1) 0 #[.int .i64 1, .slice none 0 0] rfl rfl 47 _ #[.int .i64 1, .slice none 0 0] HA0.out (by kernel_rfl) (by simp) (by kernel_rfl) rfl ?_); intro w2 hB2 hg2 hs2)
  exact bodyPost_ret (v := .agg #[.int .i64 1, .slice none 0 0]) (results_bk1 Tryz.results24 _ _ (w.heap.size + 1) 47 _ _ rfl hB2 Tryz.underlying47 rfl (by kernel_rfl)) rfl ⟨rfl, hB0.grown hg2 hB0.size (fun q e => by injection e with e; omega)⟩
set_option maxHeartbeats 3200000 in
set_option maxRecDepth 100000 in
theorem state_nil (w : World) : Calls Tryz.prog 25 #[.pointer none] w fun e w' => (∃ v S', e = .returned (.agg v.arr) ∧ RdSt w' v S' ∧ S'.bare = Sg.new.bare) ∧ Below w.heap.size w w' := by
  have K1 := Lib.hid (fun W => new2_any W)
  have K2 := Lib.hid (fun b g lst vM vQ vJ (W : World) (h : Gs W b g lst vM vQ vJ Sg.new) => state_any b g lst vM vQ vJ Sg.new W h sm_new)
  have hb0 : Below w.heap.size w (w.alloc (.cells #[.int .i64 0, .int .i64 0, .slice none 0 0, .slice none 0 0, .slice none 0 0] 26)) := (Below.refl _ _).alloc (Nat.le_refl _) _
  have HR0 : Hid (Bk (w.alloc (.cells #[.int .i64 0, .int .i64 0, .slice none 0 0, .slice none 0 0, .slice none 0 0] 26)) w.heap.size 26 #[.int .i64 0, .int .i64 0, .slice none 0 0, .slice none 0 0, .slice none 0 0]) := Bk.fresh _ _ _
  go_enter Tryz.func25, Tryz.ntmps25
  go_wp2_with fail
  refine (K1.out _).mono ?_; rintro e w1 ⟨⟨g, rfl, hG1⟩, hb1⟩
  have HG1 := Lib.hid hG1; clear hG1
  have HR1 := Lib.hid (HR0.out.later hb1)
  have hB1 := hb0.trans (hb1.mono hb0.size)
  go_wp2_with fail
  refine (K2.out _ _ _ _ _ _ w1 HG1.out).mono ?_; rintro e w2 ⟨⟨vM, vQ, vJ, S2, rfl, hO, hbr⟩, hb2⟩
  obtain ⟨⟨ck, nx, A, N, cA, B, K, cB, C, n, cC⟩, hva, hvr⟩ := hO.rd
  have hv1 : .slice A N cA = vM := congrArg (fun a : Array Value => a.getD 2 undef) hva
  have hv2 : .slice B K cB = vQ := congrArg (fun a : Array Value => a.getD 3 undef) hva
  have hv3 : .slice C n cC = vJ := congrArg (fun a : Array Value => a.getD 4 undef) hva
  subst hv1 hv2 hv3
  have HR2 := Lib.hid (HR1.out.later hb2)
  have hB2 := hB1.trans (hb2.mono hB1.size)
  have HO := Lib.hid hO; have HBr := Lib.hid hbr
  clear hva hvr hO hbr
  go_wp2_with ((with_reducible refine store_bk rfl 26 (.tmp 2) (.tmp 6) rfl w.heap.size 0 #[.int .i64 Sg.new.ck, .int .i64 Sg.new.nx, .slice A N cA, .slice B K cB, .slice C n cC] rfl rfl 26 _ #[.int .i64 Sg.new.ck, .int .i64 Sg.new.nx, .slice A N cA, .slice B K cB, .slice C n cC] HR2.out (by kernel_rfl) (by simp) (by kernel_rfl) rfl ?_); intro w3 hB3 hg3 hs3)
  have hw1 := HR1.out.here
  have hO3 : OwnS w3 w1.heap.size (.slice A N cA) (.slice B K cB) (.slice C n cC) S2 := HO.out.grp (GrP.of hg3) fun k hk e => by have h1 := (HO.out.blk hk).1; have h2 := HR1.out.here; injection e with e; omega
  have hck : Sg.new.ck = S2.ck := (congrArg Sg.ck HBr.out : S2.bare.ck = Sg.new.bare.ck).symm
  have hnx : Sg.new.nx = S2.nx := (congrArg Sg.nx HBr.out : S2.bare.nx = Sg.new.bare.nx).symm
  exact bodyPost_ret (v := .agg #[.int .i64 Sg.new.ck, .int .i64 Sg.new.nx, .slice A N cA, .slice B K cB, .slice C n cC]) (results_bk1 Tryz.results25 _ _ w.heap.size 26 _ _ rfl hB3 Tryz.underlying26 rfl (by kernel_rfl)) rfl ⟨⟨⟨Sg.new.ck, Sg.new.nx, A, N, cA, B, K, cB, C, n, cC⟩, S2, rfl, OwnS.rdOf hO3 hck hnx, HBr.out⟩, hB2.grown hg3 (by have := hB2.size; omega) (fun q e => by injection e with e; omega)⟩
set_option maxHeartbeats 1600000 in
theorem rnew_any (w : World) : Calls Tryz.prog 45 #[] w fun e w' => e = .returned (.agg #[.int .i64 0, .int .i64 1, .slice none 0 0, .slice none 0 0, .slice none 0 0]) ∧ Below w.heap.size w w' := by
  go_enter Tryz.func45, Tryz.ntmps45
  go_wp2_with ((with_reducible refine store_bk rfl 26 (.tmp 0) (.tmp 1) rfl w.heap.size 0 #[.int .i64 0, .int .i64 1, .slice none 0 0, .slice none 0 0, .slice none 0 0] rfl rfl 26 _ #[.int .i64 0, .int .i64 1, .slice none 0 0, .slice none 0 0, .slice none 0 0] (Bk.fresh _ _ _) (by kernel_rfl) (by simp) (by kernel_rfl) rfl ?_); intro w2 hB2 hg2 hs2)
  exact bodyPost_ret (v := .agg #[.int .i64 0, .int .i64 1, .slice none 0 0, .slice none 0 0, .slice none 0 0]) (results_bk1 Tryz.results45 _ _ w.heap.size 26 _ _ rfl hB2 Tryz.underlying26 rfl (by kernel_rfl)) rfl ⟨rfl, grown_below ((Below.refl _ _).alloc (Nat.le_refl _) _) hg2 (Nat.le_refl _)⟩
def svN : Sv := ⟨0, 1, none, 0, 0, none, 0, 0, none, 0, 0⟩
theorem rdN (w : World) : RdSt w svN Sg.new := ⟨rfl, rfl, rfl, RdM.nil _ _, fun x hx => (by cases hx), Nat.le_refl _, by decide, rfl, RdQ.nil _ _, fun x hx => (by cases hx), Nat.le_refl _, by decide, rfl, RdJ.nil _ _, fun x hx => (by cases hx), fun x hx => (by cases hx), Nat.le_refl _, by decide⟩
end Go.Proofs.YtjgojgmgicpgaaaGreat
