/- odd, even, all; Remove's closures; slices.IndexFunc. Condition: at most 1000 entries. -/
import Derived.Test.YtkadcaihihgceaaHp7
import Derived.Test.YtkadcaihihgceaaHmi
namespace Go.Proofs.Ytkadcaihihgceaa
open Go.RowKit
set_option linter.unusedSimpArgs false
set_option linter.unusedVariables false
/-- Is the other number odd? -/
def odB (x : Px) : Bool := !(Int.tmod x.2 2 == 0)
theorem tmod2 (x : Int) : wrap64 (Int.tmod x 2) = Int.tmod x 2 := by
  have h1 := Int.tmod_lt_of_pos x (b := 2) (by omega)
  have h2 : -2 < Int.tmod x 2 := by
    have := Int.tmod_lt_of_pos (-x) (b := 2) (by omega)
    rw [Int.neg_tmod] at this; omega
  unfold wrap64; omega
set_option maxHeartbeats 1600000 in
set_option maxRecDepth 100000 in
theorem odd_any (p : Px) (w : World) : Calls Try.prog 17 #[vP p] w fun e w' => e = .returned (.bool (odB p)) ∧ Below w.heap.size w w' := by
  have h1 := tmod2 p.2
  go_enter Try.func17, Try.ntmps17
  go_wp2_with fail
  all_goals go_ret
  all_goals exact ⟨rfl, (Below.refl _ _).alloc (Nat.le_refl _) _⟩
set_option maxHeartbeats 1600000 in
set_option maxRecDepth 100000 in
theorem even_any (p : Px) (w : World) : Calls Try.prog 18 #[vP p] w fun e w' => e = .returned (.bool (!odB p)) ∧ Below w.heap.size w w' := by
  have h1 := tmod2 p.2
  have h2 : (Int.tmod p.2 2 == 0) = !odB p := by unfold odB; rw [Bool.not_not]
  have H2 := Lib.hid h2
  clear h2
  go_enter Try.func18, Try.ntmps18
  go_wp2_with fail
  all_goals go_ret
  all_goals exact ⟨by rw [← H2.out]; rfl, (Below.refl _ _).alloc (Nat.le_refl _) _⟩
set_option maxHeartbeats 1600000 in
set_option maxRecDepth 100000 in
theorem all_any (p : Px) (w : World) : Calls Try.prog 28 #[vP p] w fun e w' => e = .returned (.bool true) ∧ Below w.heap.size w w' := by
  go_enter Try.func28, Try.ntmps28
  go_wp2_with fail
  all_goals go_ret
  all_goals exact ⟨rfl, by first | exact Below.refl _ _ | exact (Below.refl _ _).alloc (Nat.le_refl _) _⟩
/-- A function that chooses. -/
structure Chs (G : FuncId) (wh : Px → Bool) : Prop where
  en : ∀ (args : Array Value) (w : World), (callFunc G args).run Try.prog w = .ok (.enter G args) w
  an : ∀ (p : Px) (w : World), Calls Try.prog G #[vP p] w fun e w' => e = .returned (.bool (wh p)) ∧ Below w.heap.size w w'
theorem chs_odd : Chs 17 odB := ⟨fun _ _ => rfl, odd_any⟩
theorem chs_even : Chs 18 (fun p => !odB p) := ⟨fun _ _ => rfl, even_any⟩
theorem chs_all : Chs 28 (fun _ => true) := ⟨fun _ _ => rfl, all_any⟩
abbrev arrE (x : Px × Int) : Array Value := #[.int .i64 x.1.1, .int .i64 x.1.2, .int .i64 x.2]
set_option maxHeartbeats 1600000 in
set_option maxRecDepth 100000 in
theorem remC_any (G : FuncId) (wh : Px → Bool) (g3 g7 : Nat) (x : Px × Int) (w : World) (hC : Hid (Chs G wh)) (h3 : Hid (w.cell? ⟨g3, 0, none⟩ = some (.func (.func G) #[] #[]))) (h7 : Hid (Bk w g7 62 (arrE x))) :
    Calls Try.prog 34 #[.pointer (some ⟨g3, 0, none⟩), .pointer (some ⟨g7, 0, none⟩)] w fun e w' => e = .returned (.bool (wh x.1)) ∧ Below w.heap.size w w' := by
  have hen := hC.out.en
  have h3' := h3.out
  go_enter Try.func34, Try.ntmps34
  go_wp2_with (with_reducible refine load_bk rfl 27 _ rfl g7 0 rfl 62 (arrE x) #[.int .i64 x.1.1, .int .i64 x.1.2] _ h7.out (Part.of rfl) Try.underlying27 rfl (by kernel_rfl) ?_)
  refine (hC.out.an x.1 _).mono ?_; rintro e w1 ⟨rfl, hb1⟩
  go_wp2_with fail
  go_ret
  exact ⟨rfl, hb1⟩
/-- An entry's place in memory, behind new blocks. -/
theorem below2 {w : World} {o o' : Obj} : Below w.heap.size w ((w.alloc o).alloc o') := ((Below.refl _ _).alloc (Nat.le_refl _) _).alloc (by simp) _
set_option maxHeartbeats 1600000 in
set_option maxRecDepth 100000 in
theorem delC_any (g5 bm : Nat) (f : Int → Bool) (x : Px × Int) (w : World) (h5 : Hid (w.cell? ⟨g5, 0, none⟩ = some (.map (some bm)))) (hM : Hid (SetI w bm f)) :
    Calls Try.prog 36 #[.agg (arrE x), .pointer (some ⟨g5, 0, none⟩)] w fun e w' => e = .returned (.bool (f x.2)) ∧ Below w.heap.size w w' := by
  have h5' := h5.out
  have hlt : g5 < w.heap.size := World.block_lt_of_cell? w _ h5.out
  have HM1 : Hid (SetI (w.alloc (.cells (arrE x) 62)) bm f) := hM.out.later ((Below.refl _ _).alloc (Nat.le_refl _) _)
  go_enter Try.func36, Try.ntmps36
  go_wp2_with (with_reducible refine look_seti _ rfl (.tmp 7) (.tmp 9) 65 rfl 3 _ .i64 Try.underlying65 Try.underlying3 rfl bm f rfl HM1.out x.2 rfl ?_)
  all_goals go_ret
  all_goals exact ⟨rfl, below2⟩
/-- What IndexFunc says: the first one that is chosen, or -1. -/
def IxF (f : Int → Bool) (l : List (Px × Int)) (i : Int) : Prop := (i = -1 ∧ ∀ x ∈ l, f x.2 = false) ∨ ∃ k : Nat, i = k ∧ ∃ hk : k < l.length, f l[k].2 = true ∧ ∀ x ∈ l.take k, f x.2 = false
set_option maxHeartbeats 3200000 in
set_option maxRecDepth 100000 in
theorem idx_any (g n c g5 : Nat) (l : List (Px × Int)) (f : Int → Bool) (w : World) (hn : Hid (n = l.length)) (hbig : n ≤ 1000) (hr : Hid (RdK w 3 (some ⟨g, 0, none⟩) (l.map eP)))
    (hK : Hid (∀ W, Below w.heap.size w W → ∀ x : Px × Int, Calls Try.prog 36 #[.agg (arrE x), .pointer (some ⟨g5, 0, none⟩)] W fun e w' => e = .returned (.bool (f x.2)) ∧ Below W.heap.size W w')) :
    Calls Try.prog 46 #[.slice (some ⟨g, 0, none⟩) n c, .func (.func 36) #[] #[.pointer (some ⟨g5, 0, none⟩)]] w fun e w' => ∃ i, e = .returned (.int .i64 i) ∧ IxF f l i ∧ Below w.heap.size w w' := by
  go_enter Try.func46, Try.ntmps46
  go_wp2_with fail
  go_loopw [8] (fun s8 wr => ∃ k : Nat, k ≤ n ∧ s8 = .int .i64 k ∧ Hid (∀ x ∈ l.take k, f x.2 = false) ∧ Hid (Below w.heap.size w wr)) (fun s8 wr => n - (intOf s8).toNat)
  case atStart => exact ⟨0, Nat.zero_le _, rfl, by intro x hx; simp at hx, Below.refl _ _⟩
  case round =>
    obtain ⟨k, hk, rfl, HF, HB⟩ := hrel
    by_cases hkn : k < n
    · have hkl : Hid (k < l.length) := by show k < l.length; rw [← hn.out]; exact hkn
      obtain ⟨g', o, ha, hx⟩ := hr.out.at (i := k) (by rw [List.length_map]; exact hkl.out)
      have hg : g = g' := by injection ha with ha; injection ha
      have ho : 0 = o := by injection ha with ha; injection ha
      subst hg ho
      obtain ⟨x, ex⟩ : ∃ x, x = l[k]'hkl.out := ⟨_, rfl⟩
      have hx2 : wr.rangeAt g (k * 3) (arrE x).toList := by
        have := range_keep hx HB.out
        rw [List.getElem_map, ← ex, Nat.zero_add] at this
        exact this
      have HX := Lib.hid hx2
      have EX := Lib.hid ex
      have hw : wrap64 ((k : Int) + 1) = ((k + 1 : Nat) : Int) := by unfold wrap64; omega
      have HA := hK.out wr HB.out x
      have HTK : Hid (l.take (k + 1) = l.take k ++ [x]) := by show _ = _; rw [List.take_succ_eq_append_getElem hkl.out, EX.out]
      clear ha hx hx2 ex
      cases hf : f x.2 with
      | true =>
        rw [hf] at HA
        have HFX := Lib.hid hf
        clear hf
        go_wp2_with (with_reducible refine load_rg rfl 62 _ rfl g (k * 3) rfl (arrE x) _ HX.out Try.underlying62 rfl (by kernel_rfl) ?_)
        refine HA.mono ?_; rintro e w1 ⟨rfl, hb1⟩
        go_wp2_with fail
        go_ret
        exact ⟨_, rfl, .inr ⟨k, rfl, hkl.out, by rw [← EX.out]; exact HFX.out, HF.out⟩, HB.out.trans (hb1.mono HB.out.size)⟩
      | false =>
        rw [hf] at HA
        have HFX := Lib.hid hf
        clear hf
        go_wp2_with (with_reducible refine load_rg rfl 62 _ rfl g (k * 3) rfl (arrE x) _ HX.out Try.underlying62 rfl (by kernel_rfl) ?_)
        refine HA.mono ?_; rintro e w1 ⟨rfl, hb1⟩
        have HB1 := Lib.hid (HB.out.trans (hb1.mono HB.out.size))
        clear hb1 HA HB
        go_wp2_with fail
        go_round
        case rel => exact ⟨k + 1, by omega, by go_num, by
          intro y hy
          rw [HTK.out] at hy
          rcases List.mem_append.1 hy with hy | hy
          · exact HF.out y hy
          · rw [List.mem_singleton.1 hy]; exact HFX.out, HB1⟩
        case measure => simp [intOf]; omega
    · have hkE : k = n := by omega
      subst hkE
      clear hk hkn
      go_wp2_with fail
      go_ret
      exact ⟨_, rfl, .inl ⟨rfl, by have := HF.out; rw [List.take_of_length_le (by rw [← hn.out]; exact Nat.le_refl _)] at this; exact this⟩, HB.out⟩
section
variable {P : Program}
theorem zeroCells_one {z : Array Value} (h1 : ∀ u ∈ z.toList, u.oneCell' = true) (hz : 0 < z.size) (m : Nat) : ∀ u ∈ (Builtin.zeroCells z m).toList, u.oneCell' = true := by
  intro u hu
  simp only [Builtin.zeroCells, Array.toList_map, List.mem_map] at hu
  obtain ⟨i, _, rfl⟩ := hu
  have hi : i % z.size < z.size := Nat.mod_lt _ hz
  rw [getElem!_pos z _ hi]
  exact h1 _ (by simp)
/-- Some elements are cleared. -/
theorem clear_k {ops : Array Oper} {rest : List Oper} (w : World) {o : Oper} {a : Act} {Q : Exit → Act → World → Prop} (hw : Region.wanted o (yielded ops a.tmps) = true) (x : Operand) (t : TypeId) (hop : o.op = Op.call { callee := Callee.builtin Builtin.clear, args := #[x], argTypes := #[t] })
    (e : TypeId) (z : Value) (k b : Nat) (hu : P.underlying t = some (.slice e)) (h2 : (P.info? e).map (fun i => (i.zero, i.size, i.bytes)) = some (some z, k, b)) (hz : z.cells.size = k) (hk : 0 < k) (h1 : ∀ u ∈ z.cells.toList, u.oneCell' = true)
    (g d dk cm m : Nat) (hdk : dk = d * k) (L : List (List Value)) (hr : RowK w g e k L) (on : Nat) (hx : a.eval x = .slice (some ⟨g, dk, none⟩) on cm) (hon : on = m + 1) (hfit : d + (m + 1) ≤ L.length)
    (hK : ∀ w' L', RowK w' g e k L' → L'.length = L.length → L'.take d = L.take d → w.grownBy w' (some g) → w'.heap.size = w.heap.size → wpList P ops Q rest (a.put o.dst (.tuple #[])) w') : wpList P ops Q (o :: rest) a w :=
  BigFrame.wpList_want hw fun K hKK => by
    subst hdk hon
    obtain ⟨i, hi, hiz, his, hib⟩ := info_partsK h2
    have hLl : L.flatten.length = L.length * k := flat_length hr.each
    have hzl : (Builtin.zeroCells z.cells (m + 1)).toList.length = (m + 1) * k := by rw [Array.length_toList, size_zeroCells, hz]
    have hfk : d * k + (m + 1) * k ≤ L.length * k := by rw [← Nat.add_mul]; exact Nat.mul_le_mul_right k hfit
    obtain ⟨Z, z1, z2, z3⟩ := chunks k (m + 1) _ hzl
    have hst := run_storeCells_at P g (d * k) e (Builtin.zeroCells z.cells (m + 1)).toList 0 L.flatten.toArray w hr.row (by
      rw [List.size_toArray, hLl, hzl, Nat.add_zero]; exact hfk) (zeroCells_one h1 (by omega) _)
    unfold Oper.wp
    simp only [Nat.add_zero] at hst
    have hrun : (Builtin.clear_ #[t] o.type #[.slice (some ⟨g, d * k, none⟩) (m + 1) cm]).run P w = .ok (.tuple #[]) (w.setRow g (L.flatten.take (d * k) ++ (Builtin.zeroCells z.cells (m + 1)).toList ++ L.flatten.drop (d * k + (Builtin.zeroCells z.cells (m + 1)).toList.length)).toArray) := by
      simp [Builtin.clear_, run_underlying hu, zeroValue, typeInfo, hi, hiz]
      rw [hst]
      simp
    simp [execOp, hop, resolve, invoke, builtin, hx, Result.andThen]
    simp only [hrun]
    refine hKK _ _ (hK _ (L.take d ++ Z ++ L.drop (d + (m + 1))) ⟨?_, fun y hy => ?_⟩ ?_ ?_ (grown_setRow _ _ _) (by simp))
    · rw [setRow_heap w g _ _ e (0, 0) hr.row]
      congr 3
      rw [List.flatten_append, List.flatten_append, flat_take hr.each, flat_drop hr.each, z2, Nat.add_mul, hzl]
    · rcases List.mem_append.1 hy with hy | hy
      · rcases List.mem_append.1 hy with hy | hy
        · exact hr.each y (List.mem_of_mem_take hy)
        · exact z3 y hy
      · exact hr.each y (List.mem_of_mem_drop hy)
    · simp only [List.length_append, List.length_take, List.length_drop, z1]; omega
    · rw [List.append_assoc, List.take_append_of_le_length (by rw [List.length_take]; omega), List.take_of_length_le (by rw [List.length_take]; omega)]
/-- A whole element is stored into a row that the call owns. -/
theorem store_elem {ops : Array Oper} {rest : List Oper} {w : World} {o : Oper} {a : Act} {Q : Exit → Act → World → Prop} {base k g n c : Nat} {e : TypeId} {l : List (List Value)} (hw : Region.wanted o (yielded ops a.tmps) = true) (ty : TypeId) (x y : Operand) (ho : o.op = .store ty x y)
    (off : Nat) (v : Array Value) (hx : a.eval x = .pointer (some ⟨g, off, none⟩)) (hy : a.eval y = .agg v) (hown : OwnK w base e k (.slice (some ⟨g, 0, none⟩) n c) l) (p : Nat) (hoff : off = p * k) (hp : p < l.length) (hv : v.size = k)
    (hi : (P.info? ty).map (·.size) = some k) (h1 : v.all (·.oneCell') = true)
    (h : ∀ w', OwnK w' base e k (.slice (some ⟨g, 0, none⟩) n c) (l.set p v.toList) → w.grownBy w' (some g) → w'.heap.size = w.heap.size → wpList P ops Q rest (a.put o.dst undef) w') : wpList P ops Q (o :: rest) a w :=
  BigFrame.wpList_want hw fun K hKK => store_elem_op ty x y ho off v hx hy hown p hoff hp hv hi h1 fun w' a b c => hKK _ _ (h w' a b c)
end
end Go.Proofs.Ytkadcaihihgceaa
