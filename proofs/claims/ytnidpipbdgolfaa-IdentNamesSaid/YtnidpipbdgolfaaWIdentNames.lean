/- The walk of IdentNames: the program tells of any text and any labels what the document's own answers tell. Conditions: the arguments are ones that Go can have. -/
import Derived.Test.YtnidpipbdgolfaaAwk
namespace Go.Proofs.Ytnidpipbdgolfaa.identNames
open Go.RowKit
set_option linter.unusedSimpArgs false
set_option linter.unusedVariables false

set_option maxHeartbeats 4000000 in
set_option maxRecDepth 100000 in
theorem walk (s : ByteArray) (A : Option Addr) (n c : Nat) (l : List Lb) (w : World) (hs : s.size ≤ 140737488351232) (hn : n = l.length) (hr : RdL w A l) (hc : n ≤ c) (hc2 : c ≤ 9223372036854775807) (hz : Sz l) :
    Calls Try.prog 3 #[.string s, .slice A n c] w fun e w' => e = .returned (.bool true) ∧ Below w.heap.size w w' := by
  have HN := Lib.hid hn
  have HR := Lib.hid hr
  have HZ := Lib.hid hz
  have hname := Lib.hid (fun W => name_any s W (by omega))
  have hrname := Lib.hid (fun W => rname_any s W (by omega))
  clear hn hr hz
  by_cases hf : fewB l = true
  · have hfew := Lib.hid (fun W h => few_any A n c l W HN (Lib.hid h) HZ hc hc2)
    rw [hf] at hfew
    have hlab := Lib.hid (fun W h => labels_any A n c l W HN (Lib.hid h) HZ hc hc2)
    have hrlab := Lib.hid (fun W h => rlabels_any A n c l W HN (Lib.hid h) HZ hc hc2)
    generalize nameB s = b1 at hname hrname
    generalize labelsB l = b2 at hlab hrlab
    clear hf
    go_enter Try.func3, Try.ntmps3
    go_wp2_with fail
    refine (awake_any _).mono ?_
    rintro e w1 ⟨rfl, hb1⟩
    go_wp2_with fail
    refine (hfew.out _ (HR.out.later hb1)).mono ?_
    rintro e w2 ⟨rfl, hb2⟩
    have hb2' : Below w.heap.size w w2 := hb1.trans (hb2.mono hb1.size)
    go_wp2_with fail
    refine (hname.out _).mono ?_
    rintro e w' ⟨rfl, rfl⟩
    go_wp2_with fail
    refine (hrname.out _).mono ?_
    rintro e w' ⟨rfl, rfl⟩
    go_wp2_with fail
    refine (hlab.out _ (HR.out.later hb2')).mono ?_
    rintro e w3 ⟨rfl, hb3⟩
    have hb3' : Below w.heap.size w w3 := hb2'.trans (hb3.mono hb2'.size)
    go_wp2_with fail
    refine (hrlab.out _ (HR.out.later hb3')).mono ?_
    rintro e w4 ⟨rfl, hb4⟩
    have hb4' : Below w.heap.size w w4 := hb3'.trans (hb4.mono hb3'.size)
    go_wp2
    go_ret
    exact ⟨by simp, hb4'⟩
  · have hf' : fewB l = false := by simpa using hf
    have hfew := Lib.hid (fun W h => few_any A n c l W HN (Lib.hid h) HZ hc hc2)
    rw [hf'] at hfew
    clear hf hf'
    go_enter Try.func3, Try.ntmps3
    go_wp2_with fail
    refine (awake_any _).mono ?_
    rintro e w1 ⟨rfl, hb1⟩
    go_wp2_with fail
    refine (hfew.out _ (HR.out.later hb1)).mono ?_
    rintro e w2 ⟨rfl, hb2⟩
    have hb2' : Below w.heap.size w w2 := hb1.trans (hb2.mono hb1.size)
    go_wp2_with fail
    refine (awake_any _).mono ?_
    rintro e w3 ⟨rfl, hb3⟩
    have hb3' : Below w.heap.size w w3 := hb2'.trans (hb3.mono hb2'.size)
    go_wp2
    go_ret
    exact ⟨rfl, hb3'⟩
end Go.Proofs.Ytnidpipbdgolfaa.identNames
