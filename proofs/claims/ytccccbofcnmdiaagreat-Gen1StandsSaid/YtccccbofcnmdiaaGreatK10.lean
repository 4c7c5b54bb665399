/- Lemmas that the law stands on. No condition. -/
import Derived.Test.YtccccbofcnmdiaaGreatK09
namespace Go.Proofs.YtccccbofcnmdiaaGreat
set_option linter.unusedSimpArgs false
set_option linter.unusedVariables false
set_option maxRecDepth 100000
set_option maxHeartbeats 51200000
section
open Go.RowKit
def adm (nm:ByteArray) (a b c d e f x y z v:Int):Int:=
 if queueB nm a b c && rB d e f then (if v=0 then (if fB (x+d) (y+e) (z+f) a b c then 0 else 9) else v) else 1
section
variable {nm:ByteArray}{a b c d e f x y z v:Int}
theorem adm_q (h:queueB nm a b c=false):adm nm a b c d e f x y z v=1:=by unfold adm;rw [h];rfl
theorem adm_n (h:rB d e f=false):adm nm a b c d e f x y z v=1:=by unfold adm;rw [h,Bool.and_false];rfl
theorem adm_v (h:queueB nm a b c=true)(h2:rB d e f=true)(h3:v ≠ 0):adm nm a b c d e f x y z v=v:=by unfold adm;rw [h,h2,if_neg h3];rfl
theorem adm_0 (h:queueB nm a b c=true)(h2:rB d e f=true):adm nm a b c d e f x y z 0=if fB (x+d) (y+e) (z+f) a b c then 0 else 9:=by unfold adm;rw [h,h2,if_pos rfl];rfl
end
theorem fB_over {a b c x y z d e f:Int}(h1:rB x y z=true)(h2:rB d e f=true)(hq:rB a b c=true)(h:adB x y z d e f=false):fB (x+d) (y+e) (z+f) a b c=false:=by
 have k1:=rB_bd h1
 have k2:=rB_bd h2
 have k3:=rB_bd hq
 have h3:rB (x+d) (y+e) (z+f)=false:=by unfold adB at h;rw [h1,h2] at h;simpa using h
 refine decide_eq_false fun hc=>?_
 rw [rB_mk (by omega)] at h3
 cases h3
theorem queueB_r {nm:ByteArray}{a b c:Int}(h:queueB nm a b c=true):rB a b c=true:=by unfold queueB at h;rw [Bool.and_eq_true] at h;exact h.2

theorem admit_any (nm:ByteArray) (a b c:Int)(A:Option Addr) (n cap:Nat)(l:List Jb) (d e f:Int)(w:World)(hn:Hid (n=l.length))(hl:n<=9223372036854775807)(hA:Hid (RdJ w A l))(hnm:nm.size<=9223372036854775807) (x y z v:Int)(hs:Hid (sm 0 0 0 (ofQ nm l)=(x,y,z,v))) :
  Calls Tryz.prog 131 #[.agg #[.string nm,.int .i64 a,.int .i64 b,.int .i64 c],.slice A n cap,.agg #[.int .i64 d,.int .i64 e,.int .i64 f]] w fun r w'=>r = .returned (.int .i64 (adm nm a b c d e f x y z v))/\Below w.heap.size w w':=by
 have k1:=fun W=>queue_any nm a b c W hnm
 have k2:=fun W=>right_any d e f W
 cases c1:queueB nm a b c
 case false=>
  rw [adm_q c1]
  rw [c1] at k1
  have K1:=Lib.hid k1
  clear k1 k2 c1
  go_enter Tryz.func131,Tryz.ntmps131
  have hQ0:Bk ((w.alloc (.cells #[.string nm,.int .i64 a,.int .i64 b,.int .i64 c] 45)).alloc (.cells #[.int .i64 d,.int .i64 e,.int .i64 f] 40)) w.heap.size 45 #[.string nm,.int .i64 a,.int .i64 b,.int .i64 c]:=(Bk.fresh w _ _).later ((Below.refl _ _).alloc (Nat.le_refl _) _)
  have hN0:Bk ((w.alloc (.cells #[.string nm,.int .i64 a,.int .i64 b,.int .i64 c] 45)).alloc (.cells #[.int .i64 d,.int .i64 e,.int .i64 f] 40)) (w.heap.size+1) 40 #[.int .i64 d,.int .i64 e,.int .i64 f]:=Bk.freshAt _ _ _ (by simp)
  have HQ0:=Lib.hid hQ0;clear hQ0
  have HN0:=Lib.hid hN0;clear hN0
  have hb0:Below w.heap.size w ((w.alloc (.cells #[.string nm,.int .i64 a,.int .i64 b,.int .i64 c] 45)).alloc (.cells #[.int .i64 d,.int .i64 e,.int .i64 f] 40)):=((Below.refl _ _).alloc (Nat.le_refl _) _).alloc (by simp) _
  go_wp2_with ((with_reducible refine load_bk rfl 45 _ rfl w.heap.size 0 rfl 45 #[.string nm,.int .i64 a,.int .i64 b,.int .i64 c] #[.string nm,.int .i64 a,.int .i64 b,.int .i64 c] _ HQ0.out (Part.whole _) Tryz.underlying45 rfl (by kernel_rfl) ?_))
  refine (K1.out _).mono ?_;rintro r w1 ⟨rfl,hb1⟩
  go_wp2_with fail
  go_ret
  exact ⟨rfl,hb0.trans (hb1.mono hb0.size)⟩
 case true=>
  rw [c1] at k1
  have K1:=Lib.hid k1;clear k1
  cases c2:rB d e f
  case false=>
   rw [adm_n c2]
   rw [c2] at k2
   have K2:=Lib.hid k2;clear k2 c1 c2
   go_enter Tryz.func131,Tryz.ntmps131
   have hQ0:Bk ((w.alloc (.cells #[.string nm,.int .i64 a,.int .i64 b,.int .i64 c] 45)).alloc (.cells #[.int .i64 d,.int .i64 e,.int .i64 f] 40)) w.heap.size 45 #[.string nm,.int .i64 a,.int .i64 b,.int .i64 c]:=(Bk.fresh w _ _).later ((Below.refl _ _).alloc (Nat.le_refl _) _)
   have hN0:Bk ((w.alloc (.cells #[.string nm,.int .i64 a,.int .i64 b,.int .i64 c] 45)).alloc (.cells #[.int .i64 d,.int .i64 e,.int .i64 f] 40)) (w.heap.size+1) 40 #[.int .i64 d,.int .i64 e,.int .i64 f]:=Bk.freshAt _ _ _ (by simp)
   have HQ0:=Lib.hid hQ0;clear hQ0
   have HN0:=Lib.hid hN0;clear hN0
   have hb0:Below w.heap.size w ((w.alloc (.cells #[.string nm,.int .i64 a,.int .i64 b,.int .i64 c] 45)).alloc (.cells #[.int .i64 d,.int .i64 e,.int .i64 f] 40)):=((Below.refl _ _).alloc (Nat.le_refl _) _).alloc (by simp) _
   go_wp2_with ((with_reducible refine load_bk rfl 45 _ rfl w.heap.size 0 rfl 45 #[.string nm,.int .i64 a,.int .i64 b,.int .i64 c] #[.string nm,.int .i64 a,.int .i64 b,.int .i64 c] _ HQ0.out (Part.whole _) Tryz.underlying45 rfl (by kernel_rfl) ?_))
   refine (K1.out _).mono ?_;rintro r w1 ⟨rfl,hb1⟩
   have hB1:Below w.heap.size w w1:=hb0.trans (hb1.mono hb0.size)
   have HQ1:=Lib.hid (HQ0.out.later hb1);have HN1:=Lib.hid (HN0.out.later hb1);clear HQ0 HN0 hb0
   go_wp2_with ((with_reducible refine load_bk rfl 40 _ rfl (w.heap.size+1) 0 rfl 40 #[.int .i64 d,.int .i64 e,.int .i64 f] #[.int .i64 d,.int .i64 e,.int .i64 f] _ HN1.out (Part.whole _) Tryz.underlying40 rfl (by kernel_rfl) ?_))
   refine (K2.out _).mono ?_;rintro r w2 ⟨rfl,hb2⟩
   have hB2:Below w.heap.size w w2:=hB1.trans (hb2.mono hB1.size)
   have HQ2:=Lib.hid (HQ1.out.later hb2);have HN2:=Lib.hid (HN1.out.later hb2);clear HQ1 HN1
   go_wp2_with fail
   go_ret
   exact ⟨rfl,hB2⟩
  case true=>
   rw [c2] at k2
   have K2:=Lib.hid k2;clear k2
   have hqr:=queueB_r c1
   rcases sm_is (by decide) hs.out with ⟨rfl,hx⟩ | ⟨hv,rfl,rfl,rfl⟩
   case inr=>
    rw [adm_v c1 c2 (by omega)]
    clear c1 c2 hqr
    rcases hv with rfl | rfl
    all_goals
     go_enter Tryz.func131,Tryz.ntmps131
     have hQ0:Bk ((w.alloc (.cells #[.string nm,.int .i64 a,.int .i64 b,.int .i64 c] 45)).alloc (.cells #[.int .i64 d,.int .i64 e,.int .i64 f] 40)) w.heap.size 45 #[.string nm,.int .i64 a,.int .i64 b,.int .i64 c]:=(Bk.fresh w _ _).later ((Below.refl _ _).alloc (Nat.le_refl _) _)
     have hN0:Bk ((w.alloc (.cells #[.string nm,.int .i64 a,.int .i64 b,.int .i64 c] 45)).alloc (.cells #[.int .i64 d,.int .i64 e,.int .i64 f] 40)) (w.heap.size+1) 40 #[.int .i64 d,.int .i64 e,.int .i64 f]:=Bk.freshAt _ _ _ (by simp)
     have HQ0:=Lib.hid hQ0;clear hQ0
     have HN0:=Lib.hid hN0;clear hN0
     have hb0:Below w.heap.size w ((w.alloc (.cells #[.string nm,.int .i64 a,.int .i64 b,.int .i64 c] 45)).alloc (.cells #[.int .i64 d,.int .i64 e,.int .i64 f] 40)):=((Below.refl _ _).alloc (Nat.le_refl _) _).alloc (by simp) _
     go_wp2_with ((with_reducible refine load_bk rfl 45 _ rfl w.heap.size 0 rfl 45 #[.string nm,.int .i64 a,.int .i64 b,.int .i64 c] #[.string nm,.int .i64 a,.int .i64 b,.int .i64 c] _ HQ0.out (Part.whole _) Tryz.underlying45 rfl (by kernel_rfl) ?_))
     refine (K1.out _).mono ?_;rintro r w1 ⟨rfl,hb1⟩
     have hB1:Below w.heap.size w w1:=hb0.trans (hb1.mono hb0.size)
     have HQ1:=Lib.hid (HQ0.out.later hb1);have HN1:=Lib.hid (HN0.out.later hb1);clear HQ0 HN0 hb0
     go_wp2_with ((with_reducible refine load_bk rfl 40 _ rfl (w.heap.size+1) 0 rfl 40 #[.int .i64 d,.int .i64 e,.int .i64 f] #[.int .i64 d,.int .i64 e,.int .i64 f] _ HN1.out (Part.whole _) Tryz.underlying40 rfl (by kernel_rfl) ?_))
     refine (K2.out _).mono ?_;rintro r w2 ⟨rfl,hb2⟩
     have hB2:Below w.heap.size w w2:=hB1.trans (hb2.mono hB1.size)
     have HQ2:=Lib.hid (HQ1.out.later hb2);have HN2:=Lib.hid (HN1.out.later hb2);clear HQ1 HN1
     have H2A:=Lib.hid (hA.out.later hB2)
     have cnm:w2.cell? ⟨w.heap.size,0,none⟩=some (.string nm):=HQ2.out.cellAt 0
     have hsz2:w.heap.size<w2.heap.size:=HQ2.out.here
     go_wp2_with fail
     refine (used_any A n cap l nm _ hn hl H2A _ _ _ _ hs).mono ?_;rintro r w3 ⟨rfl,hb3⟩
     have hB3:Below w.heap.size w w3:=hB2.trans (hb3.mono hB2.size)
     have HQ3:=Lib.hid (HQ2.out.later hb3);have HN3:=Lib.hid (HN2.out.later hb3);clear HQ2 HN2 cnm H2A
     go_wp2_with (((with_reducible refine store_bk rfl 40 (.tmp 7) (.tmp 23) rfl w3.heap.size 0 #[.int .i64 0,.int .i64 0,.int .i64 0] rfl rfl 40 _ #[.int .i64 0,.int .i64 0,.int .i64 0] (Bk.fresh _ _ _) (by kernel_rfl) (by simp) (by kernel_rfl) rfl ?_);intro w4 hU4 hg4 hs4;have HU4:=Lib.hid hU4;clear hU4;have hB4:Below w.heap.size w w4:=grown_below (hB3.alloc hB3.size _) hg4 hB3.size;have HQ4:=Lib.hid ((HQ3.out.later ((Below.refl _ _).alloc (Nat.le_refl _) _)).stays hg4 (by have:=HQ3.out.here;simp;omega));have HN4:=Lib.hid ((HN3.out.later ((Below.refl _ _).alloc (Nat.le_refl _) _)).stays hg4 (by have:=HN3.out.here;simp;omega))))
     go_ret
     exact ⟨rfl,hB4⟩
   case inl=>
    rw [adm_0 c1 c2]
    cases ha:adB x y z d e f
    case false=>
     rw [fB_over hx c2 hqr ha]
     have H6:=Lib.hid (adE_over hx c2 ha)
     have HH:=Lib.hid ha
     clear c1 c2 hqr ha hx
     go_enter Tryz.func131,Tryz.ntmps131
     have hQ0:Bk ((w.alloc (.cells #[.string nm,.int .i64 a,.int .i64 b,.int .i64 c] 45)).alloc (.cells #[.int .i64 d,.int .i64 e,.int .i64 f] 40)) w.heap.size 45 #[.string nm,.int .i64 a,.int .i64 b,.int .i64 c]:=(Bk.fresh w _ _).later ((Below.refl _ _).alloc (Nat.le_refl _) _)
     have hN0:Bk ((w.alloc (.cells #[.string nm,.int .i64 a,.int .i64 b,.int .i64 c] 45)).alloc (.cells #[.int .i64 d,.int .i64 e,.int .i64 f] 40)) (w.heap.size+1) 40 #[.int .i64 d,.int .i64 e,.int .i64 f]:=Bk.freshAt _ _ _ (by simp)
     have HQ0:=Lib.hid hQ0;clear hQ0
     have HN0:=Lib.hid hN0;clear hN0
     have hb0:Below w.heap.size w ((w.alloc (.cells #[.string nm,.int .i64 a,.int .i64 b,.int .i64 c] 45)).alloc (.cells #[.int .i64 d,.int .i64 e,.int .i64 f] 40)):=((Below.refl _ _).alloc (Nat.le_refl _) _).alloc (by simp) _
     go_wp2_with ((with_reducible refine load_bk rfl 45 _ rfl w.heap.size 0 rfl 45 #[.string nm,.int .i64 a,.int .i64 b,.int .i64 c] #[.string nm,.int .i64 a,.int .i64 b,.int .i64 c] _ HQ0.out (Part.whole _) Tryz.underlying45 rfl (by kernel_rfl) ?_))
     refine (K1.out _).mono ?_;rintro r w1 ⟨rfl,hb1⟩
     have hB1:Below w.heap.size w w1:=hb0.trans (hb1.mono hb0.size)
     have HQ1:=Lib.hid (HQ0.out.later hb1);have HN1:=Lib.hid (HN0.out.later hb1);clear HQ0 HN0 hb0
     go_wp2_with ((with_reducible refine load_bk rfl 40 _ rfl (w.heap.size+1) 0 rfl 40 #[.int .i64 d,.int .i64 e,.int .i64 f] #[.int .i64 d,.int .i64 e,.int .i64 f] _ HN1.out (Part.whole _) Tryz.underlying40 rfl (by kernel_rfl) ?_))
     refine (K2.out _).mono ?_;rintro r w2 ⟨rfl,hb2⟩
     have hB2:Below w.heap.size w w2:=hB1.trans (hb2.mono hB1.size)
     have HQ2:=Lib.hid (HQ1.out.later hb2);have HN2:=Lib.hid (HN1.out.later hb2);clear HQ1 HN1
     have H2A:=Lib.hid (hA.out.later hB2)
     have cnm:w2.cell? ⟨w.heap.size,0,none⟩=some (.string nm):=HQ2.out.cellAt 0
     have hsz2:w.heap.size<w2.heap.size:=HQ2.out.here
     go_wp2_with fail
     refine (used_any A n cap l nm _ hn hl H2A _ _ _ _ hs).mono ?_;rintro r w3 ⟨rfl,hb3⟩
     have hB3:Below w.heap.size w w3:=hB2.trans (hb3.mono hB2.size)
     have HQ3:=Lib.hid (HQ2.out.later hb3);have HN3:=Lib.hid (HN2.out.later hb3);clear HQ2 HN2 cnm H2A
     go_wp2_with (first | ((with_reducible refine store_bk rfl 40 (.tmp 7) (.tmp 23) rfl w3.heap.size 0 #[.int .i64 x,.int .i64 y,.int .i64 z] rfl rfl 40 _ #[.int .i64 x,.int .i64 y,.int .i64 z] (Bk.fresh _ _ _) (by kernel_rfl) (by simp) (by kernel_rfl) rfl ?_);intro w4 hU4 hg4 hs4;have HU4:=Lib.hid hU4;clear hU4;have hB4:Below w.heap.size w w4:=grown_below (hB3.alloc hB3.size _) hg4 hB3.size;have HQ4:=Lib.hid ((HQ3.out.later ((Below.refl _ _).alloc (Nat.le_refl _) _)).stays hg4 (by have:=HQ3.out.here;simp;omega));have HN4:=Lib.hid ((HN3.out.later ((Below.refl _ _).alloc (Nat.le_refl _) _)).stays hg4 (by have:=HN3.out.here;simp;omega))) | (with_reducible refine load_bk rfl 40 _ rfl w3.heap.size 0 rfl 40 #[.int .i64 x,.int .i64 y,.int .i64 z] #[.int .i64 x,.int .i64 y,.int .i64 z] _ HU4.out (Part.whole _) Tryz.underlying40 rfl (by kernel_rfl) ?_) | (with_reducible refine load_bk rfl 40 _ rfl (w.heap.size+1) 0 rfl 40 #[.int .i64 d,.int .i64 e,.int .i64 f] #[.int .i64 d,.int .i64 e,.int .i64 f] _ HN4.out (Part.whole _) Tryz.underlying40 rfl (by kernel_rfl) ?_))
     refine (add_false HH.out H6.out _).mono ?_;rintro r w5 ⟨rfl,hb5⟩
     have hB5:Below w.heap.size w w5:=hB4.trans (hb5.mono hB4.size)
     go_wp2_with (((with_reducible refine store_bk rfl 40 (.tmp 9) (.tmp 32) rfl w5.heap.size 0 #[.int .i64 0,.int .i64 0,.int .i64 0] rfl rfl 40 _ #[.int .i64 0,.int .i64 0,.int .i64 0] (Bk.fresh _ _ _) (by kernel_rfl) (by simp) (by kernel_rfl) rfl ?_);intro w6 hU6 hg6 hs6;have HU6:=Lib.hid hU6;clear hU6;have hB6:Below w.heap.size w w6:=grown_below (hB5.alloc hB5.size _) hg6 hB5.size;have HQ6:=Lib.hid (((HQ4.out.later hb5).later ((Below.refl _ _).alloc (Nat.le_refl _) _)).stays hg6 (by have:=(HQ4.out.later hb5).here;simp;omega))))
     go_ret
     exact ⟨rfl,hB6⟩
    case true=>
     have HH:=Lib.hid ha
     clear c1 c2 hqr ha hx
     obtain ⟨F,hF⟩:∃ F,F=fB (x+d) (y+e) (z+f) a b c:=⟨_,rfl⟩
     rw [<- hF]
     have k3:=fun W=>fits_any (x+d) (y+e) (z+f) a b c W
     rw [<- hF] at k3
     have K3:=Lib.hid k3;clear k3 hF
     cases F
     ·go_enter Tryz.func131,Tryz.ntmps131
      have hQ0:Bk ((w.alloc (.cells #[.string nm,.int .i64 a,.int .i64 b,.int .i64 c] 45)).alloc (.cells #[.int .i64 d,.int .i64 e,.int .i64 f] 40)) w.heap.size 45 #[.string nm,.int .i64 a,.int .i64 b,.int .i64 c]:=(Bk.fresh w _ _).later ((Below.refl _ _).alloc (Nat.le_refl _) _)
      have hN0:Bk ((w.alloc (.cells #[.string nm,.int .i64 a,.int .i64 b,.int .i64 c] 45)).alloc (.cells #[.int .i64 d,.int .i64 e,.int .i64 f] 40)) (w.heap.size+1) 40 #[.int .i64 d,.int .i64 e,.int .i64 f]:=Bk.freshAt _ _ _ (by simp)
      have HQ0:=Lib.hid hQ0;clear hQ0
      have HN0:=Lib.hid hN0;clear hN0
      have hb0:Below w.heap.size w ((w.alloc (.cells #[.string nm,.int .i64 a,.int .i64 b,.int .i64 c] 45)).alloc (.cells #[.int .i64 d,.int .i64 e,.int .i64 f] 40)):=((Below.refl _ _).alloc (Nat.le_refl _) _).alloc (by simp) _
      go_wp2_with ((with_reducible refine load_bk rfl 45 _ rfl w.heap.size 0 rfl 45 #[.string nm,.int .i64 a,.int .i64 b,.int .i64 c] #[.string nm,.int .i64 a,.int .i64 b,.int .i64 c] _ HQ0.out (Part.whole _) Tryz.underlying45 rfl (by kernel_rfl) ?_))
      refine (K1.out _).mono ?_;rintro r w1 ⟨rfl,hb1⟩
      have hB1:Below w.heap.size w w1:=hb0.trans (hb1.mono hb0.size)
      have HQ1:=Lib.hid (HQ0.out.later hb1);have HN1:=Lib.hid (HN0.out.later hb1);clear HQ0 HN0 hb0
      go_wp2_with ((with_reducible refine load_bk rfl 40 _ rfl (w.heap.size+1) 0 rfl 40 #[.int .i64 d,.int .i64 e,.int .i64 f] #[.int .i64 d,.int .i64 e,.int .i64 f] _ HN1.out (Part.whole _) Tryz.underlying40 rfl (by kernel_rfl) ?_))
      refine (K2.out _).mono ?_;rintro r w2 ⟨rfl,hb2⟩
      have hB2:Below w.heap.size w w2:=hB1.trans (hb2.mono hB1.size)
      have HQ2:=Lib.hid (HQ1.out.later hb2);have HN2:=Lib.hid (HN1.out.later hb2);clear HQ1 HN1
      have H2A:=Lib.hid (hA.out.later hB2)
      have cnm:w2.cell? ⟨w.heap.size,0,none⟩=some (.string nm):=HQ2.out.cellAt 0
      have hsz2:w.heap.size<w2.heap.size:=HQ2.out.here
      go_wp2_with fail
      refine (used_any A n cap l nm _ hn hl H2A _ _ _ _ hs).mono ?_;rintro r w3 ⟨rfl,hb3⟩
      have hB3:Below w.heap.size w w3:=hB2.trans (hb3.mono hB2.size)
      have HQ3:=Lib.hid (HQ2.out.later hb3);have HN3:=Lib.hid (HN2.out.later hb3);clear HQ2 HN2 cnm H2A
      go_wp2_with (first | ((with_reducible refine store_bk rfl 40 (.tmp 7) (.tmp 23) rfl w3.heap.size 0 #[.int .i64 x,.int .i64 y,.int .i64 z] rfl rfl 40 _ #[.int .i64 x,.int .i64 y,.int .i64 z] (Bk.fresh _ _ _) (by kernel_rfl) (by simp) (by kernel_rfl) rfl ?_);intro w4 hU4 hg4 hs4;have HU4:=Lib.hid hU4;clear hU4;have hB4:Below w.heap.size w w4:=grown_below (hB3.alloc hB3.size _) hg4 hB3.size;have HQ4:=Lib.hid ((HQ3.out.later ((Below.refl _ _).alloc (Nat.le_refl _) _)).stays hg4 (by have:=HQ3.out.here;simp;omega));have HN4:=Lib.hid ((HN3.out.later ((Below.refl _ _).alloc (Nat.le_refl _) _)).stays hg4 (by have:=HN3.out.here;simp;omega))) | (with_reducible refine load_bk rfl 40 _ rfl w3.heap.size 0 rfl 40 #[.int .i64 x,.int .i64 y,.int .i64 z] #[.int .i64 x,.int .i64 y,.int .i64 z] _ HU4.out (Part.whole _) Tryz.underlying40 rfl (by kernel_rfl) ?_) | (with_reducible refine load_bk rfl 40 _ rfl (w.heap.size+1) 0 rfl 40 #[.int .i64 d,.int .i64 e,.int .i64 f] #[.int .i64 d,.int .i64 e,.int .i64 f] _ HN4.out (Part.whole _) Tryz.underlying40 rfl (by kernel_rfl) ?_))
      refine (add_true HH.out _).mono ?_;rintro r w5 ⟨rfl,hb5⟩
      have hB5:Below w.heap.size w w5:=hB4.trans (hb5.mono hB4.size)
      go_wp2_with (first | ((with_reducible refine store_bk rfl 40 (.tmp 9) (.tmp 32) rfl w5.heap.size 0 #[.int .i64 (x+d),.int .i64 (y+e),.int .i64 (z+f)] rfl rfl 40 _ #[.int .i64 (x+d),.int .i64 (y+e),.int .i64 (z+f)] (Bk.fresh _ _ _) (by kernel_rfl) (by simp) (by kernel_rfl) rfl ?_);intro w6 hU6 hg6 hs6;have HU6:=Lib.hid hU6;clear hU6;have hB6:Below w.heap.size w w6:=grown_below (hB5.alloc hB5.size _) hg6 hB5.size;have HQ6:=Lib.hid (((HQ4.out.later hb5).later ((Below.refl _ _).alloc (Nat.le_refl _) _)).stays hg6 (by have:=(HQ4.out.later hb5).here;simp;omega))) | (with_reducible refine load_bk rfl 40 _ rfl w5.heap.size 0 rfl 40 #[.int .i64 (x+d),.int .i64 (y+e),.int .i64 (z+f)] #[.int .i64 (x+d),.int .i64 (y+e),.int .i64 (z+f)] _ HU6.out (Part.whole _) Tryz.underlying40 rfl (by kernel_rfl) ?_) | (with_reducible refine load_bk rfl 40 _ rfl w.heap.size 1 rfl 45 #[.string nm,.int .i64 a,.int .i64 b,.int .i64 c] #[.int .i64 a,.int .i64 b,.int .i64 c] _ HQ6.out (Part.of rfl) Tryz.underlying40 rfl (by kernel_rfl) ?_))
      refine (K3.out _).mono ?_;rintro r w7 ⟨rfl,hb7⟩
      have hB7:Below w.heap.size w w7:=hB6.trans (hb7.mono hB6.size)
      go_wp2_with fail
      go_ret
      exact ⟨rfl,hB7⟩
     ·go_enter Tryz.func131,Tryz.ntmps131
      have hQ0:Bk ((w.alloc (.cells #[.string nm,.int .i64 a,.int .i64 b,.int .i64 c] 45)).alloc (.cells #[.int .i64 d,.int .i64 e,.int .i64 f] 40)) w.heap.size 45 #[.string nm,.int .i64 a,.int .i64 b,.int .i64 c]:=(Bk.fresh w _ _).later ((Below.refl _ _).alloc (Nat.le_refl _) _)
      have hN0:Bk ((w.alloc (.cells #[.string nm,.int .i64 a,.int .i64 b,.int .i64 c] 45)).alloc (.cells #[.int .i64 d,.int .i64 e,.int .i64 f] 40)) (w.heap.size+1) 40 #[.int .i64 d,.int .i64 e,.int .i64 f]:=Bk.freshAt _ _ _ (by simp)
      have HQ0:=Lib.hid hQ0;clear hQ0
      have HN0:=Lib.hid hN0;clear hN0
      have hb0:Below w.heap.size w ((w.alloc (.cells #[.string nm,.int .i64 a,.int .i64 b,.int .i64 c] 45)).alloc (.cells #[.int .i64 d,.int .i64 e,.int .i64 f] 40)):=((Below.refl _ _).alloc (Nat.le_refl _) _).alloc (by simp) _
      go_wp2_with ((with_reducible refine load_bk rfl 45 _ rfl w.heap.size 0 rfl 45 #[.string nm,.int .i64 a,.int .i64 b,.int .i64 c] #[.string nm,.int .i64 a,.int .i64 b,.int .i64 c] _ HQ0.out (Part.whole _) Tryz.underlying45 rfl (by kernel_rfl) ?_))
      refine (K1.out _).mono ?_;rintro r w1 ⟨rfl,hb1⟩
      have hB1:Below w.heap.size w w1:=hb0.trans (hb1.mono hb0.size)
      have HQ1:=Lib.hid (HQ0.out.later hb1);have HN1:=Lib.hid (HN0.out.later hb1);clear HQ0 HN0 hb0
      go_wp2_with ((with_reducible refine load_bk rfl 40 _ rfl (w.heap.size+1) 0 rfl 40 #[.int .i64 d,.int .i64 e,.int .i64 f] #[.int .i64 d,.int .i64 e,.int .i64 f] _ HN1.out (Part.whole _) Tryz.underlying40 rfl (by kernel_rfl) ?_))
      refine (K2.out _).mono ?_;rintro r w2 ⟨rfl,hb2⟩
      have hB2:Below w.heap.size w w2:=hB1.trans (hb2.mono hB1.size)
      have HQ2:=Lib.hid (HQ1.out.later hb2);have HN2:=Lib.hid (HN1.out.later hb2);clear HQ1 HN1
      have H2A:=Lib.hid (hA.out.later hB2)
      have cnm:w2.cell? ⟨w.heap.size,0,none⟩=some (.string nm):=HQ2.out.cellAt 0
      have hsz2:w.heap.size<w2.heap.size:=HQ2.out.here
      go_wp2_with fail
      refine (used_any A n cap l nm _ hn hl H2A _ _ _ _ hs).mono ?_;rintro r w3 ⟨rfl,hb3⟩
      have hB3:Below w.heap.size w w3:=hB2.trans (hb3.mono hB2.size)
      have HQ3:=Lib.hid (HQ2.out.later hb3);have HN3:=Lib.hid (HN2.out.later hb3);clear HQ2 HN2 cnm H2A
      go_wp2_with (first | ((with_reducible refine store_bk rfl 40 (.tmp 7) (.tmp 23) rfl w3.heap.size 0 #[.int .i64 x,.int .i64 y,.int .i64 z] rfl rfl 40 _ #[.int .i64 x,.int .i64 y,.int .i64 z] (Bk.fresh _ _ _) (by kernel_rfl) (by simp) (by kernel_rfl) rfl ?_);intro w4 hU4 hg4 hs4;have HU4:=Lib.hid hU4;clear hU4;have hB4:Below w.heap.size w w4:=grown_below (hB3.alloc hB3.size _) hg4 hB3.size;have HQ4:=Lib.hid ((HQ3.out.later ((Below.refl _ _).alloc (Nat.le_refl _) _)).stays hg4 (by have:=HQ3.out.here;simp;omega));have HN4:=Lib.hid ((HN3.out.later ((Below.refl _ _).alloc (Nat.le_refl _) _)).stays hg4 (by have:=HN3.out.here;simp;omega))) | (with_reducible refine load_bk rfl 40 _ rfl w3.heap.size 0 rfl 40 #[.int .i64 x,.int .i64 y,.int .i64 z] #[.int .i64 x,.int .i64 y,.int .i64 z] _ HU4.out (Part.whole _) Tryz.underlying40 rfl (by kernel_rfl) ?_) | (with_reducible refine load_bk rfl 40 _ rfl (w.heap.size+1) 0 rfl 40 #[.int .i64 d,.int .i64 e,.int .i64 f] #[.int .i64 d,.int .i64 e,.int .i64 f] _ HN4.out (Part.whole _) Tryz.underlying40 rfl (by kernel_rfl) ?_))
      refine (add_true HH.out _).mono ?_;rintro r w5 ⟨rfl,hb5⟩
      have hB5:Below w.heap.size w w5:=hB4.trans (hb5.mono hB4.size)
      go_wp2_with (first | ((with_reducible refine store_bk rfl 40 (.tmp 9) (.tmp 32) rfl w5.heap.size 0 #[.int .i64 (x+d),.int .i64 (y+e),.int .i64 (z+f)] rfl rfl 40 _ #[.int .i64 (x+d),.int .i64 (y+e),.int .i64 (z+f)] (Bk.fresh _ _ _) (by kernel_rfl) (by simp) (by kernel_rfl) rfl ?_);intro w6 hU6 hg6 hs6;have HU6:=Lib.hid hU6;clear hU6;have hB6:Below w.heap.size w w6:=grown_below (hB5.alloc hB5.size _) hg6 hB5.size;have HQ6:=Lib.hid (((HQ4.out.later hb5).later ((Below.refl _ _).alloc (Nat.le_refl _) _)).stays hg6 (by have:=(HQ4.out.later hb5).here;simp;omega))) | (with_reducible refine load_bk rfl 40 _ rfl w5.heap.size 0 rfl 40 #[.int .i64 (x+d),.int .i64 (y+e),.int .i64 (z+f)] #[.int .i64 (x+d),.int .i64 (y+e),.int .i64 (z+f)] _ HU6.out (Part.whole _) Tryz.underlying40 rfl (by kernel_rfl) ?_) | (with_reducible refine load_bk rfl 40 _ rfl w.heap.size 1 rfl 45 #[.string nm,.int .i64 a,.int .i64 b,.int .i64 c] #[.int .i64 a,.int .i64 b,.int .i64 c] _ HQ6.out (Part.of rfl) Tryz.underlying40 rfl (by kernel_rfl) ?_))
      refine (K3.out _).mono ?_;rintro r w7 ⟨rfl,hb7⟩
      have hB7:Below w.heap.size w w7:=hB6.trans (hb7.mono hB6.size)
      go_wp2_with fail
      go_ret
      exact ⟨rfl,hB7⟩
end
section
open Go.RowKit
def upX (ck:Int)(x:Ml):Ml:=({ x.1 with up:=true,un:=ck+4 },x.2)
def beatN (S:Sg)(s:ByteArray):Sg × An:=
 if hasK s (keyM S.M) then ({ S with M:=S.M.modify (lbK s (keyM S.M)) (upX S.ck) },0,[]) else (S,7,[])
def dropN' (S:Sg)(s:ByteArray):Sg × An:=
 if hasK s (keyM S.M) then ({ S with M:=S.M.eraseIdx (lbK s (keyM S.M)),J:=relJ s S.J },0,relA s S.J) else (S,7,[])
def hasJ (s:ByteArray)(J:List Jl):Bool:=J.any fun x=>sE x.1.qu s
def dropQ (S:Sg)(s:ByteArray):Sg × An:=
 if hasK s (keyQ S.Q) then (if hasJ s S.J then (S,11,[]) else ({ S with Q:=S.Q.eraseIdx (lbK s (keyQ S.Q)) },0,[])) else (S,7,[])
abbrev plJ (s:ByteArray)(J:List Jl):Int:=fnd s 0 (jbs J)
def noJ:Jl:=(⟨⟨#[]⟩,⟨#[]⟩,0,0,0,0,none,0,0,⟨#[]⟩,⟨#[]⟩,0,0,⟨#[]⟩,0⟩,[])
abbrev jl (J:List Jl) (p:Nat):Jl:=J.getD p noJ
abbrev ql (Q:List Qx) (p:Nat):Qx:=Q.getD p (⟨#[]⟩,0,0,0)
def canJ (S:Sg)(s:ByteArray):Sg × An:=
 if plJ s S.J<0 then (S,7,[]) else ({ S with J:=S.J.eraseIdx (plJ s S.J).toNat },0,if wB (jl S.J (plJ s S.J).toNat).1.nd then [] else [(3,(jl S.J (plJ s S.J).toNat).1.nm,(jl S.J (plJ s S.J).toNat).1.nd)])
def finJ (S:Sg)(s:ByteArray):Sg × An:=
 if plJ s S.J<0 then (S,7,[]) else if wB (jl S.J (plJ s S.J).toNat).1.nd then (S,12,[]) else ({ S with J:=S.J.eraseIdx (plJ s S.J).toNat },0,[])
def usdJ (s:ByteArray)(J:List Jl):Int × Int × Int × Int:=sm 0 0 0 (ofQ s (jbs J))
def admQ (q:Qx)(J:List Jl) (d e f:Int):Int:=adm q.1 q.2.1 q.2.2.1 q.2.2.2 d e f (usdJ q.1 J).1 (usdJ q.1 J).2.1 (usdJ q.1 J).2.2.1 (usdJ q.1 J).2.2.2
def newJ (nx:Int)(nm qu:ByteArray) (pr a b c:Int)(A:Option Addr) (n cp:Nat)(ap ga:ByteArray) (sz:Int)(l:List Lb):Jl:=(⟨nm,qu,pr,a,b,c,A,n,cp,ap,ga,sz,nx,⟨#[]⟩,0⟩,l)
def subJ (S:Sg)(nm qu:ByteArray) (pr a b c:Int)(ap ga:ByteArray) (sz:Int)(l:List Lb):Sg × An:=
 if 0<=plJ nm S.J then (S,8,[]) else if hasK qu (keyQ S.Q)=false then (S,7,[]) else if 48<=S.J.length then (S,10,[])
 else if admQ (ql S.Q (lbK qu (keyQ S.Q))) S.J a b c ≠ 0 then (S,admQ (ql S.Q (lbK qu (keyQ S.Q))) S.J a b c,[])
 else if 1073741824<=S.nx then (S,6,[]) else ({ S with J:=S.J ++ [newJ S.nx nm qu pr a b c none 0 0 ap ga sz l],nx:=S.nx+1 },0,[])
end
section
open Go.RowKit
section
variable {w w' w1 w2:World}{b g:Nat} {lst lst' lst1 lst2:Int} {vM vQ vJ vM' vQ' vJ' vM1 vQ1 vJ1 vM2 vQ2 vJ2 v':Value} {S S' S1 S2 T:Sg}
theorem Wn.rowA (h:Wn w w1 b g vM vQ vJ S lst1 vM1 vQ1 vJ1 S1)(hG:Gs w b g lst vM vQ vJ S){bA:Nat}{v:Value}{l:List (List Value)}(hA:OwnK w bA 64 3 v l):OwnK w1 bA 64 3 v l:=hA.grp h.gr fun k hk e=>hG.notActs hA hk e
theorem RetL.own {bA:Nat}{A:Option Addr}{n c:Nat}{l:List Ac}(h:OwnK w bA 64 3 (.slice A n c) (cellsA l)):RetL bA w A n c l:=by
 obtain ⟨A',c',hv,hr,h1,h2⟩:=h.acts
 injection hv with e1 e2 e3
 subst e1 e3
 exact ⟨e2,hr,by omega,h2,fun a ha=>h.block _ (by rw [ha];rfl)⟩
end
theorem hasK_lt {s:ByteArray}{K:List ByteArray}(h:hasK s K=true):lbK s K<K.length:=by
 have h1:=lbK_le s K
 by_cases e:lbK s K=K.length
 ·rw [hasK_end e] at h;cases h
 ·omega
theorem mcs_erase (M:List Ml) (p:Nat):mcs (M.eraseIdx p)=(mcs M).eraseIdx p:=by
 rw [List.eraseIdx_eq_take_drop_succ,List.eraseIdx_eq_take_drop_succ];simp [mcs,List.map_take,List.map_drop]
theorem jbs_erase (J:List Jl) (p:Nat):jbs (J.eraseIdx p)=(jbs J).eraseIdx p:=by
 rw [List.eraseIdx_eq_take_drop_succ,List.eraseIdx_eq_take_drop_succ];simp [jbs,List.map_take,List.map_drop]


theorem dropNode_any (b g:Nat) (lst:Int)(vM vQ vJ:Value)(S:Sg)(s:ByteArray)(w:World)(hG:Hid (Gs w b g lst vM vQ vJ S))(hM:Hid (Sm S))(hA:Hid (AscK (keyM S.M))) :
  Calls Tryz.prog 84 #[.pointer (some ⟨g,0,none⟩),.string s] w fun e w'=>(∃ A n c,e = .returned (.tuple #[.slice A n c,.int .i64 (dropN' S s).2.1])/\RetL w.heap.size w' A n c (dropN' S s).2.2)/\Went w w' b g vM vQ vJ S (dropN' S s).1:=by
 cases hf:hasK s (keyM S.M)
 case false=>
  have hd:dropN' S s=(S,7,[]):=by unfold dropN';rw [hf];rfl
  rw [hd]
  refine (dropNode_no b g lst vM vQ vJ S s w hG.out hM.out hA.out hf).mono ?_
  rintro e w' ⟨rfl,hb⟩
  exact ⟨⟨none,0,0,rfl,RetL.nil _ _⟩,Went.same hG.out hb⟩
 case true=>
  obtain ⟨A,cA,hv,_,_,_,_⟩:=hG.out.own.M.sl
  obtain ⟨N,hN⟩:∃ N,N=S.M.length:=⟨_,rfl⟩
  rw [cellsM_length,List.length_map,<- hN] at hv
  subst hv
  obtain ⟨p,hp⟩:∃ p,p=lbK s (keyM S.M):=⟨_,rfl⟩
  have hd:dropN' S s=({ S with M:=S.M.eraseIdx p,J:=relJ s S.J },0,relA s S.J):=by unfold dropN';rw [hf,hp];rfl
  have hpl:p<S.M.length:=by have:=hasK_lt hf;rw [List.length_map] at this;rw [hp];exact this
  rw [hd]
  clear hd
  have kf:∀ W,RdM W A (mcs S.M)->Calls Tryz.prog 102 #[.slice A N cA,.string s,.func (.func 94) #[] #[]] W fun e w'=>e = .returned (.tuple #[.int .i64 p,.bool true])/\Below W.heap.size W w':=fun W h=>by
   have hx:=findM_any A N cA S.M s W hN h (by rw [hN];exact hM.out.M) hA.out
   rw [hf,<- hp] at hx
   exact hx
  have k1:=kf w hG.out.own.rdMs
  have c1:w.cell? ⟨g,2,none⟩=some (.slice A N cA):=hG.out.bk.cellAt 2
  have K1:=Lib.hid k1;have HPL:=Lib.hid hpl
  have HML:Hid (S.M.length<=1000):=hM.out.M
  have HJL:Hid (S.J.length<=1000):=hM.out.J
  clear k1 kf hp hf hpl hN hM hA
  go_enter Tryz.func84,Tryz.ntmps84
  go_wp2_with fail
  refine K1.out.mono ?_;rintro e w1 ⟨rfl,hb1⟩
  have HG1:=Lib.hid (hG.out.below hb1)
  have HW1:=Lib.hid (Wn.first hG.out hb1)
  clear hb1 c1 K1
  go_wp2_with fail
  refine (release_any b g lst _ vQ vJ S s w1 HG1 HJL.out).mono ?_;rintro e w2 ⟨⟨v,rfl,hO2⟩,hW2⟩
  obtain ⟨A2,c2,hv2,_,_,_⟩:=hO2.acts
  obtain ⟨n2,hn2⟩:∃ n2,n2=(relA s S.J).length:=⟨_,rfl⟩
  rw [<- hn2] at hv2
  subst hv2
  clear hn2
  have HO2:=Lib.hid hO2;have HW2:=Lib.hid hW2
  have c2':w2.cell? ⟨g,2,none⟩=some (.slice A N cA):=hW2.gs.bk.cellAt 2
  clear hO2 hW2
  go_wp2_with fail
  refine (removeM_any b (.slice A N cA) (mcs S.M) p w2 (by rw [List.length_map];exact HML.out) (by rw [List.length_map];exact HPL.out) (Lib.hid HW2.out.gs.own.M)).mono ?_;rintro e w3 ⟨⟨v',rfl,hO3,hat3⟩,hg3⟩
  rw [<- mcs_erase] at hO3
  obtain ⟨A3,c3,hv3,_,_,_,_⟩:=hO3.sl
  obtain ⟨n3,hn3⟩:∃ n3,n3=(cellsM (mcs (S.M.eraseIdx p))).length:=⟨_,rfl⟩
  rw [<- hn3] at hv3
  subst hv3
  clear hn3
  have hgb:Bk w3 g 73 #[.int .i64 S.ck,.int .i64 lst,.slice A N cA,vQ,vJ]:=HW2.out.gs.bk.grp hg3 fun e=>HW2.out.gs.ne _ (.inl e) rfl
  have c3':w3.cell? ⟨g,2,none⟩=some (.slice A N cA):=hgb.cellAt 2
  have f3':w3.frozen? ⟨g,2,none⟩=false:=hgb.free 2
  have HS:=Lib.hid (HW2.out.gs.setM (M':=S.M.eraseIdx p) hg3 hO3 (.inl hat3) fun x hx=>⟨HW2.out.gs.own.zM x (List.mem_of_mem_eraseIdx hx),.inl ⟨x,List.mem_of_mem_eraseIdx hx,rfl,rfl,rfl,rfl⟩⟩)
  clear hO3 hat3 hg3 hgb c2'
  go_wp2_with fail
  exact bodyPost_ret (v:=.tuple #[.slice A2 n2 c2,.int .i64 0]) (by simp [results,Tryz.results84,go_sem]) rfl ⟨⟨A2,n2,c2,rfl,RetL.own ((HS.out.rowA HW2.out.gs HO2.out).base (by exact HW1.out.gr.size))⟩,((HW1.out.trans HW2.out).trans HS.out).went rfl⟩
def hasQ (s:ByteArray)(l:List Jb):Bool:=l.any fun j=>sE j.qu s
theorem hasQ_jbs (s:ByteArray)(J:List Jl):hasQ s (jbs J)=hasJ s J:=by unfold hasQ hasJ jbs;rw [List.any_map];rfl

theorem hasJ1_any (c:Nat)(s:ByteArray)(j:Jb)(w:World)(hc:w.cell? ⟨c,0,none⟩=some (.string s)) :
  Calls Tryz.prog 166 #[.agg j.arr,.pointer (some ⟨c,0,none⟩)] w fun e w'=>e = .returned (.bool (sE j.qu s))/\Below w.heap.size w w':=by
 obtain ⟨nm,qu,pr,a,b,cc,A,n,cp,ap,ga,sz,sq,nd,bo⟩:=j
 have hc':(w.alloc (.cells #[.string nm,.string qu,.int .i64 pr,.int .i64 a,.int .i64 b,.int .i64 cc,.slice A n cp,.string ap,.string ga,.int .i64 sz,.int .i64 sq,.string nd,.int .i64 bo] 66)).cell? ⟨c,0,none⟩=some (.string s):=Lib.cell?_alloc_some _ hc
 go_enter Tryz.func166,Tryz.ntmps166
 go_wp2_with fail
 go_ret
 exact ⟨rfl,(Below.refl _ _).alloc (Nat.le_refl _) _⟩


theorem idxJ_any (A:Option Addr) (n cap c:Nat)(L:List Jb)(s:ByteArray)(w:World)(hn:Hid (n=L.length))(hbig:Hid (n<=1000))(hr:Hid (RdJ w A L))(hc:Hid (w.cell? ⟨c,0,none⟩=some (.string s))) :
  Calls Tryz.prog 186 #[.slice A n cap,.func (.func 166) #[] #[.pointer (some ⟨c,0,none⟩)]] w fun e w'=>(∃ i:Int,e = .returned (.int .i64 i)/\decide (0<=i)=hasQ s L)/\Below w.heap.size w w':=by
 have K1:=Lib.hid (fun (j:Jb)(W:World)(h:W.cell? ⟨c,0,none⟩=some (.string s))=>hasJ1_any c s j W h)
 have hlt:=World.block_lt_of_cell? w _ hc.out
 have HLT:Hid (c<w.heap.size):=hlt
 clear hlt
 go_enter Tryz.func186,Tryz.ntmps186
 go_wp2_with fail
 go_loopw [8] (fun s8 wr=>∃ (k:Nat),k<=n/\s8 = .int .i64 k/\Hid (hasQ s (L.take k)=false)/\Hid (Below w.heap.size w wr)) (fun s8 wr=>n - (intOf s8).toNat)
 case atStart=>exact ⟨0,Nat.zero_le _,rfl,(show hasQ s (L.take 0)=false from rfl),Below.refl _ _⟩
 case round=>
  obtain ⟨k,hk,rfl,H,hb⟩:=hrel
  by_cases hlt:k<n
  ·have hkl:Hid (k<L.length):=by show k<L.length;rw [<- hn.out];exact hlt
   have hwk:wrap64 ((k:Int)+1)=((k+1:Nat):Int):=by have:=hbig.out;unfold wrap64;omega
   obtain ⟨g,o,rfl,hg,hj⟩:=(hr.out.later hb.out).at hkl.out
   obtain ⟨j,hje⟩:∃ j,j=L[k]'hkl.out:=⟨_,rfl⟩
   rw [<- hje] at hj
   have HJ:=Lib.hid hj;have HJE:=Lib.hid hje
   have hcr:Hid (wr.cell? ⟨c,0,none⟩=some (.string s)):=by show _=_;rw [hb.out.cell HLT.out];exact hc.out
   clear hj hje hg
   go_wp2_with ((with_reducible refine load_rg rfl 66 _ rfl g (o+k * 13) rfl j.arr _ HJ.out.rg Tryz.underlying66 rfl (by kernel_rfl) ?_))
   refine (K1.out j _ hcr.out).mono ?_;rintro e w1 ⟨rfl,hb1⟩
   have HB1:Hid (Below w.heap.size w w1):=hb.out.trans (hb1.mono hb.out.size)
   clear hb1 hb hcr HJ
   cases he:sE j.qu s
   case true=>
    have HF:Hid (decide ((0:Int)<=(k:Int))=hasQ s L):=by
     show _=_
     rw [decide_eq_true (by omega)]
     exact (List.any_eq_true.2 ⟨j,by rw [HJE.out];exact List.getElem_mem _,he⟩).symm
    clear he H
    go_wp2_with fail
    go_ret
    exact ⟨⟨k,rfl,HF.out⟩,HB1.out⟩
   case false=>
    have HF:Hid (hasQ s (L.take (k+1))=false):=by
     show _=_
     rw [List.take_succ_eq_append_getElem hkl.out]
     unfold hasQ
     rw [List.any_append,show (L.take k).any (fun j=>sE j.qu s)=false from H.out,<- HJE.out]
     simp [he]
    clear he H
    go_wp2_with fail
    go_round
    case rel=>exact ⟨k+1,by omega,by go_num,HF,HB1⟩
    case measure=>rw [hwk];show n - ((k+1:Nat):Int).toNat<n - (k:Int).toNat;rw [Int.toNat_natCast,Int.toNat_natCast];omega
  ·have hkn:k=n:=by omega
   subst hkn
   have HF:Hid (decide ((0:Int) <= -1)=hasQ s L):=by show _=_;have:=H.out;rw [List.take_of_length_le (by rw [<- hn.out];exact Nat.le_refl _)] at this;rw [this];rfl
   clear H hk hlt
   go_wp2_with fail
   go_ret
   exact ⟨⟨-1,rfl,HF.out⟩,hb.out⟩


theorem conJ_any (A:Option Addr) (n cap c:Nat)(L:List Jb)(s:ByteArray)(w:World)(hn:Hid (n=L.length))(hbig:Hid (n<=1000))(hr:Hid (RdJ w A L))(hc:Hid (w.cell? ⟨c,0,none⟩=some (.string s))) :
  Calls Tryz.prog 165 #[.slice A n cap,.func (.func 166) #[] #[.pointer (some ⟨c,0,none⟩)]] w fun e w'=>e = .returned (.bool (hasQ s L))/\Below w.heap.size w w':=by
 have K1:=Lib.hid (idxJ_any A n cap c L s w hn hbig hr hc)
 clear hr hc
 go_enter Tryz.func165,Tryz.ntmps165
 go_wp2_with fail
 refine K1.out.mono ?_;rintro e w1 ⟨⟨i,rfl,hi⟩,hb1⟩
 have HI:=Lib.hid hi
 clear hi K1
 go_wp2_with fail
 go_ret
 exact ⟨by rw [<- HI.out];rfl,hb1⟩


theorem hasJobs_any (b g:Nat) (lst:Int)(vM vQ vJ:Value)(S:Sg)(s:ByteArray)(w:World)(hG:Hid (Gs w b g lst vM vQ vJ S))(hM:S.J.length<=1000) :
  Calls Tryz.prog 129 #[.pointer (some ⟨g,0,none⟩),.string s] w fun e w'=>e = .returned (.bool (hasJ s S.J))/\Below w.heap.size w w':=by
 obtain ⟨C,cC,hv,hrd,_,_,_⟩:=hG.out.own.J.sl
 obtain ⟨n,hn⟩:∃ n,n=S.J.length:=⟨_,rfl⟩
 rw [cellsJ_length,List.length_map,<- hn] at hv
 subst hv
 obtain ⟨W0,hW0⟩:∃ W0,W0=w.alloc (.cells #[.string s] 9):=⟨_,rfl⟩
 have hB0:Below w.heap.size w W0:=by rw [hW0];exact (Below.refl _ _).alloc (Nat.le_refl _) _
 have hS0:W0.cell? ⟨w.heap.size,0,none⟩=some (.string s):=by rw [hW0];exact (Bk.fresh w 9 #[.string s]).cellAt 0
 have K1:=Lib.hid (conJ_any C n cC w.heap.size (jbs S.J) s W0 (show n=_ by rw [List.length_map];exact hn) (show n<=1000 by rw [hn];exact hM) (show RdJ W0 C _ from RdK.later hrd hB0) hS0)
 rw [hasQ_jbs] at K1
 have c4:W0.cell? ⟨g,4,none⟩=some (.slice C n cC):=(hG.out.below hB0).bk.cellAt 4
 have HB0:=Lib.hid hB0
 clear hrd hn hM hG hB0 hS0
 subst hW0
 have hmf:∀ (fn:Fn)(first cap:Array Value)(w:World),(Instr.makeFunc fn first cap).run Tryz.prog w = .ok (.func fn first cap) w:=fun _ _ _ _=>rfl
 go_enter Tryz.func129,Tryz.ntmps129
 go_wp2_with fail
 refine K1.out.mono ?_
 rintro e w1 ⟨rfl,hb1⟩
 go_wp2_with fail
 go_ret
 exact ⟨rfl,HB0.out.trans (hb1.mono HB0.out.size)⟩
end
section
open Go.RowKit


theorem dropQueue_any (b g:Nat) (lst:Int)(vM vQ vJ:Value)(S:Sg)(s:ByteArray)(w:World)(hG:Hid (Gs w b g lst vM vQ vJ S))(hM:Hid (Sm S))(hA:Hid (AscK (keyQ S.Q))) :
  Calls Tryz.prog 86 #[.pointer (some ⟨g,0,none⟩),.string s] w fun e w'=>e = .returned (.int .i64 (dropQ S s).2.1)/\Went w w' b g vM vQ vJ S (dropQ S s).1:=by
 cases hf:hasK s (keyQ S.Q)
 case false=>
  have hd:dropQ S s=(S,7,[]):=by unfold dropQ;rw [hf];rfl
  rw [hd]
  refine (dropQueue_no b g lst vM vQ vJ S s w hG.out hM.out hA.out hf).mono ?_
  rintro e w' ⟨rfl,hb⟩
  exact ⟨rfl,Went.same hG.out hb⟩
 case true=>
  obtain ⟨B,cB,hv,_,_,_,_⟩:=hG.out.own.Q.sl
  obtain ⟨K0,hN⟩:∃ N,N=S.Q.length:=⟨_,rfl⟩
  rw [cellsQ_length,<- hN] at hv
  subst hv
  obtain ⟨p,hp⟩:∃ p,p=lbK s (keyQ S.Q):=⟨_,rfl⟩
  have hpl:p<S.Q.length:=by have:=hasK_lt hf;rw [List.length_map] at this;rw [hp];exact this
  obtain ⟨q,hq⟩:∃ q,q=hasJ s S.J:=⟨_,rfl⟩
  have hd:dropQ S s=if q then (S,11,[]) else ({ S with Q:=S.Q.eraseIdx p },0,[]):=by unfold dropQ;rw [hf,hp,hq];rfl
  rw [hd]
  clear hd
  have kf:∀ W,RdQ W B S.Q->Calls Tryz.prog 100 #[.slice B K0 cB,.string s,.func (.func 96) #[] #[]] W fun e w'=>e = .returned (.tuple #[.int .i64 p,.bool true])/\Below W.heap.size W w':=fun W h=>by
   have hx:=findQ_any B K0 cB S.Q s W hN h (by rw [hN];exact hM.out.Q) hA.out
   rw [hf,<- hp] at hx
   exact hx
  have k1:=kf w hG.out.own.rdQ
  have c1:w.cell? ⟨g,3,none⟩=some (.slice B K0 cB):=hG.out.bk.cellAt 3
  have K1:=Lib.hid k1;have HPL:=Lib.hid hpl
  have HQL:Hid (S.Q.length<=1000):=hM.out.Q
  have HJL:Hid (S.J.length<=1000):=hM.out.J
  have K2:=Lib.hid (fun W (h:Gs W b g lst vM (.slice B K0 cB) vJ S)=>hasJobs_any b g lst _ _ _ S s W h HJL.out)
  rw [<- hq] at K2
  clear k1 kf hp hf hpl hN hM hA hq
  go_enter Tryz.func86,Tryz.ntmps86
  go_wp2_with fail
  refine K1.out.mono ?_;rintro e w1 ⟨rfl,hb1⟩
  have HG1:=Lib.hid (hG.out.below hb1)
  have HW1:=Lib.hid (Wn.first hG.out hb1)
  clear hb1 c1 K1
  go_wp2_with fail
  refine (K2.out _ HG1.out).mono ?_;rintro e w2 ⟨rfl,hb2⟩
  have HW2:=Lib.hid (HW1.out.below hb2)
  clear hb2 HG1 HW1 K2
  cases q
  case true=>
   go_wp2_with fail
   go_ret
   exact ⟨rfl,HW2.out.went rfl⟩
  case false=>
   have c2':w2.cell? ⟨g,3,none⟩=some (.slice B K0 cB):=HW2.out.gs.bk.cellAt 3
   go_wp2_with fail
   refine (removeQ_any b (.slice B K0 cB) S.Q p w2 HQL.out HPL.out (Lib.hid HW2.out.gs.own.Q)).mono ?_;rintro e w3 ⟨⟨v',rfl,hO3,hat3⟩,hg3⟩
   obtain ⟨A3,c3,hv3,_,_,_,_⟩:=hO3.sl
   obtain ⟨n3,hn3⟩:∃ n3,n3=(cellsQ (S.Q.eraseIdx p)).length:=⟨_,rfl⟩
   rw [<- hn3] at hv3
   subst hv3
   clear hn3
   have hgb:Bk w3 g 73 #[.int .i64 S.ck,.int .i64 lst,vM,.slice B K0 cB,vJ]:=HW2.out.gs.bk.grp hg3 fun e=>HW2.out.gs.ne _ (.inr (.inl e)) rfl
   have c3':w3.cell? ⟨g,3,none⟩=some (.slice B K0 cB):=hgb.cellAt 3
   have f3':w3.frozen? ⟨g,3,none⟩=false:=hgb.free 3
   have HS:=Lib.hid (HW2.out.gs.setQ (Q':=S.Q.eraseIdx p) hg3 hO3 (.inl hat3) fun x hx=>HW2.out.gs.own.zQ x (List.mem_of_mem_eraseIdx hx))
   clear hO3 hat3 hg3 hgb c2'
   go_wp2_with fail
   go_ret
   exact ⟨rfl,(HW2.out.trans HS.out).went rfl⟩
section
variable {w w' w1 w2:World}{b g:Nat}{lst:Int} {vM vQ vJ v':Value}{S:Sg}
theorem Gs.oneM {p:Nat}{y:Ml}(h:Gs w b g lst vM vQ vJ S)(hp:p<S.M.length)(hg:GrP (fun k=>vM.ownBlock=some k) w w')(hO:OwnK w' b 60 7 vM (cellsM ((mcs S.M).set p y.1)))(hy:y.1.nm.size<=140737488351232)(hl:S.M[p].1.A=y.1.A/\S.M[p].1.n=y.1.n/\S.M[p].1.cp=y.1.cp/\S.M[p].2=y.2) :
  Wn w w' b g vM vQ vJ S lst vM vQ vJ { S with M:=S.M.set p y }:=by
 have hM:∀ x ∈ S.M.set p y,x.1.nm.size<=140737488351232 /\ ∃ z ∈ S.M,z.1.A=x.1.A/\z.1.n=x.1.n/\z.1.cp=x.1.cp/\z.2=x.2:=fun x hx=>by
  rcases List.mem_or_eq_of_mem_set hx with hx | rfl
  ·exact ⟨h.own.zM x hx,x,hx,rfl,rfl,rfl,rfl⟩
  ·exact ⟨hy,_,List.getElem_mem hp,hl⟩
 have hM9:OwnK w' b 60 7 vM (cellsM (mcs (S.M.set p y))):=by rw [show mcs (S.M.set p y)=(mcs S.M).set p y.1 by simp [mcs,List.map_set]];exact hO
 have hQ9:=h.own.Q.grp hg fun k hk e=>h.own.Q.parted h.own.M (by decide) hk e
 have hJ9:=h.own.J.grp hg fun k hk e=>h.own.J.parted h.own.M (by decide) hk e
 have hlJ9:=fun x hx=>(h.own.lJ x hx).grp hg fun k hk e=>(h.own.lJ x hx).off h.own.M (by decide) hk e
 have hlM9:∀ x ∈ S.M.set p y,LbNew w' b x.1.A x.1.n x.1.cp x.2:=fun x hx=>by
  obtain ⟨z,hz,e1,e2,e3,e4⟩:=(hM x hx).2
  rw [<- e1,<- e2,<- e3,<- e4]
  exact (h.own.lM z hz).grp hg fun k hk e=>(h.own.lM z hz).off h.own.M (by decide) hk e
 refine ⟨⟨h.bk.grp hg (fun e=>h.ne g (.inl e) rfl),h.nx,⟨hM9,hQ9,hJ9,hlM9,hlJ9,fun x hx=>(hM x hx).1,h.own.zQ,h.own.zJ⟩,h.le,fun k hk=>?_⟩,hg.wide fun k _ e=>.inr (.inl e),fun k hk=>.inl ?_⟩
 ·rcases hk with e | e | e | ⟨x,hx,e⟩ | e
  ·exact h.ne k (.inl e)
  ·exact h.ne k (.inr (.inl e))
  ·exact h.ne k (.inr (.inr (.inl e)))
  ·obtain ⟨z,hz,e1,_⟩:=(hM x hx).2
   exact h.ne k (.inr (.inr (.inr (.inl ⟨z,hz,by rw [e1];exact e⟩))))
  ·exact h.ne k (.inr (.inr (.inr (.inr e))))
 ·rcases hk with e | e | e | e | ⟨x,hx,e⟩ | e
  ·exact .inl e
  ·exact .inr (.inl e)
  ·exact .inr (.inr (.inl e))
  ·exact .inr (.inr (.inr (.inl e)))
  ·obtain ⟨z,hz,e1,_⟩:=(hM x hx).2
   exact .inr (.inr (.inr (.inr (.inl ⟨z,hz,by rw [e1];exact e⟩))))
  ·exact .inr (.inr (.inr (.inr (.inr e))))
end
theorem cellsM_up {L:List Mc}{p:Nat}(hp:p<L.length) (u:Int):cellsM (L.set p { L[p] with up:=true,un:=u })=((cellsM L).set p (((cellsM L)[p]'(by rw [cellsM_length];exact hp)).set 5 (.bool true))).set p ((((cellsM L).set p (((cellsM L)[p]'(by rw [cellsM_length];exact hp)).set 5 (.bool true)))[p]'(by rw [List.length_set,cellsM_length];exact hp)).set 6 (.int .i64 u)):=by
 simp only [List.getElem_set_self,List.set_set]
 simp only [cellsM,List.map_set,List.getElem_map]
 rfl
theorem modify_set {α:Type}{l:List α}{p:Nat}{f:α->α}(hp:p<l.length):l.modify p f=l.set p (f l[p]):=by
 apply List.ext_getElem (by simp)
 intro i h1 h2
 rw [List.getElem_modify,List.getElem_set]
 by_cases e:p=i
 ·subst e;simp
 ·rw [if_neg e,if_neg e]
theorem OwnK.beats {w:World}{b r n c p:Nat}{L:List Mc}(h:OwnK w b 60 7 (.slice (some ⟨r,0,none⟩) n c) (cellsM L))(hp:p<L.length) (u:Int) :
  (w.cell? ⟨r,p * 7+5,none⟩).isSome/\w.frozen? ⟨r,p * 7+5,none⟩=false/\((w.setCell ⟨r,p * 7+5,none⟩ (.bool true)).cell? ⟨r,p * 7+6,none⟩).isSome/\(w.setCell ⟨r,p * 7+5,none⟩ (.bool true)).frozen? ⟨r,p * 7+6,none⟩=false /\
  OwnK ((w.setCell ⟨r,p * 7+5,none⟩ (.bool true)).setCell ⟨r,p * 7+6,none⟩ (.int .i64 u)) b 60 7 (.slice (some ⟨r,0,none⟩) n c) (cellsM (L.set p { L[p] with up:=true,un:=u })):=by
 have h1:=h.put (show p<(cellsM L).length by rw [cellsM_length];exact hp) (show 5<7 by decide) (.bool true)
 have h2:=h1.1.put (show p<_ by rw [List.length_set,cellsM_length];exact hp) (show 6<7 by decide) (.int .i64 u)
 rw [cellsM_up hp]
 exact ⟨h1.2.1,h1.2.2,h2.2.1,h2.2.2,h2.1⟩


theorem beat_any (b g:Nat) (lst:Int)(vM vQ vJ:Value)(S:Sg)(s:ByteArray)(w:World)(hG:Hid (Gs w b g lst vM vQ vJ S))(hM:Hid (Sm S))(hA:Hid (AscK (keyM S.M))) :
  Calls Tryz.prog 90 #[.pointer (some ⟨g,0,none⟩),.string s] w fun e w'=>e = .returned (.int .i64 (beatN S s).2.1)/\Went w w' b g vM vQ vJ S (beatN S s).1:=by
 cases hf:hasK s (keyM S.M)
 case false=>
  have hd:beatN S s=(S,7,[]):=by unfold beatN;rw [hf];rfl
  rw [hd]
  refine (beat_no b g lst vM vQ vJ S s w hG.out hM.out hA.out hf).mono ?_
  rintro e w' ⟨rfl,hb⟩
  exact ⟨rfl,Went.same hG.out hb⟩
 case true=>
  obtain ⟨A,cA,hv,_,_,_,_⟩:=hG.out.own.M.sl
  obtain ⟨N,hN⟩:∃ N,N=S.M.length:=⟨_,rfl⟩
  rw [cellsM_length,List.length_map,<- hN] at hv
  subst hv
  obtain ⟨p,hp⟩:∃ p,p=lbK s (keyM S.M):=⟨_,rfl⟩
  have hpl:p<S.M.length:=by have:=hasK_lt hf;rw [List.length_map] at this;rw [hp];exact this
  have hd:beatN S s=({ S with M:=S.M.set p (upX S.ck S.M[p]) },0,[]):=by
   unfold beatN;rw [hf,<- hp,if_pos rfl,modify_set hpl]
  rw [hd]
  clear hd
  obtain ⟨M',hM'⟩:∃ M',M' = S.M.set p (upX S.ck S.M[p]):=⟨_,rfl⟩
  rw [<- hM']
  have HM':Hid (M' = S.M.set p (upX S.ck S.M[p])):=hM'
  clear hM'
  obtain ⟨r,rfl⟩:=hG.out.own.M.at0 (by rw [cellsM_length,List.length_map];omega)
  have kf:∀ W,RdM W (some ⟨r,0,none⟩) (mcs S.M)->Calls Tryz.prog 102 #[.slice (some ⟨r,0,none⟩) N cA,.string s,.func (.func 94) #[] #[]] W fun e w'=>e = .returned (.tuple #[.int .i64 p,.bool true])/\Below W.heap.size W w':=fun W h=>by
   have hx:=findM_any (some ⟨r,0,none⟩) N cA S.M s W hN h (by rw [hN];exact hM.out.M) hA.out
   rw [hf,<- hp] at hx
   exact hx
  have k1:=kf w hG.out.own.rdMs
  have c1:w.cell? ⟨g,2,none⟩=some (.slice (some ⟨r,0,none⟩) N cA):=hG.out.bk.cellAt 2
  have hpN:p<N:=by rw [hN];exact hpl
  have K1:=Lib.hid k1;have HPL:=Lib.hid hpl
  have HCK:Hid (0<=S.ck/\S.ck<=4611686018427387904):=hM.out.ck
  clear k1 kf hp hf hN hM hA
  go_enter Tryz.func90,Tryz.ntmps90
  go_wp2_with fail
  refine K1.out.mono ?_;rintro e w1 ⟨rfl,hb1⟩
  have HW1:=Lib.hid (Wn.first hG.out hb1)
  have c2':w1.cell? ⟨g,2,none⟩=some (.slice (some ⟨r,0,none⟩) N cA):=HW1.out.gs.bk.cellAt 2
  clear hb1 c1 K1
  go_wp2_with fail
  refine (leased_any g S.ck lst _ _ _ w1 HW1.out.gs.bk HCK.out).mono ?_;rintro e w2 ⟨rfl,rfl⟩
  have hB:=HW1.out.gs.own.M.beats (p:=p) (by rw [List.length_map];exact HPL.out) (S.ck+4)
  obtain ⟨u5,hu5⟩:=Option.isSome_iff_exists.1 hB.1
  obtain ⟨u6,hu6⟩:=Option.isSome_iff_exists.1 hB.2.2.1
  have f5:=hB.2.1
  have f6:=hB.2.2.2.1
  have HS:Hid (Wn w1 ((w1.setCell ⟨r,p * 7+5,none⟩ (.bool true)).setCell ⟨r,p * 7+6,none⟩ (.int .i64 (S.ck+4))) b g (.slice (some ⟨r,0,none⟩) N cA) vQ vJ S lst (.slice (some ⟨r,0,none⟩) N cA) vQ vJ { S with M:=M' }):=by
   rw [HM'.out]
   have hg1:GrP (fun k=>(Value.slice (some ⟨r,0,none⟩) N cA).ownBlock=some k) w1 (w1.setCell ⟨r,p * 7+5,none⟩ (.bool true)):=(GrP.refl (fun k=>(Value.slice (some ⟨r,0,none⟩) N cA).ownBlock=some k) w1).set (a:=⟨r,p * 7+5,none⟩) rfl _
   have hg2:GrP (fun k=>(Value.slice (some ⟨r,0,none⟩) N cA).ownBlock=some k) w1 ((w1.setCell ⟨r,p * 7+5,none⟩ (.bool true)).setCell ⟨r,p * 7+6,none⟩ (.int .i64 (S.ck+4))):=hg1.set (a:=⟨r,p * 7+6,none⟩) rfl _
   refine HW1.out.gs.oneM (y:=upX S.ck (S.M[p]'HPL.out)) HPL.out hg2 ?_ (HW1.out.gs.own.zM (S.M[p]'HPL.out) (List.getElem_mem HPL.out)) ⟨rfl,rfl,rfl,rfl⟩
   have h:=hB.2.2.2.2
   rw [show (mcs S.M)[p]'(by rw [List.length_map];exact HPL.out)=(S.M[p]'HPL.out).1 by simp [mcs]] at h
   exact h
  clear hB c2'
  go_wp2_with fail
  go_ret
  exact ⟨rfl,(HW1.out.trans HS.out).went rfl⟩
end
section
open Go.RowKit
theorem fnd_cases (s:ByteArray):∀ (l:List Jb) (k:Nat),fnd s k l = -1 ∨ ∃ p,∃ h:p<l.length,fnd s k l=((k+p:Nat):Int)/\sE l[p].nm s=true
 | [],k=>.inl rfl
 | j :: l,k=>by
  unfold fnd
  by_cases h:sE j.nm s=true
  ·rw [if_pos h];exact .inr ⟨0,by simp,by simp,h⟩
  ·rw [if_neg h]
   rcases fnd_cases s l (k+1) with e | ⟨p,hp,e,e2⟩
   ·exact .inl e
   ·exact .inr ⟨p+1,by simp;exact hp,by rw [e];congr 1;omega,e2⟩
theorem jl_at {J:List Jl}{p:Nat}(hp:p<J.length):jl J p=J[p]:=by simp [jl,List.getD,hp]
section
variable {w w' w1 w2:World}{b g:Nat}{lst:Int} {vM vQ vJ v':Value}{S:Sg}
theorem Gs.dropJ {p:Nat}(h:Gs w b g lst vM vQ vJ S)(hg:GrP (fun k=>vJ.ownBlock=some k) w w')(hO:OwnK w' b 66 13 v' (cellsJ ((jbs S.J).eraseIdx p)))(hat:v'.ownBlock=vJ.ownBlock) :
  Wn w (w'.setCell ⟨g,4,none⟩ v') b g vM vQ vJ S lst vM vQ v' { S with J:=S.J.eraseIdx p }:=
 h.setJ hg (by rw [jbs_erase];exact hO) (.inl hat) fun x hx=>⟨h.own.zJ x (List.mem_of_mem_eraseIdx hx),.inl ⟨x,List.mem_of_mem_eraseIdx hx,rfl,rfl,rfl,rfl⟩⟩
end
theorem erase_set {α:Type}{l:List α}{p:Nat}{y:α}:(l.set p y).eraseIdx p=l.eraseIdx p:=by
 rw [List.eraseIdx_eq_take_drop_succ,List.eraseIdx_eq_take_drop_succ,List.take_set_of_le (Nat.le_refl _),List.drop_set_of_lt (by omega)]


theorem finish_any (b g:Nat) (lst:Int)(vM vQ vJ:Value)(S:Sg)(s:ByteArray)(w:World)(hG:Hid (Gs w b g lst vM vQ vJ S))(hM:Hid (Sm S)) :
  Calls Tryz.prog 89 #[.pointer (some ⟨g,0,none⟩),.string s] w fun e w'=>e = .returned (.int .i64 (finJ S s).2.1)/\Went w w' b g vM vQ vJ S (finJ S s).1:=by
 rcases fnd_cases s (jbs S.J) 0 with hf | ⟨p,hpj,hpe,hse⟩
 ·have hd:finJ S s=(S,7,[]):=by unfold finJ plJ;rw [hf];rfl
  rw [hd]
  refine (finish_no b g lst vM vQ vJ S s w hG.out hM.out hf).mono ?_
  rintro e w' ⟨rfl,hb⟩
  exact ⟨rfl,Went.same hG.out hb⟩
 ·skip
  obtain ⟨C,cC,hv,_,_,_,_⟩:=hG.out.own.J.sl
  obtain ⟨n,hn⟩:∃ n,n=S.J.length:=⟨_,rfl⟩
  rw [cellsJ_length,List.length_map,<- hn] at hv
  subst hv
  have hpl:p<S.J.length:=by rw [List.length_map] at hpj;exact hpj
  obtain ⟨r,rfl⟩:=hG.out.own.J.at0 (by rw [cellsJ_length,List.length_map];omega)
  have hpn:p<n:=by rw [hn];exact hpl
  obtain ⟨j,hj⟩:∃ j,j=(S.J[p]'hpl).1:=⟨_,rfl⟩
  have hjl:(jl S.J p).1=j:=by rw [jl_at hpl,hj]
  rw [Nat.zero_add] at hpe
  obtain ⟨q,hq⟩:∃ q,q=wB j.nd:=⟨_,rfl⟩
  have hd:finJ S s=if q then (S,12,[]) else ({ S with J:=S.J.eraseIdx p },0,[]):=by unfold finJ plJ;rw [hpe,if_neg (by omega),Int.toNat_natCast,hjl,hq]
  rw [hd]
  clear hd
  have k1:=find_any (some ⟨r,0,none⟩) n cC (jbs S.J) s w (show _=_ by rw [List.length_map];exact hn) (by have:=hM.out.J;omega) hG.out.own.rdJs (p:Int) hpe
  have c1:w.cell? ⟨g,4,none⟩=some (.slice (some ⟨r,0,none⟩) n cC):=hG.out.bk.cellAt 4
  have K1:=Lib.hid k1;have HPL:=Lib.hid hpl;have HJ:=Lib.hid hj;have HQ:=Lib.hid hq
  have HJL:Hid (S.J.length<=1000):=hM.out.J
  have HJN:Hid ((jbs S.J)[p]'(by rw [List.length_map];exact hpl)=j):=by show _=_;simp [jbs,hj]
  have hjat:∀ W,Gs W b g lst vM vQ (.slice (some ⟨r,0,none⟩) n cC) S->JAt W r (p * 13) j:=fun W h=>⟨by
   have h1:=h.own.J.range (p:=p) (by rw [cellsJ_length,List.length_map];exact HPL.out)
   have h2:(cellsJ (jbs S.J))[p]'(by rw [cellsJ_length,List.length_map];exact HPL.out)=j.cells:=by simp [cellsJ,hj]
   rw [h2] at h1
   exact h1⟩
  have KAT:=Lib.hid hjat
  clear k1 hjat hpj hpe hse hM hj hjl hn hq
  go_enter Tryz.func89,Tryz.ntmps89
  go_wp2_with fail
  refine K1.out.mono ?_;rintro e w1 ⟨rfl,hb1⟩
  have HW1:=Lib.hid (Wn.first hG.out hb1)
  have c2':w1.cell? ⟨g,4,none⟩=some (.slice (some ⟨r,0,none⟩) n cC):=HW1.out.gs.bk.cellAt 4
  have HAT:=Lib.hid (KAT.out _ HW1.out.gs)
  clear hb1 c1 K1 KAT
  go_wp2_with ((with_reducible refine load_rg rfl 66 _ rfl r (p * 13) rfl j.arr _ HAT.out.rg Tryz.underlying66 rfl (by kernel_rfl) ?_))
  refine (waits_any j _).mono ?_;rintro e w2 ⟨rfl,hb2⟩
  rw [<- HQ.out]
  have HW2:=Lib.hid (HW1.out.below hb2)
  clear hb2 c2' HAT HW1
  cases q
  case true=>
   go_wp2_with fail
   go_ret
   exact ⟨rfl,HW2.out.went rfl⟩
  case false=>
   have KR:=Lib.hid (fun W (h:OwnK W b 66 13 (.slice (some ⟨r,0,none⟩) n cC) (cellsJ (jbs S.J)))=>removeJ_any b (.slice (some ⟨r,0,none⟩) n cC) (jbs S.J) p W (by rw [List.length_map];exact HJL.out) (by rw [List.length_map];exact HPL.out) (Lib.hid h))
   have c4:w2.cell? ⟨g,4,none⟩=some (.slice (some ⟨r,0,none⟩) n cC):=HW2.out.gs.bk.cellAt 4
   go_wp2_with fail
   refine (KR.out _ HW2.out.gs.own.J).mono ?_;rintro e w8 ⟨⟨v',rfl,hO3,hat3⟩,hg3⟩
   obtain ⟨A3,c3,hv3,_,_,_,_⟩:=hO3.sl
   generalize hn3:List.length _=n3 at hv3
   subst hv3
   clear hn3
   have hgb:Bk w8 g 73 #[.int .i64 S.ck,.int .i64 lst,vM,vQ,.slice (some ⟨r,0,none⟩) n cC]:=HW2.out.gs.bk.grp hg3 fun e=>HW2.out.gs.ne _ (.inr (.inr (.inl e))) rfl
   have c8:w8.cell? ⟨g,4,none⟩=some (.slice (some ⟨r,0,none⟩) n cC):=hgb.cellAt 4
   have f8:w8.frozen? ⟨g,4,none⟩=false:=hgb.free 4
   have HS:=Lib.hid (HW2.out.gs.dropJ (p:=p) hg3 hO3 hat3)
   clear hO3 hat3 hg3 hgb c4
   go_wp2_with fail
   go_ret
   exact ⟨rfl,(HW2.out.trans HS.out).went rfl⟩


theorem cancel_any (b g:Nat) (lst:Int)(vM vQ vJ:Value)(S:Sg)(s:ByteArray)(w:World)(hG:Hid (Gs w b g lst vM vQ vJ S))(hM:Hid (Sm S)) :
  Calls Tryz.prog 88 #[.pointer (some ⟨g,0,none⟩),.string s] w fun e w'=>(∃ A n c,e = .returned (.tuple #[.slice A n c,.int .i64 (canJ S s).2.1])/\RetL w.heap.size w' A n c (canJ S s).2.2)/\Went w w' b g vM vQ vJ S (canJ S s).1:=by
 rcases fnd_cases s (jbs S.J) 0 with hf | ⟨p,hpj,hpe,hse⟩
 ·have hd:canJ S s=(S,7,[]):=by unfold canJ plJ;rw [hf];rfl
  rw [hd]
  refine (cancel_no b g lst vM vQ vJ S s w hG.out hM.out hf).mono ?_
  rintro e w' ⟨rfl,hb⟩
  exact ⟨⟨none,0,0,rfl,RetL.nil _ _⟩,Went.same hG.out hb⟩
 ·skip
  obtain ⟨C,cC,hv,_,_,_,_⟩:=hG.out.own.J.sl
  obtain ⟨n,hn⟩:∃ n,n=S.J.length:=⟨_,rfl⟩
  rw [cellsJ_length,List.length_map,<- hn] at hv
  subst hv
  have hpl:p<S.J.length:=by rw [List.length_map] at hpj;exact hpj
  obtain ⟨r,rfl⟩:=hG.out.own.J.at0 (by rw [cellsJ_length,List.length_map];omega)
  have hpn:p<n:=by rw [hn];exact hpl
  obtain ⟨j,hj⟩:∃ j,j=(S.J[p]'hpl).1:=⟨_,rfl⟩
  have hjl:(jl S.J p).1=j:=by rw [jl_at hpl,hj]
  rw [Nat.zero_add] at hpe
  obtain ⟨q,hq⟩:∃ q,q=wB j.nd:=⟨_,rfl⟩
  have hd:canJ S s=({ S with J:=S.J.eraseIdx p },0,if q then [] else [(3,j.nm,j.nd)]):=by unfold canJ plJ;rw [hpe,if_neg (by omega),Int.toNat_natCast,hjl,hq]
  rw [hd]
  clear hd
  have k1:=find_any (some ⟨r,0,none⟩) n cC (jbs S.J) s w (show _=_ by rw [List.length_map];exact hn) (by have:=hM.out.J;omega) hG.out.own.rdJs (p:Int) hpe
  have c1:w.cell? ⟨g,4,none⟩=some (.slice (some ⟨r,0,none⟩) n cC):=hG.out.bk.cellAt 4
  have K1:=Lib.hid k1;have HPL:=Lib.hid hpl;have HJ:=Lib.hid hj;have HQ:=Lib.hid hq
  have HJL:Hid (S.J.length<=1000):=hM.out.J
  have HJN:Hid ((jbs S.J)[p]'(by rw [List.length_map];exact hpl)=j):=by show _=_;simp [jbs,hj]
  have hjat:∀ W,Gs W b g lst vM vQ (.slice (some ⟨r,0,none⟩) n cC) S->JAt W r (p * 13) j:=fun W h=>⟨by
   have h1:=h.own.J.range (p:=p) (by rw [cellsJ_length,List.length_map];exact HPL.out)
   have h2:(cellsJ (jbs S.J))[p]'(by rw [cellsJ_length,List.length_map];exact HPL.out)=j.cells:=by simp [cellsJ,hj]
   rw [h2] at h1
   exact h1⟩
  have KAT:=Lib.hid hjat
  clear k1 hjat hpj hpe hse hM hj hjl hn hq
  go_enter Tryz.func88,Tryz.ntmps88
  go_wp2_with fail
  refine K1.out.mono ?_;rintro e w1 ⟨rfl,hb1⟩
  have HW1:=Lib.hid (Wn.first hG.out hb1)
  have c2':w1.cell? ⟨g,4,none⟩=some (.slice (some ⟨r,0,none⟩) n cC):=HW1.out.gs.bk.cellAt 4
  have HAT:=Lib.hid (KAT.out _ HW1.out.gs)
  clear hb1 c1 K1 KAT
  go_wp2_with ((with_reducible refine load_rg rfl 66 _ rfl r (p * 13) rfl j.arr _ HAT.out.rg Tryz.underlying66 rfl (by kernel_rfl) ?_))
  refine (waits_any j _).mono ?_;rintro e w2 ⟨rfl,hb2⟩
  rw [<- HQ.out]
  have HW2:=Lib.hid (HW1.out.below hb2)
  clear hb2 c2' HAT HW1
  cases q
  case true=>
   have KR:=Lib.hid (fun W (h:OwnK W b 66 13 (.slice (some ⟨r,0,none⟩) n cC) (cellsJ (jbs S.J)))=>removeJ_any b (.slice (some ⟨r,0,none⟩) n cC) (jbs S.J) p W (by rw [List.length_map];exact HJL.out) (by rw [List.length_map];exact HPL.out) (Lib.hid h))
   have c4:w2.cell? ⟨g,4,none⟩=some (.slice (some ⟨r,0,none⟩) n cC):=HW2.out.gs.bk.cellAt 4
   go_wp2_with fail
   refine (KR.out _ HW2.out.gs.own.J).mono ?_;rintro e w8 ⟨⟨v',rfl,hO3,hat3⟩,hg3⟩
   obtain ⟨A3,c3,hv3,_,_,_,_⟩:=hO3.sl
   generalize hn3:List.length _=n3 at hv3
   subst hv3
   clear hn3
   have hgb:Bk w8 g 73 #[.int .i64 S.ck,.int .i64 lst,vM,vQ,.slice (some ⟨r,0,none⟩) n cC]:=HW2.out.gs.bk.grp hg3 fun e=>HW2.out.gs.ne _ (.inr (.inr (.inl e))) rfl
   have c8:w8.cell? ⟨g,4,none⟩=some (.slice (some ⟨r,0,none⟩) n cC):=hgb.cellAt 4
   have f8:w8.frozen? ⟨g,4,none⟩=false:=hgb.free 4
   have HS:=Lib.hid (HW2.out.gs.dropJ (p:=p) hg3 hO3 hat3)
   clear hO3 hat3 hg3 hgb c4
   go_wp2_with fail
   exact bodyPost_ret (v:=.tuple #[.slice none 0 0,.int .i64 0]) (by simp [results,Tryz.results88,go_sem]) rfl ⟨⟨none,0,0,rfl,RetL.nil _ _⟩,(HW2.out.trans HS.out).went rfl⟩
  case false=>
   have c4:w2.cell? ⟨g,4,none⟩=some (.slice (some ⟨r,0,none⟩) n cC):=HW2.out.gs.bk.cellAt 4
   have KU:=Lib.hid (unbind_any b r n cC p 3 (jbs S.J) w2 (by rw [List.length_map];exact HPL.out) (Lib.hid HW2.out.gs.own.J))
   rw [HJN.out] at KU
   go_wp2_with fail
   refine KU.out.mono ?_;rintro e w5 ⟨rfl,hO5,hg5⟩
   have hT:Wn w2 w5 b g vM vQ (.slice (some ⟨r,0,none⟩) n cC) S lst vM vQ (.slice (some ⟨r,0,none⟩) n cC) { S with J:=S.J.set p (restX (S.J[p]'HPL.out)) }:=HW2.out.gs.oneJ (y:=restX (S.J[p]'HPL.out)) HPL.out (hg5.wide fun q _ e=>by rw [e];rfl) (by show OwnK _ _ _ _ _ (cellsJ ((jbs S.J).set p (S.J[p]'HPL.out).1.rest));rw [<- HJ.out];exact hO5) (JzOk.rest (HW2.out.gs.own.zJ _ (List.getElem_mem HPL.out))) ⟨rfl,rfl,rfl,rfl⟩
   have HT:=Lib.hid (HW2.out.trans hT)
   have HSZ:Hid (w.heap.size<=w5.heap.size):=(HW2.out.trans hT).gr.size
   clear hO5 hg5 hT KU c4
   go_wp2_with ((with_reducible refine append_ka _ rfl (.tmp 25) (.tmp 33) 34 rfl w.heap.size 64 _ 3 40 Tryz.underlying34 infoA15 rfl (by omega) (.slice none 0 0) [] rfl (OwnK.nil _ _ _ _) ⟨w5.heap.size,0,none⟩ 1 1 (cellsA [(3,j.nm,j.nd)]) rfl (rdA1 (x:=(3,j.nm,j.nd)) (Bk.fresh _ _ _)) (cellsA_k _) (cellsA_one _) rfl (by rw [cellsA_length [(3,j.nm,j.nd)]];simp [maxLen]) (by rw [cellsA_length [(3,j.nm,j.nd)]];simp) (by have:=HSZ.out;simp;omega) ?_);intro v6 w6 hO6 hg6 hat6;clear hat6;have HW6:=Lib.hid ((HT.out.below ((Below.refl _ _).alloc (Nat.le_refl _) _)).acts (OwnK.nil _ w.heap.size 64 3) hg6 (Nat.le_refl _));have HO6:Hid (OwnK w6 w.heap.size 64 3 v6 (cellsA [(3,j.nm,j.nd)])):=hO6;clear hO6 hg6;have c4:w6.cell? ⟨g,4,none⟩=some (.slice (some ⟨r,0,none⟩) n cC):=HW6.out.gs.bk.cellAt 4)
   have KR:=Lib.hid (fun W (h:OwnK W b 66 13 (.slice (some ⟨r,0,none⟩) n cC) (cellsJ (jbs (S.J.set p (restX (S.J[p]'HPL.out))))))=>removeJ_any b (.slice (some ⟨r,0,none⟩) n cC) (jbs (S.J.set p (restX (S.J[p]'HPL.out)))) p W (by rw [List.length_map,List.length_set];exact HJL.out) (by rw [List.length_map,List.length_set];exact HPL.out) (Lib.hid h))
   refine (KR.out _ HW6.out.gs.own.J).mono ?_;rintro e w8 ⟨⟨v',rfl,hO3,hat3⟩,hg3⟩
   obtain ⟨A3,c3,hv3,_,_,_,_⟩:=hO3.sl
   generalize hn3:List.length _=n3 at hv3
   subst hv3
   clear hn3
   have hgb:Bk w8 g 73 #[.int .i64 S.ck,.int .i64 lst,vM,vQ,.slice (some ⟨r,0,none⟩) n cC]:=HW6.out.gs.bk.grp hg3 fun e=>HW6.out.gs.ne _ (.inr (.inr (.inl e))) rfl
   have c8:w8.cell? ⟨g,4,none⟩=some (.slice (some ⟨r,0,none⟩) n cC):=hgb.cellAt 4
   have f8:w8.frozen? ⟨g,4,none⟩=false:=hgb.free 4
   have HS:=Lib.hid (HW6.out.gs.dropJ (p:=p) hg3 hO3 hat3)
   clear hO3 hat3 hg3 hgb c4
   go_wp2_with fail
   obtain ⟨A6,c6,hv6,_,_,_⟩:=HO6.out.acts
   subst hv6
   exact bodyPost_ret (v:=.tuple #[.slice A6 1 c6,.int .i64 0]) (by simp [results,Tryz.results88,go_sem]) rfl ⟨⟨A6,1,c6,rfl,RetL.own (HS.out.rowA HW6.out.gs HO6.out)⟩,(HW6.out.trans HS.out).went (by show (⟨_,_,_,_,_⟩:Sg)=⟨_,_,_,_,_⟩;simp only [erase_set])⟩
end
end Go.Proofs.YtccccbofcnmdiaaGreat
