/- Lemmas that the law stands on. No condition. -/
import Derived.Test.YtlodjgcnffmniaaGreatM08
namespace Go.Proofs.YtlodjgcnffmniaaGreat
set_option linter.unusedSimpArgs false
set_option linter.unusedVariables false
set_option maxRecDepth 100000
set_option maxHeartbeats 51200000
section
open Go.RowKit
theorem sE_on {a b:ByteArray} (h:sE a b=true):a.toList=b.toList:=by rw [sE_iff.1 h]
theorem sE_off {a b:ByteArray} (h:sE a b=false):(a.toList == b.toList)=false:=h
def sameNodeB (nm:ByteArray) (a b c:Int) (l:List Lb) (nm':ByteArray) (a' b' c':Int) (l':List Lb):Bool:=sE nm nm' && eq3 a b c a' b' c' && sameB l l'
def sameTaskB (nm qu:ByteArray) (pr a b c:Int) (l:List Lb) (ap ga:ByteArray) (sz:Int) (nm' qu':ByteArray) (pr' a' b' c':Int) (l':List Lb) (ap' ga':ByteArray) (sz':Int):Bool:=
 sE nm nm' && sE qu qu' && (pr == pr') && eq3 a b c a' b' c' && sameB l l' && sE ap ap' && sE ga ga' && (sz == sz')


theorem sameNode_any (nm:ByteArray) (a b c:Int) (A:Option Addr) (n cp:Nat) (l:List Lb) (nm':ByteArray) (a' b' c':Int) (B:Option Addr) (m dp:Nat) (l':List Lb) (w:World) (hn:Hid (n=l.length)) (hr:Hid (RdL w A l)) (hc:n<=cp) (hc2:cp<=9223372036854775807) (hm:Hid (m=l'.length)) (hq:Hid (RdL w B l')) (hd:m<=dp) (hd2:dp<=9223372036854775807):Calls Tryz.prog 45 #[.agg #[.string nm,.int .i64 a,.int .i64 b,.int .i64 c,.slice A n cp],.agg #[.string nm',.int .i64 a',.int .i64 b',.int .i64 c',.slice B m dp]] w fun e w'=>e = .returned (.bool (sameNodeB nm a b c l nm' a' b' c' l'))/\Below w.heap.size w w':=by
 have ks:=fun W (h:RdL W A l) (g:RdL W B l')=>same_any A B n cp m dp l l' W hn hm (Lib.hid h) (Lib.hid g) hc hc2 hd hd2
 by_cases k0:sE nm nm' = true
 case neg=>
  have k0x:sE nm nm' = false:=by simpa using k0
  have hres:sameNodeB nm a b c l nm' a' b' c' l' = false:=by unfold sameNodeB;rw [k0x];simp
  rw [hres]
  have e0:=sE_off k0x
  clear hres k0 k0x ks
  go_enter Tryz.func45,Tryz.ntmps45
  go_wp2
  go_ret
  exact ⟨rfl,(by (repeat' (first | (with_reducible exact Below.refl _ _) | (with_reducible refine Below.alloc ?_ ?_ _) | (with_reducible exact Nat.le_refl _) | (with_reducible assumption) | omega | (simp only [World.size_alloc];omega))))⟩
 case pos=>
  by_cases k1:eq3 a b c a' b' c' = true
  case neg=>
   have k1x:eq3 a b c a' b' c' = false:=by simpa using k1
   have hres:sameNodeB nm a b c l nm' a' b' c' l' = false:=by unfold sameNodeB;rw [k1x];simp
   rw [hres]
   have e0:=sE_on k0
   clear hres k1 k0 ks
   go_enter Tryz.func45,Tryz.ntmps45
   go_wp2
   go_ret
   exact ⟨rfl,(by (repeat' (first | (with_reducible exact Below.refl _ _) | (with_reducible refine Below.alloc ?_ ?_ _) | (with_reducible exact Nat.le_refl _) | (with_reducible assumption) | omega | (simp only [World.size_alloc];omega))))⟩
  case pos=>
   by_cases k2:sameB l l' = true
   case neg=>
    have k2x:sameB l l' = false:=by simpa using k2
    have hres:sameNodeB nm a b c l nm' a' b' c' l' = false:=by unfold sameNodeB;rw [k2x];simp
    rw [hres]
    have e0:=sE_on k0
    rw [k2x] at ks
    have HS:=Lib.hid ks
    clear hres k2 k0 k2x ks
    go_enter Tryz.func45,Tryz.ntmps45
    go_wp2_with fail
    refine (HS.out _ (hr.out.later (by (repeat' (first | (with_reducible exact Below.refl _ _) | (with_reducible refine Below.alloc ?_ ?_ _) | (with_reducible exact Nat.le_refl _) | (with_reducible assumption) | omega | (simp only [World.size_alloc];omega))))) (hq.out.later (by (repeat' (first | (with_reducible exact Below.refl _ _) | (with_reducible refine Below.alloc ?_ ?_ _) | (with_reducible exact Nat.le_refl _) | (with_reducible assumption) | omega | (simp only [World.size_alloc];omega)))))).mono ?_;rintro e w1 ⟨rfl,hb1⟩
    obtain ⟨hc1,hf1⟩:=bcell hb1;have hz1:w.heap.size<w1.heap.size:=by have h:=hb1.size;(simp only [World.size_alloc] at h);omega
    have hz2:w.heap.size+1<w1.heap.size:=by have h:=hb1.size;(simp only [World.size_alloc] at h);omega
    go_wp2
    go_ret
    exact ⟨rfl,(by (repeat' (first | (with_reducible exact Below.refl _ _) | (with_reducible refine Below.alloc ?_ ?_ _) | (with_reducible refine Below.trans ?_ (Below.mono hb1 ?_)) | (with_reducible exact Nat.le_refl _) | (with_reducible assumption) | omega | (simp only [World.size_alloc];omega))))⟩
   case pos=>
    rw [k2] at ks
    have hres:sameNodeB nm a b c l nm' a' b' c' l' = true:=by unfold sameNodeB;rw [k0,k1,k2];rfl
    rw [hres]
    have HS:=Lib.hid ks
    have e0:=sE_on k0
    clear hres ks k0 k2
    go_enter Tryz.func45,Tryz.ntmps45
    go_wp2_with fail
    refine (HS.out _ (hr.out.later (by (repeat' (first | (with_reducible exact Below.refl _ _) | (with_reducible refine Below.alloc ?_ ?_ _) | (with_reducible exact Nat.le_refl _) | (with_reducible assumption) | omega | (simp only [World.size_alloc];omega))))) (hq.out.later (by (repeat' (first | (with_reducible exact Below.refl _ _) | (with_reducible refine Below.alloc ?_ ?_ _) | (with_reducible exact Nat.le_refl _) | (with_reducible assumption) | omega | (simp only [World.size_alloc];omega)))))).mono ?_;rintro e w1 ⟨rfl,hb1⟩
    obtain ⟨hc1,hf1⟩:=bcell hb1;have hz1:w.heap.size<w1.heap.size:=by have h:=hb1.size;(simp only [World.size_alloc] at h);omega
    have hz2:w.heap.size+1<w1.heap.size:=by have h:=hb1.size;(simp only [World.size_alloc] at h);omega
    go_wp2
    go_ret
    exact ⟨rfl,(by (repeat' (first | (with_reducible exact Below.refl _ _) | (with_reducible refine Below.alloc ?_ ?_ _) | (with_reducible refine Below.trans ?_ (Below.mono hb1 ?_)) | (with_reducible exact Nat.le_refl _) | (with_reducible assumption) | omega | (simp only [World.size_alloc];omega))))⟩


theorem sameTask_any (nm qu:ByteArray) (pr a b c:Int) (A:Option Addr) (n cp:Nat) (l:List Lb) (ap ga:ByteArray) (sz:Int) (nm' qu':ByteArray) (pr' a' b' c':Int) (B:Option Addr) (m dp:Nat) (l':List Lb) (ap' ga':ByteArray) (sz':Int) (w:World) (hn:Hid (n=l.length)) (hr:Hid (RdL w A l)) (hc:n<=cp) (hc2:cp<=9223372036854775807) (hm:Hid (m=l'.length)) (hq:Hid (RdL w B l')) (hd:m<=dp) (hd2:dp<=9223372036854775807):Calls Tryz.prog 46 #[.agg #[.string nm,.string qu,.int .i64 pr,.int .i64 a,.int .i64 b,.int .i64 c,.slice A n cp,.string ap,.string ga,.int .i64 sz],.agg #[.string nm',.string qu',.int .i64 pr',.int .i64 a',.int .i64 b',.int .i64 c',.slice B m dp,.string ap',.string ga',.int .i64 sz']] w fun e w'=>e = .returned (.bool (sameTaskB nm qu pr a b c l ap ga sz nm' qu' pr' a' b' c' l' ap' ga' sz'))/\Below w.heap.size w w':=by
 have ks:=fun W (h:RdL W A l) (g:RdL W B l')=>same_any A B n cp m dp l l' W hn hm (Lib.hid h) (Lib.hid g) hc hc2 hd hd2
 by_cases k0:sE nm nm' = true
 case neg=>
  have k0x:sE nm nm' = false:=by simpa using k0
  have hres:sameTaskB nm qu pr a b c l ap ga sz nm' qu' pr' a' b' c' l' ap' ga' sz' = false:=by unfold sameTaskB;rw [k0x];simp
  rw [hres]
  have e0:=sE_off k0x
  clear hres k0 k0x ks
  go_enter Tryz.func46,Tryz.ntmps46
  go_wp2
  go_ret
  exact ⟨rfl,(by (repeat' (first | (with_reducible exact Below.refl _ _) | (with_reducible refine Below.alloc ?_ ?_ _) | (with_reducible exact Nat.le_refl _) | (with_reducible assumption) | omega | (simp only [World.size_alloc];omega))))⟩
 case pos=>
  by_cases k1:sE qu qu' = true
  case neg=>
   have k1x:sE qu qu' = false:=by simpa using k1
   have hres:sameTaskB nm qu pr a b c l ap ga sz nm' qu' pr' a' b' c' l' ap' ga' sz' = false:=by unfold sameTaskB;rw [k1x];simp
   rw [hres]
   have e0:=sE_on k0
   have e1:=sE_off k1x
   clear hres k1 k0 k1x ks
   go_enter Tryz.func46,Tryz.ntmps46
   go_wp2
   go_ret
   exact ⟨rfl,(by (repeat' (first | (with_reducible exact Below.refl _ _) | (with_reducible refine Below.alloc ?_ ?_ _) | (with_reducible exact Nat.le_refl _) | (with_reducible assumption) | omega | (simp only [World.size_alloc];omega))))⟩
  case pos=>
   by_cases k2:(pr == pr')=true
   case neg=>
    have k2x:(pr == pr')=false:=by simpa using k2
    have hres:sameTaskB nm qu pr a b c l ap ga sz nm' qu' pr' a' b' c' l' ap' ga' sz' = false:=by unfold sameTaskB;rw [k2x];simp
    rw [hres]
    have e0:=sE_on k0
    have e1:=sE_on k1
    clear hres k2 k0 k1 ks
    go_enter Tryz.func46,Tryz.ntmps46
    go_wp2
    go_ret
    exact ⟨rfl,(by (repeat' (first | (with_reducible exact Below.refl _ _) | (with_reducible refine Below.alloc ?_ ?_ _) | (with_reducible exact Nat.le_refl _) | (with_reducible assumption) | omega | (simp only [World.size_alloc];omega))))⟩
   case pos=>
    by_cases k3:eq3 a b c a' b' c' = true
    case neg=>
     have k3x:eq3 a b c a' b' c' = false:=by simpa using k3
     have hres:sameTaskB nm qu pr a b c l ap ga sz nm' qu' pr' a' b' c' l' ap' ga' sz' = false:=by unfold sameTaskB;rw [k3x];simp
     rw [hres]
     have e0:=sE_on k0
     have e1:=sE_on k1
     clear hres k3 k0 k1 ks
     go_enter Tryz.func46,Tryz.ntmps46
     go_wp2
     go_ret
     exact ⟨rfl,(by (repeat' (first | (with_reducible exact Below.refl _ _) | (with_reducible refine Below.alloc ?_ ?_ _) | (with_reducible exact Nat.le_refl _) | (with_reducible assumption) | omega | (simp only [World.size_alloc];omega))))⟩
    case pos=>
     by_cases k4:sameB l l' = true
     case neg=>
      have k4x:sameB l l' = false:=by simpa using k4
      have hres:sameTaskB nm qu pr a b c l ap ga sz nm' qu' pr' a' b' c' l' ap' ga' sz' = false:=by unfold sameTaskB;rw [k4x];simp
      rw [hres]
      have e0:=sE_on k0
      have e1:=sE_on k1
      rw [k4x] at ks
      have HS:=Lib.hid ks
      clear hres k4 k0 k1 k4x ks
      go_enter Tryz.func46,Tryz.ntmps46
      go_wp2_with fail
      refine (HS.out _ (hr.out.later (by (repeat' (first | (with_reducible exact Below.refl _ _) | (with_reducible refine Below.alloc ?_ ?_ _) | (with_reducible exact Nat.le_refl _) | (with_reducible assumption) | omega | (simp only [World.size_alloc];omega))))) (hq.out.later (by (repeat' (first | (with_reducible exact Below.refl _ _) | (with_reducible refine Below.alloc ?_ ?_ _) | (with_reducible exact Nat.le_refl _) | (with_reducible assumption) | omega | (simp only [World.size_alloc];omega)))))).mono ?_;rintro e w1 ⟨rfl,hb1⟩
      obtain ⟨hc1,hf1⟩:=bcell hb1;have hz1:w.heap.size<w1.heap.size:=by have h:=hb1.size;(simp only [World.size_alloc] at h);omega
      have hz2:w.heap.size+1<w1.heap.size:=by have h:=hb1.size;(simp only [World.size_alloc] at h);omega
      go_wp2
      go_ret
      exact ⟨rfl,(by (repeat' (first | (with_reducible exact Below.refl _ _) | (with_reducible refine Below.alloc ?_ ?_ _) | (with_reducible refine Below.trans ?_ (Below.mono hb1 ?_)) | (with_reducible exact Nat.le_refl _) | (with_reducible assumption) | omega | (simp only [World.size_alloc];omega))))⟩
     case pos=>
      rw [k4] at ks
      by_cases k5:sE ap ap' = true
      case neg=>
       have k5x:sE ap ap' = false:=by simpa using k5
       have hres:sameTaskB nm qu pr a b c l ap ga sz nm' qu' pr' a' b' c' l' ap' ga' sz' = false:=by unfold sameTaskB;rw [k5x];simp
       rw [hres]
       have e0:=sE_on k0
       have e1:=sE_on k1
       have e5:=sE_off k5x
       have HS:=Lib.hid ks
       clear hres k5 k0 k1 k4 k5x ks
       go_enter Tryz.func46,Tryz.ntmps46
       go_wp2_with fail
       refine (HS.out _ (hr.out.later (by (repeat' (first | (with_reducible exact Below.refl _ _) | (with_reducible refine Below.alloc ?_ ?_ _) | (with_reducible exact Nat.le_refl _) | (with_reducible assumption) | omega | (simp only [World.size_alloc];omega))))) (hq.out.later (by (repeat' (first | (with_reducible exact Below.refl _ _) | (with_reducible refine Below.alloc ?_ ?_ _) | (with_reducible exact Nat.le_refl _) | (with_reducible assumption) | omega | (simp only [World.size_alloc];omega)))))).mono ?_;rintro e w1 ⟨rfl,hb1⟩
       obtain ⟨hc1,hf1⟩:=bcell hb1;have hz1:w.heap.size<w1.heap.size:=by have h:=hb1.size;(simp only [World.size_alloc] at h);omega
       have hz2:w.heap.size+1<w1.heap.size:=by have h:=hb1.size;(simp only [World.size_alloc] at h);omega
       go_wp2
       go_ret
       exact ⟨rfl,(by (repeat' (first | (with_reducible exact Below.refl _ _) | (with_reducible refine Below.alloc ?_ ?_ _) | (with_reducible refine Below.trans ?_ (Below.mono hb1 ?_)) | (with_reducible exact Nat.le_refl _) | (with_reducible assumption) | omega | (simp only [World.size_alloc];omega))))⟩
      case pos=>
       by_cases k6:sE ga ga' = true
       case neg=>
        have k6x:sE ga ga' = false:=by simpa using k6
        have hres:sameTaskB nm qu pr a b c l ap ga sz nm' qu' pr' a' b' c' l' ap' ga' sz' = false:=by unfold sameTaskB;rw [k6x];simp
        rw [hres]
        have e0:=sE_on k0
        have e1:=sE_on k1
        have e5:=sE_on k5
        have e6:=sE_off k6x
        have HS:=Lib.hid ks
        clear hres k6 k0 k1 k4 k5 k6x ks
        go_enter Tryz.func46,Tryz.ntmps46
        go_wp2_with fail
        refine (HS.out _ (hr.out.later (by (repeat' (first | (with_reducible exact Below.refl _ _) | (with_reducible refine Below.alloc ?_ ?_ _) | (with_reducible exact Nat.le_refl _) | (with_reducible assumption) | omega | (simp only [World.size_alloc];omega))))) (hq.out.later (by (repeat' (first | (with_reducible exact Below.refl _ _) | (with_reducible refine Below.alloc ?_ ?_ _) | (with_reducible exact Nat.le_refl _) | (with_reducible assumption) | omega | (simp only [World.size_alloc];omega)))))).mono ?_;rintro e w1 ⟨rfl,hb1⟩
        obtain ⟨hc1,hf1⟩:=bcell hb1;have hz1:w.heap.size<w1.heap.size:=by have h:=hb1.size;(simp only [World.size_alloc] at h);omega
        have hz2:w.heap.size+1<w1.heap.size:=by have h:=hb1.size;(simp only [World.size_alloc] at h);omega
        go_wp2
        go_ret
        exact ⟨rfl,(by (repeat' (first | (with_reducible exact Below.refl _ _) | (with_reducible refine Below.alloc ?_ ?_ _) | (with_reducible refine Below.trans ?_ (Below.mono hb1 ?_)) | (with_reducible exact Nat.le_refl _) | (with_reducible assumption) | omega | (simp only [World.size_alloc];omega))))⟩
       case pos=>
        by_cases k7:(sz == sz')=true
        case neg=>
         have k7x:(sz == sz')=false:=by simpa using k7
         have hres:sameTaskB nm qu pr a b c l ap ga sz nm' qu' pr' a' b' c' l' ap' ga' sz' = false:=by unfold sameTaskB;rw [k7x];simp
         rw [hres]
         have e0:=sE_on k0
         have e1:=sE_on k1
         have e5:=sE_on k5
         have e6:=sE_on k6
         have HS:=Lib.hid ks
         clear hres k7 k0 k1 k4 k5 k6 ks
         go_enter Tryz.func46,Tryz.ntmps46
         go_wp2_with fail
         refine (HS.out _ (hr.out.later (by (repeat' (first | (with_reducible exact Below.refl _ _) | (with_reducible refine Below.alloc ?_ ?_ _) | (with_reducible exact Nat.le_refl _) | (with_reducible assumption) | omega | (simp only [World.size_alloc];omega))))) (hq.out.later (by (repeat' (first | (with_reducible exact Below.refl _ _) | (with_reducible refine Below.alloc ?_ ?_ _) | (with_reducible exact Nat.le_refl _) | (with_reducible assumption) | omega | (simp only [World.size_alloc];omega)))))).mono ?_;rintro e w1 ⟨rfl,hb1⟩
         obtain ⟨hc1,hf1⟩:=bcell hb1;have hz1:w.heap.size<w1.heap.size:=by have h:=hb1.size;(simp only [World.size_alloc] at h);omega
         have hz2:w.heap.size+1<w1.heap.size:=by have h:=hb1.size;(simp only [World.size_alloc] at h);omega
         go_wp2
         go_ret
         exact ⟨rfl,(by (repeat' (first | (with_reducible exact Below.refl _ _) | (with_reducible refine Below.alloc ?_ ?_ _) | (with_reducible refine Below.trans ?_ (Below.mono hb1 ?_)) | (with_reducible exact Nat.le_refl _) | (with_reducible assumption) | omega | (simp only [World.size_alloc];omega))))⟩
        case pos=>
         have hres:sameTaskB nm qu pr a b c l ap ga sz nm' qu' pr' a' b' c' l' ap' ga' sz' = true:=by unfold sameTaskB;rw [k0,k1,k2,k3,k4,k5,k6,k7];rfl
         rw [hres]
         have HS:=Lib.hid ks
         have e0:=sE_on k0
         have e1:=sE_on k1
         have e5:=sE_on k5
         have e6:=sE_on k6
         clear hres ks k0 k1 k4 k5 k6
         go_enter Tryz.func46,Tryz.ntmps46
         go_wp2_with fail
         refine (HS.out _ (hr.out.later (by (repeat' (first | (with_reducible exact Below.refl _ _) | (with_reducible refine Below.alloc ?_ ?_ _) | (with_reducible exact Nat.le_refl _) | (with_reducible assumption) | omega | (simp only [World.size_alloc];omega))))) (hq.out.later (by (repeat' (first | (with_reducible exact Below.refl _ _) | (with_reducible refine Below.alloc ?_ ?_ _) | (with_reducible exact Nat.le_refl _) | (with_reducible assumption) | omega | (simp only [World.size_alloc];omega)))))).mono ?_;rintro e w1 ⟨rfl,hb1⟩
         obtain ⟨hc1,hf1⟩:=bcell hb1;have hz1:w.heap.size<w1.heap.size:=by have h:=hb1.size;(simp only [World.size_alloc] at h);omega
         have hz2:w.heap.size+1<w1.heap.size:=by have h:=hb1.size;(simp only [World.size_alloc] at h);omega
         go_wp2
         go_ret
         exact ⟨rfl,(by (repeat' (first | (with_reducible exact Below.refl _ _) | (with_reducible refine Below.alloc ?_ ?_ _) | (with_reducible refine Below.trans ?_ (Below.mono hb1 ?_)) | (with_reducible exact Nat.le_refl _) | (with_reducible assumption) | omega | (simp only [World.size_alloc];omega))))⟩
theorem eq3_in (d:Nat) (a b c a' b' c':Int) (w:World):(Op.equalIn (d+2) 40 (.agg #[.int .i64 a,.int .i64 b,.int .i64 c]) (.agg #[.int .i64 a',.int .i64 b',.int .i64 c'])).run Tryz.prog w = .ok (eq3 a b c a' b' c') w:=by
 have u3:=Tryz.underlying3
 have a3:=Tryz.isAgg3
 have z3:=Tryz.sizeOf3
 rw [Op.equalIn]
 simp only [Sem.run_bind,run_underlying Tryz.underlying40,Result.andThen_ok]
 simp only [Std.Legacy.Range.forIn_eq_forIn_range',Std.Legacy.Range.size,Nat.sub_zero,Nat.add_sub_cancel,Nat.div_one,List.range'_succ,List.range'_zero,List.forIn_cons,List.forIn_nil]
 go_simp
 by_cases h1:a=a' <;> by_cases h2:b=b' <;> by_cases h3:c=c' <;> simp [h1,h2,h3,eq3]
theorem eq_queue_in (s s':ByteArray) (a b c a' b' c':Int) (w:World):(Op.equalIn 10000 45 (.agg #[.string s,.int .i64 a,.int .i64 b,.int .i64 c]) (.agg #[.string s',.int .i64 a',.int .i64 b',.int .i64 c'])).run Tryz.prog w = .ok (sE s s' && eq3 a b c a' b' c') w:=by
 have h:=eq3_in 9997 a b c a' b' c'
 have u9:=Tryz.underlying9
 rw [show (10000:Nat)=9999+1 from rfl,run_equalIn_agg w 9999 _ _ _ (by kernel_rfl) (by kernel_rfl)]
 have hf : Tryz.prog.fieldsOf 45 = #[{ name := "Name", type := 9, offset := 0, embedded := false, tag := "", pkgPath := "", byteOffset := 0 }, { name := "Quota", type := 40, offset := 1, embedded := false, tag := "", pkgPath := "", byteOffset := 16 }] := by kernel_rfl
 rw [hf]
 by_cases k:sE s s' = true
 ·have e:=sE_on k
  rw [k,Bool.true_and]
  generalize eq3 a b c a' b' c' = r at h ⊢
  cases r <;> go_simp
 ·have k':sE s s' = false:=by simpa using k
  have e:=sE_off k'
  rw [k',Bool.false_and]
  go_simp
theorem neq_queue_any (s s':ByteArray) (a b c a' b' c':Int) (w:World):(binOp .neq 45 (.agg #[.string s,.int .i64 a,.int .i64 b,.int .i64 c]) (.agg #[.string s',.int .i64 a',.int .i64 b',.int .i64 c'])).run Tryz.prog w = .ok (.bool (!(sE s s' && eq3 a b c a' b' c'))) w:=by
 rw [run_neq_struct,eq_queue_in];rfl
theorem eql_queue_any (s s':ByteArray) (a b c a' b' c':Int) (w:World):(binOp .eql 45 (.agg #[.string s,.int .i64 a,.int .i64 b,.int .i64 c]) (.agg #[.string s',.int .i64 a',.int .i64 b',.int .i64 c'])).run Tryz.prog w = .ok (.bool (sE s s' && eq3 a b c a' b' c')) w:=by
 rw [run_eql_struct,eq_queue_in];rfl
end
section
open Go.RowKit
theorem any_at {l:List Lb} {p:Lb->Bool} {k:Nat} (hk:k<l.length) (hp:p l[k]=true):l.any p=true:=List.any_eq_true.2 ⟨l[k],List.getElem_mem hk,hp⟩
theorem any_takeL {l:List Lb} {p:Lb->Bool} {k:Nat} (h:k<l.length):(l.take (k+1)).any p=((l.take k).any p || p l[k]):=by
 rw [List.take_succ_eq_append_getElem h,List.any_append];simp
def retV (r:ByteArray × Bool):Ending:=.returned (.tuple #[.string r.1,.bool r.2])
def containsB (l:List Lb) (x:Lb):Bool:=l.any fun y=>lE y x
def hasB (l ws:List Lb):Bool:=ws.all (containsB l)

theorem contains_any (A:Option Addr) (n c:Nat) (l:List Lb) (a b:ByteArray) (w:World) (hn:Hid (n=l.length)) (hr:Hid (RdL w A l)) (hc:n<=c) (hc2:c<=9223372036854775807) :
  Calls Tryz.prog 144 #[.slice A n c,.agg #[.string a,.string b]] w fun e w'=>e = .returned (.bool (containsB l (a,b)))/\Below w.heap.size w w':=by
 go_enter Tryz.func144,Tryz.ntmps144
 go_wp2
 go_loopw [6,9] (fun _ i wr=>∃ k:Nat,k<=n/\i = .int .i64 k/\Hid ((l.take k).any (fun y=>lE y (a,b))=false)/\Below (w.heap.size+1) (w.alloc (.cells #[.string a,.string b] 70)) wr) (fun _ i wr=>n - (intOf i).toNat)
 case atStart=>exact ⟨0,Nat.zero_le _,rfl,rfl,Below.refl _ _⟩
 case round=>
  obtain ⟨k,hk,rfl,HA,hb0⟩:=hrel
  have hb:Below w.heap.size w wr:=((Below.refl _ _).alloc (Nat.le_refl _) _).trans (hb0.mono (by omega))
  have hsz:w.heap.size<wr.heap.size:=by have:=hb0.size;simp at this;omega
  have k1:wr.cell? ⟨w.heap.size,0,none⟩=some (.string a):=(hb0.cell (p:=⟨w.heap.size,0,none⟩) (by simp)).trans (by simp)
  have k2:wr.cell? ⟨w.heap.size,1,none⟩=some (.string b):=(hb0.cell (p:=⟨w.heap.size,1,none⟩) (by simp)).trans (by simp)
  by_cases hlt:k<n
  ·have hl:k<l.length:=by have:=hn.out;omega
   obtain ⟨g,o,rfl,hg,h1,h2⟩:=(hr.out.later hb).at hl
   by_cases hE:lE l[k] (a,b)=true
   ·have HV:Hid (containsB l (a,b)=true):=any_at hl hE
    obtain ⟨e1,e2⟩:=lE_yes hE
    simp only [] at e1 e2
    clear hE HA
    go_wp2
    go_ret
    exact ⟨ret_bool' HV.out.symm,(by (repeat' (first | (with_reducible exact Below.refl _ _) | (with_reducible refine bdrewN ?_ _) | (with_reducible refine Below.drew ?_) | (with_reducible refine Below.setCell ?_ ?_ _) | (with_reducible refine Below.alloc ?_ ?_ _) | (with_reducible refine Below.trans ?_ (Below.mono hb ?_)) | (with_reducible exact Nat.le_refl _) | (with_reducible assumption) | omega | (simp only [World.size_alloc,World.size_setCell,World.size_drew,sz_drewN];omega))))⟩
   ·have HS:Hid ((l.take (k+1)).any (fun y=>lE y (a,b))=false):=by
     show _=_
     rw [any_takeL hl,HA.out];simpa using hE
    have hE':=lE_no (by simpa using hE)
    simp only [] at hE'
    clear hE HA
    rcases hE' with e1 | ⟨e1,e2⟩
    all_goals
     go_wp2
     go_round
     case rel=>exact ⟨k+1,by omega,by go_num,HS,(by (repeat' (first | (with_reducible exact Below.refl _ _) | (with_reducible refine bdrewN ?_ _) | (with_reducible refine Below.drew ?_) | (with_reducible refine Below.setCell ?_ ?_ _) | (with_reducible refine Below.alloc ?_ ?_ _) | (with_reducible refine Below.trans ?_ (Below.mono hb0 ?_)) | (with_reducible exact Nat.le_refl _) | (with_reducible assumption) | omega | (simp only [World.size_alloc,World.size_setCell,World.size_drew,sz_drewN];omega))))⟩
     case measure=>simp [intOf];omega
  ·have HV:Hid (containsB l (a,b)=false):=by have:=HA.out;rwa [List.take_of_length_le (by have:=hn.out;omega)] at this
   go_wp2
   go_ret
   exact ⟨ret_bool' HV.out.symm,(by (repeat' (first | (with_reducible exact Below.refl _ _) | (with_reducible refine bdrewN ?_ _) | (with_reducible refine Below.drew ?_) | (with_reducible refine Below.setCell ?_ ?_ _) | (with_reducible refine Below.alloc ?_ ?_ _) | (with_reducible refine Below.trans ?_ (Below.mono hb ?_)) | (with_reducible exact Nat.le_refl _) | (with_reducible assumption) | omega | (simp only [World.size_alloc,World.size_setCell,World.size_drew,sz_drewN];omega))))⟩

theorem has_any (A B:Option Addr) (n c m d:Nat) (l r:List Lb) (w:World) (hn:Hid (n=l.length)) (hm:Hid (m=r.length)) (hr:Hid (RdL w A l)) (hq:Hid (RdL w B r)) (hc:n<=c) (hc2:c<=9223372036854775807) (hd:m<=d) (hd2:d<=9223372036854775807) :
  Calls Tryz.prog 111 #[.slice A n c,.slice B m d] w fun e w'=>e = .returned (.bool (hasB l r))/\Below w.heap.size w w':=by
 go_enter Tryz.func111,Tryz.ntmps111
 go_wp2
 go_loopw [6,9] (fun _ i wr=>∃ k:Nat,k<=m/\i = .int .i64 k/\Hid ((r.take k).all (containsB l)=true)/\Below w.heap.size w wr) (fun _ i wr=>m - (intOf i).toNat)
 case atStart=>exact ⟨0,Nat.zero_le _,rfl,rfl,Below.refl _ _⟩
 case round=>
  obtain ⟨k,hk,rfl,HA,hb⟩:=hrel
  have hsz:=hb.size
  by_cases hlt:k<m
  ·have hl:k<r.length:=by have:=hm.out;omega
   obtain ⟨g,o,rfl,hg,h1,h2⟩:=(hq.out.later hb).at hl
   have hcon:=fun W (h:RdL W A l)=>contains_any A n c l r[k].1 r[k].2 W hn h hc hc2
   by_cases hE:containsB l r[k]=true
   ·have HS:Hid ((r.take (k+1)).all (containsB l)=true):=by show _=_;rw [all_takeL hl,HA.out,hE];rfl
    rw [show containsB l (r[k].1,r[k].2)=true from hE] at hcon
    have HC:Hid _:=hcon
    clear hE HA hcon
    go_wp2_with fail
    refine (HC.out _ (hr.out.later (by (repeat' (first | (with_reducible exact Below.refl _ _) | (with_reducible refine bdrewN ?_ _) | (with_reducible refine Below.drew ?_) | (with_reducible refine Below.setCell ?_ ?_ _) | (with_reducible refine Below.alloc ?_ ?_ _) | (with_reducible refine Below.trans ?_ (Below.mono hb ?_)) | (with_reducible exact Nat.le_refl _) | (with_reducible assumption) | omega | (simp only [World.size_alloc,World.size_setCell,World.size_drew,sz_drewN];omega)))))).mono ?_;rintro e w1 ⟨rfl,hb1⟩
    go_wp2
    go_round
    case rel=>exact ⟨k+1,by omega,by go_num,HS,(by (repeat' (first | (with_reducible exact Below.refl _ _) | (with_reducible refine bdrewN ?_ _) | (with_reducible refine Below.drew ?_) | (with_reducible refine Below.setCell ?_ ?_ _) | (with_reducible refine Below.alloc ?_ ?_ _) | (with_reducible refine Below.trans ?_ (Below.mono hb1 ?_)) | (with_reducible refine Below.trans ?_ (Below.mono hb ?_)) | (with_reducible exact Nat.le_refl _) | (with_reducible assumption) | omega | (simp only [World.size_alloc,World.size_setCell,World.size_drew,sz_drewN];omega))))⟩
    case measure=>simp [intOf];omega
   ·have hE':containsB l r[k]=false:=by simpa using hE
    have HV:Hid (hasB l r=false):=all_take_falseL hl hE'
    rw [show containsB l (r[k].1,r[k].2)=false from hE'] at hcon
    have HC:Hid _:=hcon
    clear hE hE' HA hcon
    go_wp2_with fail
    refine (HC.out _ (hr.out.later (by (repeat' (first | (with_reducible exact Below.refl _ _) | (with_reducible refine bdrewN ?_ _) | (with_reducible refine Below.drew ?_) | (with_reducible refine Below.setCell ?_ ?_ _) | (with_reducible refine Below.alloc ?_ ?_ _) | (with_reducible refine Below.trans ?_ (Below.mono hb ?_)) | (with_reducible exact Nat.le_refl _) | (with_reducible assumption) | omega | (simp only [World.size_alloc,World.size_setCell,World.size_drew,sz_drewN];omega)))))).mono ?_;rintro e w1 ⟨rfl,hb1⟩
    go_wp2
    go_ret
    exact ⟨ret_bool' HV.out.symm,(by (repeat' (first | (with_reducible exact Below.refl _ _) | (with_reducible refine bdrewN ?_ _) | (with_reducible refine Below.drew ?_) | (with_reducible refine Below.setCell ?_ ?_ _) | (with_reducible refine Below.alloc ?_ ?_ _) | (with_reducible refine Below.trans ?_ (Below.mono hb1 ?_)) | (with_reducible refine Below.trans ?_ (Below.mono hb ?_)) | (with_reducible exact Nat.le_refl _) | (with_reducible assumption) | omega | (simp only [World.size_alloc,World.size_setCell,World.size_drew,sz_drewN];omega))))⟩
  ·have HV:Hid (hasB l r=true):=by have:=HA.out;rwa [List.take_of_length_le (by have:=hm.out;omega)] at this
   go_wp2
   go_ret
   exact ⟨ret_bool' HV.out.symm,(by (repeat' (first | (with_reducible exact Below.refl _ _) | (with_reducible refine bdrewN ?_ _) | (with_reducible refine Below.drew ?_) | (with_reducible refine Below.setCell ?_ ?_ _) | (with_reducible refine Below.alloc ?_ ?_ _) | (with_reducible refine Below.trans ?_ (Below.mono hb ?_)) | (with_reducible exact Nat.le_refl _) | (with_reducible assumption) | omega | (simp only [World.size_alloc,World.size_setCell,World.size_drew,sz_drewN];omega))))⟩
end
end Go.Proofs.YtlodjgcnffmniaaGreat
