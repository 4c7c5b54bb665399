/- Lemmas that the law stands on. No condition. -/
import Derived.Test.YtccccbofcnmdiaaGreatK04
namespace Go.Proofs.YtccccbofcnmdiaaGreat
set_option linter.unusedSimpArgs false
set_option linter.unusedVariables false
set_option maxRecDepth 100000
set_option maxHeartbeats 51200000
section
open Go.RowKit
def apartB (s:ByteArray):Bool:=decide (s.size=0) || nameB s
def gangB (g:ByteArray) (k:Int):Bool:=if g.size=0 then decide (k=0) else nameB g && decide (2<=k) && decide (k<=4)
def nodeB (nm:ByteArray) (a b c:Int)(l:List Lb):Bool:=nameB nm && rB a b c && labelsB l
def queueB (nm:ByteArray) (a b c:Int):Bool:=nameB nm && rB a b c
def taskB (nm qu:ByteArray) (pr a b c:Int)(l:List Lb)(ap ga:ByteArray) (sz:Int):Bool:=
 nameB nm && nameB qu && decide (0<=pr) && decide (pr<=9) && rB a b c && labelsB l && apartB ap && gangB ga sz
theorem empty_of {s:ByteArray}(h:s.size=0):s=⟨#[]⟩:=by cases s;congr;exact Array.eq_empty_of_size_eq_zero h
theorem full_of {s:ByteArray}(h:¬ s.size=0):¬ s.toList=[]/\s.toList.isEmpty=false:=by
 have h2:¬ s.toList=[]:=fun hc=>h (by
  have:s.toList.length=s.size:=by rw [ByteArray.toList_eq];simp
  rw [hc] at this;simpa using this.symm)
 exact ⟨h2,by simpa using h2⟩
theorem apartB_empty:apartB ⟨#[]⟩=true:=rfl
theorem apartB_full {s:ByteArray}(h:¬ s.size=0):apartB s=nameB s:=by unfold apartB;rw [decide_eq_false h];rfl
theorem gangB_empty (k:Int):gangB ⟨#[]⟩ k=decide (k=0):=rfl
theorem gangB_full {g:ByteArray}{k:Int}(h:¬ g.size=0):gangB g k=(nameB g && decide (2<=k) && decide (k<=4)):=by unfold gangB;rw [if_neg h]

theorem apart_any (s:ByteArray)(w:World)(hs:s.size<=9223372036854775807):Calls Tryz.prog 119 #[.string s] w fun e w'=>e = .returned (.bool (apartB s))/\w=w':=by
 by_cases h0:s.size=0
 ·obtain rfl:=empty_of h0
  rw [apartB_empty]
  go_enter Tryz.func119,Tryz.ntmps119
  go_wp2
  go_ret
  exact ⟨rfl,rfl⟩
 ·have hn:=fun W=>name_any s W hs
  obtain ⟨f1,f2⟩:=full_of h0
  rw [apartB_full h0]
  generalize nameB s=r at hn ⊢
  have HN:=Lib.hid hn
  clear hn h0
  go_enter Tryz.func119,Tryz.ntmps119
  go_wp2_with fail
  refine (HN.out _).mono ?_;rintro e w' ⟨rfl,rfl⟩
  go_wp2
  go_ret
  exact ⟨rfl,rfl⟩

theorem gang_any (s:ByteArray) (k:Int)(w:World)(hs:s.size<=9223372036854775807):Calls Tryz.prog 120 #[.string s,.int .i64 k] w fun e w'=>e = .returned (.bool (gangB s k))/\w=w':=by
 by_cases h0:s.size=0
 ·obtain rfl:=empty_of h0
  rw [gangB_empty]
  by_cases hk:k=0
  ·subst hk
   go_enter Tryz.func120,Tryz.ntmps120
   go_wp2
   go_ret
   exact ⟨rfl,rfl⟩
  ·have hk':(k == 0)=false:=by simpa using hk
   rw [decide_eq_false hk]
   clear hk
   go_enter Tryz.func120,Tryz.ntmps120
   go_wp2
   go_ret
   exact ⟨rfl,rfl⟩
 ·have hn:=fun W=>name_any s W hs
  obtain ⟨f1,f2⟩:=full_of h0
  rw [gangB_full h0]
  by_cases hN:nameB s=true
  ·rw [hN] at hn ⊢
   have HN:=Lib.hid hn
   clear hn h0 hN
   by_cases k1:2<=k
   ·rw [decide_eq_true k1]
    go_enter Tryz.func120,Tryz.ntmps120
    go_wp2_with fail
    refine (HN.out _).mono ?_;rintro e w' ⟨rfl,rfl⟩
    go_wp2
    go_ret
    exact ⟨rfl,rfl⟩
   ·rw [decide_eq_false k1]
    go_enter Tryz.func120,Tryz.ntmps120
    go_wp2_with fail
    refine (HN.out _).mono ?_;rintro e w' ⟨rfl,rfl⟩
    go_wp2
    go_ret
    exact ⟨rfl,rfl⟩
  ·have hN':nameB s=false:=by simpa using hN
   rw [hN'] at hn ⊢
   have HN:=Lib.hid hn
   clear hn h0 hN hN'
   go_enter Tryz.func120,Tryz.ntmps120
   go_wp2_with fail
   refine (HN.out _).mono ?_;rintro e w' ⟨rfl,rfl⟩
   go_wp2
   go_ret
   exact ⟨rfl,rfl⟩


theorem node_any (nm:ByteArray) (a b c:Int)(A:Option Addr) (n cp:Nat)(l:List Lb)(w:World)(hnm:nm.size<=9223372036854775807)(hn:Hid (n=l.length))(hr:Hid (RdL w A l))(hz:Hid (Sz l))(hc:n<=cp)(hc2:cp<=9223372036854775807):Calls Tryz.prog 78 #[.agg #[.string nm,.int .i64 a,.int .i64 b,.int .i64 c,.slice A n cp]] w fun e w'=>e = .returned (.bool (nodeB nm a b c l))/\Below w.heap.size w w':=by
 have k1:=fun W=>name_any nm W hnm
 have k2:=fun W=>right_any a b c W
 have k3:=fun W (h:RdL W A l)=>labels_any A n cp l W hn (Lib.hid h) hz hc hc2
 by_cases c1:nameB nm=true
 case neg=>
  have c1x:nameB nm=false:=by simpa using c1
  have hres:nodeB nm a b c l=false:=by unfold nodeB;rw [c1x];simp
  rw [c1x] at k1
  rw [hres]
  have HK1:=Lib.hid k1
  clear hres k1 k2 k3 c1 c1x
  go_enter Tryz.func78,Tryz.ntmps78
  go_wp2_with fail
  refine (HK1.out _).mono ?_;rintro e w' ⟨rfl,rfl⟩
  go_wp2
  go_ret
  exact ⟨rfl,bel⟩
 case pos=>
  rw [c1] at k1
  by_cases c2:rB a b c=true
  case neg=>
   have c2x:rB a b c=false:=by simpa using c2
   have hres:nodeB nm a b c l=false:=by unfold nodeB;rw [c2x];simp
   rw [c2x] at k2
   rw [hres]
   have HK1:=Lib.hid k1
   have HK2:=Lib.hid k2
   clear hres k1 k2 k3 c1 c2 c2x
   go_enter Tryz.func78,Tryz.ntmps78
   go_wp2_with fail
   refine (HK1.out _).mono ?_;rintro e w' ⟨rfl,rfl⟩
   go_wp2_with fail
   refine (HK2.out _).mono ?_;rintro e w1 ⟨rfl,hb1⟩
   obtain ⟨hc1,hf1⟩:=bcell hb1;have hz1:w.heap.size<w1.heap.size:=by have h:=hb1.size;(try simp only [World.size_alloc] at h);omega
   go_wp2
   go_ret
   exact ⟨rfl,bel⟩
  case pos=>
   rw [c2] at k2
   by_cases c3:labelsB l=true
   case neg=>
    have c3x:labelsB l=false:=by simpa using c3
    have hres:nodeB nm a b c l=false:=by unfold nodeB;rw [c3x];simp
    rw [c3x] at k3
    rw [hres]
    have HK1:=Lib.hid k1
    have HK2:=Lib.hid k2
    have HK3:=Lib.hid k3
    clear hres k1 k2 k3 c1 c2 c3 c3x
    go_enter Tryz.func78,Tryz.ntmps78
    go_wp2_with fail
    refine (HK1.out _).mono ?_;rintro e w' ⟨rfl,rfl⟩
    go_wp2_with fail
    refine (HK2.out _).mono ?_;rintro e w1 ⟨rfl,hb1⟩
    obtain ⟨hc1,hf1⟩:=bcell hb1;have hz1:w.heap.size<w1.heap.size:=by have h:=hb1.size;(try simp only [World.size_alloc] at h);omega
    go_wp2_with fail
    refine (HK3.out _ (hr.out.later bel)).mono ?_;rintro e w2 ⟨rfl,hb2⟩
    obtain ⟨hc2,hf2⟩:=bcell hb2;have hz2:w.heap.size<w2.heap.size:=by have h:=hb2.size;(try simp only [World.size_alloc] at h);omega
    go_wp2
    go_ret
    exact ⟨rfl,bel⟩
   case pos=>
    rw [c3] at k3
    have hres:nodeB nm a b c l=true:=by unfold nodeB;rw [c1,c2,c3];rfl
    rw [hres]
    have HK1:=Lib.hid k1
    have HK2:=Lib.hid k2
    have HK3:=Lib.hid k3
    clear hres k1 c1 k2 c2 k3 c3
    go_enter Tryz.func78,Tryz.ntmps78
    go_wp2_with fail
    refine (HK1.out _).mono ?_;rintro e w' ⟨rfl,rfl⟩
    go_wp2_with fail
    refine (HK2.out _).mono ?_;rintro e w1 ⟨rfl,hb1⟩
    obtain ⟨hc1,hf1⟩:=bcell hb1;have hz1:w.heap.size<w1.heap.size:=by have h:=hb1.size;(try simp only [World.size_alloc] at h);omega
    go_wp2_with fail
    refine (HK3.out _ (hr.out.later bel)).mono ?_;rintro e w2 ⟨rfl,hb2⟩
    obtain ⟨hc2,hf2⟩:=bcell hb2;have hz2:w.heap.size<w2.heap.size:=by have h:=hb2.size;(try simp only [World.size_alloc] at h);omega
    go_wp2
    go_ret
    exact ⟨rfl,bel⟩


theorem queue_any (nm:ByteArray) (a b c:Int)(w:World)(hnm:nm.size<=9223372036854775807):Calls Tryz.prog 79 #[.agg #[.string nm,.int .i64 a,.int .i64 b,.int .i64 c]] w fun e w'=>e = .returned (.bool (queueB nm a b c))/\Below w.heap.size w w':=by
 have k1:=fun W=>name_any nm W hnm
 have k2:=fun W=>right_any a b c W
 by_cases c1:nameB nm=true
 case neg=>
  have c1x:nameB nm=false:=by simpa using c1
  have hres:queueB nm a b c=false:=by unfold queueB;rw [c1x];simp
  rw [c1x] at k1
  rw [hres]
  have HK1:=Lib.hid k1
  clear hres k1 k2 c1 c1x
  go_enter Tryz.func79,Tryz.ntmps79
  go_wp2_with fail
  refine (HK1.out _).mono ?_;rintro e w' ⟨rfl,rfl⟩
  go_wp2
  go_ret
  exact ⟨rfl,bel⟩
 case pos=>
  rw [c1] at k1
  by_cases c2:rB a b c=true
  case neg=>
   have c2x:rB a b c=false:=by simpa using c2
   have hres:queueB nm a b c=false:=by unfold queueB;rw [c2x];simp
   rw [c2x] at k2
   rw [hres]
   have HK1:=Lib.hid k1
   have HK2:=Lib.hid k2
   clear hres k1 k2 c1 c2 c2x
   go_enter Tryz.func79,Tryz.ntmps79
   go_wp2_with fail
   refine (HK1.out _).mono ?_;rintro e w' ⟨rfl,rfl⟩
   go_wp2_with fail
   refine (HK2.out _).mono ?_;rintro e w1 ⟨rfl,hb1⟩
   obtain ⟨hc1,hf1⟩:=bcell hb1;have hz1:w.heap.size<w1.heap.size:=by have h:=hb1.size;(try simp only [World.size_alloc] at h);omega
   go_wp2
   go_ret
   exact ⟨rfl,bel⟩
  case pos=>
   rw [c2] at k2
   have hres:queueB nm a b c=true:=by unfold queueB;rw [c1,c2];rfl
   rw [hres]
   have HK1:=Lib.hid k1
   have HK2:=Lib.hid k2
   clear hres k1 c1 k2 c2
   go_enter Tryz.func79,Tryz.ntmps79
   go_wp2_with fail
   refine (HK1.out _).mono ?_;rintro e w' ⟨rfl,rfl⟩
   go_wp2_with fail
   refine (HK2.out _).mono ?_;rintro e w1 ⟨rfl,hb1⟩
   obtain ⟨hc1,hf1⟩:=bcell hb1;have hz1:w.heap.size<w1.heap.size:=by have h:=hb1.size;(try simp only [World.size_alloc] at h);omega
   go_wp2
   go_ret
   exact ⟨rfl,bel⟩


theorem task_any (nm qu:ByteArray) (pr a b c:Int)(A:Option Addr) (n cp:Nat)(l:List Lb)(ap ga:ByteArray) (sz:Int)(w:World)(hnm:nm.size<=9223372036854775807)(hqu:qu.size<=9223372036854775807)(hn:Hid (n=l.length))(hr:Hid (RdL w A l))(hz:Hid (Sz l))(hc:n<=cp)(hc2:cp<=9223372036854775807)(hap:ap.size<=9223372036854775807)(hga:ga.size<=9223372036854775807):Calls Tryz.prog 80 #[.agg #[.string nm,.string qu,.int .i64 pr,.int .i64 a,.int .i64 b,.int .i64 c,.slice A n cp,.string ap,.string ga,.int .i64 sz]] w fun e w'=>e = .returned (.bool (taskB nm qu pr a b c l ap ga sz))/\Below w.heap.size w w':=by
 have k1:=fun W=>name_any nm W hnm
 have k2:=fun W=>name_any qu W hqu
 have k5:=fun W=>right_any a b c W
 have k6:=fun W (h:RdL W A l)=>labels_any A n cp l W hn (Lib.hid h) hz hc hc2
 have k7:=fun W=>apart_any ap W hap
 have k8:=fun W=>gang_any ga sz W hga
 by_cases c1:nameB nm=true
 case neg=>
  have c1x:nameB nm=false:=by simpa using c1
  have hres:taskB nm qu pr a b c l ap ga sz=false:=by unfold taskB;rw [c1x];simp
  rw [c1x] at k1
  rw [hres]
  have HK1:=Lib.hid k1
  clear hres k1 k2 k5 k6 k7 k8 c1 c1x
  go_enter Tryz.func80,Tryz.ntmps80
  go_wp2_with fail
  refine (HK1.out _).mono ?_;rintro e w' ⟨rfl,rfl⟩
  go_wp2
  go_ret
  exact ⟨rfl,bel⟩
 case pos=>
  rw [c1] at k1
  by_cases c2:nameB qu=true
  case neg=>
   have c2x:nameB qu=false:=by simpa using c2
   have hres:taskB nm qu pr a b c l ap ga sz=false:=by unfold taskB;rw [c2x];simp
   rw [c2x] at k2
   rw [hres]
   have HK1:=Lib.hid k1
   have HK2:=Lib.hid k2
   clear hres k1 k2 k5 k6 k7 k8 c1 c2 c2x
   go_enter Tryz.func80,Tryz.ntmps80
   go_wp2_with fail
   refine (HK1.out _).mono ?_;rintro e w' ⟨rfl,rfl⟩
   go_wp2_with fail
   refine (HK2.out _).mono ?_;rintro e w' ⟨rfl,rfl⟩
   go_wp2
   go_ret
   exact ⟨rfl,bel⟩
  case pos=>
   rw [c2] at k2
   by_cases c3:0<=pr
   case neg=>
    have hres:taskB nm qu pr a b c l ap ga sz=false:=by unfold taskB;rw [show decide (0<=pr)=false from decide_eq_false c3];simp
    rw [hres]
    have HK1:=Lib.hid k1
    have HK2:=Lib.hid k2
    clear hres k1 k2 k5 k6 k7 k8 c1 c2
    go_enter Tryz.func80,Tryz.ntmps80
    go_wp2_with fail
    refine (HK1.out _).mono ?_;rintro e w' ⟨rfl,rfl⟩
    go_wp2_with fail
    refine (HK2.out _).mono ?_;rintro e w' ⟨rfl,rfl⟩
    go_wp2
    go_ret
    exact ⟨rfl,bel⟩
   case pos=>
    by_cases c4:pr<=9
    case neg=>
     have hres:taskB nm qu pr a b c l ap ga sz=false:=by unfold taskB;rw [show decide (pr<=9)=false from decide_eq_false c4];simp
     rw [hres]
     have HK1:=Lib.hid k1
     have HK2:=Lib.hid k2
     clear hres k1 k2 k5 k6 k7 k8 c1 c2
     go_enter Tryz.func80,Tryz.ntmps80
     go_wp2_with fail
     refine (HK1.out _).mono ?_;rintro e w' ⟨rfl,rfl⟩
     go_wp2_with fail
     refine (HK2.out _).mono ?_;rintro e w' ⟨rfl,rfl⟩
     go_wp2
     go_ret
     exact ⟨rfl,bel⟩
    case pos=>
     by_cases c5:rB a b c=true
     case neg=>
      have c5x:rB a b c=false:=by simpa using c5
      have hres:taskB nm qu pr a b c l ap ga sz=false:=by unfold taskB;rw [c5x];simp
      rw [c5x] at k5
      rw [hres]
      have HK1:=Lib.hid k1
      have HK2:=Lib.hid k2
      have HK5:=Lib.hid k5
      clear hres k1 k2 k5 k6 k7 k8 c1 c2 c5 c5x
      go_enter Tryz.func80,Tryz.ntmps80
      go_wp2_with fail
      refine (HK1.out _).mono ?_;rintro e w' ⟨rfl,rfl⟩
      go_wp2_with fail
      refine (HK2.out _).mono ?_;rintro e w' ⟨rfl,rfl⟩
      go_wp2_with fail
      refine (HK5.out _).mono ?_;rintro e w1 ⟨rfl,hb1⟩
      obtain ⟨hc1,hf1⟩:=bcell hb1;have hz1:w.heap.size<w1.heap.size:=by have h:=hb1.size;(try simp only [World.size_alloc] at h);omega
      go_wp2
      go_ret
      exact ⟨rfl,bel⟩
     case pos=>
      rw [c5] at k5
      by_cases c6:labelsB l=true
      case neg=>
       have c6x:labelsB l=false:=by simpa using c6
       have hres:taskB nm qu pr a b c l ap ga sz=false:=by unfold taskB;rw [c6x];simp
       rw [c6x] at k6
       rw [hres]
       have HK1:=Lib.hid k1
       have HK2:=Lib.hid k2
       have HK5:=Lib.hid k5
       have HK6:=Lib.hid k6
       clear hres k1 k2 k5 k6 k7 k8 c1 c2 c5 c6 c6x
       go_enter Tryz.func80,Tryz.ntmps80
       go_wp2_with fail
       refine (HK1.out _).mono ?_;rintro e w' ⟨rfl,rfl⟩
       go_wp2_with fail
       refine (HK2.out _).mono ?_;rintro e w' ⟨rfl,rfl⟩
       go_wp2_with fail
       refine (HK5.out _).mono ?_;rintro e w1 ⟨rfl,hb1⟩
       obtain ⟨hc1,hf1⟩:=bcell hb1;have hz1:w.heap.size<w1.heap.size:=by have h:=hb1.size;(try simp only [World.size_alloc] at h);omega
       go_wp2_with fail
       refine (HK6.out _ (hr.out.later bel)).mono ?_;rintro e w2 ⟨rfl,hb2⟩
       obtain ⟨hc2,hf2⟩:=bcell hb2;have hz2:w.heap.size<w2.heap.size:=by have h:=hb2.size;(try simp only [World.size_alloc] at h);omega
       go_wp2
       go_ret
       exact ⟨rfl,bel⟩
      case pos=>
       rw [c6] at k6
       by_cases c7:apartB ap=true
       case neg=>
        have c7x:apartB ap=false:=by simpa using c7
        have hres:taskB nm qu pr a b c l ap ga sz=false:=by unfold taskB;rw [c7x];simp
        rw [c7x] at k7
        rw [hres]
        have HK1:=Lib.hid k1
        have HK2:=Lib.hid k2
        have HK5:=Lib.hid k5
        have HK6:=Lib.hid k6
        have HK7:=Lib.hid k7
        clear hres k1 k2 k5 k6 k7 k8 c1 c2 c5 c6 c7 c7x
        go_enter Tryz.func80,Tryz.ntmps80
        go_wp2_with fail
        refine (HK1.out _).mono ?_;rintro e w' ⟨rfl,rfl⟩
        go_wp2_with fail
        refine (HK2.out _).mono ?_;rintro e w' ⟨rfl,rfl⟩
        go_wp2_with fail
        refine (HK5.out _).mono ?_;rintro e w1 ⟨rfl,hb1⟩
        obtain ⟨hc1,hf1⟩:=bcell hb1;have hz1:w.heap.size<w1.heap.size:=by have h:=hb1.size;(try simp only [World.size_alloc] at h);omega
        go_wp2_with fail
        refine (HK6.out _ (hr.out.later bel)).mono ?_;rintro e w2 ⟨rfl,hb2⟩
        obtain ⟨hc2,hf2⟩:=bcell hb2;have hz2:w.heap.size<w2.heap.size:=by have h:=hb2.size;(try simp only [World.size_alloc] at h);omega
        go_wp2_with fail
        refine (HK7.out _).mono ?_;rintro e w' ⟨rfl,rfl⟩
        go_wp2
        go_ret
        exact ⟨rfl,bel⟩
       case pos=>
        rw [c7] at k7
        by_cases c8:gangB ga sz=true
        case neg=>
         have c8x:gangB ga sz=false:=by simpa using c8
         have hres:taskB nm qu pr a b c l ap ga sz=false:=by unfold taskB;rw [c8x];simp
         rw [c8x] at k8
         rw [hres]
         have HK1:=Lib.hid k1
         have HK2:=Lib.hid k2
         have HK5:=Lib.hid k5
         have HK6:=Lib.hid k6
         have HK7:=Lib.hid k7
         have HK8:=Lib.hid k8
         clear hres k1 k2 k5 k6 k7 k8 c1 c2 c5 c6 c7 c8 c8x
         go_enter Tryz.func80,Tryz.ntmps80
         go_wp2_with fail
         refine (HK1.out _).mono ?_;rintro e w' ⟨rfl,rfl⟩
         go_wp2_with fail
         refine (HK2.out _).mono ?_;rintro e w' ⟨rfl,rfl⟩
         go_wp2_with fail
         refine (HK5.out _).mono ?_;rintro e w1 ⟨rfl,hb1⟩
         obtain ⟨hc1,hf1⟩:=bcell hb1;have hz1:w.heap.size<w1.heap.size:=by have h:=hb1.size;(try simp only [World.size_alloc] at h);omega
         go_wp2_with fail
         refine (HK6.out _ (hr.out.later bel)).mono ?_;rintro e w2 ⟨rfl,hb2⟩
         obtain ⟨hc2,hf2⟩:=bcell hb2;have hz2:w.heap.size<w2.heap.size:=by have h:=hb2.size;(try simp only [World.size_alloc] at h);omega
         go_wp2_with fail
         refine (HK7.out _).mono ?_;rintro e w' ⟨rfl,rfl⟩
         go_wp2_with fail
         refine (HK8.out _).mono ?_;rintro e w' ⟨rfl,rfl⟩
         go_wp2
         go_ret
         exact ⟨rfl,bel⟩
        case pos=>
         rw [c8] at k8
         have hres:taskB nm qu pr a b c l ap ga sz=true:=by unfold taskB;rw [c1,c2,show decide (0<=pr)=true from decide_eq_true c3,show decide (pr<=9)=true from decide_eq_true c4,c5,c6,c7,c8];rfl
         rw [hres]
         have HK1:=Lib.hid k1
         have HK2:=Lib.hid k2
         have HK5:=Lib.hid k5
         have HK6:=Lib.hid k6
         have HK7:=Lib.hid k7
         have HK8:=Lib.hid k8
         clear hres k1 c1 k2 c2 k5 c5 k6 c6 k7 c7 k8 c8
         go_enter Tryz.func80,Tryz.ntmps80
         go_wp2_with fail
         refine (HK1.out _).mono ?_;rintro e w' ⟨rfl,rfl⟩
         go_wp2_with fail
         refine (HK2.out _).mono ?_;rintro e w' ⟨rfl,rfl⟩
         go_wp2_with fail
         refine (HK5.out _).mono ?_;rintro e w1 ⟨rfl,hb1⟩
         obtain ⟨hc1,hf1⟩:=bcell hb1;have hz1:w.heap.size<w1.heap.size:=by have h:=hb1.size;(try simp only [World.size_alloc] at h);omega
         go_wp2_with fail
         refine (HK6.out _ (hr.out.later bel)).mono ?_;rintro e w2 ⟨rfl,hb2⟩
         obtain ⟨hc2,hf2⟩:=bcell hb2;have hz2:w.heap.size<w2.heap.size:=by have h:=hb2.size;(try simp only [World.size_alloc] at h);omega
         go_wp2_with fail
         refine (HK7.out _).mono ?_;rintro e w' ⟨rfl,rfl⟩
         go_wp2_with fail
         refine (HK8.out _).mono ?_;rintro e w' ⟨rfl,rfl⟩
         go_wp2
         go_ret
         exact ⟨rfl,bel⟩
end
section
open Go.RowKit
structure Ov where
 k:Int
 nn:ByteArray
 a1:Int
 b1:Int
 c1:Int
 l1:List Lb
 qn:ByteArray
 a2:Int
 b2:Int
 c2:Int
 tn:ByteArray
 tq:ByteArray
 tp:Int
 a3:Int
 b3:Int
 c3:Int
 l3:List Lb
 ta:ByteArray
 tg:ByteArray
 ts:Int
 s:ByteArray
def Ov.zero:Ov:=⟨0,⟨#[]⟩,0,0,0,[],⟨#[]⟩,0,0,0,⟨#[]⟩,⟨#[]⟩,0,0,0,0,[],⟨#[]⟩,⟨#[]⟩,0,⟨#[]⟩⟩
def blankN (nm:ByteArray) (a b c:Int)(l:List Lb):Bool:=sameNodeB nm a b c l ⟨#[]⟩ 0 0 0 []
def blankQ (nm:ByteArray) (a b c:Int):Bool:=sE nm ⟨#[]⟩ && eq3 a b c 0 0 0
def blankT (nm qu:ByteArray) (pr a b c:Int)(l:List Lb)(ap ga:ByteArray) (sz:Int):Bool:=sameTaskB nm qu pr a b c l ap ga sz ⟨#[]⟩ ⟨#[]⟩ 0 0 0 0 [] ⟨#[]⟩ ⟨#[]⟩ 0
def namedB (k:Int):Bool:=decide (k=2 ∨ k=4 ∨ k=6 ∨ k=7 ∨ k=8)
def Ov.zN (x:Ov):Bool:=blankN x.nn x.a1 x.b1 x.c1 x.l1
def Ov.zQ (x:Ov):Bool:=blankQ x.qn x.a2 x.b2 x.c2
def Ov.zT (x:Ov):Bool:=blankT x.tn x.tq x.tp x.a3 x.b3 x.c3 x.l3 x.ta x.tg x.ts
def Ov.zS (x:Ov):Bool:=sE x.s ⟨#[]⟩
def Ov.vN (x:Ov):Bool:=nodeB x.nn x.a1 x.b1 x.c1 x.l1
def Ov.vQ (x:Ov):Bool:=queueB x.qn x.a2 x.b2 x.c2
def Ov.vT (x:Ov):Bool:=taskB x.tn x.tq x.tp x.a3 x.b3 x.c3 x.l3 x.ta x.tg x.ts
def Ov.blank (x:Ov):Bool:=x.zN && x.zQ && x.zT && x.zS
def opB (x:Ov):Bool:=
 if x.k=1 then x.vN && x.zQ && x.zT && x.zS
 else if x.k=3 then x.vQ && x.zN && x.zT && x.zS
 else if x.k=5 then x.vT && x.zN && x.zQ && x.zS
 else if namedB x.k then nameB x.s && x.zN && x.zQ && x.zT
 else if x.k=9 then x.zN && x.zQ && x.zT && x.zS
 else false
theorem opB_1 {x:Ov}(h:x.k=1):opB x=(x.vN && x.zQ && x.zT && x.zS):=if_pos h
theorem opB_3 {x:Ov}(h:x.k=3):opB x=(x.vQ && x.zN && x.zT && x.zS):=by unfold opB;rw [h];rfl
theorem opB_5 {x:Ov}(h:x.k=5):opB x=(x.vT && x.zN && x.zQ && x.zS):=by unfold opB;rw [h];rfl
theorem opB_9 {x:Ov}(h:x.k=9):opB x=(x.zN && x.zQ && x.zT && x.zS):=by unfold opB;rw [h];rfl
theorem opB_nm {x:Ov}(h:x.k=2 ∨ x.k=4 ∨ x.k=6 ∨ x.k=7 ∨ x.k=8):opB x=(nameB x.s && x.zN && x.zQ && x.zT):=by
 unfold opB
 rcases h with h | h | h | h | h <;> (rw [h];rfl)
theorem opB_no {x:Ov}(h:¬ (1<=x.k/\x.k<=9)):opB x=false:=by
 unfold opB namedB
 rw [if_neg (by omega),if_neg (by omega),if_neg (by omega),decide_eq_false (by omega),if_neg (by simp),if_neg (by omega)]
end
section
open Go.RowKit
theorem sE_full {s:ByteArray}(h:¬ s.size=0):sE s ⟨#[]⟩=false:=by
 cases hs:sE s ⟨#[]⟩ with
 | false=>rfl
 | true=>exact absurd (by rw [sE_iff.1 hs];rfl) h
theorem sE_none:sE ⟨#[]⟩ ⟨#[]⟩=true:=sE_refl _
theorem sameB_none {l:List Lb}(h:l.length=0):sameB l []=true:=decide_eq_true (List.eq_nil_of_length_eq_zero h)
theorem sameB_full {l:List Lb}(h:¬ l.length=0):sameB l []=false:=decide_eq_false fun e=>h (by rw [e];rfl)


theorem isBlankNode_any (nm:ByteArray) (a b c:Int)(A:Option Addr) (n cp:Nat)(l:List Lb)(w:World)(hn:Hid (n=l.length))(hc:n<=cp)(hc2:cp<=9223372036854775807):Calls Tryz.prog 122 #[.agg #[.string nm,.int .i64 a,.int .i64 b,.int .i64 c,.slice A n cp]] w fun e w'=>e = .returned (.bool (blankN nm a b c l))/\Below w.heap.size w w':=by
 by_cases h0:nm.size=0
 case neg=>
  have hx:=sE_full h0
  have hres:blankN nm a b c l=false:=by unfold blankN sameNodeB;rw [hx];simp
  rw [hres]
  obtain ⟨f1,f2⟩:=full_of h0
  clear hx hres h0
  go_enter Tryz.func122,Tryz.ntmps122
  go_wp2
  go_ret
  exact ⟨rfl,bel⟩
 case pos=>
  obtain rfl:=empty_of h0
  clear h0
  by_cases h1:eq3 a b c 0 0 0=true
  case neg=>
   have hx:eq3 a b c 0 0 0=false:=by simpa using h1
   have hres:blankN ⟨#[]⟩ a b c l=false:=by unfold blankN sameNodeB;rw [hx];simp
   rw [hres]
   clear hres h1
   go_enter Tryz.func122,Tryz.ntmps122
   go_wp2
   go_ret
   exact ⟨rfl,bel⟩
  case pos=>
   by_cases h2:n=0
   case neg=>
    have hx:=sameB_full (l:=l) (by have:=hn.out;omega)
    have hres:blankN ⟨#[]⟩ a b c l=false:=by unfold blankN sameNodeB;rw [hx];simp
    rw [hres]
    have hy:((n:Int) == 0)=false:=by simp;omega
    clear hres hx h2
    go_enter Tryz.func122,Tryz.ntmps122
    go_wp2
    go_ret
    exact ⟨rfl,bel⟩
   case pos=>
    have hx2:=sameB_none (l:=l) (by have:=hn.out;omega)
    subst h2
    have hres:blankN ⟨#[]⟩ a b c l=true:=by unfold blankN sameNodeB;rw [sE_none,h1,hx2];rfl
    rw [hres]
    clear hres hx2
    go_enter Tryz.func122,Tryz.ntmps122
    go_wp2
    go_ret
    exact ⟨rfl,bel⟩


theorem isBlankTask_any (nm qu:ByteArray) (pr a b c:Int)(A:Option Addr) (n cp:Nat)(l:List Lb)(ap ga:ByteArray) (sz:Int)(w:World)(hn:Hid (n=l.length))(hc:n<=cp)(hc2:cp<=9223372036854775807):Calls Tryz.prog 123 #[.agg #[.string nm,.string qu,.int .i64 pr,.int .i64 a,.int .i64 b,.int .i64 c,.slice A n cp,.string ap,.string ga,.int .i64 sz]] w fun e w'=>e = .returned (.bool (blankT nm qu pr a b c l ap ga sz))/\Below w.heap.size w w':=by
 by_cases h0:nm.size=0
 case neg=>
  have hx:=sE_full h0
  have hres:blankT nm qu pr a b c l ap ga sz=false:=by unfold blankT sameTaskB;rw [hx];simp
  rw [hres]
  obtain ⟨f1,f2⟩:=full_of h0
  clear hx hres h0
  go_enter Tryz.func123,Tryz.ntmps123
  go_wp2
  go_ret
  exact ⟨rfl,bel⟩
 case pos=>
  obtain rfl:=empty_of h0
  clear h0
  by_cases h1:qu.size=0
  case neg=>
   have hx:=sE_full h1
   have hres:blankT ⟨#[]⟩ qu pr a b c l ap ga sz=false:=by unfold blankT sameTaskB;rw [hx];simp
   rw [hres]
   obtain ⟨f1,f2⟩:=full_of h1
   clear hx hres h1
   go_enter Tryz.func123,Tryz.ntmps123
   go_wp2
   go_ret
   exact ⟨rfl,bel⟩
  case pos=>
   obtain rfl:=empty_of h1
   clear h1
   by_cases h2:pr=0
   case neg=>
    have hx:(pr == 0)=false:=by simpa using h2
    have hres:blankT ⟨#[]⟩ ⟨#[]⟩ pr a b c l ap ga sz=false:=by unfold blankT sameTaskB;rw [hx];simp
    rw [hres]
    clear hres h2
    go_enter Tryz.func123,Tryz.ntmps123
    go_wp2
    go_ret
    exact ⟨rfl,bel⟩
   case pos=>
    subst h2
    by_cases h3:eq3 a b c 0 0 0=true
    case neg=>
     have hx:eq3 a b c 0 0 0=false:=by simpa using h3
     have hres:blankT ⟨#[]⟩ ⟨#[]⟩ 0 a b c l ap ga sz=false:=by unfold blankT sameTaskB;rw [hx];simp
     rw [hres]
     clear hres h3
     go_enter Tryz.func123,Tryz.ntmps123
     go_wp2
     go_ret
     exact ⟨rfl,bel⟩
    case pos=>
     by_cases h4:n=0
     case neg=>
      have hx:=sameB_full (l:=l) (by have:=hn.out;omega)
      have hres:blankT ⟨#[]⟩ ⟨#[]⟩ 0 a b c l ap ga sz=false:=by unfold blankT sameTaskB;rw [hx];simp
      rw [hres]
      have hy:((n:Int) == 0)=false:=by simp;omega
      clear hres hx h4
      go_enter Tryz.func123,Tryz.ntmps123
      go_wp2
      go_ret
      exact ⟨rfl,bel⟩
     case pos=>
      have hx4:=sameB_none (l:=l) (by have:=hn.out;omega)
      subst h4
      by_cases h5:ap.size=0
      case neg=>
       have hx:=sE_full h5
       have hres:blankT ⟨#[]⟩ ⟨#[]⟩ 0 a b c l ap ga sz=false:=by unfold blankT sameTaskB;rw [hx];simp
       rw [hres]
       obtain ⟨f1,f2⟩:=full_of h5
       clear hx hres h5
       go_enter Tryz.func123,Tryz.ntmps123
       go_wp2
       go_ret
       exact ⟨rfl,bel⟩
      case pos=>
       obtain rfl:=empty_of h5
       clear h5
       by_cases h6:ga.size=0
       case neg=>
        have hx:=sE_full h6
        have hres:blankT ⟨#[]⟩ ⟨#[]⟩ 0 a b c l ⟨#[]⟩ ga sz=false:=by unfold blankT sameTaskB;rw [hx];simp
        rw [hres]
        obtain ⟨f1,f2⟩:=full_of h6
        clear hx hres h6
        go_enter Tryz.func123,Tryz.ntmps123
        go_wp2
        go_ret
        exact ⟨rfl,bel⟩
       case pos=>
        obtain rfl:=empty_of h6
        clear h6
        by_cases h7:sz=0
        case neg=>
         have hx:(sz == 0)=false:=by simpa using h7
         have hres:blankT ⟨#[]⟩ ⟨#[]⟩ 0 a b c l ⟨#[]⟩ ⟨#[]⟩ sz=false:=by unfold blankT sameTaskB;rw [hx];simp
         rw [hres]
         clear hres h7
         go_enter Tryz.func123,Tryz.ntmps123
         go_wp2
         go_ret
         exact ⟨rfl,bel⟩
        case pos=>
         subst h7
         have hres:blankT ⟨#[]⟩ ⟨#[]⟩ 0 a b c l ⟨#[]⟩ ⟨#[]⟩ 0=true:=by unfold blankT sameTaskB;rw [sE_none,h3,hx4];rfl
         rw [hres]
         clear hres hx4
         go_enter Tryz.func123,Tryz.ntmps123
         go_wp2
         go_ret
         exact ⟨rfl,bel⟩
theorem run_guardB (op:BinOp)(x y:Operand)(xs ys:Array Value)(w:World):(eqGuard op 45 x y (.agg xs) (.agg ys)).run Tryz.prog w = .ok () w:=run_eqGuard_agg w op 45 x y xs ys (by kernel_rfl)
attribute [local go_sem] run_guardB


theorem isBlank_any (k:Int)(nn:ByteArray) (a1 b1 c1:Int)(A1:Option Addr) (m1 p1:Nat)(l1:List Lb)(qn:ByteArray) (a2 b2 c2:Int)(tn tq:ByteArray) (tp a3 b3 c3:Int)(A3:Option Addr) (m3 p3:Nat)(l3:List Lb)(ta tg:ByteArray) (ts:Int)(s:ByteArray)(w:World)(hn1:Hid (m1=l1.length))(hp1:m1<=p1)(hq1:p1<=9223372036854775807)(hn3:Hid (m3=l3.length))(hp3:m3<=p3)(hq3:p3<=9223372036854775807):Calls Tryz.prog 82 #[.agg #[.int .i64 k,.string nn,.int .i64 a1,.int .i64 b1,.int .i64 c1,.slice A1 m1 p1,.string qn,.int .i64 a2,.int .i64 b2,.int .i64 c2,.string tn,.string tq,.int .i64 tp,.int .i64 a3,.int .i64 b3,.int .i64 c3,.slice A3 m3 p3,.string ta,.string tg,.int .i64 ts,.string s]] w fun e w'=>e = .returned (.bool (Ov.blank ⟨k,nn,a1,b1,c1,l1,qn,a2,b2,c2,tn,tq,tp,a3,b3,c3,l3,ta,tg,ts,s⟩))/\Below w.heap.size w w':=by
 have hres:Ov.blank ⟨k,nn,a1,b1,c1,l1,qn,a2,b2,c2,tn,tq,tp,a3,b3,c3,l3,ta,tg,ts,s⟩=(blankN nn a1 b1 c1 l1 && blankQ qn a2 b2 c2 && blankT tn tq tp a3 b3 c3 l3 ta tg ts && sE s ⟨#[]⟩):=rfl
 rw [hres]
 have k1:=fun W=>isBlankNode_any nn a1 b1 c1 A1 m1 p1 l1 W hn1 hp1 hq1
 have k3:=fun W=>isBlankTask_any tn tq tp a3 b3 c3 A3 m3 p3 l3 ta tg ts W hn3 hp3 hq3
 have k2:∀ W,(binOp .eql 45 (.agg #[.string qn,.int .i64 a2,.int .i64 b2,.int .i64 c2]) (.agg #[.string ⟨#[]⟩,.int .i64 0,.int .i64 0,.int .i64 0])).run Tryz.prog W = .ok (.bool (blankQ qn a2 b2 c2)) W:=fun W=>eql_queue_any qn ⟨#[]⟩ a2 b2 c2 0 0 0 W
 generalize blankN nn a1 b1 c1 l1=r1 at k1 ⊢
 generalize blankQ qn a2 b2 c2=r2 at k2 ⊢
 generalize blankT tn tq tp a3 b3 c3 l3 ta tg ts=r3 at k3 ⊢
 have K1:=Lib.hid k1
 have K3:=Lib.hid k3
 clear hres k1 k3
 cases r1
 case false=>
  simp only [Bool.true_and,Bool.false_and,Bool.and_true,Bool.and_false]
  go_enter Tryz.func82,Tryz.ntmps82
  go_wp2_with fail
  refine (K1.out _).mono ?_
  rintro e w1 ⟨rfl,hb1⟩
  obtain ⟨hc1,hf1⟩:=bcell hb1;have hz1:w.heap.size<w1.heap.size:=by have h:=hb1.size;(try simp only [World.size_alloc] at h);omega
  go_wp2
  go_ret
  exact ⟨rfl,bel⟩
 case true=>
  cases r2
  case false=>
   simp only [Bool.true_and,Bool.false_and,Bool.and_true,Bool.and_false]
   go_enter Tryz.func82,Tryz.ntmps82
   go_wp2_with fail
   refine (K1.out _).mono ?_
   rintro e w1 ⟨rfl,hb1⟩
   obtain ⟨hc1,hf1⟩:=bcell hb1;have hz1:w.heap.size<w1.heap.size:=by have h:=hb1.size;(try simp only [World.size_alloc] at h);omega
   go_wp2
   go_ret
   exact ⟨rfl,bel⟩
  case true=>
   cases r3
   case false=>
    simp only [Bool.true_and,Bool.false_and,Bool.and_true,Bool.and_false]
    go_enter Tryz.func82,Tryz.ntmps82
    go_wp2_with fail
    refine (K1.out _).mono ?_
    rintro e w1 ⟨rfl,hb1⟩
    obtain ⟨hc1,hf1⟩:=bcell hb1;have hz1:w.heap.size<w1.heap.size:=by have h:=hb1.size;(try simp only [World.size_alloc] at h);omega
    go_wp2_with fail
    refine (K3.out _).mono ?_
    rintro e w2 ⟨rfl,hb2⟩
    obtain ⟨hc2,hf2⟩:=bcell hb2;have hz2:w.heap.size<w2.heap.size:=by have h:=hb2.size;(try simp only [World.size_alloc] at h);omega
    go_wp2
    go_ret
    exact ⟨rfl,bel⟩
   case true=>
    by_cases h:s.size=0
    case pos=>
     obtain rfl:=empty_of h
     rw [sE_none]
     clear h
     simp only [Bool.true_and,Bool.false_and,Bool.and_true,Bool.and_false]
     go_enter Tryz.func82,Tryz.ntmps82
     go_wp2_with fail
     refine (K1.out _).mono ?_
     rintro e w1 ⟨rfl,hb1⟩
     obtain ⟨hc1,hf1⟩:=bcell hb1;have hz1:w.heap.size<w1.heap.size:=by have h:=hb1.size;(try simp only [World.size_alloc] at h);omega
     go_wp2_with fail
     refine (K3.out _).mono ?_
     rintro e w2 ⟨rfl,hb2⟩
     obtain ⟨hc2,hf2⟩:=bcell hb2;have hz2:w.heap.size<w2.heap.size:=by have h:=hb2.size;(try simp only [World.size_alloc] at h);omega
     go_wp2
     go_ret
     exact ⟨rfl,bel⟩
    case neg=>
     rw [sE_full h]
     obtain ⟨f1,f2⟩:=full_of h
     clear h
     simp only [Bool.true_and,Bool.false_and,Bool.and_true,Bool.and_false]
     go_enter Tryz.func82,Tryz.ntmps82
     go_wp2_with fail
     refine (K1.out _).mono ?_
     rintro e w1 ⟨rfl,hb1⟩
     obtain ⟨hc1,hf1⟩:=bcell hb1;have hz1:w.heap.size<w1.heap.size:=by have h:=hb1.size;(try simp only [World.size_alloc] at h);omega
     go_wp2_with fail
     refine (K3.out _).mono ?_
     rintro e w2 ⟨rfl,hb2⟩
     obtain ⟨hc2,hf2⟩:=bcell hb2;have hz2:w.heap.size<w2.heap.size:=by have h:=hb2.size;(try simp only [World.size_alloc] at h);omega
     go_wp2
     go_ret
     exact ⟨rfl,bel⟩
end
end Go.Proofs.YtccccbofcnmdiaaGreat
