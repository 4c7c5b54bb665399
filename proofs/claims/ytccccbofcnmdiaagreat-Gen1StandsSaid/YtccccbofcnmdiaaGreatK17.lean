/- Lemmas that the law stands on. No condition. -/
import Derived.Test.YtccccbofcnmdiaaGreatK13
namespace Go.Proofs.YtccccbofcnmdiaaGreat
set_option linter.unusedSimpArgs false
set_option linter.unusedVariables false
set_option maxRecDepth 100000
set_option maxHeartbeats 51200000
section
open Go.Shelf
def renC:Ren:=⟨fun x=>match x with | 6=>214 | 14=>222 | 15=>114 | 20=>226 | 21=>227 | 22=>228 | 23=>229 | 24=>230 | 25=>231 | 26=>232 | 27=>233 | 28=>154 | 29=>155 | 46=>237 | 47=>175 | 48=>176 | 49=>238 | 50=>239 | 57=>241 | n=>n,
 fun x=>match x with | 22=>242 | 24=>246 | 25=>247 | 3=>3 | 39=>74 | 0=>0 | 53=>184 | 55=>186 | 4=>4 | 46=>177 | 45=>176 | 50=>135 | 5=>5 | 9=>9 | 66=>204 | 70=>208 | 76=>221 | 77=>222 | n=>n,fun x=>x⟩

theorem layC:SlLaysF0.n6 Tryz.prog renC where
 mixed:=by kernel_rfl
 f6:=⟨Tryz.f214.name,by kernel_rfl,by kernel_rfl⟩
 f14:=⟨Tryz.f222.name,by kernel_rfl,by kernel_rfl⟩
 f15:=Tryz.func114.trans (congrArg some (by kernel_rfl))
 f20:=⟨Tryz.f226.name,by kernel_rfl,by kernel_rfl⟩
 f21:=⟨Tryz.f227.name,by kernel_rfl,by kernel_rfl⟩
 f22:=⟨Tryz.f228.name,by kernel_rfl,by kernel_rfl⟩
 f23:=⟨Tryz.f229.name,by kernel_rfl,by kernel_rfl⟩
 f24:=⟨Tryz.f230.name,by kernel_rfl,by kernel_rfl⟩
 f25:=⟨Tryz.f231.name,by kernel_rfl,by kernel_rfl⟩
 f26:=⟨Tryz.f232.name,by kernel_rfl,by kernel_rfl⟩
 f27:=⟨Tryz.f233.name,by kernel_rfl,by kernel_rfl⟩
 f28:=Tryz.func154.trans (congrArg some (by kernel_rfl))
 f29:=Tryz.func155.trans (congrArg some (by kernel_rfl))
 f46:=⟨Tryz.f237.name,by kernel_rfl,by kernel_rfl⟩
 f47:=Tryz.func175.trans (congrArg some (by kernel_rfl))
 f48:=Tryz.func176.trans (congrArg some (by kernel_rfl))
 f49:=⟨Tryz.f238.name,by kernel_rfl,by kernel_rfl⟩
 f50:=⟨Tryz.f239.name,by kernel_rfl,by kernel_rfl⟩
 f57:=⟨Tryz.f241.name,by kernel_rfl,by kernel_rfl⟩
 t0:=Tryz.underlying0
 a0:=Tryz.isAgg0
 z0:=Tryz.sizeOf0
 v0:=Tryz.zeroValue0
 t3:=Tryz.underlying3
 a3:=Tryz.isAgg3
 z3:=Tryz.sizeOf3
 v3:=Tryz.zeroValue3
 t4:=Tryz.underlying4
 a4:=Tryz.isAgg4
 z4:=Tryz.sizeOf4
 v4:=Tryz.zeroValue4
 t5:=Tryz.underlying5
 a5:=Tryz.isAgg5
 z5:=Tryz.sizeOf5
 v5:=Tryz.zeroValue5
 t9:=Tryz.underlying9
 a9:=Tryz.isAgg9
 z9:=Tryz.sizeOf9
 v9:=Tryz.zeroValue9
 t22:=Tryz.underlying242
 a22:=Tryz.isAgg242
 z22:=Tryz.sizeOf242
 v22:=Tryz.zeroValue242
 t25:=Tryz.underlying247
 a25:=Tryz.isAgg247
 z25:=Tryz.sizeOf247
 v25:=Tryz.zeroValue247
 t39:=Tryz.underlying74
 a39:=Tryz.isAgg74
 z39:=Tryz.sizeOf74
 v39:=Tryz.zeroValue74
 t45:=Tryz.underlying176
 a45:=Tryz.isAgg176
 z45:=Tryz.sizeOf176
 v45:=Tryz.zeroValue176
 t46:=Tryz.underlying177
 a46:=Tryz.isAgg177
 z46:=Tryz.sizeOf177
 v46:=Tryz.zeroValue177
 t50:=Tryz.underlying135
 a50:=Tryz.isAgg135
 z50:=Tryz.sizeOf135
 v50:=Tryz.zeroValue135
 t53:=Tryz.underlying184
 a53:=Tryz.isAgg184
 z53:=Tryz.sizeOf184
 v53:=Tryz.zeroValue184
 t55:=Tryz.underlying186
 a55:=Tryz.isAgg186
 z55:=Tryz.sizeOf186
 v55:=Tryz.zeroValue186
 t66:=Tryz.underlying204
 a66:=Tryz.isAgg204
 z66:=Tryz.sizeOf204
 v66:=Tryz.zeroValue204
 t70:=Tryz.underlying208
 a70:=Tryz.isAgg208
 z70:=Tryz.sizeOf208
 v70:=Tryz.zeroValue208
 t76:=Tryz.underlying221
 a76:=Tryz.isAgg221
 z76:=Tryz.sizeOf221
 v76:=Tryz.zeroValue221
 t77:=Tryz.underlying222
 a77:=Tryz.isAgg222
 z77:=Tryz.sizeOf222
 v77:=Tryz.zeroValue222
end
section
open Go.RowKit
def cellsV (l:List (Int × Int × Int)):List (List Value):=l.map fun t=>[.int .i64 t.1,.int .i64 t.2.1,.int .i64 t.2.2]
theorem cellsV_append (l m:List (Int × Int × Int)):cellsV (l ++ m)=cellsV l ++ cellsV m:=by simp [cellsV]
theorem cellsV_length (l:List (Int × Int × Int)):(cellsV l).length=l.length:=by simp [cellsV]
theorem RdV.of {w:World}{A:Option Addr}{l:List (Int × Int × Int)}(h:RdK w 3 A (cellsV l)):RdV w A l:=fun i t ht=>by
 obtain ⟨g,o,ha,hr⟩:=h i [.int .i64 t.1,.int .i64 t.2.1,.int .i64 t.2.2] (by simp [cellsV,ht])
 exact ⟨g,o,ha,hr 0 _ rfl,hr 1 _ rfl,hr 2 _ rfl⟩
theorem infoV:(Tryz.prog.info? 40).map (fun i=>(i.zero,i.size,i.bytes))=some (some (.agg #[.int .i64 0,.int .i64 0,.int .i64 0]),3,24):=by kernel_rfl
section
variable {o:Oper}{a:Act}{w:World}{K:Act->World->Prop}{Q:Exit->Act->World->Prop}
end
end
section
open Go.RowKit

theorem sum_any (A:Option Addr) (n cap:Nat)(l:List (Int × Int × Int))(w:World)(hn:Hid (n=l.length))(hl:n<=9223372036854775807)(hA:Hid (RdV w A l)) (x y z v:Int)(hs:Hid (sm 0 0 0 l=(x,y,z,v))) :
  Calls Tryz.prog 63 #[.slice A n cap] w fun r w'=>r = .returned (.tuple #[.agg #[.int .i64 x,.int .i64 y,.int .i64 z],.int .i64 v])/\Below w.heap.size w w':=by
 go_enter Tryz.func63,Tryz.ntmps63
 go_wp2_with fail
 go_loopw [12] (fun i wr=>∃ (k:Nat) (p q r:Int),k<=n/\i = .int .i64 k/\sm p q r (l.drop k)=(x,y,z,v)/\Below w.heap.size w wr/\w.heap.size+1<wr.heap.size /\
   wr.cell? ⟨w.heap.size+1,0,none⟩=some (.int .i64 p)/\wr.cell? ⟨w.heap.size+1,1,none⟩=some (.int .i64 q)/\wr.cell? ⟨w.heap.size+1,2,none⟩=some (.int .i64 r) /\
   wr.frozen? ⟨w.heap.size+1,0,none⟩=false/\wr.frozen? ⟨w.heap.size+1,1,none⟩=false/\wr.frozen? ⟨w.heap.size+1,2,none⟩=false /\
   (∃ o0 o1 o2,wr.cell? ⟨w.heap.size,0,none⟩=some o0/\wr.cell? ⟨w.heap.size,1,none⟩=some o1/\wr.cell? ⟨w.heap.size,2,none⟩=some o2) /\
   wr.frozen? ⟨w.heap.size,0,none⟩=false/\wr.frozen? ⟨w.heap.size,1,none⟩=false/\wr.frozen? ⟨w.heap.size,2,none⟩=false) (fun i _=>n - (intOf i).toNat)
 case atStart=>
  exact ⟨0,0,0,0,Nat.zero_le _,rfl,by simpa using hs.out,by go_grown,by simp,by simp,by simp,by simp,by simp,by simp,by simp,⟨_,_,_,by simp;rfl,by simp;rfl,by simp;rfl⟩,by simp,by simp,by simp⟩
 case round=>
  obtain ⟨k,p,q,r,hk,rfl,hsm,hb1,hz,k10,k11,k12,m10,m11,m12,⟨o0,o1,o2,k00,k01,k02⟩,m00,m01,m02⟩:=hrel
  have HS:=Lib.hid hsm;clear hsm
  by_cases hlt:k<n
  ·obtain ⟨t,ht⟩:∃ t,l[k]? = some t:=⟨l[k]'(by rw [<- hn.out];exact hlt),List.getElem?_eq_getElem _⟩
   obtain ⟨g,o,ha,c0,c1,c2⟩:=(hA.out.below hb1) k t ht
   have HT:=Lib.hid ht;clear ht
   subst ha
   obtain ⟨d,e,f⟩:=t
   simp only at c0 c1 c2
   have hd:l.drop k=(d,e,f) :: l.drop (k+1):=by
    have hkl:k<l.length:=by rw [<- hn.out];exact hlt
    rw [List.drop_eq_getElem_cons hkl]
    have:=HT.out
    rw [List.getElem?_eq_getElem hkl,Option.some.injEq] at this
    rw [this]
   have HD:=Lib.hid hd;clear hd
   have lt0:w.heap.size<wr.heap.size:=by omega
   cases h:adB p q r d e f
   ·have hv:=adE_no h
    have hfin:=HS.out
    rw [HD.out,sm_no h] at hfin
    simp only [Prod.mk.injEq] at hfin
    obtain ⟨rfl,rfl,rfl,hfv⟩:=hfin
    rw [hfv] at hv
    have HH:=Lib.hid h;clear h
    have HV:=Lib.hid hfv;clear hfv
    rcases hv with rfl | rfl
    all_goals
     go_wp2_with fail
     refine (add_false HH.out HV.out _).mono ?_;rintro r' w2 ⟨rfl,hb2⟩
     have hs2:wr.heap.size+1<=w2.heap.size:=by have h:=hb2.size;simpa using h
     have lt2:w.heap.size<w2.heap.size:=by omega
     have lt3:w.heap.size+1<w2.heap.size:=by omega
     have j00:w2.cell? ⟨w.heap.size,0,none⟩=some o0:=cT hb2;have n00:w2.frozen? ⟨w.heap.size,0,none⟩=false:=fT hb2;have j01:w2.cell? ⟨w.heap.size,1,none⟩=some o1:=cT hb2;have n01:w2.frozen? ⟨w.heap.size,1,none⟩=false:=fT hb2;have j02:w2.cell? ⟨w.heap.size,2,none⟩=some o2:=cT hb2;have n02:w2.frozen? ⟨w.heap.size,2,none⟩=false:=fT hb2;have j10:w2.cell? ⟨w.heap.size+1,0,none⟩=some (.int .i64 p):=cT hb2;have n10:w2.frozen? ⟨w.heap.size+1,0,none⟩=false:=fT hb2;have j11:w2.cell? ⟨w.heap.size+1,1,none⟩=some (.int .i64 q):=cT hb2;have n11:w2.frozen? ⟨w.heap.size+1,1,none⟩=false:=fT hb2;have j12:w2.cell? ⟨w.heap.size+1,2,none⟩=some (.int .i64 r):=cT hb2;have n12:w2.frozen? ⟨w.heap.size+1,2,none⟩=false:=fT hb2
     clear k00 k01 k02 k10 k11 k12 m00 m01 m02 m10 m11 m12
     go_wp2_with fail
     first
      | exact bodyPost_ret (v:=.tuple #[.agg #[.int .i64 0,.int .i64 0,.int .i64 0],.int .i64 1]) (by simp [results,Tryz.results63,go_sem,lt0,lt2,lt3,j00,j01,j02,j10,j11,j12]) rfl ⟨rfl,by (repeat' (first | (with_reducible exact Below.refl _ _) | (with_reducible refine Below.drew ?_) | (with_reducible refine Below.setCell ?_ ?_ _) | (with_reducible refine Below.alloc ?_ ?_ _) | (with_reducible refine Below.trans ?_ (Below.mono hb1 ?_)) | (with_reducible refine Below.trans ?_ (Below.mono hb2 ?_)) | go_size))⟩
      | exact bodyPost_ret (v:=.tuple #[.agg #[.int .i64 0,.int .i64 0,.int .i64 0],.int .i64 6]) (by simp [results,Tryz.results63,go_sem,lt0,lt2,lt3,j00,j01,j02,j10,j11,j12]) rfl ⟨rfl,by (repeat' (first | (with_reducible exact Below.refl _ _) | (with_reducible refine Below.drew ?_) | (with_reducible refine Below.setCell ?_ ?_ _) | (with_reducible refine Below.alloc ?_ ?_ _) | (with_reducible refine Below.trans ?_ (Below.mono hb1 ?_)) | (with_reducible refine Below.trans ?_ (Below.mono hb2 ?_)) | go_size))⟩
   ·have hfin:=HS.out
    rw [HD.out,sm_ok h] at hfin
    have HF:=Lib.hid hfin;clear hfin
    have HH:=Lib.hid h;clear h
    go_wp2_with fail
    refine (add_true HH.out _).mono ?_;rintro r' w2 ⟨rfl,hb2⟩
    have hs2:wr.heap.size+1<=w2.heap.size:=by have h:=hb2.size;simpa using h
    have lt2:w.heap.size<w2.heap.size:=by omega
    have lt3:w.heap.size+1<w2.heap.size:=by omega
    have j00:w2.cell? ⟨w.heap.size,0,none⟩=some o0:=cT hb2;have n00:w2.frozen? ⟨w.heap.size,0,none⟩=false:=fT hb2;have j01:w2.cell? ⟨w.heap.size,1,none⟩=some o1:=cT hb2;have n01:w2.frozen? ⟨w.heap.size,1,none⟩=false:=fT hb2;have j02:w2.cell? ⟨w.heap.size,2,none⟩=some o2:=cT hb2;have n02:w2.frozen? ⟨w.heap.size,2,none⟩=false:=fT hb2;have j10:w2.cell? ⟨w.heap.size+1,0,none⟩=some (.int .i64 p):=cT hb2;have n10:w2.frozen? ⟨w.heap.size+1,0,none⟩=false:=fT hb2;have j11:w2.cell? ⟨w.heap.size+1,1,none⟩=some (.int .i64 q):=cT hb2;have n11:w2.frozen? ⟨w.heap.size+1,1,none⟩=false:=fT hb2;have j12:w2.cell? ⟨w.heap.size+1,2,none⟩=some (.int .i64 r):=cT hb2;have n12:w2.frozen? ⟨w.heap.size+1,2,none⟩=false:=fT hb2
    clear k00 k01 k02 k10 k11 k12 m00 m01 m02 m10 m11 m12
    go_wp2_with fail
    go_roundw
    case rel=>
     refine ⟨k+1,p+d,q+e,r+f,by omega,by go_num,HF.out,by (repeat' (first | (with_reducible exact Below.refl _ _) | (with_reducible refine Below.drew ?_) | (with_reducible refine Below.setCell ?_ ?_ _) | (with_reducible refine Below.alloc ?_ ?_ _) | (with_reducible refine Below.trans ?_ (Below.mono hb1 ?_)) | (with_reducible refine Below.trans ?_ (Below.mono hb2 ?_)) | go_size)),by go_size,?_,?_,?_,?_,?_,?_,⟨o0,o1,o2,?_,?_,?_⟩,?_,?_,?_⟩
     all_goals trace_state
     all_goals (first | (go_simp;done) | go_cell)
    case measure=>simp [intOf];omega
  ·have hk':k=n:=by omega
   subst hk'
   have hfin:=HS.out
   rw [hn.out,List.drop_length,sm_nil] at hfin
   simp only [Prod.mk.injEq] at hfin
   obtain ⟨rfl,rfl,rfl,rfl⟩:=hfin
   go_wp2_with fail
   exact bodyPost_ret (v:=.tuple #[.agg #[.int .i64 p,.int .i64 q,.int .i64 r],.int .i64 0]) (by simp [results,Tryz.results63,go_sem,k00,k01,k02]) rfl ⟨rfl,by (repeat' (first | (with_reducible exact Below.refl _ _) | (with_reducible refine Below.drew ?_) | (with_reducible refine Below.setCell ?_ ?_ _) | (with_reducible refine Below.alloc ?_ ?_ _) | (with_reducible refine Below.trans ?_ (Below.mono hb1 ?_)) | go_size))⟩
end
section
open Go.RowKit

theorem isOn_any (m:Mc)(j:Jb)(w:World):Calls Tryz.prog 62 #[.agg m.arr,.agg j.arr] w fun e w'=>e = .returned (.bool (sE j.nd m.nm))/\Below w.heap.size w w':=by
 obtain ⟨nm,qu,pr,a,b,c,A,n,cp,ap,ga,sz,sq,nd,bo⟩:=j
 obtain ⟨m0,m1,m2,m3,m4,m5,m6,m7,m8⟩:=m
 cases h:sE nd m0
 ·have h':(nd.toList == m0.toList)=false:=h
  clear h
  go_enter Tryz.func62,Tryz.ntmps62
  go_wp2
  go_ret
  exact ⟨rfl,bel⟩
 ·have h':(nd.toList == m0.toList)=true:=h
  clear h
  go_enter Tryz.func62,Tryz.ntmps62
  go_wp2
  go_ret
  exact ⟨rfl,bel⟩
def onM (s:ByteArray)(l:List Jb):List V3:=(l.filter fun j=>sE j.nd s).map Jb.need
theorem onM_take {s:ByteArray}{l:List Jb}{k:Nat}(h:k<l.length):onM s (l.take (k+1))=onM s (l.take k) ++ if sE l[k].nd s then [l[k].need] else []:=by
 rw [List.take_succ_eq_append_getElem h];simp only [onM,List.filter_append,List.map_append]
 cases he:sE l[k].nd s <;> simp [he]
theorem onM_len (s:ByteArray)(l:List Jb):(onM s l).length<=l.length:=by unfold onM;rw [List.length_map];exact List.length_filter_le _ _
theorem onM_append (s:ByteArray)(l m:List Jb):onM s (l ++ m)=onM s l ++ onM s m:=by simp [onM]
def fre (a b c x y z v:Int):Int × Int × Int × Int:=if v=0 then (kp (sbB a b c x y z) (a - x),kp (sbB a b c x y z) (b - y),kp (sbB a b c x y z) (c - z),sbE a b c x y z) else (0,0,0,v)
theorem fre_0 (a b c x y z:Int):fre a b c x y z 0=(kp (sbB a b c x y z) (a - x),kp (sbB a b c x y z) (b - y),kp (sbB a b c x y z) (c - z),sbE a b c x y z):=rfl
theorem fre_v {a b c x y z v:Int}(h:v ≠ 0):fre a b c x y z v=(0,0,0,v):=if_neg h

theorem free_any (m:Mc)(A:Option Addr) (n cap:Nat)(l:List Jb)(w:World)(hn:Hid (n=l.length))(hl:n<=1000000)(hA:Hid (RdJ w A l)) (x y z v:Int)(hs:Hid (sm 0 0 0 (onM m.nm l)=(x,y,z,v))) (p q r e:Int)(hr:Hid (fre m.a m.b m.c x y z v=(p,q,r,e))) :
  Calls Tryz.prog 25 #[.agg m.arr,.slice A n cap] w fun t w'=>t = .returned (.tuple #[.agg #[.int .i64 p,.int .i64 q,.int .i64 r],.int .i64 e])/\Below w.heap.size w w':=by
 go_enter Tryz.func25,Tryz.ntmps25
 have hM0:Bk ((w.alloc (.cells m.arr 60)).alloc (.cells #[.int .i64 0,.int .i64 0,.int .i64 0] 40)) w.heap.size 60 m.arr:=(Bk.fresh w _ _).later ((Below.refl _ _).alloc (Nat.le_refl _) _)
 have hR0:Bk ((w.alloc (.cells m.arr 60)).alloc (.cells #[.int .i64 0,.int .i64 0,.int .i64 0] 40)) (w.heap.size+1) 40 #[.int .i64 0,.int .i64 0,.int .i64 0]:=Bk.freshAt _ _ _ (by simp)
 have hB0:Below w.heap.size w ((w.alloc (.cells m.arr 60)).alloc (.cells #[.int .i64 0,.int .i64 0,.int .i64 0] 40)):=((Below.refl _ _).alloc (Nat.le_refl _) _).alloc (by simp) _
 have HM0:=Lib.hid hM0;clear hM0
 have HR0:=Lib.hid hR0;clear hR0
 go_wp2_with fail
 go_loopw [6,13] (fun v i wr=>∃ k:Nat,k<=n/\i = .int .i64 k/\Hid (OwnK wr (w.heap.size+2) 40 3 v (cellsV (onM m.nm (l.take k))))/\Hid (Bk wr w.heap.size 60 m.arr)/\Hid (Bk wr (w.heap.size+1) 40 #[.int .i64 0,.int .i64 0,.int .i64 0])/\Below w.heap.size w wr) (fun _ i wr=>n - (intOf i).toNat)
 case atStart=>exact ⟨0,Nat.zero_le _,rfl,(show OwnK _ _ _ _ _ (cellsV (onM m.nm (l.take 0))) from OwnK.nil _ _ _ _),HM0,HR0,hB0⟩
 case round=>
  clear HM0 HR0 hB0
  obtain ⟨k,hk,rfl,HO,HM,HR,hb⟩:=hrel
  have lt1:w.heap.size+1<wr.heap.size:=HR.out.here
  by_cases hlt:k<n
  ·have hlk:k<l.length:=by have:=hn.out;omega
   obtain ⟨g,o,rfl,hg,hj⟩:=(hA.out.later hb).at hlk
   obtain ⟨j,hjk⟩:∃ j,j=l[k]:=⟨_,rfl⟩
   rw [<- hjk] at hj
   have HJ:=Lib.hid hj;clear hj
   have hlen:(cellsV (onM m.nm (l.take k))).length<=k:=by rw [cellsV_length];exact Nat.le_trans (onM_len _ _) (by rw [List.length_take];omega)
   have k1:=fun W=>isOn_any m j W
   cases he:sE j.nd m.nm
   ·rw [he] at k1
    have HN:Hid (OwnK wr (w.heap.size+2) 40 3 u6 (cellsV (onM m.nm (l.take (k+1))))):=by
     show OwnK _ _ _ _ _ _
     have h:=HO.out
     rw [onM_take hlk,<- hjk,he];simpa using h
    have K1:=Lib.hid k1;clear k1
    have HJK:=Lib.hid hjk;clear hjk he
    go_wp2_with (first | (with_reducible refine load_rg rfl 66 _ rfl g (o+k * 13) rfl j.arr _ HJ.out.rg Tryz.underlying66 rfl (by kernel_rfl) ?_) | ((with_reducible refine store_bk rfl 66 (.tmp 8) (.tmp 16) rfl wr.heap.size 0 j.arr rfl rfl 66 _ j.arr (Bk.fresh _ _ _) (by kernel_rfl) (by simp) (by kernel_rfl) rfl ?_);intro w1 hB1 hg1 hs1;have HX:=Lib.hid hB1;clear hB1;have HM1:=Lib.hid ((HM.out.later ((Below.refl _ _).alloc (Nat.le_refl _) _)).stays hg1 (by simp;omega));have HR1:=Lib.hid ((HR.out.later ((Below.refl _ _).alloc (Nat.le_refl _) _)).stays hg1 (by simp;omega));have hb1:Below w.heap.size w w1:=grown_below (hb.alloc hb.size _) hg1 hb.size) | (with_reducible refine load_bk rfl 60 _ rfl w.heap.size 0 rfl 60 m.arr m.arr _ HM1.out (Part.whole _) Tryz.underlying60 rfl (by kernel_rfl) ?_) | (with_reducible refine load_bk rfl 66 _ rfl wr.heap.size 0 rfl 66 j.arr j.arr _ HX.out (Part.whole _) Tryz.underlying66 rfl (by kernel_rfl) ?_))
    refine (K1.out _).mono ?_;rintro t w2 ⟨rfl,hb2⟩
    go_wp2_with fail
    go_round
    case rel=>exact ⟨k+1,by omega,by go_num,(HN.out.below (grown_below ((Below.refl _ _).alloc (Nat.le_refl _) _) hg1 (Nat.le_refl _))).below hb2,HM1.out.later hb2,HR1.out.later hb2,hb1.trans (hb2.mono hb1.size)⟩
    case measure=>simp [intOf];omega
   ·rw [he] at k1
    have HE:Hid (onM m.nm (l.take (k+1))=onM m.nm (l.take k) ++ [j.need]):=by
     show _=_
     rw [onM_take hlk,<- hjk,he];rfl
    have K1:=Lib.hid k1;clear k1
    have HJK:=Lib.hid hjk;clear hjk he
    go_wp2_with (first | (with_reducible refine load_rg rfl 66 _ rfl g (o+k * 13) rfl j.arr _ HJ.out.rg Tryz.underlying66 rfl (by kernel_rfl) ?_) | ((with_reducible refine store_bk rfl 66 (.tmp 8) (.tmp 16) rfl wr.heap.size 0 j.arr rfl rfl 66 _ j.arr (Bk.fresh _ _ _) (by kernel_rfl) (by simp) (by kernel_rfl) rfl ?_);intro w1 hB1 hg1 hs1;have HX:=Lib.hid hB1;clear hB1;have HM1:=Lib.hid ((HM.out.later ((Below.refl _ _).alloc (Nat.le_refl _) _)).stays hg1 (by simp;omega));have HR1:=Lib.hid ((HR.out.later ((Below.refl _ _).alloc (Nat.le_refl _) _)).stays hg1 (by simp;omega));have hb1:Below w.heap.size w w1:=grown_below (hb.alloc hb.size _) hg1 hb.size) | (with_reducible refine load_bk rfl 60 _ rfl w.heap.size 0 rfl 60 m.arr m.arr _ HM1.out (Part.whole _) Tryz.underlying60 rfl (by kernel_rfl) ?_) | (with_reducible refine load_bk rfl 66 _ rfl wr.heap.size 0 rfl 66 j.arr j.arr _ HX.out (Part.whole _) Tryz.underlying66 rfl (by kernel_rfl) ?_))
    refine (K1.out _).mono ?_;rintro t w2 ⟨rfl,hb2⟩
    have HX2:=Lib.hid (HX.out.later hb2)
    have HM2:=Lib.hid (HM1.out.later hb2)
    have HR2:=Lib.hid (HR1.out.later hb2)
    have hB2:Below w.heap.size w w2:=hb1.trans (hb2.mono hb1.size)
    have HO2:=Lib.hid ((HO.out.below (grown_below ((Below.refl _ _).alloc (Nat.le_refl _) _) hg1 (Nat.le_refl _))).below hb2)
    have lt2:w.heap.size+1<w2.heap.size:=HR2.out.here
    clear HM1 HR1 HX HO hb1 hg1 hs1
    go_wp2_with (first | (with_reducible refine load_bk rfl 40 _ rfl wr.heap.size 3 rfl 66 j.arr #[.int .i64 j.a,.int .i64 j.b,.int .i64 j.c] _ HX2.out (Part.of rfl) Tryz.underlying40 rfl (by kernel_rfl) ?_) | ((with_reducible refine append_k _ rfl (.tmp 20) (.tmp 24) 106 rfl (w.heap.size+2) 40 _ 3 24 Tryz.underlying106 infoV rfl (by omega) u6 (cellsV (onM m.nm (l.take k))) rfl (HO2.out.alloc _) ⟨w2.heap.size,0,none⟩ 1 1 (cellsV [j.need]) rfl (fresh_k w2 3 _ _ rfl) (by simp [cellsV]) (by simp [cellsV,Value.oneCell']) (by simp [cellsV]) (by simp [cellsV,maxLen] at hlen ⊢;omega) (by simp [cellsV] at hlen ⊢;omega) (by simp;omega) ?_);intro u6' w3 hO3 hg3))
    go_round
    case rel=>exact ⟨k+1,by omega,by go_num,(by rw [HE.out,cellsV_append];exact hO3),(HM2.out.later ((Below.refl _ _).alloc (Nat.le_refl _) _)).stays hg3 (fun e=>by have:=HO2.out.block _ e.symm;omega),(HR2.out.later ((Below.refl _ _).alloc (Nat.le_refl _) _)).stays hg3 (fun e=>by have:=HO2.out.block _ e.symm;omega),(hB2.alloc hB2.size _).grown hg3 (by simp;omega) (fun g e=>by have:=HO2.out.block _ e;omega)⟩
    case measure=>simp [intOf];omega
  ·have hk':k=n:=by omega
   subst hk'
   obtain ⟨B,c,hv,hr',_,_,_⟩:=HO.out.sl
   subst hv
   have hlk:l.take k=l:=by rw [hn.out];exact List.take_length
   rw [hlk] at hr'
   have HV:=Lib.hid (RdV.of hr');clear hr'
   rw [hlk]
   have hll:(cellsV (onM m.nm l)).length<=1000000:=by rw [cellsV_length];have:=onM_len m.nm l;have:=hn.out;omega
   obtain ⟨i,hi⟩:∃ i,i=(cellsV (onM m.nm l)).length:=⟨_,rfl⟩
   rw [<- hi]
   have HI:Hid (i=(onM m.nm l).length):=by show _=_;rw [hi,cellsV_length]
   have hil:i<=1000000:=by omega
   clear hi hll HO
   by_cases hv0:v=0
   ·subst hv0
    have hre:=hr.out
    rw [fre_0] at hre
    have k2:=fun W=>sub_any m.a m.b m.c x y z W
    simp only [Prod.mk.injEq] at hre
    obtain ⟨e1,e2,e3,e4⟩:=hre
    rw [e1,e2,e3,e4] at k2
    have K2:=Lib.hid k2;clear k2 e1 e2 e3 e4
    go_wp2_with fail
    refine (sum_any B i c (onM m.nm l) _ HI (by omega) HV x y z 0 hs).mono ?_;rintro t w2 ⟨rfl,hb2⟩
    have HM2:=Lib.hid (HM.out.later hb2)
    have HR2:=Lib.hid (HR.out.later hb2)
    have hB2:Below w.heap.size w w2:=hb.trans (hb2.mono hb.size)
    clear HM HR lt1
    go_wp2_with (first | ((with_reducible refine store_bk rfl 40 (.tmp 9) (.tmp 30) rfl w2.heap.size 0 #[.int .i64 x,.int .i64 y,.int .i64 z] rfl rfl 40 _ #[.int .i64 x,.int .i64 y,.int .i64 z] (Bk.fresh _ _ _) (by kernel_rfl) (by simp) (by kernel_rfl) rfl ?_);intro w3 hB3 hg3 hs3;have HX:=Lib.hid hB3;clear hB3;have lt2:w.heap.size+1<w2.heap.size:=HR2.out.here;have HM3:=Lib.hid ((HM2.out.later ((Below.refl _ _).alloc (Nat.le_refl _) _)).stays hg3 (by simp;omega));have HR3:=Lib.hid ((HR2.out.later ((Below.refl _ _).alloc (Nat.le_refl _) _)).stays hg3 (by simp;omega));have hb3:Below w.heap.size w w3:=grown_below (hB2.alloc hB2.size _) hg3 hB2.size) | (with_reducible refine load_bk rfl 40 _ rfl w.heap.size 1 rfl 60 m.arr #[.int .i64 m.a,.int .i64 m.b,.int .i64 m.c] _ HM3.out (Part.of rfl) Tryz.underlying40 rfl (by kernel_rfl) ?_) | (with_reducible refine load_bk rfl 40 _ rfl w2.heap.size 0 rfl 40 #[.int .i64 x,.int .i64 y,.int .i64 z] #[.int .i64 x,.int .i64 y,.int .i64 z] _ HX.out (Part.whole _) Tryz.underlying40 rfl (by kernel_rfl) ?_))
    refine (K2.out _).mono ?_;rintro t w4 ⟨rfl,hb4⟩
    have HR4:=Lib.hid (HR3.out.later hb4)
    go_wp2_with ((with_reducible refine store_bk rfl 40 (.tmp 4) (.tmp 41) rfl (w.heap.size+1) 0 #[.int .i64 p,.int .i64 q,.int .i64 r] rfl rfl 40 _ #[.int .i64 p,.int .i64 q,.int .i64 r] HR4.out (by kernel_rfl) (by simp) (by kernel_rfl) rfl ?_);intro w5 hB5 hg5 hs5)
    exact bodyPost_ret (v:=.tuple #[.agg #[.int .i64 p,.int .i64 q,.int .i64 r],.int .i64 _]) (results_bk2 Tryz.results25 _ _ (w.heap.size+1) 40 _ _ _ rfl rfl hB5 Tryz.underlying40 rfl (by kernel_rfl)) rfl ⟨rfl,grown_below (hb3.trans (hb4.mono hb3.size)) hg5 (by omega)⟩
   ·have hre:=hr.out
    rw [fre_v hv0] at hre
    simp only [Prod.mk.injEq] at hre
    obtain ⟨rfl,rfl,rfl,rfl⟩:=hre
    have hvd:decide (v=0)=false:=decide_eq_false hv0
    go_wp2_with fail
    refine (sum_any B i c (onM m.nm l) _ HI (by omega) HV x y z v hs).mono ?_;rintro t w2 ⟨rfl,hb2⟩
    have HR2:=Lib.hid (HR.out.later hb2)
    have hB2:Below w.heap.size w w2:=hb.trans (hb2.mono hb.size)
    clear HM HR lt1
    go_wp2_with (first | ((with_reducible refine store_bk rfl 40 (.tmp 9) (.tmp 30) rfl w2.heap.size 0 #[.int .i64 x,.int .i64 y,.int .i64 z] rfl rfl 40 _ #[.int .i64 x,.int .i64 y,.int .i64 z] (Bk.fresh _ _ _) (by kernel_rfl) (by simp) (by kernel_rfl) rfl ?_);intro w3 hB3 hg3 hs3;have HX:=Lib.hid hB3;clear hB3;have lt2:w.heap.size+1<w2.heap.size:=HR2.out.here;have HR3:=Lib.hid ((HR2.out.later ((Below.refl _ _).alloc (Nat.le_refl _) _)).stays hg3 (by simp;omega));have hb3:Below w.heap.size w w3:=grown_below (hB2.alloc hB2.size _) hg3 hB2.size) | ((with_reducible refine store_bk rfl 40 (.tmp 4) (.tmp 34) rfl (w.heap.size+1) 0 #[.int .i64 0,.int .i64 0,.int .i64 0] rfl rfl 40 _ #[.int .i64 0,.int .i64 0,.int .i64 0] HR3.out (by kernel_rfl) (by simp) (by kernel_rfl) rfl ?_);intro w5 hB5 hg5 hs5))
    exact bodyPost_ret (v:=.tuple #[.agg #[.int .i64 0,.int .i64 0,.int .i64 0],.int .i64 _]) (results_bk2 Tryz.results25 _ _ (w.heap.size+1) 40 _ _ _ rfl rfl hB5 Tryz.underlying40 rfl (by kernel_rfl)) rfl ⟨rfl,grown_below hb3 hg5 (by omega)⟩
end
section
open Go.RowKit
def both (s ap nm:ByteArray)(j:Jb):Bool:=sE j.nd s && sE j.ap ap && !sE j.nm nm
def rep (s ap nm:ByteArray)(l:List Jb):Bool:=!decide (ap.size=0) && l.any (both s ap nm)
theorem rep_empty (s nm:ByteArray)(l:List Jb):rep s ⟨#[]⟩ nm l=false:=rfl
theorem rep_full {s ap nm:ByteArray}{l:List Jb}(h:¬ ap.size=0):rep s ap nm l=l.any (both s ap nm):=by unfold rep;rw [decide_eq_false h];rfl
theorem any_takeJ {l:List Jb}{p:Jb->Bool}{k:Nat}(h:k<l.length):(l.take (k+1)).any p=((l.take k).any p || p l[k]):=by
 rw [List.take_succ_eq_append_getElem h,List.any_append];simp
theorem any_atJ {l:List Jb}{p:Jb->Bool}{k:Nat}(hk:k<l.length)(hp:p l[k]=true):l.any p=true:=List.any_eq_true.2 ⟨l[k],List.getElem_mem hk,hp⟩

theorem repels_any (m:Mc)(A:Option Addr) (n cap:Nat)(l:List Jb)(t:Kt)(w:World)(hn:Hid (n=l.length))(hl:n<=1000000)(hA:Hid (RdJ w A l)) :
  Calls Tryz.prog 112 #[.agg m.arr,.slice A n cap,.agg t.arr] w fun e w'=>e = .returned (.bool (rep m.nm t.ap t.nm l))/\Below w.heap.size w w':=by
 obtain ⟨nm,qu,pr,a,b,c,A2,n2,cp2,ap,ga,sz⟩:=t
 show Calls _ _ _ _ fun e w'=>e = .returned (.bool (rep m.nm ap nm l))/\_
 by_cases h:ap.size=0
 ·obtain rfl:=empty_of h
  rw [rep_empty]
  clear h
  go_enter Tryz.func112,Tryz.ntmps112
  go_wp2
  go_ret
  exact ⟨rfl,bel⟩
 ·rw [rep_full h]
  have hf:=full_of h
  clear h
  obtain ⟨hf1,hf2⟩:=hf
  obtain ⟨T,hT⟩:∃ T:Kt,T=⟨nm,qu,pr,a,b,c,A2,n2,cp2,ap,ga,sz⟩:=⟨_,rfl⟩
  obtain ⟨R,hR⟩:∃ R,R=l.any (both m.nm ap nm):=⟨_,rfl⟩
  rw [<- hR]
  have HR:=Lib.hid hR;clear hR
  go_enter Tryz.func112,Tryz.ntmps112
  have hM0:Bk ((w.alloc (.cells m.arr 60)).alloc (.cells #[.string nm,.string qu,.int .i64 pr,.int .i64 a,.int .i64 b,.int .i64 c,.slice A2 n2 cp2,.string ap,.string ga,.int .i64 sz] 47)) w.heap.size 60 m.arr:=(Bk.fresh w _ _).later ((Below.refl _ _).alloc (Nat.le_refl _) _)
  have hT0:Bk ((w.alloc (.cells m.arr 60)).alloc (.cells #[.string nm,.string qu,.int .i64 pr,.int .i64 a,.int .i64 b,.int .i64 c,.slice A2 n2 cp2,.string ap,.string ga,.int .i64 sz] 47)) (w.heap.size+1) 47 #[.string nm,.string qu,.int .i64 pr,.int .i64 a,.int .i64 b,.int .i64 c,.slice A2 n2 cp2,.string ap,.string ga,.int .i64 sz]:=Bk.freshAt _ _ _ (by simp)
  have hB0:Below w.heap.size w ((w.alloc (.cells m.arr 60)).alloc (.cells #[.string nm,.string qu,.int .i64 pr,.int .i64 a,.int .i64 b,.int .i64 c,.slice A2 n2 cp2,.string ap,.string ga,.int .i64 sz] 47)):=((Below.refl _ _).alloc (Nat.le_refl _) _).alloc (by simp) _
  have HM0:=Lib.hid hM0;clear hM0
  have HT0:=Lib.hid hT0;clear hT0
  go_wp2_with fail
  go_loopw [14] (fun i wr=>∃ k:Nat,k<=n/\i = .int .i64 k/\Hid ((l.take k).any (both m.nm ap nm)=false)/\Hid (Bk wr w.heap.size 60 m.arr)/\Hid (Bk wr (w.heap.size+1) 47 #[.string nm,.string qu,.int .i64 pr,.int .i64 a,.int .i64 b,.int .i64 c,.slice A2 n2 cp2,.string ap,.string ga,.int .i64 sz])/\Below w.heap.size w wr) (fun i wr=>n - (intOf i).toNat)
  case atStart=>exact ⟨0,Nat.zero_le _,rfl,(show _=_ by simp),HM0,HT0,hB0⟩
  case round=>
   clear HM0 HT0 hB0
   obtain ⟨k,hk,rfl,HF,HM,HT,hb⟩:=hrel
   have lt1:w.heap.size+1<wr.heap.size:=HT.out.here
   by_cases hlt:k<n
   ·have hlk:k<l.length:=by have:=hn.out;omega
    obtain ⟨g,o,rfl,hg,hj⟩:=(hA.out.later hb).at hlk
    obtain ⟨j,hjk⟩:∃ j,j=l[k]:=⟨_,rfl⟩
    rw [<- hjk] at hj
    have HJ:=Lib.hid hj;clear hj
    have k1:=fun W=>isOn_any m j W
    cases he1:sE j.nd m.nm
    ·rw [he1] at k1
     have K1:=Lib.hid k1;clear k1
     have HQ:Hid ((l.take (k+1)).any (both m.nm ap nm)=false):=by
      show _=_
      rw [any_takeJ hlk,HF.out,<- hjk];unfold both;rw [he1];rfl
     have HJK:=Lib.hid hjk;clear hjk he1
     go_wp2_with (first | (with_reducible refine load_rg rfl 66 _ rfl g (o+k * 13) rfl j.arr _ HJ.out.rg Tryz.underlying66 rfl (by kernel_rfl) ?_) | ((with_reducible refine store_bk rfl 66 (.tmp 8) (.tmp 17) rfl wr.heap.size 0 j.arr rfl rfl 66 _ j.arr (Bk.fresh _ _ _) (by kernel_rfl) (by simp) (by kernel_rfl) rfl ?_);intro w1 hB1 hg1 hs1;have HX:=Lib.hid hB1;clear hB1;have HM1:=Lib.hid ((HM.out.later ((Below.refl _ _).alloc (Nat.le_refl _) _)).stays hg1 (by simp;omega));have HT1:=Lib.hid ((HT.out.later ((Below.refl _ _).alloc (Nat.le_refl _) _)).stays hg1 (by simp;omega));have hb1:Below w.heap.size w w1:=grown_below (hb.alloc hb.size _) hg1 hb.size) | (with_reducible refine load_bk rfl 60 _ rfl w.heap.size 0 rfl 60 m.arr m.arr _ HM1.out (Part.whole _) Tryz.underlying60 rfl (by kernel_rfl) ?_) | (with_reducible refine load_bk rfl 66 _ rfl wr.heap.size 0 rfl 66 j.arr j.arr _ HX.out (Part.whole _) Tryz.underlying66 rfl (by kernel_rfl) ?_))
     refine (K1.out _).mono ?_;rintro t w2 ⟨rfl,hb2⟩
     go_wp2_with fail
     go_round
     case rel=>exact ⟨k+1,by omega,by go_num,HQ,HM1.out.later hb2,HT1.out.later hb2,hb1.trans (hb2.mono hb1.size)⟩
     case measure=>simp [intOf];omega
    ·rw [he1] at k1
     cases he2:sE j.ap ap
     ·skip
      have K1:=Lib.hid k1;clear k1
      have HQ:Hid ((l.take (k+1)).any (both m.nm ap nm)=false):=by
       show _=_
       rw [any_takeJ hlk,HF.out,<- hjk];unfold both;rw [he1,he2];rfl
      have hx2:(j.ap.toList == ap.toList)=false:=he2
      have HJK:=Lib.hid hjk;clear hjk he1 he2
      go_wp2_with (first | (with_reducible refine load_rg rfl 66 _ rfl g (o+k * 13) rfl j.arr _ HJ.out.rg Tryz.underlying66 rfl (by kernel_rfl) ?_) | ((with_reducible refine store_bk rfl 66 (.tmp 8) (.tmp 17) rfl wr.heap.size 0 j.arr rfl rfl 66 _ j.arr (Bk.fresh _ _ _) (by kernel_rfl) (by simp) (by kernel_rfl) rfl ?_);intro w1 hB1 hg1 hs1;have HX:=Lib.hid hB1;clear hB1;have HM1:=Lib.hid ((HM.out.later ((Below.refl _ _).alloc (Nat.le_refl _) _)).stays hg1 (by simp;omega));have HT1:=Lib.hid ((HT.out.later ((Below.refl _ _).alloc (Nat.le_refl _) _)).stays hg1 (by simp;omega));have hb1:Below w.heap.size w w1:=grown_below (hb.alloc hb.size _) hg1 hb.size) | (with_reducible refine load_bk rfl 60 _ rfl w.heap.size 0 rfl 60 m.arr m.arr _ HM1.out (Part.whole _) Tryz.underlying60 rfl (by kernel_rfl) ?_) | (with_reducible refine load_bk rfl 66 _ rfl wr.heap.size 0 rfl 66 j.arr j.arr _ HX.out (Part.whole _) Tryz.underlying66 rfl (by kernel_rfl) ?_))
      refine (K1.out _).mono ?_;rintro t w2 ⟨rfl,hb2⟩
      have cj7:w2.cell? ⟨wr.heap.size,7,none⟩=some (.string j.ap):=(HX.out.later hb2).cellAt 7
      have ct7:w2.cell? ⟨w.heap.size+1,7,none⟩=some (.string ap):=(HT1.out.later hb2).cellAt 7
      have zj:wr.heap.size<w2.heap.size:=(HX.out.later hb2).here
      have zt:w.heap.size+1<w2.heap.size:=(HT1.out.later hb2).here
      go_wp2_with fail
      go_round
      case rel=>exact ⟨k+1,by omega,by go_num,HQ,HM1.out.later hb2,HT1.out.later hb2,hb1.trans (hb2.mono hb1.size)⟩
      case measure=>simp [intOf];omega
     ·cases he3:sE j.nm nm
      ·skip
       have K1:=Lib.hid k1;clear k1
       have HQ:Hid (l.any (both m.nm ap nm)=true):=by
        show _=_
        refine any_atJ hlk ?_
        rw [<- hjk];unfold both;rw [he1,he2,he3];rfl
       have hx2:(j.ap.toList == ap.toList)=true:=he2
       have hx3:(j.nm.toList == nm.toList)=false:=he3
       have HJK:=Lib.hid hjk;clear hjk he1 he2 he3
       go_wp2_with (first | (with_reducible refine load_rg rfl 66 _ rfl g (o+k * 13) rfl j.arr _ HJ.out.rg Tryz.underlying66 rfl (by kernel_rfl) ?_) | ((with_reducible refine store_bk rfl 66 (.tmp 8) (.tmp 17) rfl wr.heap.size 0 j.arr rfl rfl 66 _ j.arr (Bk.fresh _ _ _) (by kernel_rfl) (by simp) (by kernel_rfl) rfl ?_);intro w1 hB1 hg1 hs1;have HX:=Lib.hid hB1;clear hB1;have HM1:=Lib.hid ((HM.out.later ((Below.refl _ _).alloc (Nat.le_refl _) _)).stays hg1 (by simp;omega));have HT1:=Lib.hid ((HT.out.later ((Below.refl _ _).alloc (Nat.le_refl _) _)).stays hg1 (by simp;omega));have hb1:Below w.heap.size w w1:=grown_below (hb.alloc hb.size _) hg1 hb.size) | (with_reducible refine load_bk rfl 60 _ rfl w.heap.size 0 rfl 60 m.arr m.arr _ HM1.out (Part.whole _) Tryz.underlying60 rfl (by kernel_rfl) ?_) | (with_reducible refine load_bk rfl 66 _ rfl wr.heap.size 0 rfl 66 j.arr j.arr _ HX.out (Part.whole _) Tryz.underlying66 rfl (by kernel_rfl) ?_))
       refine (K1.out _).mono ?_;rintro t w2 ⟨rfl,hb2⟩
       have cj7:w2.cell? ⟨wr.heap.size,7,none⟩=some (.string j.ap):=(HX.out.later hb2).cellAt 7
       have ct7:w2.cell? ⟨w.heap.size+1,7,none⟩=some (.string ap):=(HT1.out.later hb2).cellAt 7
       have zj:wr.heap.size<w2.heap.size:=(HX.out.later hb2).here
       have zt:w.heap.size+1<w2.heap.size:=(HT1.out.later hb2).here
       have cj0:w2.cell? ⟨wr.heap.size,0,none⟩=some (.string j.nm):=(HX.out.later hb2).cellAt 0
       have ct0:w2.cell? ⟨w.heap.size+1,0,none⟩=some (.string nm):=(HT1.out.later hb2).cellAt 0
       go_wp2_with fail
       go_ret
       exact ⟨by rw [HR.out,HQ.out];rfl,hb1.trans (hb2.mono hb1.size)⟩
      ·skip
       have K1:=Lib.hid k1;clear k1
       have HQ:Hid ((l.take (k+1)).any (both m.nm ap nm)=false):=by
        show _=_
        rw [any_takeJ hlk,HF.out,<- hjk];unfold both;rw [he1,he2,he3];rfl
       have hx2:(j.ap.toList == ap.toList)=true:=he2
       have hx3:(j.nm.toList == nm.toList)=true:=he3
       have HJK:=Lib.hid hjk;clear hjk he1 he2 he3
       go_wp2_with (first | (with_reducible refine load_rg rfl 66 _ rfl g (o+k * 13) rfl j.arr _ HJ.out.rg Tryz.underlying66 rfl (by kernel_rfl) ?_) | ((with_reducible refine store_bk rfl 66 (.tmp 8) (.tmp 17) rfl wr.heap.size 0 j.arr rfl rfl 66 _ j.arr (Bk.fresh _ _ _) (by kernel_rfl) (by simp) (by kernel_rfl) rfl ?_);intro w1 hB1 hg1 hs1;have HX:=Lib.hid hB1;clear hB1;have HM1:=Lib.hid ((HM.out.later ((Below.refl _ _).alloc (Nat.le_refl _) _)).stays hg1 (by simp;omega));have HT1:=Lib.hid ((HT.out.later ((Below.refl _ _).alloc (Nat.le_refl _) _)).stays hg1 (by simp;omega));have hb1:Below w.heap.size w w1:=grown_below (hb.alloc hb.size _) hg1 hb.size) | (with_reducible refine load_bk rfl 60 _ rfl w.heap.size 0 rfl 60 m.arr m.arr _ HM1.out (Part.whole _) Tryz.underlying60 rfl (by kernel_rfl) ?_) | (with_reducible refine load_bk rfl 66 _ rfl wr.heap.size 0 rfl 66 j.arr j.arr _ HX.out (Part.whole _) Tryz.underlying66 rfl (by kernel_rfl) ?_))
       refine (K1.out _).mono ?_;rintro t w2 ⟨rfl,hb2⟩
       have cj7:w2.cell? ⟨wr.heap.size,7,none⟩=some (.string j.ap):=(HX.out.later hb2).cellAt 7
       have ct7:w2.cell? ⟨w.heap.size+1,7,none⟩=some (.string ap):=(HT1.out.later hb2).cellAt 7
       have zj:wr.heap.size<w2.heap.size:=(HX.out.later hb2).here
       have zt:w.heap.size+1<w2.heap.size:=(HT1.out.later hb2).here
       have cj0:w2.cell? ⟨wr.heap.size,0,none⟩=some (.string j.nm):=(HX.out.later hb2).cellAt 0
       have ct0:w2.cell? ⟨w.heap.size+1,0,none⟩=some (.string nm):=(HT1.out.later hb2).cellAt 0
       go_wp2_with fail
       go_round
       case rel=>exact ⟨k+1,by omega,by go_num,HQ,HM1.out.later hb2,HT1.out.later hb2,hb1.trans (hb2.mono hb1.size)⟩
       case measure=>simp [intOf];omega
   ·have hk':k=n:=by omega
    subst hk'
    have hlk:l.take k=l:=by rw [hn.out];exact List.take_length
    have HQ:Hid (l.any (both m.nm ap nm)=false):=by show _=_;have h:=HF.out;rw [hlk] at h;exact h
    clear hlk
    go_wp2_with fail
    go_ret
    exact ⟨by rw [HR.out,HQ.out];rfl,hb⟩
end
section
open Go.RowKit
def whyT (e:Int)(N K U H R F:Bool):Int:=
 if e=0 then (if N && K then (if U then (if H then (if R then 3 else if F then 0 else 4) else 2) else 1) else 5) else 5
def freM (m:Mc)(l:List Jb):Int × Int × Int × Int:=
 fre m.a m.b m.c (sm 0 0 0 (onM m.nm l)).1 (sm 0 0 0 (onM m.nm l)).2.1 (sm 0 0 0 (onM m.nm l)).2.2.1 (sm 0 0 0 (onM m.nm l)).2.2.2
abbrev Mc.ok (m:Mc)(ml:List Lb):Bool:=nodeB m.nm m.a m.b m.c ml
abbrev Kt.ok (t:Kt)(tl:List Lb):Bool:=taskB t.nm t.qu t.pr t.a t.b t.c tl t.ap t.ga t.sz
def why (m:Mc)(ml:List Lb)(t:Kt)(tl:List Lb)(l:List Jb):Int:=
 whyT (freM m l).2.2.2 (m.ok ml) (t.ok tl) m.up (hasB ml tl) (rep m.nm t.ap t.nm l) (fB t.a t.b t.c (freM m l).1 (freM m l).2.1 (freM m l).2.2.1)
theorem freeM_any (m:Mc)(A:Option Addr) (n cap:Nat)(l:List Jb)(w:World)(hn:Hid (n=l.length))(hl:n<=1000000)(hA:Hid (RdJ w A l)) (p q r e:Int)(hr:Hid (freM m l=(p,q,r,e))) :
  Calls Tryz.prog 25 #[.agg m.arr,.slice A n cap] w fun t w'=>t = .returned (.tuple #[.agg #[.int .i64 p,.int .i64 q,.int .i64 r],.int .i64 e])/\Below w.heap.size w w':=
 free_any m A n cap l w hn hl hA _ _ _ _ rfl p q r e hr

theorem why_any (m:Mc)(ml:List Lb)(A:Option Addr) (n cap:Nat)(l:List Jb)(t:Kt)(tl:List Lb)(w:World)(hn:Hid (n=l.length))(hl:n<=1000000)(hA:Hid (RdJ w A l))(hM:Hid (McOk w m ml))(hT:Hid (KtOk w t tl)) (r:Int)(hr:Hid (why m ml t tl l=r)) :
  Calls Tryz.prog 66 #[.agg m.arr,.slice A n cap,.agg t.arr] w fun e w'=>e = .returned (.int .i64 r)/\Below w.heap.size w w':=by
 obtain ⟨f,hf⟩:∃ f,freM m l=f:=⟨_,rfl⟩
 obtain ⟨p,q,s,e⟩:=f
 obtain ⟨N,hN⟩:∃ N,m.ok ml=N:=⟨_,rfl⟩
 obtain ⟨K,hK⟩:∃ K,t.ok tl=K:=⟨_,rfl⟩
 obtain ⟨U,hU⟩:∃ U,m.up=U:=⟨_,rfl⟩
 obtain ⟨H,hH⟩:∃ H,hasB ml tl=H:=⟨_,rfl⟩
 obtain ⟨R,hR⟩:∃ R,rep m.nm t.ap t.nm l=R:=⟨_,rfl⟩
 obtain ⟨F,hF⟩:∃ F,fB t.a t.b t.c p q s=F:=⟨_,rfl⟩
 have hres:whyT e N K U H R F=r:=by have h:=hr.out;unfold why at h;rw [hf,hN,hK,hU,hH,hR,hF] at h;exact h
 have k1:=fun (W:World)(h:Hid (RdJ W A l))=>freeM_any m A n cap l W hn hl h p q s e hf
 have k2:=fun (W:World)(h:McOk W m ml)=>node_any m.nm m.a m.b m.c m.A m.n m.cp ml W (by have:=h.nm;omega) h.lb.len h.lb.rd h.lb.sz h.lb.cap h.lb.cap2
 have k3:=fun (W:World)(h:KtOk W t tl)=>task_any t.nm t.qu t.pr t.a t.b t.c t.A t.n t.cp tl t.ap t.ga t.sz W (by have:=h.nm;omega) (by have:=h.qu;omega) h.lb.len h.lb.rd h.lb.sz h.lb.cap h.lb.cap2 (by have:=h.ap;omega) (by have:=h.ga;omega)
 have k4:=fun (W:World)(h:McOk W m ml) (h':KtOk W t tl)=>has_any m.A t.A m.n m.cp t.n t.cp ml tl W h.lb.len h'.lb.len h.lb.rd h'.lb.rd h.lb.cap h.lb.cap2 h'.lb.cap h'.lb.cap2
 have k5:=fun (W:World)(h:Hid (RdJ W A l))=>repels_any m A n cap l t W hn hl h
 have k6:=fun (W:World)=>fits_any t.a t.b t.c p q s W
 have e2:nodeB m.nm m.a m.b m.c ml=N:=hN
 have e3:taskB t.nm t.qu t.pr t.a t.b t.c tl t.ap t.ga t.sz=K:=hK
 rw [e2] at k2
 rw [e3] at k3
 rw [hH] at k4
 rw [hR] at k5
 rw [hF] at k6
 have K1:=Lib.hid k1;have K2:=Lib.hid k2;have K3:=Lib.hid k3;have K4:=Lib.hid k4;have K5:=Lib.hid k5;have K6:=Lib.hid k6
 have HRes:=Lib.hid hres
 have HU:=Lib.hid hU
 clear k1 k2 k3 k4 k5 k6 hN hK hU hH hR hF e2 e3 hf hres hr
 go_enter Tryz.func66,Tryz.ntmps66
 have hM0:Bk ((w.alloc (.cells m.arr 60)).alloc (.cells t.arr 47)) w.heap.size 60 m.arr:=(Bk.fresh w _ _).later ((Below.refl _ _).alloc (Nat.le_refl _) _)
 have hT0:Bk ((w.alloc (.cells m.arr 60)).alloc (.cells t.arr 47)) (w.heap.size+1) 47 t.arr:=Bk.freshAt _ _ _ (by simp)
 have hB0:Below w.heap.size w ((w.alloc (.cells m.arr 60)).alloc (.cells t.arr 47)):=((Below.refl _ _).alloc (Nat.le_refl _) _).alloc (by simp) _
 have HM0:=Lib.hid hM0;clear hM0
 have HT0:=Lib.hid hT0;clear hT0
 have HA0:=Lib.hid (hA.out.later hB0)
 go_wp2_with (with_reducible refine load_bk rfl 60 _ rfl w.heap.size 0 rfl 60 m.arr m.arr _ HM0.out (Part.whole _) Tryz.underlying60 rfl (by kernel_rfl) ?_)
 refine (K1.out _ HA0).mono ?_;rintro v w1 ⟨rfl,hb1⟩
 have hB1:Below w.heap.size w w1:=hB0.trans (hb1.mono hB0.size)
 have HM1:=Lib.hid (HM0.out.later hb1)
 have HT1:=Lib.hid (HT0.out.later hb1)
 clear HM0 HT0 HA0 hB0
 by_cases he:e=0
 case neg=>
  have hq:r=5:=by have h:=HRes.out;unfold whyT at h;rw [if_neg he] at h;exact h.symm
  subst hq
  have hd:decide (e=0)=false:=decide_eq_false he
  go_wp2_with (((with_reducible refine store_bk rfl 40 (.tmp 7) (.tmp 13) rfl w1.heap.size 0 #[.int .i64 p,.int .i64 q,.int .i64 s] rfl rfl 40 _ #[.int .i64 p,.int .i64 q,.int .i64 s] (Bk.fresh _ _ _) (by kernel_rfl) (by simp) (by kernel_rfl) rfl ?_);intro w2 hX2 hg2 hs2;have hB2:Below w.heap.size w w2:=grown_below (hB1.alloc hB1.size _) hg2 hB1.size))
  go_ret
  exact ⟨rfl,hB2⟩
 case pos=>
  subst he
  have lt1:w.heap.size+1<w1.heap.size:=HT1.out.here
  go_wp2_with (first | ((with_reducible refine store_bk rfl 40 (.tmp 7) (.tmp 13) rfl w1.heap.size 0 #[.int .i64 p,.int .i64 q,.int .i64 s] rfl rfl 40 _ #[.int .i64 p,.int .i64 q,.int .i64 s] (Bk.fresh _ _ _) (by kernel_rfl) (by simp) (by kernel_rfl) rfl ?_);intro w2 hX2 hg2 hs2;have HX2:=Lib.hid hX2;clear hX2;have hB2:Below w.heap.size w w2:=grown_below (hB1.alloc hB1.size _) hg2 hB1.size;have HM2:=Lib.hid ((HM1.out.later ((Below.refl _ _).alloc (Nat.le_refl _) _)).stays hg2 (by simp;omega));have HT2:=Lib.hid ((HT1.out.later ((Below.refl _ _).alloc (Nat.le_refl _) _)).stays hg2 (by simp;omega))) | (with_reducible refine load_bk rfl 43 _ rfl w.heap.size 0 rfl 60 m.arr m.node _ HM2.out (Part.of rfl) Tryz.underlying43 rfl (by kernel_rfl) ?_))
  have HOm:=Lib.hid (hM.out.later hB2);have HOt:=Lib.hid (hT.out.later hB2)
  refine (K2.out _ HOm.out).mono ?_;rintro v w3 ⟨rfl,hb3⟩
  have hB3:Below w.heap.size w w3:=hB2.trans (hb3.mono hB2.size)
  cases N
  case false=>
   have hq:r=5:=by have h:=HRes.out;unfold whyT at h;exact h.symm
   subst hq
   go_wp2_with fail
   go_ret
   exact ⟨rfl,hB3⟩
  case true=>
   have HX3:=Lib.hid (HX2.out.later hb3);have HM3:=Lib.hid (HM2.out.later hb3);have HT3:=Lib.hid (HT2.out.later hb3);have HOt3:=Lib.hid (HOt.out.later hb3);have HOm3:=Lib.hid (HOm.out.later hb3)
   clear HX2 HM2 HT2 HOt HOm HM1 HT1 hg2 hs2 lt1
   go_wp2_with (with_reducible refine load_bk rfl 47 _ rfl (w.heap.size+1) 0 rfl 47 t.arr t.arr _ HT3.out (Part.whole _) Tryz.underlying47 rfl (by kernel_rfl) ?_)
   refine (K3.out _ HOt3.out).mono ?_;rintro v w4 ⟨rfl,hb4⟩
   have hB4:Below w.heap.size w w4:=hB3.trans (hb4.mono hB3.size)
   cases K
   case false=>
    have hq:r=5:=by have h:=HRes.out;unfold whyT at h;exact h.symm
    subst hq
    go_wp2_with fail
    go_ret
    exact ⟨rfl,hB4⟩
   case true=>
    have HX4:=Lib.hid (HX3.out.later hb4);have HM4:=Lib.hid (HM3.out.later hb4);have HT4:=Lib.hid (HT3.out.later hb4);have HOt4:=Lib.hid (HOt3.out.later hb4);have HOm4:=Lib.hid (HOm3.out.later hb4)
    clear HX3 HM3 HT3 HOt3 HOm3
    have cu:w4.cell? ⟨w.heap.size,5,none⟩=some (.bool U):=by rw [<- HU.out];exact HM4.out.cellAt 5
    have cl:w4.cell? ⟨w.heap.size,4,none⟩=some (.slice m.A m.n m.cp):=HM4.out.cellAt 4
    have ct:w4.cell? ⟨w.heap.size+1,6,none⟩=some (.slice t.A t.n t.cp):=HT4.out.cellAt 6
    have z0:w.heap.size<w4.heap.size:=HM4.out.here
    have z1:w.heap.size+1<w4.heap.size:=HT4.out.here
    cases U
    case false=>
     have hq:r=1:=by have h:=HRes.out;unfold whyT at h;exact h.symm
     subst hq
     go_wp2_with fail
     go_ret
     exact ⟨rfl,hB4⟩
    case true=>
     go_wp2_with fail
     refine (K4.out _ HOm4.out HOt4.out).mono ?_;rintro v w5 ⟨rfl,hb5⟩
     have hB5:Below w.heap.size w w5:=hB4.trans (hb5.mono hB4.size)
     clear cu cl ct z0 z1
     cases H
     case false=>
      have hq:r=2:=by have h:=HRes.out;unfold whyT at h;exact h.symm
      subst hq
      go_wp2_with fail
      go_ret
      exact ⟨rfl,hB5⟩
     case true=>
      have HX5:=Lib.hid (HX4.out.later hb5);have HM5:=Lib.hid (HM4.out.later hb5);have HT5:=Lib.hid (HT4.out.later hb5)
      have HA5:=Lib.hid (hA.out.later hB5)
      clear HX4 HM4 HT4
      go_wp2_with (first | (with_reducible refine load_bk rfl 60 _ rfl w.heap.size 0 rfl 60 m.arr m.arr _ HM5.out (Part.whole _) Tryz.underlying60 rfl (by kernel_rfl) ?_) | (with_reducible refine load_bk rfl 47 _ rfl (w.heap.size+1) 0 rfl 47 t.arr t.arr _ HT5.out (Part.whole _) Tryz.underlying47 rfl (by kernel_rfl) ?_))
      refine (K5.out _ HA5).mono ?_;rintro v w6 ⟨rfl,hb6⟩
      have hB6:Below w.heap.size w w6:=hB5.trans (hb6.mono hB5.size)
      cases R
      case true=>
       have hq:r=3:=by have h:=HRes.out;unfold whyT at h;exact h.symm
       subst hq
       go_wp2_with fail
       go_ret
       exact ⟨rfl,hB6⟩
      case false=>
       have HX6:=Lib.hid (HX5.out.later hb6);have HT6:=Lib.hid (HT5.out.later hb6)
       clear HX5 HT5
       go_wp2_with (first | (with_reducible refine load_bk rfl 40 _ rfl (w.heap.size+1) 3 rfl 47 t.arr #[.int .i64 t.a,.int .i64 t.b,.int .i64 t.c] _ HT6.out (Part.of rfl) Tryz.underlying40 rfl (by kernel_rfl) ?_) | (with_reducible refine load_bk rfl 40 _ rfl w1.heap.size 0 rfl 40 #[.int .i64 p,.int .i64 q,.int .i64 s] #[.int .i64 p,.int .i64 q,.int .i64 s] _ HX6.out (Part.whole _) Tryz.underlying40 rfl (by kernel_rfl) ?_))
       refine (K6.out _).mono ?_;rintro v w7 ⟨rfl,hb7⟩
       have hB7:Below w.heap.size w w7:=hB6.trans (hb7.mono hB6.size)
       cases F
       case false=>
        have hq:r=4:=by have h:=HRes.out;unfold whyT at h;exact h.symm
        subst hq
        go_wp2_with fail
        go_ret
        exact ⟨rfl,hB7⟩
       case true=>
        have hq:r=0:=by have h:=HRes.out;unfold whyT at h;exact h.symm
        subst hq
        go_wp2_with fail
        go_ret
        exact ⟨rfl,hB7⟩
end
section
open Go.RowKit
section
variable {m:Mc}{ml:List Lb}{t:Kt}{tl:List Lb}{l:List Jb}{p q s e:Int}
theorem why_0 (h:why m ml t tl l=0):∃ p q s,freM m l=(p,q,s,0)/\m.ok ml=true/\t.ok tl=true/\m.up=true/\hasB ml tl=true/\rep m.nm t.ap t.nm l=false/\fB t.a t.b t.c p q s=true:=by
 obtain ⟨f,hf⟩:∃ f,freM m l=f:=⟨_,rfl⟩
 obtain ⟨p,q,s,e⟩:=f
 unfold why whyT at h
 rw [hf] at h
 by_cases he:e=0
 case neg=>rw [if_neg he] at h;cases h
 subst he
 rw [if_pos rfl] at h
 refine ⟨p,q,s,hf,?_⟩
 cases c1:m.ok ml
 ·rw [c1] at h;simp at h
 cases c2:t.ok tl
 ·rw [c1,c2] at h;simp at h
 cases c3:m.up
 ·rw [c1,c2,c3] at h;simp at h
 cases c4:hasB ml tl
 ·rw [c1,c2,c3,c4] at h;simp at h
 cases c5:rep m.nm t.ap t.nm l
 case true=>rw [c1,c2,c3,c4,c5] at h;simp at h
 cases c6:fB t.a t.b t.c p q s
 ·rw [c1,c2,c3,c4,c5] at h;simp [c6] at h
 exact ⟨rfl,rfl,rfl,rfl,rfl,rfl⟩
theorem freM_0 (h:freM m l=(p,q,s,0)):allR (onM m.nm l)/\p=m.a - s1 (onM m.nm l)/\q=m.b - s2 (onM m.nm l)/\s=m.c - s3 (onM m.nm l)/\rB m.a m.b m.c=true/\rB p q s=true:=by
 obtain ⟨u,hu⟩:∃ u,sm 0 0 0 (onM m.nm l)=u:=⟨_,rfl⟩
 obtain ⟨x,y,z,v⟩:=u
 unfold freM at h
 rw [hu] at h
 by_cases hv:v=0
 case neg=>rw [fre_v hv] at h;simp only [Prod.mk.injEq] at h;exact absurd h.2.2.2 hv
 subst hv
 obtain ⟨k1,k2,k3,k4⟩:=sm_zero hu
 rw [fre_0] at h
 simp only [Prod.mk.injEq] at h
 obtain ⟨h1,h2,h3,h4⟩:=h
 have hs:sbB m.a m.b m.c x y z=true:=by
  unfold sbE at h4
  unfold sbB
  cases c1:(rB m.a m.b m.c && rB x y z)
  ·rw [c1] at h4;simp at h4
  ·rw [c1] at h4
   cases c2:rB (m.a - x) (m.b - y) (m.c - z)
   ·rw [c2] at h4;simp at h4
   ·rfl
 rw [hs] at h1 h2 h3
 rw [kp_t] at h1 h2 h3
 unfold sbB at hs
 rw [Bool.and_eq_true,Bool.and_eq_true] at hs
 rw [h1,h2,h3] at hs
 refine ⟨k1,by omega,by omega,by omega,hs.1.1,hs.2⟩
theorem freM_mk (h0:allR (onM m.nm l))(h1:rB m.a m.b m.c=true)(h2:rB (m.a - s1 (onM m.nm l)) (m.b - s2 (onM m.nm l)) (m.c - s3 (onM m.nm l))=true):freM m l=(m.a - s1 (onM m.nm l),m.b - s2 (onM m.nm l),m.c - s3 (onM m.nm l),0):=by
 have g:=allR_ge h0
 have b1:=rB_bd h1
 have b2:=rB_bd h2
 have hx:rB (0+s1 (onM m.nm l)) (0+s2 (onM m.nm l)) (0+s3 (onM m.nm l))=true:=rB_mk (by omega)
 have hu:=sm_mk (by decide) h0 hx
 rw [Int.zero_add,Int.zero_add,Int.zero_add] at hu hx
 unfold freM
 rw [hu]
 simp only
 rw [fre_0]
 have hs:sbB m.a m.b m.c (s1 (onM m.nm l)) (s2 (onM m.nm l)) (s3 (onM m.nm l))=true:=by unfold sbB;rw [h1,hx,h2];rfl
 have he:sbE m.a m.b m.c (s1 (onM m.nm l)) (s2 (onM m.nm l)) (s3 (onM m.nm l))=0:=by unfold sbE;rw [h1,hx,h2];rfl
 rw [hs,he];rfl
theorem taskB_r {t:Kt}{tl:List Lb}(h:t.ok tl=true):rB t.a t.b t.c=true:=by
 unfold Kt.ok taskB at h
 simp only [Bool.and_eq_true] at h
 exact h.1.1.1.2
theorem fB_bd {a b c d e f:Int}(h:fB a b c d e f=true):a<=d/\b<=e/\c<=f:=of_decide_eq_true h
theorem onM_job (t:Kt)(s:ByteArray):onM s [t.job s]=[(t.a,t.b,t.c)]:=by unfold onM;simp [sE_refl]
theorem room (h:why m ml t tl l=0):∃ p q s,freM m l=(p,q,s,0)/\freM m (l ++ [t.job m.nm])=(p - t.a,q - t.b,s - t.c,0)/\sbB p q s t.a t.b t.c=true/\sbE p q s t.a t.b t.c=0/\m.up=true:=by
 obtain ⟨p,q,s,hf,h1,h2,h3,h4,h5,h6⟩:=why_0 h
 obtain ⟨k0,k1,k2,k3,k4,k5⟩:=freM_0 hf
 have ht:=taskB_r h2
 have b6:=fB_bd h6
 have b5:=rB_bd k5
 have bt:=rB_bd ht
 have b4:=rB_bd k4
 have hr:rB (p - t.a) (q - t.b) (s - t.c)=true:=rB_mk (by omega)
 have e1:s1 (onM m.nm (l ++ [t.job m.nm]))=s1 (onM m.nm l)+t.a:=by rw [onM_append,onM_job,s1_append];simp [s1]
 have e2:s2 (onM m.nm (l ++ [t.job m.nm]))=s2 (onM m.nm l)+t.b:=by rw [onM_append,onM_job,s2_append];simp [s2]
 have e3:s3 (onM m.nm (l ++ [t.job m.nm]))=s3 (onM m.nm l)+t.c:=by rw [onM_append,onM_job,s3_append];simp [s3]
 refine ⟨p,q,s,hf,?_,by unfold sbB;rw [k5,ht,hr];rfl,by unfold sbE;rw [k5,ht,hr];rfl,h3⟩
 have ha:allR (onM m.nm (l ++ [t.job m.nm])):=fun u hu=>by
  rw [onM_append,onM_job] at hu
  rcases List.mem_append.1 hu with hu | hu
  ·exact k0 u hu
  ·simp at hu;subst hu;exact ht
 rw [freM_mk ha k4 (by rw [e1,e2,e3];exact rB_mk (by omega))]
 simp only [Prod.mk.injEq]
 rw [e1,e2,e3]
 refine ⟨?_,?_,?_,trivial⟩ <;> omega
theorem freM_less {l':List Jb}(h:freM m l=(p,q,s,0))(hs:l'.Sublist l):∃ p' q' s',freM m l' = (p',q',s',0)/\p<=p' /\ q<=q' /\ s<=s':=by
 obtain ⟨k0,k1,k2,k3,k4,k5⟩:=freM_0 h
 have hsub:(onM m.nm l').Sublist (onM m.nm l):=(hs.filter _).map _
 have key:∀ {a b:List V3},a.Sublist b->allR b->allR a/\s1 a<=s1 b/\s2 a<=s2 b/\s3 a<=s3 b:=by
  intro a b hab
  induction hab with
  | slnil=>exact fun h=>⟨h,Int.le_refl _,Int.le_refl _,Int.le_refl _⟩
  | cons x _ ih=>
   intro h
   have hx:=rB_bd (h x (by simp))
   obtain ⟨i1,i2,i3,i4⟩:=ih fun u hu=>h u (by simp [hu])
   rw [s1_cons,s2_cons,s3_cons]
   exact ⟨i1,by omega,by omega,by omega⟩
  | cons_cons x _ ih=>
   intro h
   obtain ⟨i1,i2,i3,i4⟩:=ih fun u hu=>h u (by simp [hu])
   rw [s1_cons,s2_cons,s3_cons,s1_cons,s2_cons,s3_cons]
   refine ⟨fun u hu=>?_,by omega,by omega,by omega⟩
   rcases List.mem_cons.1 hu with rfl | hu
   ·exact h u (by simp)
   ·exact i1 u hu
 obtain ⟨i1,i2,i3,i4⟩:=key hsub k0
 have g:=allR_ge i1
 have b4:=rB_bd k4
 have b5:=rB_bd k5
 exact ⟨_,_,_,freM_mk i1 k4 (rB_mk (by omega)),by omega,by omega,by omega⟩
end
end
section
open Go.RowKit
def qt (a d:Int):Int:=if 0<d then 1000 * a / d else 0
theorem qt_pos {a d:Int}(h:0<d):qt a d=1000 * a / d:=if_pos h
theorem qt_no {a d:Int}(h:d<=0):qt a d=0:=if_neg (by omega)
theorem qd_bd {a d:Int}(h:0<d)(h0:0<=a)(h1:a<=1048576):0<=1000 * a / d/\1000 * a / d<=1048576000:=by
 constructor
 ·exact Int.ediv_nonneg (by omega) (by omega)
 ·exact Int.le_trans (Int.ediv_le_self _ (by omega)) (by omega)
def shN (a b c d e f:Int):Int:=if rB a b c && rB d e f then qt a d+qt b e+qt c f else 0
theorem shN_in {a b c d e f:Int}(h:rB a b c=true)(h2:rB d e f=true):shN a b c d e f=qt a d+qt b e+qt c f:=by simp [shN,h,h2]

theorem share_no (a b c d e f:Int)(w:World)(h:(rB a b c && rB d e f)=false) :
  Calls Tryz.prog 225 #[.agg #[.int .i64 a,.int .i64 b,.int .i64 c],.agg #[.int .i64 d,.int .i64 e,.int .i64 f]] w fun r w'=>r = .returned (.int .i64 0)/\Below w.heap.size w w':=by
 cases h1:rB a b c
 ·clear h
  go_enter Tryz.func225,Tryz.ntmps225
  go_wp2_with (go_at_call 109;refine (right_any _ _ _ _).mono ?_;rintro e w1 ⟨rfl,hb1⟩;obtain ⟨hc1,hf1⟩:=bcell hb1;have hz1a:w.heap.size<w1.heap.size:=sT hb1;have hz1b:w.heap.size+1<w1.heap.size:=sT hb1)
  go_ret
  exact ⟨rfl,by (repeat' (first | (with_reducible exact Below.refl _ _) | (with_reducible refine Below.drew ?_) | (with_reducible refine Below.setCell ?_ ?_ _) | (with_reducible refine Below.alloc ?_ ?_ _) | (with_reducible refine Below.trans ?_ (Below.mono hb1 ?_)) | go_size))⟩
 ·cases h2:rB d e f
  ·clear h
   go_enter Tryz.func225,Tryz.ntmps225
   go_wp2_with fail
   refine (right_any _ _ _ _).mono ?_;rintro r w1 ⟨rfl,hb1⟩;obtain ⟨hc1,hf1⟩:=bcell hb1;have hz1a:w.heap.size<w1.heap.size:=sT hb1;have hz1b:w.heap.size+1<w1.heap.size:=sT hb1
   go_wp2_with fail
   refine (right_any _ _ _ _).mono ?_;rintro r w2 ⟨rfl,hb2⟩;obtain ⟨hc2,hf2⟩:=bcell hb2;have hz2a:w.heap.size<w2.heap.size:=sT hb2;have hz2b:w.heap.size+1<w2.heap.size:=sT hb2
   go_wp2
   go_ret
   exact ⟨rfl,by (repeat' (first | (with_reducible exact Below.refl _ _) | (with_reducible refine Below.drew ?_) | (with_reducible refine Below.setCell ?_ ?_ _) | (with_reducible refine Below.alloc ?_ ?_ _) | (with_reducible refine Below.trans ?_ (Below.mono hb1 ?_)) | (with_reducible refine Below.trans ?_ (Below.mono hb2 ?_)) | go_size))⟩
  ·simp [h1,h2] at h

theorem share_in (a b c d e f:Int)(w:World)(h:rB a b c=true)(h2:rB d e f=true) :
  Calls Tryz.prog 225 #[.agg #[.int .i64 a,.int .i64 b,.int .i64 c],.agg #[.int .i64 d,.int .i64 e,.int .i64 f]] w fun r w'=>r = .returned (.int .i64 (qt a d+qt b e+qt c f))/\Below w.heap.size w w':=by
 have i0:∀ w,(Instr.index 40 (.agg #[.int .i64 d,.int .i64 e,.int .i64 f]) (.int .i64 0)).run Tryz.prog w = .ok (.int .i64 d) w:=fun _=>by kernel_rfl
 have i1:∀ w,(Instr.index 40 (.agg #[.int .i64 d,.int .i64 e,.int .i64 f]) (.int .i64 1)).run Tryz.prog w = .ok (.int .i64 e) w:=fun _=>by kernel_rfl
 have i2:∀ w,(Instr.index 40 (.agg #[.int .i64 d,.int .i64 e,.int .i64 f]) (.int .i64 2)).run Tryz.prog w = .ok (.int .i64 f) w:=fun _=>by kernel_rfl
 obtain ⟨a0,a1,b0,b1,c0,c1⟩:=rB_bd h
 obtain ⟨d0,d1,e0,e1,f0,f1⟩:=rB_bd h2
 obtain ⟨v,hv⟩:∃ v,v=qt a d+qt b e+qt c f:=⟨_,rfl⟩
 rw [<- hv]
 have HV:=Lib.hid hv;clear hv
 rcases (show 0<d ∨ d<=0 by omega) with g1 | g1 <;> rcases (show 0<e ∨ e<=0 by omega) with g2 | g2 <;> rcases (show 0<f ∨ f<=0 by omega) with g3 | g3
 all_goals
  first | (obtain ⟨p1,p1'⟩:=qd_bd g1 a0 a1) | skip
  first | (obtain ⟨p2,p2'⟩:=qd_bd g2 b0 b1) | skip
  first | (obtain ⟨p3,p3'⟩:=qd_bd g3 c0 c1) | skip
  go_enter Tryz.func225,Tryz.ntmps225
  go_wp2_with fail
  refine (right_any _ _ _ _).mono ?_;rintro r w1 ⟨rfl,hb1⟩;have hz1a:w.heap.size<w1.heap.size:=sT hb1;have hz1b:w.heap.size+1<w1.heap.size:=sT hb1;have k1_00:w1.cell? ⟨w.heap.size,0,none⟩=some (.int .i64 a):=cT hb1;have m1_00:w1.frozen? ⟨w.heap.size,0,none⟩=false:=fT hb1;have k1_01:w1.cell? ⟨w.heap.size,1,none⟩=some (.int .i64 b):=cT hb1;have m1_01:w1.frozen? ⟨w.heap.size,1,none⟩=false:=fT hb1;have k1_02:w1.cell? ⟨w.heap.size,2,none⟩=some (.int .i64 c):=cT hb1;have m1_02:w1.frozen? ⟨w.heap.size,2,none⟩=false:=fT hb1;have k1_10:w1.cell? ⟨w.heap.size+1,0,none⟩=some (.int .i64 d):=cT hb1;have m1_10:w1.frozen? ⟨w.heap.size+1,0,none⟩=false:=fT hb1;have k1_11:w1.cell? ⟨w.heap.size+1,1,none⟩=some (.int .i64 e):=cT hb1;have m1_11:w1.frozen? ⟨w.heap.size+1,1,none⟩=false:=fT hb1;have k1_12:w1.cell? ⟨w.heap.size+1,2,none⟩=some (.int .i64 f):=cT hb1;have m1_12:w1.frozen? ⟨w.heap.size+1,2,none⟩=false:=fT hb1
  go_wp2_with fail
  refine (right_any _ _ _ _).mono ?_;rintro r w2 ⟨rfl,hb2⟩;have hz2a:w.heap.size<w2.heap.size:=sT hb2;have hz2b:w.heap.size+1<w2.heap.size:=sT hb2;have k2_00:w2.cell? ⟨w.heap.size,0,none⟩=some (.int .i64 a):=cT hb2;have m2_00:w2.frozen? ⟨w.heap.size,0,none⟩=false:=fT hb2;have k2_01:w2.cell? ⟨w.heap.size,1,none⟩=some (.int .i64 b):=cT hb2;have m2_01:w2.frozen? ⟨w.heap.size,1,none⟩=false:=fT hb2;have k2_02:w2.cell? ⟨w.heap.size,2,none⟩=some (.int .i64 c):=cT hb2;have m2_02:w2.frozen? ⟨w.heap.size,2,none⟩=false:=fT hb2;have k2_10:w2.cell? ⟨w.heap.size+1,0,none⟩=some (.int .i64 d):=cT hb2;have m2_10:w2.frozen? ⟨w.heap.size+1,0,none⟩=false:=fT hb2;have k2_11:w2.cell? ⟨w.heap.size+1,1,none⟩=some (.int .i64 e):=cT hb2;have m2_11:w2.frozen? ⟨w.heap.size+1,1,none⟩=false:=fT hb2;have k2_12:w2.cell? ⟨w.heap.size+1,2,none⟩=some (.int .i64 f):=cT hb2;have m2_12:w2.frozen? ⟨w.heap.size+1,2,none⟩=false:=fT hb2;clear k1_00 k1_01 k1_02 k1_10 k1_11 k1_12 m1_00 m1_01 m1_02 m1_10 m1_11 m1_12
  go_wp2_with fail
  refine wp_loop_rounds 4 ?_
  repeat any_goals (rw [rounds_succ];go_wp2_with fail)
  all_goals go_ret
  all_goals refine ⟨?_,by (repeat' (first | (with_reducible exact Below.refl _ _) | (with_reducible refine Below.drew ?_) | (with_reducible refine Below.setCell ?_ ?_ _) | (with_reducible refine Below.alloc ?_ ?_ _) | (with_reducible refine Below.trans ?_ (Below.mono hb1 ?_)) | (with_reducible refine Below.trans ?_ (Below.mono hb2 ?_)) | go_size))⟩
  all_goals rw [HV.out]
  first | rw [qt_pos g1] | rw [qt_no g1]
  first | rw [qt_pos g2] | rw [qt_no g2]
  first | rw [qt_pos g3] | rw [qt_no g3]
  simp
theorem share_any (a b c d e f:Int)(w:World) :
  Calls Tryz.prog 225 #[.agg #[.int .i64 a,.int .i64 b,.int .i64 c],.agg #[.int .i64 d,.int .i64 e,.int .i64 f]] w fun r w'=>r = .returned (.int .i64 (shN a b c d e f))/\Below w.heap.size w w':=by
 cases h:rB a b c && rB d e f
 ·exact (share_no a b c d e f w h).mono fun _ _ ⟨he,hw⟩=>⟨by rw [he];simp [shN,h],hw⟩
 ·simp only [Bool.and_eq_true] at h
  exact (share_in a b c d e f w h.1 h.2).mono fun _ _ ⟨he,hw⟩=>⟨by rw [he,shN_in h.1 h.2],hw⟩
end
section
open Go.RowKit
def sco (m:Mc)(ml:List Lb)(t:Kt)(tl:List Lb)(l:List Jb):Option Int:=
 if why m ml t tl l=0 then some (shN ((freM m l).1 - t.a) ((freM m l).2.1 - t.b) ((freM m l).2.2.1 - t.c) m.a m.b m.c) else none
section
variable {m:Mc}{ml:List Lb}{t:Kt}{tl:List Lb}{l:List Jb}
theorem sco_no (h:why m ml t tl l ≠ 0):sco m ml t tl l=none:=if_neg h
theorem sco_yes (h:why m ml t tl l=0):∃ p q s,freM m l=(p,q,s,0)/\sco m ml t tl l=some (shN (p - t.a) (q - t.b) (s - t.c) m.a m.b m.c)/\sbB p q s t.a t.b t.c=true/\sbE p q s t.a t.b t.c=0:=by
 obtain ⟨p,q,s,hf,_,h1,h2,_⟩:=room h
 refine ⟨p,q,s,hf,?_,h1,h2⟩
 unfold sco
 rw [if_pos h,hf]
end
end
section
open Go.RowKit
abbrev En:=ByteArray × Int
def bef (x y:En):Bool:=decide (y.2<x.2) || (decide (y.2=x.2) && sL y.1 x.1)
def insE (x:En)(E:List En):List En:=E.takeWhile (bef x) ++ x :: E.dropWhile (bef x)
def entry (t:Kt)(tl:List Lb)(l:List Jb)(m:Ml):Option En:=(sco m.1 m.2 t tl l).map fun s=>(m.1.nm,s)
def srt (t:Kt)(tl:List Lb)(l:List Jb)(L:List Ml):List En:=L.foldl (fun E m=>match entry t tl l m with | some x=>insE x E | none=>E) []
section
variable {t:Kt}{tl:List Lb}{l:List Jb}{L:List Ml}{k:Nat}
end
abbrev nms (E:List En):List ByteArray:=E.map Prod.fst
end
section
open Go.RowKit
def encE (x:En):List Value:=[.string x.1,.int .i64 x.2]
def cellsE (l:List En):List (List Value):=l.map encE
theorem cellsE_length (l:List En):(cellsE l).length=l.length:=by simp [cellsE]
theorem cellsE_append (l m:List En):cellsE (l ++ m)=cellsE l ++ cellsE m:=by simp [cellsE]
theorem encE_len (x:En):(encE x).length=2:=rfl
theorem encE_one (x:En):∀ u ∈ encE x,u.oneCell' = true:=by
 intro u hu
 simp [encE] at hu
 rcases hu with rfl | rfl <;> rfl
theorem infoE:(Tryz.prog.info? 246).map (fun i=>(i.zero,i.size,i.bytes))=some (some (.agg #[.string ⟨#[]⟩,.int .i64 0]),2,24):=by kernel_rfl
def RdE (w:World)(A:Option Addr)(l:List En):Prop:=RdK w 2 A (cellsE l)
theorem RdE.later {w w':World}{A:Option Addr}{l:List En}(h:RdE w A l)(hb:Below w.heap.size w w'):RdE w' A l:=RdK.later h hb
theorem RdE.at {w:World}{A:Option Addr}{l:List En}(h:RdE w A l){i:Nat}(hi:i<l.length):∃ g o,A=some ⟨g,o,none⟩/\g<w.heap.size/\w.rangeAt g (o+i * 2) [.string l[i].1,.int .i64 l[i].2]:=by
 obtain ⟨g,o,ha,hr⟩:=RdK.at h (i:=i) (by rw [cellsE_length];exact hi)
 have hr':w.rangeAt g (o+i * 2) [.string l[i].1,.int .i64 l[i].2]:=by have h2:=hr;simp only [cellsE,List.getElem_map] at h2;exact h2
 exact ⟨g,o,ha,range_lt hr' (by show 0<2;omega),hr'⟩
def RetE (b:Nat)(w:World)(e:Ending)(l:List En):Prop:=∃ v,e = .returned v/\OwnK w b 246 2 v (cellsE l)
def able (t:Kt)(tl:List Lb)(l:List Jb)(L:List Ml):List En:=L.filterMap (entry t tl l)
section
variable {t:Kt}{tl:List Lb}{l:List Jb}{L:List Ml}{k:Nat}
theorem able_no (h:k<L.length)(he:sco L[k].1 L[k].2 t tl l=none):able t tl l (L.take (k+1))=able t tl l (L.take k):=by
 unfold able
 rw [List.take_succ_eq_append_getElem h,List.filterMap_append]
 simp [entry,he]
theorem able_yes (h:k<L.length){s:Int}(he:sco L[k].1 L[k].2 t tl l=some s):able t tl l (L.take (k+1))=able t tl l (L.take k) ++ [(L[k].1.nm,s)]:=by
 unfold able
 rw [List.take_succ_eq_append_getElem h,List.filterMap_append]
 simp [entry,he]
theorem able_len (L:List Ml):(able t tl l L).length<=L.length:=List.length_filterMap_le _ _
end
end
end Go.Proofs.YtccccbofcnmdiaaGreat
